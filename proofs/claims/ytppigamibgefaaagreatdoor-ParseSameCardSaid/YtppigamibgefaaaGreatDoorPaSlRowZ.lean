/- How great a text's query is; queries that are the same but for places. The reader's errors have numbers. The law ParseSame, walked: true at any two texts. The law ParseSame, in the row's words. PROVED: the card of ParseSame: at every input, in whatever memory that meets the row's listed variables (which the card ties to the program's text), the call returns true and its arguments read as they did. No condition of our own. -/
import Derived.Test.YtppigamibgefaaaGreatDoorPaSkZ
import Derived.Test.YtppigamibgefaaaGreatDoorZp14
import Derived.Test.YtppigamibgefaaaGreatDoorZp20
import Derived.Test.YtppigamibgefaaaGreatDoorZp11
import Derived.Test.YtppigamibgefaaaGreatDoorZp18
import Derived.Test.YtppigamibgefaaaGreatDoorZp30
import Derived.Test.YtppigamibgefaaaGreatDoorPaVxZ
import Derived.Deep.RegionHeld
import Derived.Test.YtppigamibgefaaaGreatDoorZp16
import Derived.Test.YtppigamibgefaaaGreatDoorCards
import Derived.Test.YtppigamibgefaaaGreatDoorTie
import Derived.SevenTiedAt
namespace Go.Proofs.YtppigamibgefaaaGreatDoor
open Go.RowKit

theorem itemsQ_len (s : RS) : (itemsQ s).2.2.length ≤ 8 := by
  unfold itemsQ
  split
  · simp
  · exact listF_len 8 itemL 9 s [] (by simp)
theorem groupQ_len (s : RS) : (groupQ s).2.length ≤ 8 := by
  unfold groupQ
  split
  · exact listF_len 8 columnL 9 _ [] (by simp)
  · simp
theorem orderQ_len (s : RS) : (orderQ s).2.length ≤ 8 := by
  unfold orderQ
  split
  · exact listF_len 8 keyL 9 _ [] (by simp)
  · simp
theorem parse_bounds {T : ByteArray} {q : Qry} (h : parseL T = .ok q) : q.cond.n ≤ 1000 ∧ q.items.length ≤ 1000000 ∧ q.group.length ≤ 1000000 ∧ q.order.length ≤ 1000000 := by
  unfold parseL at h
  cases hl : lexL T with
  | error e => rw [hl] at h; simp at h
  | ok l =>
    rw [hl] at h
    simp only at h
    cases he : (queryL ⟨l, none⟩).1.err with
    | some e => rw [he] at h; simp at h
    | none =>
      rw [he] at h
      simp only [Except.ok.injEq] at h
      obtain ⟨hok, hlen, _⟩ := lexL_ok T l hl
      have h1 := hok.nneed (t := bSel) (by decide)
      have h2 := h1.trans (itemsQ_next _ h1.1)
      have h3 := h2.trans (h2.1.nneed (t := bFrom) (by decide))
      have h4 := h3.trans h3.1.nname
      have h5 := whereQ_n _ h4.1
      have h6 := h4.2
      simp only at h6
      rw [← h]
      refine ⟨?_, ?_, ?_, ?_⟩
      · show (whereQ _).2.n ≤ 1000
        omega
      · exact Nat.le_trans (itemsQ_len _) (by decide)
      · exact Nat.le_trans (groupQ_len _) (by decide)
      · exact Nat.le_trans (orderQ_len _) (by decide)
theorem map_e_like : ∀ l m : List Itm, l.map Itm.e = m.map Itm.e → ItsLike l m
  | [], [], _ => ⟨rfl, by simp⟩
  | [], _ :: _, h => by simp at h
  | _ :: _, [], h => by simp at h
  | x :: l, y :: m, h => by
    simp only [List.map_cons, List.cons.injEq] at h
    obtain ⟨h1, h2⟩ := map_e_like l m h.2
    refine ⟨by simp [h1], fun i hi => ?_⟩
    cases i with
    | zero =>
      have := h.1
      simp only [Itm.e, Itm.mk.injEq, and_true] at this
      exact this
    | succ i => exact h2 i (by simpa using hi)
theorem map_k_like : ∀ l m : List Kyo, l.map Kyo.e = m.map Kyo.e → KysLike l m
  | [], [], _ => ⟨rfl, by simp⟩
  | [], _ :: _, h => by simp at h
  | _ :: _, [], h => by simp at h
  | x :: l, y :: m, h => by
    simp only [List.map_cons, List.cons.injEq] at h
    obtain ⟨h1, h2⟩ := map_k_like l m h.2
    refine ⟨by simp [h1], fun i hi => ?_⟩
    cases i with
    | zero =>
      have := h.1
      simp only [Kyo.e, Itm.e, Kyo.mk.injEq, Itm.mk.injEq, and_true] at this
      exact ⟨this.2, this.1⟩
    | succ i => exact h2 i (by simpa using hi)
/-- Queries whose trees without places are one are the same. -/
theorem like_of_e {x y : Qm} (h : x.e.e = y.e.e) : Qm.like x y := by
  simp only [Qm.e, Qry.e, Qry.mk.injEq] at h
  obtain ⟨h1, h2, h3, h4, h5, h6, h7⟩ := h
  exact ⟨h2, h3, h7, map_e_like _ _ h1, map_e_like _ _ h5, map_k_like _ _ h6, by rw [Pm.z, Pm.z, if_neg (by decide), if_neg (by decide)]; exact h4⟩
theorem itm_like_turn {x y : Itm} (h : Itm.like x y) : Itm.like y x := ⟨h.1.symm, h.2.symm⟩
theorem its_like_turn {l m : List Itm} (h : ItsLike l m) : ItsLike m l := ⟨h.1.symm, fun i hi => itm_like_turn (h.2 i (by rw [h.1]; exact hi))⟩
theorem Qm.like_turn {x y : Qm} (h : Qm.like x y) : Qm.like y x :=
  ⟨h.1.symm, h.2.1.symm, h.2.2.1.symm, its_like_turn h.2.2.2.1, its_like_turn h.2.2.2.2.1, ⟨h.2.2.2.2.2.1.1.symm, fun i hi => by
    have := h.2.2.2.2.2.1.2 i (by rw [h.2.2.2.2.2.1.1]; exact hi)
    exact ⟨this.1.symm, itm_like_turn this.2⟩⟩, h.2.2.2.2.2.2.symm⟩
end Go.Proofs.YtppigamibgefaaaGreatDoor
namespace Go.Proofs.YtppigamibgefaaaGreatDoor

def RS.nz (s : RS) : Prop := ∀ p, s.err = some p → p.2 ≠ 0
theorem RS.nz.wrong {s : RS} (h : s.nz) {c : Nat} (hc : c ≠ 0) : (s.wrong c).nz := by
  intro p hp
  simp only [RS.wrong, Option.some.injEq] at hp
  cases he : s.err with
  | none => rw [he] at hp; subst hp; exact hc
  | some q => rw [he] at hp; subst hp; exact h q he
theorem RS.nz.pass {s : RS} (h : s.nz) : s.pass.nz := h
theorem RS.nz.need {s : RS} (h : s.nz) (t : ByteArray) : (s.need t).nz := by
  unfold RS.need; split
  · exact h.pass
  · exact h.wrong (by decide)
theorem RS.nz.fin {s : RS} (h : s.nz) : s.fin.nz := by
  unfold RS.fin; split
  · exact h
  · exact h.wrong (by decide)
theorem RS.nz.name {s : RS} (h : s.nz) : s.name.1.nz := by
  unfold RS.name; split
  · exact h.pass
  · exact h.wrong (by decide)
theorem RS.nz.literal {s : RS} (h : s.nz) : s.literal.1.nz := by
  unfold RS.literal; split
  · exact h.pass
  · exact h.wrong (by decide)
theorem RS.nz.rel {s : RS} (h : s.nz) : s.rel.1.nz := by
  unfold RS.rel; split
  · exact h
  · exact h.pass
theorem listF_nz {β : Type} (most : Nat) (nx : RS → RS × β) (hn : ∀ s : RS, s.nz → (nx s).1.nz) : ∀ (f : Nat) (s : RS) (acc : List β), s.nz → (listF most nx f s acc).1.nz
  | 0, _, _, h => h
  | f + 1, s, acc, h => by
    rw [listF]
    split
    · exact h.wrong (by decide)
    · split
      · exact listF_nz most nx hn f _ _ (hn s h).pass
      · exact hn s h
theorem partsF_nz (word : ByteArray) (pf : RS → RS × Prd) (hn : ∀ s : RS, s.nz → (pf s).1.nz) : ∀ (f : Nat) (s : RS) (acc : List Prd), s.nz → (partsF word pf f s acc).1.nz
  | 0, _, _, h => h
  | f + 1, s, acc, h => by
    rw [partsF]
    split
    · exact partsF_nz word pf hn f _ _ (hn _ h.pass)
    · exact h
theorem partsL_nz (kind : Nat) (word : ByteArray) (pf : RS → RS × Prd) (hn : ∀ s : RS, s.nz → (pf s).1.nz) (s : RS) (h : s.nz) : (partsL kind word pf s).1.nz :=
  partsF_nz word pf hn _ _ _ (hn s h)
theorem amongL_nz (col : ByteArray) (pos : Nat) (s : RS) (h : s.nz) : (amongL col pos s).1.nz := by
  unfold amongL
  split
  · exact (listF_nz 12 RS.literal (fun _ h => h.literal) 13 _ [] (h.pass.need _)).need _
  · exact ((h.need _).literal.need _).literal
theorem nameP_nz (pos : Nat) (s : RS) (h : s.nz) : (nameP pos s).1.nz := by
  unfold nameP
  have h1 := h.name
  dsimp only
  generalize s.name.1 = u at *
  split
  · split
    · exact h1.pass.pass.need _
    · exact h1.pass.need _
  · split
    · exact amongL_nz _ _ _ h1.pass
    · split
      · exact amongL_nz _ _ _ h1.rel
      · split
        · exact h1.rel.name
        · exact h1.rel.literal
theorem litP_nz (pos : Nat) (s : RS) (h : s.nz) : (litP pos s).1.nz := by
  unfold litP
  have h1 := h.literal
  dsimp only
  generalize s.literal.1 = u at *
  split
  · unfold truthP
    dsimp only
    split
    · exact h1.rel
    · exact h1.rel.wrong (by decide)
  · split
    · exact h1.rel.name
    · exact h1.rel.literal
theorem oneF_nz : ∀ (d : Nat) (s : RS), s.nz → (oneF d s).1.nz
  | 0, s, h => h.wrong (by decide)
  | d + 1, s, h => by
    rw [oneF]
    split
    · exact oneF_nz d _ h.pass
    · split
      · exact (partsL_nz 9 bOr _ (fun s h => partsL_nz 8 bAnd _ (oneF_nz d) s h) _ h.pass).need _
      · split
        · exact nameP_nz _ _ h
        · exact litP_nz _ _ h
theorem anyF_nz (d : Nat) (s : RS) (h : s.nz) : (anyF d s).1.nz := partsL_nz 9 bOr _ (fun s h => partsL_nz 8 bAnd _ (oneF_nz d) s h) s h
theorem columnL_nz (s : RS) (h : s.nz) : (columnL s).1.nz := h.name
theorem itemL_nz (s : RS) (h : s.nz) : (itemL s).1.nz := by
  unfold itemL
  split
  · exact h.name
  · dsimp only
    split
    · exact (h.pass.need _).pass.need _
    · exact (h.pass.need _).name.need _
theorem keyL_nz (s : RS) (h : s.nz) : (keyL s).1.nz := by
  unfold keyL
  have h1 := itemL_nz s h
  dsimp only
  split
  · exact h1.pass
  · split
    · exact h1.pass
    · exact h1
theorem limitL_nz (s : RS) (h : s.nz) : (limitL s).1.nz := by
  unfold limitL
  split
  · dsimp only
    split
    · exact h.wrong (by decide)
    · exact h.pass
  · exact h.wrong (by decide)
theorem queryL_nz (s : RS) (h : s.nz) : (queryL s).1.nz := by
  have h1 : (itemsQ (s.need bSel)).1.nz := by
    unfold itemsQ
    split
    · exact (h.need _).pass
    · exact listF_nz 8 itemL itemL_nz 9 _ [] (h.need _)
  have h2 := (h1.need bFrom).name
  have h3 : ∀ u : RS, u.nz → (whereQ u).1.nz := fun u hu => by
    unfold whereQ; split
    · exact anyF_nz 20 _ hu.pass
    · exact hu
  have h4 : ∀ u : RS, u.nz → (groupQ u).1.nz := fun u hu => by
    unfold groupQ; split
    · exact listF_nz 8 columnL columnL_nz 9 _ [] (hu.pass.need _)
    · exact hu
  have h5 : ∀ u : RS, u.nz → (orderQ u).1.nz := fun u hu => by
    unfold orderQ; split
    · exact listF_nz 8 keyL keyL_nz 9 _ [] (hu.pass.need _)
    · exact hu
  have h6 : ∀ u : RS, u.nz → (limitQ u).1.nz := fun u hu => by
    unfold limitQ; split
    · exact limitL_nz _ hu.pass
    · exact hu
  exact (h6 _ (h5 _ (h4 _ (h3 _ h2)))).fin
end Go.Proofs.YtppigamibgefaaaGreatDoor
namespace Go.Proofs.YtppigamibgefaaaGreatDoor
open Go.RowKit

theorem parse_nz {T : ByteArray} {p c : Nat} (h : parseL T = .error (p, c)) : c ≠ 0 := by
  unfold parseL at h
  cases hl : lexL T with
  | error e =>
    rw [hl] at h
    simp only [Except.error.injEq] at h
    have := lexL_codes T p c (by rw [hl, h])
    omega
  | ok l =>
    rw [hl] at h
    simp only at h
    have hn := queryL_nz ⟨l, none⟩ (fun p hp => by cases hp)
    cases he : (queryL ⟨l, none⟩).1.err with
    | none => rw [he] at h; simp at h
    | some e =>
      rw [he] at h
      simp only [Except.error.injEq] at h
      have := hn e he
      rw [h] at this
      exact this
/-- What Parse answers, the error's number at hand. -/
theorem parse_uni {s : ByteArray} {w w' : World} {e : Ending} (h : ParseIs s w e w') : w.grownBy w' none ∧ ∃ (y : Qm) (p c : Nat), e = .returned (.tuple #[.agg y.c, .int .i64 p, .int .i64 c]) ∧ (c = 0 → parseL s = .ok y.e ∧ QmS (fun j => w.heap.size ≤ j) w' y) := by
  refine ⟨h.1, ?_⟩
  rcases h.2 with ⟨p, c, h1, h2⟩ | ⟨y, h1, h2, h3⟩
  · exact ⟨Qm.z 0, p, c, h2, fun e => absurd e (parse_nz h1)⟩
  · exact ⟨y, 0, 0, h2, fun _ => ⟨h1, h3⟩⟩
/-- A query stored in a new variable. -/
def put17 (w : World) (x : Qm) : World := (w.alloc (.cells (Qm.z 0).c 34)).setRow w.heap.size x.c
theorem put17_grown (w : World) (x : Qm) : w.grownBy (put17 w x) none := grown_thenX (World.grownBy_alloc w (.cells (Qm.z 0).c 34) none) (grown_setRow _ w.heap.size x.c) (fun j e => by cases e; exact Nat.le_refl _)
theorem put17_blk (w : World) (x : Qm) : (put17 w x).heap[w.heap.size]? = some (.cells x.c 34 (0, 0)) := setRow_heap _ _ (Qm.z 0).c _ _ _ (heap_alloc_new w (.cells (Qm.z 0).c 34))
theorem qm_range {W : World} {g : Nat} {x : Qm} (h : W.heap[g]? = some (.cells x.c 34 (0, 0))) : W.rangeAt g 0 x.l := fun j u hj => by
  rw [Nat.zero_add, cell_of_row _ _ j _ _ _ h]
  simpa [Qm.c] using hj
theorem qm_range3 {W : World} {g : Nat} {x : Qm} (h : W.heap[g]? = some (.cells x.c 34 (0, 0))) : W.rangeAt g 3 x.cond.c := fun j u hj => by
  rw [cell_of_row _ _ _ _ _ _ h]; exact x.at3 j u hj
theorem qm_info (x : Qm) : (Tryz.prog.info? 34).map (·.size) = some x.l.length := by
  have : x.l.length = 17 := by have := x.c_size; simpa [Qm.c] using this
  rw [this]; exact query_size
theorem pm_info (x : Pm) : (Tryz.prog.info? 31).map (·.size) = some x.c.length := by
  rw [Pm.c_len]; exact pred_size
set_option maxRecDepth 100000 in
set_option maxHeartbeats 3200000 in
/-- Where a text is long. -/
theorem same_long (G : Nat) (n g m l : Addr) (s t : ByteArray) (w : World) (hE : LxEnv G n g m l w) (hs : 700 < s.size ∨ 700 < t.size) (hs2 : s.size ≤ 9223372036854775807) (ht2 : t.size ≤ 9223372036854775807) :
    Calls Tryz.prog 3 #[.string s, .string t] w fun e w' => e = .returned (.bool true) ∧ w.grownBy w' none := by
  have HA := Lib.hid (fun W (hW : w.grownBy W none) => awake11_any G n g m l W (hE.keep hW))
  clear hE
  by_cases h1 : 700 < s.size
  · have i1 : (700 : Int) < s.size := by omega
    clear hs
    go_enter Tryz.func3, Tryz.ntmps3
    go_wp2_with fail
    refine (HA.out _ (grown_reflX _ _)).mono ?_
    rintro e w1 ⟨rfl, hg⟩
    have K1 := Lib.hid hg
    clear hg
    go_wp2_with fail
    refine (HA.out _ K1.out).mono ?_
    rintro e w2 ⟨rfl, hg⟩
    have K2 := Lib.hid (K1.out.trans hg)
    clear hg
    go_wp2_with fail
    go_ret
    exact ⟨rfl, K2.out⟩
  · have i0 : ¬ (700 : Int) < s.size := by omega
    have i1 : (700 : Int) < t.size := by omega
    clear hs
    go_enter Tryz.func3, Tryz.ntmps3
    go_wp2_with fail
    refine (HA.out _ (grown_reflX _ _)).mono ?_
    rintro e w1 ⟨rfl, hg⟩
    have K1 := Lib.hid hg
    clear hg
    go_wp2_with fail
    refine (HA.out _ K1.out).mono ?_
    rintro e w2 ⟨rfl, hg⟩
    have K2 := Lib.hid (K1.out.trans hg)
    clear hg
    go_wp2_with fail
    go_ret
    exact ⟨rfl, K2.out⟩
set_option maxRecDepth 100000 in
set_option maxHeartbeats 12800000 in
theorem same_short (G : Nat) (n g m l : Addr) (s t : ByteArray) (w : World) (hE : LxEnv G n g m l w) (hs : s.size ≤ 700) (ht : t.size ≤ 700) :
    Calls Tryz.prog 3 #[.string s, .string t] w fun e w' => e = .returned (.bool true) ∧ w.grownBy w' none := by
  have HA := Lib.hid (fun W (hW : w.grownBy W none) => awake11_any G n g m l W (hE.keep hW))
  have HP := Lib.hid (fun T W (hW : w.grownBy W none) => parse_any G n g m l T W (hE.keep hW))
  have i0 : ¬ (700 : Int) < s.size := by omega
  have i1 : ¬ (700 : Int) < t.size := by omega
  clear hE
  go_enter Tryz.func3, Tryz.ntmps3
  go_wp2_with fail
  refine (HA.out _ (grown_reflX _ _)).mono ?_
  rintro e w1 ⟨rfl, hg⟩
  have K1 := Lib.hid hg
  clear hg HA
  go_wp2_with fail
  refine (HP.out _ _ K1.out).mono ?_
  intro e w2 h
  obtain ⟨hg, X, pX, c1, rfl, hX⟩ := parse_uni h
  have HX := Lib.hid hX
  have Ew2 := Lib.hid hg
  clear h hX hg
  go_upto_region 4 with (refine wpList_store_row rfl 34 (.tmp 5) (.tmp 31) rfl w2.heap.size X.c rfl rfl 34 (Qm.z 0).c (heap_alloc_new w2 (.cells (Qm.z 0).c 34)) (by rw [Qm.c_size]; exact query_size) (by rw [Qm.c_size, Qm.c_size]) (Qm.c_all _) ?_)
  obtain ⟨w3, hw⟩ : ∃ w', w' = put17 w2 X := ⟨_, rfl⟩
  have Pw3 := Lib.hid (put17_blk w2 X)
  have Dw3 := Lib.hid (put17_grown w2 X)
  change Code.wp _ _ _ _ (put17 w2 X)
  rw [← hw] at Pw3 Dw3 ⊢
  clear hw
  have Kw3 := Lib.hid (K1.out.trans (Ew2.out.trans Dw3.out))
  go_wp2_with fail
  refine (HP.out _ _ Kw3.out).mono ?_
  intro e w4 h
  obtain ⟨hg, Y, pY, c2, rfl, hY⟩ := parse_uni h
  have HY := Lib.hid hY
  have Ew4 := Lib.hid hg
  clear h hY hg
  go_upto_region 5 with (refine wpList_store_row rfl 34 (.tmp 8) (.tmp 37) rfl w4.heap.size Y.c rfl rfl 34 (Qm.z 0).c (heap_alloc_new w4 (.cells (Qm.z 0).c 34)) (by rw [Qm.c_size]; exact query_size) (by rw [Qm.c_size, Qm.c_size]) (Qm.c_all _) ?_)
  obtain ⟨w5, hw⟩ : ∃ w', w' = put17 w4 Y := ⟨_, rfl⟩
  have Pw5 := Lib.hid (put17_blk w4 Y)
  have Dw5 := Lib.hid (put17_grown w4 Y)
  change Code.wp _ _ _ _ (put17 w4 Y)
  rw [← hw] at Pw5 Dw5 ⊢
  clear hw
  have Kw5 := Lib.hid (Kw3.out.trans (Ew4.out.trans Dw5.out))
  by_cases h1 : c1 = 0
  · subst h1
    by_cases h2 : c2 = 0
    · subst h2
      obtain ⟨hX, sX⟩ := HX.out rfl
      obtain ⟨hY, sY⟩ := HY.out rfl
      have g5 : w3.grownBy w5 none := Ew4.out.trans Dw5.out
      have sX := Lib.hid (sX.keep (.of (Dw3.out.trans g5)))
      have sY := Lib.hid (sY.keep (.of Dw5.out))
      have PX := Lib.hid (blk_grown g5 Pw3.out)
      have PY := Pw5
      have HTp := Lib.hid (fun (T : ByteArray) (hT : T.data.toList = [32, 10] ++ (s.data.toList ++ [32])) => parse_blanks s T X.e hX (by omega) hT)
      have bX : Hid (X.cond.n ≤ 1000 ∧ X.items.length ≤ 1000000 ∧ X.group.length ≤ 1000000 ∧ X.order.length ≤ 1000000) := Lib.hid ⟨by rw [Pm.n_e]; exact (parse_bounds hX).1, (parse_bounds hX).2⟩
      have bY : Hid (Y.cond.n ≤ 1000 ∧ Y.items.length ≤ 1000000 ∧ Y.group.length ≤ 1000000 ∧ Y.order.length ≤ 1000000) := Lib.hid ⟨by rw [Pm.n_e]; exact (parse_bounds hY).1, (parse_bounds hY).2⟩
      clear hX hY g5 HX HY Pw3 Dw3 Ew2 Ew4 Dw5 K1 Kw3
      go_wp2_with fail
      refine (HP.out _ _ Kw5.out).mono ?_
      intro e w6 h
      obtain ⟨y2, hy2, he2⟩ := HTp.out ((⟨#[32, 10]⟩ : ByteArray) ++ s ++ ⟨#[32]⟩) (by simp)
      have h : w5.grownBy w6 none ∧ ∃ Z : Qm, Z.e.e = X.e.e ∧ e = .returned (.tuple #[.agg Z.c, .int .i64 0, .int .i64 0]) ∧ QmS (fun j => w5.heap.size ≤ j) w6 Z := by
        refine ⟨h.1, ?_⟩
        rcases h.2 with ⟨p, c, h1, _⟩ | ⟨Z, h1, h2, h3⟩
        · rw [hy2] at h1; cases h1
        · rw [hy2] at h1
          simp only [Except.ok.injEq] at h1
          exact ⟨Z, by rw [← h1]; exact he2, h2, h3⟩
      obtain ⟨hg, Z, hZ, rfl, sZ⟩ := h
      have HZ := Lib.hid (And.intro hZ sZ)
      have Ew6 := Lib.hid hg
      clear hZ sZ hg hy2 he2 HTp
      go_upto_region 8 with (refine wpList_store_row rfl 34 (.tmp 11) (.tmp 51) rfl w6.heap.size Z.c rfl rfl 34 (Qm.z 0).c (heap_alloc_new w6 (.cells (Qm.z 0).c 34)) (by rw [Qm.c_size]; exact query_size) (by rw [Qm.c_size, Qm.c_size]) (Qm.c_all _) ?_)
      obtain ⟨w7, hw⟩ : ∃ w', w' = put17 w6 Z := ⟨_, rfl⟩
      have Pw7 := Lib.hid (put17_blk w6 Z)
      have Dw7 := Lib.hid (put17_grown w6 Z)
      change Code.wp _ _ _ _ (put17 w6 Z)
      rw [← hw] at Pw7 Dw7 ⊢
      clear hw
      have g7 : w5.grownBy w7 none := Ew6.out.trans Dw7.out
      have Kw7 := Lib.hid (Kw5.out.trans g7)
      have PX := Lib.hid (blk_grown g7 PX.out)
      have PY := Lib.hid (blk_grown g7 PY.out)
      have tX := ((sX.out.keep (.of g7)).mono (S' := fun _ => True) (fun _ _ _ => trivial))
      have tY := ((sY.out.keep (.of g7)).mono (S' := fun _ => True) (fun _ _ _ => trivial))
      have tZ := ((HZ.out.2.keep (.of Dw7.out)).mono (S' := fun _ => True) (fun _ _ _ => trivial))
      have HR := Lib.hid (fun W (hW : w7.grownBy W none) => refSame_false _ X Y W (tX.keep (.of hW)) (tY.keep (.of hW)) bX.out.1 bX.out.2)
      have HS1 := Lib.hid (fun W (hW : w7.grownBy W none) => same_any _ X Y W (tX.keep (.of hW)) (tY.keep (.of hW)) bX.out.1 bX.out.2)
      have HS2 := Lib.hid (fun W (hW : w7.grownBy W none) => same_any _ Y X W (tY.keep (.of hW)) (tX.keep (.of hW)) bY.out.1 bY.out.2)
      have HS3 := Lib.hid (fun W (hW : w7.grownBy W none) => same_any _ X Z W (tX.keep (.of hW)) (tZ.keep (.of hW)) bX.out.1 bX.out.2)
      have HQ1 := Lib.hid (fun W (hW : w7.grownBy W none) => samePred_any _ X.cond Y.cond W (tX.keep (.of hW)).2.1 (tY.keep (.of hW)).2.1 bX.out.1)
      have HQ2 := Lib.hid (fun W (hW : w7.grownBy W none) => refSamePred_false _ 1000 X.cond Y.cond W bX.out.1 bX.out.1 (tX.keep (.of hW)).2.1 (tY.keep (.of hW)).2.1)
      have HT := Lib.hid (And.intro (Qm.like_turn (x := X) (y := Y)) (And.intro (Qm.like_turn (x := Y) (y := X)) (like_of_e HZ.out.1.symm)))
      unfold Pm.v at HQ1
      clear g7 tX tY tZ sX sY bX bY HZ Ew6 Dw7 Kw5 HP
      go_wp2_with (first
        | (refine wpList_load_row rfl 34 (.tmp 5) rfl w2.heap.size rfl 34 X.c (0, 0) _ PX.out Tryz.underlying34 rfl (by rw [Qm.c_size]; exact query_size) ?_)
        | (refine wpList_load_row rfl 34 (.tmp 8) rfl w4.heap.size rfl 34 Y.c (0, 0) _ PY.out Tryz.underlying34 rfl (by rw [Qm.c_size]; exact query_size) ?_))
      refine (HR.out _ (grown_reflX _ _)).mono ?_
      rintro e w8 ⟨⟨r, rfl, hr⟩, hg⟩
      have RR := Lib.hid hr
      have G8 := Lib.hid hg
      clear hr hg
      go_wp2_with fail
      refine wp_region_held_drew (S := (fun W => Hid (w7.grownBy W none))) (by kernel_rfl) (Lib.hid (G8.out.trans (grown_drewT (grown_reflX _ _)))) (fun hHeld => ?_)
      refine wpAnyH_take (i := 0) (v := .agg X.l.toArray) rfl (by kernel_rfl) (by kernel_rfl) (by kernel_rfl) (fun _ _ _ h => h) (yieldsIf_load_mid (by rfl) _ _ rfl w2.heap.size 0 rfl X.l _ (fun w hS => qm_range (blk_grown hS.out PX.out)) Tryz.underlying34 rfl (qm_info X)) (by assumption) ?_
      simp only [Act.put, List.getElem_toArray, List.getElem_cons_zero, List.size_toArray, List.length_cons, List.length_nil, Nat.reduceAdd, Array.replicate, List.replicate, List.setIfInBounds_toArray, List.set_cons_zero, List.set_cons_succ]
      refine wpAnyH_take (i := 1) (v := .agg Y.l.toArray) rfl (by kernel_rfl) (by kernel_rfl) (by kernel_rfl) (fun _ _ _ h => h) (yieldsIf_load_mid (by rfl) _ _ rfl w4.heap.size 0 rfl Y.l _ (fun w hS => qm_range (blk_grown hS.out PY.out)) Tryz.underlying34 rfl (qm_info Y)) (by assumption) ?_
      simp only [Act.put, List.getElem_toArray, List.getElem_cons_succ, List.getElem_cons_zero, List.setIfInBounds_toArray, List.set_cons_zero, List.set_cons_succ]
      refine wpAnyH_take (i := 3) (v := ?vq3) rfl (by kernel_rfl) (by kernel_rfl) (by kernel_rfl) (fun _ _ _ h => h) (Or.inl ⟨by rfl, ?yq3⟩) (by assumption) ?rq3
      case yq3 => (intro w hSw; (try dsimp only at hSw); go_simp; try with_reducible rfl)
      simp only [Act.put, List.getElem_toArray, List.getElem_cons_succ, List.getElem_cons_zero, List.setIfInBounds_toArray, List.set_cons_zero, List.set_cons_succ]
      refine wpAnyH_ready (rs := [2]) (by kernel_rfl) (by simp) ?_
      refine AllReadyH.cons rfl (fun K' hK => ?_) AllReadyH.nil
      go_simp
      go_at_call 15
      refine (HS1.out _ (G8.out.trans (grown_drewT (grown_reflX _ _)))).mono ?_
      rintro e w9 ⟨⟨r1, rfl, hr1⟩, hg⟩
      obtain rfl : r1 = r := Bool.eq_iff_iff.2 (hr1.trans RR.out.symm)
      have Z9 := Lib.hid ((G8.out.trans (grown_drewT (grown_reflX _ _))).trans hg)
      clear hg hr1
      refine hK.out _ _ Z9 (fun hHeld => ?_)
      clear hK K'
      simp only [List.setIfInBounds_toArray, List.set_cons_zero, List.set_cons_succ]
      refine wpAnyH_take (i := 4) (v := ?vq4) rfl (by kernel_rfl) (by kernel_rfl) (by kernel_rfl) (fun _ _ _ h => h) (Or.inl ⟨by rfl, ?yq4⟩) (by assumption) ?rq4
      case yq4 => (intro w hSw; (try dsimp only at hSw); go_simp; try with_reducible rfl)
      simp only [Act.put, List.getElem_toArray, List.getElem_cons_succ, List.getElem_cons_zero, List.setIfInBounds_toArray, List.set_cons_zero, List.set_cons_succ]
      refine wpAnyH_take (i := 5) (v := ?vq5) rfl (by kernel_rfl) (by kernel_rfl) (by kernel_rfl) (fun _ _ _ h => h) (Or.inl ⟨by rfl, ?yq5⟩) (by assumption) ?rq5
      case yq5 => (intro w hSw; (try dsimp only at hSw); go_simp; try with_reducible rfl)
      simp only [Act.put, List.getElem_toArray, List.getElem_cons_succ, List.getElem_cons_zero, List.setIfInBounds_toArray, List.set_cons_zero, List.set_cons_succ]
      refine wpAnyH_take (i := 6) (v := .agg Y.l.toArray) rfl (by kernel_rfl) (by kernel_rfl) (by kernel_rfl) (fun _ _ _ h => h) (yieldsIf_load_mid (by rfl) _ _ rfl w4.heap.size 0 rfl Y.l _ (fun w hS => qm_range (blk_grown hS.out PY.out)) Tryz.underlying34 rfl (qm_info Y)) (by assumption) ?_
      simp only [Act.put, List.getElem_toArray, List.getElem_cons_succ, List.getElem_cons_zero, List.setIfInBounds_toArray, List.set_cons_zero, List.set_cons_succ]
      refine wpAnyH_take (i := 7) (v := .agg X.l.toArray) rfl (by kernel_rfl) (by kernel_rfl) (by kernel_rfl) (fun _ _ _ h => h) (yieldsIf_load_mid (by rfl) _ _ rfl w2.heap.size 0 rfl X.l _ (fun w hS => qm_range (blk_grown hS.out PX.out)) Tryz.underlying34 rfl (qm_info X)) (by assumption) ?_
      simp only [Act.put, List.getElem_toArray, List.getElem_cons_succ, List.getElem_cons_zero, List.setIfInBounds_toArray, List.set_cons_zero, List.set_cons_succ]
      refine wpAnyH_take (i := 9) (v := ?vq9) rfl (by kernel_rfl) (by kernel_rfl) (by kernel_rfl) (fun _ _ _ h => h) (Or.inl ⟨by rfl, ?yq9⟩) (by assumption) ?rq9
      case yq9 => (intro w hSw; (try dsimp only at hSw); go_simp; try with_reducible rfl)
      simp only [Act.put, List.getElem_toArray, List.getElem_cons_succ, List.getElem_cons_zero, List.setIfInBounds_toArray, List.set_cons_zero, List.set_cons_succ]
      refine wpAnyH_ready (rs := [8]) (by kernel_rfl) (by simp) ?_
      refine AllReadyH.cons rfl (fun K' hK => ?_) AllReadyH.nil
      go_simp
      go_at_call 15
      refine (HS2.out _ Z9.out).mono ?_
      rintro e w10 ⟨⟨r2, rfl, hr2⟩, hg⟩
      obtain rfl : r2 = r1 := Bool.eq_iff_iff.2 (hr2.trans (Iff.trans ⟨HT.out.2.1, HT.out.1⟩ RR.out.symm))
      have Z10 := Lib.hid (Z9.out.trans hg)
      clear hg hr2
      refine hK.out _ _ Z10 (fun hHeld => ?_)
      clear hK K'
      simp only [List.setIfInBounds_toArray, List.set_cons_zero, List.set_cons_succ]
      refine wpAnyH_take (i := 10) (v := ?vq10) rfl (by kernel_rfl) (by kernel_rfl) (by kernel_rfl) (fun _ _ _ h => h) (Or.inl ⟨by rfl, ?yq10⟩) (by assumption) ?rq10
      case yq10 => (intro w hSw; (try dsimp only at hSw); go_simp; try with_reducible rfl)
      simp only [Act.put, List.getElem_toArray, List.getElem_cons_succ, List.getElem_cons_zero, List.setIfInBounds_toArray, List.set_cons_zero, List.set_cons_succ]
      refine wpAnyH_take (i := 11) (v := ?vq11) rfl (by kernel_rfl) (by kernel_rfl) (by kernel_rfl) (fun _ _ _ h => h) (Or.inl ⟨by rfl, ?yq11⟩) (by assumption) ?rq11
      case yq11 => (intro w hSw; (try dsimp only at hSw); go_simp; try with_reducible rfl)
      simp only [Act.put, List.getElem_toArray, List.getElem_cons_succ, List.getElem_cons_zero, List.setIfInBounds_toArray, List.set_cons_zero, List.set_cons_succ]
      refine wpAnyH_take (i := 12) (v := ?vq12) rfl (by kernel_rfl) (by kernel_rfl) (by kernel_rfl) (fun _ _ _ h => h) (Or.inl ⟨by rfl, ?yq12⟩) (by assumption) ?rq12
      case yq12 => (intro w hSw; (try dsimp only at hSw); go_simp; try with_reducible rfl)
      simp only [Act.put, List.getElem_toArray, List.getElem_cons_succ, List.getElem_cons_zero, List.setIfInBounds_toArray, List.set_cons_zero, List.set_cons_succ]
      refine wpAnyH_take (i := 13) (v := ?vq13) rfl (by kernel_rfl) (by kernel_rfl) (by kernel_rfl) (fun _ _ _ h => h) (Or.inl ⟨by rfl, ?yq13⟩) (by assumption) ?rq13
      case yq13 => (intro w hSw; (try dsimp only at hSw); go_simp; try with_reducible rfl)
      simp only [Act.put, List.getElem_toArray, List.getElem_cons_succ, List.getElem_cons_zero, List.setIfInBounds_toArray, List.set_cons_zero, List.set_cons_succ]
      refine wpAnyH_take (i := 14) (v := .agg X.cond.c.toArray) rfl (by kernel_rfl) (by kernel_rfl) (by kernel_rfl) (fun _ _ _ h => h) (yieldsIf_load_mid (by rfl) _ _ rfl w2.heap.size 3 rfl X.cond.c _ (fun w hS => qm_range3 (blk_grown hS.out PX.out)) Tryz.underlying31 rfl (pm_info X.cond)) (by assumption) ?_
      simp only [Act.put, List.getElem_toArray, List.getElem_cons_succ, List.getElem_cons_zero, List.setIfInBounds_toArray, List.set_cons_zero, List.set_cons_succ]
      refine wpAnyH_take (i := 15) (v := ?vq15) rfl (by kernel_rfl) (by kernel_rfl) (by kernel_rfl) (fun _ _ _ h => h) (Or.inl ⟨by rfl, ?yq15⟩) (by assumption) ?rq15
      case yq15 => (intro w hSw; (try dsimp only at hSw); go_simp; try with_reducible rfl)
      simp only [Act.put, List.getElem_toArray, List.getElem_cons_succ, List.getElem_cons_zero, List.setIfInBounds_toArray, List.set_cons_zero, List.set_cons_succ]
      refine wpAnyH_take (i := 16) (v := .agg Y.cond.c.toArray) rfl (by kernel_rfl) (by kernel_rfl) (by kernel_rfl) (fun _ _ _ h => h) (yieldsIf_load_mid (by rfl) _ _ rfl w4.heap.size 3 rfl Y.cond.c _ (fun w hS => qm_range3 (blk_grown hS.out PY.out)) Tryz.underlying31 rfl (pm_info Y.cond)) (by assumption) ?_
      simp only [Act.put, List.getElem_toArray, List.getElem_cons_succ, List.getElem_cons_zero, List.setIfInBounds_toArray, List.set_cons_zero, List.set_cons_succ]
      refine wpAnyH_take (i := 18) (v := ?vq18) rfl (by kernel_rfl) (by kernel_rfl) (by kernel_rfl) (fun _ _ _ h => h) (Or.inl ⟨by rfl, ?yq18⟩) (by assumption) ?rq18
      case yq18 => (intro w hSw; (try dsimp only at hSw); go_simp; try with_reducible rfl)
      simp only [Act.put, List.getElem_toArray, List.getElem_cons_succ, List.getElem_cons_zero, List.setIfInBounds_toArray, List.set_cons_zero, List.set_cons_succ]
      refine wpAnyH_take (i := 19) (v := .agg X.cond.c.toArray) rfl (by kernel_rfl) (by kernel_rfl) (by kernel_rfl) (fun _ _ _ h => h) (yieldsIf_load_mid (by rfl) _ _ rfl w2.heap.size 3 rfl X.cond.c _ (fun w hS => qm_range3 (blk_grown hS.out PX.out)) Tryz.underlying31 rfl (pm_info X.cond)) (by assumption) ?_
      simp only [Act.put, List.getElem_toArray, List.getElem_cons_succ, List.getElem_cons_zero, List.setIfInBounds_toArray, List.set_cons_zero, List.set_cons_succ]
      refine wpAnyH_take (i := 20) (v := ?vq20) rfl (by kernel_rfl) (by kernel_rfl) (by kernel_rfl) (fun _ _ _ h => h) (Or.inl ⟨by rfl, ?yq20⟩) (by assumption) ?rq20
      case yq20 => (intro w hSw; (try dsimp only at hSw); go_simp; try with_reducible rfl)
      simp only [Act.put, List.getElem_toArray, List.getElem_cons_succ, List.getElem_cons_zero, List.setIfInBounds_toArray, List.set_cons_zero, List.set_cons_succ]
      refine wpAnyH_take (i := 21) (v := .agg Y.cond.c.toArray) rfl (by kernel_rfl) (by kernel_rfl) (by kernel_rfl) (fun _ _ _ h => h) (yieldsIf_load_mid (by rfl) _ _ rfl w4.heap.size 3 rfl Y.cond.c _ (fun w hS => qm_range3 (blk_grown hS.out PY.out)) Tryz.underlying31 rfl (pm_info Y.cond)) (by assumption) ?_
      simp only [Act.put, List.getElem_toArray, List.getElem_cons_succ, List.getElem_cons_zero, List.setIfInBounds_toArray, List.set_cons_zero, List.set_cons_succ]
      refine wpAnyH_ready (rs := [17]) (by kernel_rfl) (by simp) ?_
      refine AllReadyH.cons rfl (fun K' hK => ?_) AllReadyH.nil
      go_simp
      go_at_call 16
      refine (HQ1.out _ Z10.out).mono ?_
      rintro e w11 ⟨⟨q1, rfl, hq1⟩, hg⟩
      have Z11 := Lib.hid (Z10.out.trans hg)
      have RQ := Lib.hid hq1
      clear hg hq1
      refine hK.out _ _ Z11 (fun hHeld => ?_)
      clear hK K'
      simp only [List.setIfInBounds_toArray, List.set_cons_zero, List.set_cons_succ]
      refine wpAnyH_ready (rs := [22]) (by kernel_rfl) (by simp) ?_
      refine AllReadyH.cons rfl (fun K' hK => ?_) AllReadyH.nil
      go_simp
      go_at_call 17
      refine (HQ2.out _ Z11.out).mono ?_
      rintro e w12 ⟨⟨q2, rfl, hq2⟩, hg⟩
      obtain rfl : q2 = q1 := Bool.eq_iff_iff.2 (hq2.trans RQ.out.symm)
      have Z12 := Lib.hid (Z11.out.trans hg)
      clear hg hq2
      refine hK.out _ _ Z12 (fun hHeld => ?_)
      clear hK K'
      simp only [List.setIfInBounds_toArray, List.set_cons_zero, List.set_cons_succ]
      refine wpAnyH_take (i := 23) (v := ?vq23) rfl (by kernel_rfl) (by kernel_rfl) (by kernel_rfl) (fun _ _ _ h => h) (Or.inl ⟨by rfl, ?yq23⟩) (by assumption) ?rq23
      case yq23 => (intro w hSw; (try dsimp only at hSw); go_simp; try with_reducible rfl)
      simp only [Act.put, List.getElem_toArray, List.getElem_cons_succ, List.getElem_cons_zero, List.setIfInBounds_toArray, List.set_cons_zero, List.set_cons_succ]
      refine wpAnyH_take (i := 24) (v := ?vq24) rfl (by kernel_rfl) (by kernel_rfl) (by kernel_rfl) (fun _ _ _ h => h) (Or.inl ⟨by rfl, ?yq24⟩) (by assumption) ?rq24
      case yq24 => (intro w hSw; (try dsimp only at hSw); go_simp; try with_reducible rfl)
      simp only [Act.put, List.getElem_toArray, List.getElem_cons_succ, List.getElem_cons_zero, List.setIfInBounds_toArray, List.set_cons_zero, List.set_cons_succ]
      refine wpAnyH_take (i := 25) (v := ?vq25) rfl (by kernel_rfl) (by kernel_rfl) (by kernel_rfl) (fun _ _ _ h => h) (Or.inl ⟨by rfl, ?yq25⟩) (by assumption) ?rq25
      case yq25 => (intro w hSw; (try dsimp only at hSw); go_simp; try with_reducible rfl)
      simp only [Act.put, List.getElem_toArray, List.getElem_cons_succ, List.getElem_cons_zero, List.setIfInBounds_toArray, List.set_cons_zero, List.set_cons_succ]
      refine wpAnyH_take (i := 26) (v := ?vq26) rfl (by kernel_rfl) (by kernel_rfl) (by kernel_rfl) (fun _ _ _ h => h) (Or.inl ⟨by rfl, ?yq26⟩) (by assumption) ?rq26
      case yq26 => (intro w hSw; (try dsimp only at hSw); go_simp; try with_reducible rfl)
      simp only [Act.put, List.getElem_toArray, List.getElem_cons_succ, List.getElem_cons_zero, List.setIfInBounds_toArray, List.set_cons_zero, List.set_cons_succ]
      refine wpAnyH_take (i := 27) (v := ?vq27) rfl (by kernel_rfl) (by kernel_rfl) (by kernel_rfl) (fun _ _ _ h => h) (Or.inl ⟨by rfl, ?yq27⟩) (by assumption) ?rq27
      case yq27 => (intro w hSw; (try dsimp only at hSw); go_simp; try with_reducible rfl)
      simp only [Act.put, List.getElem_toArray, List.getElem_cons_succ, List.getElem_cons_zero, List.setIfInBounds_toArray, List.set_cons_zero, List.set_cons_succ]
      refine wpAnyH_take (i := 28) (v := ?vq28) rfl (by kernel_rfl) (by kernel_rfl) (by kernel_rfl) (fun _ _ _ h => h) (Or.inl ⟨by rfl, ?yq28⟩) (by assumption) ?rq28
      case yq28 => (intro w hSw; (try dsimp only at hSw); go_simp; try with_reducible rfl)
      simp only [Act.put, List.getElem_toArray, List.getElem_cons_succ, List.getElem_cons_zero, List.setIfInBounds_toArray, List.set_cons_zero, List.set_cons_succ]
      refine wpAnyH_take (i := 29) (v := ?vq29) rfl (by kernel_rfl) (by kernel_rfl) (by kernel_rfl) (fun _ _ _ h => h) (Or.inl ⟨by rfl, ?yq29⟩) (by assumption) ?rq29
      case yq29 => (intro w hSw; (try dsimp only at hSw); go_simp; try with_reducible rfl)
      simp only [Act.put, List.getElem_toArray, List.getElem_cons_succ, List.getElem_cons_zero, List.setIfInBounds_toArray, List.set_cons_zero, List.set_cons_succ]
      refine wpAnyH_take (i := 30) (v := .agg X.l.toArray) rfl (by kernel_rfl) (by kernel_rfl) (by kernel_rfl) (fun _ _ _ h => h) (yieldsIf_load_mid (by rfl) _ _ rfl w2.heap.size 0 rfl X.l _ (fun w hS => qm_range (blk_grown hS.out PX.out)) Tryz.underlying34 rfl (qm_info X)) (by assumption) ?_
      simp only [Act.put, List.getElem_toArray, List.getElem_cons_succ, List.getElem_cons_zero, List.setIfInBounds_toArray, List.set_cons_zero, List.set_cons_succ]
      refine wpAnyH_take (i := 31) (v := .agg Z.l.toArray) rfl (by kernel_rfl) (by kernel_rfl) (by kernel_rfl) (fun _ _ _ h => h) (yieldsIf_load_mid (by rfl) _ _ rfl w6.heap.size 0 rfl Z.l _ (fun w hS => qm_range (blk_grown hS.out Pw7.out)) Tryz.underlying34 rfl (qm_info Z)) (by assumption) ?_
      simp only [Act.put, List.getElem_toArray, List.getElem_cons_succ, List.getElem_cons_zero, List.setIfInBounds_toArray, List.set_cons_zero, List.set_cons_succ]
      refine wpAnyH_ready (rs := [32]) (by kernel_rfl) (by simp) ?_
      refine AllReadyH.cons rfl (fun K' hK => ?_) AllReadyH.nil
      go_simp
      go_at_call 15
      refine (HS3.out _ Z12.out).mono ?_
      rintro e w13 ⟨⟨q3, rfl, hq3⟩, hg⟩
      obtain rfl : q3 = true := hq3.2 HT.out.2.2
      have Z13 := Lib.hid (Z12.out.trans hg)
      clear hg hq3
      refine hK.out _ _ Z13 (fun hHeld => ?_)
      clear hK K'
      simp only [List.setIfInBounds_toArray, List.set_cons_zero, List.set_cons_succ]
      refine wpAnyH_take (i := 33) (v := ?vq33) rfl (by kernel_rfl) (by kernel_rfl) (by kernel_rfl) (fun _ _ _ h => h) (Or.inl ⟨by rfl, ?yq33⟩) (by assumption) ?rq33
      case yq33 => (intro w hSw; (try dsimp only at hSw); go_simp; try with_reducible rfl)
      simp only [Act.put, List.getElem_toArray, List.getElem_cons_succ, List.getElem_cons_zero, List.setIfInBounds_toArray, List.set_cons_zero, List.set_cons_succ]
      refine wpAnyH_take (i := 34) (v := ?vq34) rfl (by kernel_rfl) (by kernel_rfl) (by kernel_rfl) (fun _ _ _ h => h) (Or.inl ⟨by rfl, ?yq34⟩) (by assumption) ?rq34
      case yq34 => (intro w hSw; (try dsimp only at hSw); go_simp; try with_reducible rfl)
      simp only [Act.put, List.getElem_toArray, List.getElem_cons_succ, List.getElem_cons_zero, List.setIfInBounds_toArray, List.set_cons_zero, List.set_cons_succ]
      refine wpAnyH_done (by kernel_rfl) ?_ _
      go_wp2_with fail
      go_ret
      exact ⟨rfl, Kw7.out.trans Z13.out⟩
    · have e2 := nat_eqf h2
      have f2 : ((c2 : Int) != 0) = true := by rw [bne_iff_ne]; omega
      clear h2
      go_wp2_with fail
      go_ret
      exact ⟨rfl, Kw5.out⟩
  · have f1 : ((c1 : Int) != 0) = true := by rw [bne_iff_ne]; omega
    clear h1
    go_wp2_with fail
    go_ret
    exact ⟨rfl, Kw5.out⟩
end Go.Proofs.YtppigamibgefaaaGreatDoor
namespace Go.Proofs.YtppigamibgefaaaGreatDoor
open Go.RowKit
theorem ParseSame_any (s t : ByteArray) (W : World) (hs : s.size ≤ maxLen) (ht : t.size ≤ maxLen) (hL : laidMetH Tryz.prog laid10x W) : Calls Tryz.prog 3 #[.string s, .string t] W fun e W' => e = .returned (.bool true) ∧ Below W.heap.size W W' := by
  obtain ⟨n, g, m, l, hE⟩ := lxEnv_of hL
  have h1 : s.size ≤ 9223372036854775807 := Nat.le_trans hs (by decide)
  have h2 : t.size ≤ 9223372036854775807 := Nat.le_trans ht (by decide)
  by_cases hl : 700 < s.size ∨ 700 < t.size
  · exact (same_long _ n g m l s t W hE hl h1 h2).mono fun _ _ ⟨he, hg⟩ => ⟨he, below_grownL hg⟩
  · exact (same_short _ n g m l s t W hE (by omega) (by omega)).mono fun _ _ ⟨he, hg⟩ => ⟨he, below_grownL hg⟩
end Go.Proofs.YtppigamibgefaaaGreatDoor
namespace Go.Proofs.YtppigamibgefaaaGreatDoor
open Go.ChangeShapes Go.WideShapes Go.ChangeAt Go.RowKit Go.Joins
open Go.ChangeMaps (open_string shut_string)

set_option maxRecDepth 100000 in
theorem parseSame_lifted (os : Os) (started : os.Started) (H : Type) (enc : TypeId × Value → H) :
    ReturnsInHanded {} Tryz.checked os 3 .any (fun w args => (Rows.parseSameSpec.pre enc Tryz.prog Tryz.f3 [] false w args ∧ laidMetH Tryz.prog laid10x w) ∧ sizedMet enc Tryz.prog Tryz.f3 (OpenSpec.ofChange Rows.parseSameSpec) false w args)
      (Rows.parseSameSpec.post enc Tryz.prog Tryz.f3 false true false false) := by
  refine returnsInHanded_of_change_and (C := Tryz.checked) (X := fun w _ => laidMetH Tryz.prog laid10x w) (fun _ _ _ hh h => h.of_heap hh) own started (by kernel_rfl) Tryz.func3
    (ChangeSpec.witness_shaped (enc := enc) (C := Tryz.checked) (os := os) (X := fun w _ => laidMetH Tryz.prog laid10x w) false (World.doorLaid Tryz.prog 400 os) #[.string ⟨#[]⟩, .string ⟨#[]⟩] 8 rfl (World.shaped_of_RefB (by kernel_rfl) (by kernel_rfl)) (by kernel_rfl) (by kernel_rfl) (by kernel_rfl) (door_met10x os _)) ?_
  intro W base args ds gs before hval0 hW _ _ hL _
  have hval : ∀ (j : Nat) t v, Tryz.f3.params[j]? = some t → args[j]? = some v → Value.okWide Tryz.prog W .any base t v := hval0
  have hW' := hW
  obtain ⟨p, q, hA0, hV, rfl, hfz, hnd⟩ := hW
  have hA : DataW.TrodAll enc Tryz.prog W 0 (fun _ => true) true Tryz.f3.params.toList args.toList ds p := hA0
  rw [Tryz.params3] at hA hval
  obtain ⟨v0, v1, d0, d1, p0, p1, rfl, rfl, rfl, h0, h1⟩ := trodAll_two hA
  obtain ⟨rfl, rfl⟩ := trodVars_none hV
  obtain ⟨s0, rfl, rfl, rfl, hs0⟩ := open_string Tryz.underlying9 (hval 0 9 v0 rfl rfl) h0
  obtain ⟨s1, rfl, rfl, rfl, hs1⟩ := open_string Tryz.underlying9 (hval 1 9 v1 rfl rfl) h1
  clear hA0 hval0
  simp only [List.append_nil] at hW'
  refine (ParseSame_any s0 s1 W hs0 hs1 hL).mono fun e W' ⟨he, hb⟩ => ?_
  subst he
  exact ⟨_, rfl, _, _, _, [], _, [], hW', trodAll_mk1 (shut_bool Tryz.underlying4 _), trodAll_mk2 (shut_string Tryz.underlying9 hs0) (shut_string Tryz.underlying9 hs1), rfl, hb.frame _, fun h => by cases h⟩

theorem parseSame_holds : Rows.ParseSameSaid :=
  OpenClaim.holds_of_wide 3 Tryz.f3 rfl rfl rfl rfl rfl rfl rfl ⟨rfl, rfl, rfl, rfl, rfl⟩ rfl rfl rfl rfl rfl (by kernel_rfl) Tryz.func3 (by kernel_rfl)
    (of_decide_eq_true (by kernel_rfl)) (by unfold Func.isWrapper; first | (rw [if_pos (by decide +kernel)]; kernel_rfl) | (rw [if_neg (by decide +kernel)]; exact ⟨rfl, rfl⟩))
    (fun os started H enc _ => parseSame_lifted os started H enc)

theorem parseSame_card : Rows.ParseSameCardSaid :=
  Claim7.holds_tied_plain_at .later [] [.data, .data, .data, .handle, .sentinel, .sentinel, .sentinel, .sentinel, .sentinel, .sentinel] true Rows.parseSameCard.stood.harness true
    parseSame_holds (fun _ h => by cases h) (by kernel_rfl) (fun _ h => by cases h) parseSame_row_tie rfl ⟨rfl, rfl⟩ (by kernel_rfl) rfl
    (fun f fn hf hfn => by
      obtain rfl : f = 3 := Option.some.inj ((show Tryz.prog.funcNamed "stillroom/stillroomlaw11.ParseSame" = some 3 by kernel_rfl).symm.trans hf) |>.symm
      obtain rfl : fn = Tryz.f3 := (Option.some.inj (Tryz.func3.symm.trans hfn)).symm
      exact ⟨by kernel_rfl, fun j t ht => by
        rw [Tryz.params3] at ht
        have hm : t ∈ [9, 9] := by simpa using Array.mem_of_getElem? ht
        have hall : ([9, 9].all fun u => !Tryz.prog.wantsStandIn u) = true := by kernel_rfl
        exact (show Tryz.prog.wantsStandIn t = false by simpa using List.all_eq_true.1 hall t hm)⟩)
    (by kernel_rfl)
#print axioms parseSame_card
end Go.Proofs.YtppigamibgefaaaGreatDoor
