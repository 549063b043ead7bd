/- What lex's tokens are for the reader. Layer 10's fixed fact. The reader's literals, comparisons, and lists. -/
import Derived.Test.YtjaclmoobfeikaaGreatDoorZl21
import Derived.Test.YtjaclmoobfeikaaGreatDoorZl12
import Derived.Test.YtjaclmoobfeikaaGreatDoorZl22
import Derived.Deep.DeepCutAuto
import Derived.OwnWalk
namespace Go.Proofs.YtjaclmoobfeikaaGreatDoor
open Go.RowKit

/-- A token ahead of the end. -/
def TkOk (t : Tk) : Prop := t.kind ≠ 0 ∧ t.text ≠ ⟨#[]⟩ ∧ t.text.size ≤ 1510
theorem lexF_okP (s : ByteArray) (hs : s.size ≤ 1500) : ∀ (f k : Nat) (acc l : List Tk), acc.length ≤ 250 → (∀ t ∈ acc, TkOk t) → k ≤ s.size → s.size + 1 ≤ f + k → lexF s f k acc = .ok l →
    ∃ fr last, l = fr ++ [last] ∧ last.kind = 0 ∧ last.text = ⟨#[]⟩ ∧ fr.length ≤ 250 ∧ ∀ t ∈ fr, TkOk t
  | 0, k, acc, l, _, _, hk, hf, _ => by omega
  | f + 1, k, acc, l, ha, hA, hk, hf, h => by
    have hr := lexF_round s f k acc
    by_cases he : nxt s k = s.size
    · rw [hr.1 he] at h
      cases h
      exact ⟨acc, _, rfl, rfl, rfl, ha, hA⟩
    · cases ht : tokL (s.data.toList.drop (nxt s k)) with | mk kd NC =>
      obtain ⟨N, c⟩ := NC
      have h2 := hr.2 he kd N c ht
      by_cases h0 : c = 0
      · subst h0
        by_cases hl : acc.length = 250
        · rw [h2.2.1 rfl hl] at h; cases h
        · rw [h2.2.2 rfl hl] at h
          obtain ⟨t1, t2, _⟩ := tokL_len _ _ _ _ ht
          have t2 := t2 rfl
          rw [List.length_drop] at t1
          have hz : s.data.toList.length = s.size := rfl
          have hn : k ≤ nxt s k := Nat.le_add_right _ _
          have hx : (s.extract (nxt s k) (nxt s k + N)).size = N := by rw [ByteArray.size_extract]; omega
          refine lexF_okP s hs f _ _ l (by simp; omega) (fun t ht' => ?_) (by omega) (by omega) h
          rcases List.mem_append.1 ht' with ht' | ht'
          · exact hA t ht'
          · obtain rfl : t = _ := by simpa using ht'
            refine ⟨tokL_kind _ _ _ ht, fun e => ?_, ?_⟩
            · simp only at e
              rw [e] at hx
              have : (⟨#[]⟩ : ByteArray).size = 0 := rfl
              omega
            · simp only
              omega
      · rw [h2.1 h0] at h; cases h
theorem lexL_ok (s : ByteArray) (l : List Tk) (h : lexL s = .ok l) : (⟨l, Option.none⟩ : RS).ok ∧ l.length ≤ 251 ∧ ∀ t ∈ l, t.text.size ≤ 1510 := by
  unfold lexL at h
  split at h
  · cases h
  · obtain ⟨fr, la, rfl, h1, h2, h3, h4⟩ := lexF_okP s (by omega) _ 0 [] l (by simp) (by simp) (by omega) (by omega) h
    refine ⟨⟨fr, la, rfl, h1, h2, fun t ht => ⟨(h4 t ht).1, (h4 t ht).2.1⟩⟩, by simp; omega, fun t ht => ?_⟩
    rcases List.mem_append.1 ht with ht | ht
    · exact (h4 t ht).2.2
    · obtain rfl : t = la := by simpa using ht
      rw [h2]; decide
end Go.Proofs.YtjaclmoobfeikaaGreatDoor
namespace Go.Proofs.YtjaclmoobfeikaaGreatDoor
open Go.RowKit

theorem heap_ltX {w : World} {b : Nat} {o : Obj} (h : w.heap[b]? = some o) : b < w.heap.size := heap_lt h
/-- An own list of tokens that isn't empty: where it lies. -/
theorem own_at {w : World} {B : Nat} {v : Value} {n : Nat} {xs : List Value} (h : w.ownsRow B 174 3 v n xs) (hn : 0 < n) : ∃ g cap, v = .slice (some ⟨g, 0, none⟩) n cap ∧ n ≤ cap ∧ B ≤ g ∧ g < w.heap.size := by
  rcases h.2 with ⟨_, h0⟩ | ⟨g, cap, cur, hv, hb, hg, hc, _⟩
  · omega
  · exact ⟨g, cap, hv, hc, hb, heap_ltX hg⟩
/-- What Lex answers where no token is wrong, and where one is. -/
theorem Lex_ok (G : Nat) (n g m l : Addr) (s : ByteArray) (w : World) (hE : LxEnv G n g m l w) (t : List Tk) (ht : lexL s = .ok t) :
    Calls Tryz.prog 33 #[.string s] w fun e w' => ∃ v, e = .returned (.tuple #[v, .int .i64 0, .int .i64 0]) ∧ w'.ownsRow w.heap.size 174 3 v t.length (t.flatMap Tk.c) ∧ w.grownBy w' none := by
  refine (Lex_any G n g m l s w hE).mono fun e w' h => ?_
  rcases h with ⟨p, c, hr, _⟩ | ⟨t', v, hr, he, ho, hg⟩
  · rw [ht] at hr; cases hr
  · rw [ht] at hr; cases hr; exact ⟨v, he, ho, hg⟩
theorem Lex_bad (G : Nat) (n g m l : Addr) (s : ByteArray) (w : World) (hE : LxEnv G n g m l w) (p c : Nat) (ht : lexL s = .error (p, c)) :
    Calls Tryz.prog 33 #[.string s] w fun e w' => e = .returned (.tuple #[.slice none 0 0, .int .i64 (p : Nat), .int .i64 (c : Nat)]) ∧ w.grownBy w' none := by
  refine (Lex_any G n g m l s w hE).mono fun e w' h => ?_
  rcases h with ⟨p, c, hr, he, hg⟩ | ⟨t', v, hr, _⟩
  · rw [ht] at hr; cases hr; exact ⟨he, hg⟩
  · rw [ht] at hr; cases hr
end Go.Proofs.YtjaclmoobfeikaaGreatDoor
namespace Go.Proofs.YtjaclmoobfeikaaGreatDoor
open Go.RowKit

theorem RdA.hdm {R b deep : Nat} {s : RS} {w : World} (h : RdA R b deep s w) : s.hd ∈ s.rest := by
  obtain ⟨r, e⟩ := h.ok.hd
  rw [e]; simp
theorem litV_of {t : ByteArray} {k n : Int} {x : ByteArray} {c : Nat} (h : readV t.data.toList = .tuple #[.agg #[.int .i64 k, .int .i64 n, .string x], .int .i64 c]) : litV t = ⟨k, n, x⟩ := by
  unfold litV
  rw [h]
  rfl
theorem three_of {w : World} {b : Nat} {v0 v1 v2 : Value} {T : TypeId} (h : w.heap[b]? = some (.cells #[v0, v1, v2] T (0, 0))) : (w.cell? ⟨b, 0, none⟩ = some v0 ∧ w.cell? ⟨b, 1, none⟩ = some v1 ∧ w.cell? ⟨b, 2, none⟩ = some v2) ∧ w.frozen? ⟨b, 0, none⟩ = false ∧ w.frozen? ⟨b, 1, none⟩ = false ∧ w.frozen? ⟨b, 2, none⟩ = false := by
  have c0 := cell_of_row _ _ 0 _ _ _ h
  have c1 := cell_of_row _ _ 1 _ _ _ h
  have c2 := cell_of_row _ _ 2 _ _ _ h
  simp at c0 c1 c2
  exact ⟨⟨c0, c1, c2⟩, frozen_of_row _ _ 0 _ _ h, frozen_of_row _ _ 1 _ _ h, frozen_of_row _ _ 2 _ _ h⟩
theorem set3 {w : World} {b : Nat} {v0 v1 v2 u0 u1 u2 : Value} {T : TypeId} (h : w.heap[b]? = some (.cells #[v0, v1, v2] T (0, 0))) : (((w.setCell ⟨b, 0, none⟩ u0).setCell ⟨b, 1, none⟩ u1).setCell ⟨b, 2, none⟩ u2).heap[b]? = some (.cells #[u0, u1, u2] T (0, 0)) := by
  have h0 := heap_setCell_same _ _ 0 _ _ u0 h
  have h1 := heap_setCell_same _ _ 1 _ _ u1 h0
  have h2 := heap_setCell_same _ _ 2 _ _ u2 h1
  simpa using h2
theorem grown_set3 {w0 w : World} {row : Option Nat} (h : w0.grownBy w row) {b : Nat} (hb : w0.heap.size ≤ b) (u0 u1 u2 : Value) : w0.grownBy (((w.setCell ⟨b, 0, none⟩ u0).setCell ⟨b, 1, none⟩ u1).setCell ⟨b, 2, none⟩ u2) row :=
  grown_setnewX (grown_setnewX (grown_setnewX h hb 0 u0) hb 1 u1) hb 2 u2
theorem grown3 (w : World) (b : Nat) (u0 u1 u2 : Value) : w.grownBy (((w.setCell ⟨b, 0, none⟩ u0).setCell ⟨b, 1, none⟩ u1).setCell ⟨b, 2, none⟩ u2) (some b) :=
  grown_setX (grown_setX (grown_cellR w b 0 u0) 1 u1) 2 u2
/-- What is stored in blocks that came meanwhile is nothing to the reader. -/
theorem RdGo.stored {R b deep : Nat} {s0 s : RS} {w w' w2 : World} (h0 : RdA R b deep s0 w) (h : RdGo R b deep s w w') {g : Nat} (hg : w.heap.size ≤ g) (hw : w'.grownBy w2 (some g)) : RdGo R b deep s w w2 := by
  have hR := h0.lt'
  have hb := h0.lt
  obtain ⟨tp0, p0, far0⟩ := h0.far
  have hf := World.block_lt_of_cell? w _ far0
  have hf' : 11 < w.heap.size := hf
  refine ⟨?_, grown_thenT h.2 hw (fun j hj => by cases hj; exact hg)⟩
  have hlt := h.1.lt'
  obtain ⟨⟨o, k, hB, h1, h2, h3⟩, ok, few, lt, ne, ⟨tp, p, far⟩, gR, sz⟩ := h.1
  exact ⟨⟨o, k, (hw.block R hlt (by simp; omega)).trans hB, h1, h2, fun j u hj => hw.cell (h3 j u hj) (by simp; omega)⟩, ok, few, Nat.lt_of_lt_of_le lt hw.size, ne, ⟨tp, p, hw.cell far (by simp; omega)⟩, gR, sz⟩
/-- A block that isn't the reader's stays. -/
theorem RdGo.blk {R b deep : Nat} {s : RS} {w w' : World} (h : RdGo R b deep s w w') {g : Nat} {o : Obj} (hg : w.heap[g]? = some o) (hne : g ≠ R) : w'.heap[g]? = some o :=
  (h.2.block g (Array.getElem?_eq_some_iff.1 hg).1 (by simp; exact hne)).trans hg
theorem blk_grown {w w' : World} (h : w.grownBy w' none) {g : Nat} {o : Obj} (hg : w.heap[g]? = some o) : w'.heap[g]? = some o :=
  (h.block g (Array.getElem?_eq_some_iff.1 hg).1 (by simp)).trans hg
set_option maxRecDepth 100000 in
theorem plit_any (R b deep : Nat) (s : RS) (w : World) (h : RdA R b deep s w) :
    Calls Tryz.prog 159 #[.pointer (some ⟨R, 0, none⟩)] w fun e w' => e = .returned (.agg (vCT s.literal.2).toArray) ∧ RdGo R b deep s.literal.1 w w' := by
  have HC := Lib.hid (fun W (hW : w.grownBy W none) => comes_any R b deep s W (h.keep hW))
  have HR := Lib.hid (fun W (hW : w.grownBy W none) => Read_any s.hd.text W (h.sz _ h.hdm) (h.keep hW).far)
  obtain ⟨k, n, t, hv⟩ := readV_code s.hd.text.data.toList
  have hl := litV_of hv
  rw [hv] at HR
  have HS := Lib.hid h
  unfold RS.literal
  by_cases hc : readC s.hd.text.data.toList = 0
  · have HP := Lib.hid (fun W (hW : w.grownBy W none) => pass_any R b deep s W (h.keep hW) (RS.more_lit hc))
    rw [if_pos hc, hl]
    rw [hc, show ((0 : Nat) : Int) = 0 from rfl] at HR
    generalize s.hd.kind = kd at *
    generalize s.hd.text = tx at *
    generalize s.hd.pos = ps at *
    clear h hc hl hv
    go_enter Tryz.func159, Tryz.ntmps159
    have GA := Lib.hid (World.grownBy_alloc w (.cells #[.int .i64 0, .int .i64 0, .string ⟨#[]⟩] 29) none)
    go_wp2_with fail
    refine (HC.out _ GA.out).mono ?_
    rintro e w2 ⟨rfl, hg⟩
    have G2 := Lib.hid (GA.out.trans hg)
    have hg2 := Lib.hid hg
    have t1 := field_tk1 (.int .i64 kd) (.string tx) (.int .i64 ps) w2
    clear hg
    go_wp2_with fail
    refine (HR.out _ G2.out).mono ?_
    rintro e w3 ⟨rfl, hb⟩
    have G3 := Lib.hid (G2.out.trans (grown_belowT hb none))
    have A3 := Lib.hid (blk_grown (grown_belowT hb none) (blk_grown hg2.out (heap_alloc_new w _)))
    clear hb
    go_wp2_with fail
    have GB := Lib.hid (G3.out.trans (World.grownBy_alloc w3 (.cells #[.int .i64 k, .int .i64 n, .string t] 29) none))
    refine (HP.out _ GB.out).mono ?_
    rintro e w4 ⟨rfl, hr⟩
    have hRw := HS.out.lt'
    have hsz := G3.out.size
    have A4 := hr.blk (blk_grown (World.grownBy_alloc w3 _ none) A3.out) (by omega)
    have B4 := hr.blk (heap_alloc_new w3 _) (by omega)
    have R4 := Lib.hid hr
    obtain ⟨⟨a0, a1, a2⟩, b0, b1, b2⟩ := three_of A4
    obtain ⟨⟨d0, d1, d2⟩, _, _, _⟩ := three_of B4
    have HA4 := Lib.hid A4
    clear hr A4 B4 hRw hsz
    go_wp2_with fail
    exact bodyPost_ret (results_cell_row rfl _ _ w.heap.size 29 #[.int .i64 k, .int .i64 n, .string t] (0, 0) _ rfl (set3 HA4.out) Tryz.underlying29 rfl (by kernel_rfl)) rfl ⟨rfl, RdGo.stored HS.out ⟨R4.out.1, GB.out.trans' R4.out.2⟩ (Nat.le_refl _) (grown3 _ _ _ _ _)⟩
  · have hcn : ((readC s.hd.text.data.toList : Nat) : Int) ≠ 0 := by omega
    have HW := Lib.hid (fun W (hW : w.grownBy W none) => wrong_any R b deep s 11 W (h.keep hW))
    rw [if_neg hc]
    generalize readC s.hd.text.data.toList = rc at *
    have hcb : ((rc : Int) != 0) = true := by simpa using hcn
    generalize s.hd.kind = kd at *
    generalize s.hd.text = tx at *
    generalize s.hd.pos = ps at *
    clear h hc hl hv
    go_enter Tryz.func159, Tryz.ntmps159
    have GA := Lib.hid (World.grownBy_alloc w (.cells #[.int .i64 0, .int .i64 0, .string ⟨#[]⟩] 29) none)
    go_wp2_with fail
    refine (HC.out _ GA.out).mono ?_
    rintro e w2 ⟨rfl, hg⟩
    have G2 := Lib.hid (GA.out.trans hg)
    have hg2 := Lib.hid hg
    have t1 := field_tk1 (.int .i64 kd) (.string tx) (.int .i64 ps) w2
    clear hg
    go_wp2_with fail
    refine (HR.out _ G2.out).mono ?_
    rintro e w3 ⟨rfl, hb⟩
    have G3 := Lib.hid (G2.out.trans (grown_belowT hb none))
    have A3 := Lib.hid (blk_grown (grown_belowT hb none) (blk_grown hg2.out (heap_alloc_new w _)))
    clear hb
    go_wp2_with fail
    have GB := Lib.hid (G3.out.trans (World.grownBy_alloc w3 (.cells #[.int .i64 k, .int .i64 n, .string t] 29) none))
    refine (HW.out _ GB.out).mono ?_
    rintro e w4 ⟨rfl, hr⟩
    have hRw := HS.out.lt'
    have A4 := hr.blk (blk_grown (World.grownBy_alloc w3 _ none) A3.out) (by omega)
    have R4 := Lib.hid hr
    obtain ⟨⟨a0, a1, a2⟩, b0, b1, b2⟩ := three_of A4
    have HA4 := Lib.hid A4
    clear hr A4 hRw
    go_wp2_with fail
    exact bodyPost_ret (results_cell_row rfl _ _ w.heap.size 29 #[.int .i64 0, .int .i64 0, .string ⟨#[]⟩] (0, 0) _ rfl (set3 HA4.out) Tryz.underlying29 rfl (by kernel_rfl)) rfl ⟨rfl, RdGo.stored HS.out ⟨R4.out.1, GB.out.trans' R4.out.2⟩ (Nat.le_refl _) (grown3 _ _ _ _ _)⟩
theorem sign_nat (k : Nat) (h1 : 1 ≤ k) (h2 : k ≤ 6) : signS k ≠ ⟨#[]⟩ ∧ ∀ t : ByteArray, (t = signS k → relT t = k) := by
  have hk : k = 1 ∨ k = 2 ∨ k = 3 ∨ k = 4 ∨ k = 5 ∨ k = 6 := by omega
  rcases hk with rfl | rfl | rfl | rfl | rfl | rfl <;> exact ⟨by decide, fun t ht => by subst ht; decide⟩
theorem relT_no {t : ByteArray} (h : ∀ k : Nat, 1 ≤ k → k ≤ 6 → ¬ t = signS k) : relT t = 0 := by
  unfold relT
  have e1 : (signS (1 : Nat)) = ⟨#[61]⟩ := by decide
  have e2 : (signS (2 : Nat)) = ⟨#[60, 62]⟩ := by decide
  have e3 : (signS (3 : Nat)) = ⟨#[60]⟩ := by decide
  have e4 : (signS (4 : Nat)) = ⟨#[60, 61]⟩ := by decide
  have e5 : (signS (5 : Nat)) = ⟨#[62]⟩ := by decide
  have e6 : (signS (6 : Nat)) = ⟨#[62, 61]⟩ := by decide
  rw [if_neg (e1 ▸ h 1 (by omega) (by omega)), if_neg (e2 ▸ h 2 (by omega) (by omega)), if_neg (e3 ▸ h 3 (by omega) (by omega)), if_neg (e4 ▸ h 4 (by omega) (by omega)), if_neg (e5 ▸ h 5 (by omega) (by omega)), if_neg (e6 ▸ h 6 (by omega) (by omega))]
set_option maxRecDepth 100000 in
set_option maxHeartbeats 1600000 in
theorem prel_any (R b deep : Nat) (s : RS) (w : World) (h : RdA R b deep s w) :
    Calls Tryz.prog 158 #[.pointer (some ⟨R, 0, none⟩)] w fun e w' => e = .returned (.int .i64 s.rel.2) ∧ RdGo R b deep s.rel.1 w w' := by
  have HS := Lib.hid h
  have HT := Lib.hid (fun (k : Nat) (h1 : 1 ≤ k) (h2 : k ≤ 6) W (hW : RdA R b deep s W) => took_any R b deep s (signS k) W hW (sign_nat k h1 h2).1)
  have HG := Lib.hid (fun (k : Nat) W => lsign_any (k : Int) W)
  clear h
  go_enter Tryz.func158, Tryz.ntmps158
  go_wp2_with fail
  go_loopw [3] (fun s3 wr => ∃ k : Nat, s3 = .int .i64 k ∧ 1 ≤ k ∧ k ≤ 7 ∧ Hid ((∀ j : Nat, 1 ≤ j → j < k → ¬ s.hd.text = signS j) ∧ RdGo R b deep s w wr)) (fun s3 _ => 7 - (intOf s3).toNat)
  case atStart => exact ⟨1, rfl, by omega, by omega, Lib.hid ⟨fun j h1 h2 => by omega, RdGo.self HS.out⟩⟩
  case round =>
    obtain ⟨k, rfl, h1, h7, K⟩ := hrel
    by_cases hk : k ≤ 6
    · have HG1 := Lib.hid (HG.out k wr)
      have HT1 := Lib.hid (HT.out k h1 hk wr K.out.2.1)
      by_cases hc : s.hd.text = signS k
      · have hcc : s.comes (signS k) = true := decide_eq_true hc
        rw [hcc] at HT1
        simp only [if_true] at HT1
        have HR := Lib.hid (show s.rel = (s.pass, k) by
          have e := (sign_nat k h1 hk).2 _ hc
          unfold RS.rel
          rw [e, if_neg (by omega)])
        generalize signS (k : Int) = sg at *
        have k1 : (1 : Int) ≤ k := by omega
        have k2 : (k : Int) ≤ 6 := by omega
        clear hc hcc
        go_wp2_with fail
        refine HG1.out.mono ?_
        rintro e w2 ⟨rfl, rfl⟩
        go_wp2_with fail
        refine HT1.out.mono ?_
        rintro e w3 ⟨rfl, hr⟩
        go_wp2_with fail
        go_ret
        rw [HR.out]
        exact ⟨rfl, K.out.2.then hr⟩
      · have hcc : s.comes (signS k) = false := decide_eq_false hc
        rw [hcc] at HT1
        simp only [Bool.false_eq_true, if_false] at HT1
        have HN := Lib.hid (show ∀ j : Nat, 1 ≤ j → j < k + 1 → ¬ s.hd.text = signS j from fun j hj1 hj2 => by
          rcases Nat.lt_or_ge j k with h | h
          · exact K.out.1 j hj1 h
          · obtain rfl : j = k := by omega
            exact hc)
        generalize signS (k : Int) = sg at *
        have k1 : (1 : Int) ≤ k := by omega
        have k2 : (k : Int) ≤ 6 := by omega
        clear hc hcc
        go_wp2_with fail
        refine HG1.out.mono ?_
        rintro e w2 ⟨rfl, rfl⟩
        go_wp2_with fail
        refine HT1.out.mono ?_
        rintro e w3 ⟨rfl, hr⟩
        have R3 := Lib.hid (K.out.2.then hr)
        clear hr
        go_wp2_with fail
        go_roundw
        case rel => exact ⟨k + 1, by go_num, by omega, by omega, Lib.hid ⟨HN.out, R3.out⟩⟩
        case measure => simp [intOf]; omega
    · obtain rfl : k = 7 := by omega
      have HR := Lib.hid (show s.rel = (s, 0) by
        have e := relT_no (t := s.hd.text) (fun j h1 h2 => K.out.1 j h1 (by omega))
        unfold RS.rel
        rw [if_pos e])
      go_wp2_with fail
      go_ret
      rw [HR.out]
      exact ⟨rfl, K.out.2⟩
end Go.Proofs.YtjaclmoobfeikaaGreatDoor
