/- How great a text's query is; queries that are the same but for places. slices.Clone at items. The laws' where: the predicate of a text. -/
import Derived.Test.YtjaclmoobfeikaaGreatDoorZl33
import Derived.Test.YtjaclmoobfeikaaGreatDoorZl16
import Derived.Test.YtjaclmoobfeikaaGreatDoorZl23
import Derived.Test.YtjaclmoobfeikaaGreatDoorZl34
namespace Go.Proofs.YtjaclmoobfeikaaGreatDoor
open Go.RowKit

theorem itemsQ_len (s : RS) : (itemsQ s).2.2.length ≤ 8 := by
  unfold itemsQ
  split
  · simp
  · exact listF_len 8 itemL 9 s [] (by simp)
theorem groupQ_len (s : RS) : (groupQ s).2.length ≤ 8 := by
  unfold groupQ
  split
  · exact listF_len 8 columnL 9 _ [] (by simp)
  · simp
theorem orderQ_len (s : RS) : (orderQ s).2.length ≤ 8 := by
  unfold orderQ
  split
  · exact listF_len 8 keyL 9 _ [] (by simp)
  · simp
theorem parse_bounds {T : ByteArray} {q : Qry} (h : parseL T = .ok q) : q.cond.n ≤ 1000 ∧ q.items.length ≤ 1000000 ∧ q.group.length ≤ 1000000 ∧ q.order.length ≤ 1000000 := by
  unfold parseL at h
  cases hl : lexL T with
  | error e => rw [hl] at h; simp at h
  | ok l =>
    rw [hl] at h
    simp only at h
    cases he : (queryL ⟨l, none⟩).1.err with
    | some e => rw [he] at h; simp at h
    | none =>
      rw [he] at h
      simp only [Except.ok.injEq] at h
      obtain ⟨hok, hlen, _⟩ := lexL_ok T l hl
      have h1 := hok.nneed (t := bSel) (by decide)
      have h2 := h1.trans (itemsQ_next _ h1.1)
      have h3 := h2.trans (h2.1.nneed (t := bFrom) (by decide))
      have h4 := h3.trans h3.1.nname
      have h5 := whereQ_n _ h4.1
      have h6 := h4.2
      simp only at h6
      rw [← h]
      refine ⟨?_, ?_, ?_, ?_⟩
      · show (whereQ _).2.n ≤ 1000
        omega
      · exact Nat.le_trans (itemsQ_len _) (by decide)
      · exact Nat.le_trans (groupQ_len _) (by decide)
      · exact Nat.le_trans (orderQ_len _) (by decide)
end Go.Proofs.YtjaclmoobfeikaaGreatDoor
namespace Go.Proofs.YtjaclmoobfeikaaGreatDoor
open Go.RowKit

theorem itm_ones (l : List Itm) : ∀ u ∈ l.flatMap Itm.c, u.oneCell' = true := by
  intro u hu
  rw [List.mem_flatMap] at hu
  obtain ⟨x, _, hx⟩ := hu
  simp only [Itm.c, List.mem_cons, List.not_mem_nil, or_false] at hx
  rcases hx with rfl | rfl | rfl <;> rfl
/-- Cells that lie together, from their first on. -/
theorem CellsS.at {S : Nat → Prop} {w : World} {ad : Addr} {xs : List Value} (h : CellsS S w (some ad) xs) : ∀ j u, xs[j]? = some u → w.cell? (ad.add j) = some u := by
  intro j u hj
  rcases h with rfl | ⟨b, off, e, _, _, hc⟩
  · simp at hj
  · cases e
    rw [add_atT]
    exact hc j u hj
set_option maxRecDepth 100000 in
set_option maxHeartbeats 1600000 in
theorem cloneItm_any (S : Nat → Prop) (a : Option Addr) (cap : Nat) (l : List Itm) (w : World) (h : CellsS S w a (l.flatMap Itm.c)) (hl : l.length ≤ 1000) :
    Calls Tryz.prog 39 #[.slice a l.length cap] w fun e w' => (∃ a' cap', e = .returned (.slice a' l.length cap') ∧ l.length ≤ cap' ∧ w'.ownsRow w.heap.size 65 3 (.slice a' l.length cap') l.length (l.flatMap Itm.c)) ∧ w.grownBy w' none := by
  have hlen := flat_len Itm.c 3 Itm.c_len l
  cases a with
  | none =>
    obtain rfl : l = [] := by
      rcases h with h | ⟨b, off, e, _⟩
      · rw [h] at hlen
        exact List.eq_nil_of_length_eq_zero (by simp at hlen; omega)
      · cases e
    have hE : ∀ w, (binOp .eql 25 (.slice none 0 cap) (.slice none 0 0)).run Tryz.prog w = .ok (.bool true) w := fun w => Lib.run_eql_slice_nil w _ _ _ _ _ _ _ Tryz.underlying25
    clear h hl hlen
    go_enter Tryz.func39, Tryz.ntmps39
    go_wp2_with fail
    go_ret
    exact ⟨⟨none, 0, rfl, Nat.le_refl _, World.ownsRow_nil _ _ _ _⟩, grown_reflT _ _⟩
  | some ad =>
    have HC : Hid (∀ W, w.grownBy W none → ∀ j u, (l.flatMap Itm.c)[j]? = some u → W.cell? (ad.add j) = some u) := Lib.hid fun W hW => (h.keep (.of hW)).at
    have HL := Lib.hid hlen
    obtain ⟨m, hm⟩ : ∃ m, m = l.length := ⟨_, rfl⟩
    have Hm := Lib.hid hm
    rw [← hm] at HL hl ⊢
    clear h hm hlen
    obtain ⟨i0, hi, hz0, hz1, hz2⟩ := info_partsT itm_infoT
    have hE : ∀ w, (binOp .eql 25 (.slice (some ad) m cap) (.slice none 0 0)).run Tryz.prog w = .ok (.bool false) w := fun w => Lib.run_eql_slice_nil w _ _ _ _ _ _ _ Tryz.underlying25
    go_enter Tryz.func39, Tryz.ntmps39
    go_wp2_with (at_builtin; refine wpList_append_own _ rfl _ _ 25 rfl w.heap.size 65 i0 (.agg #[.int .i64 0, .string ⟨#[]⟩, .int .i64 0]) 3 32 Tryz.underlying25 hi hz0 hz1 hz2 rfl (by decide) _ 0 [] rfl (own_madeT _ _ w _ _ rfl (Nat.le_refl _)) ad m cap (l.flatMap Itm.c) rfl HL.out ?c1 ?c2 ?c3 ?c4 ?c5 ?_)
    case c1 => exact HC.out _ (World.grownBy_alloc _ _ _)
    case c2 => exact itm_ones _
    case c3 => unfold maxLen; omega
    case c4 => omega
    case c5 => simp
    intro v' w3 hown' hgrow _
    have K3 := Lib.hid (grown_thenT (World.grownBy_alloc w _ none) hgrow (by intro j hj; simp [Value.ownBlock] at hj; omega))
    have O3 := Lib.hid (show w3.ownsRow w.heap.size 65 3 v' m (l.flatMap Itm.c) by simpa using hown')
    clear hown' hgrow
    go_wp2_with fail
    go_ret
    obtain ⟨a', cap', hv, hw, _⟩ := own_win O3.out
    have hO := O3.out
    rw [hv] at hO
    exact ⟨⟨a', cap', congrArg Ending.returned hv, hw.le, hO⟩, K3.out⟩
end Go.Proofs.YtjaclmoobfeikaaGreatDoor
namespace Go.Proofs.YtjaclmoobfeikaaGreatDoor
open Go.RowKit

theorem Qm.at3 (y : Qm) : ∀ j u, y.cond.c[j]? = some u → y.c[3 + j]? = some u := by
  intro j u hj
  have hl := y.cond.c_len
  have hlt : j < 10 := by rw [← hl]; exact (List.getElem?_eq_some_iff.1 hj).1
  show y.l.toArray[3 + j]? = some u
  simp only [Qm.l, List.getElem?_toArray, Nat.add_comm 3 j, List.getElem?_cons_succ]
  rw [List.getElem?_append_left (by omega)]; exact hj
end Go.Proofs.YtjaclmoobfeikaaGreatDoor
