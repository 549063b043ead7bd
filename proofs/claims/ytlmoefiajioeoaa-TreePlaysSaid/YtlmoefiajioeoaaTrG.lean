/- tree's From walked. -/
import Derived.Test.YtlmoefiajioeoaaTrF
namespace Go.Proofs.Ytlmoefiajioeoaa
open Go.RowKit

def slLen : Value → Nat
  | .slice _ n _ => n
  | _ => 0
theorem own_slice {w : World} {B : Nat} {e : TypeId} {size n : Nat} {v : Value} {xs : List Value} (h : w.ownsRow B e size v n xs) : ∃ a cap, v = .slice a n cap := by
  rcases h.2 with ⟨e, h0⟩ | ⟨g, cap, _, e, _⟩
  · exact ⟨none, 0, by rw [e, h0]⟩
  · exact ⟨_, cap, e⟩
theorem row_info : (Try.prog.info? 24).map (fun i => (i.zero, i.size, i.bytes)) = some (some (.slice none 0 0), 1, 24) := by kernel_rfl
theorem one_oneS (a : Ptr) (n c : Nat) : ∀ u ∈ [Value.slice a n c], u.oneCell' = true := by
  intro u hu
  obtain rfl := List.mem_singleton.1 hu
  rfl
set_option maxRecDepth 100000 in
set_option maxHeartbeats 6400000 in
theorem from_any (hc : Tr.IsOrd rowsOrd) (S : Nat → Prop) (t : Tre) (p : Ptr) (ka : Ptr) (kc : Nat) (key : List Vl) (n : Int) (w : World) (ht : TrAt S w t p) (hs : Tr.Sorted rowsOrd t.toL) (hn : t.n ≤ 100000000) (hk : RowAt w ka key) (hkl : key.length ≤ 4294967296) :
    Calls Try.prog 14 #[.pointer p, .slice ka key.length kc, .int .i64 n] w fun e w' => (∃ (vo : Value) (done : List Rw), e = .returned vo ∧ w'.ownsRow w.heap.size 24 1 vo done.length (done.map Rw.v) ∧ (∀ x ∈ done, RwS (fun b => w.heap.size ≤ b) w' x.a x.l) ∧ done.map Rw.l = ((fromL key t.toL).map Prod.snd).take n.toNat) ∧ w.grownBy w' none := by
  have HW := Lib.hid (walk_any hc S t p ka kc key w ht hs (by omega) hk hkl)
  have HC := Lib.hid hc
  have hR : (fromL key t.toL).length ≤ t.n := by rw [Tr.n_toL]; exact List.length_filter_le _ _
  obtain ⟨R, hRe⟩ : ∃ R, R = (fromL key t.toL).map Prod.snd := ⟨_, rfl⟩
  have HRe := Lib.hid hRe
  have hRl : R.length ≤ 100000000 := by rw [hRe, List.length_map]; omega
  obtain ⟨i0, hi, hz0, hz1, hz2⟩ := info_partsT row_info
  rw [← hRe]
  generalize hm : key.length = m0 at *
  clear ht hs hn hk hkl hR hRe hc
  go_enter Try.func14, Try.ntmps14
  go_wp2_with fail
  refine HW.out.mono ?_
  rintro e w1 ⟨⟨v1, xs1, rfl, hw, hr, hl⟩, hg⟩
  have I0 := Lib.hid (show ∃ (v : Value) (xs : List (Ptr × Tre)) (done : List Rw) (rest : List (List Vl × List Vl)), FromInv w w.heap.size (w.heap.size + 1) (w.heap.size + 1 + 1) ka kc key R (.slice none 0 0) w1 v xs done rest ∧ done.length = 0 ∧ ((0 : Nat) = 0 ∨ ((0 : Nat) : Int) ≤ n) from ⟨v1, xs1, [], _, ⟨hw, hr, by rw [HRe.out]; rfl, World.ownsRow_nil _ _ _ _, by simp, by simp [Value.ownBlock], by simp [Value.ownBlock], by simp [Value.ownBlock], by simp [Value.ownBlock], hg⟩, rfl, .inl rfl⟩)
  clear hw hr hl hg HW
  go_wp2_with fail
  go_loopw [7] (fun s wr => ∃ (ao : Ptr) (m co : Nat), s = .slice ao m co ∧ m ≤ 100000000 ∧ Hid (∃ (v : Value) (xs : List (Ptr × Tre)) (done : List Rw) (rest : List (List Vl × List Vl)), FromInv w w.heap.size (w.heap.size + 1) (w.heap.size + 1 + 1) ka kc key R (.slice ao m co) wr v xs done rest ∧ done.length = m ∧ (m = 0 ∨ (m : Int) ≤ n))) (fun s _ => R.length + 1 - slLen s)
  case atStart =>
    refine ⟨none, 0, 0, rfl, by omega, Lib.hid ?_⟩
    obtain ⟨q1, q2, q3, q4, q5, q6, _⟩ := I0.out
    exact ⟨q1, q2, q3, q4, q5, q6, .inl rfl⟩
  case round =>
    obtain ⟨ao, m, co, rfl, hm8, I⟩ := hrel
    clear I0
    by_cases hlt : (m : Int) < n
    · obtain ⟨v, xs, done, rest, hI, hdl, hmn⟩ := I.out
      cases rest with
      | nil =>
        have HN := Lib.hid (next_none _ _ _ _ _ _ _ _ _ _ _ hI.wlk hI.rem)
        have HI := Lib.hid (And.intro hI (And.intro hdl hmn))
        clear hI hdl hmn I
        go_wp2_with fail
        refine HN.out.mono ?_
        rintro e w2 ⟨rfl, rfl⟩
        go_wp2_with fail
        go_ret
        obtain ⟨hI, hdl, hmn⟩ := HI.out
        refine ⟨⟨_, done, rfl, by have := hI.own; rw [hdl] at this ⊢; exact this, fun x hx => (hI.rows x hx).mono (fun b _ hs => hs.1), ?_⟩, hI.grown⟩
        have := hI.all
        simp only [List.map_nil, List.append_nil] at this
        rw [this, List.take_of_length_le]
        rw [← this, List.length_map]
        omega
      | cons kr rest =>
        obtain ⟨k, r⟩ := kr
        have hrl : rest.length ≤ 400000000 := by
          have := congrArg List.length hI.all
          simp at this
          omega
        have hml : m + 1 ≤ R.length := by
          have := congrArg List.length hI.all
          simp at this
          omega
        have HN := Lib.hid (next_more HC.out _ _ _ _ _ _ _ _ _ _ _ k r rest hI.wlk hI.rem hrl)
        have HI := Lib.hid (And.intro hI (And.intro hdl hmn))
        have hB0 : w.heap.size ≤ wr.heap.size := hI.grown.size
        clear hI hmn I hrl
        go_wp2_with fail
        refine HN.out.mono ?_
        rintro e w2 ⟨⟨px, rfl, hp⟩, ⟨v', xs', hw', hg', hr'⟩, ho⟩
        obtain ⟨b, ka', kc', va, vc, rfl, hb, hb2, c0, c1, h1, h2⟩ := hp
        have HCl := Lib.hid (clone_any (fun b => w2.heap.size ≤ b) va vc r w2 h2.row h2.1 (fun b hb => hb))
        have E := Lib.hid (And.intro hw' (And.intro hg' (And.intro hr' ho)))
        have hB2 : w.heap.size ≤ w2.heap.size := Nat.le_trans hB0 ho.size
        have O2 := Lib.hid (HI.out.1.next hw' hg' ho).1
        clear hw' hg' hr' ho h1 h2 hb hb2
        obtain ⟨rn, hrn⟩ : ∃ rn, rn = r.length := ⟨_, rfl⟩
        have Hrn := Lib.hid hrn
        rw [← hrn] at c1 HCl
        clear hrn
        go_wp2_with fail
        refine HCl.out.mono ?_
        rintro e w3 ⟨⟨ra, rc, rfl, _, hrow⟩, hg3⟩
        have ER := Lib.hid (And.intro hrow hg3)
        have O3 := Lib.hid (World.ownsRow.kept O2.out hg3 (by cases (Value.slice ao m co).ownBlock <;> simp))
        have hB3 : w.heap.size ≤ w3.heap.size := Nat.le_trans hB2 hg3.size
        rw [hdl] at O3
        clear hrow hg3 c0 c1 O2
        go_wp2_with (at_builtin; refine wpList_append_lies _ rfl _ _ 38 rfl w.heap.size 24 i0 (.slice none 0 0) 1 24 Try.underlying38 hi hz0 hz1 hz2 rfl (by decide) (.slice ao m co) m (done.map Rw.v) rfl (World.ownsRow.alloc O3.out _) ⟨w3.heap.size, 0, none⟩ 1 1 [.slice ra rn rc] rfl rfl (one_atT (cell_of_row _ _ 0 _ _ _ (heap_alloc_new w3 _))) (one_oneS _ _ _) (by decide) (by unfold maxLen; omega) (by omega) (by simp; omega) _ rfl ?_)
        intro g cap w4 hown4 hgrow4 hgb hg4
        have EF := Lib.hid (And.intro hown4 (And.intro hgrow4 hgb))
        clear hown4 hgrow4 hgb hg4
        go_wp2_with fail
        go_roundw
        case rel =>
          obtain ⟨hI, hdl, hmn⟩ := HI.out
          obtain ⟨hw', hg', hr', ho⟩ := E.out
          obtain ⟨hrow, hg3⟩ := ER.out
          obtain ⟨hown4, hgrow4, hgb⟩ := EF.out
          rw [Hrn.out, ← hdl] at hown4
          have hp := hI.push hw' hg' ho hr' hrow hg3 hown4 hgrow4 (hgb.imp id (fun e => by rw [e]; simp))
          rw [hdl] at hp
          exact ⟨some ⟨g, 0, none⟩, m + 1, cap, rfl, by omega, Lib.hid ⟨v', xs', _, rest, hp, by simp [hdl], .inr (by omega)⟩⟩
        case measure => simp only [slLen]; omega
    · have HI := I
      clear I
      go_wp2_with fail
      go_ret
      obtain ⟨v, xs, done, rest, hI, hdl, hmn⟩ := HI.out
      refine ⟨⟨_, rfl, done, by have := hI.own; rw [hdl] at this ⊢; exact this, fun x hx => (hI.rows x hx).mono (fun b _ hs => hs.1), ?_⟩, hI.grown⟩
      rw [← hI.all, List.take_left']
      rw [List.length_map, hdl]
      omega
end Go.Proofs.Ytlmoefiajioeoaa
