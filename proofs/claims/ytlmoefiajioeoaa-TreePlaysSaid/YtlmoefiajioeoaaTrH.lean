/- tree's Rows, Put; the order of rows. -/
import Derived.Test.YtlmoefiajioeoaaTrG
namespace Go.Proofs.Ytlmoefiajioeoaa
open Go.RowKit

theorem vlo_trans (x y z : Vl) (h1 : x.ord y ≤ 0) (h2 : y.ord z ≤ 0) : x.ord z ≤ 0 ∧ (x.ord z = 0 → x.ord y = 0 ∧ y.ord z = 0) := ordC_trans x.k x.n x.s y.k y.n y.s z.k z.n z.s h1 h2
theorem ro_trans : ∀ l m n : List Vl, rowsOrd l m < 0 → rowsOrd m n < 0 → rowsOrd l n < 0
  | [], [], _, h, _ => by simp [rowsOrd] at h
  | [], _ :: _, [], _, h => by simp [rowsOrd] at h
  | [], _ :: _, _ :: _, _, _ => by simp [rowsOrd]
  | _ :: _, [], _, h, _ => by simp [rowsOrd] at h
  | _ :: _, _ :: _, [], _, h => by simp [rowsOrd] at h
  | x :: l, y :: m, z :: n, h1, h2 => by
    have ih := ro_trans l m n
    simp only [rowsOrd] at h1 h2 ⊢
    have hxy : x.ord y ≤ 0 := by split at h1 <;> omega
    have hyz : y.ord z ≤ 0 := by split at h2 <;> omega
    have ht := vlo_trans x y z hxy hyz
    by_cases hz : x.ord z = 0
    · obtain ⟨e1, e2⟩ := ht.2 hz
      rw [if_neg (by omega)] at h1 h2
      rw [if_neg (by omega)]
      exact ih h1 h2
    · rw [if_pos hz]
      have := ht.1
      omega
theorem ro_ord : Tr.IsOrd rowsOrd := ⟨ro_zero, ro_turn, ro_trans⟩
theorem from_nil (l : List (List Vl × List Vl)) : fromL [] l = l := by
  unfold fromL
  rw [List.filter_eq_self]
  intro x _
  have : ¬ rowsOrd x.1 [] < 0 := by
    cases x.1 with
    | nil => simp [rowsOrd]
    | cons a l => simp [rowsOrd]
  simp [this]
set_option maxRecDepth 100000 in
set_option maxHeartbeats 3200000 in
theorem rowsT_any (S : Nat → Prop) (t : Tre) (p : Ptr) (w : World) (ht : TrAt S w t p) (hs : Tr.Sorted rowsOrd t.toL) (hn : t.n ≤ 100000000) :
    Calls Try.prog 29 #[.pointer p] w fun e w' => (∃ (vo : Value) (done : List Rw), e = .returned vo ∧ w'.ownsRow w.heap.size 24 1 vo done.length (done.map Rw.v) ∧ (∀ x ∈ done, RwS (fun b => w.heap.size ≤ b) w' x.a x.l) ∧ done.map Rw.l = t.toL.map Prod.snd) ∧ w.grownBy w' none := by
  have HL := Lib.hid (len_any S t p w ht)
  have HF := Lib.hid (from_any ro_ord S t p none 0 [] (t.n : Nat) w ht hs hn ⟨by simp, by simp, .inl rfl⟩ (by simp))
  have e : ((fromL [] t.toL).map Prod.snd).take ((t.n : Nat) : Int).toNat = t.toL.map Prod.snd := by
    rw [from_nil, List.take_of_length_le]
    rw [List.length_map, Int.toNat_natCast, Tr.n_toL]
    exact Nat.le_refl _
  rw [e] at HF
  simp only [List.length_nil] at HF
  clear ht hs e
  generalize t.n = n at *
  go_enter Try.func29, Try.ntmps29
  go_wp2_with fail
  refine HL.out.mono ?_
  rintro e w1 ⟨rfl, rfl⟩
  go_wp2_with fail
  refine HF.out.mono ?_
  rintro e w2 ⟨⟨vo, done, rfl, h1, h2, h3⟩, hg⟩
  have D := Lib.hid (And.intro h1 (And.intro h2 (And.intro h3 hg)))
  obtain ⟨ao, cap, hvo⟩ := own_slice h1
  clear h1 h2 h3 hg
  subst hvo
  go_wp2_with fail
  go_ret
  exact ⟨⟨_, done, rfl, D.out.1, D.out.2.1, D.out.2.2.1⟩, D.out.2.2.2⟩
set_option maxRecDepth 100000 in
set_option maxHeartbeats 3200000 in
theorem Put_any (S : Nat → Prop) (t : Tre) (p ka va : Ptr) (kc vc : Nat) (k v : List Vl) (w : World) (hS : ∀ b, w.heap.size ≤ b → S b) (ht : TrAt S w t p) (hk : RowAt w ka k) (hv : RowAt w va v) (hkl : k.length ≤ 4294967296) (hvl : v.length ≤ 4294967296) (hn : t.n ≤ 1000000000) :
    Makes 27 #[.pointer p, .slice ka k.length kc, .slice va v.length vc] w (fun W q => TrAt S W (Tr.put rowsOrd k v t) q) := by
  have C1 := Lib.hid (clone_any S ka kc k w hk hkl hS)
  have C2 := Lib.hid (fun W (hW : w.grownBy W none) => clone_any S va vc v W (hv.keep (below_grownT hW)) hvl (hsS hS hW))
  have HP := Lib.hid (fun W (hW : w.grownBy W none) ka' kc' va' vc' (h1 : RwS S W ka' k) (h2 : RwS S W va' v) => Makes.calls (put_any S k v ka' va' kc' vc' t p W (hsS hS hW) (ht.keep (.of hW)) h1 h2 hn))
  clear ht hk hv hkl hvl hn hS
  unfold Makes
  generalize k.length = m at *
  generalize v.length = q at *
  go_enter Try.func27, Try.ntmps27
  go_wp2_with fail
  refine C1.out.mono ?_
  rintro e w1 ⟨⟨a1, c1, rfl, _, h1⟩, hg1⟩
  have G1 := Lib.hid hg1
  have H1 := Lib.hid h1
  clear h1 hg1
  go_wp2_with fail
  refine (C2.out _ G1.out).mono ?_
  rintro e w2 ⟨⟨a2, c2, rfl, _, h2⟩, hg2⟩
  have G2 := Lib.hid (G1.out.trans hg2)
  have HPc := Lib.hid (HP.out _ (G1.out.trans hg2) a1 c1 a2 c2 (H1.out.keep (.of hg2)) h2)
  clear h2 hg2
  go_wp2_with fail
  refine HPc.out.mono ?_
  rintro e w3 ⟨⟨q, rfl, hq⟩, hg3⟩
  have D := Lib.hid (And.intro hq (G2.out.trans hg3))
  clear hq hg3
  go_wp2_with fail
  go_ret
  exact ⟨⟨_, rfl, D.out.1⟩, D.out.2⟩
end Go.Proofs.Ytlmoefiajioeoaa
