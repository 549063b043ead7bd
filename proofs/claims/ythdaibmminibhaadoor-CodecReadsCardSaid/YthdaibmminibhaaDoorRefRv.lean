/- The contract of the document's ReadValue. -/
import Derived.Test.YthdaibmminibhaaDoorRefRs
import Derived.Test.YthdaibmminibhaaDoorAwake4
namespace Go.Proofs.YthdaibmminibhaaDoor
open Go.RowKit

def rvV : Option (Vl × Nat) → Value
  | some (v, k) => .tuple #[.agg #[.int .i64 v.k, .int .i64 v.n, .string v.s], .int .i64 k]
  | none => .tuple #[.agg #[.int .i64 0, .int .i64 0, .string ⟨#[]⟩], .int .i64 0]
def RvPost (w : World) (r : Option (Vl × Nat)) (e : Ending) (w' : World) : Prop := e = .returned (rvV r) ∧ w.grownBy w' none
set_option maxRecDepth 100000 in
set_option maxHeartbeats 3200000 in
theorem refReadValue_plain (a : Option Addr) (cap : Nat) (l : List UInt8) (w : World) (hb : BAt w.heap.size w a l) (h : l = [] ∨ (l.getD 0 0 ≠ 3 ∧ l.getD 0 0 ≠ 4)) :
    Calls Tryd.prog 24 #[.slice a l.length cap] w (RvPost w (readV l)) := by
  cases l with
  | nil =>
    go_enter Tryd.func24, Tryd.ntmps24
    go_wp2_with fail
    refine bodyPost_ret (v := rvV (none)) (by simp [results, Tryd.results24, go_sem, rvV]) rfl ⟨rfl, ?_⟩
    exact World.grownBy_alloc _ _ _
  | cons c s =>
    obtain ⟨b, off, rfl, hlt, hc0⟩ := hb.at (i := 0) (by simp)
    rw [Nat.add_zero] at hc0
    simp only [List.getD_cons_zero] at hc0 h
    have hpos : ((s.length : Int) + 1 == 0) = false := beq_eq_false_iff_ne.2 (by omega)
    have hc34 : c ≠ 3 ∧ c ≠ 4 := by rcases h with h | h; cases h; exact h
    have c0 : ∀ o, (w.alloc o).cell? ⟨b, off, none⟩ = some (.int .u8 c.toNat) := fun o => (World.grownBy_alloc w o none).cell hc0 (by simp)
    simp only [List.length_cons]
    generalize s.length = m at *
    clear h hc0 hb
    by_cases h0 : c = 0
    · subst h0
      go_enter Tryd.func24, Tryd.ntmps24
      go_wp2_with fail
      refine bodyPost_ret (v := rvV (some (⟨0, 0, ⟨#[]⟩⟩, 1))) (by simp [results, Tryd.results24, go_sem, rvV]) rfl ⟨rfl, ?_⟩
      exact World.grownBy_alloc _ _ _
    · by_cases h1 : c = 1
      · subst h1
        go_enter Tryd.func24, Tryd.ntmps24
        go_wp2_with fail
        refine bodyPost_ret (v := rvV (some (⟨1, 0, ⟨#[]⟩⟩, 1))) (by simp [results, Tryd.results24, go_sem, rvV]) rfl ⟨rfl, ?_⟩
        exact World.grownBy_alloc _ _ _
      · by_cases h2 : c = 2
        · subst h2
          go_enter Tryd.func24, Tryd.ntmps24
          go_wp2_with fail
          refine bodyPost_ret (v := rvV (some (⟨1, 1, ⟨#[]⟩⟩, 1))) (by simp [results, Tryd.results24, go_sem, rvV]) rfl ⟨rfl, ?_⟩
          exact World.grownBy_alloc _ _ _
        · have hr : readV (c :: s) = none := by
            simp only [readV]
            rw [if_neg h0, if_neg h1, if_neg h2, if_neg hc34.1, if_neg hc34.2]
          have h4 : (4 : Int) < c.toNat := by
            have e : ∀ n : Nat, n < 256 → c.toNat = n → c = UInt8.ofNat n := fun n hn h => by
              apply UInt8.toNat_inj.1
              rw [h, UInt8.toNat_ofNat_of_lt' (by simp [UInt8.size]; exact hn)]
            rcases Nat.lt_or_ge 4 c.toNat with h | h
            · omega
            · exfalso
              have : c.toNat = 0 ∨ c.toNat = 1 ∨ c.toNat = 2 ∨ c.toNat = 3 ∨ c.toNat = 4 := by omega
              rcases this with h | h | h | h | h
              · exact h0 (e 0 (by omega) h)
              · exact h1 (e 1 (by omega) h)
              · exact h2 (e 2 (by omega) h)
              · exact hc34.1 (e 3 (by omega) h)
              · exact hc34.2 (e 4 (by omega) h)
          rw [hr]
          generalize c.toNat = cn at *
          clear hr hc34 h0 h1 h2
          go_enter Tryd.func24, Tryd.ntmps24
          go_wp2_with fail
          refine bodyPost_ret (v := rvV (none)) (by simp [results, Tryd.results24, go_sem, rvV]) rfl ⟨rfl, ?_⟩
          exact World.grownBy_alloc _ _ _
set_option maxRecDepth 100000 in
set_option maxHeartbeats 3200000 in
theorem refReadValue_int (b off : Nat) (cap : Nat) (s : List UInt8) (w : World) (hb : BAt w.heap.size w (some ⟨b, off, none⟩) (3 :: s)) (hcl : s.length + 1 ≤ cap) (hcm : cap ≤ 9223372036854775807) :
    Calls Tryd.prog 24 #[.slice (some ⟨b, off, none⟩) (s.length + 1 : Nat) cap] w (RvPost w (readV (3 :: s))) := by
  obtain ⟨b', off', e', hlt, hc0⟩ := hb.at (i := 0) (by simp)
  cases e'
  rw [Nat.add_zero] at hc0
  simp only [List.getD_cons_zero] at hc0
  have hpos : ((s.length : Int) + 1 == 0) = false := beq_eq_false_iff_ne.2 (by omega)
  have c0 : ∀ o, (w.alloc o).cell? ⟨b, off, none⟩ = some (.int .u8 3) := fun o => (World.grownBy_alloc w o none).cell hc0 (by simp)
  have hv : readV (3 :: s) = (readN s).map fun x => (⟨2, zag x.1, ⟨#[]⟩⟩, x.2 + 1) := rfl
  rw [hv]
  have hsub : ∀ o, BAt (w.alloc o).heap.size (w.alloc o) (if cap = 1 then some ⟨b, off, none⟩ else some ⟨b, off + 1, none⟩) s := fun o => (BAt.suf (hb.keep (World.grownBy_alloc w o none) (by simp)) (q := 1) (cap := cap) (by simp) (by simpa using hcl)).mono (by simp)
  have HR' : Hid (∀ o A c', A = (if cap = 1 then some ⟨b, off, none⟩ else some ⟨b, off + 1, none⟩) → c' = cap - 1 → Calls Tryd.prog 23 #[.slice A s.length c'] (w.alloc o) fun e w' => e = .returned (rnV (readN s)) ∧ w.alloc o = w') := Lib.hid (by rintro o A c' rfl rfl; exact refReadNumber_any _ _ s _ (hsub o))
  obtain ⟨m, hm⟩ : ∃ m, m = s.length := ⟨_, rfl⟩
  have Hm := Lib.hid hm
  rw [← hm] at HR' hcl hpos ⊢
  have i0 : (1 : Int) ≤ (m : Int) + 1 := by omega
  have i1 : ((m : Int) + 1) ≤ cap := by omega
  clear hb hc0 hv hsub hm
  cases hr : readN s with
  | none =>
    rw [hr] at HR'
    clear hr
    by_cases hc1 : cap = 1
    · have hm0 : m = 0 := by omega
      subst hm0 hc1
      have HA := Lib.hid (fun o => HR'.out o _ 0 (if_pos rfl).symm rfl)
      clear HR'
      go_enter Tryd.func24, Tryd.ntmps24
      go_wp2_with fail
      refine (HA.out _).mono ?_
      rintro e w1 ⟨rfl, rfl⟩
      unfold rnV
      go_wp2_with fail
      refine bodyPost_ret (v := rvV (none)) (by simp [results, Tryd.results24, go_sem, rvV]) rfl ⟨rfl, ?_⟩
      first | exact World.grownBy_alloc _ _ _ | exact grown_refl _ _ | (simp; exact World.grownBy_alloc _ _ _)
    · have HA := Lib.hid (fun o => HR'.out o _ _ (if_neg hc1).symm rfl)
      clear HR'
      go_enter Tryd.func24, Tryd.ntmps24
      go_wp2_with fail
      refine (HA.out _).mono ?_
      rintro e w1 ⟨rfl, rfl⟩
      unfold rnV
      go_wp2_with fail
      refine bodyPost_ret (v := rvV (none)) (by simp [results, Tryd.results24, go_sem, rvV]) rfl ⟨rfl, ?_⟩
      first | exact World.grownBy_alloc _ _ _ | exact grown_refl _ _ | (simp; exact World.grownBy_alloc _ _ _)
  | some x =>
    obtain ⟨n, k⟩ := x
    obtain ⟨_, hk1, hk2, hn64, hk10⟩ := readN_some hr
    have hc1 : ¬ cap = 1 := by rw [← Hm.out] at hk2; omega
    rw [hr] at HR'
    have HA := Lib.hid (fun o => HR'.out o _ _ (if_neg hc1).symm rfl)
    have hk0 : ((k : Int) == 0) = false := beq_eq_false_iff_ne.2 (by omega)
    have e2 : IntKind.i64.wrap ((n : Int) / 2) = (n : Int) / 2 := IntWalk.i64_in _ (by omega)
    have hni : (n : Int) < 18446744073709551616 := by omega
    clear HR' hr hk2
    simp only [Option.map_some]
    by_cases hp : n % 2 = 1
    · have hz : zag n = -1 - (n : Int) / 2 := by unfold zag; rw [if_pos hp]; rfl
      have tt : ((n : Int) % 2 == 1) = true := beq_iff_eq.2 (by omega)
      rw [hz]
      clear hp hz
      go_enter Tryd.func24, Tryd.ntmps24
      go_wp2_with fail
      refine (HA.out _).mono ?_
      rintro e w1 ⟨rfl, rfl⟩
      unfold rnV
      go_wp2_with fail
      refine (refInt_any _ _).mono ?_
      rintro e w2 ⟨rfl, rfl⟩
      go_wp2_with fail
      refine bodyPost_ret (v := rvV (some (⟨2, -1 - (n : Int) / 2, ⟨#[]⟩⟩, k + 1))) (by simp [results, Tryd.results24, go_sem, rvV]) rfl ⟨rfl, ?_⟩
      exact (World.grownBy_alloc _ _ _).trans (World.grownBy_alloc _ _ _)
    · have hz : zag n = (n : Int) / 2 := by unfold zag; rw [if_neg hp]; rfl
      have tt : ((n : Int) % 2 == 1) = false := beq_eq_false_iff_ne.2 (by omega)
      rw [hz]
      clear hp hz
      go_enter Tryd.func24, Tryd.ntmps24
      go_wp2_with fail
      refine (HA.out _).mono ?_
      rintro e w1 ⟨rfl, rfl⟩
      unfold rnV
      go_wp2_with fail
      refine (refInt_any _ _).mono ?_
      rintro e w2 ⟨rfl, rfl⟩
      go_wp2_with fail
      refine bodyPost_ret (v := rvV (some (⟨2, (n : Int) / 2, ⟨#[]⟩⟩, k + 1))) (by simp [results, Tryd.results24, go_sem, rvV]) rfl ⟨rfl, ?_⟩
      exact (World.grownBy_alloc _ _ _).trans (World.grownBy_alloc _ _ _)
set_option maxRecDepth 100000 in
set_option maxHeartbeats 3200000 in
theorem refReadValue_text (b off : Nat) (cap : Nat) (s : List UInt8) (w : World) (hb : BAt w.heap.size w (some ⟨b, off, none⟩) (4 :: s)) (hcl : s.length + 1 ≤ cap) (hcm : cap ≤ 9223372036854775807) :
    Calls Tryd.prog 24 #[.slice (some ⟨b, off, none⟩) (s.length + 1 : Nat) cap] w (RvPost w (readV (4 :: s))) := by
  obtain ⟨b', off', e', hlt, hc0⟩ := hb.at (i := 0) (by simp)
  cases e'
  rw [Nat.add_zero] at hc0
  simp only [List.getD_cons_zero] at hc0
  have hpos : ((s.length : Int) + 1 == 0) = false := beq_eq_false_iff_ne.2 (by omega)
  have c0 : ∀ o, (w.alloc o).cell? ⟨b, off, none⟩ = some (.int .u8 4) := fun o => (World.grownBy_alloc w o none).cell hc0 (by simp)
  have hv : readV (4 :: s) = (readS 60 s).map fun x => (⟨3, 0, ⟨x.1.toArray⟩⟩, x.2 + 1) := rfl
  rw [hv]
  have hsub : ∀ o, BAt (w.alloc o).heap.size (w.alloc o) (if cap = 1 then some ⟨b, off, none⟩ else some ⟨b, off + 1, none⟩) s := fun o => (BAt.suf (hb.keep (World.grownBy_alloc w o none) (by simp)) (q := 1) (cap := cap) (by simp) (by simpa using hcl)).mono (by simp)
  have HR' : Hid (∀ o A c', A = (if cap = 1 then some ⟨b, off, none⟩ else some ⟨b, off + 1, none⟩) → c' = cap - 1 → Calls Tryd.prog 27 #[.slice A s.length c', .int .u64 60] (w.alloc o) fun e w' => e = .returned (rsV (readS 60 s)) ∧ w.alloc o = w') := Lib.hid (by rintro o A c' rfl rfl; exact refReadString_any 60 _ _ s _ (hsub o) (by omega) (by omega) (by omega))
  obtain ⟨m, hm⟩ : ∃ m, m = s.length := ⟨_, rfl⟩
  have Hm := Lib.hid hm
  rw [← hm] at HR' hcl hpos ⊢
  have i0 : (1 : Int) ≤ (m : Int) + 1 := by omega
  have i1 : ((m : Int) + 1) ≤ cap := by omega
  clear hb hc0 hv hsub hm
  cases hr : readS 60 s with
  | none =>
    rw [hr] at HR'
    clear hr
    by_cases hc1 : cap = 1
    · have hm0 : m = 0 := by omega
      subst hm0 hc1
      have HA := Lib.hid (fun o => HR'.out o _ 0 (if_pos rfl).symm rfl)
      clear HR'
      go_enter Tryd.func24, Tryd.ntmps24
      go_wp2_with fail
      refine (HA.out _).mono ?_
      rintro e w1 ⟨rfl, rfl⟩
      unfold rsV
      go_wp2_with fail
      refine bodyPost_ret (v := rvV (none)) (by simp [results, Tryd.results24, go_sem, rvV]) rfl ⟨rfl, ?_⟩
      first | exact World.grownBy_alloc _ _ _ | exact grown_refl _ _ | (simp; exact World.grownBy_alloc _ _ _)
    · have HA := Lib.hid (fun o => HR'.out o _ _ (if_neg hc1).symm rfl)
      clear HR'
      go_enter Tryd.func24, Tryd.ntmps24
      go_wp2_with fail
      refine (HA.out _).mono ?_
      rintro e w1 ⟨rfl, rfl⟩
      unfold rsV
      go_wp2_with fail
      refine bodyPost_ret (v := rvV (none)) (by simp [results, Tryd.results24, go_sem, rvV]) rfl ⟨rfl, ?_⟩
      first | exact World.grownBy_alloc _ _ _ | exact grown_refl _ _ | (simp; exact World.grownBy_alloc _ _ _)
  | some x =>
    obtain ⟨t, k⟩ := x
    obtain ⟨_, hk1, hk2, _⟩ := readS_some hr (by omega)
    have hc1 : ¬ cap = 1 := by rw [← Hm.out] at hk2; omega
    rw [hr] at HR'
    have HA := Lib.hid (fun o => HR'.out o _ _ (if_neg hc1).symm rfl)
    have hk0 : ((k : Int) == 0) = false := beq_eq_false_iff_ne.2 (by omega)
    have hki : (k : Int) ≤ m := by rw [← Hm.out] at hk2; omega
    clear HR' hr hk2
    simp only [Option.map_some]
    go_enter Tryd.func24, Tryd.ntmps24
    go_wp2_with fail
    refine (HA.out _).mono ?_
    rintro e w1 ⟨rfl, rfl⟩
    unfold rsV
    go_wp2_with fail
    refine bodyPost_ret (v := rvV (some (⟨3, 0, ⟨t.toArray⟩⟩, k + 1))) (by simp [results, Tryd.results24, go_sem, rvV]) rfl ⟨rfl, ?_⟩
    exact World.grownBy_alloc _ _ _
theorem refReadValue_any (a : Option Addr) (cap : Nat) (l : List UInt8) (w : World) (hb : BAt w.heap.size w a l) (hc : l.length ≤ cap) (hm : cap ≤ 9223372036854775807) :
    Calls Tryd.prog 24 #[.slice a l.length cap] w (RvPost w (readV l)) := by
  cases l with
  | nil => exact refReadValue_plain a cap [] w hb (.inl rfl)
  | cons c s =>
    obtain ⟨b, off, rfl, _, _⟩ := hb.at (i := 0) (by simp)
    by_cases h3 : c = 3
    · subst h3; exact refReadValue_int b off cap s w hb (by simpa using hc) hm
    · by_cases h4 : c = 4
      · subst h4; exact refReadValue_text b off cap s w hb (by simpa using hc) hm
      · exact refReadValue_plain _ cap (c :: s) w hb (.inr ⟨h3, h4⟩)
end Go.Proofs.YthdaibmminibhaaDoor
