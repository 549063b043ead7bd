/- The contract of lex's Lex. -/
import Derived.Test.YtiahojbliaaklaaGreatDoorLxU
import Derived.Test.YtiahojbliaaklaaGreatDoorLxI
namespace Go.Proofs.YtiahojbliaaklaaGreatDoor
open Go.RowKit

theorem litC_codes (l : List UInt8) : litC l = 0 ∨ litC l = 1 ∨ litC l = 10 := by
  rcases litC_cases l with h | h | h <;> omega
theorem tokL_codes (l : List UInt8) (k n c : Nat) (h : tokL l = (k, n, c)) : c = 0 ∨ c = 1 ∨ c = 10 := by
  match l, h with
  | [], h => simp [tokL] at h; omega
  | a :: r, h =>
    simp only [tokL] at h
    repeat' split at h
    all_goals
      simp only [Prod.mk.injEq] at h
      obtain ⟨_, _, rfl⟩ := h
      first | exact litC_codes _ | simp
theorem lexF_codes (s : ByteArray) : ∀ (f k : Nat) (acc : List Tk) (p c : Nat), lexF s f k acc = .error (p, c) → c = 1 ∨ c = 3 ∨ c = 10 ∨ c = 13
  | 0, _, _, _, _, h => by simp [lexF] at h
  | f + 1, k, acc, p, c, h => by
    have hr := lexF_round s f k acc
    by_cases he : nxt s k = s.size
    · rw [hr.1 he] at h; cases h
    · cases ht : tokL (s.data.toList.drop (nxt s k)) with | mk kd NC =>
      obtain ⟨N, d⟩ := NC
      have h2 := hr.2 he kd N d ht
      by_cases h0 : d = 0
      · by_cases hl : acc.length = 250
        · rw [h2.2.1 h0 hl] at h; cases h; simp
        · rw [h2.2.2 h0 hl] at h; exact lexF_codes s f _ _ p c h
      · rw [h2.1 h0] at h
        cases h
        rcases tokL_codes _ _ _ _ ht with h | h | h <;> omega
theorem lexL_codes (s : ByteArray) (p c : Nat) (h : lexL s = .error (p, c)) : c = 1 ∨ c = 3 ∨ c = 10 ∨ c = 13 := by
  unfold lexL at h
  split at h
  · cases h; simp
  · exact lexF_codes s _ _ _ p c h
/-- What Lex answers. -/
def LexIs (r : Except (Nat × Nat) (List Tk)) (w : World) (e : Ending) (w' : World) : Prop :=
  (∃ p c, r = .error (p, c) ∧ e = .returned (.tuple #[.slice none 0 0, .int .i64 (p : Nat), .int .i64 (c : Nat)]) ∧ w.grownBy w' none)
  ∨ (∃ t v, r = .ok t ∧ e = .returned (.tuple #[v, .int .i64 0, .int .i64 0]) ∧ w'.ownsRow w.heap.size 31 3 v t.length (t.flatMap Tk.c) ∧ w.grownBy w' none)
theorem HitF.grownX {w w' : World} {t : Nat} {x : Int} {ty : TypeId} {p : Value} (h : HitF w t x ty p w') : w.grownBy w' (some t) := by
  obtain ⟨w4, hg, rfl⟩ := h
  exact grown_setX (grown_setX (grown_noneX hg _) _ _) _ _
theorem HitF.cellsX {w w' : World} {t : Nat} {x : Int} {ty : TypeId} {p : Value} (h : HitF w t x ty p w') {o0 o1 : Value} (h0 : w.cell? ⟨t, 0, none⟩ = some o0) (h1 : w.cell? ⟨t, 1, none⟩ = some o1) : w'.cell? ⟨t, 0, none⟩ = some (.int .i64 x) ∧ w'.cell? ⟨t, 1, none⟩ = some (.iface ty p) := by
  obtain ⟨w4, hg, rfl⟩ := h
  have a0 := hg.cell h0 (by simp)
  have a1 := hg.cell h1 (by simp)
  have b0 : (w4.setCell ⟨t, 0, none⟩ (.int .i64 x)).cell? ⟨t, 0, none⟩ = some (.int .i64 x) := World.cell?_setCell_same w4 _ _ a0
  have b1 : (w4.setCell ⟨t, 0, none⟩ (.int .i64 x)).cell? ⟨t, 1, none⟩ = some o1 := (World.cell?_setCell_other w4 _ _ _ (by simp)).trans a1
  exact ⟨(World.cell?_setCell_other _ _ _ _ (by simp)).trans b0, World.cell?_setCell_same _ _ _ b1⟩
set_option maxHeartbeats 3200000 in
theorem Lex_any (G : Nat) (n g m l : Addr) (s : ByteArray) (w : World) (hE : LxEnv G n g m l w) :
    Calls Tryz.prog 5 #[.string s] w (LexIs (lexL s) w) := by
  have HA := Lib.hid (all_any G n g m l s w hE)
  have HE := Lib.hid hE
  have HCd := Lib.hid (lexL_codes s)
  clear hE
  generalize lexL s = r at *
  go_enter Tryz.func5, Tryz.ntmps5
  go_wp2_with fail
  refine (HA.out).mono ?_
  rintro e w1 (⟨p, c, ty, pv, hr, hv, rfl, hg⟩ | ⟨t, v, hr, rfl, ho, hg⟩)
  · have K1 := Lib.hid (hg.trans (World.grownBy_alloc w1 (.cells #[.int .i64 0, .nilIface] 38) none))
    have hz := hg.size
    obtain ⟨b0, b1⟩ := box2X w1 (.int .i64 0) .nilIface 38
    have E1 := HE.out.keep K1.out
    have hAs := as_hitF (p : Int) ty pv w1.heap.size G _ _ (w1.alloc (.cells #[.int .i64 0, .nilIface] 38)) E1.et b0 b1 (by simp) (by simp)
    have HAs := Lib.hid hAs
    have hc := HCd.out p c hr
    have HC := Lib.hid hc
    have HV := Lib.hid hv
    have HR := Lib.hid hr
    clear hg hAs E1 hr hv hc b0 b1
    go_wp2_with fail
    refine (HAs.out).mono ?_
    rintro e w2 ⟨rfl, hh⟩
    have K2 := Lib.hid (grown_thenX K1.out hh.grownX (fun j hj => by cases hj; exact hz))
    obtain ⟨c0, c1⟩ := hh.cellsX (box2X w1 (.int .i64 0) .nilIface 38).1 (box2X w1 (.int .i64 0) .nilIface 38).2
    have C2 := Lib.hid (And.intro c0 c1)
    have HNo : Hid (∀ W, w.grownBy W none → Calls Tryz.prog 10 #[.agg #[.int .i64 p, .iface ty pv]] W fun e w' => e = .returned (.int .i64 (c : Nat)) ∧ W.grownBy w' none) := Lib.hid fun W hW => by
      have := faultNo_any G n g m l p c HC.out W (HE.out.keep hW)
      rw [HV.out] at this
      exact this
    clear hh
    go_wp2_with fail
    go_region_with (go_at_call 10; (with_reducible refine (HNo.out _ (by first | exact grown_drew1X K2.out | exact K2.out)).mono ?_); rintro e w4 ⟨rfl, hg4⟩; have K4 := Lib.hid ((grown_drew1X K2.out).trans hg4); have x0 := hg4.cell C2.out.1 (by simp); have x1 := hg4.cell C2.out.2 (by simp); clear hg4)
    all_goals
      go_wp2_with fail
      go_ret3
      exact .inl ⟨_, _, HR.out, rfl, K4.out⟩
  · have K1 := Lib.hid (hg.trans (World.grownBy_alloc w1 (.cells #[.int .i64 0, .nilIface] 38) none))
    have O1 := Lib.hid (ho.alloc (.cells #[.int .i64 0, .nilIface] 38))
    have HR := Lib.hid hr
    clear hg ho hr
    have HN := Lib.hid as_nil
    go_wp2_with fail
    refine (HN.out _ _).mono ?_
    rintro e w2 ⟨rfl, rfl⟩
    go_wp2_with fail
    go_ret3
    exact .inr ⟨_, _, HR.out, rfl, O1.out, K1.out⟩
end Go.Proofs.YtiahojbliaaklaaGreatDoor
