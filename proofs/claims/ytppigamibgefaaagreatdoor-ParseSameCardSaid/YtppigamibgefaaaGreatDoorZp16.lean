/- What the cards of layer 10 share: their ten listed variables, and what these give. tree's walk: how it begins, and its next. The contracts of lex's named and sign. -/
import Derived.Test.YtppigamibgefaaaGreatDoorRows
import Derived.Test.YtppigamibgefaaaGreatDoorZp14
import Derived.ProofKit
import Derived.OpenShut
import Derived.Deep.Slices
import Derived.Deep.Fields
import Derived.ChangeSame
import Derived.Lib.SmallJoins
import Derived.LaidMore
import Derived.LaidHandle
import Derived.Stop.Joined
import Derived.Lib.LaidTab
import Derived.Stop.LaidErr
import Derived.MakeChecks
import Derived.Test.YtppigamibgefaaaGreatDoorZp15
import Derived.Laws.EntriesVeiled
namespace Go.Proofs.YtppigamibgefaaaGreatDoor
open Go.ChangeShapes Go.WideShapes Go.ChangeAt Go.RowKit Go.Joins Go.Deep

theorem heap_ltL {w : World} {b : Nat} {o : Obj} (h : w.heap[b]? = some o) : b < w.heap.size := by
  rcases Nat.lt_or_ge b w.heap.size with h1 | h1
  · exact h1
  · rw [Array.getElem?_eq_none h1] at h; cases h
theorem own : ownKnob Tryz.prog.godebug = none := by kernel_rfl
theorem laidOut : laidOutB Tryz.prog = true := by kernel_rfl
def tail9x : List (String × DataW Unit) := [("math/bits.deBruijn32tab", Rows.laid_math_bits_deBruijn32tab), ("math/bits.deBruijn64tab", Rows.laid_math_bits_deBruijn64tab), ("internal/strconv.uint64pow10", Rows.laid_internal_strconv_uint64pow10), ("strconv.ErrRange", Rows.laid_strconv_ErrRange), ("strconv.ErrSyntax", Rows.laid_strconv_ErrSyntax), ("stillroom/lex.errNone", Rows.laid_stillroom_lex_errNone), ("stillroom/lex.errGreat", Rows.laid_stillroom_lex_errGreat), ("stillroom/lex.errMany", Rows.laid_stillroom_lex_errMany), ("stillroom/lex.errLong", Rows.laid_stillroom_lex_errLong)]
def laid10x : List (String × DataW Unit) := [("math/bits.deBruijn32tab", Rows.laid_math_bits_deBruijn32tab), ("math/bits.deBruijn64tab", Rows.laid_math_bits_deBruijn64tab), ("internal/strconv.uint64pow10", Rows.laid_internal_strconv_uint64pow10), ("errors.errorType", Rows.laid_errors_errorType), ("strconv.ErrRange", Rows.laid_strconv_ErrRange), ("strconv.ErrSyntax", Rows.laid_strconv_ErrSyntax), ("stillroom/lex.errNone", Rows.laid_stillroom_lex_errNone), ("stillroom/lex.errGreat", Rows.laid_stillroom_lex_errGreat), ("stillroom/lex.errMany", Rows.laid_stillroom_lex_errMany), ("stillroom/lex.errLong", Rows.laid_stillroom_lex_errLong)]
theorem door_met10x (os : Os) (args : Array Value) : laidMetH Tryz.prog laid10x ((World.doorLaid Tryz.prog 400 os).forCall (fun _ _ => 0) ⟨#[], args, []⟩).memory :=
  laidMetH_of_parts3 (fuel := 8) (laidMet_of_run' 8 (by kernel_rfl) (by kernel_rfl)) (by kernel_rfl) (by kernel_rfl)
theorem split10x {W : World} (h : laidMetH Tryz.prog laid10x W) : laidMet Tryz.prog tail9x W ∧ handlesMet Tryz.prog [("errors.errorType", Rows.laid_errors_errorType)] W := h
theorem et_named : Tryz.prog.globalNamed "errors.errorType" = some 0 := by kernel_rfl
theorem rt_named : (Tryz.prog.cutTypes.find? (·.1 == "internal/reflectlite.rtype")).map (·.2) = some 174 := by kernel_rfl
theorem types_size : Tryz.prog.types.size = 332 := by kernel_rfl
theorem one_error : ((List.range 332).filter fun t => Tryz.prog.rowNamed t [101, 114, 114, 111, 114]) = [83] := by kernel_rfl
/-- The variable errors.errorType, out of the condition. -/
theorem handle_of {l : List (String × DataW Unit)} {W : World} (h : handlesMet Tryz.prog l W) (hm : ("errors.errorType", Rows.laid_errors_errorType) ∈ l) : ErrT W.heap.size W := by
  obtain ⟨name, u, ty, e1, e2, e3, e4, e5⟩ := h _ hm
  have en : name = [101, 114, 114, 111, 114] := (Option.some.inj e1).symm
  subst en
  obtain rfl := Option.some.inj (rt_named.symm.trans e2)
  have hm : ty ∈ (List.range 332).filter fun t => Tryz.prog.rowNamed t [101, 114, 114, 111, 114] := List.mem_filter.2 ⟨List.mem_range.2 (by rw [← types_size]; exact e3), e4⟩
  rw [one_error] at hm
  obtain rfl := List.mem_singleton.1 hm
  have hh : typeHandle Tryz.prog 83 = .pointer (some ⟨16, 83, none⟩) := by kernel_rfl
  rw [hh] at e5
  have hc : W.cell? ⟨0, 0, none⟩ = some (.iface 174 (.agg #[.pointer (some ⟨16, 83, none⟩)])) := by simpa using World.var?_cell et_named e5 0
  exact ⟨block_lt_of_cell hc, hc⟩
theorem star_err : "*" ++ "errors.errorString" = "*errors.errorString" := by decide
set_option maxRecDepth 100000 in
theorem row_err (u : TypeId) (h : Tryz.prog.typeName? 3 u = some "*errors.errorString") : u = 291 :=
  typeName_ptr_named (nm := "errors.errorString") (by rw [star_err]; kernel_rfl) (by kernel_rfl) (by decide) u (by rw [star_err]; exact h)
/-- A sentinel at the head of the list, its block's marks too, of whatever program. -/
theorem laid_sentinelL {P : Program} {n nm : String} {text : List UInt8} {r : List (String × DataW Unit)} {W : World} {g : Nat} {ti tp te ts : TypeId} {ms : Array (String × TypeId)} {f : Field}
    (h : laidMet P ((n, .iface nm (.ptr (.agg [.lit (.string text)]))) :: r) W)
    (hg : P.globalNamed n = some g) (ht : (P.globals[g]?).map (·.type) = some ti) (hi : P.underlying ti = some (.interface ms)) (hrow : ∀ u, P.typeName? 3 u = some nm → u = tp)
    (hp : P.underlying tp = some (.pointer te)) (he : P.underlying te = some (.struct #[f])) (hft : f.type = ts) (hfo : f.offset = 0) (hs : P.underlying ts = some .string) (hc : P.cellsOf te = 1) (hcs : P.cellsOf ts = 1) :
    ∃ (a : Addr) (s : ByteArray) (c : Array Value) (t : TypeId), W.cell? ⟨g, 0, none⟩ = some (.iface tp (.pointer (some a))) ∧ W.cell? a = some (.string s) ∧ s.data.toList = text ∧ W.heap[a.block]? = some (.cells c t (0, 0)) := by
  obtain ⟨ps, ⟨g0, t0, cs0, f0, p0, q0, hg0, ht0, hv0, hd0, _, e0⟩, _, hrows⟩ := h
  obtain rfl := Option.some.inj (hg.symm.trans hg0)
  obtain rfl := Option.some.inj (ht.symm.trans ht0)
  subst e0
  obtain ⟨l0⟩ := cs0
  have ok0 : ∀ u v, l0 = [.iface u v] → Value.okWide P W .any 0 u v := fun u v e => by
    subst e
    exact (hrows g 0 (by simp [MemPlace.row])).2 u v (by simpa using World.var?_cell hg0 hv0 0)
  obtain ⟨a0, s0, rfl, hc0, hs0, hz0, rfl⟩ := errorString_of_trod hi hrow hp he hft hfo hs hc hcs hd0 ok0
  obtain ⟨c0, t0, hb0⟩ := (hrows a0.block a0.off (by simp [MemPlace.row])).1
  exact ⟨a0, s0, c0, t0, by simpa using World.var?_cell hg0 hv0 0, hc0, hs0, hb0⟩
theorem senAt_of {n : String} {text : List UInt8} {r : List (String × DataW Unit)} {W : World} {g : Nat} (h : laidMet Tryz.prog ((n, .iface "*errors.errorString" (.ptr (.agg [.lit (.string text)]))) :: r) W) (hg : Tryz.prog.globalNamed n = some g) (ht : (Tryz.prog.globals[g]?).map (·.type) = some 83) :
    ∃ a, SenAt W.heap.size g a text W := by
  obtain ⟨a, s, c, t, hv, hc, hs, hb⟩ := laid_sentinelL h hg ht Tryz.underlying83 row_err Tryz.underlying291 Tryz.underlying293 rfl rfl Tryz.underlying9 (by kernel_rfl) (by kernel_rfl)
  exact ⟨a, block_lt_of_cell hv, heap_ltL hb, hv, ⟨s, hc, hs⟩, ⟨c, t, hb⟩⟩
set_option maxRecDepth 100000 in
theorem lxEnv_of {W : World} (h : laidMetH Tryz.prog laid10x W) : ∃ n g m l, LxEnv W.heap.size n g m l W := by
  have h5 := (split10x h).1.tail.tail.tail
  obtain ⟨_, hr⟩ := senAt_of h5 (by kernel_rfl) (by kernel_rfl)
  obtain ⟨n, hn⟩ := senAt_of h5.tail.tail (by kernel_rfl) (by kernel_rfl)
  obtain ⟨g, hg⟩ := senAt_of h5.tail.tail.tail (by kernel_rfl) (by kernel_rfl)
  obtain ⟨m, hm⟩ := senAt_of h5.tail.tail.tail.tail (by kernel_rfl) (by kernel_rfl)
  obtain ⟨l, hl⟩ := senAt_of h5.tail.tail.tail.tail.tail (by kernel_rfl) (by kernel_rfl)
  exact ⟨n, g, m, l, hn, hg, hm, hl, ⟨_, _, hr.var⟩, hr.lt, handle_of (split10x h).2 (by simp), Nat.le_refl _⟩
theorem below_grownL {w w' : World} (h : w.grownBy w' none) : Below w.heap.size w w' := ⟨h.os, h.tape, h.output, h.size, fun i hi => h.block i hi (by simp)⟩
end Go.Proofs.YtppigamibgefaaaGreatDoor
namespace Go.Proofs.YtppigamibgefaaaGreatDoor
open Go.RowKit

theorem RwS.of {w : World} {a : Option Addr} {l : List Vl} (h : RowAt w a l) (hl : l.length ≤ 4294967296) : RwS (fun b => b < w.heap.size) w a l :=
  ⟨hl, h.2.1, h.2.2.imp id fun ⟨b, off, e, hlt, hc⟩ => ⟨b, off, e, hlt, hlt, hc⟩⟩
theorem only_grown {M : Nat → Prop} {w w1 w2 : World} (hg : w.grownBy w1 none) (ho : Only M w1 w2) (hM : ∀ b, M b → w.heap.size ≤ b) : w.grownBy w2 none :=
  ⟨ho.os.trans hg.os, ho.tape.trans hg.tape, ho.output.trans hg.output, Nat.le_trans hg.size ho.size, fun b hb _ => (ho.block b (Nat.lt_of_lt_of_le hb hg.size) (fun e => by have := hM b e; omega)).trans (hg.block b hb (by simp))⟩
end Go.Proofs.YtppigamibgefaaaGreatDoor
namespace Go.Proofs.YtppigamibgefaaaGreatDoor
open Go.RowKit

/-- What letters that stand together are. -/
def namC (s : ByteArray) : Nat × Nat := if wordB s.data.toList then (5, 0) else if nameB s then (1, 0) else (0, 10)
set_option maxHeartbeats 800000 in
theorem named_any (G : Nat) (n g m l : Addr) (s : ByteArray) (w : World) (hE : LxEnv G n g m l w) :
    Calls Tryz.prog 163 #[.string s] w fun e w' => e = .returned (.tuple #[.int .i64 (namC s).1, errV n g m l (namC s).2]) ∧ w.grownBy w' none := by
  have HW := Lib.hid (word_any s w)
  have HN := Lib.hid (name_any s w)
  have cv := hE.sn.var
  clear hE
  unfold namC
  cases h1 : wordB s.data.toList
  · rw [h1] at HW
    cases h2 : nameB s
    · rw [h2] at HN
      clear h1 h2
      go_enter Tryz.func163, Tryz.ntmps163
      go_wp2_with fail
      refine (HW.out).mono ?_
      rintro e w1 ⟨rfl, rfl⟩
      go_wp2_with fail
      refine (HN.out).mono ?_
      rintro e w1 ⟨rfl, rfl⟩
      go_wp2_with fail
      go_quiet (fail)
      go_wp2_with fail
      go_ret2
      exact ⟨rfl, grown_drewX (grown_reflX _ _) _⟩
    · rw [h2] at HN
      clear h1 h2
      go_enter Tryz.func163, Tryz.ntmps163
      go_wp2_with fail
      refine (HW.out).mono ?_
      rintro e w1 ⟨rfl, rfl⟩
      go_wp2_with fail
      refine (HN.out).mono ?_
      rintro e w1 ⟨rfl, rfl⟩
      go_wp2_with fail
      go_ret2
      exact ⟨rfl, grown_reflX _ _⟩
  · rw [h1] at HW
    clear h1
    go_enter Tryz.func163, Tryz.ntmps163
    go_wp2_with fail
    refine (HW.out).mono ?_
    rintro e w1 ⟨rfl, rfl⟩
    go_wp2_with fail
    go_ret2
    exact ⟨rfl, grown_reflX _ _⟩

theorem sign_byte {s : ByteArray} {c : UInt8} {r : List UInt8} (h : s.data.toList = c :: r) : ∃ h0 : 0 < s.size, s[0] = c := by
  obtain ⟨h0, e, _⟩ := shut1 h
  exact ⟨h0, e⟩
/-- What a text's sign comes to. -/
def sigC (s : ByteArray) : Nat := if signN s.data.toList = 0 then 10 else 0
theorem idx_sign (c : UInt8) : decide (Lib.indexByte [61, 60, 62, 42, 44, 40, 41] c < 0) = !([61, 60, 62, 42, 44, 40, 41] : List UInt8).contains c := by
  have : ∀ i : Fin 256, decide (Lib.indexByte [61, 60, 62, 42, 44, 40, 41] (UInt8.ofNat i.val) < 0) = !([61, 60, 62, 42, 44, 40, 41] : List UInt8).contains (UInt8.ofNat i.val) := by decide +kernel
  have h := this ⟨c.toNat, c.toNat_lt⟩
  rwa [UInt8.ofNat_toNat] at h
theorem signIx_any (c : UInt8) (w : World) :
    Calls Tryz.prog 177 #[.string ⟨#[61, 60, 62, 42, 44, 40, 41]⟩, .int .u8 c.toNat] w fun e w' => e = .returned (.int .i64 (Lib.indexByte [61, 60, 62, 42, 44, 40, 41] c)) ∧ w = w' :=
  (Tryz.strings_IndexByte ⟨#[61, 60, 62, 42, 44, 40, 41]⟩ c.toNat w).mono fun _ _ ⟨he, hw⟩ => ⟨by rw [he]; simp, hw.symm⟩
set_option maxHeartbeats 1600000 in
theorem sign_any (G : Nat) (n g m l : Addr) (s : ByteArray) (w : World) (h1 : 1 ≤ s.size) (hE : LxEnv G n g m l w) :
    Calls Tryz.prog 164 #[.string s] w fun e w' => e = .returned (.tuple #[.int .i64 (signN s.data.toList), errV n g m l (sigC s)]) ∧ w.grownBy w' none := by
  have HP0 := Lib.hid (prefix_any s ⟨#[60, 62]⟩)
  have HP1 := Lib.hid (prefix_any s ⟨#[60, 61]⟩)
  have HP2 := Lib.hid (prefix_any s ⟨#[62, 61]⟩)
  rw [show (⟨#[60, 62]⟩ : ByteArray).data.toList = [60, 62] from rfl] at HP0
  rw [show (⟨#[60, 61]⟩ : ByteArray).data.toList = [60, 61] from rfl] at HP1
  rw [show (⟨#[62, 61]⟩ : ByteArray).data.toList = [62, 61] from rfl] at HP2
  have HE := Lib.hid hE
  clear hE
  unfold sigC signN
  generalize q0 : Lib.hasPrefix s.data.toList [60, 62] = p0 at *
  generalize q1 : Lib.hasPrefix s.data.toList [60, 61] = p1 at *
  generalize q2 : Lib.hasPrefix s.data.toList [62, 61] = p2 at *
  clear q0 q1 q2
  cases hs : s.data.toList with
  | nil => have h9 := size_list hs; rw [List.length_nil] at h9; omega
  | cons c r =>
  obtain ⟨h0, ec⟩ := sign_byte hs
  have i0 : (0 : Int) < s.size := by omega
  have ecn : s[0].toNat = c.toNat := by rw [ec]
  have HI := Lib.hid (signIx_any c)
  have hx := idx_sign c
  generalize Lib.indexByte [61, 60, 62, 42, 44, 40, 41] c = ix at *
  clear hs ec
  cases p0
  · cases p1
    · cases p2
      · simp only [Bool.or_self, Bool.false_eq_true, if_false]
        cases hc : ([61, 60, 62, 42, 44, 40, 41] : List UInt8).contains c
        · rw [hc] at hx
          have hx' : ix < 0 := by simpa using hx
          clear hx hc
          simp only [Bool.false_eq_true, if_false, if_true]
          go_enter Tryz.func164, Tryz.ntmps164
          go_wp2_with fail
          refine wp_loop_rounds 4 ?_
          rw [rounds_succ]
          go_wp2_with fail
          refine (HP0.out _).mono ?_
          rintro e w1 ⟨rfl, rfl⟩
          go_wp2_with fail
          rw [rounds_succ]
          go_wp2_with fail
          refine (HP1.out _).mono ?_
          rintro e w1 ⟨rfl, rfl⟩
          go_wp2_with fail
          rw [rounds_succ]
          go_wp2_with fail
          refine (HP2.out _).mono ?_
          rintro e w1 ⟨rfl, rfl⟩
          go_wp2_with fail
          rw [rounds_succ]
          go_wp2_with fail
          refine (HI.out _).mono ?_
          rintro e w1 ⟨rfl, rfl⟩
          have K1 := Lib.hid (World.grownBy_alloc w (.cells #[.string ⟨#[60, 62]⟩, .string ⟨#[60, 61]⟩, .string ⟨#[62, 61]⟩] 9) none)
          have cv := (HE.out.keep K1.out).sn.var
          go_wp2_with fail
          go_quiet (fail)
          go_wp2_with fail
          go_ret2
          exact ⟨rfl, grown_drewX K1.out _⟩
        · rw [hc] at hx
          have hx' : 0 ≤ ix := by simpa using hx
          clear hx hc
          simp only [if_true, Nat.one_ne_zero, if_false]
          go_enter Tryz.func164, Tryz.ntmps164
          go_wp2_with fail
          refine wp_loop_rounds 4 ?_
          rw [rounds_succ]
          go_wp2_with fail
          refine (HP0.out _).mono ?_
          rintro e w1 ⟨rfl, rfl⟩
          go_wp2_with fail
          rw [rounds_succ]
          go_wp2_with fail
          refine (HP1.out _).mono ?_
          rintro e w1 ⟨rfl, rfl⟩
          go_wp2_with fail
          rw [rounds_succ]
          go_wp2_with fail
          refine (HP2.out _).mono ?_
          rintro e w1 ⟨rfl, rfl⟩
          go_wp2_with fail
          rw [rounds_succ]
          go_wp2_with fail
          refine (HI.out _).mono ?_
          rintro e w1 ⟨rfl, rfl⟩
          go_wp2_with fail
          go_ret2
          exact ⟨rfl, World.grownBy_alloc _ _ _⟩
      · clear hx
        simp only [Bool.or_true, if_true, Nat.succ_ne_zero, if_false]
        go_enter Tryz.func164, Tryz.ntmps164
        go_wp2_with fail
        refine wp_loop_rounds 3 ?_
        rw [rounds_succ]
        go_wp2_with fail
        refine (HP0.out _).mono ?_
        rintro e w1 ⟨rfl, rfl⟩
        go_wp2_with fail
        rw [rounds_succ]
        go_wp2_with fail
        refine (HP1.out _).mono ?_
        rintro e w1 ⟨rfl, rfl⟩
        go_wp2_with fail
        rw [rounds_succ]
        go_wp2_with fail
        refine (HP2.out _).mono ?_
        rintro e w1 ⟨rfl, rfl⟩
        go_wp2_with fail
        go_ret2
        exact ⟨rfl, World.grownBy_alloc _ _ _⟩
    · clear hx
      simp only [Bool.or_true, Bool.true_or, if_true, Nat.succ_ne_zero, if_false]
      go_enter Tryz.func164, Tryz.ntmps164
      go_wp2_with fail
      refine wp_loop_rounds 2 ?_
      rw [rounds_succ]
      go_wp2_with fail
      refine (HP0.out _).mono ?_
      rintro e w1 ⟨rfl, rfl⟩
      go_wp2_with fail
      rw [rounds_succ]
      go_wp2_with fail
      refine (HP1.out _).mono ?_
      rintro e w1 ⟨rfl, rfl⟩
      go_wp2_with fail
      go_ret2
      exact ⟨rfl, World.grownBy_alloc _ _ _⟩
  · clear hx
    simp only [Bool.true_or, if_true, Nat.succ_ne_zero, if_false]
    go_enter Tryz.func164, Tryz.ntmps164
    go_wp2_with fail
    refine wp_loop_rounds 1 ?_
    rw [rounds_succ]
    go_wp2_with fail
    refine (HP0.out _).mono ?_
    rintro e w1 ⟨rfl, rfl⟩
    go_wp2_with fail
    go_ret2
    exact ⟨rfl, World.grownBy_alloc _ _ _⟩
end Go.Proofs.YtppigamibgefaaaGreatDoor
