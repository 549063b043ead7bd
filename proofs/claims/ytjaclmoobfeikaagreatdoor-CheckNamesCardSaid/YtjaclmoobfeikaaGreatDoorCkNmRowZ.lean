/- What the cards of layer 12 share: their fifteen listed variables, and what these give. A list of names with one more: the document's. A predicate's names, one by one: the document's. The items of the keys: the document's. Appends to windows, room or none, of any number of elements. The columns that a query names: the document's. A sort of nothing. What follows its like is struck: the library's words are ours. Windows of names that are sorted. The columns that a query names: the program's. The law CheckNames, walked: true at any text. The law CheckNames, in the row's words. PROVED: the card of CheckNames: at every input, in whatever memory that meets the row's listed variables (which the card ties to the program's text), the call returns true and its arguments read as they did. No condition of our own. -/
import Derived.Test.YtjaclmoobfeikaaGreatDoorZk18
import Derived.Test.YtjaclmoobfeikaaGreatDoorZk25
import Derived.Test.YtjaclmoobfeikaaGreatDoorZk34
import Derived.Test.YtjaclmoobfeikaaGreatDoorZk24
import Derived.Test.YtjaclmoobfeikaaGreatDoorZk36
import Derived.Test.YtjaclmoobfeikaaGreatDoorZk38
import Derived.Deep.RegionHeld
import Derived.Lib.SlicesCompact
import Derived.Sort.Grow
import Derived.Test.YtjaclmoobfeikaaGreatDoorZk43
import Derived.Test.YtjaclmoobfeikaaGreatDoorZk42
import Derived.Test.YtjaclmoobfeikaaGreatDoorCards
import Derived.Test.YtjaclmoobfeikaaGreatDoorTie
import Derived.SevenTiedAt
namespace Go.Proofs.YtjaclmoobfeikaaGreatDoor
open Go.ChangeShapes Go.WideShapes Go.ChangeAt Go.RowKit Go.Joins Go.Deep

def tail12x : List (String × DataW Unit) := [("math/bits.deBruijn32tab", Rows.laid_math_bits_deBruijn32tab), ("math/bits.deBruijn64tab", Rows.laid_math_bits_deBruijn64tab), ("internal/strconv.uint64pow10", Rows.laid_internal_strconv_uint64pow10), ("strconv.ErrRange", Rows.laid_strconv_ErrRange), ("strconv.ErrSyntax", Rows.laid_strconv_ErrSyntax), ("stillroom/check.errTable", Rows.laid_stillroom_check_errTable), ("stillroom/check.errColumn", Rows.laid_stillroom_check_errColumn), ("stillroom/check.errType", Rows.laid_stillroom_check_errType), ("stillroom/check.errTwice", Rows.laid_stillroom_check_errTwice), ("stillroom/check.errGroup", Rows.laid_stillroom_check_errGroup), ("stillroom/lex.errNone", Rows.laid_stillroom_lex_errNone), ("stillroom/lex.errGreat", Rows.laid_stillroom_lex_errGreat), ("stillroom/lex.errMany", Rows.laid_stillroom_lex_errMany), ("stillroom/lex.errLong", Rows.laid_stillroom_lex_errLong)]
def laid12x : List (String × DataW Unit) := [("math/bits.deBruijn32tab", Rows.laid_math_bits_deBruijn32tab), ("math/bits.deBruijn64tab", Rows.laid_math_bits_deBruijn64tab), ("internal/strconv.uint64pow10", Rows.laid_internal_strconv_uint64pow10), ("errors.errorType", Rows.laid_errors_errorType), ("strconv.ErrRange", Rows.laid_strconv_ErrRange), ("strconv.ErrSyntax", Rows.laid_strconv_ErrSyntax), ("stillroom/check.errTable", Rows.laid_stillroom_check_errTable), ("stillroom/check.errColumn", Rows.laid_stillroom_check_errColumn), ("stillroom/check.errType", Rows.laid_stillroom_check_errType), ("stillroom/check.errTwice", Rows.laid_stillroom_check_errTwice), ("stillroom/check.errGroup", Rows.laid_stillroom_check_errGroup), ("stillroom/lex.errNone", Rows.laid_stillroom_lex_errNone), ("stillroom/lex.errGreat", Rows.laid_stillroom_lex_errGreat), ("stillroom/lex.errMany", Rows.laid_stillroom_lex_errMany), ("stillroom/lex.errLong", Rows.laid_stillroom_lex_errLong)]
theorem door_met12x (os : Os) (args : Array Value) : laidMetH Tryz.prog laid12x ((World.doorLaid Tryz.prog 400 os).forCall (fun _ _ => 0) ⟨#[], args, []⟩).memory :=
  laidMetH_of_parts3 (fuel := 8) (laidMet_of_run' 8 (by kernel_rfl) (by kernel_rfl)) (by kernel_rfl) (by kernel_rfl)
theorem split12x {W : World} (h : laidMetH Tryz.prog laid12x W) : laidMet Tryz.prog tail12x W ∧ handlesMet Tryz.prog [("errors.errorType", Rows.laid_errors_errorType)] W := h
set_option maxRecDepth 100000 in
theorem lxEnv12_of {W : World} (h : laidMetH Tryz.prog laid12x W) : ∃ n g m l, LxEnv W.heap.size n g m l W := by
  have h5 := (split12x h).1.tail.tail.tail
  obtain ⟨_, hr⟩ := senAt_of h5 (by kernel_rfl) (by kernel_rfl)
  have h6 := h5.tail.tail.tail.tail.tail.tail.tail
  obtain ⟨n, hn⟩ := senAt_of h6 (by kernel_rfl) (by kernel_rfl)
  obtain ⟨g, hg⟩ := senAt_of h6.tail (by kernel_rfl) (by kernel_rfl)
  obtain ⟨m, hm⟩ := senAt_of h6.tail.tail (by kernel_rfl) (by kernel_rfl)
  obtain ⟨l, hl⟩ := senAt_of h6.tail.tail.tail (by kernel_rfl) (by kernel_rfl)
  exact ⟨n, g, m, l, hn, hg, hm, hl, ⟨_, _, hr.var⟩, hr.lt, handle_of (split12x h).2 (by simp), Nat.le_refl _⟩
def five12 (a b c d e : Addr) : Nat → Addr := fun n => if n = 14 then a else if n = 15 then b else if n = 16 then c else if n = 23 then d else e
set_option maxRecDepth 100000 in
theorem ckEnv12_of {W : World} (h : laidMetH Tryz.prog laid12x W) : ∃ f, CkEnv W.heap.size f W := by
  have h5 := (split12x h).1.tail.tail.tail.tail.tail
  obtain ⟨a, ha⟩ := senAt_of h5 (by kernel_rfl) (by kernel_rfl)
  obtain ⟨b, hb⟩ := senAt_of h5.tail (by kernel_rfl) (by kernel_rfl)
  obtain ⟨c, hc⟩ := senAt_of h5.tail.tail (by kernel_rfl) (by kernel_rfl)
  obtain ⟨d, hd⟩ := senAt_of h5.tail.tail.tail (by kernel_rfl) (by kernel_rfl)
  obtain ⟨e, he⟩ := senAt_of h5.tail.tail.tail.tail (by kernel_rfl) (by kernel_rfl)
  exact ⟨five12 a b c d e, ha, hb, hc, hd, he, handle_of (split12x h).2 (by simp), Nat.le_refl _⟩
end Go.Proofs.YtjaclmoobfeikaaGreatDoor
namespace Go.Proofs.YtjaclmoobfeikaaGreatDoor
open Go.RowKit

theorem str_infoT : (Tryz.prog.info? 9).map (fun i => (i.zero, i.size, i.bytes)) = some (some (.string ⟨#[]⟩), 1, 16) := by kernel_rfl
theorem str_el : ElT 47 9 (.string ⟨#[]⟩) 1 16 := ⟨Tryz.underlying47, info_partsT str_infoT, by decide, by decide, by decide⟩
theorem str_cell {S : Nat → Prop} {w : World} {a : Ptr} {l : List ByteArray} (h : CellsS S w a (l.map Value.string)) {i : Nat} (hi : i < l.length) : ∃ b off, a = some ⟨b, off, none⟩ ∧ b < w.heap.size ∧ w.cell? ⟨b, off + i, none⟩ = some (.string (l.getD i ⟨#[]⟩)) := by
  rcases h with e | ⟨b, off, e, _, hlt, hc⟩
  · have := congrArg List.length e
    simp at this
    subst this
    simp at hi
  · refine ⟨b, off, e, hlt, hc i _ ?_⟩
    rw [List.getElem?_map, List.getElem?_eq_getElem hi, List.getD_eq_getElem?_getD, List.getElem?_eq_getElem hi]
    rfl
theorem nm_drop {l : List ByteArray} {k : Nat} (h : k < l.length) : (l.drop k).map b8 = b8 (l.getD k ⟨#[]⟩) :: (l.drop (k + 1)).map b8 := by
  rw [List.drop_eq_getElem_cons h, List.map_cons, List.getD_eq_getElem?_getD, List.getElem?_eq_getElem h]
  rfl
/-- One name more behind a window of names. -/
theorem nm_news (W : World) (y : ByteArray) : ∀ j u, ([Value.string y] : List Value)[j]? = some u → (W.alloc (.cells #[.string y] 9)).cell? (Addr.add ⟨W.heap.size, 0, none⟩ j) = some u := by
  have := World.news_of_block (heap_alloc_new W (.cells #[.string y] 9))
  simpa using this
theorem nm_le {x y : ByteArray} : (b8 x ≤ b8 y) ↔ (Op.bytesLess x.toList y.toList || x.toList == y.toList) = true := by
  rw [Go.Proofs.bytesLess_eq, Lib.toList_data, Lib.toList_data]
  show x.data.toList ≤ y.data.toList ↔ _
  simp only [Bool.or_eq_true, decide_eq_true_eq, beq_iff_eq]
  constructor
  · intro h
    by_cases e : x.data.toList = y.data.toList
    · exact .inr e
    · exact .inl (nm_lt_of h e)
  · rintro (h | h)
    · exact nm_le_of h
    · rw [h]; exact List.le_refl _
set_option maxRecDepth 100000 in
set_option maxHeartbeats 1600000 in
theorem with_any (S : Nat → Prop) (a : Ptr) (cap : Nat) (l : List ByteArray) (x : ByteArray) (w : World) (h : CellsS S w a (l.map Value.string)) (hcap : l.length ≤ cap) (hl : l.length ≤ 100000) :
    Calls Tryz.prog 28 #[.slice a l.length cap, .string x] w fun e w' => (∃ (a' : Ptr) (cap' : Nat) (m : List ByteArray), e = .returned (.slice a' m.length cap') ∧ m.map b8 = withN (l.map b8) (b8 x) ∧ Win 1 w' a' cap' m.length (m.map Value.string) ∧ (∀ k, bk a' k → w.heap.size ≤ k)) ∧ w.grownBy w' none := by
  have H := Lib.hid h
  obtain ⟨n, hn⟩ : ∃ n, n = l.length := ⟨_, rfl⟩
  have Hn := Lib.hid hn
  rw [← hn] at hcap hl ⊢
  have HD : Hid (∀ k, k < n → (l.drop k).map b8 = b8 (l.getD k ⟨#[]⟩) :: (l.drop (k + 1)).map b8) := Lib.hid fun k hk => nm_drop (by rw [← Hn.out]; exact hk)
  have HZ : Hid (l.drop n = []) := Lib.hid (by rw [Hn.out]; simp)
  obtain ⟨r, hr⟩ : ∃ r, r = withN (l.map b8) (b8 x) := ⟨_, rfl⟩
  have Hr := Lib.hid hr
  rw [← hr]
  obtain ⟨em, hem⟩ : ∃ em, em = (x.toList == (⟨#[]⟩ : ByteArray).toList) := ⟨_, rfl⟩
  have Hx : Hid (em = true ↔ b8 x = []) := Lib.hid (by
    rw [hem, Lib.toList_data, Lib.toList_data]; unfold b8
    show (x.data.toList == ([] : List UInt8)) = true ↔ _
    exact beq_iff_eq)
  have HE : Hid (x.toList.isEmpty = em) := Lib.hid (by
    rw [hem, Lib.toList_data ⟨#[]⟩]
    show x.toList.isEmpty = (x.toList == ([] : List UInt8))
    cases x.toList <;> rfl)
  have hem := hem.symm
  clear h hn hr
  go_enter Tryz.func28, Tryz.ntmps28
  go_wp2_with fail
  go_loopw [5, 6, 12] (fun s5 s6 s12 wr => ∃ (k c m : Nat) (a' : Ptr) (d : Bool) (out : List ByteArray), s5 = .slice a' m c ∧ s6 = .bool d ∧ s12 = .int .i64 k ∧ k ≤ n ∧ m ≤ 2 * k + 1 ∧ Hid (m = out.length ∧ r = out.map b8 ++ (if d then (l.drop k).map b8 else insL1 (b8 x) ((l.drop k).map b8)) ∧ Win 1 wr a' c m (out.map Value.string) ∧ (∀ k, bk a' k → w.heap.size ≤ k) ∧ w.grownBy wr none)) (fun _ _ s12 _ => n - (intOf s12).toNat)
  case atStart =>
    refine ⟨0, 0, 0, none, em, [], rfl, congrArg Value.bool HE.out, rfl, by omega, by omega, Lib.hid ⟨rfl, ?_, Win.nil 1 _, fun k h => by simp [bk] at h, grown_reflT _ _⟩⟩
    rw [Hr.out, List.drop_zero]
    unfold withN
    cases em with
    | true => rw [if_pos (Hx.out.1 rfl)]; rfl
    | false => rw [if_neg (fun e => by have := Hx.out.2 e; cases this)]; rfl
  case round =>
    obtain ⟨k, c, m, a', d, out, rfl, rfl, rfl, hk, hm, K⟩ := hrel
    by_cases hlt : k < n
    · obtain ⟨b, off, rfl, _, hc⟩ := str_cell (H.out.keep (.of K.out.2.2.2.2)) (i := k) (by rw [← Hn.out]; exact hlt)
      have HDk := Lib.hid (HD.out k hlt)
      obtain ⟨y, hy⟩ : ∃ y, y = l.getD k ⟨#[]⟩ := ⟨_, rfl⟩
      have Hy := Lib.hid hy
      rw [← hy] at hc HDk
      clear hy
      have k0 : (0 : Int) ≤ k := by omega
      have k1 : (k : Int) < n := by omega
      have k2 : (k : Int) < cap := by omega
      have Next : Hid (∀ (d2 : Bool) (m2 c2 : Nat) (a2 : Ptr) (out2 : List ByteArray) (W : World), m2 = out2.length → r = out2.map b8 ++ (if d2 then (l.drop k).map b8 else insL1 (b8 x) ((l.drop k).map b8)) → (d2 = true ∨ ¬ b8 x ≤ b8 y) → Win 1 W a2 c2 m2 (out2.map Value.string) → (∀ k, bk a2 k → w.heap.size ≤ k) → w.grownBy W none →
          ∀ (a3 : Ptr) (c3 : Nat) (W3 : World), Win 1 W3 a3 c3 (m2 + 1) (out2.map Value.string ++ [.string y]) → Only (bk a2) (W.alloc (.cells #[.string y] 9)) W3 → (∀ j, bk a3 j → bk a2 j ∨ W.heap.size + 1 ≤ j) →
          m2 + 1 = (out2 ++ [y]).length ∧ r = (out2 ++ [y]).map b8 ++ (if d2 then (l.drop (k + 1)).map b8 else insL1 (b8 x) ((l.drop (k + 1)).map b8)) ∧ Win 1 W3 a3 c3 (m2 + 1) ((out2 ++ [y]).map Value.string) ∧ (∀ k, bk a3 k → w.heap.size ≤ k) ∧ w.grownBy W3 none) := Lib.hid fun d2 m2 c2 a2 out2 W e1 e2 e3 _ hb hg a3 c3 W3 hw ho hb3 => by
        refine ⟨by simp [e1], ?_, by simpa using hw, fun j hj => ?_, grown_onlyN (hg.trans (World.grownBy_alloc W _ none)) ho hb⟩
        · rw [e2, HDk.out]
          cases d2 with
          | true => simp
          | false =>
            have : ¬ b8 x ≤ b8 y := e3.resolve_left (by simp)
            simp [insL1, this]
        · rcases hb3 j hj with e | e
          · exact hb j e
          · have := hg.size
            omega
      cases d with
      | true =>
        go_wp2_with (refine wpList_append_win (by rfl) (.tmp 35) (.tmp 40) str_el (by rfl) (K.out.2.2.1.keepG (World.grownBy_alloc wr (.cells #[.string y] 9) none)) (by omega) (by rfl) ⟨wr.heap.size, 0, none⟩ 1 (by rfl) [.string y] rfl (nm_news wr y) (by intro u hu; simp only [List.mem_singleton] at hu; subst hu; rfl) ?_)
        intro a3 c3 w4 hw4 ho4 hb4
        have N4 := Lib.hid (Next.out true m c a' out wr K.out.1 K.out.2.1 (.inl rfl) K.out.2.2.1 K.out.2.2.2.1 K.out.2.2.2.2 a3 c3 w4 hw4 ho4 hb4)
        clear hw4 ho4 hb4
        go_wp2_with fail
        go_roundw
        case rel => exact ⟨k + 1, c3, m + 1, a3, true, out ++ [y], rfl, rfl, by go_num, by omega, by omega, N4⟩
        case measure => simp [intOf]; omega
      | false =>
        by_cases hle : b8 x ≤ b8 y
        · have q0 := nm_le.1 hle
          by_cases hlt2 : b8 x < b8 y
          · have q1 : Op.bytesLess x.toList y.toList = true := by rw [Go.Proofs.bytesLess_eq, Lib.toList_data, Lib.toList_data]; exact decide_eq_true hlt2
            have ER : Hid (r = (out ++ [x]).map b8 ++ (if true then (l.drop k).map b8 else insL1 (b8 x) ((l.drop k).map b8))) := Lib.hid (by
              rw [K.out.2.1, HDk.out]
              simp [insL1, hle, hlt2])
            clear q0
            go_wp2_with (refine wpList_append_win (by rfl) (.tmp 31) (.tmp 33) str_el (by rfl) (K.out.2.2.1.keepG (World.grownBy_alloc wr (.cells #[.string x] 9) none)) (by omega) (by rfl) ⟨wr.heap.size, 0, none⟩ 1 (by rfl) [.string x] rfl (nm_news wr x) (by intro u hu; simp only [List.mem_singleton] at hu; subst hu; rfl) ?_)
            intro a3 c3 w4 hw4 ho4 hb4
            have G4 := Lib.hid (grown_onlyN (K.out.2.2.2.2.trans (World.grownBy_alloc wr (.cells #[.string x] 9) none)) ho4 K.out.2.2.2.1)
            have L4 : Hid (∀ j, bk a3 j → w.heap.size ≤ j) := Lib.hid fun j hj => by
              rcases hb4 j hj with e | e
              · exact K.out.2.2.2.1 j e
              · have := K.out.2.2.2.2.size
                omega
            have W4 : Hid (Win 1 w4 a3 c3 (m + 1) ((out ++ [x]).map Value.string)) := Lib.hid (by simpa using hw4)
            have hc4 := G4.out
            have E4 : Hid (m + 1 = (out ++ [x]).length) := Lib.hid (by have := K.out.1; simp; omega)
            obtain ⟨b', off', e', _, hc'⟩ := str_cell (H.out.keep (.of G4.out)) (i := k) (by rw [← Hn.out]; exact hlt)
            cases e'
            rw [← Hy.out] at hc'
            clear hw4 ho4 hb4 hc4 q1
            go_wp2_with (refine wpList_append_win (by rfl) (.tmp 35) (.tmp 40) str_el (by rfl) (W4.out.keepG (World.grownBy_alloc w4 (.cells #[.string y] 9) none)) (by omega) (by rfl) ⟨w4.heap.size, 0, none⟩ 1 (by rfl) [.string y] rfl (nm_news w4 y) (by intro u hu; simp only [List.mem_singleton] at hu; subst hu; rfl) ?_)
            intro a5 c5 w5 hw5 ho5 hb5
            have N5 := Lib.hid (Next.out true (m + 1) c3 a3 (out ++ [x]) w4 E4.out ER.out (.inl rfl) W4.out L4.out G4.out a5 c5 w5 (by simpa using hw5) ho5 hb5)
            clear hw5 ho5 hb5
            go_wp2_with fail
            go_roundw
            case rel => exact ⟨k + 1, c5, m + 1 + 1, a5, true, out ++ [x] ++ [y], rfl, rfl, by go_num, by omega, by omega, N5⟩
            case measure => simp [intOf]; omega
          · have q1 : Op.bytesLess x.toList y.toList = false := by rw [Go.Proofs.bytesLess_eq, Lib.toList_data, Lib.toList_data]; exact decide_eq_false hlt2
            have q2 : (x.toList == y.toList) = true := by rw [q1] at q0; simpa using q0
            have ER : Hid (r = out.map b8 ++ (if true then (l.drop k).map b8 else insL1 (b8 x) ((l.drop k).map b8))) := Lib.hid (by
              rw [K.out.2.1, HDk.out]
              simp [insL1, hle, hlt2])
            clear q0
            go_wp2_with (refine wpList_append_win (by rfl) (.tmp 35) (.tmp 40) str_el (by rfl) (K.out.2.2.1.keepG (World.grownBy_alloc wr (.cells #[.string y] 9) none)) (by omega) (by rfl) ⟨wr.heap.size, 0, none⟩ 1 (by rfl) [.string y] rfl (nm_news wr y) (by intro u hu; simp only [List.mem_singleton] at hu; subst hu; rfl) ?_)
            intro a3 c3 w4 hw4 ho4 hb4
            have N4 := Lib.hid (Next.out true m c a' out wr K.out.1 ER.out (.inl rfl) K.out.2.2.1 K.out.2.2.2.1 K.out.2.2.2.2 a3 c3 w4 hw4 ho4 hb4)
            clear hw4 ho4 hb4
            go_wp2_with fail
            go_roundw
            case rel => exact ⟨k + 1, c3, m + 1, a3, true, out ++ [y], rfl, rfl, by go_num, by omega, by omega, N4⟩
            case measure => simp [intOf]; omega
        · have q0 : (Op.bytesLess x.toList y.toList || x.toList == y.toList) = false := by
            cases hh : (Op.bytesLess x.toList y.toList || x.toList == y.toList) with
            | false => rfl
            | true => exact absurd (nm_le.2 hh) hle
          have q1 : Op.bytesLess x.toList y.toList = false := (Bool.or_eq_false_iff.1 q0).1
          have q2 : (x.toList == y.toList) = false := (Bool.or_eq_false_iff.1 q0).2
          clear q0
          go_wp2_with (refine wpList_append_win (by rfl) (.tmp 35) (.tmp 40) str_el (by rfl) (K.out.2.2.1.keepG (World.grownBy_alloc wr (.cells #[.string y] 9) none)) (by omega) (by rfl) ⟨wr.heap.size, 0, none⟩ 1 (by rfl) [.string y] rfl (nm_news wr y) (by intro u hu; simp only [List.mem_singleton] at hu; subst hu; rfl) ?_)
          intro a3 c3 w4 hw4 ho4 hb4
          have N4 := Lib.hid (Next.out false m c a' out wr K.out.1 K.out.2.1 (.inr hle) K.out.2.2.1 K.out.2.2.2.1 K.out.2.2.2.2 a3 c3 w4 hw4 ho4 hb4)
          clear hw4 ho4 hb4
          go_wp2_with fail
          go_roundw
          case rel => exact ⟨k + 1, c3, m + 1, a3, false, out ++ [y], rfl, rfl, by go_num, by omega, by omega, N4⟩
          case measure => simp [intOf]; omega
    · obtain rfl : k = n := by omega
      cases d with
      | true =>
        go_wp2_with fail
        go_ret
        refine ⟨⟨a', c, out, by rw [← K.out.1]; rfl, ?_, by rw [← K.out.1]; exact K.out.2.2.1, K.out.2.2.2.1⟩, K.out.2.2.2.2⟩
        rw [K.out.2.1, HZ.out]; simp
      | false =>
        go_wp2_with (refine wpList_append_win (by rfl) (.tmp 45) (.tmp 47) str_el (by rfl) (K.out.2.2.1.keepG (World.grownBy_alloc wr (.cells #[.string x] 9) none)) (by omega) (by rfl) ⟨wr.heap.size, 0, none⟩ 1 (by rfl) [.string x] rfl (nm_news wr x) (by intro u hu; simp only [List.mem_singleton] at hu; subst hu; rfl) ?_)
        intro a3 c3 w4 hw4 ho4 hb4
        have G4 := Lib.hid (grown_onlyN (K.out.2.2.2.2.trans (World.grownBy_alloc wr (.cells #[.string x] 9) none)) ho4 K.out.2.2.2.1)
        have L4 : Hid (∀ j, bk a3 j → w.heap.size ≤ j) := Lib.hid fun j hj => by
          rcases hb4 j hj with e | e
          · exact K.out.2.2.2.1 j e
          · have := K.out.2.2.2.2.size
            omega
        have W4 : Hid (Win 1 w4 a3 c3 (m + 1) ((out ++ [x]).map Value.string)) := Lib.hid (by simpa using hw4)
        have E4 : Hid (m + 1 = (out ++ [x]).length) := Lib.hid (by have := K.out.1; simp; omega)
        clear hw4 ho4 hb4
        go_wp2_with fail
        go_ret
        refine ⟨⟨a3, c3, out ++ [x], by rw [← E4.out]; rfl, ?_, by rw [← E4.out]; exact W4.out, L4.out⟩, G4.out⟩
        rw [K.out.2.1, HZ.out]; simp [insL1]
end Go.Proofs.YtjaclmoobfeikaaGreatDoor
namespace Go.Proofs.YtjaclmoobfeikaaGreatDoor
open Go.RowKit

theorem ns_memN : ∀ {l : List Pm} {i : Nat}, i < l.length → (l.getD i default).n ≤ Pm.ns l
  | x :: r, 0, _ => by rw [Pm.ns]; simp [List.getD]
  | x :: r, i + 1, h => by
    have := ns_memN (l := r) (i := i) (by simpa using h)
    rw [Pm.ns]
    simp only [List.getD, List.getElem?_cons_succ] at this ⊢
    omega
theorem insL1_len (x : Nm) : ∀ l : List Nm, (insL1 x l).length ≤ l.length + 1
  | [] => by simp [insL1]
  | y :: r => by
    rw [insL1]
    have := insL1_len x r
    split
    · split <;> simp
    · simp; omega
theorem withN_len (l : List Nm) (x : Nm) : (withN l x).length ≤ l.length + 1 := by
  unfold withN
  split
  · omega
  · exact insL1_len x l
theorem putNs_app : ∀ (l : List Nm) (a b : List Prd), Prd.putNs l (a ++ b) = Prd.putNs (Prd.putNs l a) b
  | _, [], _ => rfl
  | l, x :: r, b => by rw [List.cons_append, Prd.putNs, Prd.putNs, putNs_app (x.putN l) r b]
theorem map_len {m : List ByteArray} {f : List Nm} (h : m.map b8 = f) : m.length = f.length := by rw [← h]; simp
theorem with_len {m l : List ByteArray} {x : Nm} (h : m.map b8 = withN (l.map b8) x) : m.length ≤ l.length + 1 := by
  have h1 := map_len h
  have h2 := withN_len (l.map b8) x
  rw [List.length_map] at h2
  omega
theorem ns_take_succ (l : List Pm) (k : Nat) (h : k < l.length) : Pm.ns (l.take (k + 1)) = Pm.ns (l.take k) + (l.getD k default).n := by
  rw [List.take_add_one, Pm.ns_app, List.getD_eq_getElem?_getD, List.getElem?_eq_getElem h]
  simp [Pm.ns]
theorem es_take_succ (l : List Pm) (k : Nat) (h : k < l.length) : Pm.es (l.take (k + 1)) = Pm.es (l.take k) ++ [(l.getD k default).e] := by
  rw [Pm.es_map, Pm.es_map, List.take_add_one, List.map_append, List.getD_eq_getElem?_getD, List.getElem?_eq_getElem h]
  simp
theorem ns_take (l : List Pm) (k : Nat) : Pm.ns (l.take k) ≤ Pm.ns l := by
  have := Pm.ns_app (l.take k) (l.drop k)
  rw [List.take_append_drop] at this
  omega
theorem grown_drewL {w w' : World} {row : Option Nat} (h : w.drew.grownBy w' row) : w.grownBy w' row := ⟨h.os, h.tape, h.output, h.size, h.block⟩
theorem blkN {w w' : World} {g : Nat} {o : Obj} (hg : w.heap[g]? = some o) (h : w.grownBy w' none) : w'.heap[g]? = some o :=
  (h.block g (Array.getElem?_eq_some_iff.1 hg).1 (by simp)).trans hg
set_option maxRecDepth 100000 in
set_option maxHeartbeats 6400000 in
theorem refNames_any (S : Nat → Prop) : ∀ (N : Nat) (x : Pm) (a : Ptr) (cap : Nat) (l : List ByteArray) (w : World), x.n ≤ N → PmS S w x → CellsS (fun _ => True) w a (l.map Value.string) → l.length ≤ cap → l.length + 2 * x.n ≤ 90000 →
    Calls Tryz.prog 26 #[.slice a l.length cap, x.v] w fun e w' => (∃ (a' : Ptr) (cap' : Nat) (m : List ByteArray), e = .returned (.slice a' m.length cap') ∧ m.map b8 = x.e.putN (l.map b8) ∧ CellsS (fun _ => True) w' a' (m.map Value.string) ∧ m.length ≤ cap' ∧ m.length ≤ l.length + 2 * x.n) ∧ w.grownBy w' none
  | 0, .mk _ _ _ _ _ _ _ _ _ _ _ _, _, _, _, _, hN, _, _, _, _ => by simp [Pm.n] at hN
  | N + 1, x, a, cap, l, w, hN, hx, hl, hcap, hlen => by
    have HW := Lib.hid (fun (a : Ptr) (cap : Nat) (l : List ByteArray) (y : ByteArray) W (h1 : CellsS (fun _ => True) W a (l.map Value.string)) (h2 : l.length ≤ cap) (h3 : l.length ≤ 100000) => with_any (fun _ => True) a cap l y W h1 h2 h3)
    have HIH := Lib.hid (fun i (hi : i < x.kids.length) W (hW : w.grownBy W none) (a : Ptr) (cap : Nat) (l : List ByteArray) => refNames_any S N (x.kids.getD i default) a cap l W (by
      have := ns_memN hi
      rw [Pm.n_eq] at hN
      omega) (((PmSs_iff x.kids).1 (by cases x; exact hx.2.2.2.2) _ (by rw [List.getD, List.getElem?_eq_getElem hi]; exact List.getElem_mem hi)).keep (.of hW)))
    have hxn := Pm.n_eq x
    obtain ⟨k1, c1, r1, ⟨vk1, vn1, vs1⟩, o1, la1, lc1, l1, ka1, kc1, ks1, p1⟩ := x
    have HX := Lib.hid (show ∀ L, (Pm.e (.mk k1 c1 r1 ⟨vk1, vn1, vs1⟩ o1 la1 lc1 l1 ka1 kc1 ks1 p1)).putN L = Prd.putNs (withN (withN L (b8 c1)) (b8 o1)) (Pm.es ks1) from fun L => rfl)
    generalize (Pm.e (.mk k1 c1 r1 ⟨vk1, vn1, vs1⟩ o1 la1 lc1 l1 ka1 kc1 ks1 p1)) = E at *
    simp only [Pm.kids] at hxn HIH
    generalize hXn : (Pm.n (.mk k1 c1 r1 ⟨vk1, vn1, vs1⟩ o1 la1 lc1 l1 ka1 kc1 ks1 p1)) = xn at *
    show Calls Tryz.prog 26 #[.slice a l.length cap, .agg #[.int .i64 (k1 : Nat), .string c1, .int .i64 (r1 : Nat), .int .i64 vk1, .int .i64 vn1, .string vs1, .string o1, .slice la1 l1.length lc1, .slice ka1 ks1.length kc1, .int .i64 (p1 : Nat)]] w _
    have HK := Lib.hid (fun W (hW : w.grownBy W none) => (hx.keep (.of hW)).2.2.1)
    have hkc := hx.2.2.2.1
    have hkn : ks1.length ≤ Pm.ns ks1 := Pm.len_ns ks1
    have HKn := Lib.hid (fun k => ns_take ks1 k)
    have HKs := Lib.hid (fun k h => ns_take_succ ks1 k h)
    have HKe := Lib.hid (fun k h => es_take_succ ks1 k h)
    obtain ⟨n, hn⟩ : ∃ n, n = ks1.length := ⟨_, rfl⟩
    have Hn := Lib.hid hn
    rw [← hn] at hkc hkn ⊢
    have HA1 := Lib.hid (fun W (hW : w.grownBy W none) => HW.out a cap l c1 W (hl.keep (.of hW)) hcap (by omega))
    obtain ⟨q, hq⟩ : ∃ q, q = l.length := ⟨_, rfl⟩
    have Hq := Lib.hid hq
    rw [← hq] at hcap hlen HA1 ⊢
    have HL := Lib.hid hl
    generalize l1.length = n2 at *
    generalize Pm.ns ks1 = nk at *
    have A1 := Lib.hid (heap_alloc_new w (.cells #[.int .i64 (k1 : Nat), .string c1, .int .i64 (r1 : Nat), .int .i64 vk1, .int .i64 vn1, .string vs1, .string o1, .slice la1 n2 lc1, .slice ka1 n kc1, .int .i64 (p1 : Nat)] 33))
    have G1 := Lib.hid (World.grownBy_alloc w (.cells #[.int .i64 (k1 : Nat), .string c1, .int .i64 (r1 : Nat), .int .i64 vk1, .int .i64 vn1, .string vs1, .string o1, .slice la1 n2 lc1, .slice ka1 n kc1, .int .i64 (p1 : Nat)] 33) none)
    clear hx hn hq hl hN
    go_enter Tryz.func26, Tryz.ntmps26
    go_upto_region 1 with fail
    go_region_with (first
      | (go_at_call 28; (with_reducible refine (HA1.out _ (by first | exact G1.out | exact grown_drewT G1.out)).mono ?_); rintro e w2 ⟨⟨a1, cap1, m1, rfl, e1, hw1, hb1⟩, hg⟩; have A2 := Lib.hid (blkN A1.out (by first | exact hg | exact grown_drewL hg)); obtain ⟨⟨p0, p1, p2, p3, p4⟩, p5, p6, p7, p8, p9⟩ := ten_of A2.out; have G2 := Lib.hid (World.grownBy.trans (by first | exact G1.out | exact grown_drewT G1.out) hg); have L2 := Lib.hid (with_len e1); have HB1 := Lib.hid (HW.out a1 cap1 m1 o1 w2 (win_cells hw1 (fun _ _ => trivial)) hw1.le (by have := L2.out; have := Hq.out; omega)); clear hg hw1 hb1 p0 p1 p2 p3 p4 p5 p7 p8 p9; obtain ⟨q1, hq1⟩ : ∃ q1, q1 = m1.length := ⟨_, rfl⟩; have Hq1 := Lib.hid hq1; have E1 := Lib.hid e1; rw [← hq1] at HB1 ⊢; clear hq1 e1)
      | (go_at_call 28; (with_reducible refine (HB1.out).mono ?_); rintro e w3 ⟨⟨a2, cap2, m2, rfl, e2, hw2, hb2⟩, hg⟩; have A3 := Lib.hid (blkN A2.out hg); obtain ⟨⟨p0, p1, p2, p3, p4⟩, p5, p6, p7, p8, p9⟩ := ten_of A3.out; have G3 := Lib.hid (G2.out.trans hg); have L3 := Lib.hid (with_len e2); have E2 := Lib.hid (And.intro e2 (And.intro hw2 hb2)); clear hg hw2 hb2 e2 p0 p1 p2 p3 p4 p5 p6 p7 p9; obtain ⟨q2, hq2⟩ : ∃ q2, q2 = m2.length := ⟨_, rfl⟩; have Hq2 := Lib.hid hq2; rw [← hq2] at E2 ⊢; clear hq2)
      | fail)
    all_goals
      have H0 : Hid (m2.map b8 = Prd.putNs (withN (withN (l.map b8) (b8 c1)) (b8 o1)) (Pm.es (ks1.take 0)) ∧ CellsS (fun _ => True) w3 a2 (m2.map Value.string) ∧ q2 ≤ cap2 ∧ q2 ≤ q + 2 + 2 * Pm.ns (ks1.take 0)) := Lib.hid ⟨by
          rw [E2.out.1, E1.out]; rfl, win_cells E2.out.2.1 (fun _ _ => trivial), E2.out.2.1.le, by
          have h1 := L2.out
          have h2 := L3.out
          have h3 := Hq.out
          have h4 := Hq1.out
          have h5 := Hq2.out
          omega⟩
      clear HA1 HB1 E1 E2 L2 L3 A2 G2 Hq1
      go_wp2_with fail
      go_loopw [0, 16] (fun s0 s16 wr => ∃ (k c mq : Nat) (a' : Ptr), s0 = .slice a' mq c ∧ s16 = .int .i64 k ∧ k ≤ n ∧ Hid (∃ m : List ByteArray, mq = m.length ∧ m.map b8 = Prd.putNs (withN (withN (l.map b8) (b8 c1)) (b8 o1)) (Pm.es (ks1.take k)) ∧ CellsS (fun _ => True) wr a' (m.map Value.string) ∧ mq ≤ c ∧ mq ≤ q + 2 + 2 * Pm.ns (ks1.take k)) ∧ Hid (w.grownBy wr none) ∧ Hid (wr.heap[w.heap.size]? = some (.cells #[.int .i64 (k1 : Nat), .string c1, .int .i64 (r1 : Nat), .int .i64 vk1, .int .i64 vn1, .string vs1, .string o1, .slice la1 n2 lc1, .slice ka1 n kc1, .int .i64 (p1 : Nat)] 33 (0, 0)))) (fun _ s16 _ => n - (intOf s16).toNat)
      case atStart => exact ⟨0, cap2, q2, a2, rfl, rfl, by omega, Lib.hid ⟨m2, Hq2.out, H0.out⟩, G3, A3⟩
      case round =>
        obtain ⟨k, c, mq, a', rfl, rfl, hk, K, KG, KA⟩ := hrel
        clear H0 G3 A3 Hq2 p8
        obtain ⟨⟨p0, p1, p2, p3, p4⟩, p5, p6, p7, p8, p9⟩ := ten_of KA.out
        clear p0 p1 p2 p3 p4 p5 p6 p7 p9
        by_cases hlt : k < n
        · obtain ⟨b, off, rfl, _, _, hc⟩ := (HK.out _ KG.out).elem Pm.c_len (by decide) (i := k) (by rw [← Hn.out]; exact hlt)
          have RX : Hid (wr.rangeAt b (off + k * 10) (ks1.getD k default).c) := Lib.hid fun j u hj => hc j u hj
          obtain ⟨m, hmq, hm, hmc, hmcap, hml⟩ := K.out
          have hk1 := HKn.out (k + 1)
          have hk2 := HKs.out k (by rw [← Hn.out]; exact hlt)
          have HI := Lib.hid (HIH.out k (by rw [← Hn.out]; exact hlt) wr KG.out a' c m hmc (by omega) (by omega))
          have HKe' := Lib.hid (HKe.out k (by rw [← Hn.out]; exact hlt))
          have HM := Lib.hid (And.intro hmq (And.intro hm (And.intro hml hk2)))
          rw [← hmq] at HI
          generalize ks1.getD k default = x at *
          have i0 : (0 : Int) ≤ k := by omega
          have i1 : (k : Int) < n := by omega
          have i2 : (k : Int) < kc1 := by omega
          clear hc hmq hm hmc hmcap hml hk1 hk2 K
          go_wp2_with (first | (refine wpList_load_mid rfl 33 (.tmp 23) rfl b (off + k * 10) rfl x.c _ RX.out Tryz.underlying33 rfl (by rw [Pm.c_len]; exact pred_size) ?_) | fail)
          refine HI.out.mono ?_
          rintro e w5 ⟨⟨a5, cap5, m5, rfl, e5, hc5, hl5, hn5⟩, hg⟩
          have N5 : Hid (∃ m : List ByteArray, m5.length = m.length ∧ m.map b8 = Prd.putNs (withN (withN (l.map b8) (b8 c1)) (b8 o1)) (Pm.es (ks1.take (k + 1))) ∧ CellsS (fun _ => True) w5 a5 (m.map Value.string) ∧ m5.length ≤ cap5 ∧ m5.length ≤ q + 2 + 2 * Pm.ns (ks1.take (k + 1))) := Lib.hid ⟨m5, rfl, by
            rw [HKe'.out, putNs_app, e5, HM.out.2.1]; rfl, hc5, hl5, by
            have := HM.out
            omega⟩
          have G5 := Lib.hid (KG.out.trans hg)
          have A5 := Lib.hid (blkN KA.out hg)
          clear hg e5 hc5 hl5 hn5
          generalize m5.length = mq5 at *
          go_wp2_with fail
          go_roundw
          case rel => exact ⟨k + 1, cap5, mq5, a5, rfl, by go_num, by omega, N5, G5, A5⟩
          case measure => simp [intOf]; omega
        · obtain rfl : k = n := by omega
          go_wp2_with fail
          go_ret
          obtain ⟨m, hmq, hm, hmc, hmcap, hml⟩ := K.out
          have ht : ks1.take k = ks1 := List.take_of_length_le (by rw [← Hn.out]; exact Nat.le_refl _)
          have hk9 := HKn.out k
          rw [ht] at hm hml hk9
          refine ⟨⟨a', c, m, by rw [← hmq]; rfl, ?_, hmc, by omega, by omega⟩, KG.out⟩
          rw [HX.out]; exact hm
end Go.Proofs.YtjaclmoobfeikaaGreatDoor
namespace Go.Proofs.YtjaclmoobfeikaaGreatDoor
open Go.RowKit

set_option maxHeartbeats 3200000 in
theorem refKeys_any (S : Nat → Prop) (y : Qm) (w : World) (h : CellsS S w y.oa (y.order.flatMap Kyo.c)) (hl : y.order.length ≤ 1000) (hc : y.order.length ≤ y.oc) :
    Calls Tryz.prog 27 #[.agg y.c] w fun e w' => ∃ a cap, e = .returned (.slice a y.order.length cap) ∧ Win 3 w' a cap y.order.length (y.order.flatMap fun k => k.item.c) ∧ (∀ k, bk a k → w.heap.size ≤ k) ∧ w.grownBy w' none := by
  obtain ⟨ia1, ic1, its1, al1, ta1, ⟨k1, c1, rr1, v1, o1, la1, lc1, li1, ka1, kc1, ks1, pp1⟩, ga1, gc1, gr1, oa1, oc1, od1, lim1⟩ := y
  show Calls Tryz.prog 27 #[.agg #[.slice ia1 its1.length ic1, .bool al1, .string ta1, .int .i64 (k1 : Nat), .string c1, .int .i64 (rr1 : Nat), .int .i64 v1.k, .int .i64 v1.n, .string v1.s, .string o1, .slice la1 li1.length lc1, .slice ka1 ks1.length kc1, .int .i64 (pp1 : Nat), .slice ga1 gr1.length gc1, .slice oa1 od1.length oc1, .int .i64 lim1, .int .i64 0]] w _
  dsimp only at h hl hc ⊢
  generalize its1.length = n0 at *
  generalize li1.length = n2 at *
  generalize ks1.length = n4 at *
  generalize gr1.length = n6 at *
  obtain ⟨n, hn⟩ : ∃ n, n = od1.length := ⟨_, rfl⟩
  have Hn := Lib.hid hn
  rw [← hn] at hl hc ⊢
  have H := Lib.hid h
  obtain ⟨cq, hcq⟩ : ∃ cq : Obj, cq = .cells #[.slice ia1 n0 ic1, .bool al1, .string ta1, .int .i64 (k1 : Nat), .string c1, .int .i64 (rr1 : Nat), .int .i64 v1.k, .int .i64 v1.n, .string v1.s, .string o1, .slice la1 n2 lc1, .slice ka1 n4 kc1, .int .i64 (pp1 : Nat), .slice ga1 n6 gc1, .slice oa1 n oc1, .int .i64 lim1, .int .i64 0] 36 (0, 0) := ⟨_, rfl⟩
  have K0 := Lib.hid (World.grownBy_alloc w cq none)
  have B0 := Lib.hid (heap_alloc_new w cq)
  have HB : Hid (∀ W : World, W.heap[w.heap.size]? = some cq → W.cell? ⟨w.heap.size, 14, none⟩ = some (.slice oa1 n oc1) ∧ W.frozen? ⟨w.heap.size, 14, none⟩ = false) := Lib.hid fun W hW => by
    rw [hcq] at hW
    obtain ⟨a0, a1, a2, a3, a4, a5, a6, a7, a8, a9, a10, a11, a12, a13, a14, a15, a16⟩ := cells17 hW
    exact ⟨a14, frozen_of_row _ _ 14 _ _ hW⟩
  have HC := Lib.hid hcq
  rw [hcq] at K0 B0
  clear h hn hcq
  go_enter Tryz.func27, Tryz.ntmps27
  go_wp2_with fail
  rw [← HC.out] at K0 B0
  go_loopw [3, 8] (fun s3 s8 wr => ∃ (k cap : Nat) (a : Ptr), s3 = .slice a k cap ∧ s8 = .int .i64 k ∧ k ≤ n ∧ Hid (wr.heap[w.heap.size]? = some cq) ∧ Hid (Win 3 wr a cap k ((od1.take k).flatMap fun k => k.item.c) ∧ (∀ k, bk a k → w.heap.size < k) ∧ w.grownBy wr none)) (fun _ s8 _ => n - (intOf s8).toNat)
  case atStart => exact ⟨0, 0, none, rfl, rfl, by omega, Lib.hid (by rw [HC.out]; rw [HC.out] at B0; exact B0.out), Lib.hid ⟨Win.nil 3 _, fun k h => by simp [bk] at h, by rw [HC.out] at K0; exact K0.out⟩⟩
  case round =>
    obtain ⟨k, cap, a, rfl, rfl, hk, B, K⟩ := hrel
    clear K0 B0
    by_cases hlt : k < n
    · obtain ⟨b, off, rfl, _, hb, hce⟩ := (H.out.keep (.of K.out.2.2)).elem Kyo.c_len (by decide) (i := k) (by rw [← Hn.out]; exact hlt)
      obtain ⟨x, hx⟩ : ∃ x, x = od1.getD k default := ⟨_, rfl⟩
      have hT := flat_take (fun k : Kyo => k.item.c) od1 k (by rw [← Hn.out]; exact hlt)
      rw [← hx] at hce hT
      have HT := Lib.hid hT
      clear hx hT
      obtain ⟨⟨xa, xc, xp⟩, xd⟩ := x
      have c0 := hce 0 _ rfl
      have c1 := hce 1 _ rfl
      have c2 := hce 2 _ rfl
      clear hce
      rw [Nat.add_zero] at c0
      obtain ⟨b0, b1⟩ := HB.out wr B.out
      have i0 : (0 : Int) ≤ k := by omega
      have i1 : (k : Int) < n := by omega
      have i2 : (k : Int) < oc1 := by omega
      go_wp2_with (refine wpList_append_win (by rfl) (.tmp 11) (.tmp 18) itm_el (by rfl) (K.out.1.keepG (World.grownBy_alloc wr (.cells #[.int .i64 (xa : Int), .string xc, .int .i64 (xp : Int)] 65) none)) (by omega) (by rfl) ⟨wr.heap.size, 0, none⟩ 1 (by rfl) [.int .i64 (xa : Int), .string xc, .int .i64 (xp : Int)] rfl (by
        have := World.news_of_block (heap_alloc_new wr (.cells #[.int .i64 (xa : Int), .string xc, .int .i64 (xp : Int)] 65))
        simpa using this) (by intro u hu; simp only [List.mem_cons, List.not_mem_nil, or_false] at hu; rcases hu with rfl | rfl | rfl <;> rfl) ?_)
      intro a' cap' w4 hw4 ho4 hb4
      have hlo := K.out.2.1
      have B4 := Lib.hid ((ho4.block w.heap.size (by have := (Array.getElem?_eq_some_iff.1 B.out).1; simp; omega) (fun e => by have := hlo _ e; omega)).trans (blkN B.out (World.grownBy_alloc wr (.cells #[.int .i64 (xa : Int), .string xc, .int .i64 (xp : Int)] 65) none)))
      have G4 := Lib.hid (grown_onlyN ((K.out.2.2).trans (World.grownBy_alloc wr (.cells #[.int .i64 (xa : Int), .string xc, .int .i64 (xp : Int)] 65) none)) ho4 (fun k hk => by have := hlo k hk; omega))
      have W4 := Lib.hid hw4
      have L4 : Hid (∀ j, bk a' j → w.heap.size < j) := by
        refine Lib.hid fun j hj => ?_
        rcases hb4 j hj with h | h
        · exact hlo j h
        · have h1 := (Array.getElem?_eq_some_iff.1 B.out).1
          have h2 : wr.heap.size + 1 ≤ j := by simpa using h
          omega
      clear hw4 ho4 hb4 hlo
      go_wp2_with fail
      go_roundw
      case rel => exact ⟨k + 1, cap', a', rfl, by go_num, by omega, B4, Lib.hid ⟨by rw [HT.out]; exact W4.out, L4.out, G4.out⟩⟩
      case measure => simp [intOf]; omega
    · obtain rfl : k = n := by omega
      go_wp2_with fail
      go_ret
      refine ⟨a, cap, rfl, ?_, fun j hj => Nat.le_of_lt (K.out.2.1 j hj), K.out.2.2⟩
      have := K.out.1
      rwa [List.take_of_length_le (by rw [← Hn.out]; exact Nat.le_refl _)] at this
end Go.Proofs.YtjaclmoobfeikaaGreatDoor
namespace Go.Proofs.YtjaclmoobfeikaaGreatDoor
open Go.RowKit
/-- An address without a part, or none. -/
def PlA (a : Option Addr) : Prop := a = none ∨ ∃ g off, a = some ⟨g, off, none⟩
theorem win_plA {sz : Nat} {w : World} {a : Option Addr} {cap n : Nat} {xs : List Value} (h : Win sz w a cap n xs) (hc : cap ≠ 0) : PlA a := by
  obtain ⟨g, off, e, _⟩ := h.mem.resolve_left hc
  exact .inr ⟨g, off, e⟩
theorem run_append_winA {sl e : TypeId} {z : Value} {sz by' : Nat} (E : ElT sl e z sz by') {w : World} {a : Option Addr} {cap n : Nat} {xs : List Value} (h : Win sz w a cap n xs)
    (A : Option Addr) (m c : Nat) (news : List Value) (hA : A = none → m = 0) (hnl : news.length = m * sz) (hn : n + m ≤ 1000000) (hnews : ∀ ad, A = some ad → ∀ j u, news[j]? = some u → w.cell? (ad.add j) = some u) (h1 : ∀ u ∈ news, u.oneCell' = true) (ty : TypeId) :
    ∃ a' cap' w', (Builtin.append_ #[sl, sl] ty #[.slice a n cap, .slice A m c]).run Tryz.prog w = .ok (.slice a' (n + m) cap') w' ∧ Win sz w' a' cap' (n + m) (xs ++ news) ∧ Only (bk a) w w' ∧ (∀ k, bk a' k → bk a k ∨ w.heap.size ≤ k) ∧ (PlA a → PlA a') := by
  by_cases hcap : cap = 0
  · subst hcap
    obtain ⟨i0, hi, hz0, hz1, hz2⟩ := E.inf
    have hlen := h.len
    have hpos := E.pos
    have hby := E.few
    have hle := h.le
    obtain rfl : n = 0 := by omega
    have hxs : xs = [] := List.eq_nil_of_length_eq_zero (by omega)
    subst hxs
    have hmx : 0 + m ≤ maxLen := by unfold maxLen; omega
    have hbb : (0 + m) * by' ≤ 140737488355328 := by
      have : (0 + m) * by' ≤ 1000000 * 256 := Nat.mul_le_mul hn hby
      omega
    have fin : ∀ v' w', (Builtin.append_ #[sl, sl] ty #[.slice a 0 0, .slice A m c]).run Tryz.prog w = .ok v' w' → w'.ownsRow w.heap.size e sz v' (0 + m) ([] ++ news) → w.grownBy w' none → ∃ a' cap' w', (Builtin.append_ #[sl, sl] ty #[.slice a 0 0, .slice A m c]).run Tryz.prog w = .ok (.slice a' (0 + m) cap') w' ∧ Win sz w' a' cap' (0 + m) ([] ++ news) ∧ Only (bk a) w w' ∧ (∀ k, bk a' k → bk a k ∨ w.heap.size ≤ k) ∧ (PlA a → PlA a') := by
      intro v' w' hr ho hg
      obtain ⟨a', cap', rfl, hw, hb⟩ := own_win ho
      refine ⟨a', cap', w', hr, hw, .of_none hg, fun k hk => .inr (World.ownsRow.lt ho k (hb k hk)).1, fun _ => ?_⟩
      rcases ho.2 with ⟨e, _⟩ | ⟨g, cap, cur, e, _⟩
      · simp only [Value.slice.injEq] at e; exact .inl e.1
      · simp only [Value.slice.injEq] at e; exact .inr ⟨_, _, e.1⟩
    cases A with
    | none =>
      obtain rfl := hA rfl
      obtain rfl : news = [] := List.eq_nil_of_length_eq_zero (by omega)
      refine ⟨a, 0, w, ?_, by simpa using h, Only.refl _ w, fun k hk => .inl hk, id⟩
      cases a <;> simp [Builtin.append_, run_underlying E.und, sizeOf, typeInfo, hi, Builtin.lenOf, Builtin.firstCells, storeCells]
    | some ad =>
      cases a with
      | none =>
        obtain ⟨v', w', hrun, r1, r2, _⟩ := run_append_own (P := Tryz.prog) w w.heap.size sl ty e i0 z sz by' E.und hi hz0 hz1 hz2 E.zc hpos (.slice none 0 0) 0 [] (World.ownsRow_nil w _ _ sz) ad m c news hnl (hnews ad rfl) h1 hmx hbb (Nat.le_refl _)
        exact fin v' w' hrun r1 ⟨r2.os, r2.tape, r2.output, r2.size, fun k hk _ => r2.block k hk (by simp [Value.ownBlock])⟩
      | some a' =>
        by_cases hm : m = 0
        · subst hm
          obtain rfl : news = [] := List.eq_nil_of_length_eq_zero (by omega)
          refine ⟨some a', 0, w, ?_, by simpa using h, Only.refl _ w, fun k hk => .inl hk, id⟩
          have hf := run_firstCells_some (P := Tryz.prog) w i0.size 0 ad 0 c [] (by simp) (by simp)
          simp [Builtin.append_, run_underlying E.und, sizeOf, typeInfo, hi, Builtin.lenOf, hf, storeCells]
        · obtain ⟨v', w', hrun, r1, r2⟩ := run_append_arg_grows (P := Tryz.prog) w sl ty e i0 z sz by' E.und hi hz0 hz1 hz2 E.zc hpos a' 0 0 [] (by simp) (by intro _ _ h'; simp at h') ad m c news hnl (hnews ad rfl) (by omega) hmx hbb
          exact fin v' w' hrun r1 r2
  · obtain ⟨a', cap', w', h2, h3, h4, h5, h6⟩ := run_append_winM E h hcap A m c news hA hnl hn hnews h1 ty
    exact ⟨a', cap', w', h2, h3, h4, h5, fun _ => win_plA h3 h6⟩
/-- At an operation that is next. -/
theorem wp_append_winA {o : Oper} {act : Act} {K : Act → World → Prop} {Q : Exit → Act → World → Prop} {w : World} (s x : Operand) {sl e : TypeId} {z : Value} {sz by' : Nat} (E : ElT sl e z sz by')
    (ho : o.op = .call { callee := .builtin .append, args := #[s, x], argTypes := #[sl, sl] })
    {a : Option Addr} {cap n : Nat} {xs : List Value} (h : Win sz w a cap n xs)
    (hs : act.eval s = .slice a n cap) (A : Option Addr) (m c : Nat) (hx : act.eval x = .slice A m c) (news : List Value) (hA : A = none → m = 0) (hnl : news.length = m * sz) (hn : n + m ≤ 1000000) (hnews : ∀ ad, A = some ad → ∀ j u, news[j]? = some u → w.cell? (ad.add j) = some u) (h1 : ∀ u ∈ news, u.oneCell' = true)
    (hk : ∀ a' cap' w', Win sz w' a' cap' (n + m) (xs ++ news) → Only (bk a) w w' → (∀ k, bk a' k → bk a k ∨ w.heap.size ≤ k) → (PlA a → PlA a') → K (act.put o.dst (.slice a' (n + m) cap')) w') :
    Oper.wp Tryz.prog o act w K Q := by
  obtain ⟨a', cap', w', hr, h2, h3, h4, h5⟩ := run_append_winA E h A m c news hA hnl hn hnews h1 o.type
  unfold Oper.wp execOp
  simp only [ho, resolve, invoke, builtin, Sem.run_bind, Sem.run_pure, Result.andThen_ok, List.map_toArray, List.map_cons, List.map_nil, hs, hx, hr]
  exact hk a' cap' w' h2 h3 h4 h5
/-- In a straight list. -/
theorem wpList_append_winA {ops : Array Oper} {rest : List Oper} {o : Oper} {act : Act} {Q : Exit → Act → World → Prop} {w : World} (hgd : o.guard = none) (s x : Operand) {sl e : TypeId} {z : Value} {sz by' : Nat} (E : ElT sl e z sz by')
    (ho : o.op = .call { callee := .builtin .append, args := #[s, x], argTypes := #[sl, sl] })
    {a : Option Addr} {cap n : Nat} {xs : List Value} (h : Win sz w a cap n xs)
    (hs : act.eval s = .slice a n cap) (A : Option Addr) (m c : Nat) (hx : act.eval x = .slice A m c) (news : List Value) (hA : A = none → m = 0) (hnl : news.length = m * sz) (hn : n + m ≤ 1000000) (hnews : ∀ ad, A = some ad → ∀ j u, news[j]? = some u → w.cell? (ad.add j) = some u) (h1 : ∀ u ∈ news, u.oneCell' = true)
    (hk : ∀ a' cap' w', Win sz w' a' cap' (n + m) (xs ++ news) → Only (bk a) w w' → (∀ k, bk a' k → bk a k ∨ w.heap.size ≤ k) → (PlA a → PlA a') → wpList Tryz.prog ops Q rest (act.put o.dst (.slice a' (n + m) cap')) w') :
    wpList Tryz.prog ops Q (o :: rest) act w := by
  refine wpList_plain hgd fun K hK' => ?_
  exact wp_append_winA s x E ho h hs A m c hx news hA hnl hn hnews h1 fun a' cap' w' h2 h3 h4 h5 => hK' _ _ (hk a' cap' w' h2 h3 h4 h5)
end Go.Proofs.YtjaclmoobfeikaaGreatDoor
namespace Go.Proofs.YtjaclmoobfeikaaGreatDoor
open Go.RowKit

theorem foldl_take {α β : Type} [Inhabited α] (f : β → α → β) (b : β) (l : List α) (k : Nat) (h : k < l.length) : (l.take (k + 1)).foldl f b = f ((l.take k).foldl f b) (l.getD k default) := by
  rw [List.take_add_one, List.foldl_append, List.getD_eq_getElem?_getD, List.getElem?_eq_getElem h]
  rfl
set_option maxRecDepth 100000 in
set_option maxHeartbeats 12800000 in
theorem refColumns_any (S : Nat → Prop) (y : Qm) (w : World) (hS : QmS S w y) (li : y.items.length ≤ 1000) (lg : y.group.length ≤ 1000) (lo : y.order.length ≤ 1000) (ln : y.cond.n ≤ 1000) :
    Calls Tryz.prog 12 #[.agg y.c] w fun e w' => (∃ (a : Ptr) (cap : Nat) (m : List ByteArray), e = .returned (.slice a m.length cap) ∧ m.map b8 = y.e.seqN.foldl withN [] ∧ CellsS (fun _ => True) w' a (m.map Value.string) ∧ m.length ≤ cap ∧ m.length ≤ 5000) ∧ w.grownBy w' none := by
  have HN := Lib.hid (fun W (hW : w.grownBy W none) => refNames_any S y.cond.n y.cond none 0 [] W (Nat.le_refl _) (hS.keep (.of hW)).2.1 (.inl rfl) (Nat.le_refl _) (by simp; omega))
  have HK := Lib.hid (fun W (hW : w.grownBy W none) => refKeys_any S y W (hS.keep (.of hW)).2.2.2.1 lo hS.2.2.2.2)
  have HWI := Lib.hid (fun (a : Ptr) (cap : Nat) (l : List ByteArray) (y : ByteArray) W (h1 : CellsS (fun _ => True) W a (l.map Value.string)) (h2 : l.length ≤ cap) (h3 : l.length ≤ 100000) => with_any (fun _ => True) a cap l y W h1 h2 h3)
  have HI := Lib.hid (fun W (hW : w.grownBy W none) => (hS.keep (.of hW)).1.1)
  have HG := Lib.hid (fun W (hW : w.grownBy W none) => (hS.keep (.of hW)).2.2.1.1)
  have HQ : Hid (∀ L0 : List Nm, L0 = y.cond.e.putN [] → ((y.items ++ y.group ++ y.order.map Kyo.item).foldl (fun l x => withN l (b8 x.col)) L0) = y.e.seqN.foldl withN []) := Lib.hid (by
    rintro L0 rfl
    rw [Prd.putN_eq]
    show _ = (y.cond.e.seqN ++ (y.items ++ y.group ++ y.order.map Kyo.item).map fun x => b8 x.col).foldl withN []
    generalize y.items ++ y.group ++ y.order.map Kyo.item = Z
    rw [List.foldl_append, List.foldl_map])
  obtain ⟨r, hr⟩ : ∃ r, r = y.e.seqN.foldl withN [] := ⟨_, rfl⟩
  rw [← hr] at HQ ⊢
  obtain ⟨ia1, ic1, its1, al1, ta1, ⟨k1, c1, rr1, v1, o1, la1, lc1, li1, ka1, kc1, ks1, pp1⟩, ga1, gc1, gr1, oa1, oc1, od1, lim1⟩ := y
  dsimp only at li lg lo ln HI HG HN HQ
  generalize hE : (Pm.e (.mk k1 c1 rr1 v1 o1 la1 lc1 li1 ka1 kc1 ks1 pp1)) = E at *
  generalize hnn : (Pm.n (.mk k1 c1 rr1 v1 o1 la1 lc1 li1 ka1 kc1 ks1 pp1)) = nn at *
  replace HN : Hid (∀ W, w.grownBy W none → Calls Tryz.prog 26 #[.slice none 0 0, .agg #[.int .i64 (k1 : Nat), .string c1, .int .i64 (rr1 : Nat), .int .i64 v1.k, .int .i64 v1.n, .string v1.s, .string o1, .slice la1 li1.length lc1, .slice ka1 ks1.length kc1, .int .i64 (pp1 : Nat)]] W fun e w' => (∃ (a' : Ptr) (cap' : Nat) (m : List ByteArray), e = .returned (.slice a' m.length cap') ∧ m.map b8 = E.putN [] ∧ CellsS (fun _ => True) w' a' (m.map Value.string) ∧ m.length ≤ cap' ∧ m.length ≤ 0 + 2 * nn) ∧ W.grownBy w' none) := HN
  replace HK : Hid (∀ W, w.grownBy W none → Calls Tryz.prog 27 #[.agg #[.slice ia1 its1.length ic1, .bool al1, .string ta1, .int .i64 (k1 : Nat), .string c1, .int .i64 (rr1 : Nat), .int .i64 v1.k, .int .i64 v1.n, .string v1.s, .string o1, .slice la1 li1.length lc1, .slice ka1 ks1.length kc1, .int .i64 (pp1 : Nat), .slice ga1 gr1.length gc1, .slice oa1 od1.length oc1, .int .i64 lim1, .int .i64 0]] W fun e w' => ∃ a cap, e = .returned (.slice a od1.length cap) ∧ Win 3 w' a cap od1.length (od1.flatMap fun k => k.item.c) ∧ (∀ k, bk a k → W.heap.size ≤ k) ∧ W.grownBy w' none) := HK
  show Calls Tryz.prog 12 #[.agg #[.slice ia1 its1.length ic1, .bool al1, .string ta1, .int .i64 (k1 : Nat), .string c1, .int .i64 (rr1 : Nat), .int .i64 v1.k, .int .i64 v1.n, .string v1.s, .string o1, .slice la1 li1.length lc1, .slice ka1 ks1.length kc1, .int .i64 (pp1 : Nat), .slice ga1 gr1.length gc1, .slice oa1 od1.length oc1, .int .i64 lim1, .int .i64 0]] w _
  have HL1 := Lib.hid (flat_len Itm.c 3 Itm.c_len its1)
  have HL2 := Lib.hid (flat_len Itm.c 3 Itm.c_len gr1)
  have HL3 := Lib.hid (flat_len (fun k : Kyo => k.item.c) 3 (fun _ => rfl) od1)
  have H11 : Hid (∀ u ∈ its1.flatMap Itm.c, u.oneCell' = true) := Lib.hid (itm_ones its1)
  have H12 : Hid (∀ u ∈ gr1.flatMap Itm.c, u.oneCell' = true) := Lib.hid (itm_ones gr1)
  have H13 : Hid (∀ u ∈ od1.flatMap fun k => k.item.c, u.oneCell' = true) := Lib.hid (by
    have := itm_ones (od1.map Kyo.item)
    rwa [List.flatMap_map] at this)
  have HN1 := Lib.hid (fun W (hW : w.grownBy W none) => (HI.out W hW).atAny)
  have HN2 := Lib.hid (fun W (hW : w.grownBy W none) => (HG.out W hW).atAny)
  have nil0 : ∀ (a : Ptr) (l : List Itm), CellsS S w a (l.flatMap Itm.c) → a = none → l.length = 0 := by
    intro a l h e
    rcases h with h | ⟨b, off, e', _⟩
    · have := congrArg List.length h
      rw [flat_len Itm.c 3 Itm.c_len, List.length_nil] at this
      omega
    · rw [e] at e'; cases e'
  have HA1 := Lib.hid (nil0 ia1 its1 (HI.out w (grown_reflT _ _)))
  have HA2 := Lib.hid (nil0 ga1 gr1 (HG.out w (grown_reflT _ _)))
  have HX : Hid (([] ++ its1.flatMap Itm.c) ++ gr1.flatMap Itm.c ++ (od1.flatMap fun k => k.item.c) = (its1 ++ gr1 ++ od1.map Kyo.item).flatMap Itm.c) := Lib.hid (by
    rw [List.flatMap_append, List.flatMap_append, List.flatMap_map, List.nil_append])
  have HLL : Hid ((its1 ++ gr1 ++ od1.map Kyo.item).length = its1.length + gr1.length + od1.length) := Lib.hid (by simp; omega)
  have hst : its1.length ≤ 1000 ∧ gr1.length ≤ 1000 ∧ od1.length ≤ 1000 := ⟨li, lg, lo⟩
  obtain ⟨m0, m1, m2⟩ := hst
  clear nil0 hE hnn li lg lo hS hr HI HG
  generalize hLa : its1 ++ gr1 ++ od1.map Kyo.item = La at *
  generalize its1.flatMap Itm.c = xs1 at *
  generalize gr1.flatMap Itm.c = xs2 at *
  generalize (od1.flatMap fun k : Kyo => k.item.c) = xs3 at *
  generalize its1.length = n0 at *
  generalize li1.length = n2 at *
  generalize ks1.length = n4 at *
  generalize gr1.length = n6 at *
  generalize od1.length = n at *
  clear hLa
  have HB := Lib.hid (fun (W : World) (hW : W.heap[w.heap.size]? = some (.cells #[.slice ia1 n0 ic1, .bool al1, .string ta1, .int .i64 (k1 : Nat), .string c1, .int .i64 (rr1 : Nat), .int .i64 v1.k, .int .i64 v1.n, .string v1.s, .string o1, .slice la1 n2 lc1, .slice ka1 n4 kc1, .int .i64 (pp1 : Nat), .slice ga1 n6 gc1, .slice oa1 n oc1, .int .i64 lim1, .int .i64 0] 36 (0, 0))) => cells17 hW)
  have B1 := Lib.hid (heap_alloc_new w (.cells #[.slice ia1 n0 ic1, .bool al1, .string ta1, .int .i64 (k1 : Nat), .string c1, .int .i64 (rr1 : Nat), .int .i64 v1.k, .int .i64 v1.n, .string v1.s, .string o1, .slice la1 n2 lc1, .slice ka1 n4 kc1, .int .i64 (pp1 : Nat), .slice ga1 n6 gc1, .slice oa1 n oc1, .int .i64 lim1, .int .i64 0] 36))
  have G1 := Lib.hid (World.grownBy_alloc w (.cells #[.slice ia1 n0 ic1, .bool al1, .string ta1, .int .i64 (k1 : Nat), .string c1, .int .i64 (rr1 : Nat), .int .i64 v1.k, .int .i64 v1.n, .string v1.s, .string o1, .slice la1 n2 lc1, .slice ka1 n4 kc1, .int .i64 (pp1 : Nat), .slice ga1 n6 gc1, .slice oa1 n oc1, .int .i64 lim1, .int .i64 0] 36) none)
  go_enter Tryz.func12, Tryz.ntmps12
  go_wp2_with fail
  refine (HN.out _ G1.out).mono ?_
  rintro e w2 ⟨⟨a2, cap2, q2, rfl, e2, h2, l2, b2⟩, hg⟩
  have G2 := Lib.hid (G1.out.trans hg)
  have B2 := Lib.hid (blkN B1.out hg)
  have P2 : Hid (q2.map b8 = (La.take 0).foldl (fun l x => withN l (b8 x.col)) (E.putN []) ∧ CellsS (fun _ => True) w2 a2 (q2.map Value.string) ∧ q2.length ≤ cap2 ∧ q2.length ≤ 2 * nn + 0) := Lib.hid ⟨by rw [e2]; rfl, h2, l2, by omega⟩
  clear hg e2 h2 l2 b2 HN G1 B1
  obtain ⟨qn, hqn⟩ : ∃ qn, qn = q2.length := ⟨_, rfl⟩
  have Hqn := Lib.hid hqn
  rw [← hqn] at P2 ⊢
  clear hqn
  go_upto_region 2 with fail
  refine wp_region_held_drew (S := (fun W => Hid (w2.grownBy W none))) (by kernel_rfl) (Lib.hid (grown_drewT (grown_reflT _ _))) (fun hHeld => ?_)
  refine wpAnyH_take (i := 1) (v := ?v1z1) rfl (by kernel_rfl) (by kernel_rfl) (by kernel_rfl) (fun _ _ _ h => h) (Or.inl ⟨by rfl, ?y1z1⟩) (by assumption) ?r1z1
  case y1z1 => (intro w hSw; (try dsimp only at hSw); go_simp; try with_reducible rfl)
  simp only [Act.put, List.getElem_toArray, List.getElem_cons_succ, List.getElem_cons_zero, List.size_toArray, List.length_cons, List.length_nil, Nat.reduceAdd, Array.replicate, List.replicate, List.setIfInBounds_toArray, List.set_cons_zero, List.set_cons_succ]
  refine wpAnyH_take (i := 2) (v := ?v2z2) rfl (by kernel_rfl) (by kernel_rfl) (by kernel_rfl) (fun _ _ _ h => h) (Or.inl ⟨by rfl, ?y2z2⟩) (by assumption) ?r2z2
  case y2z2 => (intro w hSw; obtain ⟨d0, d1, d2, d3, d4, d5, d6, d7, d8, d9, d10, d11, d12, d13, d14, d15, d16⟩ := HB.out _ (blkN B2.out hSw.out); clear hSw; go_simp; try with_reducible rfl)
  simp only [Act.put, List.getElem_toArray, List.getElem_cons_succ, List.getElem_cons_zero, List.setIfInBounds_toArray, List.set_cons_zero, List.set_cons_succ]
  refine wpAnyH_take (i := 4) (v := ?v4z3) rfl (by kernel_rfl) (by kernel_rfl) (by kernel_rfl) (fun _ _ _ h => h) (Or.inl ⟨by rfl, ?y4z3⟩) (by assumption) ?r4z3
  case y4z3 => (intro w hSw; (try dsimp only at hSw); go_simp; try with_reducible rfl)
  simp only [Act.put, List.getElem_toArray, List.getElem_cons_succ, List.getElem_cons_zero, List.setIfInBounds_toArray, List.set_cons_zero, List.set_cons_succ]
  refine wpAnyH_take (i := 5) (v := ?v5z4) rfl (by kernel_rfl) (by kernel_rfl) (by kernel_rfl) (fun _ _ _ h => h) (Or.inl ⟨by rfl, ?y5z4⟩) (by assumption) ?r5z4
  case y5z4 => (intro w hSw; obtain ⟨d0, d1, d2, d3, d4, d5, d6, d7, d8, d9, d10, d11, d12, d13, d14, d15, d16⟩ := HB.out _ (blkN B2.out hSw.out); clear hSw; go_simp; try with_reducible rfl)
  simp only [Act.put, List.getElem_toArray, List.getElem_cons_succ, List.getElem_cons_zero, List.setIfInBounds_toArray, List.set_cons_zero, List.set_cons_succ]
  refine wpAnyH_take (i := 7) (v := ?v7z5) rfl (by kernel_rfl) (by kernel_rfl) (by kernel_rfl) (fun _ _ _ h => h) (Or.inl ⟨by rfl, ?y7z5⟩) (by assumption) ?r7z5
  case y7z5 => (intro w hSw; obtain ⟨d0, d1, d2, d3, d4, d5, d6, d7, d8, d9, d10, d11, d12, d13, d14, d15, d16⟩ := HB.out _ (blkN B2.out hSw.out); clear hSw; go_simp; try with_reducible rfl)
  simp only [Act.put, List.getElem_toArray, List.getElem_cons_succ, List.getElem_cons_zero, List.setIfInBounds_toArray, List.set_cons_zero, List.set_cons_succ]
  refine wpAnyH_ready (rs := [0]) (by kernel_rfl) (by simp) ?_
  refine AllReadyH.cons rfl (fun K' hK => ?_) AllReadyH.nil
  go_simp
  obtain ⟨wb, hwb⟩ : ∃ wb, wb = (w2.alloc (.cells #[] 65)).drew := ⟨_, rfl⟩
  have ZB : Hid (w2.grownBy wb none) := Lib.hid (by rw [hwb]; exact grown_drewT (World.grownBy_alloc _ _ none))
  have WB : Hid (Win 3 wb (some ⟨w2.heap.size, 0, none⟩) 0 0 []) := Lib.hid (by rw [hwb]; exact ⟨rfl, Nat.le_refl _, Nat.zero_le _, fun k hk => by rw [bk_some] at hk; subst hk; simp, .inl rfl⟩)
  rw [← hwb]
  clear hwb
  refine hK.out _ _ ZB (fun hHeld => ?_)
  clear hK K'
  simp only [List.setIfInBounds_toArray, List.set_cons_zero]
  refine wpAnyH_ready (rs := [3]) (by kernel_rfl) (by simp) ?_
  refine AllReadyH.cons rfl (fun K' hK => ?_) AllReadyH.nil
  refine wp_append_winA (.tmp 9) (.tmp 11) itm_el (by rfl) WB.out (by rfl) ia1 n0 ic1 (by rfl) _ HA1.out HL1.out (by omega) (HN1.out _ (G2.out.trans ZB.out)) H11.out ?_
  intro a5 c5 w5 z5 o5 b5 _
  have Z5 : Hid (w2.grownBy w5 none) := Lib.hid (grown_onlyN ZB.out o5 (fun k hk => by rw [bk_some] at hk; omega))
  rw [Nat.zero_add] at z5 ⊢
  have W5 := Lib.hid z5
  have L5 : Hid (∀ k, bk a5 k → w2.heap.size ≤ k) := Lib.hid (fun k hk => by exact (b5 k hk).elim (fun e => by rw [bk_some] at e; omega) (fun e => Nat.le_trans ZB.out.size e))
  clear z5 o5 b5
  refine hK.out _ _ Z5 (fun hHeld => ?_)
  clear hK K'
  simp only [Act.put, List.getElem_toArray, List.getElem_cons_succ, List.getElem_cons_zero, List.setIfInBounds_toArray, List.set_cons_zero, List.set_cons_succ]
  refine wpAnyH_ready (rs := [6]) (by kernel_rfl) (by simp) ?_
  refine AllReadyH.cons rfl (fun K' hK => ?_) AllReadyH.nil
  refine wp_append_winA (.tmp 12) (.tmp 14) itm_el (by rfl) W5.out (by rfl) ga1 n6 gc1 (by rfl) _ HA2.out HL2.out (by omega) (HN2.out _ (G2.out.trans Z5.out)) H12.out ?_
  intro a6 c6 w6 z6 o6 b6 _
  have Z6 : Hid (w2.grownBy w6 none) := Lib.hid (grown_onlyN Z5.out o6 L5.out)
  have W6 := Lib.hid z6
  have L6 : Hid (∀ k, bk a6 k → w2.heap.size ≤ k) := Lib.hid (fun k hk => (b6 k hk).elim (L5.out k) (fun e => Nat.le_trans Z5.out.size e))
  clear z6 o6 b6
  refine hK.out _ _ Z6 (fun hHeld => ?_)
  clear hK K'
  simp only [Act.put, List.getElem_toArray, List.getElem_cons_succ, List.getElem_cons_zero, List.setIfInBounds_toArray, List.set_cons_zero, List.set_cons_succ]
  refine wpAnyH_ready (rs := [8]) (by kernel_rfl) (by simp) ?_
  refine AllReadyH.cons rfl (fun K' hK => ?_) AllReadyH.nil
  go_simp
  go_at_call 27
  refine (HK.out _ (G2.out.trans Z6.out)).mono ?_
  rintro e w7 ⟨ak, ck, rfl, zk, lk, gk⟩
  have Z7 : Hid (w2.grownBy w7 none) := Lib.hid (Z6.out.trans gk)
  have W7 : Hid (Win 3 w7 a6 c6 (n0 + n6) (([] ++ xs1) ++ xs2)) := Lib.hid (W6.out.keepG gk)
  have WK := Lib.hid zk
  clear zk lk gk
  refine hK.out _ _ Z7 (fun hHeld => ?_)
  clear hK K'
  simp only [List.setIfInBounds_toArray, List.set_cons_zero, List.set_cons_succ]
  refine wpAnyH_ready (rs := [9]) (by kernel_rfl) (by simp) ?_
  refine AllReadyH.cons rfl (fun K' hK => ?_) AllReadyH.nil
  refine wp_append_winA (.tmp 15) (.tmp 17) itm_el (by rfl) W7.out (by rfl) ak n ck (by rfl) _ (fun e => (WK.out.nil_of e).1) HL3.out (by omega) WK.out.at H13.out ?_
  intro a8 c8 w8 z8 o8 b8 _
  have Z8 : Hid (w2.grownBy w8 none) := Lib.hid (grown_onlyN Z7.out o8 L6.out)
  have W8 := Lib.hid z8
  clear z8 o8 b8
  refine hK.out _ _ Z8 (fun hHeld => ?_)
  clear hK K'
  simp only [Act.put, List.getElem_toArray, List.getElem_cons_succ, List.getElem_cons_zero, List.setIfInBounds_toArray, List.set_cons_zero, List.set_cons_succ]
  refine wpAnyH_take (i := 10) (v := ?v10z6) rfl (by kernel_rfl) (by kernel_rfl) (by kernel_rfl) (fun _ _ _ h => h) (Or.inl ⟨by rfl, ?y10z6⟩) (by assumption) ?r10z6
  case y10z6 => (intro w hSw; (try dsimp only at hSw); go_simp; try with_reducible rfl)
  simp only [Act.put, List.getElem_toArray, List.getElem_cons_succ, List.getElem_cons_zero, List.setIfInBounds_toArray, List.set_cons_zero, List.set_cons_succ]
  refine wpAnyH_done (by kernel_rfl) ?_ _
  rw [HX.out] at W8
  clear HX WK W7 L6 W6 L5 W5 WB HK HN1 HN2 H11 H12 H13 HL1 HL2 HL3 HA1 HA2 B2 HB hHeld
  obtain ⟨N, hN⟩ : ∃ N, N = n0 + n6 + n := ⟨_, rfl⟩
  rw [← hN] at W8 HLL ⊢
  have hN3 : N ≤ 3000 := by omega
  have G8 := Lib.hid (G2.out.trans Z8.out)
  have hcp := W8.out.le
  replace P2 : Hid (∃ m : List ByteArray, qn = m.length ∧ m.map b8 = (La.take 0).foldl (fun l x => withN l (b8 x.col)) (E.putN []) ∧ CellsS (fun _ => True) w8 a2 (m.map Value.string) ∧ qn ≤ cap2 ∧ qn ≤ 2 * nn + 0) := Lib.hid ⟨q2, Hqn.out, P2.out.1, P2.out.2.1.keep (.of Z8.out), P2.out.2.2⟩
  clear hN Z8 Hqn
  go_wp2_with fail
  go_loopw [3, 21] (fun s3 s21 wr => ∃ (k c mq : Nat) (a' : Ptr), s3 = .slice a' mq c ∧ s21 = .int .i64 k ∧ k ≤ N ∧ Hid (∃ m : List ByteArray, mq = m.length ∧ m.map b8 = (La.take k).foldl (fun l x => withN l (b8 x.col)) (E.putN []) ∧ CellsS (fun _ => True) wr a' (m.map Value.string) ∧ mq ≤ c ∧ mq ≤ 2 * nn + k) ∧ Hid (w8.grownBy wr none)) (fun _ s21 _ => N - (intOf s21).toNat)
  case atStart => exact ⟨0, cap2, qn, a2, rfl, rfl, by omega, P2, Lib.hid (grown_reflT _ _)⟩
  case round =>
    obtain ⟨k, c, mq, a', rfl, rfl, hk, K, KG⟩ := hrel
    clear P2
    by_cases hlt : k < N
    · obtain ⟨b, off, rfl, _, _, hc⟩ := (win_cells (S := fun _ => True) (W8.out.keepG KG.out) (fun _ _ => trivial)).elem Itm.c_len (by decide) (i := k) (by rw [HLL.out]; exact hlt)
      have HF := Lib.hid (foldl_take (fun l x => withN l (b8 x.col)) (E.putN []) La k (by rw [HLL.out]; exact hlt))
      obtain ⟨x, hx⟩ : ∃ x, x = La.getD k default := ⟨_, rfl⟩
      rw [← hx] at hc HF
      clear hx
      obtain ⟨xa, xc, xp⟩ := x
      have c1' := hc 1 _ rfl
      obtain ⟨m, hmq, hm, hmc, hmcap, hml⟩ := K.out
      have HI := Lib.hid (HWI.out a' c m xc wr hmc (by omega) (by omega))
      have HM := Lib.hid (And.intro hmq (And.intro hm hml))
      rw [← hmq] at HI
      have i0 : (0 : Int) ≤ k := by omega
      have i1 : (k : Int) < N := by omega
      have i2 : (k : Int) < c8 := by omega
      clear hc hmq hm hmc hmcap hml K
      go_wp2_with fail
      refine HI.out.mono ?_
      rintro e w5 ⟨⟨a5, cap5, m5, rfl, e5, hw5, hb5⟩, hg⟩
      have N5 : Hid (∃ m : List ByteArray, m5.length = m.length ∧ m.map b8 = (La.take (k + 1)).foldl (fun l x => withN l (b8 x.col)) (E.putN []) ∧ CellsS (fun _ => True) w5 a5 (m.map Value.string) ∧ m5.length ≤ cap5 ∧ m5.length ≤ 2 * nn + (k + 1)) := Lib.hid ⟨m5, rfl, by
        rw [HF.out, e5, HM.out.2.1], win_cells hw5 (fun _ _ => trivial), hw5.le, by
        have h1 := with_len e5
        have h2 := HM.out
        omega⟩
      have G5 := Lib.hid (KG.out.trans hg)
      clear hg e5 hw5 hb5
      generalize m5.length = mq5 at *
      go_wp2_with fail
      go_roundw
      case rel => exact ⟨k + 1, cap5, mq5, a5, rfl, by go_num, by omega, N5, G5⟩
      case measure => simp [intOf]; omega
    · obtain rfl : k = N := by omega
      go_wp2_with fail
      go_ret
      obtain ⟨m, hmq, hm, hmc, hmcap, hml⟩ := K.out
      rw [List.take_of_length_le (by rw [HLL.out]; exact Nat.le_refl _)] at hm
      exact ⟨⟨a', c, m, by rw [← hmq]; rfl, by rw [hm]; exact HQ.out _ rfl, hmc, by omega, by omega⟩, G8.out.trans KG.out⟩
end Go.Proofs.YtjaclmoobfeikaaGreatDoor
namespace Go.Proofs.YtjaclmoobfeikaaGreatDoor
open Go.RowKit
theorem insNil (w : World) : Calls Tryz.prog 67 #[.slice none 0 0, .int .i64 0, .int .i64 0] w fun e w' => e = .returned (.tuple #[]) ∧ w = w' := by
  go_enter Tryz.func67, Tryz.ntmps67
  go_wp2_with fail
  go_loopw [6] (fun s6 wr => s6 = .int .i64 1 ∧ w = wr) (fun _ _ => 0)
  case atStart => exact ⟨rfl, rfl⟩
  case round =>
    obtain ⟨rfl, rfl⟩ := hrel
    go_wp2_with fail
    go_end0
    exact ⟨rfl, rfl⟩
theorem pdqNil (q : Int) (w : World) : Calls Tryz.prog 42 #[.slice none 0 0, .int .i64 0, .int .i64 0, .int .i64 q] w fun e w' => e = .returned (.tuple #[]) ∧ w = w' := by
  go_enter Tryz.func42, Tryz.ntmps42
  go_wp2_with fail
  go_loopw [1, 2] (fun s1 s2 wr => s1 = .int .i64 0 ∧ s2 = .int .i64 0 ∧ w = wr) (fun _ _ _ => 0)
  case atStart => exact ⟨rfl, rfl, rfl⟩
  case round =>
    obtain ⟨rfl, rfl, rfl⟩ := hrel
    go_wp2_with fail
    refine (insNil _).mono ?_
    rintro e w2 ⟨rfl, rfl⟩
    go_wp2_with fail
    exact bodyPost_ret (results_none rfl _ _ _) rfl ⟨rfl, rfl⟩
theorem len0 (w : World) : Calls Tryz.prog 43 #[.int .u64 0] w fun e w' => (∃ q, e = .returned (.int .i64 q)) ∧ w = w' := by
  go_enter Tryz.func43, Tryz.ntmps43
  go_wp2_with fail
  refine (Tryz.bits_Len64 0 w (by omega) (by omega)).mono ?_
  rintro e w2 ⟨rfl, rfl⟩
  go_wp2_with fail
  go_ret
  exact ⟨⟨_, rfl⟩, rfl⟩
theorem sortNil (w : World) : Calls Tryz.prog 24 #[.slice none 0 0] w fun e w' => e = .returned (.tuple #[]) ∧ w = w' := by
  have HP := Lib.hid pdqNil
  have HL := Lib.hid len0
  go_enter Tryz.func24, Tryz.ntmps24
  go_wp2_with fail
  refine (HL.out _).mono ?_
  rintro e w2 ⟨⟨q, rfl⟩, rfl⟩
  go_wp2_with fail
  refine (HP.out q _).mono ?_
  rintro e w2 ⟨rfl, rfl⟩
  go_wp2_with fail
  go_end0
  exact ⟨rfl, rfl⟩
end Go.Proofs.YtjaclmoobfeikaaGreatDoor
namespace Go.Proofs.YtjaclmoobfeikaaGreatDoor
open Go.RowKit Go.Sort

theorem compactL_snoc (x : Nm) : ∀ l : List Nm, compactL (l ++ [x]) = compactL l ++ (if l.getLast? = some x then [] else [x])
  | [] => by simp [compactL]
  | [a] => by
    by_cases h : a = x
    · subst h; simp [compactL]
    · simp [compactL, h]
  | a :: b :: r => by
    have ih := compactL_snoc x (b :: r)
    have e : (a :: b :: r).getLast? = (b :: r).getLast? := by simp [List.getLast?_cons_cons]
    rw [e, List.cons_append, List.cons_append, compactL, compactL]
    rw [List.cons_append] at ih
    split
    · exact ih
    · rw [ih]; rfl
theorem compactUpTo_L (d : Array Nm) : ∀ m, m ≤ d.size → Lib.compactUpTo d m = compactL (d.toList.take m)
  | 0, _ => by simp [Lib.compactUpTo, compactL]
  | m + 1, h => by
    have ih := compactUpTo_L d m (by omega)
    have hm : m < d.toList.length := by simp; omega
    have e1 : d[m]! = d.toList[m] := by rw [getElem!_pos d m (by omega)]; simp
    rw [Lib.compactUpTo_succ, ih, List.take_succ_eq_append_getElem hm, compactL_snoc, e1]
    congr 1
    by_cases h0 : m = 0
    · subst h0
      simp [Lib.keeps]
    · obtain ⟨q, rfl⟩ : ∃ q, m = q + 1 := ⟨m - 1, by omega⟩
      have hq : q < d.toList.length := by simp; omega
      have e2 : d[q]! = d.toList[q] := by rw [getElem!_pos d q (by omega)]; simp
      have e3 : (d.toList.take (q + 1)).getLast? = some d.toList[q] := by
        rw [List.take_succ_eq_append_getElem hq]; simp
      rw [e3]
      have ek : Lib.keeps d (q + 1) = decide (d.toList[q + 1] ≠ d.toList[q]) := by
        unfold Lib.keeps
        rw [Nat.add_sub_cancel, e1, e2]
        simp
      rw [ek]
      by_cases hd : d.toList[q + 1] = d.toList[q]
      · rw [decide_eq_false (fun h => h hd), if_neg (by simp), if_pos (by rw [hd])]
      · rw [decide_eq_true hd, if_pos rfl, if_neg (fun e => hd (Option.some.inj e).symm)]
theorem compact_L (l : List Nm) : Lib.compact l = compactL l := by
  unfold Lib.compact
  rw [compactUpTo_L l.toArray l.length (by simp)]
  simp
theorem compactL_len (l : List Nm) : (compactL l).length ≤ l.length := by
  induction l with
  | nil => simp [compactL]
  | cons a l ih =>
    cases l with
    | nil => simp [compactL]
    | cons b r =>
      rw [compactL]
      split
      · simp at ih ⊢; omega
      · simp at ih ⊢; omega
theorem encStr_b8 (t : ByteArray) : encStr (b8 t) = Value.string t := rfl
/-- A window of names as the library's sort wants it. -/
theorem win_holds {W : World} {g off cap : Nat} {l : List ByteArray} (h : Win 1 W (some ⟨g, off, none⟩) cap l.length (l.map Value.string)) : Holds encStr W g off (l.map b8).toArray ∧ g < W.heap.size := by
  refine ⟨fun j hj => ?_, h.lt g rfl⟩
  have hj : j < l.length := by simpa using hj
  have hle := h.le
  obtain ⟨g', off', e, hc, _, hf⟩ := h.mem.resolve_left (by omega)
  cases e
  refine ⟨?_, hf _⟩
  have := hc j (.string l[j]) (by rw [List.getElem?_map, List.getElem?_eq_getElem hj]; rfl)
  rw [this, getElem!_pos _ j (by simpa using hj)]
  simp [encStr_b8]
/-- Cells of names from what the library leaves. -/
theorem holds_cells {W : World} {g off : Nat} {d : List Nm} (h : Holds encStr W g off d.toArray) (hlt : g < W.heap.size) : CellsS (fun _ => True) W (some ⟨g, off, none⟩) ((d.map fun x => (⟨x.toArray⟩ : ByteArray)).map Value.string) := by
  refine .inr ⟨g, off, rfl, trivial, hlt, fun j u hj => ?_⟩
  rw [List.getElem?_map, List.getElem?_map] at hj
  by_cases hl : j < d.length
  · rw [List.getElem?_eq_getElem hl] at hj
    have hh := (h j (by simpa using hl)).1
    rw [hh, getElem!_pos _ j (by simpa using hl)]
    simp only [Option.map_some] at hj
    rw [← hj]
    simp
  · rw [List.getElem?_eq_none (by omega)] at hj
    simp at hj
theorem b8_back (d : List Nm) : (d.map fun x => (⟨x.toArray⟩ : ByteArray)).map b8 = d := by
  rw [List.map_map]
  have : (b8 ∘ fun x : Nm => (⟨x.toArray⟩ : ByteArray)) = id := by
    funext x; rfl
  rw [this, List.map_id]
/-- A row that is written over is nothing to other blocks. -/
theorem grownBy_putRow (w : World) (g off n : Nat) (d : Array Nm) : w.grownBy (putRow encStr (Sort.ahead w n) g off d) (some g) := by
  refine ⟨rfl, rfl, rfl, by simp, fun k hk hne => ?_⟩
  have : g ≠ k := fun e => hne (by rw [e])
  simp [putRow, mapBlock, Sort.ahead, Array.getElem?_modify, this]
theorem grownBy_grow (w : World) (os : Array Obj) : w.grownBy (grow w os) none :=
  ⟨rfl, rfl, rfl, by simp, fun k hk _ => heap_grow_old _ _ hk⟩
set_option maxHeartbeats 1600000 in
/-- Sorted and made compact. -/
theorem sorted_any (a : Ptr) (cap : Nat) (l : List ByteArray) (B : Nat) (w : World) (h : Win 1 w a cap l.length (l.map Value.string)) (hp : PlA a) (hb : ∀ k, bk a k → B ≤ k) (hl : l.length ≤ 100000) :
    Calls Tryz.prog 24 #[.slice a l.length cap] w fun e w' => e = .returned (.tuple #[]) ∧
      Calls Tryz.prog 25 #[.slice a l.length cap] w' fun e w2 => (∃ m : List ByteArray, e = .returned (.slice a m.length cap) ∧ m.map b8 = compactL ((l.map b8).mergeSort fun x y => decide (x ≤ y)) ∧ CellsS (fun _ => True) w2 a (m.map Value.string) ∧ m.length ≤ cap) ∧ ∀ w0 : World, w0.heap.size ≤ B → w0.grownBy w none → w0.grownBy w2 none := by
  have hle := h.le
  rcases hp with rfl | ⟨g, off, rfl⟩
  · obtain ⟨h1, h2⟩ := h.nil_of rfl
    obtain rfl := List.eq_nil_of_length_eq_zero h1
    subst h2
    refine (sortNil w).mono ?_
    rintro e w1 ⟨rfl, rfl⟩
    refine ⟨rfl, (Tryz.slices_Compact_string_empty none 0 w).mono ?_⟩
    rintro e w2 ⟨rfl, rfl⟩
    exact ⟨⟨[], rfl, by simp [compactL], .inl rfl, Nat.le_refl _⟩, fun _ _ hg => hg⟩
  · obtain ⟨hH, hlt⟩ := win_holds h
    have hs := Tryz.slices_Sort_string g off cap (l.map b8) w hH hlt (by simp; omega)
    rw [List.length_map] at hs
    refine hs.mono ?_
    rintro e w1 ⟨rfl, n, os, rfl⟩
    obtain ⟨z, hz⟩ : ∃ z, z = (l.map b8).mergeSort fun x y => decide (x ≤ y) := ⟨_, rfl⟩
    have hzl : z.length = l.length := by rw [hz, List.length_mergeSort, List.length_map]
    rw [← hz]
    have h1 : Holds encStr (grow (putRow encStr (Sort.ahead w n) g off z.toArray) os) g off z.toArray := holds_grow _ _ _ _ _ _ (by simpa using hlt) (holds_putRow _ _ _ _ _ _ hH (by simp [hzl]))
    have hc := Tryz.slices_Compact_string g off cap z (grow (putRow encStr (Sort.ahead w n) g off z.toArray) os) h1 (by omega) (by omega)
    rw [hzl] at hc
    refine ⟨rfl, hc.mono ?_⟩
    rintro e w2 ⟨rfl, q, rfl⟩
    rw [compact_L]
    have hcl := compactL_len z
    have h2 : Holds encStr (putRow encStr (Sort.ahead (grow (putRow encStr (Sort.ahead w n) g off z.toArray) os) q) g off (compactL z ++ List.replicate (l.length - (compactL z).length) []).toArray) g off (compactL z ++ List.replicate (l.length - (compactL z).length) []).toArray :=
      holds_putRow _ _ _ _ _ _ (holds_ahead _ _ _ _ _ _ h1) (by simp; omega)
    have h3 : Holds encStr (putRow encStr (Sort.ahead (grow (putRow encStr (Sort.ahead w n) g off z.toArray) os) q) g off (compactL z ++ List.replicate (l.length - (compactL z).length) []).toArray) g off (compactL z).toArray := fun j hj => by
      have hj : j < (compactL z).length := by simpa using hj
      have := h2 j (by simp; omega)
      rw [getElem!_pos _ j (by simp; omega)] at this
      rw [getElem!_pos _ j (by simpa using hj)]
      simpa [List.getElem_append, hj] using this
    refine ⟨⟨(compactL z).map fun x => (⟨x.toArray⟩ : ByteArray), by simp, b8_back _, holds_cells h3 (by simp; omega), by simp; omega⟩, fun w0 hw0 hg => ?_⟩
    have k1 := grown_thenX hg (grownBy_putRow w g off n z.toArray) (fun j e => by cases e; exact Nat.le_trans hw0 (hb g (by rw [bk_some])))
    have k2 := k1.trans (grownBy_grow _ os)
    exact grown_thenX k2 (grownBy_putRow _ g off q _) (fun j e => by cases e; exact Nat.le_trans hw0 (hb g (by rw [bk_some])))
end Go.Proofs.YtjaclmoobfeikaaGreatDoor
namespace Go.Proofs.YtjaclmoobfeikaaGreatDoor
open Go.RowKit

theorem flat_takeN {α β : Type} [Inhabited α] (c : α → List β) (l : List α) (k : Nat) (h : k < l.length) : (l.take (k + 1)).flatMap c = (l.take k).flatMap c ++ c (l.getD k default) := by
  rw [List.take_add_one, List.flatMap_append, List.getD_eq_getElem?_getD, List.getElem?_eq_getElem h]
  simp
theorem one_str (l : List ByteArray) : ∀ u ∈ l.map Value.string, u.oneCell' = true := by
  intro u hu
  obtain ⟨x, _, rfl⟩ := List.mem_map.1 hu
  rfl
theorem str_len (l : List ByteArray) : (l.map Value.string).length = l.length * 1 := by simp
theorem nms_two : ∀ p : Prd, p.nms.length ≤ 2
  | .mk k c _ _ o _ _ _ => by
    show (if k = 3 ∨ k = 5 ∨ k = 6 ∨ k = 7 then [c] else if k = 4 then [c, o] else []).length ≤ 2
    split
    · simp
    · split <;> simp
theorem plA_none : PlA none := .inl rfl
set_option maxRecDepth 100000 in
set_option maxHeartbeats 12800000 in
theorem columns_any (S : Nat → Prop) (y : Qm) (w : World) (hS : QmS S w y) (li : y.items.length ≤ 1000) (lg : y.group.length ≤ 1000) (lo : y.order.length ≤ 1000) (ln : y.cond.n ≤ 1000) :
    Calls Tryz.prog 11 #[.agg y.c] w fun e w' => (∃ (a : Ptr) (cap : Nat) (m : List ByteArray), e = .returned (.slice a m.length cap) ∧ m.map b8 = compactL ((y.e.listN.map b8).mergeSort fun x y => decide (x ≤ y)) ∧ CellsS (fun _ => True) w' a (m.map Value.string) ∧ m.length ≤ cap) ∧ w.grownBy w' none := by
  have HA := Lib.hid (fun (ia : Ptr) (ic : Nat) (its : List Itm) W (hW : w.grownBy W none) (hi : CellsS S W ia (its.flatMap Itm.c)) (hl : its.length ≤ 1000) => asked_any S { y with ia := ia, ic := ic, items := its } W hi (hS.keep (.of hW)).2.2.2.1 hl lo)
  have HP := Lib.hid (fun W (hW : w.grownBy W none) => preds_any S y.cond W (hS.keep (.of hW)).2.1 ln)
  have HI := Lib.hid (hS.1.1)
  have HIc := hS.1.2
  have HG := Lib.hid (fun W (hW : w.grownBy W none) => (hS.keep (.of hW)).2.2.1.1)
  have HQ : Hid (∀ its : List Itm, its = (if y.all = true then [] else y.items) → (its ++ y.order.map Kyo.item ++ y.group).flatMap Itm.nms ++ (y.cond.alls.flatMap fun x => x.e.nms) = y.e.listN) := Lib.hid (by
    rintro its rfl
    have e1 : (y.cond.alls.flatMap fun x => x.e.nms) = y.cond.e.alls.flatMap Prd.nms := by rw [← Pm.alls_e, List.flatMap_map]
    rw [e1]; rfl)
  have HPn := Lib.hid (Pm.alls_n y.cond)
  obtain ⟨r, hr⟩ : ∃ r, r = y.e.listN := ⟨_, rfl⟩
  rw [← hr] at HQ ⊢
  obtain ⟨ia1, ic1, its1, al1, ta1, ⟨k1, c1, rr1, v1, o1, la1, lc1, li1, ka1, kc1, ks1, pp1⟩, ga1, gc1, gr1, oa1, oc1, od1, lim1⟩ := y
  dsimp only at li lg lo ln HI HIc HG HQ HPn
  generalize hAl : (Pm.alls (.mk k1 c1 rr1 v1 o1 la1 lc1 li1 ka1 kc1 ks1 pp1)) = Al at *
  generalize hnn : (Pm.n (.mk k1 c1 rr1 v1 o1 la1 lc1 li1 ka1 kc1 ks1 pp1)) = nn at *
  replace HP : Hid (∀ W, w.grownBy W none → Calls Tryz.prog 22 #[.agg #[.int .i64 (k1 : Nat), .string c1, .int .i64 (rr1 : Nat), .int .i64 v1.k, .int .i64 v1.n, .string v1.s, .string o1, .slice la1 li1.length lc1, .slice ka1 ks1.length kc1, .int .i64 (pp1 : Nat)]] W fun e w' => (∃ b cap, e = .returned (.slice b Al.length cap) ∧ Win 10 w' b cap Al.length (Al.flatMap Pm.c) ∧ ∀ k, bk b k → W.heap.size ≤ k) ∧ W.grownBy w' none) := HP
  replace HA : Hid (∀ (ia : Ptr) (ic : Nat) (its : List Itm) W, w.grownBy W none → CellsS S W ia (its.flatMap Itm.c) → its.length ≤ 1000 → Calls Tryz.prog 21 #[.agg #[.slice ia its.length ic, .bool al1, .string ta1, .int .i64 (k1 : Nat), .string c1, .int .i64 (rr1 : Nat), .int .i64 v1.k, .int .i64 v1.n, .string v1.s, .string o1, .slice la1 li1.length lc1, .slice ka1 ks1.length kc1, .int .i64 (pp1 : Nat), .slice ga1 gr1.length gc1, .slice oa1 od1.length oc1, .int .i64 lim1, .int .i64 0]] W fun e w' => (∃ v, e = .returned v ∧ w'.ownsRow W.heap.size 65 3 v (its.length + od1.length) (its.flatMap Itm.c ++ od1.flatMap fun k => k.item.c)) ∧ W.grownBy w' none) := HA
  show Calls Tryz.prog 11 #[.agg #[.slice ia1 its1.length ic1, .bool al1, .string ta1, .int .i64 (k1 : Nat), .string c1, .int .i64 (rr1 : Nat), .int .i64 v1.k, .int .i64 v1.n, .string v1.s, .string o1, .slice la1 li1.length lc1, .slice ka1 ks1.length kc1, .int .i64 (pp1 : Nat), .slice ga1 gr1.length gc1, .slice oa1 od1.length oc1, .int .i64 lim1, .int .i64 0]] w _
  have HL2 := Lib.hid (flat_len Itm.c 3 Itm.c_len gr1)
  have H12 : Hid (∀ u ∈ gr1.flatMap Itm.c, u.oneCell' = true) := Lib.hid (itm_ones gr1)
  have HN2 := Lib.hid (fun W (hW : w.grownBy W none) => (HG.out W hW).atAny)
  have HA2 : Hid (ga1 = none → gr1.length = 0) := Lib.hid (by
    intro e
    rcases HG.out w (grown_reflT _ _) with h | ⟨b, off, e', _⟩
    · have := congrArg List.length h
      rw [flat_len Itm.c 3 Itm.c_len, List.length_nil] at this
      omega
    · rw [e] at e'; cases e')
  have HX : Hid (∀ its : List Itm, its.flatMap Itm.c ++ (od1.flatMap fun k => k.item.c) ++ gr1.flatMap Itm.c = (its ++ od1.map Kyo.item ++ gr1).flatMap Itm.c ∧ (its ++ od1.map Kyo.item ++ gr1).length = its.length + od1.length + gr1.length) := Lib.hid (fun its => by
    refine ⟨?_, by simp; omega⟩
    rw [List.flatMap_append, List.flatMap_append, List.flatMap_map])
  have hst : gr1.length ≤ 1000 ∧ od1.length ≤ 1000 := ⟨lg, lo⟩
  obtain ⟨m1, m2⟩ := hst
  clear hAl hnn lg lo hS hr HG
  generalize gr1.flatMap Itm.c = xs2 at *
  generalize (od1.flatMap fun k : Kyo => k.item.c) = xs3 at *
  generalize li1.length = n2 at *
  generalize ks1.length = n4 at *
  generalize gr1.length = n6 at *
  generalize od1.length = n at *
  have HB := Lib.hid (fun (ia : Ptr) (n0 ic : Nat) (W : World) (hW : W.heap[w.heap.size]? = some (.cells #[.slice ia n0 ic, .bool al1, .string ta1, .int .i64 (k1 : Nat), .string c1, .int .i64 (rr1 : Nat), .int .i64 v1.k, .int .i64 v1.n, .string v1.s, .string o1, .slice la1 n2 lc1, .slice ka1 n4 kc1, .int .i64 (pp1 : Nat), .slice ga1 n6 gc1, .slice oa1 n oc1, .int .i64 lim1, .int .i64 0] 36 (0, 0))) => cells17 hW)
  have B1 := Lib.hid (heap_alloc_new w (.cells #[.slice ia1 its1.length ic1, .bool al1, .string ta1, .int .i64 (k1 : Nat), .string c1, .int .i64 (rr1 : Nat), .int .i64 v1.k, .int .i64 v1.n, .string v1.s, .string o1, .slice la1 n2 lc1, .slice ka1 n4 kc1, .int .i64 (pp1 : Nat), .slice ga1 n6 gc1, .slice oa1 n oc1, .int .i64 lim1, .int .i64 0] 36))
  have B1n := Lib.hid (heap_alloc_new w (.cells #[.slice none 0 0, .bool al1, .string ta1, .int .i64 (k1 : Nat), .string c1, .int .i64 (rr1 : Nat), .int .i64 v1.k, .int .i64 v1.n, .string v1.s, .string o1, .slice la1 n2 lc1, .slice ka1 n4 kc1, .int .i64 (pp1 : Nat), .slice ga1 n6 gc1, .slice oa1 n oc1, .int .i64 lim1, .int .i64 0] 36))
  have G1 := Lib.hid (World.grownBy_alloc w (.cells #[.slice ia1 its1.length ic1, .bool al1, .string ta1, .int .i64 (k1 : Nat), .string c1, .int .i64 (rr1 : Nat), .int .i64 v1.k, .int .i64 v1.n, .string v1.s, .string o1, .slice la1 n2 lc1, .slice ka1 n4 kc1, .int .i64 (pp1 : Nat), .slice ga1 n6 gc1, .slice oa1 n oc1, .int .i64 lim1, .int .i64 0] 36) none)
  have G1n := Lib.hid (World.grownBy_alloc w (.cells #[.slice none 0 0, .bool al1, .string ta1, .int .i64 (k1 : Nat), .string c1, .int .i64 (rr1 : Nat), .int .i64 v1.k, .int .i64 v1.n, .string v1.s, .string o1, .slice la1 n2 lc1, .slice ka1 n4 kc1, .int .i64 (pp1 : Nat), .slice ga1 n6 gc1, .slice oa1 n oc1, .int .i64 lim1, .int .i64 0] 36) none)
  go_enter Tryz.func11, Tryz.ntmps11
  go_upto_if 9 with fail
  go_cut [] from 8 (fun wx => Hid (∃ (ia : Ptr) (ic : Nat) (its : List Itm), its = (if al1 = true then [] else its1) ∧ CellsS S wx ia (its.flatMap Itm.c) ∧ its.length ≤ ic ∧ its.length ≤ 1000 ∧ wx.heap[w.heap.size]? = some (.cells #[.slice ia its.length ic, .bool al1, .string ta1, .int .i64 (k1 : Nat), .string c1, .int .i64 (rr1 : Nat), .int .i64 v1.k, .int .i64 v1.n, .string v1.s, .string o1, .slice la1 n2 lc1, .slice ka1 n4 kc1, .int .i64 (pp1 : Nat), .slice ga1 n6 gc1, .slice oa1 n oc1, .int .i64 lim1, .int .i64 0] 36 (0, 0)) ∧ w.grownBy wx none))
  case first =>
    cases al1 with
    | true =>
      go_wp2_with fail
      go_meet
      exact Lib.hid ⟨none, 0, [], rfl, .inl rfl, Nat.le_refl _, by simp, B1n.out, G1n.out⟩
    | false =>
      go_wp2_with fail
      go_meet
      exact Lib.hid ⟨ia1, ic1, its1, rfl, HI.out.keep (.of G1.out), HIc, li, B1.out, G1.out⟩
  case rest =>
  clear B1 B1n G1 G1n HI HIc li
  obtain ⟨w2, hw2⟩ : ∃ w2, w2 = wc := ⟨_, rfl⟩
  rw [← hw2] at hcut ⊢
  clear hw2
  obtain ⟨ia, ic, its, hits, hcs, hic, hil, hB2, hG2⟩ := hcut.out
  have HA2x := Lib.hid (fun W (hW : w.grownBy W none) (h2 : w2.grownBy W none) => HA.out ia ic its W hW (hcs.keep (.of h2)) hil)
  have HR1 := Lib.hid (HQ.out its hits)
  have HX1 := Lib.hid (HX.out its).1
  have HX2 := Lib.hid (HX.out its).2
  have B2 := Lib.hid hB2
  have G2 := Lib.hid hG2
  clear hcut hits hcs hB2 hG2 HA HQ HX
  generalize its ++ od1.map Kyo.item ++ gr1 = La at *
  generalize its.flatMap Itm.c = xs1 at *
  generalize its.length = i0 at *
  go_upto_region 4 with fail
  refine wp_region_held_drew (S := (fun W => Hid (w2.grownBy W none))) (by kernel_rfl) (Lib.hid (grown_drewT (grown_reflT _ _))) (fun hHeld => ?_)
  refine wpAnyH_take (i := 0) (v := ?v0z1) rfl (by kernel_rfl) (by kernel_rfl) (by kernel_rfl) (fun _ _ _ h => h) (Or.inl ⟨by rfl, ?y0z1⟩) (by assumption) ?r0z1
  case y0z1 => (intro w hSw; obtain ⟨d0, d1, d2, d3, d4, d5, d6, d7, d8, d9, d10, d11, d12, d13, d14, d15, d16⟩ := HB.out ia i0 ic _ (blkN B2.out hSw.out); clear hSw; go_simp; try with_reducible rfl)
  simp only [Act.put, List.getElem_toArray, List.getElem_cons_zero, List.size_toArray, List.length_cons, List.length_nil, Nat.reduceAdd, Array.replicate, List.replicate, List.setIfInBounds_toArray, List.set_cons_zero, List.set_cons_succ]
  refine wpAnyH_take (i := 2) (v := ?v2z2) rfl (by kernel_rfl) (by kernel_rfl) (by kernel_rfl) (fun _ _ _ h => h) (Or.inl ⟨by rfl, ?y2z2⟩) (by assumption) ?r2z2
  case y2z2 => (intro w hSw; (try dsimp only at hSw); go_simp; try with_reducible rfl)
  simp only [Act.put, List.getElem_toArray, List.getElem_cons_succ, List.getElem_cons_zero, List.setIfInBounds_toArray, List.set_cons_zero, List.set_cons_succ]
  refine wpAnyH_take (i := 3) (v := ?v3z3) rfl (by kernel_rfl) (by kernel_rfl) (by kernel_rfl) (fun _ _ _ h => h) (Or.inl ⟨by rfl, ?y3z3⟩) (by assumption) ?r3z3
  case y3z3 => (intro w hSw; obtain ⟨d0, d1, d2, d3, d4, d5, d6, d7, d8, d9, d10, d11, d12, d13, d14, d15, d16⟩ := HB.out ia i0 ic _ (blkN B2.out hSw.out); clear hSw; go_simp; try with_reducible rfl)
  simp only [Act.put, List.getElem_toArray, List.getElem_cons_succ, List.getElem_cons_zero, List.setIfInBounds_toArray, List.set_cons_zero, List.set_cons_succ]
  refine wpAnyH_take (i := 6) (v := ?v6z4) rfl (by kernel_rfl) (by kernel_rfl) (by kernel_rfl) (fun _ _ _ h => h) (Or.inl ⟨by rfl, ?y6z4⟩) (by assumption) ?r6z4
  case y6z4 => (intro w hSw; (try dsimp only at hSw); go_simp; try with_reducible rfl)
  simp only [Act.put, List.getElem_toArray, List.getElem_cons_succ, List.getElem_cons_zero, List.setIfInBounds_toArray, List.set_cons_zero, List.set_cons_succ]
  refine wpAnyH_ready (rs := [1]) (by kernel_rfl) (by simp) ?_
  refine AllReadyH.cons rfl (fun K' hK => ?_) AllReadyH.nil
  go_simp
  go_at_call 21
  refine (HA2x.out _ (G2.out.trans (grown_drewT (grown_reflT _ _))) (grown_drewT (grown_reflT _ _))).mono ?_
  rintro e w5 ⟨⟨v5, rfl, ho⟩, hg⟩
  obtain ⟨a5, c5, rfl, hw5, hb5⟩ := own_win ho
  have Z5 : Hid (w2.grownBy w5 none) := Lib.hid ((grown_drewT (grown_reflT _ _)).trans hg)
  have W5 := Lib.hid hw5
  have L5 : Hid (∀ k, bk a5 k → w2.heap.size ≤ k) := Lib.hid (fun k hk => (World.ownsRow.lt ho k (hb5 k hk)).1)
  clear hg ho hb5 hw5
  refine hK.out _ _ Z5 (fun hHeld => ?_)
  clear hK K'
  simp only [List.setIfInBounds_toArray, List.set_cons_zero, List.set_cons_succ]
  refine wpAnyH_ready (rs := [4]) (by kernel_rfl) (by simp) ?_
  refine AllReadyH.cons rfl (fun K' hK => ?_) AllReadyH.nil
  refine wp_append_winA (.tmp 12) (.tmp 14) itm_el (by rfl) W5.out (by rfl) ga1 n6 gc1 (by rfl) _ HA2.out HL2.out (by omega) (HN2.out _ (G2.out.trans Z5.out)) H12.out ?_
  intro a6 c6 w6 z6 o6 b6 _
  obtain ⟨N, hN⟩ : ∃ N, N = i0 + n + n6 := ⟨_, rfl⟩
  rw [← hN] at z6 ⊢
  have HNq := Lib.hid hN
  clear hN
  have Z6 : Hid (w2.grownBy w6 none) := Lib.hid (grown_onlyN Z5.out o6 L5.out)
  have W6 := Lib.hid z6
  clear z6 o6 b6
  refine hK.out _ _ Z6 (fun hHeld => ?_)
  clear hK K'
  simp only [Act.put, List.getElem_toArray, List.getElem_cons_succ, List.getElem_cons_zero, List.setIfInBounds_toArray, List.set_cons_zero, List.set_cons_succ]
  refine wpAnyH_take (i := 5) (v := ?v5z5) rfl (by kernel_rfl) (by kernel_rfl) (by kernel_rfl) (fun _ _ _ h => h) (Or.inl ⟨by rfl, ?y5z5⟩) (by assumption) ?r5z5
  case y5z5 => (intro w hSw; (try dsimp only at hSw); go_simp; try with_reducible rfl)
  simp only [Act.put, List.getElem_toArray, List.getElem_cons_succ, List.getElem_cons_zero, List.setIfInBounds_toArray, List.set_cons_zero, List.set_cons_succ]
  refine wpAnyH_done (by kernel_rfl) ?_ _
  rw [HX1.out] at W6
  clear HX1 L5 W5 HA2x HN2 H12 HL2 HA2 hHeld
  rw [← HNq.out] at HX2
  have hN3 : N ≤ 3000 := by have := HNq.out; omega
  have G6 := Lib.hid (G2.out.trans Z6.out)
  have B6 := Lib.hid (blkN B2.out Z6.out)
  have hcp := W6.out.le
  clear HNq Z6 B2
  go_wp2_with fail
  go_loopw [3, 17] (fun s3 s17 wr => ∃ (k c mq : Nat) (a' : Ptr), s3 = .slice a' mq c ∧ s17 = .int .i64 k ∧ k ≤ N ∧ mq ≤ k ∧ Hid (mq = ((La.take k).flatMap Itm.nms).length ∧ Win 1 wr a' c mq (((La.take k).flatMap Itm.nms).map Value.string) ∧ PlA a' ∧ (∀ j, bk a' j → w6.heap.size ≤ j)) ∧ Hid (w6.grownBy wr none)) (fun _ s17 _ => N - (intOf s17).toNat)
  case atStart => exact ⟨0, 0, 0, none, rfl, rfl, by omega, by omega, Lib.hid ⟨rfl, Win.nil 1 _, plA_none, fun j hj => by simp [bk] at hj⟩, Lib.hid (grown_reflT _ _)⟩
  case round =>
    obtain ⟨k, c, mq, a', rfl, rfl, hk, hmk, K, KG⟩ := hrel
    by_cases hlt : k < N
    · obtain ⟨b, off, rfl, _, _, hc⟩ := (win_cells (S := fun _ => True) (W6.out.keepG KG.out) (fun _ _ => trivial)).elem Itm.c_len (by decide) (i := k) (by rw [HX2.out]; exact hlt)
      have hF := flat_takeN Itm.nms La k (by rw [HX2.out]; exact hlt)
      obtain ⟨x, hx⟩ : ∃ x, x = La.getD k default := ⟨_, rfl⟩
      rw [← hx] at hc hF
      clear hx
      obtain ⟨xa, xc, xp⟩ := x
      have e0 := hc 0 _ rfl
      have e1 := hc 1 _ rfl
      have e2 := hc 2 _ rfl
      rw [Nat.add_zero] at e0
      have i1 : (0 : Int) ≤ k := by omega
      have i2 : (k : Int) < N := by omega
      have i3 : (k : Int) < c6 := by omega
      clear hc
      by_cases hx1 : xa = 1
      · subst hx1
        have hF2 : (La.take (k + 1)).flatMap Itm.nms = (La.take k).flatMap Itm.nms := by rw [hF]; simp [Itm.nms]
        have N5 : Hid (mq = ((La.take (k + 1)).flatMap Itm.nms).length ∧ Win 1 (wr.alloc (.cells #[.int .i64 1, .string xc, .int .i64 (xp : Int)] 65)) a' c mq (((La.take (k + 1)).flatMap Itm.nms).map Value.string) ∧ PlA a' ∧ (∀ j, bk a' j → w6.heap.size ≤ j)) := Lib.hid (by
          rw [hF2]
          exact ⟨K.out.1, K.out.2.1.keepG (World.grownBy_alloc _ _ _), K.out.2.2⟩)
        have G5 := Lib.hid (KG.out.trans (World.grownBy_alloc wr (.cells #[.int .i64 1, .string xc, .int .i64 (xp : Int)] 65) none))
        clear hF hF2
        go_wp2_with fail
        go_roundw
        case rel => exact ⟨k + 1, c, mq, a', rfl, by go_num, by omega, by omega, N5, G5⟩
        case measure => simp [intOf]; omega
      · have hb : ((xa : Int) != 1) = true := by
          have : (xa : Int) ≠ 1 := by omega
          simpa using this
        have hF2 : (La.take (k + 1)).flatMap Itm.nms = (La.take k).flatMap Itm.nms ++ [xc] := by rw [hF]; simp [Itm.nms, hx1]
        have HF2 := Lib.hid hF2
        clear hF hF2 hx1
        go_wp2_with (refine wpList_append_win (by rfl) (.tmp 24) (.tmp 27) str_el (by rfl) (K.out.2.1.keepG ((World.grownBy_alloc wr (.cells #[.int .i64 (xa : Int), .string xc, .int .i64 (xp : Int)] 65) none).trans (World.grownBy_alloc _ (.cells #[.string xc] 9) none))) (by omega) (by rfl) ⟨wr.heap.size + 1, 0, none⟩ 1 (by rfl) [.string xc] rfl (by
          have := nm_news (wr.alloc (.cells #[.int .i64 (xa : Int), .string xc, .int .i64 (xp : Int)] 65)) xc
          simpa using this) (by intro u hu; simp only [List.mem_singleton] at hu; subst hu; rfl) ?_)
        intro a3 c3 w4 hw4 ho4 hb4
        have G4 := Lib.hid (grown_onlyN (KG.out.trans ((World.grownBy_alloc wr (.cells #[.int .i64 (xa : Int), .string xc, .int .i64 (xp : Int)] 65) none).trans (World.grownBy_alloc _ (.cells #[.string xc] 9) none))) ho4 K.out.2.2.2)
        have N4 : Hid (mq + 1 = ((La.take (k + 1)).flatMap Itm.nms).length ∧ Win 1 w4 a3 c3 (mq + 1) (((La.take (k + 1)).flatMap Itm.nms).map Value.string) ∧ PlA a3 ∧ (∀ j, bk a3 j → w6.heap.size ≤ j)) := Lib.hid (by
          rw [HF2.out]
          refine ⟨by rw [List.length_append, ← K.out.1]; rfl, by rw [List.map_append]; exact hw4, win_plA hw4 (by have := hw4.le; omega), fun j hj => ?_⟩
          rcases hb4 j hj with e | e
          · exact K.out.2.2.2 j e
          · have := KG.out.size
            first | omega | (simp at e; omega))
        clear hw4 ho4 hb4
        go_wp2_with fail
        go_roundw
        case rel => exact ⟨k + 1, c3, mq + 1, a3, rfl, by go_num, by omega, by omega, N4, G4⟩
        case measure => simp [intOf]; omega
    · obtain rfl : k = N := by omega
      have HL : Hid ((La.take k).flatMap Itm.nms = La.flatMap Itm.nms) := Lib.hid (by rw [List.take_of_length_le (by rw [HX2.out]; exact Nat.le_refl _)])
      rw [HL.out] at K
      have B7 := Lib.hid (blkN B6.out KG.out)
      obtain ⟨d0, d1, d2, d3, d4, d5, d6, d7, d8, d9, d10, d11, d12, d13, d14, d15, d16⟩ := HB.out ia i0 ic _ B7.out
      have G7 := Lib.hid (G6.out.trans KG.out)
      have hwz := G6.out.size
      clear HL B6 HB d0 d1 d2 d13 d14 d15 d16 W6 hcp HX2
      go_wp2_with fail
      refine (HP.out _ G7.out).mono ?_
      rintro e w8 ⟨⟨pb, pc, rfl, hpw, hpb⟩, hg⟩
      have D8 : Hid (∀ i, bk a' i → ¬ bk pb i) := Lib.hid (fun i h1 h2 => by
        have h3 := hpb i h2
        have h4 := K.out.2.1.lt i h1
        omega)
      have W8 := Lib.hid hpw
      have G8 := Lib.hid (G7.out.trans hg)
      have K8 : Hid (mq = (La.flatMap Itm.nms ++ (Al.take 0).flatMap fun x => x.e.nms).length ∧ Win 1 w8 a' c mq ((La.flatMap Itm.nms ++ (Al.take 0).flatMap fun x => x.e.nms).map Value.string) ∧ PlA a' ∧ (∀ j, bk a' j → w.heap.size ≤ j)) := Lib.hid (by
        simp only [List.take_zero, List.flatMap_nil, List.append_nil]
        exact ⟨K.out.1, K.out.2.1.keepG hg, K.out.2.2.1, fun j hj => Nat.le_trans hwz (K.out.2.2.2 j hj)⟩)
      clear hpw hpb hg K B7 G7 KG HP d3 d4 d5 d6 d7 d8 d9 d10 d11 d12 hwz
      obtain ⟨M, hM⟩ : ∃ M, M = Al.length := ⟨_, rfl⟩
      have HM := Lib.hid hM
      rw [← hM] at W8 HPn ⊢
      have hM1 : M ≤ 1000 := by have := HPn.out; omega
      have hcp := W8.out.le
      clear hM HPn
      go_wp2_with fail
      go_loopw [3, 34] (fun s3 s34 wr => ∃ (j c mq : Nat) (a' : Ptr), s3 = .slice a' mq c ∧ s34 = .int .i64 j ∧ j ≤ M ∧ mq ≤ k + 2 * j ∧ Hid (mq = (La.flatMap Itm.nms ++ (Al.take j).flatMap fun x => x.e.nms).length ∧ Win 1 wr a' c mq ((La.flatMap Itm.nms ++ (Al.take j).flatMap fun x => x.e.nms).map Value.string) ∧ PlA a' ∧ (∀ j, bk a' j → w.heap.size ≤ j)) ∧ Hid (Win 10 wr pb pc M (Al.flatMap Pm.c) ∧ w.grownBy wr none ∧ ∀ i, bk a' i → ¬ bk pb i)) (fun _ s34 _ => M - (intOf s34).toNat)
      case atStart => exact ⟨0, c, mq, a', rfl, rfl, by omega, by omega, K8, Lib.hid ⟨W8.out, G8.out, D8.out⟩⟩
      case round =>
        obtain ⟨j, c, mq, a', rfl, rfl, hj, hmj, K, KG⟩ := hrel
        clear K8 W8 G8 D8
        by_cases hlt2 : j < M
        · obtain ⟨b, off, rfl, _, _, hc⟩ := (win_cells (S := fun _ => True) KG.out.1 (fun _ _ => trivial)).elem Pm.c_len (by decide) (i := j) (by rw [← HM.out]; exact hlt2)
          have HF := Lib.hid (flat_takeN (fun x : Pm => x.e.nms) Al j (by rw [← HM.out]; exact hlt2))
          obtain ⟨x, hx⟩ : ∃ x, x = Al.getD j default := ⟨_, rfl⟩
          rw [← hx] at hc HF
          clear hx
          have RX : Hid (wr.rangeAt b (off + j * 10) x.c) := Lib.hid fun i u hi => hc i u hi
          have A1 := Lib.hid (heap_alloc_new wr (.cells z10 33))
          have gA := World.grownBy_alloc wr (.cells z10 33) none
          have gS := grown_setRow (wr.alloc (.cells z10 33)) wr.heap.size x.c.toArray
          have A2 := Lib.hid (setRow_heap (wr.alloc (.cells z10 33)) wr.heap.size z10 x.c.toArray _ _ A1.out)
          have g2 : Hid (wr.grownBy ((wr.alloc (.cells z10 33)).setRow wr.heap.size x.c.toArray) none) := Lib.hid (grown_thenX gA gS (fun j e => by cases e; exact Nat.le_refl _))
          have i1 : (0 : Int) ≤ j := by omega
          have i2 : (j : Int) < M := by omega
          have i3 : (j : Int) < pc := by omega
          have HNM := Lib.hid (fun W => names_any x W)
          have hn2 := nms_two x.e
          clear hc gA gS
          go_upto_region 13 with (first
            | (refine wpList_load_mid rfl 33 (.tmp 36) rfl b (off + j * 10) rfl x.c _ RX.out Tryz.underlying33 rfl (by rw [Pm.c_len]; exact pred_size) ?_)
            | (refine wpList_store_row rfl 33 (.tmp 7) (.tmp 37) rfl wr.heap.size x.c.toArray rfl rfl 33 z10 A1.out (by rw [Pm.c_size]; exact pred_size) (by rw [Pm.c_size]; rfl) (Pm.c_all x) ?_))
          obtain ⟨w9, hw9⟩ : ∃ w9, w9 = (wr.alloc (.cells z10 33)).setRow wr.heap.size x.c.toArray := ⟨_, rfl⟩
          change Code.wp _ _ _ _ ((wr.alloc (.cells z10 33)).setRow wr.heap.size x.c.toArray)
          rw [← hw9] at A2 g2 ⊢
          clear hw9 A1 RX
          go_wp2_with (first
            | (refine wpList_load_row rfl 33 (.tmp 7) rfl wr.heap.size rfl 33 x.c.toArray (0, 0) _ A2.out Tryz.underlying33 rfl (by rw [Pm.c_size]; exact pred_size) ?_)
            | fail)
          refine (HNM.out _).mono ?_
          rintro e w10 ⟨na, nc, rfl, hna, hg⟩
          have Kw := Lib.hid (K.out.2.1.keepG (g2.out.trans hg))
          have hnl := str_len x.e.nms
          have hcells : ∀ ad, na = some ad → ∀ j u, (x.e.nms.map Value.string)[j]? = some u → w10.cell? (ad.add j) = some u := by
            intro ad e i u hi
            rcases hna with h | ⟨g, e', _, hb⟩
            · rw [h] at hi; simp at hi
            · rw [e] at e'; cases e'
              rw [add_atT, Nat.zero_add, cell_of_row _ _ i _ _ _ hb]
              simpa using hi
          have hnone : na = none → x.e.nms.length = 0 := by
            intro e
            rcases hna with h | ⟨g, e', _, _⟩
            · rw [h]; rfl
            · rw [e] at e'; cases e'
          have HCl := Lib.hid hcells
          have HNo := Lib.hid hnone
          have G10 := Lib.hid (g2.out.trans hg)
          have HOn := Lib.hid (one_str x.e.nms)
          have HNl := Lib.hid hnl
          have HF1 : Hid ((La.flatMap Itm.nms ++ (Al.take (j + 1)).flatMap fun x => x.e.nms) = (La.flatMap Itm.nms ++ (Al.take j).flatMap fun x => x.e.nms) ++ x.e.nms) := Lib.hid (by rw [HF.out, List.append_assoc])
          generalize x.e.nms = nx at *
          obtain ⟨nl, hnx⟩ : ∃ nl, nl = nx.length := ⟨_, rfl⟩
          have Hnx := Lib.hid hnx
          rw [← hnx] at HNo HNl hn2 ⊢
          clear hg hna hnl hcells hnone HF hnx A2 g2
          go_wp2_with (first
            | (refine wpList_append_winA (by rfl) (.tmp 38) (.tmp 40) str_el (by rfl) Kw.out (by rfl) na nl nc (by rfl) (nx.map Value.string) HNo.out HNl.out (by omega) HCl.out HOn.out ?_)
            | fail)
          intro a3 c3 w4 hw4 ho4 hb4 hp4
          have G4 : Hid (Win 10 w4 (some ⟨b, off, none⟩) pc M (Al.flatMap Pm.c) ∧ w.grownBy w4 none ∧ ∀ i, bk a3 i → ¬ bk (some ⟨b, off, none⟩) i) := Lib.hid ⟨(KG.out.1.keepG G10.out).keep ho4 (fun i h1 h2 => KG.out.2.2 i h2 h1), grown_onlyN (KG.out.2.1.trans G10.out) ho4 K.out.2.2.2, fun i h1 h2 => by
            rcases hb4 i h1 with e | e
            · exact KG.out.2.2 i e h2
            · have h3 := KG.out.1.lt i h2
              have h4 := G10.out.size
              omega⟩
          have N4 : Hid (mq + nl = (La.flatMap Itm.nms ++ (Al.take (j + 1)).flatMap fun x => x.e.nms).length ∧ Win 1 w4 a3 c3 (mq + nl) ((La.flatMap Itm.nms ++ (Al.take (j + 1)).flatMap fun x => x.e.nms).map Value.string) ∧ PlA a3 ∧ (∀ j, bk a3 j → w.heap.size ≤ j)) := Lib.hid (by
            rw [HF1.out]
            refine ⟨by
              have h1 := K.out.1
              have h2 := Hnx.out
              simp only [List.length_append] at h1 ⊢
              omega, by simpa [List.map_append] using hw4, hp4 K.out.2.2.1, fun i hi => ?_⟩
            rcases hb4 i hi with e | e
            · exact K.out.2.2.2 i e
            · have h1 := G10.out.size
              have h2 := KG.out.2.1.size
              omega)
          clear hw4 ho4 hb4 hp4
          go_wp2_with fail
          go_roundw
          case rel => exact ⟨j + 1, c3, mq + nl, a3, rfl, by go_num, by omega, by omega, N4, G4⟩
          case measure => simp [intOf]; omega
        · obtain rfl : j = M := by omega
          have HE : Hid (La.flatMap Itm.nms ++ (Al.take j).flatMap (fun x => x.e.nms) = r) := Lib.hid (by
            rw [List.take_of_length_le (by rw [← HM.out]; exact Nat.le_refl _)]; exact HR1.out)
          rw [HE.out] at K
          have HS := Lib.hid (sorted_any a' c r w.heap.size wr (by rw [← K.out.1]; exact K.out.2.1) K.out.2.2.1 K.out.2.2.2 (by rw [← K.out.1]; omega))
          rw [← K.out.1] at HS
          have G9 := Lib.hid KG.out.2.1
          clear HE HR1 HM
          go_wp2_with fail
          refine HS.out.mono ?_
          rintro e w11 ⟨rfl, hcc⟩
          have HC := Lib.hid hcc
          clear hcc
          go_wp2_with fail
          refine HC.out.mono ?_
          rintro e w12 ⟨⟨m, rfl, hm, hcm, hml⟩, hgg⟩
          have HE2 := Lib.hid (And.intro hm (And.intro hcm (And.intro hml (hgg w (Nat.le_refl _) G9.out))))
          clear hm hcm hml hgg
          go_wp2_with fail
          go_ret
          exact ⟨⟨a', c, m, rfl, HE2.out.1, HE2.out.2.1, HE2.out.2.2.1⟩, HE2.out.2.2.2⟩
end Go.Proofs.YtjaclmoobfeikaaGreatDoor
namespace Go.Proofs.YtjaclmoobfeikaaGreatDoor
open Go.RowKit

theorem b8_inj : ∀ {m l : List ByteArray}, m.map b8 = l.map b8 → m = l
  | [], [], _ => rfl
  | [], _ :: _, h => by simp at h
  | _ :: _, [], h => by simp at h
  | x :: m, y :: l, h => by
    simp only [List.map_cons, List.cons.injEq] at h
    rw [b8_inj h.2, bytes_ext h.1]
theorem parse_few {T : ByteArray} {q : Qry} (h : parseL T = .ok q) : q.items.length ≤ 8 ∧ q.group.length ≤ 8 ∧ q.order.length ≤ 8 := by
  unfold parseL at h
  cases hl : lexL T with
  | error e => rw [hl] at h; simp at h
  | ok l =>
    rw [hl] at h
    simp only at h
    cases he : (queryL ⟨l, none⟩).1.err with
    | some e => rw [he] at h; simp at h
    | none =>
      rw [he] at h
      simp only [Except.ok.injEq] at h
      rw [← h]
      exact ⟨itemsQ_len _, groupQ_len _, orderQ_len _⟩
theorem qm_rangeN {W : World} {g : Nat} {x : Qm} (h : W.heap[g]? = some (.cells x.c 36 (0, 0))) : W.rangeAt g 0 x.l := fun j u hj => by
  rw [Nat.zero_add, cell_of_row _ _ j _ _ _ h]
  simpa [Qm.c] using hj
theorem qm_infoN (x : Qm) : (Tryz.prog.info? 36).map (·.size) = some x.l.length := by
  have : x.l.length = 17 := by have := x.c_size; simpa [Qm.c] using this
  rw [this]; exact query_size
set_option maxRecDepth 100000 in
set_option maxHeartbeats 6400000 in
theorem checkNames_walk (G G2 : Nat) (n g m l : Addr) (f : Nat → Addr) (s : ByteArray) (w : World) (hE : LxEnv G n g m l w) (hF : CkEnv G2 f w) (hs0 : s.size ≤ maxLen) :
    Calls Tryz.prog 4 #[.string s] w fun e w' => e = .returned (.bool true) ∧ w.grownBy w' none := by
  have HA := Lib.hid (fun W (hW : w.grownBy W none) => awake12_any G G2 n g m l f W (hE.keep hW) (hF.keep hW))
  have HP := Lib.hid (fun W (hW : w.grownBy W none) => parse_any G n g m l s W (hE.keep hW))
  have hsm : (s.size : Int) ≤ 9223372036854775807 := by have : maxLen ≤ 9223372036854775807 := by unfold maxLen; omega
                                                        omega
  clear hE hF
  by_cases hlong : 1500 < s.size
  · have h1 : (1500 : Int) < s.size := by omega
    clear HP hlong
    go_enter Tryz.func4, Tryz.ntmps4
    go_wp2_with fail
    refine (HA.out _ (grown_reflT _ _)).mono ?_
    rintro e w1 ⟨rfl, hg⟩
    have G1 := Lib.hid hg
    clear hg
    go_wp2_with fail
    refine (HA.out _ G1.out).mono ?_
    rintro e w2 ⟨rfl, hg⟩
    have G2' := Lib.hid (G1.out.trans hg)
    clear hg
    go_wp2_with fail
    go_ret
    exact ⟨rfl, G2'.out⟩
  · have h1 : (s.size : Int) ≤ 1500 := by omega
    clear hlong
    go_enter Tryz.func4, Tryz.ntmps4
    go_wp2_with fail
    refine (HA.out _ (grown_reflT _ _)).mono ?_
    rintro e w1 ⟨rfl, hg⟩
    have G1 := Lib.hid hg
    clear hg
    go_wp2_with fail
    refine (HP.out _ G1.out).mono ?_
    rintro e w2 ⟨hg, hr⟩
    have G2' := Lib.hid (G1.out.trans hg)
    have B2 := Lib.hid (heap_alloc_new w2 (.cells (Qm.z 0).c 36))
    have HM : Hid (∀ (x : Qm), w2.grownBy ((w2.alloc (.cells (Qm.z 0).c 36)).setRow w2.heap.size x.c) none ∧ ((w2.alloc (.cells (Qm.z 0).c 36)).setRow w2.heap.size x.c).heap[w2.heap.size]? = some (.cells x.c 36 (0, 0))) := Lib.hid fun x =>
      ⟨grown_thenX (World.grownBy_alloc w2 (.cells (Qm.z 0).c 36) none) (grown_setRow _ w2.heap.size x.c) (fun j e => by cases e; exact Nat.le_refl _), setRow_heap _ _ (Qm.z 0).c x.c _ _ (heap_alloc_new w2 (.cells (Qm.z 0).c 36))⟩
    clear hg
    rcases hr with ⟨p, c, hp, rfl⟩ | ⟨y, hp, rfl, hyS⟩
    · have hc := parse_nzC hp
      have hc' : ((c : Int) != 0) = true := by rw [bne_iff_ne]; omega
      clear hp hc HP
      go_upto_region 4 with (refine wpList_store_row rfl 36 (.tmp 3) (.tmp 20) rfl w2.heap.size (Qm.z 0).c rfl rfl 36 (Qm.z 0).c B2.out (by rw [Qm.c_size]; exact query_size) rfl (Qm.c_all _) ?_)
      change Code.wp _ _ _ _ ((w2.alloc (.cells (Qm.z 0).c 36)).setRow w2.heap.size (Qm.z 0).c)
      have G3 := Lib.hid (G2'.out.trans (HM.out (Qm.z 0)).1)
      generalize (w2.alloc (.cells (Qm.z 0).c 36)).setRow w2.heap.size (Qm.z 0).c = w3 at *
      go_wp2_with fail
      go_ret
      exact ⟨rfl, G3.out⟩
    · have hyS3 := Lib.hid (fun W (hW : w2.grownBy W none) => hyS.keep (.of hW))
      obtain ⟨hn1, _⟩ := parse_bounds hp
      obtain ⟨f1, f2, f3⟩ := parse_few hp
      have hwf := parseL_wf s y.e hp
      have HE := Lib.hid hwf.cols
      have B4 := Lib.hid (HM.out y).2
      have gM := Lib.hid (HM.out y).1
      have G3 := Lib.hid (G2'.out.trans (HM.out y).1)
      clear hp hwf HP
      go_upto_region 4 with (refine wpList_store_row rfl 36 (.tmp 3) (.tmp 20) rfl w2.heap.size y.c rfl rfl 36 (Qm.z 0).c B2.out (by rw [Qm.c_size]; exact query_size) (by rw [Qm.c_size, Qm.c_size]) (Qm.c_all _) ?_)
      change Code.wp _ _ _ _ ((w2.alloc (.cells (Qm.z 0).c 36)).setRow w2.heap.size y.c)
      generalize (w2.alloc (.cells (Qm.z 0).c 36)).setRow w2.heap.size y.c = w4 at *
      have HC1 := Lib.hid (fun W (hW : w4.grownBy W none) => columns_any _ y W (hyS3.out W (gM.out.trans hW)) (by have : y.items.length ≤ 8 := f1; omega) (by have : y.group.length ≤ 8 := f2; omega) (by have : y.order.length ≤ 8 := f3; omega) (by rw [Pm.n_e]; exact hn1))
      have HC2 := Lib.hid (fun W (hW : w4.grownBy W none) => refColumns_any _ y W (hyS3.out W (gM.out.trans hW)) (by have : y.items.length ≤ 8 := f1; omega) (by have : y.group.length ≤ 8 := f2; omega) (by have : y.order.length ≤ 8 := f3; omega) (by rw [Pm.n_e]; exact hn1))
      replace HC1 : Hid (∀ W, w.grownBy W none → w4.grownBy W none → Calls Tryz.prog 11 #[.agg y.l.toArray] W _) := Lib.hid (fun W _ hW => HC1.out W hW)
      replace HC2 : Hid (∀ W, w.grownBy W none → w4.grownBy W none → Calls Tryz.prog 12 #[.agg y.l.toArray] W _) := Lib.hid (fun W _ hW => HC2.out W hW)
      clear hyS3 hn1 f1 f2 f3 HM B2 hyS
      go_upto_region 6 with fail
      refine wp_region_held_drew (S := (fun W => Hid (w4.grownBy W none))) (by kernel_rfl) (Lib.hid (grown_drewT (grown_reflT _ _))) (fun hHeld => ?_)
      refine wpAnyH_take (i := 0) (v := .agg y.l.toArray) rfl (by kernel_rfl) (by kernel_rfl) (by kernel_rfl) (fun _ _ _ h => h) (yieldsIf_load_mid (by rfl) _ _ rfl w2.heap.size 0 rfl y.l _ (fun w hS => qm_rangeN (blkN B4.out hS.out)) Tryz.underlying36 rfl (qm_infoN y)) (by assumption) ?_
      simp only [Act.put, List.getElem_toArray, List.getElem_cons_zero, List.size_toArray, List.length_cons, List.length_nil, Nat.reduceAdd, Array.replicate, List.replicate, List.setIfInBounds_toArray, List.set_cons_zero, List.set_cons_succ]
      refine wpAnyH_take (i := 2) (v := .agg y.l.toArray) rfl (by kernel_rfl) (by kernel_rfl) (by kernel_rfl) (fun _ _ _ h => h) (yieldsIf_load_mid (by rfl) _ _ rfl w2.heap.size 0 rfl y.l _ (fun w hS => qm_rangeN (blkN B4.out hS.out)) Tryz.underlying36 rfl (qm_infoN y)) (by assumption) ?_
      simp only [Act.put, List.getElem_toArray, List.getElem_cons_succ, List.getElem_cons_zero, List.setIfInBounds_toArray, List.set_cons_zero, List.set_cons_succ]
      refine wpAnyH_ready (rs := [1]) (by kernel_rfl) (by simp) ?_
      refine AllReadyH.cons rfl (fun K' hK => ?_) AllReadyH.nil
      go_simp
      go_at_call 11
      refine (HC1.out _ (G3.out.trans (grown_drewT (grown_reflT _ _))) (grown_drewT (grown_reflT _ _))).mono ?_
      rintro e w5 ⟨⟨a5, c5, m5, rfl, e5, h5, l5⟩, hg⟩
      have Z5 : Hid (w4.grownBy w5 none) := Lib.hid ((grown_drewT (grown_reflT _ _)).trans hg)
      have M5 := Lib.hid (And.intro e5 (And.intro h5 l5))
      clear hg e5 h5 l5
      refine hK.out _ _ Z5 (fun hHeld => ?_)
      clear hK K'
      simp only [List.setIfInBounds_toArray, List.set_cons_zero, List.set_cons_succ]
      refine wpAnyH_ready (rs := [3]) (by kernel_rfl) (by simp) ?_
      refine AllReadyH.cons rfl (fun K' hK => ?_) AllReadyH.nil
      go_simp
      go_at_call 12
      refine (HC2.out _ (G3.out.trans Z5.out) Z5.out).mono ?_
      rintro e w6 ⟨⟨a6, c6, m6, rfl, e6, h6, l6, b6⟩, hg⟩
      have Z6 : Hid (w4.grownBy w6 none) := Lib.hid (Z5.out.trans hg)
      have M6 : Hid (m6 = m5 ∧ CellsS (fun _ => True) w6 a5 (m5.map Value.string) ∧ m5.length ≤ c5 ∧ CellsS (fun _ => True) w6 a6 (m6.map Value.string) ∧ m6.length ≤ c6 ∧ m6.length ≤ 5000) := Lib.hid ⟨b8_inj (e6.trans (HE.out.symm.trans M5.out.1.symm)), M5.out.2.1.keep (.of hg), M5.out.2.2, h6, l6, b6⟩
      clear hg e6 h6 l6 b6
      refine hK.out _ _ Z6 (fun hHeld => ?_)
      clear hK K'
      simp only [List.setIfInBounds_toArray, List.set_cons_zero, List.set_cons_succ]
      refine wpAnyH_take (i := 4) (v := ?v4z3) rfl (by kernel_rfl) (by kernel_rfl) (by kernel_rfl) (fun _ _ _ h => h) (Or.inl ⟨by rfl, ?y4z3⟩) (by assumption) ?r4z3
      case y4z3 => (intro w hSw; (try dsimp only at hSw); go_simp; try with_reducible rfl)
      simp only [Act.put, List.getElem_toArray, List.getElem_cons_succ, List.getElem_cons_zero, List.setIfInBounds_toArray, List.set_cons_zero, List.set_cons_succ]
      refine wpAnyH_take (i := 5) (v := ?v5z4) rfl (by kernel_rfl) (by kernel_rfl) (by kernel_rfl) (fun _ _ _ h => h) (Or.inl ⟨by rfl, ?y5z4⟩) (by assumption) ?r5z4
      case y5z4 => (intro w hSw; (try dsimp only at hSw); go_simp; try with_reducible rfl)
      simp only [Act.put, List.getElem_toArray, List.getElem_cons_succ, List.getElem_cons_zero, List.setIfInBounds_toArray, List.set_cons_zero, List.set_cons_succ]
      refine wpAnyH_done (by kernel_rfl) ?_ _

      have M := M6
      obtain ⟨rfl, _⟩ := M6.out
      clear M5 M6 Z5 HC1 HC2 hHeld HE
      obtain ⟨q, hq⟩ : ∃ q, q = m6.length := ⟨_, rfl⟩
      have Hq := Lib.hid hq
      rw [← hq] at M ⊢
      have hc5 := M.out.2.2.1
      have hc6 := M.out.2.2.2.2.1
      have hc7 := M.out.2.2.2.2.2
      have G6 := Lib.hid (G3.out.trans Z6.out)
      clear hq Z6
      go_wp2_with fail
      go_loopw [36] (fun s36 wr => ∃ k : Nat, s36 = .int .i64 k ∧ k ≤ q ∧ Hid (w6.grownBy wr none)) (fun s36 _ => q - (intOf s36).toNat)
      case atStart => exact ⟨0, rfl, by omega, Lib.hid (grown_reflT _ _)⟩
      case round =>
        obtain ⟨k, rfl, hk, KG⟩ := hrel
        by_cases hlt : k < q
        · obtain ⟨b, off, rfl, _, e1⟩ := str_cell (M.out.2.1.keep (.of KG.out)) (i := k) (by rw [← Hq.out]; exact hlt)
          obtain ⟨b', off', rfl, _, e2⟩ := str_cell (M.out.2.2.2.1.keep (.of KG.out)) (i := k) (by rw [← Hq.out]; exact hlt)
          generalize m6.getD k ⟨#[]⟩ = t at *
          have i1 : (0 : Int) ≤ k := by omega
          have i2 : (k : Int) < q := by omega
          have i3 : (k : Int) < c5 := by omega
          have i4 : (k : Int) < c6 := by omega
          have KD := Lib.hid (grown_drewT KG.out)
          go_wp2_with fail
          go_quiet (fail)
          go_wp2_with fail
          go_roundw
          case rel =>
            exact ⟨k + 1, by go_num, by omega, by first | exact KD | exact Lib.hid (grown_drewNT KG.out _)⟩
          case measure => simp [intOf]; omega
        · obtain rfl : k = q := by omega
          have G7 := Lib.hid (G6.out.trans KG.out)
          go_wp2_with fail
          go_ret
          exact ⟨rfl, G7.out⟩
end Go.Proofs.YtjaclmoobfeikaaGreatDoor
namespace Go.Proofs.YtjaclmoobfeikaaGreatDoor
open Go.RowKit
theorem CheckNames_any (s : ByteArray) (W : World) (hs : s.size ≤ maxLen) (hL : laidMetH Tryz.prog laid12x W) : Calls Tryz.prog 4 #[.string s] W fun e W' => e = .returned (.bool true) ∧ Below W.heap.size W W' := by
  obtain ⟨n, g, m, l, hE⟩ := lxEnv12_of hL
  obtain ⟨f, hF⟩ := ckEnv12_of hL
  exact (checkNames_walk _ _ n g m l f s W hE hF hs).mono fun _ _ ⟨he, hg⟩ => ⟨he, below_grownL hg⟩
end Go.Proofs.YtjaclmoobfeikaaGreatDoor
namespace Go.Proofs.YtjaclmoobfeikaaGreatDoor
open Go.ChangeShapes Go.WideShapes Go.ChangeAt Go.RowKit Go.Joins
open Go.ChangeMaps (open_string shut_string)

set_option maxRecDepth 100000 in
theorem checkNames_lifted (os : Os) (started : os.Started) (H : Type) (enc : TypeId × Value → H) :
    ReturnsInHanded {} Tryz.checked os 4 .any (fun w args => (Rows.checkNamesSpec.pre enc Tryz.prog Tryz.f4 [] false w args ∧ laidMetH Tryz.prog laid12x w) ∧ sizedMet enc Tryz.prog Tryz.f4 (OpenSpec.ofChange Rows.checkNamesSpec) false w args)
      (Rows.checkNamesSpec.post enc Tryz.prog Tryz.f4 false true false false) := by
  refine returnsInHanded_of_change_and (C := Tryz.checked) (X := fun w _ => laidMetH Tryz.prog laid12x w) (fun _ _ _ hh h => h.of_heap hh) own started (by kernel_rfl) Tryz.func4
    (ChangeSpec.witness_shaped (enc := enc) (C := Tryz.checked) (os := os) (X := fun w _ => laidMetH Tryz.prog laid12x w) false (World.doorLaid Tryz.prog 400 os) #[.string ⟨#[]⟩] 8 rfl (World.shaped_of_RefB (by kernel_rfl) (by kernel_rfl)) (by kernel_rfl) (by kernel_rfl) (by kernel_rfl) (door_met12x os _)) ?_
  intro W base args ds gs before hval0 hW _ _ hL _
  have hval : ∀ (j : Nat) t v, Tryz.f4.params[j]? = some t → args[j]? = some v → Value.okWide Tryz.prog W .any base t v := hval0
  have hW' := hW
  obtain ⟨p, q, hA0, hV, rfl, hfz, hnd⟩ := hW
  have hA : DataW.TrodAll enc Tryz.prog W 0 (fun _ => true) true Tryz.f4.params.toList args.toList ds p := hA0
  rw [Tryz.params4] at hA hval
  obtain ⟨v0, d0, rfl, rfl, h0⟩ := trodAll_one hA
  obtain ⟨rfl, rfl⟩ := trodVars_none hV
  obtain ⟨s0, rfl, rfl, rfl, hs0⟩ := open_string Tryz.underlying9 (hval 0 9 v0 rfl rfl) h0
  clear hA0 hval0
  simp only [List.append_nil] at hW'
  refine (CheckNames_any s0 W hs0 hL).mono fun e W' ⟨he, hb⟩ => ?_
  subst he
  exact ⟨_, rfl, _, _, _, [], _, [], hW', trodAll_mk1 (shut_bool Tryz.underlying4 _), trodAll_mk1 (shut_string Tryz.underlying9 hs0), rfl, hb.frame _, fun h => by cases h⟩

theorem checkNames_holds : Rows.CheckNamesSaid :=
  OpenClaim.holds_of_wide 4 Tryz.f4 rfl rfl rfl rfl rfl rfl rfl ⟨rfl, rfl, rfl, rfl, rfl⟩ rfl rfl rfl rfl rfl (by kernel_rfl) Tryz.func4 (by kernel_rfl)
    (of_decide_eq_true (by kernel_rfl)) (by unfold Func.isWrapper; first | (rw [if_pos (by decide +kernel)]; kernel_rfl) | (rw [if_neg (by decide +kernel)]; exact ⟨rfl, rfl⟩))
    (fun os started H enc _ => checkNames_lifted os started H enc)

theorem checkNames_card : Rows.CheckNamesCardSaid :=
  Claim7.holds_tied_plain_at .later [] [.data, .data, .data, .handle, .sentinel, .sentinel, .sentinel, .sentinel, .sentinel, .sentinel, .sentinel, .sentinel, .sentinel, .sentinel, .sentinel] true Rows.checkNamesCard.stood.harness true
    checkNames_holds (fun _ h => by cases h) (by kernel_rfl) (fun _ h => by cases h) checkNames_row_tie rfl ⟨rfl, rfl⟩ (by kernel_rfl) rfl
    (fun f fn hf hfn => by
      obtain rfl : f = 4 := Option.some.inj ((show Tryz.prog.funcNamed "stillroom/stillroomlaw12.CheckNames" = some 4 by kernel_rfl).symm.trans hf) |>.symm
      obtain rfl : fn = Tryz.f4 := (Option.some.inj (Tryz.func4.symm.trans hfn)).symm
      exact ⟨by kernel_rfl, fun j t ht => by
        rw [Tryz.params4] at ht
        have hm : t ∈ [9] := by simpa using Array.mem_of_getElem? ht
        have hall : ([9].all fun u => !Tryz.prog.wantsStandIn u) = true := by kernel_rfl
        exact (show Tryz.prog.wantsStandIn t = false by simpa using List.all_eq_true.1 hall t hm)⟩)
    (by kernel_rfl)
#print axioms checkNames_card
end Go.Proofs.YtjaclmoobfeikaaGreatDoor
