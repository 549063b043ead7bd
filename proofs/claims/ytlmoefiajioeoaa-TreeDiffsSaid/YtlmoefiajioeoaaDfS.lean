/- What tree's Diff has in hand. -/
import Derived.Test.YtlmoefiajioeoaaDf
namespace Go.Proofs.Ytlmoefiajioeoaa
open Go.RowKit

/-- The blocks of two walks. -/
def MM (k1 p1 d1 : Nat) (v1 : Value) (k2 p2 d2 : Nat) (v2 : Value) (b : Nat) : Prop := (b = k1 ∨ b = p1 ∨ b = d1 ∨ v1.ownBlock = some b) ∨ (b = k2 ∨ b = p2 ∨ b = d2 ∨ v2.ownBlock = some b)
theorem Two.mlt {B k1 p1 d1 k2 p2 d2 : Nat} {w : World} {v1 v2 : Value} {xs1 xs2 : List (Ptr × Tre)} (h : Two B k1 p1 d1 k2 p2 d2 w v1 xs1 v2 xs2) {b : Nat} (hb : MM k1 p1 d1 v1 k2 p2 d2 v2 b) : b < w.heap.size := by
  obtain ⟨l1, l2, l3⟩ := h.w1.lt
  obtain ⟨m1, m2, m3⟩ := h.w2.lt
  rcases hb with (rfl | rfl | rfl | e) | (rfl | rfl | rfl | e)
  · exact l1
  · exact l2
  · exact l3
  · exact (World.ownsRow.lt h.w1.own b e).2
  · exact m1
  · exact m2
  · exact m3
  · exact (World.ownsRow.lt h.w2.own b e).2
/-- What is told so far, apart from what the walks write. -/
structure OutAt (B : Nat) (W : World) (s : Value) (O : List Cw) (M : Nat → Prop) : Prop where
  own : W.ownsRow B 93 3 s O.length (O.flatMap Cw.c)
  rows : ∀ x ∈ O, RwS (fun b => ¬ M b ∧ s.ownBlock ≠ some b) W x.o.a x.o.l ∧ RwS (fun b => ¬ M b ∧ s.ownBlock ≠ some b) W x.n.a x.n.l
  far : ∀ g, s.ownBlock = some g → ¬ M g
theorem OutAt.keep {B : Nat} {W W' : World} {s : Value} {O : List Cw} {M M' : Nat → Prop} (h : OutAt B W s O M) (ho : Only M' W W') (hM : ∀ b, M' b → M b) : OutAt B W' s O M := by
  have hst : Stays (fun b => ¬ M b ∧ s.ownBlock ≠ some b) W W' := ho.stays (fun b hb _ hm => hb.1 (hM b hm))
  refine ⟨⟨h.own.1, ?_⟩, fun x hx => ⟨(h.rows x hx).1.keep hst, (h.rows x hx).2.keep hst⟩, h.far⟩
  rcases h.own.2 with hn | ⟨g, cap, cur, rfl, hb, hgg, rest⟩
  · exact .inl hn
  · exact .inr ⟨g, cap, cur, rfl, hb, (ho.block g (lt_of_block hgg) (fun hm => h.far g rfl (hM g hm))).trans hgg, rest⟩
theorem OutAt.mono {B : Nat} {W : World} {s : Value} {O : List Cw} {M M' : Nat → Prop} (h : OutAt B W s O M) (hM : ∀ b, b < W.heap.size → M' b → M b) : OutAt B W s O M' :=
  ⟨h.own, fun x hx => ⟨(h.rows x hx).1.mono (fun b hb hS => ⟨fun hm => hS.1 (hM b hb hm), hS.2⟩), (h.rows x hx).2.mono (fun b hb hS => ⟨fun hm => hS.1 (hM b hb hm), hS.2⟩)⟩, fun g hg hm => h.far g hg (hM g (World.ownsRow.lt h.own g hg).2 hm)⟩
theorem OutAt.grown {B : Nat} {W W' : World} {s : Value} {O : List Cw} {M : Nat → Prop} (h : OutAt B W s O M) (hg : W.grownBy W' none) : OutAt B W' s O M :=
  h.keep (M' := fun _ => False) ((Only.refl _ _).grown hg (by simp)) (fun _ h => h.elim)
theorem OutAt.push {B : Nat} {Wa Wb : World} {s : Value} {O : List Cw} {M : Nat → Prop} {x : Cw} {g c : Nat} (h : OutAt B Wa s O M) (hMlt : ∀ b, M b → b < Wa.heap.size) (hx : RwS (fun b => ¬ M b ∧ s.ownBlock ≠ some b) Wa x.o.a x.o.l ∧ RwS (fun b => ¬ M b ∧ s.ownBlock ≠ some b) Wa x.n.a x.n.l)
    (hown : Wb.ownsRow B 93 3 (.slice (some ⟨g, 0, none⟩) (O.length + 1) c) (O.length + 1) (O.flatMap Cw.c ++ x.c)) (hb : Wa.grownBy Wb s.ownBlock) (hg : s.ownBlock = some g ∨ g = Wa.heap.size) : OutAt B Wb (.slice (some ⟨g, 0, none⟩) (O.length + 1) c) (O ++ [x]) M := by
  have hfar : ¬ M g := by
    rcases hg with e | e
    · exact h.far g e
    · intro hm; have := hMlt g hm; omega
  have hrow : ∀ {a : Option Addr} {l : List Vl}, RwS (fun b => ¬ M b ∧ s.ownBlock ≠ some b) Wa a l → RwS (fun b => ¬ M b ∧ (Value.slice (some ⟨g, 0, none⟩) (O.length + 1) c).ownBlock ≠ some b) Wb a l := fun {a l} hr => by
    refine ((hr.mono (S' := fun b => (¬ M b ∧ s.ownBlock ≠ some b) ∧ b < Wa.heap.size) (fun b hlt h => ⟨h, hlt⟩)).keep (w' := Wb) ⟨hb.size, fun b hS hlt => hb.block b hlt (fun e => hS.1.2 e.symm)⟩).mono (fun b _ hS => ⟨hS.1.1, fun e => ?_⟩)
    have e' : g = b := by simpa [Value.ownBlock] using e
    rcases hg with q | q
    · exact hS.1.2 (by rw [q, e'])
    · have := hS.2; omega
  refine ⟨?_, fun y hy => ?_, fun b hb' => ?_⟩
  · rw [List.length_append, List.flatMap_append, List.flatMap_cons, List.flatMap_nil, List.append_nil]
    exact hown
  · rw [List.mem_append] at hy
    rcases hy with hy | hy
    · exact ⟨hrow (h.rows y hy).1, hrow (h.rows y hy).2⟩
    · obtain rfl := List.mem_singleton.1 hy
      exact ⟨hrow hx.1, hrow hx.2⟩
  · have e' : g = b := by simpa [Value.ownBlock] using hb'
    rw [← e']; exact hfar
/-- The walks stay where something is told. -/
theorem Two.told {B k1 p1 d1 k2 p2 d2 : Nat} {W W' : World} {v1 v2 : Value} {xs1 xs2 : List (Ptr × Tre)} {s : Value} {O : List Cw} (h : Two B k1 p1 d1 k2 p2 d2 W v1 xs1 v2 xs2) (ho : OutAt B W s O (MM k1 p1 d1 v1 k2 p2 d2 v2)) (hg : W.grownBy W' s.ownBlock) : Two B k1 p1 d1 k2 p2 d2 W' v1 xs1 v2 xs2 := by
  have hO : Only (fun b => s.ownBlock = some b) W W' := (Only.refl _ _).grown hg (fun _ hj => .inl hj)
  have hb : ∀ b, s.ownBlock = some b → B ≤ b := fun b e => (World.ownsRow.lt ho.own b e).1
  refine ⟨h.w1.keep hO (fun b e => ?_), h.w2.keep hO (fun b e => ?_), h.a1, h.a2, h.b1, h.b2, h.vv⟩
  · have hf := ho.far b e
    exact ⟨hb b e, fun q => hf (.inl (.inl q)), fun q => hf (.inl (.inr (.inl q))), fun q => hf (.inl (.inr (.inr (.inl q)))), fun q => hf (.inl (.inr (.inr (.inr q))))⟩
  · have hf := ho.far b e
    exact ⟨hb b e, fun q => hf (.inr (.inl q)), fun q => hf (.inr (.inr (.inl q))), fun q => hf (.inr (.inr (.inr (.inl q)))), fun q => hf (.inr (.inr (.inr (.inr q))))⟩
theorem PairAt.stay {B : Nat} {W W' : World} {p : Ptr} {k r : List Vl} {row : Option Nat} (h : PairAt (fun b => b < B) W p k r) (hg : W.grownBy W' row) (hr : ∀ b, row = some b → B ≤ b) : PairAt (fun b => b < B) W' p k r :=
  h.keep (M := fun b => row = some b) ((Only.refl _ _).grown hg (fun _ hj => .inl hj)) hr
/-- Where a walk stands: at a pair, or at its end. -/
def Cur (B : Nat) (W : World) (px : Ptr) (L : PL) (xs : List (Ptr × Tre)) : Prop :=
  match L with
  | [] => px = none
  | (k, r) :: rest => PairAt (fun b => b < B) W px k r ∧ remS [] xs = rest
theorem Cur.keep {B : Nat} {W W' : World} {px : Ptr} {L : PL} {xs : List (Ptr × Tre)} {M : Nat → Prop} (h : Cur B W px L xs) (ho : Only M W W') (hM : ∀ b, M b → B ≤ b) : Cur B W' px L xs := by
  cases L with
  | nil => exact h
  | cons x L => exact ⟨h.1.keep ho hM, h.2⟩
theorem Cur.stay {B : Nat} {W W' : World} {px : Ptr} {L : PL} {xs : List (Ptr × Tre)} {row : Option Nat} (h : Cur B W px L xs) (hg : W.grownBy W' row) (hr : ∀ b, row = some b → B ≤ b) : Cur B W' px L xs :=
  h.keep (M := fun b => row = some b) ((Only.refl _ _).grown hg (fun _ hj => .inl hj)) hr
/-- The next of the first of two walks, with what it leaves of what is told. -/
theorem next_told {B k1 p1 d1 k2 p2 d2 : Nat} {w : World} {v1 v2 : Value} {xs1 xs2 : List (Ptr × Tre)} {L : PL} {s : Value} {O : List Cw} (h : Two B k1 p1 d1 k2 p2 d2 w v1 xs1 v2 xs2) (ho : OutAt B w s O (MM k1 p1 d1 v1 k2 p2 d2 v2)) (hr : remS [] xs1 = L) (hL : L.length ≤ 100000000) :
    Calls Try.prog 53 #[.pointer (some ⟨p1, 0, none⟩), .pointer (some ⟨d1, 0, none⟩)] w fun e w' => ∃ px v1' xs1', e = .returned (.pointer px) ∧ Two B k1 p1 d1 k2 p2 d2 w' v1' xs1' v2 xs2 ∧ OutAt B w' s O (MM k1 p1 d1 v1' k2 p2 d2 v2) ∧ Cur B w' px L xs1' ∧ Only (Wlk.M p1 v1) w w' := by
  cases L with
  | nil =>
    refine (next_none _ _ _ _ _ _ _ _ _ _ w h.w1 hr).mono ?_
    rintro e w' ⟨rfl, rfl⟩
    exact ⟨none, v1, xs1, rfl, h, ho, rfl, Only.refl _ _⟩
  | cons kr rest =>
    obtain ⟨k, r⟩ := kr
    refine (next_more ro_ord _ _ _ _ _ _ _ _ _ _ w k r rest h.w1 hr (by simp at hL; omega)).mono ?_
    rintro e w' ⟨⟨p, rfl, hp⟩, ⟨v', xs', hw, hg, hr'⟩, hon⟩
    refine ⟨p, v', xs', rfl, h.next hw hg hon, ?_, ⟨hp, hr'⟩, hon⟩
    have hMs : ∀ b, Wlk.M p1 v1 b → MM k1 p1 d1 v1 k2 p2 d2 v2 b := fun b hb => by
      rcases hb with rfl | hb
      · exact .inl (.inr (.inl rfl))
      · exact .inl (.inr (.inr (.inr hb)))
    -- the blocks that the walk has now are those that it had, or new ones
    have hmono : OutAt B w s O (fun b => MM k1 p1 d1 v1 k2 p2 d2 v2 b ∨ w.heap.size ≤ b) := ho.mono (fun b hlt hb => hb.elim id (fun h => by omega))
    refine ((hmono.keep hon (fun b hb => .inl (hMs b hb))).mono (fun b hlt hb => ?_))
    rcases hb with (q | q | q | q) | q
    · exact .inl (.inl (.inl q))
    · exact .inl (.inl (.inr (.inl q)))
    · exact .inl (.inl (.inr (.inr (.inl q))))
    · rcases hg b q with e | e
      · exact .inl (.inl (.inr (.inr (.inr e))))
      · exact .inr e
    · exact .inl (.inr q)
theorem MM.turn {k1 p1 d1 : Nat} {v1 : Value} {k2 p2 d2 : Nat} {v2 : Value} {b : Nat} (h : MM k1 p1 d1 v1 k2 p2 d2 v2 b) : MM k2 p2 d2 v2 k1 p1 d1 v1 b := h.symm
theorem OutAt.turn {B k1 p1 d1 k2 p2 d2 : Nat} {w : World} {v1 v2 : Value} {s : Value} {O : List Cw} (h : OutAt B w s O (MM k1 p1 d1 v1 k2 p2 d2 v2)) : OutAt B w s O (MM k2 p2 d2 v2 k1 p1 d1 v1) := h.mono (fun _ _ hb => hb.turn)
set_option maxHeartbeats 1600000 in
theorem vsameG_any (a a' : Option Addr) (cap cap' : Nat) (l m : List Vl) (w : World) (h : RowAt w a l) (h' : RowAt w a' m) :
    Calls Try.prog 45 #[.slice a l.length cap, .slice a' m.length cap'] w fun e w' => e = .returned (.bool (rowsOrd l m == 0)) ∧ w.grownBy w' none := by
  have HE := Lib.hid ((equal_any a a' cap cap' l m w h h').mono fun e w' h => And.intro h.1 (grown_belowT h.2 none))
  clear h h'
  generalize (rowsOrd l m == 0) = b at *
  generalize l.length = q at *
  generalize m.length = q' at *
  go_enter Try.func45, Try.ntmps45
  go_wp2_with fail
  refine HE.out.mono ?_
  rintro e w2 ⟨rfl, hg⟩
  have G := Lib.hid hg
  clear hg
  go_wp2_with fail
  go_ret
  exact ⟨rfl, G.out⟩
theorem ahead_nil1 (py : Ptr) (w : World) : Calls Try.prog 44 #[.pointer none, .pointer py] w fun e w' => e = .returned (.int .i64 1) ∧ w.grownBy w' none := by
  go_enter Try.func44, Try.ntmps44
  go_wp2_with fail
  go_ret
  exact ⟨rfl, grown_reflT _ _⟩
theorem ahead_nil2 (b : Nat) (w : World) : Calls Try.prog 44 #[.pointer (some ⟨b, 0, none⟩), .pointer none] w fun e w' => e = .returned (.int .i64 (-1)) ∧ w.grownBy w' none := by
  go_enter Try.func44, Try.ntmps44
  go_wp2_with fail
  go_ret
  exact ⟨rfl, grown_reflT _ _⟩
/-- What is ahead, and what follows of it for the difference. -/
theorem aheadG {B : Nat} {W : World} {px py : Ptr} {L1 L2 : PL} {xs1 xs2 : List (Ptr × Tre)} (h1 : Cur B W px L1 xs1) (h2 : Cur B W py L2 xs2) (hne : ¬ (L1 = [] ∧ L2 = [])) :
    ∃ c : Int, (Calls Try.prog 44 #[.pointer px, .pointer py] W fun e w' => e = .returned (.int .i64 c) ∧ W.grownBy w' none) ∧
      ((c < 0 ∧ ∃ k r rest, L1 = (k, r) :: rest ∧ diffL L1 L2 = (r, []) :: diffL rest L2) ∨ (0 < c ∧ ∃ k r rest, L2 = (k, r) :: rest ∧ diffL L1 L2 = ([], r) :: diffL L1 rest) ∨ (c = 0 ∧ ∃ k r rest k' r' rest', L1 = (k, r) :: rest ∧ L2 = (k', r') :: rest' ∧ diffL L1 L2 = if rowsOrd r r' = 0 then diffL rest rest' else (r, r') :: diffL rest rest')) := by
  match L1, L2, h1, h2, hne with
  | [], [], _, _, hne => exact absurd ⟨rfl, rfl⟩ hne
  | (k, r) :: rest, [], h1, h2, _ =>
    obtain ⟨b, _, _, _, _, rfl, _⟩ := h1.1
    obtain rfl : py = none := h2
    exact ⟨-1, ahead_nil2 b W, .inl ⟨by decide, k, r, rest, rfl, by rw [diffL]⟩⟩
  | [], (k, r) :: rest, h1, h2, _ =>
    obtain rfl : px = none := h1
    exact ⟨1, ahead_nil1 py W, .inr (.inl ⟨by decide, k, r, rest, rfl, by rw [diffL]⟩)⟩
  | (k, r) :: rest, (k', r') :: rest', h1, h2, _ =>
    refine ⟨rowsOrd k k', ahead_any B px py k r k' r' W h1.1 h2.1, ?_⟩
    rw [diffL]
    by_cases c1 : rowsOrd k k' < 0
    · exact .inl ⟨c1, k, r, rest, rfl, by rw [if_pos c1]⟩
    · by_cases c2 : 0 < rowsOrd k k'
      · exact .inr (.inl ⟨c2, k', r', rest', rfl, by rw [if_neg c1, if_pos c2]⟩)
      · exact .inr (.inr ⟨by omega, k, r, rest, k', r', rest', rfl, rfl, by rw [if_neg c1, if_neg c2]⟩)
end Go.Proofs.Ytlmoefiajioeoaa
