/- Slices of slices of bytes: made by a call itself, or that lie in memory; frames one behind the other, as lists. -/
import Derived.Test.YthdaibmminibhaaDoorDecM
import Derived.Test.YthdaibmminibhaaDoorOpenF
namespace Go.Proofs.YthdaibmminibhaaDoor
open Go.RowKit

/-- A piece: its address, its room, its bytes. -/
structure Pc where
  a : Option Addr
  cap : Nat
  l : List UInt8
instance : Inhabited Pc := ⟨⟨none, 0, []⟩⟩
def Pc.v (p : Pc) : Value := .slice p.a p.l.length p.cap
/-- A piece that can be read, not in the block of the list itself. -/
def POk (w : World) (out : Value) (p : Pc) : Prop :=
  p.l.length ≤ 9223372036854775807 ∧ (p.l = [] ∨ ∃ b off, p.a = some ⟨b, off, none⟩ ∧ b < w.heap.size ∧ out.ownBlock ≠ some b ∧ ∀ i, i < p.l.length → w.cell? ⟨b, off + i, none⟩ = some (bV (p.l.getD i 0)))
theorem POk.keep {w w' : World} {out out' : Value} {p : Pc} {row : Option Nat} (h : POk w out p) (hg : w.grownBy w' row) (hr : ∀ k, row = some k → out.ownBlock = some k) (ho : out'.ownBlock = out.ownBlock ∨ ∃ k, out'.ownBlock = some k ∧ w.heap.size ≤ k) : POk w' out' p := by
  obtain ⟨h1, h3⟩ := h
  refine ⟨h1, ?_⟩
  rcases h3 with h3 | ⟨b, off, e, hlt, hne, hc⟩
  · exact .inl h3
  · have hb : some b ≠ row := fun e => hne (hr b e.symm)
    refine .inr ⟨b, off, e, Nat.lt_of_lt_of_le hlt hg.size, ?_, fun i hi => hg.cell (hc i hi) hb⟩
    rcases ho with h | ⟨k, h, hk⟩
    · rw [h]; exact hne
    · rw [h]; intro e; cases e; omega
theorem POk.bat {w : World} {out : Value} {p : Pc} (h : POk w out p) : BAt w.heap.size w p.a p.l :=
  ⟨h.1, h.2.imp id fun ⟨b, off, e, hlt, _, hc⟩ => ⟨b, off, e, hlt, hc⟩⟩
theorem BAt.pok {B : Nat} {w : World} {a : Option Addr} {l : List UInt8} (h : BAt B w a l) {out : Value} (hB : B ≤ w.heap.size) (ho : ∀ k, out.ownBlock = some k → B ≤ k) (cap : Nat) : POk w out ⟨a, cap, l⟩ :=
  ⟨h.1, h.2.imp id fun ⟨b, off, e, hlt, hc⟩ => ⟨b, off, e, by omega, fun e => by have := ho b e; omega, hc⟩⟩
theorem OwnB.pok {B : Nat} {w : World} {v : Value} {l : List UInt8} (h : OwnB B w v l) (hl : l.length ≤ 9223372036854775807) {out : Value} (ho : ∀ k, out.ownBlock = some k → k < B) : ∃ a cap, v = .slice a l.length cap ∧ POk w out ⟨a, cap, l⟩ := by
  obtain ⟨a, cap, rfl, hb, _⟩ := h.read hl
  refine ⟨a, cap, rfl, hb.1, hb.2.imp id fun ⟨b, off, e, hlt, hc⟩ => ⟨b, off, e, hlt, fun e' => ?_, hc⟩⟩
  have h1 := ho b e'
  have h2 := h.range b (by rw [e]; rfl)
  omega
/-- A list of pieces that a call makes itself. -/
def OwnP (B : Nat) (w : World) (v : Value) (ps : List Pc) : Prop := w.ownsRow B 32 1 v ps.length (ps.map Pc.v) ∧ ∀ p ∈ ps, POk w v p
theorem OwnP.nil (B : Nat) (w : World) : OwnP B w (.slice none 0 0) [] := ⟨World.ownsRow_nil w _ _ _, by simp⟩
theorem pc_info : (Tryd.prog.info? 32).map (fun i => (i.zero, i.size, i.bytes)) = some (some (.slice none 0 0), 1, 24) := by kernel_rfl
theorem OwnP.more {B : Nat} {w : World} {v : Value} {l : List Pc} {x : Pc} {news : List Value} (hx : news = [x.v]) (h : w.ownsRow B 32 1 v (l.length + 1) (l.map Pc.v ++ news)) (ho : ∀ r ∈ l, POk w v r) (hxo : POk w v x) : OwnP B w v (l ++ [x]) := by
  refine ⟨?_, ?_⟩
  · rw [List.length_append, List.map_append, List.map_cons, List.map_nil, ← hx]
    exact h
  · intro r hr
    rw [List.mem_append, List.mem_singleton] at hr
    rcases hr with hr | rfl
    · exact ho r hr
    · exact hxo
theorem OwnP.stay {B : Nat} {w w' : World} {v : Value} {l : List Pc} (h : OwnP B w v l) (hb : Below w.heap.size w w') : OwnP B w' v l := by
  have hg := grown_below hb none
  exact ⟨World.ownsRow.kept h.1 hg (by cases hv : v.ownBlock with | none => exact .inl rfl | some k => exact .inr (by simp)), fun p hp => (h.2 p hp).keep hg (by simp) (.inl rfl)⟩
/-- A slice of slices of bytes that lies in memory. -/
def PLow (B : Nat) (w : World) (a : Option Addr) (ps : List Pc) : Prop :=
  ps.length ≤ 9223372036854775807 ∧ (∀ p ∈ ps, BAt B w p.a p.l) ∧ (ps = [] ∨ ∃ b off, a = some ⟨b, off, none⟩ ∧ b < B ∧ ∀ i, i < ps.length → w.cell? ⟨b, off + i, none⟩ = some (ps.getD i default).v)
theorem PLow.keep {B : Nat} {w w' : World} {a : Option Addr} {ps : List Pc} (h : PLow B w a ps) {row : Option Nat} (hg : w.grownBy w' row) (hr : ∀ k, row = some k → B ≤ k) : PLow B w' a ps := by
  obtain ⟨h1, h2, h3⟩ := h
  refine ⟨h1, fun p hp => (h2 p hp).keep hg hr, ?_⟩
  rcases h3 with h3 | ⟨b, off, e, hlt, hc⟩
  · exact .inl h3
  · exact .inr ⟨b, off, e, hlt, fun i hi => hg.cell (hc i hi) (by intro hk; have := hr b hk.symm; omega)⟩
theorem PLow.mono {B B' : Nat} {w : World} {a : Option Addr} {ps : List Pc} (h : PLow B w a ps) (hB : B ≤ B') : PLow B' w a ps :=
  ⟨h.1, fun p hp => (h.2.1 p hp).mono hB, h.2.2.imp id fun ⟨b, off, e, hlt, hc⟩ => ⟨b, off, e, by omega, hc⟩⟩
theorem PLow.at {B : Nat} {w : World} {a : Option Addr} {ps : List Pc} (h : PLow B w a ps) {i : Nat} (hi : i < ps.length) : ∃ b off, a = some ⟨b, off, none⟩ ∧ b < B ∧ w.cell? ⟨b, off + i, none⟩ = some (ps.getD i default).v := by
  rcases h.2.2 with h3 | ⟨b, off, e, hlt, hc⟩
  · rw [h3] at hi; simp at hi
  · exact ⟨b, off, e, hlt, hc i hi⟩
theorem pc_mem {ps : List Pc} {i : Nat} (hi : i < ps.length) : ps.getD i default ∈ ps := by simp [List.getD, hi]
theorem OwnP.low {B : Nat} {w : World} {v : Value} {l : List Pc} (h : OwnP B w v l) (hl : l.length ≤ 9223372036854775807) : ∃ (a : Option Addr) (cap : Nat), v = .slice a l.length cap ∧ PLow w.heap.size w a l ∧ l.length ≤ cap ∧ cap ≤ 9223372036854775807 ∧ (a = none → cap = 0) := by
  have hrows : ∀ r ∈ l, BAt w.heap.size w r.a r.l := fun r hr => (h.2 r hr).bat
  rcases h.1.2 with ⟨hv, h0⟩ | ⟨g, cap, cur, hv, _, _, hc, hm, _⟩
  · have hl0 : l = [] := List.length_eq_zero_iff.1 h0
    subst hl0
    exact ⟨none, 0, hv, ⟨hl, hrows, .inl rfl⟩, by simp, by omega, fun _ => rfl⟩
  · have hlt := World.ownsRow.lt h.1 g (by rw [hv]; rfl)
    refine ⟨_, cap, hv, ⟨hl, hrows, .inr ⟨g, 0, rfl, hlt.2, fun i hi => ?_⟩⟩, hc, by unfold maxLen at hm; omega, fun h => by cases h⟩
    have hc := World.ownsRow.cells h.1 (g := g) (by rw [hv]; rfl) i (l.getD i default).v (by simp [List.getD, hi])
    rw [add_at] at hc
    exact hc

/-! ### Frames one behind the other -/
def splL (l : List UInt8) : Nat × List (List UInt8) :=
  if l = [] then (0, []) else
  match _h : msr l with
  | none => (2, [])
  | some (f, t) => if (l.drop t).take 4 = Crc.le4 (Crc.crc (l.take t)) then (if (splL (l.drop (t + 4))).1 = 0 then (0, (l.take t).drop f :: (splL (l.drop (t + 4))).2) else ((splL (l.drop (t + 4))).1, [])) else (4, [])
termination_by l.length
decreasing_by all_goals (have := msr_some (by assumption); rw [List.length_drop]; omega)
theorem splL_nil : splL [] = (0, []) := by rw [splL, if_pos rfl]
theorem splL_none {l : List UInt8} (hl : l ≠ []) (h : msr l = none) : splL l = (2, []) := by
  rw [splL, if_neg hl]
  split
  · rfl
  · next h2 => rw [h] at h2; cases h2
theorem splL_sum {l : List UInt8} {f t : Nat} (hl : l ≠ []) (h : msr l = some (f, t)) (hs : (l.drop t).take 4 ≠ Crc.le4 (Crc.crc (l.take t))) : splL l = (4, []) := by
  rw [splL, if_neg hl]
  split
  · next h2 => rw [h] at h2; cases h2
  · next h2 => rw [h] at h2; cases h2; rw [if_neg hs]
theorem splL_yes {l : List UInt8} {f t : Nat} (hl : l ≠ []) (h : msr l = some (f, t)) (hs : (l.drop t).take 4 = Crc.le4 (Crc.crc (l.take t))) : splL l = if (splL (l.drop (t + 4))).1 = 0 then (0, (l.take t).drop f :: (splL (l.drop (t + 4))).2) else ((splL (l.drop (t + 4))).1, []) := by
  rw [splL, if_neg hl]
  split
  · next h2 => rw [h] at h2; cases h2
  · next h2 => rw [h] at h2; cases h2; rw [if_pos hs]
/-- What is split, with pieces ahead. -/
def comb (ps : List (List UInt8)) (x : Nat × List (List UInt8)) : Nat × List (List UInt8) := if x.1 = 0 then (0, ps ++ x.2) else (x.1, [])
theorem comb_nil (l : List UInt8) : splL l = comb [] (splL l) := by
  unfold comb
  by_cases hl : l = []
  · subst hl; rw [splL_nil]; rfl
  · cases h : msr l with
    | none => rw [splL_none hl h]; rfl
    | some x =>
      obtain ⟨f, t⟩ := x
      by_cases hs : (l.drop t).take 4 = Crc.le4 (Crc.crc (l.take t))
      · rw [splL_yes hl h hs]
        split
        · simp
        · rfl
      · rw [splL_sum hl h hs]; rfl
theorem comb_step {ps : List (List UInt8)} {r : List UInt8} {f t : Nat} (hl : r ≠ []) (h : msr r = some (f, t)) (hs : (r.drop t).take 4 = Crc.le4 (Crc.crc (r.take t))) : comb ps (splL r) = comb (ps ++ [(r.take t).drop f]) (splL (r.drop (t + 4))) := by
  rw [splL_yes hl h hs]
  unfold comb
  by_cases h0 : (splL (r.drop (t + 4))).1 = 0
  · rw [if_pos h0, if_pos h0]; simp
  · rw [if_neg h0, if_neg h0, if_neg h0]
theorem comb_done (ps : List (List UInt8)) : comb ps (splL []) = (0, ps) := by rw [splL_nil]; unfold comb; simp
theorem comb_none {ps : List (List UInt8)} {r : List UInt8} (hl : r ≠ []) (h : msr r = none) : comb ps (splL r) = (2, []) := by rw [splL_none hl h]; rfl
theorem comb_sum {ps : List (List UInt8)} {r : List UInt8} {f t : Nat} (hl : r ≠ []) (h : msr r = some (f, t)) (hs : (r.drop t).take 4 ≠ Crc.le4 (Crc.crc (r.take t))) : comb ps (splL r) = (4, []) := by rw [splL_sum hl h hs]; rfl
theorem fr_ne (l rest : List UInt8) : frB l ++ rest ≠ [] := by rw [fr_cons]; simp
theorem splL_frs : ∀ (ls : List (List UInt8)), (∀ l ∈ ls, l.length ≤ 200000) → splL (ls.flatMap frB) = (0, ls)
  | [], _ => splL_nil
  | l :: ls, h => by
    have hl := h l (by simp)
    have ih := splL_frs ls (fun x hx => h x (by simp [hx]))
    rw [List.flatMap_cons]
    have ea := aheadB_eq l
    have e1 : (frB l ++ ls.flatMap frB).take (1 + (numB l.length).length + l.length) = aheadB l := by unfold frB; rw [List.append_assoc]; exact take_len ea
    have e2 : ((frB l ++ ls.flatMap frB).drop (1 + (numB l.length).length + l.length)).take 4 = Crc.le4 (Crc.crc (aheadB l)) := by
      have : frB l ++ ls.flatMap frB = aheadB l ++ (Crc.le4 (Crc.crc (aheadB l)) ++ ls.flatMap frB) := by unfold frB; rw [List.append_assoc]
      rw [this, drop_len ea]
      exact take_len rfl
    have e3 : (frB l ++ ls.flatMap frB).drop (1 + (numB l.length).length + l.length + 4) = ls.flatMap frB := drop_len (by rw [frB_len, ea])
    rw [splL_yes (fr_ne _ _) (msr_fr hl _) (by rw [e1, e2]), e3, ih, e1]
    simp only [if_true]
    congr 2
    unfold aheadB
    exact drop_len (by rw [List.length_cons]; omega)
end Go.Proofs.YthdaibmminibhaaDoor
