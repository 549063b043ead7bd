/- Trees and lists that are kept, one after the other. -/
import Derived.Test.YtlmoefiajioeoaaTkD
import Derived.Test.YtlmoefiajioeoaaTkFit
namespace Go.Proofs.Ytlmoefiajioeoaa
open Go.RowKit

structure St where
  t : Tre
  p : Ptr
  a : Ptr
  cap : Nat
  l : List Pw
instance : Inhabited St := ⟨⟨.nil, none, none, 0, []⟩⟩
def St.pv (s : St) : Value := .pointer s.p
def St.lv (s : St) : Value := .slice s.a s.l.length s.cap
def St.at (S : Nat → Prop) (W : World) (s : St) : Prop := TrAt S W s.t s.p ∧ PsS S W s.a s.l ∧ s.l.length ≤ s.cap ∧ Eq7 s.t s.l 90000
theorem St.at.keep {S : Nat → Prop} {w w' : World} {s : St} (h : s.at S w) (hk : Stays S w w') : s.at S w' := ⟨h.1.keep hk, h.2.1.keep hk, h.2.2⟩
theorem St.at.mono {S S' : Nat → Prop} {w : World} {s : St} (h : s.at S w) (hs : ∀ b, b < w.heap.size → S b → S' b) : s.at S' w := ⟨h.1.mono hs, h.2.1.mono hs, h.2.2⟩
def blk (x : Ptr) : Option Nat := x.map Addr.block
theorem own_blk (x : Ptr) (n c : Nat) : (Value.slice x n c).ownBlock = blk x := by cases x <;> rfl
/-- All blocks but two. -/
def Sx (x y : Ptr) : Nat → Prop := fun b => blk x ≠ some b ∧ blk y ≠ some b
structure Hist (B : Nat) (W : World) (x y : Ptr) (i c d : Nat) (hs : List St) : Prop where
  len : hs.length = i
  own3 : W.ownsRow B 28 1 (.slice x i c) i (hs.map St.pv)
  own4 : W.ownsRow B 29 1 (.slice y i d) i (hs.map St.lv)
  apart : ∀ b, blk x = some b → blk y ≠ some b
  at_ : ∀ s ∈ hs, s.at (Sx x y) W
theorem Hist.nil (B : Nat) (W : World) : Hist B W none none 0 0 0 [] := ⟨rfl, World.ownsRow_nil _ _ _ _, World.ownsRow_nil _ _ _ _, (fun b h => by cases h), by simp⟩
theorem stays_sx {w w' : World} (x y : Ptr) (h : w.grownBy w' none) : Stays (Sx x y) w w' := .of h
theorem Hist.keep {B : Nat} {W W' : World} {x y : Ptr} {i c d : Nat} {hs : List St} (h : Hist B W x y i c d hs) (hg : W.grownBy W' none) : Hist B W' x y i c d hs :=
  ⟨h.len, World.ownsRow.kept h.own3 hg (by cases (Value.slice x i c).ownBlock <;> simp), World.ownsRow.kept h.own4 hg (by cases (Value.slice y i d).ownBlock <;> simp), h.apart, fun s hs' => (h.at_ s hs').keep (.of hg)⟩
theorem Hist.lt {B : Nat} {W : World} {x y : Ptr} {i c d : Nat} {hs : List St} (h : Hist B W x y i c d hs) : (∀ b, blk x = some b → B ≤ b ∧ b < W.heap.size) ∧ (∀ b, blk y = some b → B ≤ b ∧ b < W.heap.size) :=
  ⟨fun b hb => World.ownsRow.lt h.own3 b (by rw [own_blk]; exact hb), fun b hb => World.ownsRow.lt h.own4 b (by rw [own_blk]; exact hb)⟩
theorem Hist.sx {B : Nat} {W : World} {x y : Ptr} {i c d : Nat} {hs : List St} (h : Hist B W x y i c d hs) : ∀ b, W.heap.size ≤ b → Sx x y b :=
  fun b hb => ⟨fun e => by have := (h.lt.1 b e).2; omega, fun e => by have := (h.lt.2 b e).2; omega⟩
theorem Hist.push {B : Nat} {W Wa Wb Wc Wd : World} {x y : Ptr} {i c d g c' g' d' : Nat} {hs : List St} {s : St} (h : Hist B W x y i c d hs) (hs' : s.at (Sx x y) W)
    (ha : W.grownBy Wa none) (hown : Wb.ownsRow B 28 1 (.slice (some ⟨g, 0, none⟩) (i + 1) c') (i + 1) (hs.map St.pv ++ [s.pv])) (hb : Wa.grownBy Wb (blk x)) (hg : blk x = some g ∨ g = Wa.heap.size) (hgl : g < Wb.heap.size)
    (hc : Wb.grownBy Wc none) (hown' : Wd.ownsRow B 29 1 (.slice (some ⟨g', 0, none⟩) (i + 1) d') (i + 1) (hs.map St.lv ++ [s.lv])) (hd : Wc.grownBy Wd (blk y)) (hg' : blk y = some g' ∨ g' = Wc.heap.size) :
    Hist B Wd (some ⟨g, 0, none⟩) (some ⟨g', 0, none⟩) (i + 1) c' d' (hs ++ [s]) ∧ s.at (Sx (some ⟨g, 0, none⟩) (some ⟨g', 0, none⟩)) Wd ∧ (∀ W0 : World, W0.grownBy W none → W0.heap.size ≤ B → W0.grownBy Wd none) := by
  have lx := h.lt.1
  have ly := h.lt.2
  have s1 := ha.size
  have s2 := hb.size
  have s3 := hc.size
  have s4 := hd.size
  have hgy : blk y ≠ some g := fun e => by
    rcases hg with e' | e'
    · exact h.apart g e' e
    · have := (ly g e).2; omega
  have hgg : g ≠ g' := fun e => by
    rcases hg' with e' | e'
    · rw [← e] at e'; exact hgy e'
    · omega
  have hst : ∀ b, b < W.heap.size → Sx x y b → Wd.heap[b]? = W.heap[b]? := fun b hlt hsx => by
    rw [hd.block b (by omega) (fun e => hsx.2 e.symm), hc.block b (by omega) (by simp), hb.block b (by omega) (fun e => hsx.1 e.symm), ha.block b hlt (by simp)]
  have hall : ∀ s : St, s.at (Sx x y) W → s.at (Sx (some ⟨g, 0, none⟩) (some ⟨g', 0, none⟩)) Wd := fun s hs => by
    refine ((hs.mono (S' := fun b => Sx x y b ∧ b < W.heap.size) (fun b hlt h => ⟨h, hlt⟩)).keep (w' := Wd) ⟨by omega, fun b hS hlt => hst b hlt hS.1⟩).mono (fun b _ hS => ⟨fun e => ?_, fun e => ?_⟩)
    · have e : g = b := by simpa [blk] using e
      rcases hg with e' | e'
      · exact hS.1.1 (by rw [e', e])
      · have := hS.2; omega
    · have e : g' = b := by simpa [blk] using e
      rcases hg' with e' | e'
      · exact hS.1.2 (by rw [e', e])
      · have := hS.2; omega
  refine ⟨⟨by rw [List.length_append, h.len]; rfl, ?_, ?_, fun b e e' => ?_, fun t ht => ?_⟩, hall s hs', fun W0 h0 hB => ?_⟩
  · rw [List.map_append]
    exact World.ownsRow.kept (World.ownsRow.kept hown hc (.inr (by simp [Value.ownBlock]))) hd (.inr fun e => hgy (by rw [← e]; rfl))
  · rw [List.map_append]; exact hown'
  · have e1 : g = b := by simpa [blk] using e
    have e2 : g' = b := by simpa [blk] using e'
    omega
  · rw [List.mem_append] at ht
    rcases ht with ht | ht
    · exact hall t (h.at_ t ht)
    · obtain rfl := List.mem_singleton.1 ht
      exact hall _ hs'
  · refine grown_thenT (grown_thenT (h0.trans ha) hb (fun b e => ?_)|>.trans hc) hd (fun b e => ?_)
    · have := (lx b e).1; omega
    · have := (ly b e).1; omega
end Go.Proofs.Ytlmoefiajioeoaa
