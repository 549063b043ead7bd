/- The law TreeStays walked. What an operation's key is: schema's first, Key, Of; the store's keyOf. What TreePlays makes of an act: copies of its rows, and what is written into them. -/
import Derived.Test.YtnfpomjcofhppaaGreatDoorZb24
import Derived.Deep.RegionWith
import Derived.Deep.RegionHeld3
namespace Go.Proofs.YtnfpomjcofhppaaGreatDoor
open Go.RowKit

theorem ptr_info7 : (Tryz.prog.info? 79).map (fun i => (i.zero, i.size, i.bytes)) = some (some (.pointer none), 1, 8) := by kernel_rfl
theorem prs_info7 : (Tryz.prog.info? 56).map (fun i => (i.zero, i.size, i.bytes)) = some (some (.slice none 0 0), 1, 24) := by kernel_rfl
/-- An act's rows, in whatever world has grown from the one in which they came. -/
theorem act_rows {w W : World} {S : Nat → Prop} {a : Ptr} {l : List Vl} (h : RowAt w a l) (hl : l.length ≤ 10) (hg : w.grownBy W none) (hS : ∀ b, b < w.heap.size → S b) : RwS S W a l :=
  (((h.rws hl).mono (S' := fun b => b < w.heap.size) (fun _ hlt _ => hlt)).keep (w' := W) (.of hg)).mono (fun _ _ hlt => hS _ hlt)
theorem Hist.cell {B : Nat} {W : World} {x y : Ptr} {i c d : Nat} {hs : List St} (h : Hist B W x y i c d hs) {j : Nat} (hj : j < i) : ∃ (g g' : Nat) (s : St), s ∈ hs ∧ x = some ⟨g, 0, none⟩ ∧ y = some ⟨g', 0, none⟩ ∧ i ≤ c ∧ i ≤ d ∧ W.cell? ⟨g, j, none⟩ = some (.pointer s.p) ∧ W.cell? ⟨g', j, none⟩ = some (.slice s.a s.l.length s.cap) := by
  have hjl : j < hs.length := by rw [h.len]; exact hj
  rcases h.own3.2 with ⟨_, h0⟩ | ⟨g, cc, cur, e, _, _, hc, _⟩
  · omega
  rcases h.own4.2 with ⟨_, h0⟩ | ⟨g', cc', cur', e', _, _, hc', _⟩
  · omega
  cases e
  cases e'
  have c0 := h.own3.cells (g := g) rfl j (hs[j]).pv (by simp [hjl])
  have c1 := h.own4.cells (g := g') rfl j (hs[j]).lv (by simp [hjl])
  rw [add_atT, Nat.zero_add] at c0 c1
  exact ⟨g, g', hs[j], List.getElem_mem hjl, rfl, rfl, hc, hc', c0, c1⟩
end Go.Proofs.YtnfpomjcofhppaaGreatDoor
namespace Go.Proofs.YtnfpomjcofhppaaGreatDoor
open Go.RowKit

set_option maxRecDepth 100000 in
set_option maxHeartbeats 1600000 in
theorem cloneV_any (S : Nat → Prop) (a : Option Addr) (cap : Nat) (l : List Vl) (w : World) (h : RowAt w a l) (hl : l.length ≤ 4294967296) (hS : ∀ b, w.heap.size ≤ b → S b) :
    Calls Tryz.prog 106 #[.slice a l.length cap] w fun e w' => (∃ a' cap', e = .returned (.slice a' l.length cap') ∧ (a' = none → cap' = 0) ∧ RwS S w' a' l) ∧ w.grownBy w' none := by
  cases a with
  | none =>
    obtain rfl : l = [] := by
      rcases h.2.2 with h | ⟨b, off, e, _⟩
      · exact h
      · cases e
    have hE : ∀ w, (binOp .eql 54 (.slice none 0 cap) (.slice none 0 0)).run Tryz.prog w = .ok (.bool true) w := fun w => Lib.run_eql_slice_nil w _ _ _ _ _ _ _ Tryz.underlying54
    clear h hS hl
    go_enter Tryz.func106, Tryz.ntmps106
    go_wp2_with fail
    go_ret
    exact ⟨⟨none, 0, rfl, fun _ => rfl, by simp, by simp, .inl rfl⟩, grown_reflT _ _⟩
  | some ad =>
    have HC : Hid (∀ W, w.grownBy W none → ∀ j u, (l.flatMap vCT)[j]? = some u → W.cell? (ad.add j) = some u) := Lib.hid fun W hW j u hj => by
      rcases h.2.2 with h0 | ⟨b, off, e, hlt, hc⟩
      · rw [h0] at hj; simp at hj
      · cases e
        have := vl_cells (w := W) (b := b) (off := off) (r := l) (fun i hi => ⟨hW.cell (hc i hi).1 (by simp), hW.cell (hc i hi).2.1 (by simp), hW.cell (hc i hi).2.2 (by simp)⟩) l.length 0 (by omega) j u (by simpa using hj)
        simpa using this
    have Hs := Lib.hid h.2.1
    have HL := Lib.hid (vCT_len l)
    obtain ⟨m, hm⟩ : ∃ m, m = l.length := ⟨_, rfl⟩
    have Hm := Lib.hid hm
    rw [← hm] at HL hl ⊢
    clear h hm
    obtain ⟨i0, hi, hz0, hz1, hz2⟩ := info_partsT val_infoT
    have hE : ∀ w, (binOp .eql 54 (.slice (some ad) m cap) (.slice none 0 0)).run Tryz.prog w = .ok (.bool false) w := fun w => Lib.run_eql_slice_nil w _ _ _ _ _ _ _ Tryz.underlying54
    go_enter Tryz.func106, Tryz.ntmps106
    go_wp2_with (at_builtin; refine wpList_append_own _ rfl _ _ 54 rfl w.heap.size 74 i0 (.agg #[.int .i64 0, .int .i64 0, .string ⟨#[]⟩]) 3 32 Tryz.underlying54 hi hz0 hz1 hz2 rfl (by decide) _ 0 [] rfl (own_madeT _ _ w _ _ rfl (Nat.le_refl _)) ad m cap (l.flatMap vCT) rfl HL.out ?c1 ?c2 ?c3 ?c4 ?c5 ?_)
    case c1 => exact HC.out _ (World.grownBy_alloc _ _ _)
    case c2 => exact vCT_one _
    case c3 => unfold maxLen; omega
    case c4 => omega
    case c5 => simp
    intro v' w3 hown' hgrow _
    have K3 := Lib.hid (grown_thenT (World.grownBy_alloc w _ none) hgrow (by intro j hj; simp [Value.ownBlock] at hj; omega))
    have O3 := Lib.hid (show w3.ownsRow w.heap.size 74 3 v' l.length (l.flatMap vCT) by rw [← Hm.out]; simpa using hown')
    clear hown' hgrow
    go_wp2_with fail
    go_ret
    obtain ⟨a', cap', hv, hr⟩ := own_rw O3.out hS (by rw [← Hm.out]; exact hl) Hs.out
    rw [← Hm.out] at hv
    refine ⟨⟨a', cap', congrArg Ending.returned hv, fun ha => ?_, hr⟩, K3.out⟩
    subst ha
    rcases O3.out.2 with ⟨e, _⟩ | ⟨g, cc, cur, e, _⟩
    · rw [e] at hv; cases hv; rfl
    · rw [e] at hv; cases hv

/-- A value of a row, in the words of schema's texts. -/
def vvOf (x : Vl) : Vv := ⟨x.k, x.n, x.s⟩
theorem vv_at {w : World} {a : Option Addr} {l : List Vl} (h : RowAt w a l) : VvAt w.heap.size w a (l.map vvOf) := by
  refine ⟨by rw [List.length_map]; exact h.1, h.2.2.imp (fun h => by rw [h]; rfl) fun ⟨b, off, e, hlt, hc⟩ => ⟨b, off, e, hlt, fun i hi => ?_⟩⟩
  rw [List.length_map] at hi
  have e2 : (l.map vvOf).getD i default = vvOf (l.getD i default) := by simp [List.getD, hi]
  rw [e2]
  exact hc i hi
/-- Is it a row of these columns? -/
def FitsV (l : List Cl) (r : List Vl) : Prop := Fits l (r.map vvOf)
theorem FitsV.len {l : List Cl} {r : List Vl} (h : FitsV l r) : r.length = l.length := by have := h.1; rw [List.length_map] at this; exact this
theorem ClsS.pre {S : Nat → Prop} {w : World} {a : Option Addr} {l : List Cl} (h : ClsS S w a l) {k : Nat} (hk : k ≤ l.length) : ClsS S w a (l.take k) := by
  refine ⟨by rw [List.length_take]; have := h.1; omega, ?_⟩
  rcases h.2 with h0 | ⟨b, off, e, hs, hlt, hc⟩
  · exact .inl (by rw [h0]; simp)
  · refine .inr ⟨b, off, e, hs, hlt, fun i hi => ?_⟩
    rw [List.length_take] at hi
    have e : (l.take k).getD i default = l.getD i default := by simp [List.getD, show i < k by omega]
    rw [e]
    exact hc i (by omega)
theorem RowAt.pre {w : World} {a : Option Addr} {l : List Vl} (h : RowAt w a l) {k : Nat} (hk : k ≤ l.length) : RowAt w a (l.take k) := by
  refine ⟨by rw [List.length_take]; have := h.1; omega, fun x hx => h.2.1 x (List.mem_of_mem_take hx), ?_⟩
  rcases h.2.2 with h0 | ⟨b, off, e, hlt, hc⟩
  · exact .inl (by rw [h0]; simp)
  · refine .inr ⟨b, off, e, hlt, fun i hi => ?_⟩
    rw [List.length_take] at hi
    have e : (l.take k).getD i default = l.getD i default := by simp [List.getD, show i < k by omega]
    rw [e]
    exact hc i (by omega)
theorem firstC_any (ad : Addr) (n c k : Nat) (w : World) (hk : k ≤ n) (hc : n ≤ c) :
    Calls Tryz.prog 105 #[.slice (some ad) n c, .int .i64 k] w fun e w' => e = .returned (.slice (some ad) k c) ∧ w = w' := by
  have i0 : ¬ (k : Int) < 0 := by omega
  have hmn : (min (k : Int) (n : Int)).toNat = k := by omega
  have i3 : (k : Int) ≤ c := by omega
  go_enter Tryz.func105, Tryz.ntmps105
  go_wp2_with fail
  go_ret
  exact ⟨by rw [← hmn]; rfl, rfl⟩
theorem firstV_any (ad : Addr) (n c k : Nat) (w : World) (hk : k ≤ n) (hc : n ≤ c) :
    Calls Tryz.prog 107 #[.slice (some ad) n c, .int .i64 k] w fun e w' => e = .returned (.slice (some ad) k c) ∧ w = w' := by
  have i0 : ¬ (k : Int) < 0 := by omega
  have hmn : (min (k : Int) (n : Int)).toNat = k := by omega
  have i3 : (k : Int) ≤ c := by omega
  go_enter Tryz.func107, Tryz.ntmps107
  go_wp2_with fail
  go_ret
  exact ⟨by rw [← hmn]; rfl, rfl⟩
set_option maxHeartbeats 1600000 in
theorem key_any (S : Nat → Prop) (N : ByteArray) (k : Nat) (ad : Addr) (ra : Option Addr) (cap rcap : Nat) (l : List Cl) (r : List Vl) (w : World) (h : ClsS S w (some ad) l) (hr : RowAt w ra r) (hk : k ≤ l.length) (hc : l.length ≤ cap) :
    Calls Tryz.prog 89 #[.agg #[.string N, .slice (some ad) l.length cap, .int .i64 k], .slice ra r.length rcap] w fun e w' => ((FitsV (l.take k) r → e = .returned (.int .i64 0)) ∧ (¬ FitsV (l.take k) r → e = .returned (.int .i64 20))) ∧ w.grownBy w' none := by
  have hl : (l.take k).length = k := by rw [List.length_take]; omega
  have hrl : (r.map vvOf).length = r.length := List.length_map _
  have HF := Lib.hid (fun W (hW : w.grownBy W none) => fit_any (some ad) ra cap rcap (l.take k) (r.map vvOf) W ((h.pre hk).keep (.of hW)).cols (vv_at (hr.keep (below_grownT hW))))
  rw [hl, hrl] at HF
  have HP := Lib.hid (fun W => firstC_any ad l.length cap k W hk hc)
  generalize l.length = m at *
  generalize r.length = q at *
  clear h hr hk hc hl hrl
  unfold FitsV
  by_cases hf : Fits (l.take k) (r.map vvOf)
  · have HF1 := Lib.hid (fun W hW => (HF.out W hW).mono fun e w' h => And.intro (h.1.1 hf) h.2)
    have HPf := Lib.hid hf
    clear hf HF
    go_enter Tryz.func89, Tryz.ntmps89
    go_wp2_with fail
    refine (HP.out _).mono ?_
    rintro e w1 ⟨rfl, rfl⟩
    go_wp2_with fail
    refine (HF1.out _ (World.grownBy_alloc _ _ _)).mono ?_
    rintro e w2 ⟨rfl, hg⟩
    have K2 := Lib.hid ((World.grownBy_alloc w _ none).trans hg)
    clear hg
    go_wp2_with fail
    go_ret
    exact ⟨⟨fun _ => rfl, fun h => absurd HPf.out h⟩, K2.out⟩
  · have HF1 := Lib.hid (fun W hW => (HF.out W hW).mono fun e w' h => And.intro (h.1.2 hf) h.2)
    have HPf := Lib.hid hf
    clear hf HF
    go_enter Tryz.func89, Tryz.ntmps89
    go_wp2_with fail
    refine (HP.out _).mono ?_
    rintro e w1 ⟨rfl, rfl⟩
    go_wp2_with fail
    refine (HF1.out _ (World.grownBy_alloc _ _ _)).mono ?_
    rintro e w2 ⟨rfl, hg⟩
    have K2 := Lib.hid ((World.grownBy_alloc w _ none).trans hg)
    clear hg
    go_wp2_with fail
    go_ret
    exact ⟨⟨fun h => absurd h HPf.out, fun _ => rfl⟩, K2.out⟩
set_option maxHeartbeats 1600000 in
theorem of_any (N : ByteArray) (k : Nat) (ta : Option Addr) (tn tc : Nat) (ad : Addr) (rcap : Nat) (r : List Vl) (w : World) (hr : RowAt w (some ad) r) (hk : k ≤ r.length) (hc : r.length ≤ rcap) (hl : r.length ≤ 4294967296) :
    Calls Tryz.prog 91 #[.agg #[.string N, .slice ta tn tc, .int .i64 k], .slice (some ad) r.length rcap] w fun e w' => (∃ a' c', e = .returned (.slice a' k c') ∧ RwS (fun b => w.heap.size ≤ b) w' a' (r.take k)) ∧ w.grownBy w' none := by
  have hl2 : (r.take k).length = k := by rw [List.length_take]; omega
  have HC := Lib.hid (fun W (hW : w.grownBy W none) => cloneV_any (fun b => w.heap.size ≤ b) (some ad) rcap (r.take k) W ((hr.pre hk).keep (below_grownT hW)) (by rw [hl2]; omega) (fun b hb => Nat.le_trans hW.size hb))
  rw [hl2] at HC
  have HP := Lib.hid (fun W => firstV_any ad r.length rcap k W hk hc)
  generalize r.length = m at *
  clear hr hk hc hl hl2
  go_enter Tryz.func91, Tryz.ntmps91
  go_wp2_with fail
  refine (HP.out _).mono ?_
  rintro e w1 ⟨rfl, rfl⟩
  go_wp2_with fail
  refine (HC.out _ (World.grownBy_alloc _ _ _)).mono ?_
  rintro e w2 ⟨⟨a', c', rfl, _, hrw⟩, hg⟩
  have K2 := Lib.hid (And.intro hrw ((World.grownBy_alloc w _ none).trans hg))
  clear hg hrw
  go_wp2_with fail
  go_ret
  exact ⟨⟨a', c', rfl, K2.out.1⟩, K2.out.2⟩
end Go.Proofs.YtnfpomjcofhppaaGreatDoor
namespace Go.Proofs.YtnfpomjcofhppaaGreatDoor
open Go.RowKit

abbrev cE : Obj := .cells #[] 74
/-- A row that is appended to an empty one of one's own, nothing appended too. -/
theorem run_append_row {w : World} {B g : Nat} {ka : Ptr} {kc : Nat} {l : List Vl} (hg : w.heap[g]? = some cE) (hB : B ≤ g) (hr : RowAt w ka l) (hl : l.length ≤ 10) (ty : TypeId) :
    ∃ v' w', (Builtin.append_ #[55, 55] ty #[.slice (some ⟨g, 0, none⟩) 0 0, .slice ka l.length kc]).run Tryz.prog w = .ok v' w' ∧ w'.ownsRow B 74 3 v' l.length (l.flatMap vCT) ∧ w.grownBy w' (some g) ∧ (v'.ownBlock = some g ∨ v'.ownBlock = some w.heap.size) ∧ v' ≠ .slice none 0 0 := by
  obtain ⟨i0, hi, hz0, hz1, hz2⟩ := info_partsT val_infoT
  have hgl : g < w.heap.size := (Array.getElem?_eq_some_iff.1 hg).1
  have hown : w.ownsRow B 74 3 (.slice (some ⟨g, 0, none⟩) 0 0) 0 [] := ⟨by simp, .inr ⟨g, 0, #[], rfl, hB, hg, Nat.le_refl _, Nat.zero_le _, by simp, by simp⟩⟩
  cases ka with
  | none =>
    obtain rfl : l = [] := by
      rcases hr.2.2 with h | ⟨b, off, e, _⟩
      · exact h
      · cases e
    have hfc := run_firstCells_none (P := Tryz.prog) w i0.size 0 0 kc
    have hst := run_storeCells_cells (P := Tryz.prog) g 0 [] 0 w (by simp) (by simp) (by simp)
    refine ⟨.slice (some ⟨g, 0, none⟩) 0 0, w, ?_, hown, grown_reflT _ _, .inl rfl, by simp⟩
    simp [Builtin.append_, run_underlying Tryz.underlying55, sizeOf, typeInfo, hi, Builtin.lenOf, hfc, Addr.add_lit, hst]
    rfl
  | some ad =>
    have hc : ∀ j u, (l.flatMap vCT)[j]? = some u → w.cell? (ad.add j) = some u := fun j u hj => by
      rcases hr.2.2 with h0 | ⟨b, off, e, hlt, hc⟩
      · rw [h0] at hj; simp at hj
      · cases e
        have := vl_cells (w := w) (b := b) (off := off) (r := l) hc l.length 0 (by omega) j u (by simpa using hj)
        simpa using this
    obtain ⟨v', w', hrun, r1, r2, r3, r4⟩ := run_append_own_at (P := Tryz.prog) w B 55 ty 74 i0 (.agg #[.int .i64 0, .int .i64 0, .string ⟨#[]⟩]) 3 32 Tryz.underlying55 hi hz0 hz1 hz2 rfl (by decide) (.slice (some ⟨g, 0, none⟩) 0 0) 0 [] hown ad l.length kc (l.flatMap vCT) (vCT_len l) hc (vCT_one l) (by unfold maxLen; omega) (by omega) (by omega)
    refine ⟨v', w', hrun, by simpa using r1, r2, ?_, fun e => by simpa using r3.1 e⟩
    rcases r4 with e | e
    · exact .inl (by rw [e]; rfl)
    · exact .inr e
theorem step_append_row {ops : Array Oper} {o : Oper} {a : Act} {K : Act → World → Prop} {Q : Exit → Act → World → Prop} {E : Prop} (w : World) (hw : Region.wanted o (yielded ops a.tmps) = true) (s x : Operand)
    (ho : o.op = .call { callee := .builtin .append, args := #[s, x], argTypes := #[55, 55] })
    {B g : Nat} {ka : Ptr} {m kc : Nat} {l : List Vl} (hg : w.heap[g]? = some cE) (hB : B ≤ g) (hr : RowAt w ka l) (hl : l.length ≤ 10) (hm : m = l.length)
    (hs : a.eval s = .slice (some ⟨g, 0, none⟩) 0 0) (hx : a.eval x = .slice ka m kc)
    (hk : ∀ v' w', w'.ownsRow B 74 3 v' l.length (l.flatMap vCT) → w.grownBy w' (some g) → (v'.ownBlock = some g ∨ v'.ownBlock = some w.heap.size) → K (a.put o.dst v') w') :
    if Region.wanted o (yielded ops a.tmps) = true then Oper.wp Tryz.prog o a w K Q else E := by
  subst hm
  rw [if_pos hw]
  obtain ⟨v', w', hr', h1, h2, h3, _⟩ := run_append_row (kc := kc) hg hB hr hl o.type
  unfold Oper.wp execOp
  simp only [ho, resolve, invoke, builtin, Sem.run_bind, Sem.run_pure, Result.andThen_ok, List.map_toArray, List.map_cons, List.map_nil, hs, hx, hr']
  exact hk v' w' h1 h2 h3
theorem two_e (w : World) (o o' : Obj) : ((w.alloc o).alloc o').heap[w.heap.size]? = some o ∧ ((w.alloc o).alloc o').heap[w.heap.size + 1]? = some o' := by
  constructor
  · rw [Below.heap_alloc _ _ _ (by simp)]; exact heap_alloc_new w o
  · have := heap_alloc_new (w.alloc o) o'
    rw [show (w.alloc o).heap.size = w.heap.size + 1 by simp] at this
    exact this
theorem copies_end {W P w3 P' w4 : World} {g1 g2 ky rz : Nat} {v1 v2 : Value} {xs1 xs2 : List Value} (hWP : W.grownBy P none) (hg1 : W.heap.size ≤ g1) (_hg1' : g1 < P.heap.size)
    (o1 : w3.ownsRow W.heap.size 74 3 v1 ky xs1) (gr1 : P.grownBy w3 (some g1)) (at1 : v1.ownBlock = some g1 ∨ v1.ownBlock = some P.heap.size)
    (hP' : w3.grownBy P' none) (hg2 : W.heap.size ≤ g2) (h12 : g2 ≠ g1) (hg2' : g2 < P.heap.size ∨ w3.heap.size ≤ g2)
    (o2 : w4.ownsRow W.heap.size 74 3 v2 rz xs2) (gr2 : P'.grownBy w4 (some g2)) (at2 : v2.ownBlock = some g2 ∨ v2.ownBlock = some P'.heap.size) :
    w4.ownsRow W.heap.size 74 3 v1 ky xs1 ∧ w4.ownsRow W.heap.size 74 3 v2 rz xs2 ∧ (∀ g, v1.ownBlock = some g → v2.ownBlock ≠ some g) ∧ W.grownBy w4 none := by
  have hv1 : v1.ownBlock ≠ some g2 := fun e => by
    have hl := (World.ownsRow.lt o1 g2 e).2
    rcases at1 with q | q
    · rw [e] at q; exact h12 (Option.some.inj q)
    · rw [e] at q
      have := Option.some.inj q
      have := gr1.size
      omega
  refine ⟨World.ownsRow.kept (World.ownsRow.kept o1 hP' (by cases v1.ownBlock <;> simp)) gr2 (.inr hv1), o2, fun g e1 e2 => ?_, ?_⟩
  · have hl := (World.ownsRow.lt o1 g e1).2
    rcases at2 with q | q
    · rw [e2] at q; exact hv1 (by rw [e1, q])
    · rw [e2] at q
      have := Option.some.inj q
      have := hP'.size
      omega
  · exact grown_thenT ((grown_thenT hWP gr1 (fun j e => by cases e; exact hg1)).trans hP') gr2 (fun j e => by cases e; exact hg2)
theorem heap_e {w w' : World} {g g' : Nat} (h : w.heap[g]? = some cE) (hg : w.grownBy w' (some g')) (hne : g ≠ g') : w'.heap[g]? = some cE :=
  (hg.block g (Array.getElem?_eq_some_iff.1 h).1 (fun e => hne (Option.some.inj e))).trans h
end Go.Proofs.YtnfpomjcofhppaaGreatDoor
