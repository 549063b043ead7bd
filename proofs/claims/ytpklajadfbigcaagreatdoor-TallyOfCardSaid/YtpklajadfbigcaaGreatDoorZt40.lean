import Derived.Test.YtpklajadfbigcaaGreatDoorZt39
import Derived.Test.YtpklajadfbigcaaGreatDoorZt37
import Derived.Test.YtpklajadfbigcaaGreatDoorZt19
import Derived.Test.YtpklajadfbigcaaGreatDoorZt07
import Derived.Test.YtpklajadfbigcaaGreatDoorZt35
import Derived.Test.YtpklajadfbigcaaGreatDoorZt16
set_option linter.unusedSimpArgs false
set_option linter.unusedVariables false
namespace Go.Proofs.YtpklajadfbigcaaGreatDoor
open Go.RowKit
set_option linter.unusedVariables false
set_option linter.unusedSimpArgs false
theorem rows_infoT : (Tryz.prog.info? 54).map (fun i => (i.zero, i.size, i.bytes)) = some (some (.slice none 0 0), 1, 24) := by kernel_rfl
theorem rows_el : ElT 28 54 (.slice none 0 0) 1 24 := ⟨Tryz.underlying28, info_partsT rows_infoT, by decide, by decide, by decide⟩
abbrev rowCs (i n : Int) : Array Value := #[.int .i64 2, .int .i64 i, .string ⟨#[]⟩, .int .i64 3, .int .i64 0, .string ⟨#[]⟩, .int .i64 0, .int .i64 0, .string ⟨#[]⟩, .int .i64 2, .int .i64 n, .string ⟨#[]⟩]
theorem rowCs_at {W : World} {g : Nat} {i n : Int} {T : TypeId} (h : W.heap[g]? = some (.cells (rowCs i n) T (0, 0))) : VvAt W.heap.size W (some ⟨g, 0, none⟩) (rowV i ⟨2, n, ⟨#[]⟩⟩) := by
  refine ⟨by show 4 ≤ 9223372036854775807; decide, .inr ⟨g, 0, rfl, (Array.getElem?_eq_some_iff.1 h).1, fun j hj => ?_⟩⟩
  have hj4 : j < 4 := hj
  obtain rfl | rfl | rfl | rfl : j = 0 ∨ j = 1 ∨ j = 2 ∨ j = 3 := by omega
  all_goals exact ⟨cell_of_row _ _ _ _ _ _ h, cell_of_row _ _ _ _ _ _ h, cell_of_row _ _ _ _ _ _ h⟩
abbrev slR (g : Nat) : Value := .slice (some ⟨g, 0, none⟩) 4 4
def intsR (l : List Int) : List Rwm → Prop := fun ls => ls.length = l.length ∧ ∀ i, i < l.length → (ls.getD i default).l = rowV (i : Nat) ⟨2, l.getD i 0, ⟨#[]⟩⟩
theorem news1 (W : World) (v : Value) (T : TypeId) : ∀ ad, (some ⟨W.heap.size, 0, none⟩ : Option Addr) = some ad → ∀ j u, ([v] : List Value)[j]? = some u → (W.alloc (.cells #[v] T)).cell? (Addr.add ad j) = some u := by
  intro ad e
  cases e
  have := World.news_of_block (heap_alloc_new W (.cells #[v] T))
  simpa using this
set_option maxRecDepth 100000 in
set_option maxHeartbeats 6400000 in
theorem lints_any (b : Nat) (l : List Int) (T : TypeId) (w : World) (hb : w.heap[b]? = some (.cells (l.map (Value.int .i64)).toArray T (0, 0))) (hl : l.length ≤ 10) :
    Calls Tryz.prog 18 #[.slice (some ⟨b, 0, none⟩) l.length l.length] w fun e w' => (∃ a c ls, e = .returned (.slice a l.length c) ∧ intsR l ls ∧ RwsAt w'.heap.size w' a ls ∧ l.length ≤ c) ∧ w.grownBy w' none := by
  have HC : Hid (∀ W, w.grownBy W none → ∀ k, k < l.length → W.cell? ⟨b, k, none⟩ = some (.int .i64 (l.getD k 0))) := Lib.hid (fun W hW k hk => by
    rw [cell_of_row _ _ _ _ _ _ (blkD hW hb)]
    simp [List.getD_eq_getElem?_getD, hk])
  have HL : Hid (∀ (gs : List Nat) (a : Option Addr) (c : Nat) (W : World), gs.length = l.length → Win 1 W a c l.length (gs.map slR) → (∀ i, i < l.length → W.heap[gs.getD i 0]? = some (.cells (rowCs (i : Nat) (l.getD i 0)) 37 (0, 0))) → ∃ ls, intsR l ls ∧ RwsAt W.heap.size W a ls ∧ l.length ≤ c) := Lib.hid (fun gs a c W hg hw hr => by
    have hgd : ∀ i, i < l.length → (((List.range l.length).map fun i => (⟨some ⟨gs.getD i 0, 0, none⟩, 4, rowV (i : Nat) ⟨2, l.getD i 0, ⟨#[]⟩⟩⟩ : Rwm)).getD i default) = ⟨some ⟨gs.getD i 0, 0, none⟩, 4, rowV (i : Nat) ⟨2, l.getD i 0, ⟨#[]⟩⟩⟩ := fun i hi => by
      rw [List.getD_eq_getElem?_getD, List.getElem?_map, List.getElem?_range hi]; rfl
    refine ⟨(List.range l.length).map fun i => ⟨some ⟨gs.getD i 0, 0, none⟩, 4, rowV (i : Nat) ⟨2, l.getD i 0, ⟨#[]⟩⟩⟩, ⟨by simp, fun i hi => by rw [hgd i hi]⟩, ⟨by simp; omega, fun x hx => ?_, ?_⟩, hw.le⟩
    · obtain ⟨i, hi, rfl⟩ := List.mem_map.1 hx
      exact ⟨rowCs_at (hr i (List.mem_range.1 hi)), Nat.le_refl _⟩
    · rcases hw.mem with h0 | ⟨g, off, rfl, hc, _, _⟩
      · left
        have := hw.le
        rw [show l.length = 0 by omega]; rfl
      · right
        refine ⟨g, off, rfl, hw.lt g (by rw [bk_some]), fun i hi => ?_⟩
        rw [List.length_map, List.length_range] at hi
        rw [hgd i hi]
        refine hc i _ ?_
        rw [List.getElem?_map, List.getD_eq_getElem?_getD, List.getElem?_eq_getElem (by omega)]
        rfl)
  generalize hm : l.length = m at *
  clear hb
  go_enter Tryz.func18, Tryz.ntmps18
  go_wp2_with fail
  go_loopw [3, 8] (fun s3 s8 wr => ∃ (k c : Nat) (a' : Option Addr), s3 = .slice a' k c ∧ s8 = .int .i64 k ∧ k ≤ m ∧ Hid (∃ gs : List Nat, gs.length = k ∧ Win 1 wr a' c k (gs.map slR) ∧ ∀ i, i < k → ¬ bk a' (gs.getD i 0) ∧ wr.heap[gs.getD i 0]? = some (.cells (rowCs (i : Nat) (l.getD i 0)) 37 (0, 0))) ∧ Hid (∀ j, bk a' j → w.heap.size ≤ j) ∧ Hid (w.grownBy wr none)) (fun _ s8 _ => m - (intOf s8).toNat)
  case atStart => exact ⟨0, 0, none, rfl, rfl, Nat.zero_le _, Lib.hid ⟨[], rfl, Win.nil 1 _, fun i hi => by omega⟩, Lib.hid (fun j hj => by simp [bk] at hj), Lib.hid (grown_reflT _ _)⟩
  case round =>
    obtain ⟨k, c, a', rfl, rfl, hk, KW, KB, KG⟩ := hrel
    by_cases hlt : k < m
    · have c0 := HC.out wr KG.out k hlt
      obtain ⟨n, hnn⟩ : ∃ n, n = l.getD k 0 := ⟨_, rfl⟩
      have HN := Lib.hid hnn
      rw [← hnn] at c0
      clear hnn
      have i0 : (0 : Int) ≤ k := by omega
      have i1 : (k : Int) < m := by omega
      go_upto_region 5 with fail
      obtain ⟨gs, h1, h2, h3⟩ := KW.out
      have g4 : wr.grownBy (((wr.alloc (.cells #[.int .i64 2, .int .i64 k, .string ⟨#[]⟩] 37)).alloc (.cells #[.int .i64 2, .int .i64 n, .string ⟨#[]⟩] 37)).alloc (.cells (rowCs k n) 37)) none := ((World.grownBy_alloc wr (.cells #[.int .i64 2, .int .i64 k, .string ⟨#[]⟩] 37) none).trans (World.grownBy_alloc _ (.cells #[.int .i64 2, .int .i64 n, .string ⟨#[]⟩] 37) none)).trans (World.grownBy_alloc _ (.cells (rowCs k n) 37) none)
      have s3 : ((wr.alloc (.cells #[.int .i64 2, .int .i64 k, .string ⟨#[]⟩] 37)).alloc (.cells #[.int .i64 2, .int .i64 n, .string ⟨#[]⟩] 37)).heap.size = wr.heap.size + 1 + 1 := by rw [World.size_alloc, World.size_alloc]
      have k4 : (((wr.alloc (.cells #[.int .i64 2, .int .i64 k, .string ⟨#[]⟩] 37)).alloc (.cells #[.int .i64 2, .int .i64 n, .string ⟨#[]⟩] 37)).alloc (.cells (rowCs k n) 37)).heap[wr.heap.size + 1 + 1]? = some (.cells (rowCs k n) 37 (0, 0)) := by have := heap_alloc_new ((wr.alloc (.cells #[.int .i64 2, .int .i64 k, .string ⟨#[]⟩] 37)).alloc (.cells #[.int .i64 2, .int .i64 n, .string ⟨#[]⟩] 37)) (.cells (rowCs k n) 37); rw [s3] at this; exact this
      have s4 : (((wr.alloc (.cells #[.int .i64 2, .int .i64 k, .string ⟨#[]⟩] 37)).alloc (.cells #[.int .i64 2, .int .i64 n, .string ⟨#[]⟩] 37)).alloc (.cells (rowCs k n) 37)).heap.size = wr.heap.size + 1 + 1 + 1 := by rw [World.size_alloc, s3]
      have g5 : (((wr.alloc (.cells #[.int .i64 2, .int .i64 k, .string ⟨#[]⟩] 37)).alloc (.cells #[.int .i64 2, .int .i64 n, .string ⟨#[]⟩] 37)).alloc (.cells (rowCs k n) 37)).grownBy ((((wr.alloc (.cells #[.int .i64 2, .int .i64 k, .string ⟨#[]⟩] 37)).alloc (.cells #[.int .i64 2, .int .i64 n, .string ⟨#[]⟩] 37)).alloc (.cells (rowCs k n) 37)).alloc (.cells #[slR (wr.heap.size + 1 + 1)] 54)) none := World.grownBy_alloc _ (.cells #[slR (wr.heap.size + 1 + 1)] 54) none
      have W5f := Lib.hid (h2.keepG (g4.trans g5))
      have N5 : Hid (∀ ad, (some ⟨wr.heap.size + 1 + 1 + 1, 0, none⟩ : Option Addr) = some ad → ∀ j u, ([slR (wr.heap.size + 1 + 1)] : List Value)[j]? = some u → ((((wr.alloc (.cells #[.int .i64 2, .int .i64 k, .string ⟨#[]⟩] 37)).alloc (.cells #[.int .i64 2, .int .i64 n, .string ⟨#[]⟩] 37)).alloc (.cells (rowCs k n) 37)).alloc (.cells #[slR (wr.heap.size + 1 + 1)] 54)).cell? (Addr.add ad j) = some u) := Lib.hid (by have := news1 (((wr.alloc (.cells #[.int .i64 2, .int .i64 k, .string ⟨#[]⟩] 37)).alloc (.cells #[.int .i64 2, .int .i64 n, .string ⟨#[]⟩] 37)).alloc (.cells (rowCs k n) 37)) (slR (wr.heap.size + 1 + 1)) 54; rw [s4] at this; exact this)
      have G5 := Lib.hid (KG.out.trans (g4.trans g5))
      have K5 : Hid (∀ i, i < k + 1 → ¬ bk a' ((gs ++ [wr.heap.size + 1 + 1]).getD i 0) ∧ (gs ++ [wr.heap.size + 1 + 1]).getD i 0 < wr.heap.size + 1 + 1 + 1 ∧ ((((wr.alloc (.cells #[.int .i64 2, .int .i64 k, .string ⟨#[]⟩] 37)).alloc (.cells #[.int .i64 2, .int .i64 n, .string ⟨#[]⟩] 37)).alloc (.cells (rowCs k n) 37)).alloc (.cells #[slR (wr.heap.size + 1 + 1)] 54)).heap[(gs ++ [wr.heap.size + 1 + 1]).getD i 0]? = some (.cells (rowCs (i : Nat) (l.getD i 0)) 37 (0, 0))) := Lib.hid (fun i hi => by
        by_cases hik : i < k
        · have e : (gs ++ [wr.heap.size + 1 + 1]).getD i 0 = gs.getD i 0 := by rw [List.getD_eq_getElem?_getD, List.getD_eq_getElem?_getD, List.getElem?_append_left (by omega)]
          rw [e]
          have := h3 i hik
          exact ⟨this.1, by have := (Array.getElem?_eq_some_iff.1 this.2).1; omega, blkD (g4.trans g5) this.2⟩
        · have e : (gs ++ [wr.heap.size + 1 + 1]).getD i 0 = wr.heap.size + 1 + 1 := by rw [List.getD_eq_getElem?_getD, List.getElem?_append_right (by omega), show i - gs.length = 0 by omega]; rfl
          rw [e]
          obtain rfl : i = k := by omega
          refine ⟨fun hb => by have := h2.lt _ hb; omega, by omega, ?_⟩
          rw [← HN.out]
          exact blkD g5 k4)
      have B5 : Hid (((((wr.alloc (.cells #[.int .i64 2, .int .i64 k, .string ⟨#[]⟩] 37)).alloc (.cells #[.int .i64 2, .int .i64 n, .string ⟨#[]⟩] 37)).alloc (.cells (rowCs k n) 37)).alloc (.cells #[slR (wr.heap.size + 1 + 1)] 54)).heap.size = wr.heap.size + 1 + 1 + 1 + 1) := Lib.hid (by rw [World.size_alloc, s4])
      have HM : Hid (gs.map slR ++ [slR (wr.heap.size + 1 + 1)] = (gs ++ [wr.heap.size + 1 + 1]).map slR ∧ (gs ++ [wr.heap.size + 1 + 1]).length = k + 1) := Lib.hid ⟨by simp, by simp; omega⟩
      have HO1 : Hid (∀ u ∈ ([slR (wr.heap.size + 1 + 1)] : List Value), u.oneCell' = true) := Lib.hid (by intro u hu; rw [List.mem_singleton.1 hu]; rfl)
      clear h1 h2 h3 g4 s3 k4 s4 g5 KW HC HL
      go_wp2_with (first
        | (refine (refInt_any _ _).mono ?_; rintro e w2 ⟨rfl, rfl⟩)
        | (refine wpList_append_winA (by rfl) _ _ rows_el rfl W5f.out (by rfl) _ 1 1 (by rfl) _ (fun e => by cases e) (by rfl) (by omega) N5.out HO1.out ?_; intro a6 c6 w6 hW6 hO6 hB6 _)
        | fail)
      have G6 := Lib.hid (grown_onlyN G5.out hO6 KB.out)
      refine ⟨⟨k + 1, c6, a6, rfl, rfl, by omega, Lib.hid ⟨gs ++ [wr.heap.size + 1 + 1], HM.out.2, by rw [← HM.out.1]; exact hW6, fun i hi => ?_⟩, Lib.hid (fun j hj => (hB6 j hj).elim (KB.out j) (fun h => Nat.le_trans G5.out.size h)), G6⟩, by simp [intOf]; omega⟩
      obtain ⟨q1, q2, q3⟩ := K5.out i hi
      refine ⟨fun hb => (hB6 _ hb).elim q1 (fun h => absurd h (Nat.not_le.2 (Array.getElem?_eq_some_iff.1 q3).1)), ?_⟩
      exact (hO6.block _ (Array.getElem?_eq_some_iff.1 q3).1 q1).trans q3
    · obtain rfl : k = m := by omega
      go_wp2_with fail
      go_ret
      obtain ⟨gs, h1, h2, h3⟩ := KW.out
      obtain ⟨ls, q1, q2, q3⟩ := HL.out gs a' c _ h1 h2 (fun i hi => (h3 i hi).2)
      exact ⟨⟨a', c, ls, rfl, q1, q2, q3⟩, KG.out⟩
end Go.Proofs.YtpklajadfbigcaaGreatDoor
namespace Go.Proofs.YtpklajadfbigcaaGreatDoor
open Go.RowKit
set_option linter.unusedVariables false
set_option linter.unusedSimpArgs false
theorem grown_row {w w' : World} (h : w.grownBy w' none) (row : Option Nat) : w.grownBy w' row := ⟨h.os, h.tape, h.output, h.size, fun b hb _ => h.block b hb (by simp)⟩
theorem vl_sizeT : (Tryz.prog.info? 37).map (·.size) = some 3 := by kernel_rfl
theorem results_vl2 {fn : Func} {p u : Tmp} (h : fn.results = #[.cell p 37, .tmp u]) (tmps : Array Value) (w : World) (g : Nat) (cs : Array Value) (hcs : cs.size = 3) (hp : tmps.getD p undef = .pointer (some ⟨g, 0, none⟩)) (hg : w.heap[g]? = some (.cells cs 37 (0, 0))) :
    (results fn tmps).run Tryz.prog w = .ok (.tuple #[.agg cs, tmps.getD u undef]) w := by
  have hp' : tmps[p]?.getD undef = .pointer (some ⟨g, 0, none⟩) := by simpa using hp
  simp [results, h, hp', asAddr, run_loadVar_row w g 37 37 cs (0, 0) _ hg Tryz.underlying37 rfl (by rw [hcs]; exact vl_sizeT)]
def excV (ad : Addr) (x : BitVec 128) : Value := if Wd.fitB x then .nilIface else .iface 136 (.agg #[.string ⟨(Wd.textB x).toArray⟩, .iface 184 (.pointer (some ad))])
set_option maxRecDepth 100000 in
set_option maxHeartbeats 6400000 in
theorem tsum_any (G : Nat) (ad : Addr) (a s : Int) (x : BitVec 128) (w : World) (hE : TaEnv G ad w) :
    Calls Tryz.prog 69 #[cntV a s x] w fun e w' => e = .returned (.tuple #[.agg #[.int .i64 (sumV s x).k, .int .i64 (sumV s x).n, .string (sumV s x).s], excV ad x]) ∧ w.grownBy w' none := by
  have HE := Lib.hid hE
  clear hE
  have HC := Lib.hid (heap_alloc_new w (.cells #[.int .i64 a, .int .i64 s, .int .i64 (Wd.hiB x), .int .u64 (Wd.loB x)] 77))
  have HR := Lib.hid (by have := heap_alloc_new (w.alloc (.cells #[.int .i64 a, .int .i64 s, .int .i64 (Wd.hiB x), .int .u64 (Wd.loB x)] 77)) (.cells #[.int .i64 0, .int .i64 0, .string ⟨#[]⟩] 37); rw [World.size_alloc] at this; exact this)
  have HG2 := Lib.hid ((World.grownBy_alloc w (.cells #[.int .i64 a, .int .i64 s, .int .i64 (Wd.hiB x), .int .u64 (Wd.loB x)] 77) none).trans (World.grownBy_alloc (w.alloc (.cells #[.int .i64 a, .int .i64 s, .int .i64 (Wd.hiB x), .int .u64 (Wd.loB x)] 77)) (.cells #[.int .i64 0, .int .i64 0, .string ⟨#[]⟩] 37) none))
  have HC2 := Lib.hid (blkD (World.grownBy_alloc (w.alloc (.cells #[.int .i64 a, .int .i64 s, .int .i64 (Wd.hiB x), .int .u64 (Wd.loB x)] 77)) (.cells #[.int .i64 0, .int .i64 0, .string ⟨#[]⟩] 37) none) HC.out)
  unfold cntV
  cases hf : Wd.fitB x with
  | false =>
    have HI := Lib.hid (fun W => Wd.int_none x W hf)
    have HT := Lib.hid (fun W (hW : Wd.TabW W) => Wd.wtext_any x W hW)
    unfold sumV excV
    simp only [hf, Bool.false_eq_true, if_false]
    unfold vlZ
    dsimp only
    clear HC
    generalize (⟨(Wd.textB x).toArray⟩ : ByteArray) = t at *
    generalize Wd.hiB x = h at *
    generalize Wd.loB x = l at *
    go_enter Tryz.func69, Tryz.ntmps69
    go_upto_region 1 with fail
    generalize (w.alloc (.cells #[.int .i64 a, .int .i64 s, .int .i64 h, .int .u64 l] 77)).alloc (.cells #[.int .i64 0, .int .i64 0, .string ⟨#[]⟩] 37) = w2 at *
    obtain ⟨g, hg⟩ : ∃ g, g = w.heap.size := ⟨_, rfl⟩
    have HG := Lib.hid hg
    rw [← hg] at HC2 HR ⊢
    clear hg
    obtain ⟨⟨b0, b1, b2, b3⟩, b4, b5, b6, b7⟩ := four_of HC2.out
    go_wp2_with fail
    refine (HI.out _).mono ?_
    rintro e w3 ⟨rfl, hb⟩
    have hg3 := grown_belowX hb none
    have C3 := Lib.hid (blkD hg3 HC2.out)
    have R3 := Lib.hid (blkD hg3 HR.out)
    have G3 := Lib.hid (HG2.out.trans hg3)
    have hE3 := HE.out.keep G3.out
    have E3 := Lib.hid hE3.sen.var
    have hgl : (0 : Nat) < g := by rw [HG.out]; exact World.block_lt_of_cell? w _ HE.out.sen.var
    replace HT : Hid (∀ W, w3.grownBy W none → Calls Tryz.prog 80 #[.agg #[.int .i64 h, .int .u64 l]] W fun e w' => e = .returned (.string t) ∧ Below W.heap.size W w') := Lib.hid (fun W hW => HT.out W ((HE.out.keep (G3.out.trans hW)).tab))
    clear hb hg3 HC2 HR HG2 hE3 b0 b1 b2 b3 b4 b5 b6 b7 HI
    go_upto_region 3 with fail
    refine wp_region_held_drew (S := (fun W => Hid (w3.grownBy W (some (g + 1))))) (by kernel_rfl) (Lib.hid (grown_drewT (grown_reflX w3 (some (g + 1))))) (fun hHeld => ?_)
    refine TKB (i := 0) (v := ?vaz) rfl ?yaz ?raz
    case yaz => (intro w hSw; (try dsimp only at hSw); go_simp; try with_reducible rfl)
    simp only [Act.put, List.getElem_toArray, List.getElem_cons_succ, List.getElem_cons_zero, List.size_toArray, List.length_cons, List.length_nil, Nat.reduceAdd, Array.replicate, List.replicate, List.setIfInBounds_toArray, List.set_cons_zero, List.set_cons_succ]
    refine TKB (i := 1) (v := ?vbz) rfl ?ybz ?rbz
    case ybz => (intro w hSw; (try dsimp only at hSw); go_simp; try with_reducible rfl)
    simp only [Act.put, List.getElem_toArray, List.getElem_cons_succ, List.getElem_cons_zero, List.size_toArray, List.length_cons, List.length_nil, Nat.reduceAdd, Array.replicate, List.replicate, List.setIfInBounds_toArray, List.set_cons_zero, List.set_cons_succ]
    refine TKA (i := 2) (v := .agg #[.int .i64 h, .int .u64 l]) rfl (yieldsIf_load_mid (by rfl) _ _ rfl g 2 rfl [.int .i64 h, .int .u64 l] _ (fun W hS => range_two ((hS.out.block g (Array.getElem?_eq_some_iff.1 C3.out).1 (by simp)).trans C3.out)) Tryz.underlying75 rfl sum_size) ?_
    simp only [Act.put, List.getElem_toArray, List.getElem_cons_succ, List.getElem_cons_zero, List.size_toArray, List.length_cons, List.length_nil, Nat.reduceAdd, Array.replicate, List.replicate, List.setIfInBounds_toArray, List.set_cons_zero, List.set_cons_succ]
    refine TKB (i := 4) (v := ?vcz) rfl ?ycz ?rcz
    case ycz => (intro w hSw; have e0 := hSw.out.cell E3.out (by simp <;> omega); clear hSw; go_simp; try with_reducible rfl)
    simp only [Act.put, List.getElem_toArray, List.getElem_cons_succ, List.getElem_cons_zero, List.size_toArray, List.length_cons, List.length_nil, Nat.reduceAdd, Array.replicate, List.replicate, List.setIfInBounds_toArray, List.set_cons_zero, List.set_cons_succ]
    refine RD1 (i := 3) rfl (fun K' hK => ?_)
    go_simp
    go_at_call 80
    refine (HT.out _ (grown_drewT (grown_reflX w3 none))).mono ?_
    rintro e w4 ⟨rfl, hb⟩
    have Z4 : Hid (w3.grownBy w4 none) := Lib.hid ((grown_drewT (grown_reflX w3 none)).trans (grown_belowX hb none))
    have R4 := Lib.hid (blkD Z4.out R3.out)
    clear hb
    refine hK.out _ _ (Lib.hid (grown_row Z4.out (some (g + 1)))) (fun hHeld => ?_)
    clear hK K'
    simp only [Act.put, List.getElem_toArray, List.getElem_cons_succ, List.getElem_cons_zero, List.size_toArray, List.length_cons, List.length_nil, Nat.reduceAdd, Array.replicate, List.replicate, List.setIfInBounds_toArray, List.set_cons_zero, List.set_cons_succ]
    refine TKB (i := 5) (v := ?vdz) rfl ?ydz ?rdz
    case ydz => (intro w hSw; (try dsimp only at hSw); go_simp; try with_reducible rfl)
    simp only [Act.put, List.getElem_toArray, List.getElem_cons_succ, List.getElem_cons_zero, List.size_toArray, List.length_cons, List.length_nil, Nat.reduceAdd, Array.replicate, List.replicate, List.setIfInBounds_toArray, List.set_cons_zero, List.set_cons_succ]
    refine TKB (i := 6) (v := ?vez) rfl ?yez ?rez
    case yez => (intro w hSw; (try dsimp only at hSw); go_simp; try with_reducible rfl)
    simp only [Act.put, List.getElem_toArray, List.getElem_cons_succ, List.getElem_cons_zero, List.size_toArray, List.length_cons, List.length_nil, Nat.reduceAdd, Array.replicate, List.replicate, List.setIfInBounds_toArray, List.set_cons_zero, List.set_cons_succ]
    refine RD1 (i := 7) rfl (fun K' hK => ?_)
    obtain ⟨⟨r0, r1, r2⟩, r3, r4, r5⟩ := three_of R4.out
    go_simp
    refine hK.out _ _ (Lib.hid ((grown_row Z4.out (some (g + 1))).trans (grown3 w4 (g + 1) _ _ _))) (fun hHeld => ?_)
    clear hK K'
    simp only [Act.put, List.getElem_toArray, List.getElem_cons_succ, List.getElem_cons_zero, List.size_toArray, List.length_cons, List.length_nil, Nat.reduceAdd, Array.replicate, List.replicate, List.setIfInBounds_toArray, List.set_cons_zero, List.set_cons_succ]
    refine TKB (i := 8) (v := ?vfz) rfl ?yfz ?rfz
    case yfz => (intro w hSw; (try dsimp only at hSw); go_simp; try with_reducible rfl)
    simp only [Act.put, List.getElem_toArray, List.getElem_cons_succ, List.getElem_cons_zero, List.size_toArray, List.length_cons, List.length_nil, Nat.reduceAdd, Array.replicate, List.replicate, List.setIfInBounds_toArray, List.set_cons_zero, List.set_cons_succ]
    refine wpAnyH_done (by kernel_rfl) ?_ _
    clear hHeld
    go_wp2_with fail
    exact bodyPost_ret (results_vl2 rfl _ _ (g + 1) #[.int .i64 0, .int .i64 0, .string ⟨#[]⟩] rfl rfl (set3 R4.out)) rfl ⟨rfl, grown_set3 (G3.out.trans Z4.out) (by rw [HG.out]; omega) _ _ _⟩
  | true =>
    have HI := Lib.hid (fun W => Wd.int_any x W hf)
    have HN := Lib.hid (fun W => tnumber_any x.toInt W)
    unfold sumV excV
    simp only [hf, if_true]
    by_cases hs : s = 0
    · subst hs
      rw [if_pos rfl]
      unfold vlZ
      dsimp only
      clear HC HN
      generalize Wd.hiB x = h at *
      generalize Wd.loB x = l at *
      generalize x.toInt = n at *
      go_enter Tryz.func69, Tryz.ntmps69
      go_upto_region 1 with fail
      generalize (w.alloc (.cells #[.int .i64 a, .int .i64 0, .int .i64 h, .int .u64 l] 77)).alloc (.cells #[.int .i64 0, .int .i64 0, .string ⟨#[]⟩] 37) = w2 at *
      obtain ⟨⟨b0, b1, b2, b3⟩, b4, b5, b6, b7⟩ := four_of HC2.out
      go_wp2_with fail
      refine (HI.out _).mono ?_
      rintro e w3 ⟨rfl, hb⟩
      have hg3 := grown_belowX hb none
      have C3 := Lib.hid (blkD hg3 HC2.out)
      have R3 := Lib.hid (blkD hg3 HR.out)
      have G3 := Lib.hid (HG2.out.trans hg3)
      clear hb hg3 HC2 HR HG2 b0 b1 b2 b3 b4 b5 b6 b7 HI
      obtain ⟨⟨b0, b1, b2, b3⟩, b4, b5, b6, b7⟩ := four_of C3.out
      obtain ⟨⟨r0, r1, r2⟩, r3, r4, r5⟩ := three_of R3.out
      go_wp2_with fail
      exact bodyPost_ret (results_vl2 rfl _ _ (w.heap.size + 1) #[.int .i64 0, .int .i64 0, .string ⟨#[]⟩] rfl rfl (set3 R3.out)) rfl ⟨rfl, grown_set3 G3.out (by omega) _ _ _⟩
    · rw [if_neg hs]
      have hs2 : (s == 0) = false := beq_eq_false_iff_ne.2 hs
      dsimp only
      clear HC
      generalize Wd.hiB x = h at *
      generalize Wd.loB x = l at *
      generalize x.toInt = n at *
      go_enter Tryz.func69, Tryz.ntmps69
      go_upto_region 1 with fail
      generalize (w.alloc (.cells #[.int .i64 a, .int .i64 s, .int .i64 h, .int .u64 l] 77)).alloc (.cells #[.int .i64 0, .int .i64 0, .string ⟨#[]⟩] 37) = w2 at *
      obtain ⟨⟨b0, b1, b2, b3⟩, b4, b5, b6, b7⟩ := four_of HC2.out
      go_wp2_with fail
      refine (HI.out _).mono ?_
      rintro e w3 ⟨rfl, hb⟩
      have hg3 := grown_belowX hb none
      have C3 := Lib.hid (blkD hg3 HC2.out)
      have R3 := Lib.hid (blkD hg3 HR.out)
      have G3 := Lib.hid (HG2.out.trans hg3)
      clear hb hg3 HC2 HR HG2 b0 b1 b2 b3 b4 b5 b6 b7 HI
      obtain ⟨⟨b0, b1, b2, b3⟩, b4, b5, b6, b7⟩ := four_of C3.out
      go_wp2_with fail
      refine (HN.out _).mono ?_
      rintro e w4 ⟨rfl, hg⟩
      have R4 := Lib.hid (blkD hg R3.out)
      have G4 := Lib.hid (G3.out.trans hg)
      clear hg
      obtain ⟨⟨r0, r1, r2⟩, r3, r4, r5⟩ := three_of R4.out
      go_wp2_with fail
      exact bodyPost_ret (results_vl2 rfl _ _ (w.heap.size + 1) #[.int .i64 2, .int .i64 n, .string ⟨#[]⟩] rfl rfl (set3 R4.out)) rfl ⟨rfl, grown_set3 G4.out (by omega) _ _ _⟩
def toldV (g a s : Int) (x : BitVec 128) : Vl := if g = 1 then ⟨2, a, ⟨#[]⟩⟩ else if g = 2 then ⟨2, s, ⟨#[]⟩⟩ else sumV s x
def tellC (g : Int) (x : BitVec 128) : Int := if g = 3 then (if Wd.fitB x then 0 else 24) else 0
set_option maxRecDepth 100000 in
set_option maxHeartbeats 6400000 in
theorem told_any (G : Nat) (ad : Addr) (g a s : Int) (hgg : g = 1 ∨ g = 2 ∨ g = 3) (x : BitVec 128) (w : World) (hE : TaEnv G ad w) :
    Calls Tryz.prog 51 #[cntV a s x, .int .i64 g] w fun e w' => e = .returned (.tuple #[.agg #[.int .i64 (toldV g a s x).k, .int .i64 (toldV g a s x).n, .string (toldV g a s x).s], if g = 3 then excV ad x else .nilIface]) ∧ w.grownBy w' none := by
  have HS := Lib.hid (fun W (hW : w.grownBy W none) => tsum_any G ad a s x W (hE.keep hW))
  have HC := Lib.hid (heap_alloc_new w (.cells #[.int .i64 a, .int .i64 s, .int .i64 (Wd.hiB x), .int .u64 (Wd.loB x)] 77))
  have HR := Lib.hid (by have := heap_alloc_new (w.alloc (.cells #[.int .i64 a, .int .i64 s, .int .i64 (Wd.hiB x), .int .u64 (Wd.loB x)] 77)) (.cells #[.int .i64 0, .int .i64 0, .string ⟨#[]⟩] 37); rw [World.size_alloc] at this; exact this)
  have HG2 := Lib.hid ((World.grownBy_alloc w (.cells #[.int .i64 a, .int .i64 s, .int .i64 (Wd.hiB x), .int .u64 (Wd.loB x)] 77) none).trans (World.grownBy_alloc (w.alloc (.cells #[.int .i64 a, .int .i64 s, .int .i64 (Wd.hiB x), .int .u64 (Wd.loB x)] 77)) (.cells #[.int .i64 0, .int .i64 0, .string ⟨#[]⟩] 37) none))
  have HC2 := Lib.hid (blkD (World.grownBy_alloc (w.alloc (.cells #[.int .i64 a, .int .i64 s, .int .i64 (Wd.hiB x), .int .u64 (Wd.loB x)] 77)) (.cells #[.int .i64 0, .int .i64 0, .string ⟨#[]⟩] 37) none) HC.out)
  have HN := Lib.hid (fun n W => tnumber_any n W)
  unfold cntV at HS ⊢
  obtain ⟨ev, hev⟩ : ∃ ev, ev = excV ad x := ⟨_, rfl⟩
  obtain ⟨sv, hsv⟩ : ∃ sv, sv = sumV s x := ⟨_, rfl⟩
  unfold toldV
  rw [← hev, ← hsv] at HS ⊢
  clear HC hE hev hsv
  generalize Wd.hiB x = h at *
  generalize Wd.loB x = l at *
  obtain ⟨sk, sn, ss⟩ := sv
  dsimp only at HS
  rcases hgg with rfl | rfl | rfl
  · go_enter Tryz.func51, Tryz.ntmps51
    go_upto_region 1 with fail
    generalize (w.alloc (.cells #[.int .i64 a, .int .i64 s, .int .i64 h, .int .u64 l] 77)).alloc (.cells #[.int .i64 0, .int .i64 0, .string ⟨#[]⟩] 37) = w2 at *
    obtain ⟨⟨b0, b1, b2, b3⟩, b4, b5, b6, b7⟩ := four_of HC2.out
    go_wp2_with fail
    refine (HN.out a _).mono ?_
    rintro e w3 ⟨rfl, hg⟩
    have R3 := Lib.hid (blkD hg HR.out)
    have G3 := Lib.hid (HG2.out.trans hg)
    clear hg HC2 HR HG2 b0 b1 b2 b3 b4 b5 b6 b7
    obtain ⟨⟨r0, r1, r2⟩, r3, r4, r5⟩ := three_of R3.out
    go_wp2_with fail
    exact bodyPost_ret (results_vl2 rfl _ _ (w.heap.size + 1) #[.int .i64 2, .int .i64 a, .string ⟨#[]⟩] rfl rfl (set3 R3.out)) rfl ⟨rfl, grown_set3 G3.out (by omega) _ _ _⟩
  · go_enter Tryz.func51, Tryz.ntmps51
    go_upto_region 1 with fail
    generalize (w.alloc (.cells #[.int .i64 a, .int .i64 s, .int .i64 h, .int .u64 l] 77)).alloc (.cells #[.int .i64 0, .int .i64 0, .string ⟨#[]⟩] 37) = w2 at *
    obtain ⟨⟨b0, b1, b2, b3⟩, b4, b5, b6, b7⟩ := four_of HC2.out
    go_wp2_with fail
    refine (HN.out s _).mono ?_
    rintro e w3 ⟨rfl, hg⟩
    have R3 := Lib.hid (blkD hg HR.out)
    have G3 := Lib.hid (HG2.out.trans hg)
    clear hg HC2 HR HG2 b0 b1 b2 b3 b4 b5 b6 b7
    obtain ⟨⟨r0, r1, r2⟩, r3, r4, r5⟩ := three_of R3.out
    go_wp2_with fail
    exact bodyPost_ret (results_vl2 rfl _ _ (w.heap.size + 1) #[.int .i64 2, .int .i64 s, .string ⟨#[]⟩] rfl rfl (set3 R3.out)) rfl ⟨rfl, grown_set3 G3.out (by omega) _ _ _⟩
  · go_enter Tryz.func51, Tryz.ntmps51
    go_upto_region 1 with fail
    generalize (w.alloc (.cells #[.int .i64 a, .int .i64 s, .int .i64 h, .int .u64 l] 77)).alloc (.cells #[.int .i64 0, .int .i64 0, .string ⟨#[]⟩] 37) = w2 at *
    obtain ⟨⟨b0, b1, b2, b3⟩, b4, b5, b6, b7⟩ := four_of HC2.out
    go_wp2_with fail
    refine (HS.out _ HG2.out).mono ?_
    rintro e w3 ⟨rfl, hg⟩
    have R3 := Lib.hid (blkD hg HR.out)
    have G3 := Lib.hid (HG2.out.trans hg)
    clear hg HC2 HR HG2 b0 b1 b2 b3 b4 b5 b6 b7
    obtain ⟨⟨r0, r1, r2⟩, r3, r4, r5⟩ := three_of R3.out
    go_wp2_with fail
    exact bodyPost_ret (results_vl2 rfl _ _ (w.heap.size + 1) #[.int .i64 sk, .int .i64 sn, .string ss] rfl rfl (set3 R3.out)) rfl ⟨rfl, grown_set3 G3.out (by omega) _ _ _⟩
end Go.Proofs.YtpklajadfbigcaaGreatDoor
namespace Go.Proofs.YtpklajadfbigcaaGreatDoor
open Go.RowKit
set_option linter.unusedVariables false
set_option linter.unusedSimpArgs false
theorem put3_other {W : World} {A B : Nat} (hn : A ≠ B) {o : Obj} (h : W.heap[B]? = some o) (v0 v1 v2 : Value) : (((W.setCell ⟨A, 0, none⟩ v0).setCell ⟨A, 1, none⟩ v1).setCell ⟨A, 2, none⟩ v2).heap[B]? = some o :=
  ((grown3 W A v0 v1 v2).block B (Array.getElem?_eq_some_iff.1 h).1 (by intro e; cases e; exact hn rfl)).trans h
def stepV (o : Vl → Vl → Int) (out v : Vl) : Vl := if v.k = 0 then out else if out.k = 0 then v else if o v out < 0 then v else out
set_option maxRecDepth 100000 in
set_option maxHeartbeats 6400000 in
theorem tfirst_any (N : Nat) (o : Vl → Vl → Int) (hE : ∀ args W, Sem.run Tryz.prog (callFunc N args) W = .ok (.enter N args) W) (hN : ∀ x y W, Calls Tryz.prog N #[.agg #[.int .i64 x.k, .int .i64 x.n, .string x.s], .agg #[.int .i64 y.k, .int .i64 y.n, .string y.s]] W fun e w' => e = .returned (.int .i64 (o x y)) ∧ W.grownBy w' none)
    (a : Option Addr) (cap : Nat) (l : List Vl) (w : World) (h : CellsS (fun _ => True) w a (l.flatMap Vl.cc)) (hc : l.length ≤ cap) (hn : l.length ≤ 1000) :
    Calls Tryz.prog 25 #[.slice a l.length cap, .func (.func N) #[] #[]] w fun e w' => e = .returned (.agg #[.int .i64 (l.foldl (stepV o) vlZ).k, .int .i64 (l.foldl (stepV o) vlZ).n, .string (l.foldl (stepV o) vlZ).s]) ∧ w.grownBy w' none := by
  have HN := Lib.hid hN
  have HAt : Hid (∀ W, w.grownBy W none → ∀ k, k < l.length → ∃ b off, a = some ⟨b, off, none⟩ ∧ W.cell? ⟨b, off + k * 3, none⟩ = some (.int .i64 (l.getD k default).k) ∧ W.cell? ⟨b, off + k * 3 + 1, none⟩ = some (.int .i64 (l.getD k default).n) ∧ W.cell? ⟨b, off + k * 3 + 2, none⟩ = some (.string (l.getD k default).s)) := Lib.hid (fun W hW k hk => by
    obtain ⟨b, off, e, _, _, hc⟩ := (h.keep (.of hW)).elem (c := Vl.cc) (n := 3) (fun _ => rfl) (by decide) hk
    generalize l.getD k default = x at *
    refine ⟨b, off, e, ?_, ?_, ?_⟩
    · have := hc 0 _ rfl; simpa using this
    · have := hc 1 _ rfl; simpa [Nat.add_assoc] using this
    · have := hc 2 _ rfl; simpa [Nat.add_assoc] using this)
  obtain ⟨fl, hfl⟩ : ∃ fl : Nat → Vl, fl = fun k => (l.take k).foldl (stepV o) vlZ := ⟨_, rfl⟩
  have HF0 : Hid (fl 0 = vlZ) := Lib.hid (by rw [hfl]; rfl)
  have HF : Hid (∀ k, k < l.length → fl (k + 1) = stepV o (fl k) (l.getD k default)) := Lib.hid (fun k hk => by
    rw [hfl]
    show (l.take (k + 1)).foldl (stepV o) vlZ = stepV o ((l.take k).foldl (stepV o) vlZ) (l.getD k default)
    rw [List.take_add_one, List.foldl_append, List.getD_eq_getElem?_getD, List.getElem?_eq_getElem hk]
    rfl)
  have HT : fl l.length = l.foldl (stepV o) vlZ := by rw [hfl]; show (l.take l.length).foldl _ _ = _; rw [List.take_length]
  rw [← HT]
  clear hfl HT h hN
  generalize l.length = m at *
  have B4 := Lib.hid (heap_alloc_new w (.cells #[.int .i64 0, .int .i64 0, .string ⟨#[]⟩] 37))
  have G4 := World.grownBy_alloc w (.cells #[.int .i64 0, .int .i64 0, .string ⟨#[]⟩] 37) none
  have S4 : (w.alloc (.cells #[.int .i64 0, .int .i64 0, .string ⟨#[]⟩] 37)).heap.size = w.heap.size + 1 := World.size_alloc _ _
  go_enter Tryz.func25, Tryz.ntmps25
  go_upto_region 1 with fail
  generalize w.alloc (.cells #[.int .i64 0, .int .i64 0, .string ⟨#[]⟩] 37) = w1 at *
  have B5 := Lib.hid (heap_alloc_new w1 (.cells #[.int .i64 0, .int .i64 0, .string ⟨#[]⟩] 37))
  have G5 := World.grownBy_alloc w1 (.cells #[.int .i64 0, .int .i64 0, .string ⟨#[]⟩] 37) none
  go_upto_region 2 with fail
  generalize w1.alloc (.cells #[.int .i64 0, .int .i64 0, .string ⟨#[]⟩] 37) = w2 at *
  rw [S4] at B5
  have D4 := Lib.hid (blkD G5 B4.out)
  have G2 := Lib.hid (G4.trans G5)
  clear B4 G4 G5 S4
  obtain ⟨g, hg⟩ : ∃ g, g = w.heap.size := ⟨_, rfl⟩
  have HG := Lib.hid hg
  rw [← hg] at B5 D4 ⊢
  clear hg
  go_wp2_with fail
  go_loopw [10] (fun s10 wr => ∃ k : Nat, s10 = .int .i64 k ∧ k ≤ m ∧ Hid (wr.heap[g]? = some (.cells #[.int .i64 0, .int .i64 0, .string ⟨#[]⟩] 37 (0, 0))) ∧ Hid (wr.heap[g + 1]? = some (.cells #[.int .i64 (fl k).k, .int .i64 (fl k).n, .string (fl k).s] 37 (0, 0))) ∧ Hid (w.grownBy wr none)) (fun s10 _ => m - (intOf s10).toNat)
  case atStart => exact ⟨0, rfl, Nat.zero_le _, D4, Lib.hid (by rw [HF0.out]; exact B5.out), G2⟩
  case round =>
    obtain ⟨k, rfl, hk, K4, K5, KG⟩ := hrel
    clear D4 B5 G2
    by_cases hlt : k < m
    · obtain ⟨b, off, rfl, c0, c1, c2⟩ := HAt.out wr KG.out k hlt
      have HFk := Lib.hid (HF.out k hlt)
      generalize l.getD k default = x at *
      generalize fl k = y at *
      obtain ⟨z, hz⟩ : ∃ z, z = fl (k + 1) := ⟨_, rfl⟩
      have HZ := Lib.hid hz
      rw [← hz] at HFk
      clear hz
      have HO := Lib.hid (fun W => HN.out x y W)
      have HX := Lib.hid (fun W => tnull_any x.k x.n x.s W)
      have HY := Lib.hid (fun W => tnull_any y.k y.n y.s W)
      obtain ⟨xk, xn, xs⟩ := x
      obtain ⟨yk, yn, ys⟩ := y
      dsimp only at *
      have i0 : (0 : Int) ≤ k := by omega
      have i1 : (k : Int) < m := by omega
      have i2 : (k : Int) < cap := by omega
      have X3 := Lib.hid (heap_alloc_new wr (.cells #[.int .i64 xk, .int .i64 xn, .string xs] 37))
      have G3 := Lib.hid (World.grownBy_alloc wr (.cells #[.int .i64 xk, .int .i64 xn, .string xs] 37) none)
      go_upto_region 5 with fail
      generalize wr.alloc (.cells #[.int .i64 xk, .int .i64 xn, .string xs] 37) = w3 at *
      clear c0 c1 c2
      obtain ⟨g7, hg7⟩ : ∃ g7, g7 = wr.heap.size := ⟨_, rfl⟩
      rw [← hg7] at X3 ⊢
      have Y3 := Lib.hid (blkD G3.out K5.out)
      have R3 := Lib.hid (blkD G3.out K4.out)
      have H3 := Lib.hid (KG.out.trans G3.out)
      clear K4 K5 KG G3 hg7
      obtain ⟨⟨d0, d1, d2⟩, d3, d4, d5⟩ := three_of X3.out
      go_wp2_with fail
      refine (HX.out _).mono ?_
      rintro e w4 ⟨rfl, hg⟩
      have X4 := Lib.hid (blkD hg X3.out)
      have Y4 := Lib.hid (blkD hg Y3.out)
      have R4 := Lib.hid (blkD hg R3.out)
      have H4 := Lib.hid (H3.out.trans hg)
      clear hg d0 d1 d2 d3 d4 d5 X3 Y3 R3 H3 HX
      by_cases hx : xk = 0
      · subst hx
        have e1 : z = ⟨yk, yn, ys⟩ := by rw [HFk.out]; rfl
        subst e1
        rw [show ((0 : Int) == 0) = true from rfl]
        clear HFk HO HY
        go_wp2_with fail
        go_roundw
        case rel => exact ⟨k + 1, by go_num, by omega, R4, Lib.hid (by rw [← HZ.out]; exact Y4.out), H4⟩
        case measure => simp [intOf]; omega
      rw [show (xk == 0) = false from beq_eq_false_iff_ne.2 hx]
      obtain ⟨⟨d0, d1, d2⟩, d3, d4, d5⟩ := three_of Y4.out
      go_wp2_with fail
      refine (HY.out _).mono ?_
      rintro e w5 ⟨rfl, hg⟩
      have X5 := Lib.hid (blkD hg X4.out)
      have Y5 := Lib.hid (blkD hg Y4.out)
      have R5 := Lib.hid (blkD hg R4.out)
      have H5 := Lib.hid (H4.out.trans hg)
      clear hg d0 d1 d2 d3 d4 d5 X4 Y4 R4 H4 HY
      by_cases hy : yk = 0
      · subst hy
        have e1 : z = ⟨xk, xn, xs⟩ := by rw [HFk.out]; unfold stepV; rw [if_neg hx, if_pos rfl]
        subst e1
        rw [show ((0 : Int) == 0) = true from rfl]
        clear HFk HO hx
        obtain ⟨⟨d0, d1, d2⟩, d3, d4, d5⟩ := three_of X5.out
        obtain ⟨⟨q0, q1, q2⟩, q3, q4, q5⟩ := three_of Y5.out
        go_wp2_with fail
        go_roundw
        case rel => exact ⟨k + 1, by go_num, by omega, Lib.hid (put3_other (by omega) R5.out _ _ _), Lib.hid (by rw [← HZ.out]; exact set3 Y5.out), Lib.hid (grown_set3 H5.out (by rw [← HG.out]; omega) _ _ _)⟩
        case measure => simp [intOf]; omega
      rw [show (yk == 0) = false from beq_eq_false_iff_ne.2 hy]
      obtain ⟨⟨d0, d1, d2⟩, d3, d4, d5⟩ := three_of X5.out
      obtain ⟨⟨q0, q1, q2⟩, q3, q4, q5⟩ := three_of Y5.out
      go_wp2_with fail
      refine (HO.out _).mono ?_
      rintro e w6 ⟨rfl, hg⟩
      have X6 := Lib.hid (blkD hg X5.out)
      have Y6 := Lib.hid (blkD hg Y5.out)
      have R6 := Lib.hid (blkD hg R5.out)
      have H6 := Lib.hid (H5.out.trans hg)
      clear hg d0 d1 d2 d3 d4 d5 q0 q1 q2 q3 q4 q5 X5 Y5 R5 H5 HO
      have HFk2 : Hid (z = if o ⟨xk, xn, xs⟩ ⟨yk, yn, ys⟩ < 0 then ⟨xk, xn, xs⟩ else ⟨yk, yn, ys⟩) := Lib.hid (by rw [HFk.out]; unfold stepV; rw [if_neg hx, if_neg hy])
      generalize o ⟨xk, xn, xs⟩ ⟨yk, yn, ys⟩ = r at *
      clear hx hy HFk
      obtain ⟨⟨d0, d1, d2⟩, d3, d4, d5⟩ := three_of X6.out
      obtain ⟨⟨q0, q1, q2⟩, q3, q4, q5⟩ := three_of Y6.out
      by_cases hr : r < 0
      · have e1 : z = ⟨xk, xn, xs⟩ := by rw [HFk2.out, if_pos hr]
        subst e1
        clear HFk2
        go_wp2_with fail
        go_roundw
        case rel => exact ⟨k + 1, by go_num, by omega, Lib.hid (put3_other (by omega) R6.out _ _ _), Lib.hid (by rw [← HZ.out]; exact set3 Y6.out), Lib.hid (grown_set3 H6.out (by rw [← HG.out]; omega) _ _ _)⟩
        case measure => simp [intOf]; omega
      · have e1 : z = ⟨yk, yn, ys⟩ := by rw [HFk2.out, if_neg hr]
        subst e1
        clear HFk2
        go_wp2_with fail
        go_roundw
        case rel => exact ⟨k + 1, by go_num, by omega, R6, Lib.hid (by rw [← HZ.out]; exact Y6.out), H6⟩
        case measure => simp [intOf]; omega
    · obtain rfl : k = m := by omega
      clear HF HF0 HAt HN
      obtain ⟨⟨d0, d1, d2⟩, d3, d4, d5⟩ := three_of K4.out
      obtain ⟨⟨q0, q1, q2⟩, q3, q4, q5⟩ := three_of K5.out
      go_wp2_with fail
      exact bodyPost_ret (results_cell_row rfl _ _ g 37 #[.int .i64 (fl k).k, .int .i64 (fl k).n, .string (fl k).s] (0, 0) _ rfl (set3 K4.out) Tryz.underlying37 rfl (by kernel_rfl)) rfl ⟨rfl, grown_set3 KG.out (by rw [← HG.out]; omega) _ _ _⟩
end Go.Proofs.YtpklajadfbigcaaGreatDoor
namespace Go.Proofs.YtpklajadfbigcaaGreatDoor
open Go.RowKit
set_option linter.unusedVariables false
set_option linter.unusedSimpArgs false
theorem vl_szU : (Tryz.prog.info? 37).map (·.size) = some 3 := by kernel_rfl
def nnL (l : List Vl) : List Vl := l.filter fun v => decide (v.k ≠ 0)
theorem nnL_step (vs : List Vl) (k : Nat) (h : k < vs.length) : nnL (vs.take (k + 1)) = if (vs.getD k default).k = 0 then nnL (vs.take k) else nnL (vs.take k) ++ [vs.getD k default] := by
  unfold nnL
  rw [List.take_add_one, List.filter_append, List.getD_eq_getElem?_getD, List.getElem?_eq_getElem h]
  by_cases h0 : vs[k].k = 0 <;> simp [h0]
theorem nnL_le (vs : List Vl) : (nnL vs).length ≤ vs.length := List.length_filter_le _ _
set_option maxRecDepth 100000 in
set_option maxHeartbeats 6400000 in
theorem values17_any (TN : ByteArray) (ta : Option Addr) (tcap : Nat) (cs : List Cl) (TK : Int) (M : ByteArray) (la : Option Addr) (lcap : Nat) (ls : List Rwm) (w : World) (hC : ColsAt w.heap.size w ta cs) (hc : colN M cs < cs.length)
    (hR : RwsAt w.heap.size w la ls) (hlc : ls.length ≤ lcap) (hn : ls.length ≤ 1000) (hf : ∀ x ∈ ls, x.l.length = cs.length) :
    Calls Tryz.prog 30 #[.agg #[.string TN, .slice ta cs.length tcap, .int .i64 TK], .string M, .slice la ls.length lcap] w fun e w' => (∃ a c, e = .returned (.slice a (nnL (ls.map (rowC M cs))).length c) ∧ Win 3 w' a c (nnL (ls.map (rowC M cs))).length ((nnL (ls.map (rowC M cs))).flatMap Vl.cc) ∧ (∀ k, bk a k → w.heap.size ≤ k)) ∧ w.grownBy w' none := by
  have HCl := Lib.hid (fun W (hW : w.grownBy W none) => refColumn_any TN ta tcap cs TK M W ((hC.keep hW (by simp)).mono hW.size))
  have hcr : colR M cs = ((colN M cs : Nat) : Int) := by unfold colR; rw [if_pos hc]
  rw [hcr] at HCl
  have HAt : Hid (∀ W, w.grownBy W none → ∀ k, k < ls.length → ∃ b off xb xo xc xn, la = some ⟨b, off, none⟩ ∧ W.cell? ⟨b, off + k, none⟩ = some (.slice (some ⟨xb, xo, none⟩) xn xc) ∧ colN M cs < xn ∧ xn ≤ xc ∧ W.rangeAt xb (xo + colN M cs * 3) [.int .i64 ((ls.map (rowC M cs)).getD k default).k, .int .i64 ((ls.map (rowC M cs)).getD k default).n, .string ((ls.map (rowC M cs)).getD k default).s]) := Lib.hid (fun W hW k hk => by
    have hK := hR.keep hW
    obtain ⟨b, off, e, _, d0⟩ := hK.at hk
    have hx : ls.getD k default ∈ ls := by rw [List.getD, List.getElem?_eq_getElem hk]; exact List.getElem_mem _
    have hv : (ls.map (rowC M cs)).getD k default = rowC M cs (ls.getD k default) := by
      rw [List.getD_eq_getElem?_getD, List.getElem?_map, List.getElem?_eq_getElem hk, List.getD_eq_getElem?_getD, List.getElem?_eq_getElem hk]; rfl
    rw [hv]
    have h1 := hK.2.1 _ hx
    have h2 := hf _ hx
    generalize ls.getD k default = x at *
    obtain ⟨xa, xc, xl⟩ := x
    dsimp only at *
    rcases h1.1.2 with h0 | ⟨xb, xo, rfl, _, hcell⟩
    · rw [h0] at h2; simp at h2; omega
    · refine ⟨b, off, xb, xo, xc, xl.length, e, d0, by omega, h1.2, fun j u hj => ?_⟩
      have hh := hcell (colN M cs) (by omega)
      unfold rowC colV at hj
      rw [if_pos hc] at hj
      match j, hj with
      | 0, hj => simp [vlV] at hj; subst hj; exact hh.1
      | 1, hj => simp [vlV] at hj; subst hj; simpa [Nat.add_assoc] using hh.2.1
      | 2, hj => simp [vlV] at hj; subst hj; simpa [Nat.add_assoc] using hh.2.2)
  have hvl : (ls.map (rowC M cs)).length = ls.length := List.length_map _
  generalize ls.map (rowC M cs) = vs at *
  obtain ⟨n, hnn⟩ : ∃ n, n = ls.length := ⟨_, rfl⟩
  rw [← hnn] at HAt hvl hlc hn ⊢
  clear hnn hcr hR hf
  have i5 : (0 : Int) ≤ ((colN M cs : Nat) : Int) := by omega
  obtain ⟨cn, hcn⟩ : ∃ cn, cn = cs.length := ⟨_, rfl⟩
  rw [← hcn] at HCl ⊢
  clear hcn hc hC
  generalize colN M cs = N at *
  obtain ⟨fl, hfl⟩ : ∃ fl : Nat → List Vl, fl = fun k => nnL (vs.take k) := ⟨_, rfl⟩
  have F0 : Hid (fl 0 = []) := Lib.hid (by rw [hfl]; rfl)
  have F1 : Hid (∀ k, k < n → fl (k + 1) = if (vs.getD k default).k = 0 then fl k else fl k ++ [vs.getD k default]) := Lib.hid (fun k hk => by rw [hfl]; exact nnL_step vs k (by rw [hvl]; exact hk))
  have FN : fl n = nnL vs := by rw [hfl, ← hvl]; show nnL (vs.take vs.length) = _; rw [List.take_length]
  have FL : Hid (∀ k, (fl k).length ≤ k) := Lib.hid (fun k => by rw [hfl]; have := nnL_le (vs.take k); rw [List.length_take] at this; show (nnL (vs.take k)).length ≤ k; omega)
  rw [← FN]
  clear FN hfl hvl
  have T1 := Lib.hid (heap_alloc_new w (.cells #[.string TN, .slice ta cn tcap, .int .i64 TK] 24))
  have G1 := Lib.hid (World.grownBy_alloc w (.cells #[.string TN, .slice ta cn tcap, .int .i64 TK] 24) none)
  go_enter Tryz.func30, Tryz.ntmps30
  go_upto_region 1 with fail
  generalize w.alloc (.cells #[.string TN, .slice ta cn tcap, .int .i64 TK] 24) = w1 at *
  obtain ⟨gt, hgt⟩ : ∃ g, g = w.heap.size := ⟨_, rfl⟩
  have HGT := Lib.hid hgt
  rw [← hgt] at T1 ⊢
  clear hgt
  go_wp2_with fail
  go_loopw [7, 12] (fun s7 s12 wr => ∃ (k c m : Nat) (a' : Option Addr), s7 = .slice a' m c ∧ s12 = .int .i64 k ∧ k ≤ n ∧ Hid (m = (fl k).length ∧ Win 3 wr a' c m ((fl k).flatMap Vl.cc)) ∧ Hid (∀ j, bk a' j → w1.heap.size ≤ j) ∧ Hid (w1.grownBy wr none)) (fun _ s12 _ => n - (intOf s12).toNat)
  case atStart => exact ⟨0, 0, 0, none, rfl, rfl, Nat.zero_le _, Lib.hid (by rw [F0.out]; exact ⟨rfl, Win.nil 3 _⟩), Lib.hid (fun j hj => by simp [bk] at hj), Lib.hid (grown_reflT _ _)⟩
  case round =>
    obtain ⟨k, c, m, a', rfl, rfl, hk, KW, KB, KG⟩ := hrel
    have GR := Lib.hid (G1.out.trans KG.out)
    by_cases hlt : k < n
    · obtain ⟨b, off, xb, xo, xc, xn, rfl, c0, hN, hxc, hr⟩ := HAt.out wr GR.out k hlt
      have HFk := Lib.hid (F1.out k hlt)
      have hm := FL.out k
      have XR := Lib.hid hr
      have TR := Lib.hid (blkD KG.out T1.out)
      replace HCl : Hid (∀ W, wr.grownBy W none → Calls Tryz.prog 43 #[.agg #[.string TN, .slice ta cn tcap, .int .i64 TK], .string M] W fun e w' => e = .returned (.int .i64 (N : Nat)) ∧ W.grownBy w' none) := Lib.hid (fun W hW => HCl.out W (GR.out.trans hW))
      generalize vs.getD k default = v at *
      obtain ⟨vk, vn, vs⟩ := v
      dsimp only at XR HFk
      have i0 : (0 : Int) ≤ k := by omega
      have i1 : (k : Int) < n := by omega
      have i2 : (k : Int) < lcap := by omega
      have i3 : (N : Int) < xn := by omega
      have i4 : (N : Int) < xc := by omega
      clear hr
      go_upto_region 5 with fail
      go_cut [9] from 15 to 24 (fun s9 wx => ∃ gp : Nat, s9 = .pointer (some ⟨gp, 0, none⟩) ∧ Hid (wx.heap[gp]? = some (.cells #[.int .i64 vk, .int .i64 vn, .string vs] 37 (0, 0))) ∧ Hid (wr.grownBy wx none))
      case first =>
        refine wp_region_held_drew (S := (fun W => Hid (wr.grownBy W none))) (by kernel_rfl) (Lib.hid (grown_drewT (grown_reflX wr none))) (fun hHeld => ?_)
        refine TKA (i := 4) (v := .agg #[.string TN, .slice ta cn tcap, .int .i64 TK]) rfl (yieldsIf_load_mid (by rfl) _ _ rfl gt 0 rfl _ _ (fun W hS => range_rowD (blkD hS.out TR.out)) Tryz.underlying24 rfl tab_size) ?_
        simp only [Act.put, List.getElem_toArray, List.getElem_cons_succ, List.getElem_cons_zero, List.size_toArray, List.length_cons, List.length_nil, Nat.reduceAdd, Array.replicate, List.replicate, List.setIfInBounds_toArray, List.set_cons_zero, List.set_cons_succ]
        refine TKB (i := 0) (v := ?vaz) rfl ?yaz ?raz
        case yaz => (intro w hSw; (try dsimp only at hSw); go_simp; try with_reducible rfl)
        simp only [Act.put, List.getElem_toArray, List.getElem_cons_succ, List.getElem_cons_zero, List.size_toArray, List.length_cons, List.length_nil, Nat.reduceAdd, Array.replicate, List.replicate, List.setIfInBounds_toArray, List.set_cons_zero, List.set_cons_succ]
        refine TKB (i := 1) (v := ?vbz) rfl ?ybz ?rbz
        case ybz => (intro w hSw; (try dsimp only at hSw); go_simp; try with_reducible rfl)
        simp only [Act.put, List.getElem_toArray, List.getElem_cons_succ, List.getElem_cons_zero, List.size_toArray, List.length_cons, List.length_nil, Nat.reduceAdd, Array.replicate, List.replicate, List.setIfInBounds_toArray, List.set_cons_zero, List.set_cons_succ]
        refine TKB (i := 2) (v := ?vcz) rfl ?ycz ?rcz
        case ycz => (intro w hSw; (try dsimp only at hSw); go_simp; try with_reducible rfl)
        simp only [Act.put, List.getElem_toArray, List.getElem_cons_succ, List.getElem_cons_zero, List.size_toArray, List.length_cons, List.length_nil, Nat.reduceAdd, Array.replicate, List.replicate, List.setIfInBounds_toArray, List.set_cons_zero, List.set_cons_succ]
        refine TKB (i := 3) (v := ?vdz) rfl ?ydz ?rdz
        case ydz => (intro w hSw; have e0 := hSw.out.cell c0 (by simp); clear hSw; go_simp; try with_reducible rfl)
        simp only [Act.put, List.getElem_toArray, List.getElem_cons_succ, List.getElem_cons_zero, List.size_toArray, List.length_cons, List.length_nil, Nat.reduceAdd, Array.replicate, List.replicate, List.setIfInBounds_toArray, List.set_cons_zero, List.set_cons_succ]
        refine TKB (i := 5) (v := ?vez) rfl ?yez ?rez
        case yez => (intro w hSw; (try dsimp only at hSw); go_simp; try with_reducible rfl)
        simp only [Act.put, List.getElem_toArray, List.getElem_cons_succ, List.getElem_cons_zero, List.size_toArray, List.length_cons, List.length_nil, Nat.reduceAdd, Array.replicate, List.replicate, List.setIfInBounds_toArray, List.set_cons_zero, List.set_cons_succ]
        refine wpAnyH_ready (rs := [6, 9]) (by kernel_rfl) (by simp) ?_
        refine (AllReadyH.cons rfl (fun K' hK => ?_) (AllReadyH.cons rfl (fun K' hK => ?_) AllReadyH.nil))
        · go_simp
          go_at_call 43
          refine (HCl.out _ (grown_drewT (grown_reflX wr none))).mono ?_
          rintro e v6 ⟨rfl, hg⟩
          have Z6 : Hid (wr.grownBy v6 none) := Lib.hid ((grown_drewT (grown_reflX wr none)).trans hg)
          clear hg
          refine hK.out _ _ Z6 (fun hHeld => ?_)
          clear hK K'
          simp only [Act.put, List.getElem_toArray, List.getElem_cons_succ, List.getElem_cons_zero, List.size_toArray, List.length_cons, List.length_nil, Nat.reduceAdd, Array.replicate, List.replicate, List.setIfInBounds_toArray, List.set_cons_zero, List.set_cons_succ]
          refine TKB (i := 7) (v := ?vfz) rfl ?yfz ?rfz
          case yfz => (intro w hSw; (try dsimp only at hSw); go_simp; try with_reducible rfl)
          simp only [Act.put, List.getElem_toArray, List.getElem_cons_succ, List.getElem_cons_zero, List.size_toArray, List.length_cons, List.length_nil, Nat.reduceAdd, Array.replicate, List.replicate, List.setIfInBounds_toArray, List.set_cons_zero, List.set_cons_succ]
          refine TKA (i := 8) (v := .agg #[.int .i64 vk, .int .i64 vn, .string vs]) rfl (yieldsIf_load_mid (by rfl) _ _ rfl xb (xo + N * 3) (by first | rfl | (go_simp; done) | (simp [Addr.add]; done)) _ _ (fun W hS j u hj => hS.out.cell (XR.out j u hj) (by simp)) Tryz.underlying37 rfl vl_szU) ?_
          simp only [Act.put, List.getElem_toArray, List.getElem_cons_succ, List.getElem_cons_zero, List.size_toArray, List.length_cons, List.length_nil, Nat.reduceAdd, Array.replicate, List.replicate, List.setIfInBounds_toArray, List.set_cons_zero, List.set_cons_succ]
          refine RD1 (i := 9) rfl (fun K' hK => ?_)
          go_simp
          obtain ⟨v9, hv9⟩ : ∃ v, v = (v6.alloc (.cells #[.int .i64 0, .int .i64 0, .string ⟨#[]⟩] 37)) := ⟨_, rfl⟩
          have Z9 : Hid (wr.grownBy v9 none) := Lib.hid (by rw [hv9]; exact (Z6.out).trans (World.grownBy_alloc _ _ none))
          have P9 : Hid (v9.heap[v6.heap.size]? = some (.cells #[.int .i64 0, .int .i64 0, .string ⟨#[]⟩] 37 (0, 0))) := Lib.hid (by rw [hv9]; exact heap_alloc_new v6 (.cells #[.int .i64 0, .int .i64 0, .string ⟨#[]⟩] 37))
          rw [← hv9]
          clear hv9
          obtain ⟨gp, hgp⟩ : ∃ g, g = v6.heap.size := ⟨_, rfl⟩
          have PLE : Hid (wr.heap.size ≤ gp) := Lib.hid (by rw [hgp]; exact (Z6.out).size)
          rw [← hgp] at P9 ⊢
          clear hgp
          refine hK.out _ _ Z9 (fun hHeld => ?_)
          clear hK K'
          simp only [Act.put, List.getElem_toArray, List.getElem_cons_succ, List.getElem_cons_zero, List.size_toArray, List.length_cons, List.length_nil, Nat.reduceAdd, Array.replicate, List.replicate, List.setIfInBounds_toArray, List.set_cons_zero, List.set_cons_succ]
          refine RD1 (i := 10) rfl (fun K' hK => ?_)
          obtain ⟨⟨p0, p1, p2⟩, p3, p4, p5⟩ := three_of P9.out
          go_simp
          clear p0 p1 p2 p3 p4 p5
          have P10 := Lib.hid (set3 (u0 := .int .i64 vk) (u1 := .int .i64 vn) (u2 := .string vs) P9.out)
          have Z10 := Lib.hid (grown_set3 Z9.out PLE.out (.int .i64 vk) (.int .i64 vn) (.string vs))
          refine hK.out _ _ Z10 (fun hHeld => ?_)
          clear hK K'
          simp only [Act.put, List.getElem_toArray, List.getElem_cons_succ, List.getElem_cons_zero, List.size_toArray, List.length_cons, List.length_nil, Nat.reduceAdd, Array.replicate, List.replicate, List.setIfInBounds_toArray, List.set_cons_zero, List.set_cons_succ]
          refine wpAnyH_done (by kernel_rfl) ?_ _
          clear hHeld
          go_wp2_with fail
          go_meet
          case rel => exact ⟨gp, rfl, P10, Z10⟩
        · go_simp
          obtain ⟨v9, hv9⟩ : ∃ v, v = (wr.alloc (.cells #[.int .i64 0, .int .i64 0, .string ⟨#[]⟩] 37)).drew := ⟨_, rfl⟩
          have Z9 : Hid (wr.grownBy v9 none) := Lib.hid (by rw [hv9]; exact grown_drewT (World.grownBy_alloc _ _ none))
          have P9 : Hid (v9.heap[wr.heap.size]? = some (.cells #[.int .i64 0, .int .i64 0, .string ⟨#[]⟩] 37 (0, 0))) := Lib.hid (by rw [hv9]; exact heap_alloc_new wr (.cells #[.int .i64 0, .int .i64 0, .string ⟨#[]⟩] 37))
          rw [← hv9]
          clear hv9
          obtain ⟨gp, hgp⟩ : ∃ g, g = wr.heap.size := ⟨_, rfl⟩
          have PLE : Hid (wr.heap.size ≤ gp) := Lib.hid (by rw [hgp]; exact ((grown_reflX wr none)).size)
          rw [← hgp] at P9 ⊢
          clear hgp
          refine hK.out _ _ Z9 (fun hHeld => ?_)
          clear hK K'
          simp only [Act.put, List.getElem_toArray, List.getElem_cons_succ, List.getElem_cons_zero, List.size_toArray, List.length_cons, List.length_nil, Nat.reduceAdd, Array.replicate, List.replicate, List.setIfInBounds_toArray, List.set_cons_zero, List.set_cons_succ]
          refine RD1 (i := 6) rfl (fun K' hK => ?_)
          go_simp
          go_at_call 43
          refine (HCl.out _ (Z9.out)).mono ?_
          rintro e v6 ⟨rfl, hg⟩
          have Z6 : Hid (wr.grownBy v6 none) := Lib.hid ((Z9.out).trans hg)
          have P6 := Lib.hid (blkD hg P9.out)
          clear hg
          refine hK.out _ _ Z6 (fun hHeld => ?_)
          clear hK K'
          simp only [Act.put, List.getElem_toArray, List.getElem_cons_succ, List.getElem_cons_zero, List.size_toArray, List.length_cons, List.length_nil, Nat.reduceAdd, Array.replicate, List.replicate, List.setIfInBounds_toArray, List.set_cons_zero, List.set_cons_succ]
          refine TKB (i := 7) (v := ?vgz) rfl ?ygz ?rgz
          case ygz => (intro w hSw; (try dsimp only at hSw); go_simp; try with_reducible rfl)
          simp only [Act.put, List.getElem_toArray, List.getElem_cons_succ, List.getElem_cons_zero, List.size_toArray, List.length_cons, List.length_nil, Nat.reduceAdd, Array.replicate, List.replicate, List.setIfInBounds_toArray, List.set_cons_zero, List.set_cons_succ]
          refine TKA (i := 8) (v := .agg #[.int .i64 vk, .int .i64 vn, .string vs]) rfl (yieldsIf_load_mid (by rfl) _ _ rfl xb (xo + N * 3) (by first | rfl | (go_simp; done) | (simp [Addr.add]; done)) _ _ (fun W hS j u hj => hS.out.cell (XR.out j u hj) (by simp)) Tryz.underlying37 rfl vl_szU) ?_
          simp only [Act.put, List.getElem_toArray, List.getElem_cons_succ, List.getElem_cons_zero, List.size_toArray, List.length_cons, List.length_nil, Nat.reduceAdd, Array.replicate, List.replicate, List.setIfInBounds_toArray, List.set_cons_zero, List.set_cons_succ]
          refine RD1 (i := 10) rfl (fun K' hK => ?_)
          obtain ⟨⟨p0, p1, p2⟩, p3, p4, p5⟩ := three_of P6.out
          go_simp
          clear p0 p1 p2 p3 p4 p5
          have P10 := Lib.hid (set3 (u0 := .int .i64 vk) (u1 := .int .i64 vn) (u2 := .string vs) P6.out)
          have Z10 := Lib.hid (grown_set3 Z6.out PLE.out (.int .i64 vk) (.int .i64 vn) (.string vs))
          refine hK.out _ _ Z10 (fun hHeld => ?_)
          clear hK K'
          simp only [Act.put, List.getElem_toArray, List.getElem_cons_succ, List.getElem_cons_zero, List.size_toArray, List.length_cons, List.length_nil, Nat.reduceAdd, Array.replicate, List.replicate, List.setIfInBounds_toArray, List.set_cons_zero, List.set_cons_succ]
          refine wpAnyH_done (by kernel_rfl) ?_ _
          clear hHeld
          go_wp2_with fail
          go_meet
          case rel => exact ⟨gp, rfl, P10, Z10⟩
      case rest =>
      obtain ⟨gp, rfl, P2, Z2⟩ := hcut
      rename World => w2
      obtain ⟨h1, h2⟩ := KW.out
      have W2 := Lib.hid (h2.keepG Z2.out)
      have G2 := Lib.hid (KG.out.trans Z2.out)
      have HMK := Lib.hid h1
      clear h1 h2 KW c0
      obtain ⟨⟨p0, p1, p2⟩, p3, p4, p5⟩ := three_of P2.out
      by_cases h0 : vk = 0
      · subst h0
        rw [if_pos rfl] at HFk
        go_wp2_with fail
        go_roundw
        case rel => exact ⟨k + 1, c, m, a', rfl, by go_num, by omega, Lib.hid (by rw [HFk.out]; exact ⟨HMK.out, W2.out⟩), KB, G2⟩
        case measure => simp [intOf]; omega
      · rw [if_neg h0] at HFk
        have e0 : (vk == 0) = false := beq_eq_false_iff_ne.2 h0
        have W3 := Lib.hid (W2.out.keepG (World.grownBy_alloc w2 (.cells #[.int .i64 vk, .int .i64 vn, .string vs] 37) none))
        have N3 := Lib.hid (news3 w2 ⟨vk, vn, vs⟩)
        have hm2 : m ≤ k := by rw [HMK.out]; exact hm
        clear h0
        go_wp2_with (first
          | (refine wpList_append_winA (by rfl) _ _ val_el rfl W3.out (by rfl) _ 1 1 (by rfl) _ (fun e => by cases e) (by rfl) (by omega) N3.out (vlcc_ones _) ?_; intro a6 c6 w6 hW6 hO6 hB6 _)
          | fail)
        have G6 := Lib.hid (grown_onlyN (G2.out.trans (World.grownBy_alloc w2 _ none)) hO6 KB.out)
        exact ⟨⟨k + 1, c6, m + 1, a6, rfl, rfl, by omega, Lib.hid (by rw [HFk.out, List.length_append, List.flatMap_append, ← HMK.out]; exact ⟨rfl, by simpa using hW6⟩), Lib.hid (fun j hj => (hB6 j hj).elim (KB.out j) (fun h => Nat.le_trans (G2.out.trans (World.grownBy_alloc w2 _ none)).size h)), G6⟩, by simp [intOf]; omega⟩
    · obtain rfl : k = n := by omega
      obtain ⟨h1, h2⟩ := KW.out
      subst h1
      clear F0 F1 FL HAt HCl
      go_wp2_with fail
      go_ret
      exact ⟨⟨a', c, rfl, h2, fun j hj => Nat.le_trans G1.out.size (KB.out j hj)⟩, GR.out⟩
end Go.Proofs.YtpklajadfbigcaaGreatDoor
namespace Go.Proofs.YtpklajadfbigcaaGreatDoor
open Go.ChangeShapes Go.WideShapes Go.ChangeAt Go.RowKit Go.Joins Go.Deep

def laid17x : List (String × DataW Unit) := [("math/bits.deBruijn32tab", Rows.laid_math_bits_deBruijn32tab), ("math/bits.deBruijn64tab", Rows.laid_math_bits_deBruijn64tab), ("internal/strconv.uint64pow10", Rows.laid_internal_strconv_uint64pow10), ("stillroom/tally.errWide", Rows.laid_stillroom_tally_errWide)]
theorem door_met17x (os : Os) (args : Array Value) : laidMetH Tryz.prog laid17x ((World.doorLaid Tryz.prog 400 os).forCall (fun _ _ => 0) ⟨#[], args, []⟩).memory :=
  laidMetH_of_parts3 (fuel := 8) (laidMet_of_run' 8 (by kernel_rfl) (by kernel_rfl)) (by kernel_rfl) (by kernel_rfl)
theorem tabT_of_laid {W : World} {r : List (String × DataW Unit)} (h : laidMet Tryz.prog (("internal/strconv.uint64pow10", Rows.laid_internal_strconv_uint64pow10) :: r) W) : Wd.TabW W :=
  Lib.tabIs_of_head (g := 4) (t := 175) (e := 73) (n := 20) (by kernel_rfl) (by kernel_rfl) Tryz.underlying175 Tryz.underlying73 (by kernel_rfl) (by kernel_rfl) h
theorem taEnv_of {W : World} (h : laidMetH Tryz.prog laid17x W) : ∃ ad, TaEnv W.heap.size ad W := by
  unfold laid17x at h
  rw [MakeChecks.laidMetH_plain _ _ _ (by kernel_rfl)] at h
  obtain ⟨a, ha⟩ := senAt_of h.tail.tail.tail (g := 0) (by kernel_rfl) (by kernel_rfl)
  exact ⟨a, tabT_of_laid h.tail.tail, ha⟩
end Go.Proofs.YtpklajadfbigcaaGreatDoor
