/- Grouped and grouping. grouping: what is wrong with the items and keys of a query that is grouped. review: the first thing that is wrong with a query of a table. -/
import Derived.Test.YtjaclmoobfeikaaGreatDoorZl39
import Derived.Test.YtjaclmoobfeikaaGreatDoorZl35
import Derived.Deep.RegionHeld
namespace Go.Proofs.YtjaclmoobfeikaaGreatDoor
open Go.RowKit

set_option maxRecDepth 100000 in
set_option maxHeartbeats 3200000 in
theorem grouped_any (S : Nat → Prop) (y : Qm) (w : World) (h : QmS S w y) (li : y.items.length ≤ 1000) (lo : y.order.length ≤ 1000) :
    Calls Tryz.prog 109 #[.agg y.c] w fun e w' => e = .returned (.bool y.e.grouped) ∧ w.grownBy w' none := by
  have HA := Lib.hid (fun W (hW : w.grownBy W none) => asked_any S y W (h.1.1.keep (.of hW)) (h.2.2.2.1.keep (.of hW)) li lo)
  have HB : Hid (y.e.grouped = (decide (0 < y.group.length) || (y.items ++ y.order.map Kyo.item).any fun x => decide (x.agg ≠ 0))) := Lib.hid rfl
  obtain ⟨L, hL⟩ : ∃ L, L = y.items ++ y.order.map Kyo.item := ⟨_, rfl⟩
  have hLc : y.items.flatMap Itm.c ++ y.order.flatMap (fun k => k.item.c) = L.flatMap Itm.c := by rw [hL, List.flatMap_append, List.flatMap_map]
  have hLl : y.items.length + y.order.length = L.length := by rw [hL]; simp
  have hL1 : L.length ≤ 1000000 := by omega
  rw [← hL] at HB
  rw [hLc, hLl] at HA
  have HX := Lib.hid (fun a cap W (h : CellsS (fun _ => True) W a (L.flatMap Itm.c)) => containsAg_any (fun _ => True) a cap L W h hL1)
  obtain ⟨B, hB⟩ : ∃ B, B = L.any fun x => decide (x.agg ≠ 0) := ⟨_, rfl⟩
  rw [← hB] at HB HX
  obtain ⟨gn, hg⟩ : ∃ n, n = y.group.length := ⟨_, rfl⟩
  rw [← hg] at HB
  obtain ⟨T, hT⟩ : ∃ T, T = y.e.grouped := ⟨_, rfl⟩
  rw [← hT] at HB ⊢
  obtain ⟨nL, hnL⟩ : ∃ n, n = L.length := ⟨_, rfl⟩
  rw [← hnL] at HX HA
  clear h hL hLc hLl hL1 hB hT li lo hnL
  obtain ⟨ia1, ic1, its1, al1, ta1, ⟨k1, c1, rr1, v1, o1, la1, lc1, li1, ka1, kc1, ks1, pp1⟩, ga1, gc1, gr1, oa1, oc1, od1, lim1⟩ := y
  dsimp only at hg
  replace HA : Hid (∀ W, w.grownBy W none → Calls Tryz.prog 21 #[.agg #[.slice ia1 its1.length ic1, .bool al1, .string ta1, .int .i64 (k1 : Nat), .string c1, .int .i64 (rr1 : Nat), .int .i64 v1.k, .int .i64 v1.n, .string v1.s, .string o1, .slice la1 li1.length lc1, .slice ka1 ks1.length kc1, .int .i64 (pp1 : Nat), .slice ga1 gr1.length gc1, .slice oa1 od1.length oc1, .int .i64 lim1, .int .i64 0]] W fun e w' => (∃ v, e = .returned v ∧ w'.ownsRow W.heap.size 65 3 v nL (L.flatMap Itm.c)) ∧ W.grownBy w' none) := HA
  show Calls Tryz.prog 109 #[.agg #[.slice ia1 its1.length ic1, .bool al1, .string ta1, .int .i64 (k1 : Nat), .string c1, .int .i64 (rr1 : Nat), .int .i64 v1.k, .int .i64 v1.n, .string v1.s, .string o1, .slice la1 li1.length lc1, .slice ka1 ks1.length kc1, .int .i64 (pp1 : Nat), .slice ga1 gr1.length gc1, .slice oa1 od1.length oc1, .int .i64 lim1, .int .i64 0]] w _
  rw [← hg] at HA ⊢
  generalize its1.length = n1 at *
  generalize li1.length = n2 at *
  generalize ks1.length = n4 at *
  generalize od1.length = n6 at *
  clear hg
  have G0 := Lib.hid (World.grownBy_alloc w (.cells #[.slice ia1 n1 ic1, .bool al1, .string ta1, .int .i64 (k1 : Nat), .string c1, .int .i64 (rr1 : Nat), .int .i64 v1.k, .int .i64 v1.n, .string v1.s, .string o1, .slice la1 n2 lc1, .slice ka1 n4 kc1, .int .i64 (pp1 : Nat), .slice ga1 gn gc1, .slice oa1 n6 oc1, .int .i64 lim1, .int .i64 0] 36) none)
  have B0 := heap_alloc_new w (.cells #[.slice ia1 n1 ic1, .bool al1, .string ta1, .int .i64 (k1 : Nat), .string c1, .int .i64 (rr1 : Nat), .int .i64 v1.k, .int .i64 v1.n, .string v1.s, .string o1, .slice la1 n2 lc1, .slice ka1 n4 kc1, .int .i64 (pp1 : Nat), .slice ga1 gn gc1, .slice oa1 n6 oc1, .int .i64 lim1, .int .i64 0] 36)
  obtain ⟨a0, a1, a2, a3, a4, a5, a6, a7, a8, a9, a10, a11, a12, a13, a14, a15, a16⟩ := cells17 B0
  clear B0
  by_cases hz : gn = 0
  · have HF : Hid (T = B) := Lib.hid (by rw [HB.out, hz]; rfl)
    subst hz
    clear HB
    go_enter Tryz.func109, Tryz.ntmps109
    go_wp2_with fail
    refine (HA.out _ G0.out).mono ?_
    rintro e w2 ⟨⟨v, rfl, ho⟩, hg⟩
    obtain ⟨a2, cap2, rfl, hw, _⟩ := own_win ho
    have HX1 := Lib.hid (HX.out a2 cap2 w2 (win_cells (S := fun _ => True) hw (fun _ _ => trivial)))
    have G2 := Lib.hid (G0.out.trans hg)
    clear hg ho hw
    go_wp2_with fail
    refine HX1.out.mono ?_
    rintro e w3 ⟨rfl, hg⟩
    have G3 := Lib.hid (G2.out.trans hg)
    clear hg
    go_wp2_with fail
    go_ret
    exact ⟨by rw [HF.out]; rfl, G3.out⟩
  · have HF : Hid (T = true) := Lib.hid (by rw [HB.out, decide_eq_true (show 0 < gn by omega)]; rfl)
    have hz' : (0 : Int) < gn := by omega
    clear hz HB
    go_enter Tryz.func109, Tryz.ntmps109
    go_wp2_with fail
    go_ret
    exact ⟨by rw [HF.out]; rfl, G0.out⟩
end Go.Proofs.YtjaclmoobfeikaaGreatDoor
namespace Go.Proofs.YtjaclmoobfeikaaGreatDoor
open Go.RowKit

theorem qm_c13 : ∀ y : Qm, y.c[13]? = some (.slice y.ga y.group.length y.gc)
  | ⟨_, _, _, _, _, .mk .., _, _, _, _, _, _, _⟩ => rfl
theorem qm_c1 : ∀ y : Qm, y.c[1]? = some (.bool y.all)
  | ⟨_, _, _, _, _, .mk .., _, _, _, _, _, _, _⟩ => rfl
set_option maxRecDepth 100000 in
set_option maxHeartbeats 6400000 in
theorem grouping_any (G : Nat) (f : Nat → Addr) (S : Nat → Prop) (y : Qm) (w : World) (h : QmS S w y) (li : y.items.length ≤ 1000) (lo : y.order.length ≤ 1000) (lg : y.group.length ≤ 1000) (hE : CkEnv G f w) :
    Calls Tryz.prog 83 #[.agg y.c] w fun e w' => e = .returned (fltV f (groupingE y.e)) ∧ w.grownBy w' none := by
  have HG := Lib.hid (fun W (hW : w.grownBy W none) => grouped_any S y W (h.keep (.of hW)) li lo)
  have HA := Lib.hid (fun W (hW : w.grownBy W none) => asked_any S y W (h.1.1.keep (.of hW)) (h.2.2.2.1.keep (.of hW)) li lo)
  have HM := Lib.hid (fun M W (hW : w.grownBy W none) => among_any S y.ga y.gc y.group M W (h.2.2.1.1.keep (.of hW)) (by omega))
  have HE := Lib.hid hE
  have C13 := Lib.hid (qm_c13 y)
  have C1 := Lib.hid (qm_c1 y)
  have HQ1 := Lib.hid y.c_size
  have hQ2 := y.c_all
  obtain ⟨R, hR⟩ : ∃ R, R = groupingE y.e := ⟨_, rfl⟩
  rw [← hR]
  obtain ⟨L, hL⟩ : ∃ L, L = y.items ++ y.order.map Kyo.item := ⟨_, rfl⟩
  have HR : Hid (R = if y.e.grouped = true then (if y.all = true then some (0, 17) else firstE Itm.pos (fun x => if x.agg = 0 ∧ amongB y.group x.col = false then 17 else 0) L) else none) := Lib.hid (by
    rw [hR, hL]; rfl)
  have hLc : y.items.flatMap Itm.c ++ y.order.flatMap (fun k => k.item.c) = L.flatMap Itm.c := by rw [hL, List.flatMap_append, List.flatMap_map]
  have hLl : y.items.length + y.order.length = L.length := by rw [hL]; simp
  obtain ⟨n, hn⟩ : ∃ n, n = L.length := ⟨_, rfl⟩
  have Hn := Lib.hid hn
  have hn2 : n ≤ 2000 := by omega
  rw [hLc, hLl, ← hn] at HA
  generalize y.e.grouped = gd at *
  obtain ⟨am, ham⟩ : ∃ am, am = amongB y.group := ⟨_, rfl⟩
  simp only [← ham] at HM HR
  generalize y.group.length = gn at *
  generalize y.ga = ga at *
  generalize y.gc = gc at *
  generalize y.all = al1 at *
  clear h hL hLc hLl hR hn li lo lg ham hE
  generalize y.c = cq at *
  have G0 := Lib.hid (World.grownBy_alloc w (.cells cq 36) none)
  have B0 := Lib.hid (heap_alloc_new w (.cells cq 36))
  go_enter Tryz.func83, Tryz.ntmps83
  go_wp2_with (refine wpList_load_row rfl 36 (.tmp 1) rfl w.heap.size rfl 36 cq (0, 0) _ B0.out Tryz.underlying36 rfl (by rw [HQ1.out]; exact query_size) ?_)
  refine (HG.out _ G0.out).mono ?_
  rintro e w2 ⟨rfl, hg⟩
  have G2 := Lib.hid (G0.out.trans hg)
  have B2 := Lib.hid (blk_grown hg B0.out)
  clear hg HG B0
  cases gd with
  | false =>
    have HF : Hid (R = none) := Lib.hid (by rw [HR.out, if_neg (by simp)])
    go_wp2_with fail
    go_ret
    exact ⟨by rw [HF.out]; rfl, G2.out⟩
  | true =>
    have HR2 : Hid (R = if al1 = true then some (0, 17) else firstE Itm.pos (fun x => if x.agg = 0 ∧ am x.col = false then 17 else 0) L) := Lib.hid (by rw [HR.out, if_pos rfl])
    have b1 := (cell_of_row _ _ 1 _ _ _ B2.out).trans C1.out
    have cv := (HE.out.keep G2.out).s17.var
    clear HR C1
    cases al1 with
    | true =>
      have HF : Hid (R = some (0, 17)) := Lib.hid (by rw [HR2.out, if_pos rfl])
      clear HR2
      go_wp2_with fail
      go_ret
      exact ⟨by rw [HF.out]; rfl, G2.out⟩
    | false =>
      have HF : Hid (R = firstE Itm.pos (fun x => if x.agg = 0 ∧ am x.col = false then 17 else 0) L) := Lib.hid (by rw [HR2.out, if_neg (by simp)])
      clear HR2 cv
      go_wp2_with (refine wpList_load_row rfl 36 (.tmp 1) rfl w.heap.size rfl 36 cq (0, 0) _ B2.out Tryz.underlying36 rfl (by rw [HQ1.out]; exact query_size) ?_)
      refine (HA.out _ G2.out).mono ?_
      rintro e wn ⟨⟨v, rfl, ho⟩, hg⟩
      obtain ⟨pa, pc, rfl, hw, _⟩ := own_win ho
      have HW := Lib.hid hw
      have GW := Lib.hid (G2.out.trans hg)
      have BW := Lib.hid (blk_grown hg B2.out)
      clear hg ho hw HA b1
      go_wp2_with fail
      go_loopw [16] (fun s16 wr => ∃ (k : Nat), s16 = .int .i64 k ∧ k ≤ n ∧ Hid (firstE Itm.pos (fun x => if x.agg = 0 ∧ am x.col = false then 17 else 0) (L.drop k) = R ∧ wn.grownBy wr none)) (fun s16 _ => n - (intOf s16).toNat)
      case atStart => exact ⟨0, rfl, by omega, Lib.hid ⟨HF.out.symm, grown_reflT _ _⟩⟩
      case round =>
        obtain ⟨k, rfl, hk, Q⟩ := hrel
        by_cases hlt : k < n
        · have hkL : k < L.length := by rw [← Hn.out]; exact hlt
          obtain ⟨b, off, rfl, _, _, hc⟩ := ((win_cells (S := fun _ => True) HW.out (fun _ _ => trivial)).keep (.of Q.out.2)).elem Itm.c_len (by decide) (i := k) hkL
          obtain ⟨x, hx⟩ : ∃ x, x = L.getD k default := ⟨_, rfl⟩
          have hD := firstE_drop Itm.pos (fun x => if x.agg = 0 ∧ am x.col = false then 17 else 0) L k hkL
          rw [Q.out.1, ← hx] at hD
          rw [← hx] at hc
          have HD := Lib.hid hD
          have HG1 := Lib.hid (fun W => aggregate_any x W)
          have HM1 := Lib.hid (HM.out x.col)
          obtain ⟨xa, xc, xp⟩ := x
          have c0 := hc 0 _ rfl
          have c1 := hc 1 _ rfl
          have c2 := hc 2 _ rfl
          rw [Nat.add_zero] at c0
          dsimp only at HM1 HD c0 c1 c2
          replace HG1 : Hid (∀ W, Calls Tryz.prog 110 #[.agg #[.int .i64 (xa : Int), .string xc, .int .i64 (xp : Int)]] W fun e w' => e = .returned (.bool (decide (xa ≠ 0))) ∧ W.grownBy w' none) := HG1
          have G1 := Lib.hid (World.grownBy_alloc wr (.cells #[.int .i64 (xa : Int), .string xc, .int .i64 (xp : Int)] 65) none)
          have BX := Lib.hid (heap_alloc_new wr (.cells #[.int .i64 (xa : Int), .string xc, .int .i64 (xp : Int)] 65))
          clear hc hD hx
          by_cases h0 : xa = 0
          · subst h0
            have HD2 : Hid (R = if am xc = false then some (xp, 17) else firstE Itm.pos (fun x => if x.agg = 0 ∧ am x.col = false then 17 else 0) (L.drop (k + 1))) := Lib.hid (by
              rw [HD.out]
              by_cases h : am xc = false
              · simp [h]
              · simp [h])
            obtain ⟨bm, hbm⟩ : ∃ b, b = am xc := ⟨_, rfl⟩
            rw [← hbm] at HM1 HD2
            rw [show decide (0 ≠ 0) = false from rfl] at HG1
            clear HD hbm
            go_wp2_with fail
            refine (HG1.out _).mono ?_
            rintro e w3 ⟨rfl, hg⟩
            have G3 := Lib.hid (Q.out.2.trans (G1.out.trans hg))
            have BW3 := blk_grown G3.out BW.out
            have e13 := (cell_of_row _ _ 13 _ _ _ BW3).trans C13.out
            have X3 := blk_grown hg BX.out
            have x1 := cell_of_row _ _ 1 _ _ _ X3
            have x2 := cell_of_row _ _ 2 _ _ _ X3
            simp only [List.getElem?_toArray, List.getElem?_cons_zero, List.getElem?_cons_succ] at x1 x2
            clear hg c0 c1 c2 BW3
            have X3 := Lib.hid X3
            go_wp2_with fail
            refine (HM1.out w3 (GW.out.trans G3.out)).mono ?_
            rintro e w5 ⟨rfl, hg⟩
            have G5 := Lib.hid (G3.out.trans hg)
            have x2' := cell_of_row _ _ 2 _ _ _ (blk_grown hg X3.out)
            simp only [List.getElem?_toArray, List.getElem?_cons_zero, List.getElem?_cons_succ] at x2'
            have cv := (HE.out.keep (GW.out.trans G5.out)).s17.var
            clear hg x1 x2 e13
            cases bm with
            | false =>
              have HF2 : Hid (R = some (xp, 17)) := Lib.hid (by rw [HD2.out, if_pos rfl])
              clear HD2
              go_wp2_with fail
              go_ret
              exact ⟨by rw [HF2.out]; rfl, GW.out.trans G5.out⟩
            | true =>
              have HF2 : Hid (R = firstE Itm.pos (fun x => if x.agg = 0 ∧ am x.col = false then 17 else 0) (L.drop (k + 1))) := Lib.hid (by rw [HD2.out, if_neg (by simp)])
              clear HD2
              go_wp2_with fail
              go_roundw
              case rel => exact ⟨k + 1, by go_num, by omega, Lib.hid ⟨HF2.out.symm, G5.out⟩⟩
              case measure => simp [intOf]; omega
          · have HD2 : Hid (R = firstE Itm.pos (fun x => if x.agg = 0 ∧ am x.col = false then 17 else 0) (L.drop (k + 1))) := Lib.hid (by
              rw [HD.out, if_pos (if_neg (fun h => h0 h.1))])
            rw [decide_eq_true h0] at HG1
            clear HD h0
            go_wp2_with fail
            refine (HG1.out _).mono ?_
            rintro e w3 ⟨rfl, hg⟩
            have G3 := Lib.hid (Q.out.2.trans (G1.out.trans hg))
            have BW3 := blk_grown G3.out BW.out
            have e13 := (cell_of_row _ _ 13 _ _ _ BW3).trans C13.out
            have X3 := blk_grown hg BX.out
            have x1 := cell_of_row _ _ 1 _ _ _ X3
            have x2 := cell_of_row _ _ 2 _ _ _ X3
            simp only [List.getElem?_toArray, List.getElem?_cons_zero, List.getElem?_cons_succ] at x1 x2
            clear hg c0 c1 c2 BW3
            have X3 := Lib.hid X3
            go_wp2_with fail
            go_roundw
            case rel => exact ⟨k + 1, by go_num, by omega, Lib.hid ⟨HD2.out.symm, G3.out⟩⟩
            case measure => simp [intOf]; omega
        · obtain rfl : k = n := by omega
          go_wp2_with fail
          go_ret
          have := Q.out.1
          rw [List.drop_of_length_le (by rw [← Hn.out]; exact Nat.le_refl _)] at this
          exact ⟨by rw [← this]; rfl, GW.out.trans Q.out.2⟩
end Go.Proofs.YtjaclmoobfeikaaGreatDoor
namespace Go.Proofs.YtjaclmoobfeikaaGreatDoor
open Go.RowKit

theorem range_row {W : World} {g : Nat} {cs : Array Value} {T : TypeId} (h : W.heap[g]? = some (.cells cs T (0, 0))) : W.rangeAt g 0 cs.toList := fun j u hj => by
  rw [Nat.zero_add, cell_of_row _ _ j _ _ _ h]
  simpa using hj
theorem qm_c0 : ∀ y : Qm, y.c[0]? = some (.slice y.ia y.items.length y.ic)
  | ⟨_, _, _, _, _, .mk .., _, _, _, _, _, _, _⟩ => rfl
set_option maxRecDepth 100000 in
set_option maxHeartbeats 6400000 in
theorem review_anyC (G : Nat) (f : Nat → Addr) (N : ByteArray) (K : Int) (a : Option Addr) (cap : Nat) (cs : List Cl) (y : Qm) (w : World) (h : ColsAt w.heap.size w a cs) (hy : QmS (fun j => j < w.heap.size) w y) (hn : y.cond.n ≤ 1000) (hf : y.cond.e.few) (li : y.items.length ≤ 1000) (lo : y.order.length ≤ 1000) (lg : y.group.length ≤ 1000) (hE : CkEnv G f w) :
    Calls Tryz.prog 46 #[.agg #[.string N, .slice a cs.length cap, .int .i64 K], .agg y.c] w fun e w' => e = .returned (fltV f (reviewE cs y.e)) ∧ w.grownBy w' none := by
  have HI1 := Lib.hid (fun W (hW : w.grownBy W none) => items_any G f N K a cap cs _ y.ia y.ic y.items W ((h.keep hW (by simp)).mono hW.size) (hy.1.1.keep (.of hW)) li (hE.keep hW))
  have HW1 := Lib.hid (fun W (hW : w.grownBy W none) => whereC_any G f N K a cap cs y.cond W ((h.keep hW (by simp)).mono hW.size) ((hy.2.1.keep (.of hW)).mono (fun b _ hb => Nat.lt_of_lt_of_le hb hW.size)) hn hf (hE.keep hW))
  have HG1 := Lib.hid (fun W (hW : w.grownBy W none) => group_any G f N K a cap cs _ y.ga y.gc y.group W ((h.keep hW (by simp)).mono hW.size) (hy.2.2.1.1.keep (.of hW)) lg hy.2.2.1.2 (hE.keep hW))
  have HO1 := Lib.hid (fun W (hW : w.grownBy W none) => ordered_any _ y W (hy.2.2.2.1.keep (.of hW)) lo)
  have HI2 := Lib.hid (fun pa pc W (hW : w.grownBy W none) (hp : CellsS (fun _ => True) W pa ((y.order.map Kyo.item).flatMap Itm.c)) => items_any G f N K a cap cs _ pa pc (y.order.map Kyo.item) W ((h.keep hW (by simp)).mono hW.size) hp (by rw [List.length_map]; exact lo) (hE.keep hW))
  have HP1 := Lib.hid (fun W (hW : w.grownBy W none) => grouping_any G f _ y W (hy.keep (.of hW)) li lo lg (hE.keep hW))
  obtain ⟨R, hR⟩ : ∃ R, R = reviewE cs y.e := ⟨_, rfl⟩
  rw [← hR]
  have HR : Hid (R = match itemsE cs y.items with
    | some e => some e
    | none => match whereE cs y.cond.e with
      | some e => some e
      | none => match groupE cs [] y.group with
        | some e => some e
        | none => match itemsE cs (y.order.map Kyo.item) with
          | some e => some e
          | none => groupingE y.e) := Lib.hid (by rw [hR]; rfl)
  have hf2 : (y.order.map Kyo.item).flatMap Itm.c = y.order.flatMap (fun k => k.item.c) := by rw [List.flatMap_map]
  rw [hf2, List.length_map] at HI2
  have C0 := Lib.hid (qm_c0 y)
  have C13 := Lib.hid (qm_c13 y)
  have HQ1 := Lib.hid y.c_size
  have C3 : Hid (∀ j u, y.cond.c[j]? = some u → y.c[3 + j]? = some u) := Lib.hid (fun j u hj => y.at3 j u hj)
  have HP10 := Lib.hid y.cond.c_len
  unfold Pm.v at HW1
  generalize itemsE cs y.items = R1 at *
  generalize whereE cs y.cond.e = R2 at *
  generalize groupE cs [] y.group = R3 at *
  generalize itemsE cs (y.order.map Kyo.item) = R4 at *
  generalize groupingE y.e = R5 at *
  obtain ⟨m, hm⟩ : ∃ m, m = cs.length := ⟨_, rfl⟩
  rw [← hm] at HI1 HW1 HG1 HI2 ⊢
  clear h hy hn hf li lo lg hE hR hm hf2
  generalize y.items.length = n1 at *
  generalize y.group.length = gn at *
  generalize y.order.length = n6 at *
  generalize y.order.flatMap (fun k : Kyo => k.item.c) = xo at *
  generalize y.ia = ia at *
  generalize y.ic = ic at *
  generalize y.ga = ga at *
  generalize y.gc = gc at *
  generalize y.cond.c = cp at *
  generalize y.c = cq at *
  have G0 := Lib.hid (World.grownBy_alloc w (.cells #[.string N, .slice a m cap, .int .i64 K] 44) none)
  have T0 := Lib.hid (heap_alloc_new w (.cells #[.string N, .slice a m cap, .int .i64 K] 44))
  have G1 := Lib.hid (World.grownBy_alloc (w.alloc (.cells #[.string N, .slice a m cap, .int .i64 K] 44)) (.cells cq 36) none)
  have B1 := heap_alloc_new (w.alloc (.cells #[.string N, .slice a m cap, .int .i64 K] 44)) (.cells cq 36)
  rw [show (w.alloc (.cells #[.string N, .slice a m cap, .int .i64 K] 44)).heap.size = w.heap.size + 1 by simp] at B1
  have B1 := Lib.hid B1
  have T1 := Lib.hid (blk_grown G1.out T0.out)
  have d0 := (cell_of_row _ _ 0 _ _ _ B1.out).trans C0.out
  have t0 := cell_of_row _ _ 0 _ _ _ T1.out
  have t1 := cell_of_row _ _ 1 _ _ _ T1.out
  have t2 := cell_of_row _ _ 2 _ _ _ T1.out
  simp only [List.getElem?_toArray, List.getElem?_cons_zero, List.getElem?_cons_succ] at t0 t1 t2
  go_enter Tryz.func46, Tryz.ntmps46
  go_wp2_with fail
  refine (HI1.out _ (G0.out.trans G1.out)).mono ?_
  rintro e w2 ⟨rfl, hg⟩
  have G2 := Lib.hid ((G0.out.trans G1.out).trans hg)
  have B2 := Lib.hid (blk_grown hg B1.out)
  have T2 := Lib.hid (blk_grown hg T1.out)
  clear hg t0 t1 t2 d0 HI1
  cases R1 with
  | some e =>
    have HF : Hid (R = some e) := HR
    unfold fltV
    clear HR
    go_wp2_with fail
    go_ret
    exact ⟨by rw [HF.out]; first | done | rfl, G2.out⟩
  | none =>
    unfold fltV
    have t0 := cell_of_row _ _ 0 _ _ _ T2.out
    have t1 := cell_of_row _ _ 1 _ _ _ T2.out
    have t2 := cell_of_row _ _ 2 _ _ _ T2.out
    simp only [List.getElem?_toArray, List.getElem?_cons_zero, List.getElem?_cons_succ] at t0 t1 t2
    have RP : Hid (w2.rangeAt (w.heap.size + 1) 3 cp) := Lib.hid (fun j u hj => (cell_of_row _ _ (3 + j) _ _ _ B2.out).trans (C3.out j u hj))
    go_wp2_with (refine wpList_load_mid rfl 33 (.tmp 17) rfl (w.heap.size + 1) 3 rfl cp _ RP.out Tryz.underlying33 rfl (by rw [HP10.out]; exact pred_size) ?_)
    refine (HW1.out _ G2.out).mono ?_
    rintro e w3 ⟨rfl, hg⟩
    have G3 := Lib.hid (G2.out.trans hg)
    have B3 := Lib.hid (blk_grown hg B2.out)
    have T3 := Lib.hid (blk_grown hg T2.out)
    clear hg t0 t1 t2 HW1
    cases R2 with
    | some e =>
      have HF : Hid (R = some e) := HR
      unfold fltV
      clear HR
      go_wp2_with fail
      go_ret
      exact ⟨by rw [HF.out]; first | done | rfl, G3.out⟩
    | none =>
      unfold fltV
      have t0 := cell_of_row _ _ 0 _ _ _ T3.out
      have t1 := cell_of_row _ _ 1 _ _ _ T3.out
      have t2 := cell_of_row _ _ 2 _ _ _ T3.out
      simp only [List.getElem?_toArray, List.getElem?_cons_zero, List.getElem?_cons_succ] at t0 t1 t2
      have d13 := (cell_of_row _ _ 13 _ _ _ B3.out).trans C13.out
      go_wp2_with fail
      refine (HG1.out _ G3.out).mono ?_
      rintro e w4 ⟨rfl, hg⟩
      have G4 := Lib.hid (G3.out.trans hg)
      have B4 := Lib.hid (blk_grown hg B3.out)
      have T4 := Lib.hid (blk_grown hg T3.out)
      clear hg t0 t1 t2 d13 HG1
      cases R3 with
      | some e =>
        have HF : Hid (R = some e) := HR
        unfold fltV
        clear HR
        go_wp2_with fail
        go_ret
        exact ⟨by rw [HF.out]; first | done | rfl, G4.out⟩
      | none =>
        unfold fltV
        have t0 := cell_of_row _ _ 0 _ _ _ T4.out
        have t1 := cell_of_row _ _ 1 _ _ _ T4.out
        have t2 := cell_of_row _ _ 2 _ _ _ T4.out
        simp only [List.getElem?_toArray, List.getElem?_cons_zero, List.getElem?_cons_succ] at t0 t1 t2
        go_wp2_with fail
        refine wp_region_held_drew (S := (fun W => Hid (w4.grownBy W none))) (by kernel_rfl) (Lib.hid (grown_drewT (grown_reflT _ _))) (fun hHeld => ?_)
        refine wpAnyH_take (i := 0) (v := ?vv0) rfl (by kernel_rfl) (by kernel_rfl) (by kernel_rfl) (fun _ _ _ h => h) (Or.inl ⟨by rfl, ?yv0⟩) (by assumption) ?rv0
        case yv0 => (intro w hSw; have h0 := hSw.out.cell t0 (by simp); have h1 := hSw.out.cell t1 (by simp); have h2 := hSw.out.cell t2 (by simp); clear hSw; go_simp; try with_reducible rfl)
        simp only [Act.put, List.getElem_toArray, List.getElem_cons_zero, List.size_toArray, List.length_cons, List.length_nil, Nat.reduceAdd, Array.replicate, List.replicate, List.setIfInBounds_toArray, List.set_cons_zero, List.set_cons_succ]
        refine wpAnyH_take (i := 1) (v := .agg cq) rfl (by kernel_rfl) (by kernel_rfl) (by kernel_rfl) (fun _ _ _ h => h) (yieldsIf_load_mid (by rfl) _ _ rfl (w.heap.size + 1) 0 rfl cq.toList _ (fun w hS => range_row (blk_grown hS.out B4.out)) Tryz.underlying36 rfl (by rw [Array.length_toList, HQ1.out]; exact query_size)) (by assumption) ?_
        simp only [Act.put, List.getElem_toArray, List.getElem_cons_succ, List.getElem_cons_zero, List.setIfInBounds_toArray, List.set_cons_zero, List.set_cons_succ]
        refine wpAnyH_ready (rs := [2]) (by kernel_rfl) (by simp) ?_
        refine AllReadyH.cons rfl (fun K' hK => ?_) AllReadyH.nil
        go_simp
        go_at_call 40
        refine (HO1.out _ (G4.out.trans hHeld.out)).mono ?_
        rintro e w5 ⟨a5, c5, rfl, hw5, hl5, hg⟩
        have W5 := Lib.hid hw5
        have GO : Hid (w4.grownBy w5 none) := Lib.hid (hHeld.out.trans hg)
        clear hg hw5 hl5
        refine hK.out _ _ GO (fun hHeld => ?_)
        clear hK K'
        simp only [List.setIfInBounds_toArray, List.set_cons_zero, List.set_cons_succ]
        refine wpAnyH_ready (rs := [3]) (by kernel_rfl) (by simp) ?_
        refine AllReadyH.cons rfl (fun K' hK => ?_) AllReadyH.nil
        go_simp
        go_at_call 80
        refine (HI2.out a5 c5 _ (G4.out.trans GO.out) (win_cells W5.out (fun _ _ => trivial))).mono ?_
        rintro e w6 ⟨rfl, hg⟩
        have GI : Hid (w4.grownBy w6 none) := Lib.hid (GO.out.trans hg)
        clear hg
        refine hK.out _ _ GI (fun hHeld => ?_)
        clear hK K'
        simp only [List.setIfInBounds_toArray, List.set_cons_zero, List.set_cons_succ]
        refine wpAnyH_take (i := 4) (v := ?vv4) rfl (by kernel_rfl) (by kernel_rfl) (by kernel_rfl) (fun _ _ _ h => h) (Or.inl ⟨by rfl, ?yv4⟩) (by assumption) ?rv4
        case yv4 => (intro w hSw; (try dsimp only at hSw); go_simp; try with_reducible rfl)
        simp only [Act.put, List.getElem_toArray, List.getElem_cons_succ, List.getElem_cons_zero, List.setIfInBounds_toArray, List.set_cons_zero, List.set_cons_succ]
        refine wpAnyH_done (by kernel_rfl) ?_ _
        have G6 := Lib.hid (G4.out.trans GI.out)
        have B6 := Lib.hid (blk_grown GI.out B4.out)
        clear t0 t1 t2
        cases R4 with
        | some e =>
          have HF : Hid (R = some e) := HR
          unfold fltV
          clear HR
          go_wp2_with fail
          go_ret
          exact ⟨by rw [HF.out]; first | done | rfl, G6.out⟩
        | none =>
          have HF : Hid (R = R5) := HR
          clear HR
          rw [show fltV f none = .nilIface from rfl]
          go_wp2_with (refine wpList_load_row rfl 36 (.tmp 3) rfl (w.heap.size + 1) rfl 36 cq (0, 0) _ B6.out Tryz.underlying36 rfl (by rw [HQ1.out]; exact query_size) ?_)
          refine (HP1.out _ G6.out).mono ?_
          rintro e w7 ⟨rfl, hg⟩
          have G7 := Lib.hid (G6.out.trans hg)
          clear hg
          go_wp2_with fail
          go_ret
          exact ⟨by rw [HF.out]; first | done | rfl, G7.out⟩
end Go.Proofs.YtjaclmoobfeikaaGreatDoor
