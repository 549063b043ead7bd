/- The reader's IN. Predicates without their kids: are two the same? Lists of items, of keys: are two the same? -/
import Derived.Test.YtppigamibgefaaaGreatDoorZp23
namespace Go.Proofs.YtppigamibgefaaaGreatDoor
open Go.RowKit

/-- A row of values in a window. -/
theorem win_rw {S : Nat → Prop} {w : World} {a : Ptr} {cap : Nat} {l : List Vl} (h : Win 3 w a cap l.length (l.flatMap vCT)) (hS : ∀ k, bk a k → S k) (hl : l.length ≤ 4294967296) (hs : ∀ x ∈ l, x.s.size ≤ maxLen) : RwS S w a l := by
  refine ⟨hl, hs, ?_⟩
  rcases h.mem with h0 | ⟨g, off, e, hc, _, _⟩
  · have := h.le
    exact .inl (List.eq_nil_of_length_eq_zero (by omega))
  · refine .inr ⟨g, off, e, hS g (by rw [e, bk_some]), h.lt g (by rw [e, bk_some]), fun i hi => ?_⟩
    obtain ⟨k0, k1, k2⟩ := vCT_at l i hi
    exact ⟨hc _ _ k0, hc _ _ k1, hc _ _ k2⟩
theorem textRes_size (o : Option (List UInt8)) : ∃ k n t c, textRes o = .tuple #[.agg #[.int .i64 k, .int .i64 n, .string t], .int .i64 c] ∧ t.size ≤ 60 := by
  unfold textRes
  cases o with
  | none => exact ⟨_, _, _, _, rfl, Nat.zero_le 60⟩
  | some l =>
    simp only
    split
    · rename_i h
      exact ⟨_, _, _, _, rfl, by show l.toArray.size ≤ 60; simpa using h⟩
    · exact ⟨_, _, _, _, rfl, Nat.zero_le 60⟩
theorem intRes_size (l : List UInt8) : ∃ k n t c, intRes l = .tuple #[.agg #[.int .i64 k, .int .i64 n, .string t], .int .i64 c] ∧ t.size ≤ 60 := by
  unfold intRes
  split
  · split <;> exact ⟨_, _, _, _, rfl, Nat.zero_le 60⟩
  · exact ⟨_, _, _, _, rfl, Nat.zero_le 60⟩
theorem readV_size (l : List UInt8) : ∃ k n t c, readV l = .tuple #[.agg #[.int .i64 k, .int .i64 n, .string t], .int .i64 c] ∧ t.size ≤ 60 := by
  unfold readV
  split
  · exact ⟨_, _, _, _, rfl, Nat.zero_le 60⟩
  · split
    · exact ⟨_, _, _, _, rfl, Nat.zero_le 60⟩
    · split
      · exact ⟨_, _, _, _, rfl, Nat.zero_le 60⟩
      · match l with
        | [] => exact intRes_size []
        | c :: r =>
          simp only
          split
          · exact textRes_size _
          · exact intRes_size _
theorem litV_size (t : ByteArray) : (litV t).s.size ≤ 60 := by
  obtain ⟨k, n, x, c, h, hs⟩ := readV_size t.data.toList
  unfold litV
  rw [h]
  exact hs
theorem lit_size (s : RS) : s.literal.2.s.size ≤ 60 := by
  unfold RS.literal
  split
  · exact litV_size _
  · exact Nat.zero_le 60
/-- The cells of a predicate IN. -/
def inC (col : ByteArray) (pos : Nat) : Array Value := #[.int .i64 5, .string col, .int .i64 0, .int .i64 0, .int .i64 0, .string ⟨#[]⟩, .string ⟨#[]⟩, .slice Option.none 0 0, .slice Option.none 0 0, .int .i64 pos]
def asC (col : ByteArray) (pos : Nat) : Array Value := #[.int .i64 0, .string col, .int .i64 0, .int .i64 0, .int .i64 0, .string ⟨#[]⟩, .string ⟨#[]⟩, .slice Option.none 0 0, .slice Option.none 0 0, .int .i64 pos]
theorem only_grownR {w w1 w2 : World} {R : Nat} {M : Nat → Prop} (h : w.grownBy w1 (some R)) (ho : Only M w1 w2) (hM : ∀ j, M j → j = R ∨ w.heap.size ≤ j) : w.grownBy w2 (some R) :=
  ⟨ho.os.trans h.os, ho.tape.trans h.tape, ho.output.trans h.output, Nat.le_trans h.size ho.size, fun i hi hne => (ho.block i (Nat.lt_of_lt_of_le hi h.size) (fun e => by
    rcases hM i e with e | e
    · exact hne (by rw [e])
    · omega)).trans (h.block i hi hne)⟩
theorem alloc3 (w : World) (o1 o2 o3 : Obj) : (((w.alloc o1).alloc o2).alloc o3).heap[w.heap.size]? = some o1 ∧ (((w.alloc o1).alloc o2).alloc o3).heap[w.heap.size + 1]? = some o2 ∧ (((w.alloc o1).alloc o2).alloc o3).heap[w.heap.size + 1 + 1]? = some o3 ∧ w.grownBy (((w.alloc o1).alloc o2).alloc o3) none ∧ (((w.alloc o1).alloc o2).alloc o3).heap.size = w.heap.size + 3 := by
  have s1 : (w.alloc o1).heap.size = w.heap.size + 1 := by simp
  have s2 : ((w.alloc o1).alloc o2).heap.size = w.heap.size + 1 + 1 := by simp
  have e1 := heap_alloc_new w o1
  have e2 := heap_alloc_new (w.alloc o1) o2
  have e3 := heap_alloc_new ((w.alloc o1).alloc o2) o3
  rw [s1] at e2
  rw [s2] at e3
  exact ⟨blk_grown (World.grownBy_alloc _ o3 none) (blk_grown (World.grownBy_alloc _ o2 none) e1), blk_grown (World.grownBy_alloc _ o3 none) e2, e3, ((World.grownBy_alloc w o1 none).trans (World.grownBy_alloc _ o2 none)).trans (World.grownBy_alloc _ o3 none), by simp⟩
set_option maxRecDepth 100000 in
set_option maxHeartbeats 3200000 in
theorem pin_any (R b deep : Nat) (s : RS) (col : ByteArray) (pos : Nat) (w : World) (h : RdA R b deep s w) (hc : s.comes bIn = true) :
    Calls Tryz.prog 191 #[.pointer (some ⟨R, 0, none⟩), .agg (asC col pos)] w (PrGo R b deep (amongL col pos s) w) := by
  have HS := Lib.hid h
  have HT := Lib.hid (fun W (hW : w.grownBy W none) => took_yes R b deep s bIn W (h.keep hW) (by decide) hc)
  have HA := Lib.hid (show amongL col pos s = (((listF 12 RS.literal 13 (s.pass.need bOpen) []).1.need bShut), .mk 5 col 0 ⟨0, 0, ⟨#[]⟩⟩ ⟨#[]⟩ (listF 12 RS.literal 13 (s.pass.need bOpen) []).2 [] pos) from by unfold amongL; rw [if_pos hc])
  have HO := Lib.hid (fun st W (hW : RdA R b deep st W) => need_any R b deep st bOpen W hW (by decide))
  have HZ := Lib.hid (fun st W (hW : RdA R b deep st W) => need_any R b deep st bShut W hW (by decide))
  have hR := h.lt'
  have hb := h.lt
  have hEr : 12 < w.heap.size := by obtain ⟨tp, p, far⟩ := h.far; exact World.block_lt_of_cell? w _ far
  unfold asC
  clear h hc
  go_enter Tryz.func191, Tryz.ntmps191
  obtain ⟨e0, e1, e2, eg, es⟩ := alloc3 w (.cells #[.pointer (some ⟨R, 0, none⟩)] 167) (.cells (asC col pos) 31) (.cells z10 31)
  have E := Lib.hid (And.intro e0 (And.intro e1 (And.intro e2 (And.intro eg es))))
  clear e0 e1 e2 eg es
  go_wp2_with fail
  refine (HT.out _ E.out.2.2.2.1).mono ?_
  rintro e w2 ⟨rfl, hr⟩
  have x0 := hr.blk E.out.1 (by omega)
  have x1 := hr.blk E.out.2.1 (by omega)
  have x2 := Lib.hid (hr.blk E.out.2.2.1 (by omega))
  have X0 := Lib.hid x0
  have X1 := Lib.hid x1
  have R2 := Lib.hid (show RdGo R b deep s.pass w w2 from ⟨hr.1, E.out.2.2.2.1.trans' hr.2⟩)
  have l2 : w.heap.size + 3 ≤ w2.heap.size := by have := E.out.2.2.2.2; have := hr.2.size; omega
  have c0 := cell_of_row _ _ 0 _ _ _ x0
  have d0 := cell_of_row _ _ 0 _ _ _ x1
  have f0 := frozen_of_row _ _ 0 _ _ x1
  simp [asC] at c0 d0
  clear hr x0 x1
  go_wp2_with fail
  have R3 := Lib.hid (RdGo.stored HS.out R2.out (Nat.le_succ w.heap.size) (grown_cellR w2 (w.heap.size + 1) 0 (.int .i64 5)))
  have Y0 := Lib.hid (blk_set (b := w.heap.size + 1) (i := 0) (u := .int .i64 5) X0.out (by omega))
  have Y2 := Lib.hid (blk_set (b := w.heap.size + 1) (i := 0) (u := .int .i64 5) x2.out (by omega))
  have Y1 := Lib.hid (show (w2.setCell ⟨w.heap.size + 1, 0, none⟩ (.int .i64 5)).heap[w.heap.size + 1]? = some (.cells (inC col pos) 31 (0, 0)) from by
    have := heap_setCell_same w2 (w.heap.size + 1) 0 _ _ (.int .i64 5) X1.out
    simpa [asC, inC] using this)
  have ls : (w2.setCell ⟨w.heap.size + 1, 0, none⟩ (.int .i64 5)).heap.size = w2.heap.size := by simp [World.setCell]
  generalize w2.setCell ⟨w.heap.size + 1, 0, none⟩ (.int .i64 5) = w3 at *
  refine (HO.out _ _ R3.out.1).mono ?_
  rintro e w4 ⟨rfl, hr⟩
  have z0 := hr.blk Y0.out (by omega)
  have z1 := hr.blk Y1.out (by omega)
  have z2 := Lib.hid (hr.blk Y2.out (by omega))
  have R4 := Lib.hid (R3.out.then hr)
  have l4 : w.heap.size + 3 ≤ w4.heap.size := by have := hr.2.size; omega
  have HJ0 : LsJ 3 w4 (w.heap.size + 1) 7 w.heap.size R (inC col pos) 31 w4 0 [] := ⟨⟨Option.none, 0, z1, Win.nil _ _, fun k hk => by simp [bk] at hk⟩, z0, Only.refl _ _⟩
  have c4 := cell_of_row _ _ 0 _ _ _ z0
  simp at c4
  have HL := Lib.hid (plist_any R b deep 12 205 (.pointer (some ⟨w.heap.size + 1, 0, none⟩)) (.pointer (some ⟨w.heap.size, 0, none⟩)) RS.literal (fun W acc => LsJ 3 w4 (w.heap.size + 1) 7 w.heap.size R (inC col pos) 31 W acc.length (acc.flatMap vCT) ∧ ∀ v ∈ acc, v.s.size ≤ maxLen) (s.pass.need bOpen) w4 R4.out.1 ⟨HJ0, by simp⟩ (by decide) (by decide)
    (fun W W' acc hj hg => ⟨hj.1.row hg (by omega) (by omega) (by omega), hj.2⟩) (fun args W => Tryz.call205 args W)
    (fun W st acc hR' hj hl => (pval1_any R b deep (w.heap.size + 1) w.heap.size st (inC col pos) 31 w4 W acc hR' hj.1 (show 7 < 10 by decide) (by omega) (by omega) (by omega) (by omega) (by omega) (by omega) (by omega) (by omega) (by omega)).mono fun e w' ⟨he, h1, h2⟩ => ⟨he, h1, h2, fun v hv => by
      rw [List.mem_append, List.mem_singleton] at hv
      rcases hv with hv | rfl
      · exact hj.2 v hv
      · exact Nat.le_trans (lit_size st) (by decide)⟩))
  clear hr z0 z1 c0 d0 f0 HJ0
  go_wp2_with fail
  refine HL.out.mono ?_
  rintro e w5 ⟨rfl, hRA, hJ5, hsz⟩
  have hcnt := listF_len 12 RS.literal 13 (s.pass.need bOpen) [] (by decide)
  have HA2 := HA.out
  simp only [show 12 + 1 = 13 from rfl] at hRA hJ5 hsz
  generalize listF 12 RS.literal 13 (s.pass.need bOpen) [] = r at *
  obtain ⟨s5, acc⟩ := r
  simp only at hRA hJ5 hsz hcnt HA2
  obtain ⟨a, cap, hb5, hw5, hk5⟩ := hJ5.blk
  have c5 := cell_of_row _ _ 0 _ _ _ hJ5.rblk
  simp at c5
  have R5 := Lib.hid (show RdGo R b deep s5 w w5 from ⟨hRA, only_grownR R4.out.2 hJ5.only (fun j hj => hj.imp id (fun e => by omega))⟩)
  obtain ⟨y, hy⟩ : ∃ y : Pm, y = .mk 5 col 0 ⟨0, 0, ⟨#[]⟩⟩ ⟨#[]⟩ a cap acc Option.none 0 [] pos := ⟨_, rfl⟩
  have hyc : (inC col pos).setIfInBounds 7 (.slice a acc.length cap) = y.c.toArray := by rw [hy]; rfl
  rw [hyc] at hb5
  have HB5 := Lib.hid hb5
  have z5 := Lib.hid ((hJ5.only.block (w.heap.size + 1 + 1) (by omega) (fun e => by omega)).trans z2.out)
  have HSm := Lib.hid (show PmS (fun j => w4.heap.size ≤ j) w5 y from by
    rw [hy]
    exact ⟨win_rw hw5 hk5 (by omega) hsz, hw5.le, .inl rfl, Nat.le_refl _, trivial⟩)
  have hbl5 := (Array.getElem?_eq_some_iff.1 hb5).1
  have HY := Lib.hid hy
  have HZ5 := Lib.hid (HZ.out _ _ hRA)
  clear hRA hJ5 hsz hcnt hb5 hw5 hk5 hyc hy c4 HL
  go_wp2_with fail
  refine HZ5.out.mono ?_
  rintro e w6 ⟨rfl, hr⟩
  have HB6 := Lib.hid (hr.blk HB5.out (by omega))
  have z6 := Lib.hid (hr.blk z5.out (by omega))
  have R6 := Lib.hid (R5.out.then hr)
  have HS6 := Lib.hid (HSm.out.row hr.2 (by omega))
  clear hr c5
  go_wp2_with (first
    | (refine wpList_load_row rfl 31 (.tmp 3) rfl (w.heap.size + 1) rfl 31 y.c.toArray (0, 0) _ HB6.out Tryz.underlying31 rfl (by rw [Pm.c_size]; exact pred_size) ?_)
    | (refine wpList_store_row rfl 31 (.tmp 4) (.tmp 17) rfl (w.heap.size + 1 + 1) y.c.toArray rfl rfl 31 z10 z6.out (by rw [Pm.c_size]; exact pred_size) (by rw [Pm.c_size]; rfl) y.c_all ?_))
  rw [HA2]
  obtain ⟨hp, hb⟩ := PrGo.ret (r := (s5.need bShut, .mk 5 col 0 ⟨0, 0, ⟨#[]⟩⟩ ⟨#[]⟩ acc [] pos)) HS.out y (by rw [HY.out]; rfl) (HS6.out.mono (fun j _ hj => ⟨by omega, by omega⟩)) R6.out (Nat.le_trans (Nat.le_succ _) (Nat.le_succ _)) z6.out
  exact bodyPost_ret (results_pm rfl _ _ (w.heap.size + 1 + 1) _ rfl hb) rfl hp
end Go.Proofs.YtppigamibgefaaaGreatDoor
namespace Go.Proofs.YtppigamibgefaaaGreatDoor
open Go.RowKit

abbrev cPd (k : Nat) (c : ByteArray) (r : Nat) (vk vn : Int) (vs o : ByteArray) (la : Ptr) (ll lc : Nat) (ka : Ptr) (kl kc p : Nat) : Array Value := #[.int .i64 k, .string c, .int .i64 r, .int .i64 vk, .int .i64 vn, .string vs, .string o, .slice la ll lc, .slice ka kl kc, .int .i64 p]
set_option maxHeartbeats 3200000 in
theorem alike_any (S : Nat → Prop) (x y : Pm) (w : World) (hx : PmS S w x) (hy : PmS S w y) : Calls Tryz.prog 40 #[.agg x.c.toArray, .agg y.c.toArray] w fun e w' => BoolIs (Pm.like false x y) e ∧ w.grownBy w' none := by
  obtain ⟨k, c, r, ⟨vk, vn, vs⟩, o, la, lc, l, ka, kc, ks, p⟩ := x
  obtain ⟨k', c', r', ⟨vk', vn', vs'⟩, o', la', lc', l', ka', kc', ks', p'⟩ := y
  have HE := Lib.hid (fun (W : World) (hW : w.grownBy W none) => equalVs_any la la' lc lc' l l' W ((hx.keep (.of hW)).1.row) ((hy.keep (.of hW)).1.row))
  show Calls Tryz.prog 40 #[.agg (cPd k c r vk vn vs o la l.length lc ka ks.length kc p), .agg (cPd k' c' r' vk' vn' vs' o' la' l'.length lc' ka' ks'.length kc' p')] w _
  have HL : Hid (∀ b : Bool, (b = true ↔ k = k' ∧ c = c' ∧ r = r' ∧ vk = vk' ∧ vn = vn' ∧ vs = vs' ∧ o = o' ∧ l = l') → (b = true ↔ Pm.like false (.mk k c r ⟨vk, vn, vs⟩ o la lc l ka kc ks p) (.mk k' c' r' ⟨vk', vn', vs'⟩ o' la' lc' l' ka' kc' ks' p'))) := Lib.hid (fun b h => by
    rw [h]
    simp only [Pm.like, Vl.mk.injEq, Bool.false_eq_true, false_implies, and_true, and_assoc])
  generalize Pm.like false (.mk k c r ⟨vk, vn, vs⟩ o la lc l ka kc ks p) (.mk k' c' r' ⟨vk', vn', vs'⟩ o' la' lc' l' ka' kc' ks' p') = LK at *
  have HR : Hid ((rowsOrd l l' == 0) = true ↔ l = l') := Lib.hid (by rw [beq_iff_eq]; exact ro_zero l l')
  generalize (rowsOrd l l' == 0) = rb at *
  obtain ⟨EL, hEL⟩ : ∃ P : Prop, P = (l = l') := ⟨_, rfl⟩
  rw [← hEL] at HL HR
  generalize l.length = n1 at *
  generalize l'.length = n2 at *
  generalize ks.length = n3 at *
  generalize ks'.length = n4 at *
  clear hx hy hEL
  have B1 := heap_alloc_new w (.cells (cPd k c r vk vn vs o la n1 lc ka n3 kc p) 31)
  have B2 := heap_alloc_new (w.alloc (.cells (cPd k c r vk vn vs o la n1 lc ka n3 kc p) 31)) (.cells (cPd k' c' r' vk' vn' vs' o' la' n2 lc' ka' n4 kc' p') 31)
  have hs1 : (w.alloc (.cells (cPd k c r vk vn vs o la n1 lc ka n3 kc p) 31)).heap.size = w.heap.size + 1 := by simp
  rw [hs1] at B2
  have g1 := World.grownBy_alloc (w.alloc (.cells (cPd k c r vk vn vs o la n1 lc ka n3 kc p) 31)) (.cells (cPd k' c' r' vk' vn' vs' o' la' n2 lc' ka' n4 kc' p') 31) none
  have K0 := Lib.hid ((World.grownBy_alloc w (.cells (cPd k c r vk vn vs o la n1 lc ka n3 kc p) 31) none).trans g1)
  obtain ⟨b0, b1, b2, b3, b4, b5, b6, b7, _, _⟩ := cells10 (blk_grown g1 B1)
  obtain ⟨d0, d1, d2, d3, d4, d5, d6, d7, _, _⟩ := cells10 B2
  unfold cPd at *
  clear B1 B2 g1 hs1
  by_cases h0 : k = k'
  · subst h0
    by_cases h1 : c = c'
    · subst h1
      by_cases h2 : r = r'
      · subst h2
        by_cases h3 : vk = vk'
        · subst h3
          by_cases h4 : vn = vn'
          · subst h4
            by_cases h5 : vs = vs'
            · subst h5
              by_cases h6 : o = o'
              · subst h6
                go_enter Tryz.func40, Tryz.ntmps40
                go_wp2_with fail
                refine (HE.out _ K0.out).mono ?_
                rintro e w2 ⟨rfl, hg⟩
                have K2 := Lib.hid (K0.out.trans (grown_belowT hg none))
                clear hg
                go_wp2_with fail
                go_ret
                exact ⟨⟨rb, rfl, HL.out _ (by rw [HR.out]; simp)⟩, K2.out⟩
              · have e6 := str_ne h6
                have HN := Lib.hid h6
                clear h6
                go_enter Tryz.func40, Tryz.ntmps40
                go_wp2_with fail
                go_ret
                exact ⟨⟨false, rfl, HL.out _ (by simp [HN.out])⟩, K0.out⟩
            · have e5 := str_ne h5
              have HN := Lib.hid h5
              clear h5
              go_enter Tryz.func40, Tryz.ntmps40
              go_wp2_with fail
              go_ret
              exact ⟨⟨false, rfl, HL.out _ (by simp [HN.out])⟩, K0.out⟩
          · have e4 := int_eqf h4
            have HN := Lib.hid h4
            clear h4
            go_enter Tryz.func40, Tryz.ntmps40
            go_wp2_with fail
            go_ret
            exact ⟨⟨false, rfl, HL.out _ (by simp [HN.out])⟩, K0.out⟩
        · have e3 := int_eqf h3
          have HN := Lib.hid h3
          clear h3
          go_enter Tryz.func40, Tryz.ntmps40
          go_wp2_with fail
          go_ret
          exact ⟨⟨false, rfl, HL.out _ (by simp [HN.out])⟩, K0.out⟩
      · have e2 := nat_eqf h2
        have HN := Lib.hid h2
        clear h2
        go_enter Tryz.func40, Tryz.ntmps40
        go_wp2_with fail
        go_ret
        exact ⟨⟨false, rfl, HL.out _ (by simp [HN.out])⟩, K0.out⟩
    · have e1 := str_ne h1
      have HN := Lib.hid h1
      clear h1
      go_enter Tryz.func40, Tryz.ntmps40
      go_wp2_with fail
      go_ret
      exact ⟨⟨false, rfl, HL.out _ (by simp [HN.out])⟩, K0.out⟩
  · have e0 := nat_eqf h0
    have HN := Lib.hid h0
    clear h0
    go_enter Tryz.func40, Tryz.ntmps40
    go_wp2_with fail
    go_ret
    exact ⟨⟨false, rfl, HL.out _ (by simp [HN.out])⟩, K0.out⟩
end Go.Proofs.YtppigamibgefaaaGreatDoor
namespace Go.Proofs.YtppigamibgefaaaGreatDoor
open Go.RowKit

theorem flat_len {α : Type} (c : α → List Value) (n : Nat) (hc : ∀ x, (c x).length = n) (l : List α) : (l.flatMap c).length = l.length * n := by
  induction l with
  | nil => simp
  | cons x l ih => rw [List.flatMap_cons, List.length_append, ih, hc, List.length_cons, Nat.add_mul, Nat.one_mul, Nat.add_comm]
theorem flat_at {α : Type} [Inhabited α] (c : α → List Value) (n : Nat) (hc : ∀ x, (c x).length = n) (l : List α) : ∀ i, i < l.length → ∀ j u, (c (l.getD i default))[j]? = some u → (l.flatMap c)[i * n + j]? = some u := by
  induction l with
  | nil => intro i hi; simp at hi
  | cons x l ih =>
    intro i hi j u hj
    rw [List.flatMap_cons]
    cases i with
    | zero =>
      have hlt : j < (c x).length := (List.getElem?_eq_some_iff.1 hj).1
      rw [List.getElem?_append_left (by omega), Nat.zero_mul, Nat.zero_add]
      exact hj
    | succ i =>
      rw [List.getElem?_append_right (by rw [hc, Nat.add_mul]; omega), hc, show (i + 1) * n + j - n = i * n + j by rw [Nat.add_mul]; omega]
      exact ih i (by simpa using hi) j u hj
theorem CellsS.elem {α : Type} [Inhabited α] {S : Nat → Prop} {w : World} {a : Ptr} {l : List α} {c : α → List Value} {n : Nat} (hc : ∀ x, (c x).length = n) (hn : 0 < n) (h : CellsS S w a (l.flatMap c)) {i : Nat} (hi : i < l.length) :
    ∃ b off, a = some ⟨b, off, Option.none⟩ ∧ S b ∧ b < w.heap.size ∧ ∀ j u, (c (l.getD i default))[j]? = some u → w.cell? ⟨b, off + i * n + j, Option.none⟩ = some u := by
  rcases h with h | ⟨b, off, e, hS, hlt, hcs⟩
  · have h1 := congrArg List.length h
    rw [flat_len c n hc, List.length_nil] at h1
    have := Nat.mul_pos (show 0 < l.length by omega) hn
    omega
  · exact ⟨b, off, e, hS, hlt, fun j u hj => by rw [Nat.add_assoc]; exact hcs _ _ (flat_at c n hc l i hi j u hj)⟩
theorem Itm.c_len (x : Itm) : x.c.length = 3 := rfl
theorem Kyo.c_len (x : Kyo) : x.c.length = 4 := rfl
set_option maxHeartbeats 3200000 in
theorem eqfItm_any (S : Nat → Prop) (a a' : Ptr) (cap cap' : Nat) (l m : List Itm) (w : World) (h : CellsS S w a (l.flatMap Itm.c)) (h' : CellsS S w a' (m.flatMap Itm.c)) (hl : l.length ≤ 1000000) :
    Calls Tryz.prog 35 #[.slice a l.length cap, .slice a' m.length cap', .func (.func 36) #[] #[]] w fun e w' => BoolIs (l.length = m.length ∧ ∀ i, i < l.length → Itm.like (l.getD i default) (m.getD i default)) e ∧ w.grownBy w' none := by
  by_cases hll : l.length = m.length
  · have H := Lib.hid h
    have H' := Lib.hid h'
    have HE := Lib.hid (fun (x y : Itm) (W : World) => sameItem_any x y W)
    have HL := Lib.hid hll
    rw [← hll]
    obtain ⟨n, hn⟩ : ∃ n, n = l.length := ⟨_, rfl⟩
    have Hn := Lib.hid hn
    rw [← hn] at hl ⊢
    clear h h' hll hn
    go_enter Tryz.func35, Tryz.ntmps35
    go_wp2_with fail
    go_loopw [17] (fun i wr => ∃ (k : Nat), i = .int .i64 k ∧ k ≤ n ∧ Hid (∀ j, j < k → Itm.like (l.getD j default) (m.getD j default)) ∧ Hid (w.grownBy wr none)) (fun i _ => n - (intOf i).toNat)
    case atStart => exact ⟨0, rfl, by omega, Lib.hid (fun i hi => by omega), Lib.hid (grown_reflX _ _)⟩
    case round =>
      obtain ⟨k, rfl, hk, E, K⟩ := hrel
      by_cases hlt : k < n
      · obtain ⟨b, off, rfl, _, hb, hc⟩ := (H.out.keep (.of K.out)).elem Itm.c_len (by decide) (i := k) (by rw [← Hn.out]; exact hlt)
        obtain ⟨b', off', rfl, _, hb', hc'⟩ := (H'.out.keep (.of K.out)).elem Itm.c_len (by decide) (i := k) (by rw [← HL.out, ← Hn.out]; exact hlt)
        obtain ⟨x, hx⟩ : ∃ x, x = l.getD k default := ⟨_, rfl⟩
        obtain ⟨y, hy⟩ : ∃ y, y = m.getD k default := ⟨_, rfl⟩
        rw [← hx] at hc
        rw [← hy] at hc'
        have Hx := Lib.hid hx
        have Hy := Lib.hid hy
        have HC1 := Lib.hid (HE.out x y)
        clear hx hy
        obtain ⟨xa, xc, xp⟩ := x
        obtain ⟨ya, yc, yp⟩ := y
        have c0 := hc 0 _ rfl
        have d0 := hc' 0 _ rfl
        have c1 := hc 1 _ rfl
        have d1 := hc' 1 _ rfl
        have c2 := hc 2 _ rfl
        have d2 := hc' 2 _ rfl
        clear hc hc'
        rw [Nat.add_zero] at c0 d0
        have HC1 : Hid (∀ W, Calls Tryz.prog 36 #[.agg #[.int .i64 xa, .string xc, .int .i64 xp], .agg #[.int .i64 ya, .string yc, .int .i64 yp]] W fun e w' => BoolIs (Itm.like ⟨xa, xc, xp⟩ ⟨ya, yc, yp⟩) e ∧ W.grownBy w' none) := HC1
        have Hxy : Hid (Itm.like ⟨xa, xc, xp⟩ ⟨ya, yc, yp⟩ ↔ Itm.like (l.getD k default) (m.getD k default)) := Lib.hid (by rw [← Hx.out, ← Hy.out])
        clear Hx Hy
        generalize Itm.like ⟨xa, xc, xp⟩ ⟨ya, yc, yp⟩ = LK at *
        have K1 := Lib.hid (K.out.trans ((World.grownBy_alloc wr (.cells #[.int .i64 xa, .string xc, .int .i64 xp] 81) none).trans (World.grownBy_alloc _ (.cells #[.int .i64 ya, .string yc, .int .i64 yp] 81) none)))
        go_wp2_with fail
        refine (HC1.out _).mono ?_
        rintro e w2 ⟨⟨r, rfl, hr⟩, hg⟩
        have K2 := Lib.hid (K1.out.trans hg)
        have HR := Lib.hid hr
        clear hg hr
        cases r with
        | true =>
          have E2 : Hid (∀ j, j < k + 1 → Itm.like (l.getD j default) (m.getD j default)) := Lib.hid fun j hj => by
            by_cases e : j = k
            · rw [e]; exact Hxy.out.1 (HR.out.1 rfl)
            · exact E.out j (by omega)
          go_wp2_with fail
          go_roundw
          case rel => exact ⟨k + 1, by go_num, by omega, E2, K2⟩
          case measure => simp [intOf]; omega
        | false =>
          go_wp2_with fail
          go_ret
          exact ⟨⟨false, rfl, by
            constructor
            · intro h; cases h
            · intro h; exact HR.out.2 (Hxy.out.2 (h.2 k hlt))⟩, K2.out⟩
      · obtain rfl : k = n := by omega
        go_wp2_with fail
        go_ret
        exact ⟨⟨true, rfl, by
          constructor
          · intro _; exact ⟨by first | trivial | rfl, E.out⟩
          · intro _; rfl⟩, K.out⟩
  · have hd : ((l.length : Int) != (m.length : Int)) = true := by rw [bne_iff_ne]; omega
    have HN := Lib.hid hll
    clear h h' hll
    generalize l.length = n1 at *
    generalize m.length = n2 at *
    go_enter Tryz.func35, Tryz.ntmps35
    go_wp2_with fail
    go_ret
    exact ⟨⟨false, rfl, by simp [HN.out]⟩, grown_reflX _ _⟩
set_option maxHeartbeats 3200000 in
theorem eqfKyo_any (S : Nat → Prop) (a a' : Ptr) (cap cap' : Nat) (l m : List Kyo) (w : World) (h : CellsS S w a (l.flatMap Kyo.c)) (h' : CellsS S w a' (m.flatMap Kyo.c)) (hl : l.length ≤ 1000000) :
    Calls Tryz.prog 37 #[.slice a l.length cap, .slice a' m.length cap', .func (.func 38) #[] #[]] w fun e w' => BoolIs (l.length = m.length ∧ ∀ i, i < l.length → Kyo.like (l.getD i default) (m.getD i default)) e ∧ w.grownBy w' none := by
  by_cases hll : l.length = m.length
  · have H := Lib.hid h
    have H' := Lib.hid h'
    have HE := Lib.hid (fun (x y : Kyo) (W : World) => sameKey_any x y W)
    have HL := Lib.hid hll
    rw [← hll]
    obtain ⟨n, hn⟩ : ∃ n, n = l.length := ⟨_, rfl⟩
    have Hn := Lib.hid hn
    rw [← hn] at hl ⊢
    clear h h' hll hn
    go_enter Tryz.func37, Tryz.ntmps37
    go_wp2_with fail
    go_loopw [17] (fun i wr => ∃ (k : Nat), i = .int .i64 k ∧ k ≤ n ∧ Hid (∀ j, j < k → Kyo.like (l.getD j default) (m.getD j default)) ∧ Hid (w.grownBy wr none)) (fun i _ => n - (intOf i).toNat)
    case atStart => exact ⟨0, rfl, by omega, Lib.hid (fun i hi => by omega), Lib.hid (grown_reflX _ _)⟩
    case round =>
      obtain ⟨k, rfl, hk, E, K⟩ := hrel
      by_cases hlt : k < n
      · obtain ⟨b, off, rfl, _, hb, hc⟩ := (H.out.keep (.of K.out)).elem Kyo.c_len (by decide) (i := k) (by rw [← Hn.out]; exact hlt)
        obtain ⟨b', off', rfl, _, hb', hc'⟩ := (H'.out.keep (.of K.out)).elem Kyo.c_len (by decide) (i := k) (by rw [← HL.out, ← Hn.out]; exact hlt)
        obtain ⟨x, hx⟩ : ∃ x, x = l.getD k default := ⟨_, rfl⟩
        obtain ⟨y, hy⟩ : ∃ y, y = m.getD k default := ⟨_, rfl⟩
        rw [← hx] at hc
        rw [← hy] at hc'
        have Hx := Lib.hid hx
        have Hy := Lib.hid hy
        have HC1 := Lib.hid (HE.out x y)
        clear hx hy
        obtain ⟨⟨xa, xc, xp⟩, xd⟩ := x
        obtain ⟨⟨ya, yc, yp⟩, yd⟩ := y
        have c0 := hc 0 _ rfl
        have d0 := hc' 0 _ rfl
        have c1 := hc 1 _ rfl
        have d1 := hc' 1 _ rfl
        have c2 := hc 2 _ rfl
        have d2 := hc' 2 _ rfl
        have c3 := hc 3 _ rfl
        have d3 := hc' 3 _ rfl
        clear hc hc'
        rw [Nat.add_zero] at c0 d0
        have HC1 : Hid (∀ W, Calls Tryz.prog 38 #[.agg #[.int .i64 xa, .string xc, .int .i64 xp, .bool xd], .agg #[.int .i64 ya, .string yc, .int .i64 yp, .bool yd]] W fun e w' => BoolIs (Kyo.like ⟨⟨xa, xc, xp⟩, xd⟩ ⟨⟨ya, yc, yp⟩, yd⟩) e ∧ W.grownBy w' none) := HC1
        have Hxy : Hid (Kyo.like ⟨⟨xa, xc, xp⟩, xd⟩ ⟨⟨ya, yc, yp⟩, yd⟩ ↔ Kyo.like (l.getD k default) (m.getD k default)) := Lib.hid (by rw [← Hx.out, ← Hy.out])
        clear Hx Hy
        generalize Kyo.like ⟨⟨xa, xc, xp⟩, xd⟩ ⟨⟨ya, yc, yp⟩, yd⟩ = LK at *
        have K1 := Lib.hid (K.out.trans ((World.grownBy_alloc wr (.cells #[.int .i64 xa, .string xc, .int .i64 xp, .bool xd] 94) none).trans (World.grownBy_alloc _ (.cells #[.int .i64 ya, .string yc, .int .i64 yp, .bool yd] 94) none)))
        go_wp2_with fail
        refine (HC1.out _).mono ?_
        rintro e w2 ⟨⟨r, rfl, hr⟩, hg⟩
        have K2 := Lib.hid (K1.out.trans hg)
        have HR := Lib.hid hr
        clear hg hr
        cases r with
        | true =>
          have E2 : Hid (∀ j, j < k + 1 → Kyo.like (l.getD j default) (m.getD j default)) := Lib.hid fun j hj => by
            by_cases e : j = k
            · rw [e]; exact Hxy.out.1 (HR.out.1 rfl)
            · exact E.out j (by omega)
          go_wp2_with fail
          go_roundw
          case rel => exact ⟨k + 1, by go_num, by omega, E2, K2⟩
          case measure => simp [intOf]; omega
        | false =>
          go_wp2_with fail
          go_ret
          exact ⟨⟨false, rfl, by
            constructor
            · intro h; cases h
            · intro h; exact HR.out.2 (Hxy.out.2 (h.2 k hlt))⟩, K2.out⟩
      · obtain rfl : k = n := by omega
        go_wp2_with fail
        go_ret
        exact ⟨⟨true, rfl, by
          constructor
          · intro _; exact ⟨by first | trivial | rfl, E.out⟩
          · intro _; rfl⟩, K.out⟩
  · have hd : ((l.length : Int) != (m.length : Int)) = true := by rw [bne_iff_ne]; omega
    have HN := Lib.hid hll
    clear h h' hll
    generalize l.length = n1 at *
    generalize m.length = n2 at *
    go_enter Tryz.func37, Tryz.ntmps37
    go_wp2_with fail
    go_ret
    exact ⟨⟨false, rfl, by simp [HN.out]⟩, grown_reflX _ _⟩
end Go.Proofs.YtppigamibgefaaaGreatDoor
