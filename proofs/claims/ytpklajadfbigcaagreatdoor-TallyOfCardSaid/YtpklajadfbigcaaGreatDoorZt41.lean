import Derived.Test.YtpklajadfbigcaaGreatDoorZt40
import Derived.Test.YtpklajadfbigcaaGreatDoorZt37
import Derived.Test.YtpklajadfbigcaaGreatDoorZt38
import Derived.Test.YtpklajadfbigcaaGreatDoorZt19
import Derived.Test.YtpklajadfbigcaaGreatDoorZt06
import Derived.Test.YtpklajadfbigcaaGreatDoorZt05
set_option linter.unusedSimpArgs false
set_option linter.unusedVariables false
namespace Go.Proofs.YtpklajadfbigcaaGreatDoor
open Go.RowKit
set_option linter.unusedVariables false
set_option linter.unusedSimpArgs false
theorem toldV_over {g a s : Int} {x : BitVec 128} (h3 : g = 3) (hf : Wd.fitB x = false) : toldV g a s x = vlZ := by
  subst h3
  simp [toldV, sumV, hf]
set_option maxRecDepth 100000 in
set_option maxHeartbeats 6400000 in
theorem tell_any (G : Nat) (ad : Addr) (g a s : Int) (hgg : g = 1 ∨ g = 2 ∨ g = 3) (x : BitVec 128) (w : World) (hE : TaEnv G ad w) :
    Calls Tryz.prog 29 #[cntV a s x, .int .i64 g] w fun e w' => e = .returned (.tuple #[.agg #[.int .i64 (toldV g a s x).k, .int .i64 (toldV g a s x).n, .string (toldV g a s x).s], .int .i64 (tellC g x)]) ∧ w.grownBy w' none := by
  have HS := Lib.hid (fun W (hW : w.grownBy W none) => told_any G ad g a s hgg x W (hE.keep hW))
  have HE := Lib.hid hE
  have HC := Lib.hid (heap_alloc_new w (.cells #[.int .i64 a, .int .i64 s, .int .i64 (Wd.hiB x), .int .u64 (Wd.loB x)] 77))
  have HR := Lib.hid (by have := heap_alloc_new (w.alloc (.cells #[.int .i64 a, .int .i64 s, .int .i64 (Wd.hiB x), .int .u64 (Wd.loB x)] 77)) (.cells #[.int .i64 0, .int .i64 0, .string ⟨#[]⟩] 37); rw [World.size_alloc] at this; exact this)
  have HG2 := Lib.hid ((World.grownBy_alloc w (.cells #[.int .i64 a, .int .i64 s, .int .i64 (Wd.hiB x), .int .u64 (Wd.loB x)] 77) none).trans (World.grownBy_alloc (w.alloc (.cells #[.int .i64 a, .int .i64 s, .int .i64 (Wd.hiB x), .int .u64 (Wd.loB x)] 77)) (.cells #[.int .i64 0, .int .i64 0, .string ⟨#[]⟩] 37) none))
  have HC2 := Lib.hid (blkD (World.grownBy_alloc (w.alloc (.cells #[.int .i64 a, .int .i64 s, .int .i64 (Wd.hiB x), .int .u64 (Wd.loB x)] 77)) (.cells #[.int .i64 0, .int .i64 0, .string ⟨#[]⟩] 37) none) HC.out)
  have HN := Lib.hid (fun W => TaX.is_nil ad W)
  have HX := Lib.hid (fun t W => TaX.is_exc_same t ad W)
  have HV : Hid (g = 3 → Wd.fitB x = false → toldV g a s x = vlZ) := Lib.hid toldV_over
  have Hev : Hid ((if g = 3 then excV ad x else .nilIface) = if tellC g x = 24 then .iface 136 (.agg #[.string ⟨(Wd.textB x).toArray⟩, .iface 184 (.pointer (some ad))]) else .nilIface) := Lib.hid (by
    unfold excV tellC
    by_cases h3 : g = 3
    · rw [if_pos h3, if_pos h3]
      cases Wd.fitB x <;> simp
    · rw [if_neg h3, if_neg h3]; simp)
  rw [Hev.out] at HS
  have Hc : tellC g x = 24 ∧ toldV g a s x = vlZ ∨ tellC g x = 0 := by
    unfold tellC
    by_cases h3 : g = 3
    · rw [if_pos h3]
      cases hf : Wd.fitB x with
      | true => exact .inr rfl
      | false => exact .inl ⟨rfl, HV.out h3 hf⟩
    · rw [if_neg h3]; exact .inr rfl
  unfold cntV at HS ⊢
  clear Hev HV HC hE hgg
  generalize (⟨(Wd.textB x).toArray⟩ : ByteArray) = t at *
  generalize toldV g a s x = v at *
  generalize tellC g x = c at *
  generalize Wd.hiB x = h at *
  generalize Wd.loB x = l at *
  obtain ⟨vk, vn, vs⟩ := v
  dsimp only at HS ⊢
  rcases Hc with ⟨rfl, hv⟩ | rfl
  · rw [if_pos rfl] at HS
    unfold vlZ at hv
    obtain ⟨rfl, rfl, rfl⟩ : vk = 0 ∧ vn = 0 ∧ vs = ⟨#[]⟩ := by injection hv with h1 h2 h3; exact ⟨h1, h2, h3⟩
    clear hv HN
    go_enter Tryz.func29, Tryz.ntmps29
    go_upto_region 1 with fail
    generalize (w.alloc (.cells #[.int .i64 a, .int .i64 s, .int .i64 h, .int .u64 l] 77)).alloc (.cells #[.int .i64 0, .int .i64 0, .string ⟨#[]⟩] 37) = w2 at *
    obtain ⟨⟨b0, b1, b2, b3⟩, b4, b5, b6, b7⟩ := four_of HC2.out
    go_wp2_with fail
    refine (HS.out _ HG2.out).mono ?_
    rintro e w3 ⟨rfl, hg⟩
    have R3 := Lib.hid (blkD hg HR.out)
    have G3 := Lib.hid (HG2.out.trans hg)
    have G3a := Lib.hid (World.grownBy_alloc w3 (.cells #[.int .i64 0, .int .i64 0, .string ⟨#[]⟩] 37) none)
    have E4 := (HE.out.keep (G3.out.trans G3a.out)).sen.var
    clear hg HC2 HR HG2 HS b0 b1 b2 b3 b4 b5 b6 b7
    go_upto_region 2 with fail
    generalize w3.alloc (.cells #[.int .i64 0, .int .i64 0, .string ⟨#[]⟩] 37) = w4 at *
    go_wp2_with fail
    refine (HX.out t _).mono ?_
    rintro e w5 ⟨rfl, hg⟩
    have R5 := Lib.hid (blkD (G3a.out.trans hg) R3.out)
    have G5 := Lib.hid (G3.out.trans (G3a.out.trans hg))
    clear hg R3 G3a G3 E4
    obtain ⟨⟨r0, r1, r2⟩, r3, r4, r5⟩ := three_of R5.out
    go_wp2_with fail
    exact bodyPost_ret (results_vl2 rfl _ _ (w.heap.size + 1) #[.int .i64 0, .int .i64 0, .string ⟨#[]⟩] rfl rfl (set3 R5.out)) rfl ⟨rfl, grown_set3 G5.out (by omega) _ _ _⟩
  · rw [if_neg (by decide)] at HS
    clear HX
    go_enter Tryz.func29, Tryz.ntmps29
    go_upto_region 1 with fail
    generalize (w.alloc (.cells #[.int .i64 a, .int .i64 s, .int .i64 h, .int .u64 l] 77)).alloc (.cells #[.int .i64 0, .int .i64 0, .string ⟨#[]⟩] 37) = w2 at *
    obtain ⟨⟨b0, b1, b2, b3⟩, b4, b5, b6, b7⟩ := four_of HC2.out
    go_wp2_with fail
    refine (HS.out _ HG2.out).mono ?_
    rintro e w3 ⟨rfl, hg⟩
    have R3 := Lib.hid (blkD hg HR.out)
    have G3 := Lib.hid (HG2.out.trans hg)
    have G3a := Lib.hid (World.grownBy_alloc w3 (.cells #[.int .i64 vk, .int .i64 vn, .string vs] 37) none)
    have V3 := Lib.hid (heap_alloc_new w3 (.cells #[.int .i64 vk, .int .i64 vn, .string vs] 37))
    have E4 := (HE.out.keep (G3.out.trans G3a.out)).sen.var
    clear hg HC2 HR HG2 HS b0 b1 b2 b3 b4 b5 b6 b7
    go_upto_region 2 with fail
    generalize w3.alloc (.cells #[.int .i64 vk, .int .i64 vn, .string vs] 37) = w4 at *
    go_wp2_with fail
    refine (HN.out _).mono ?_
    rintro e w5 ⟨rfl, hg⟩
    have R5 := Lib.hid (blkD (G3a.out.trans hg) R3.out)
    have V5 := Lib.hid (blkD hg V3.out)
    have G5 := Lib.hid (G3.out.trans (G3a.out.trans hg))
    clear hg R3 G3a G3 E4 V3
    obtain ⟨⟨r0, r1, r2⟩, r3, r4, r5⟩ := three_of R5.out
    obtain ⟨⟨v0, v1, v2⟩, v3, v4, v5⟩ := three_of V5.out
    go_wp2_with fail
    exact bodyPost_ret (results_vl2 rfl _ _ (w.heap.size + 1) #[.int .i64 vk, .int .i64 vn, .string vs] rfl rfl (set3 R5.out)) rfl ⟨rfl, grown_set3 G5.out (by omega) _ _ _⟩
end Go.Proofs.YtpklajadfbigcaaGreatDoor
namespace Go.Proofs.YtpklajadfbigcaaGreatDoor
open Go.RowKit
set_option linter.unusedVariables false
set_option linter.unusedSimpArgs false
def someN (vs : List Vl) : Int := vs.foldl (fun s v => cntS v s) 0
def sumX (vs : List Vl) : BitVec 128 := vs.foldl (fun x v => cntX v x) 0#128
def ofV (g : Int) (vs : List Vl) : Vl := if g = 4 then vs.foldl (stepV Vl.ord) vlZ else if g = 5 then vs.foldl (stepV fun x y => y.ord x) vlZ else toldV g vs.length (someN vs) (sumX vs)
def ofC (g : Int) (vs : List Vl) : Int := tellC g (sumX vs)
def In64 (v : Vl) : Prop := v.k = 2 → -9223372036854775808 ≤ v.n ∧ v.n ≤ 9223372036854775807
theorem take_foldl {α β : Type} [Inhabited α] (f : β → α → β) (b : β) (l : List α) (k : Nat) (h : k < l.length) : (l.take (k + 1)).foldl f b = f ((l.take k).foldl f b) (l.getD k default) := by
  rw [List.take_add_one, List.foldl_append, List.getD_eq_getElem?_getD, List.getElem?_eq_getElem h]
  rfl
theorem someN_le (vs : List Vl) : 0 ≤ someN vs ∧ someN vs ≤ vs.length := by
  have : ∀ (l : List Vl) (s : Int), s ≤ l.foldl (fun s v => cntS v s) s ∧ l.foldl (fun s v => cntS v s) s ≤ s + l.length := by
    intro l
    induction l with
    | nil => intro s; simp
    | cons v l ih =>
      intro s
      have := ih (cntS v s)
      have h2 : s ≤ cntS v s ∧ cntS v s ≤ s + 1 := by unfold cntS; split <;> omega
      rw [List.foldl_cons, List.length_cons]
      omega
  have := this vs 0
  unfold someN
  omega
theorem rowC_in {M : ByteArray} {cs : List Cl} {x : Rwm} (h : ∀ v ∈ x.l, In64 (vlV v)) : In64 (rowC M cs x) := by
  unfold rowC colV
  split
  · rename_i hc
    rcases Nat.lt_or_ge (colN M cs) x.l.length with hl | hl
    · rw [List.getD_eq_getElem?_getD, List.getElem?_eq_getElem hl]
      exact h _ (List.getElem_mem _)
    · rw [List.getD_eq_getElem?_getD, List.getElem?_eq_none hl]
      intro h2; exact absurd h2 (by decide)
  · intro h2; exact absurd h2 (by decide)
set_option maxRecDepth 100000 in
set_option maxHeartbeats 12800000 in
theorem tof_any (G : Nat) (ad : Addr) (TN : ByteArray) (ta : Option Addr) (tcap : Nat) (cs : List Cl) (TK : Int) (g : Int) (M : ByteArray) (P : Int) (la : Option Addr) (lcap : Nat) (ls : List Rwm) (w : World) (hE : TaEnv G ad w) (hC : ColsAt w.heap.size w ta cs) (hs : ∀ c ∈ cs, c.n.size ≤ maxLen) (hl : cs.length ≤ 100000) (hM : M.size ≤ maxLen)
    (hR : RwsAt w.heap.size w la ls) (hlc : ls.length ≤ lcap) (hn : ls.length ≤ 1000) (hf : ∀ x ∈ ls, FineR cs x) (hb : ∀ x ∈ ls, ∀ v ∈ x.l, In64 (vlV v)) (hg : 1 ≤ g ∧ g ≤ 5) :
    Calls Tryz.prog 10 #[.agg #[.string TN, .slice ta cs.length tcap, .int .i64 TK], .agg #[.int .i64 g, .string M, .int .i64 P], .slice la ls.length lcap] w fun e w' => e = .returned (.tuple #[.agg #[.int .i64 (ofV g (ls.map (rowC M cs))).k, .int .i64 (ofV g (ls.map (rowC M cs))).n, .string (ofV g (ls.map (rowC M cs))).s], .int .i64 (ofC g (ls.map (rowC M cs)))]) ∧ w.grownBy w' none := by
  have HV := Lib.hid (fun W (hW : w.grownBy W none) => values_any TN ta tcap cs TK M la lcap ls W ((hC.keep hW (by simp)).mono hW.size) hs hl hM (by have := hR.keep hW; exact ⟨this.1, fun x hx => ⟨(this.2.1 x hx).1.mono1 hW.size, (this.2.1 x hx).2⟩, this.2.2.imp id fun ⟨b, off, e, hlt, hc⟩ => ⟨b, off, e, Nat.lt_of_lt_of_le hlt hW.size, hc⟩⟩) hlc hn hf)
  have HB : Hid (∀ v ∈ ls.map (rowC M cs), In64 v) := Lib.hid (fun v hv => by
    obtain ⟨x, hx, rfl⟩ := List.mem_map.1 hv
    exact rowC_in (hb x hx))
  have HE := Lib.hid hE
  have hvl : (ls.map (rowC M cs)).length = ls.length := List.length_map _
  generalize ls.map (rowC M cs) = vs at *
  obtain ⟨⟨rk, rm, rs⟩, hrv⟩ : ∃ r, r = ofV g vs := ⟨_, rfl⟩
  obtain ⟨rc, hrc⟩ : ∃ r, r = ofC g vs := ⟨_, rfl⟩
  rw [← hrv, ← hrc]
  have HRV := Lib.hid hrv
  have HRC := Lib.hid hrc
  clear hrv hrc
  dsimp only
  clear hC hs hl hM hR hf hb hE
  obtain ⟨n, hnn⟩ : ∃ n, n = ls.length := ⟨_, rfl⟩
  rw [← hnn] at HV hvl hlc hn ⊢
  clear hnn
  obtain ⟨cn, hcn⟩ : ∃ cn, cn = cs.length := ⟨_, rfl⟩
  rw [← hcn] at HV ⊢
  clear hcn
  have S1 := World.size_alloc w (.cells #[.string TN, .slice ta cn tcap, .int .i64 TK] 24)
  have T1 := heap_alloc_new w (.cells #[.string TN, .slice ta cn tcap, .int .i64 TK] 24)
  have G1 := World.grownBy_alloc w (.cells #[.string TN, .slice ta cn tcap, .int .i64 TK] 24) none
  generalize hw1 : w.alloc (.cells #[.string TN, .slice ta cn tcap, .int .i64 TK] 24) = w1 at *
  have S2 := World.size_alloc w1 (.cells #[.int .i64 g, .string M, .int .i64 P] 27)
  have X2 := heap_alloc_new w1 (.cells #[.int .i64 g, .string M, .int .i64 P] 27)
  have G2 := World.grownBy_alloc w1 (.cells #[.int .i64 g, .string M, .int .i64 P] 27) none
  generalize hw2 : w1.alloc (.cells #[.int .i64 g, .string M, .int .i64 P] 27) = w2 at *
  have R3 := heap_alloc_new w2 (.cells #[.int .i64 0, .int .i64 0, .string ⟨#[]⟩] 37)
  have G3 := World.grownBy_alloc w2 (.cells #[.int .i64 0, .int .i64 0, .string ⟨#[]⟩] 37) none
  generalize hw3 : w2.alloc (.cells #[.int .i64 0, .int .i64 0, .string ⟨#[]⟩] 37) = w3 at *
  have T3 := Lib.hid (blkD (G2.trans G3) T1)
  have X3 := Lib.hid (blkD G3 X2)
  have R3 := Lib.hid R3
  have GG3 := Lib.hid (G1.trans (G2.trans G3))
  rw [S1] at X3
  rw [S2, S1] at R3
  clear T1 X2 G1 G2 G3
  obtain ⟨gt, hgt⟩ : ∃ gt, gt = w.heap.size := ⟨_, rfl⟩
  have HG := Lib.hid hgt
  go_enter Tryz.func10, Tryz.ntmps10
  go_upto_region 1 with fail
  try rw [hw1, hw2, hw3]
  rw [← hgt] at T3 X3 R3 ⊢
  clear hgt hw1 hw2 hw3 S1 S2
  obtain ⟨⟨t0, t1, t2⟩, t3, t4, t5⟩ := three_of T3.out
  obtain ⟨⟨x0, x1, x2⟩, x3, x4, x5⟩ := three_of X3.out
  go_wp2_with fail
  refine (HV.out _ GG3.out).mono ?_
  rintro e w4 ⟨⟨a4, c4, rfl, hW, hB⟩, hg4⟩
  have X4 := Lib.hid (blkD hg4 X3.out)
  have R4 := Lib.hid (blkD hg4 R3.out)
  have G4 := Lib.hid (GG3.out.trans hg4)
  have W4 : Hid (Win 3 w4 a4 c4 n (vs.flatMap Vl.cc)) := Lib.hid hW
  clear hW hB hg4 t0 t1 t2 t3 t4 t5 x0 x1 x2 x3 x4 x5 X3 R3 GG3 HV T3
  have hcap := W4.out.le
  obtain ⟨⟨x0, x1, x2⟩, x3, x4, x5⟩ := three_of X4.out
  have hg5 : g = 4 ∨ g = 5 ∨ (g = 1 ∨ g = 2 ∨ g = 3) := by omega
  rcases hg5 with rfl | rfl | hg5
  · have HF := Lib.hid (fun W (hW : w4.grownBy W none) => tfirst_any 26 Vl.ord (fun args W => Tryz.call26 args W) (fun x y W => (cmpC_any x.k x.n x.s y.k y.n y.s W).mono fun e w' ⟨h1, h2⟩ => ⟨h1, grown_belowX h2 none⟩) a4 c4 vs W (win_cells (W4.out.keepG hW) (fun _ _ => trivial)) (by rw [hvl]; exact hcap) (by rw [hvl]; exact hn))
    rw [hvl] at HF
    have Hv : vs.foldl (stepV Vl.ord) vlZ = ⟨rk, rm, rs⟩ := HRV.out.symm
    have Hc : rc = 0 := HRC.out
    rw [Hv] at HF
    subst Hc
    dsimp only at HF
    clear Hv HB HRV HRC
    go_wp2_with fail
    refine (HF.out _ (grown_reflT _ _)).mono ?_
    rintro e w5 ⟨rfl, hg⟩
    have R5 := Lib.hid (blkD hg R4.out)
    have G5 := Lib.hid (G4.out.trans hg)
    clear hg x0 x1 x2 x3 x4 x5
    obtain ⟨⟨r0, r1, r2⟩, r3, r4, r5⟩ := three_of R5.out
    go_wp2_with fail
    exact bodyPost_ret (results_vl2 rfl _ _ (gt + 1 + 1) #[.int .i64 rk, .int .i64 rm, .string rs] rfl rfl (set3 R5.out)) rfl ⟨rfl, grown_set3 G5.out (by rw [← HG.out]; omega) _ _ _⟩
  · have HF := Lib.hid (fun W (hW : w4.grownBy W none) => tfirst_any 27 (fun x y => y.ord x) (fun args W => Tryz.call27 args W) (fun x y W => tturned_any x y W) a4 c4 vs W (win_cells (W4.out.keepG hW) (fun _ _ => trivial)) (by rw [hvl]; exact hcap) (by rw [hvl]; exact hn))
    rw [hvl] at HF
    have Hv : vs.foldl (stepV fun x y => y.ord x) vlZ = ⟨rk, rm, rs⟩ := HRV.out.symm
    have Hc : rc = 0 := HRC.out
    rw [Hv] at HF
    subst Hc
    dsimp only at HF
    clear Hv HB HRV HRC
    go_wp2_with fail
    refine (HF.out _ (grown_reflT _ _)).mono ?_
    rintro e w5 ⟨rfl, hg⟩
    have R5 := Lib.hid (blkD hg R4.out)
    have G5 := Lib.hid (G4.out.trans hg)
    clear hg x0 x1 x2 x3 x4 x5
    obtain ⟨⟨r0, r1, r2⟩, r3, r4, r5⟩ := three_of R5.out
    go_wp2_with fail
    exact bodyPost_ret (results_vl2 rfl _ _ (gt + 1 + 1) #[.int .i64 rk, .int .i64 rm, .string rs] rfl rfl (set3 R5.out)) rfl ⟨rfl, grown_set3 G5.out (by rw [← HG.out]; omega) _ _ _⟩
  · have HT := Lib.hid (fun W (hW : w.grownBy W none) => tell_any G ad g n (someN vs) hg5 (sumX vs) W (HE.out.keep hW))
    have hv : toldV g n (someN vs) (sumX vs) = ⟨rk, rm, rs⟩ := by
      rw [HRV.out]; unfold ofV
      rw [if_neg (by omega), if_neg (by omega), hvl]
    have hc : tellC g (sumX vs) = rc := HRC.out.symm
    rw [hv, hc] at HT
    dsimp only at HT
    have hsn := someN_le vs
    rw [hvl] at hsn
    obtain ⟨sk, hsk⟩ : ∃ sk : Nat → Int, sk = fun k => someN (vs.take k) := ⟨_, rfl⟩
    obtain ⟨xk, hxk⟩ : ∃ xk : Nat → BitVec 128, xk = fun k => sumX (vs.take k) := ⟨_, rfl⟩
    have K0 : Hid (sk 0 = 0 ∧ xk 0 = 0#128) := Lib.hid (by rw [hsk, hxk]; exact ⟨rfl, rfl⟩)
    have K1 : Hid (∀ k, k < n → sk (k + 1) = cntS (vs.getD k default) (sk k) ∧ xk (k + 1) = cntX (vs.getD k default) (xk k)) := Lib.hid (fun k hk => by
      rw [hsk, hxk]; exact ⟨take_foldl _ _ vs k (by rw [hvl]; exact hk), take_foldl _ _ vs k (by rw [hvl]; exact hk)⟩)
    have KN : Hid (sk n = someN vs ∧ xk n = sumX vs) := Lib.hid (by rw [hsk, hxk, ← hvl]; exact ⟨by show someN (vs.take vs.length) = _; rw [List.take_length], by show sumX (vs.take vs.length) = _; rw [List.take_length]⟩)
    have KS : Hid (∀ k, k ≤ n → 0 ≤ sk k ∧ sk k ≤ 1000000) := Lib.hid (fun k hk => by
      rw [hsk]; have := someN_le (vs.take k); rw [List.length_take] at this; show 0 ≤ someN (vs.take k) ∧ someN (vs.take k) ≤ 1000000; omega)
    rw [← KN.out.1, ← KN.out.2] at HT
    have HAt : Hid (∀ W, w4.grownBy W none → ∀ k, k < n → ∃ b off, a4 = some ⟨b, off, none⟩ ∧ W.cell? ⟨b, off + k * 3, none⟩ = some (.int .i64 (vs.getD k default).k) ∧ W.cell? ⟨b, off + k * 3 + 1, none⟩ = some (.int .i64 (vs.getD k default).n) ∧ W.cell? ⟨b, off + k * 3 + 2, none⟩ = some (.string (vs.getD k default).s) ∧ In64 (vs.getD k default)) := Lib.hid (fun W hW k hk => by
      have hin := HB.out (vs.getD k default) (by rw [List.getD_eq_getElem?_getD, List.getElem?_eq_getElem (by rw [hvl]; exact hk)]; exact List.getElem_mem _)
      obtain ⟨b, off, e, _, _, hc⟩ := (win_cells (S := fun _ => True) (W4.out.keepG hW) (fun _ _ => trivial)).elem (c := Vl.cc) (n := 3) (fun _ => rfl) (by decide) (i := k) (by rw [hvl]; exact hk)
      generalize vs.getD k default = x at *
      refine ⟨b, off, e, ?_, ?_, ?_, hin⟩
      · have := hc 0 _ rfl; simpa using this
      · have := hc 1 _ rfl; simpa [Nat.add_assoc] using this
      · have := hc 2 _ rfl; simpa [Nat.add_assoc] using this)
    have g4 : (g == 4) = false := beq_eq_false_iff_ne.2 (by omega)
    have g5 : (g == 5) = false := beq_eq_false_iff_ne.2 (by omega)
    clear hv hc hsn hsk hxk HRV HRC hg hg5 HB W4 KN hvl
    have C5 := Lib.hid (heap_alloc_new w4 (.cells #[.int .i64 0, .int .i64 0, .int .i64 0, .int .u64 0] 77))
    have G45 := Lib.hid (World.grownBy_alloc w4 (.cells #[.int .i64 0, .int .i64 0, .int .i64 0, .int .u64 0] 77) none)
    go_upto_region 8 with fail
    generalize w4.alloc (.cells #[.int .i64 0, .int .i64 0, .int .i64 0, .int .u64 0] 77) = w5 at *
    obtain ⟨gc, hgc⟩ : ∃ gc, gc = w4.heap.size := ⟨_, rfl⟩
    have HGC := Lib.hid hgc
    rw [← hgc] at C5 ⊢
    clear hgc x0 x1 x2 x3 x4 x5
    go_wp2_with fail
    go_loopw [29] (fun s29 wr => ∃ k : Nat, s29 = .int .i64 k ∧ k ≤ n ∧ Hid (wr.heap[gc]? = some (.cells #[.int .i64 k, .int .i64 (sk k), .int .i64 (Wd.hiB (xk k)), .int .u64 (Wd.loB (xk k))] 77 (0, 0))) ∧ Hid (w4.grownBy wr none)) (fun s29 _ => n - (intOf s29).toNat)
    case atStart => exact ⟨0, rfl, Nat.zero_le _, Lib.hid (by rw [K0.out.1, K0.out.2]; exact C5.out), G45⟩
    case round =>
      obtain ⟨k, rfl, hk, KC, KG⟩ := hrel
      clear C5 G45
      by_cases hlt : k < n
      · obtain ⟨b, off, rfl, c0, c1, c2, hin⟩ := HAt.out wr KG.out k hlt
        have HK := Lib.hid (K1.out k hlt)
        have hb := KS.out k hk
        have HW := Lib.hid (fun W => with1_any k (sk k) (xk k) (vs.getD k default) W ⟨by omega, by omega⟩ hb hin)
        unfold cntV at HW
        rw [← HK.out.1, ← HK.out.2] at HW
        generalize vs.getD k default = v at *
        obtain ⟨vk, vn, vv⟩ := v
        dsimp only at c0 c1 c2 HW
        clear HK hb hin
        have i0 : (0 : Int) ≤ k := by omega
        have i1 : (k : Int) < n := by omega
        have i2 : (k : Int) < c4 := by omega
        have V6 := Lib.hid (heap_alloc_new wr (.cells #[.int .i64 vk, .int .i64 vn, .string vv] 37))
        have G6 := Lib.hid (World.grownBy_alloc wr (.cells #[.int .i64 vk, .int .i64 vn, .string vv] 37) none)
        go_upto_region 11 with fail
        generalize wr.alloc (.cells #[.int .i64 vk, .int .i64 vn, .string vv] 37) = w6 at *
        clear c0 c1 c2
        have C6 := Lib.hid (blkD G6.out KC.out)
        have H6 := Lib.hid (KG.out.trans G6.out)
        obtain ⟨⟨d0, d1, d2⟩, d3, d4, d5⟩ := three_of V6.out
        obtain ⟨⟨q0, q1, q2, q3⟩, q4, q5, q6, q7⟩ := four_of C6.out
        go_wp2_with fail
        refine (HW.out _).mono ?_
        rintro e w7 ⟨rfl, hg⟩
        have C7 := Lib.hid (blkD hg C6.out)
        have H7 := Lib.hid (H6.out.trans hg)
        clear hg d0 d1 d2 d3 d4 d5 q0 q1 q2 q3 q4 q5 q6 q7 C6 H6 V6 G6 KC HW
        obtain ⟨⟨q0, q1, q2, q3⟩, q4, q5, q6, q7⟩ := four_of C7.out
        go_wp2_with fail
        go_roundw
        case rel => exact ⟨k + 1, by go_num, by omega, Lib.hid (set4 C7.out), Lib.hid (grown_set4 H7.out (by rw [HGC.out]; exact Nat.le_refl _) _ _ _ _)⟩
        case measure => simp [intOf]; omega
      · obtain rfl : k = n := by omega
        have R6 := Lib.hid (blkD KG.out R4.out)
        have X6 := Lib.hid (blkD KG.out X4.out)
        have G6 := Lib.hid (G4.out.trans KG.out)
        clear K0 K1 KS HAt
        obtain ⟨⟨x0, x1, x2⟩, x3, x4, x5⟩ := three_of X6.out
        obtain ⟨⟨q0, q1, q2, q3⟩, q4, q5, q6, q7⟩ := four_of KC.out
        unfold cntV at HT
        go_wp2_with fail
        refine (HT.out _ G6.out).mono ?_
        rintro e w7 ⟨rfl, hg⟩
        have R7 := Lib.hid (blkD hg R6.out)
        have G7 := Lib.hid (G6.out.trans hg)
        clear hg x0 x1 x2 x3 x4 x5 q0 q1 q2 q3 q4 q5 q6 q7
        obtain ⟨⟨r0, r1, r2⟩, r3, r4, r5⟩ := three_of R7.out
        go_wp2_with fail
        exact bodyPost_ret (results_vl2 rfl _ _ (gt + 1 + 1) #[.int .i64 rk, .int .i64 rm, .string rs] rfl rfl (set3 R7.out)) rfl ⟨rfl, grown_set3 G7.out (by rw [← HG.out]; omega) _ _ _⟩
end Go.Proofs.YtpklajadfbigcaaGreatDoor
namespace Go.Proofs.YtpklajadfbigcaaGreatDoor
open Go.RowKit
set_option linter.unusedVariables false
theorem RwsAt.up {w w' : World} {a : Option Addr} {ls : List Rwm} (h : RwsAt w.heap.size w a ls) (hW : w.grownBy w' none) : RwsAt w'.heap.size w' a ls :=
  have this := h.keep hW
  ⟨this.1, fun x hx => ⟨(this.2.1 x hx).1.mono1 hW.size, (this.2.1 x hx).2⟩, this.2.2.imp id fun ⟨b, off, e, hlt, hc⟩ => ⟨b, off, e, Nat.lt_of_lt_of_le hlt hW.size, hc⟩⟩
theorem rowT_ok (a : Int) (d : Vv) (ha : -9223372036854775808 ≤ a ∧ a ≤ 9223372036854775807) (h : (vlV d).fine) (hd : In64 (vlV d)) : (∀ v ∈ rowV a d, (vlV v).fine) ∧ (rowV a d).length = catC.length ∧ ∀ v ∈ rowV a d, In64 (vlV v) := by
  refine ⟨fun v hv => ?_, rfl, fun v hv => ?_⟩
  all_goals
    unfold rowV at hv
    simp only [List.mem_cons, List.not_mem_nil, or_false] at hv
    rcases hv with rfl | rfl | rfl | rfl
  · exact fine_i a
  · exact ⟨by decide +kernel, by decide⟩
  · exact fine_z
  · exact h
  · exact fun _ => ha
  · intro h2; exact absurd h2 (by decide)
  · intro h2; exact absurd h2 (by decide)
  · exact hd
theorem rowC_rowV (a : Int) (d : Vv) (x : Rwm) (h : x.l = rowV a d) : rowC ⟨#[100]⟩ catC x = vlV d := by
  unfold rowC
  rw [h]
  unfold colV
  have e : colN ⟨#[100]⟩ catC = 3 := by decide +kernel
  rw [e, if_pos (by decide)]
  rfl
theorem intsR_mem {l : List Int} {ls : List Rwm} (h : intsR l ls) {x : Rwm} (hx : x ∈ ls) : ∃ i, i < l.length ∧ x.l = rowV (i : Nat) ⟨2, l.getD i 0, ⟨#[]⟩⟩ := by
  obtain ⟨i, hi, rfl⟩ := List.getElem_of_mem hx
  have := h.2 i (by rw [← h.1]; exact hi)
  rw [List.getD_eq_getElem?_getD, List.getElem?_eq_getElem hi] at this
  exact ⟨i, by rw [← h.1]; exact hi, this⟩
theorem ints_ok {l : List Int} {ls : List Rwm} (h : intsR l ls) (hl : l.length ≤ 10) (hb : ∀ n ∈ l, -9223372036854775808 ≤ n ∧ n ≤ 9223372036854775807) : (∀ x ∈ ls, FineR catC x) ∧ ∀ x ∈ ls, ∀ v ∈ x.l, In64 (vlV v) := by
  have key : ∀ x ∈ ls, (∀ v ∈ x.l, (vlV v).fine) ∧ x.l.length = catC.length ∧ ∀ v ∈ x.l, In64 (vlV v) := fun x hx => by
    obtain ⟨i, hi, e⟩ := intsR_mem h hx
    rw [e]
    exact rowT_ok _ _ (by omega) (fine_i _) (fun _ => hb _ (by rw [List.getD_eq_getElem?_getD, List.getElem?_eq_getElem hi]; exact List.getElem_mem _))
  exact ⟨fun x hx => ⟨(key x hx).1, (key x hx).2.1⟩, fun x hx => (key x hx).2.2⟩
theorem ints_vs {l : List Int} {ls : List Rwm} (h : intsR l ls) : ls.map (rowC ⟨#[100]⟩ catC) = l.map fun n => ⟨2, n, ⟨#[]⟩⟩ := by
  refine List.ext_getElem (by simp [h.1]) fun i h1 h2 => ?_
  rw [List.getElem_map, List.getElem_map]
  rw [List.length_map] at h1 h2
  have := h.2 i h2
  rw [List.getD_eq_getElem?_getD, List.getElem?_eq_getElem h1, List.getD_eq_getElem?_getD, List.getElem?_eq_getElem h2] at this
  exact rowC_rowV _ _ ls[i] this
theorem aw17_a : ofV 3 ([9223372036854775807, 1, -1].map fun n : Int => (⟨2, n, ⟨#[]⟩⟩ : Vl)) = ⟨2, 9223372036854775807, ⟨#[]⟩⟩ ∧ ofC 3 ([9223372036854775807, 1, -1].map fun n : Int => (⟨2, n, ⟨#[]⟩⟩ : Vl)) = 0 := ⟨by kernel_rfl, by kernel_rfl⟩
theorem aw17_b : ofV 3 ([9223372036854775807, 1].map fun n : Int => (⟨2, n, ⟨#[]⟩⟩ : Vl)) = ⟨0, 0, ⟨#[]⟩⟩ ∧ ofC 3 ([9223372036854775807, 1].map fun n : Int => (⟨2, n, ⟨#[]⟩⟩ : Vl)) = 24 := ⟨by kernel_rfl, by kernel_rfl⟩
theorem aw17_c : ofV 3 [vlV ⟨0, 0, ⟨#[]⟩⟩] = ⟨0, 0, ⟨#[]⟩⟩ ∧ ofC 3 [vlV ⟨0, 0, ⟨#[]⟩⟩] = 0 := ⟨by kernel_rfl, by kernel_rfl⟩
theorem catC_sz : ∀ c ∈ catC, c.n.size ≤ maxLen := fun c hc => by
  have h : ∀ c ∈ catC, c.n.size ≤ 20 := by decide
  have := h c hc
  unfold maxLen; omega
end Go.Proofs.YtpklajadfbigcaaGreatDoor
namespace Go.Proofs.YtpklajadfbigcaaGreatDoor
open Go.RowKit
set_option linter.unusedVariables false
set_option linter.unusedSimpArgs false
set_option maxRecDepth 100000 in
set_option maxHeartbeats 6400000 in
theorem sum17_any (a : Option Addr) (c : Nat) (vs : List Vl) (w : World) (hS : CellsS (fun _ => True) w a (vs.flatMap Vl.cc)) (hc : vs.length ≤ c) (hn : vs.length ≤ 1000) (hv : ∀ v ∈ vs, v.k = 2 ∧ In64 v) :
    Calls Tryz.prog 31 #[.slice a vs.length c] w fun e w' => e = .returned (Wd.intV (sumX vs)) ∧ w.grownBy w' none := by
  have HAt : Hid (∀ W, w.grownBy W none → ∀ k, k < vs.length → ∃ b off, a = some ⟨b, off, none⟩ ∧ W.cell? ⟨b, off + k * 3 + 1, none⟩ = some (.int .i64 (vs.getD k default).n) ∧ -9223372036854775808 ≤ (vs.getD k default).n ∧ (vs.getD k default).n ≤ 9223372036854775807 ∧ (vs.getD k default).k = 2) := Lib.hid (fun W hW k hk => by
    have hin := hv (vs.getD k default) (by rw [List.getD_eq_getElem?_getD, List.getElem?_eq_getElem hk]; exact List.getElem_mem _)
    obtain ⟨b, off, e, _, _, hc⟩ := (hS.keep (.of hW)).elem (c := Vl.cc) (n := 3) (fun _ => rfl) (by decide) hk
    have := hc 1 _ rfl
    exact ⟨b, off, e, by simpa [Nat.add_assoc] using this, (hin.2 hin.1).1, (hin.2 hin.1).2, hin.1⟩)
  obtain ⟨xk, hxk⟩ : ∃ xk : Nat → BitVec 128, xk = fun k => sumX (vs.take k) := ⟨_, rfl⟩
  have X0 : Hid (xk 0 = 0#128) := Lib.hid (by rw [hxk]; rfl)
  have X1 : Hid (∀ k, k < vs.length → (vs.getD k default).k = 2 → xk (k + 1) = xk k + BitVec.ofInt 128 (vs.getD k default).n) := Lib.hid (fun k hk h2 => by
    rw [hxk]
    show sumX (vs.take (k + 1)) = sumX (vs.take k) + _
    unfold sumX
    rw [take_foldl _ _ vs k hk]
    unfold cntX
    rw [if_pos h2])
  have XN : xk vs.length = sumX vs := by rw [hxk]; show sumX (vs.take vs.length) = _; rw [List.take_length]
  rw [← XN]
  clear XN hxk hS hv
  generalize vs.length = m at *
  obtain ⟨rv, hrv⟩ : ∃ r, r = Wd.intV (xk m) := ⟨_, rfl⟩
  rw [← hrv]
  have HRV := Lib.hid hrv
  clear hrv
  go_enter Tryz.func31, Tryz.ntmps31
  go_upto_region 2 with (first
    | (refine wpList_store_row rfl 103 (.tmp 4) (.tmp 6) rfl w.heap.size Tryz.zeroCells103 rfl rfl 103 Tryz.zeroCells103 (heap_alloc_new w _) (by kernel_rfl) rfl Wd.wZero_one ?_)
    | fail)
  have B2 : Hid (Wd.BArr ((w.alloc (.cells Tryz.zeroCells103 103)).setRow w.heap.size Tryz.zeroCells103) w.heap.size (fun i => (xk 0).getLsbD i)) := Lib.hid (by
    rw [X0.out]
    have h := setRow_heap _ _ _ Tryz.zeroCells103 _ _ (heap_alloc_new w (.cells Tryz.zeroCells103 103))
    unfold Wd.BArr
    have e : Tryz.zeroCells103 = Wd.fArr fun i => (0#128).getLsbD i := by rw [Wd.wZero, Wd.fArr_zero]; rfl
    rw [← e]
    exact h)
  have G2 : Hid (w.grownBy ((w.alloc (.cells Tryz.zeroCells103 103)).setRow w.heap.size Tryz.zeroCells103) none) := Lib.hid (grown_thenX (World.grownBy_alloc w _ none) (grown_setRow _ _ _) (fun j e => by cases e; exact Nat.le_refl _))
  change Code.wp _ _ _ _ ((w.alloc (.cells Tryz.zeroCells103 103)).setRow w.heap.size Tryz.zeroCells103)
  generalize (w.alloc (.cells Tryz.zeroCells103 103)).setRow w.heap.size Tryz.zeroCells103 = w2 at *
  obtain ⟨g, hg⟩ : ∃ g, g = w.heap.size := ⟨_, rfl⟩
  have HGG := Lib.hid hg
  rw [← hg] at B2 ⊢
  clear hg
  go_wp2_with fail
  go_loopw [9] (fun s9 wr => ∃ k : Nat, s9 = .int .i64 k ∧ k ≤ m ∧ Hid (Wd.BArr wr g (fun i => (xk k).getLsbD i)) ∧ Hid (w.grownBy wr none)) (fun s9 _ => m - (intOf s9).toNat)
  case atStart => exact ⟨0, rfl, Nat.zero_le _, B2, G2⟩
  case round =>
    obtain ⟨k, rfl, hk, KB, KG⟩ := hrel
    clear B2 G2
    by_cases hlt : k < m
    · obtain ⟨b, off, rfl, hc0, n0, n1, h2⟩ := HAt.out wr KG.out k hlt
      have HY := Lib.hid (X1.out k hlt h2)
      have C0 := Lib.hid hc0
      generalize (vs.getD k default).n = n at *
      generalize xk k = x at *
      have HO := Lib.hid (fun W => Wd.refOf_any n W n0 n1)
      have HS := Lib.hid (fun W => Wd.refAdd_any x (BitVec.ofInt 128 n) W)
      obtain ⟨y, hy⟩ : ∃ y, y = x + BitVec.ofInt 128 n := ⟨_, rfl⟩
      rw [← hy] at HS HY
      generalize BitVec.ofInt 128 n = z at *
      have i0 : (0 : Int) ≤ k := by omega
      have i1 : (k : Int) < m := by omega
      have i2 : (k : Int) < c := by omega
      clear hc0 n0 n1 h2 hy
      go_upto_region 5 with fail
      refine wp_region_held_drew (S := (fun W => Hid True)) (by kernel_rfl) (Lib.hid trivial) (fun hHeld => ?_)
      refine TKB (i := 1) (v := ?vaz) rfl ?yaz ?raz
      case yaz => (intro w hSw; (try dsimp only at hSw); go_simp; try with_reducible rfl)
      simp only [Act.put, List.getElem_toArray, List.getElem_cons_succ, List.getElem_cons_zero, List.size_toArray, List.length_cons, List.length_nil, Nat.reduceAdd, Array.replicate, List.replicate, List.setIfInBounds_toArray, List.set_cons_zero, List.set_cons_succ]
      refine TKB (i := 2) (v := ?vbz) rfl ?ybz ?rbz
      case ybz => (intro w hSw; (try dsimp only at hSw); go_simp; try with_reducible rfl)
      simp only [Act.put, List.getElem_toArray, List.getElem_cons_succ, List.getElem_cons_zero, List.size_toArray, List.length_cons, List.length_nil, Nat.reduceAdd, Array.replicate, List.replicate, List.setIfInBounds_toArray, List.set_cons_zero, List.set_cons_succ]
      refine TKB (i := 3) (v := ?vcz) rfl ?ycz ?rcz
      case ycz => (intro w hSw; (try dsimp only at hSw); go_simp; try with_reducible rfl)
      simp only [Act.put, List.getElem_toArray, List.getElem_cons_succ, List.getElem_cons_zero, List.size_toArray, List.length_cons, List.length_nil, Nat.reduceAdd, Array.replicate, List.replicate, List.setIfInBounds_toArray, List.set_cons_zero, List.set_cons_succ]
      refine TKB (i := 4) (v := ?vdz) rfl ?ydz ?rdz
      case ydz => (intro w hSw; (try dsimp only at hSw); go_simp; try with_reducible rfl)
      simp only [Act.put, List.getElem_toArray, List.getElem_cons_succ, List.getElem_cons_zero, List.size_toArray, List.length_cons, List.length_nil, Nat.reduceAdd, Array.replicate, List.replicate, List.setIfInBounds_toArray, List.set_cons_zero, List.set_cons_succ]
      refine wpAnyH_ready (rs := [0, 5]) (by kernel_rfl) (by simp) ?_
      refine (AllReadyH.cons rfl (fun K' hK => ?_) (AllReadyH.cons rfl (fun K' hK => ?_) AllReadyH.nil))
      · skip
        refine wp_load_row 103 (.tmp 4) rfl g rfl 103 (Wd.wArr x) (0, 0) _ (show wr.drew.heap[g]? = _ from KB.out) Tryz.underlying103 rfl (by rw [Wd.wArr, Wd.fArr_size]; exact Wd.wide_info) ?_
        refine hK.out _ _ (Lib.hid trivial) (fun hHeld => ?_)
        clear hK K'
        simp only [Act.put, List.getElem_toArray, List.getElem_cons_succ, List.getElem_cons_zero, List.size_toArray, List.length_cons, List.length_nil, Nat.reduceAdd, Array.replicate, List.replicate, List.setIfInBounds_toArray, List.set_cons_zero, List.set_cons_succ]
        refine RD1 (i := 5) rfl (fun K' hK => ?_)
        have c1 := (show wr.drew.cell? ⟨b, off + k * 3 + 1, none⟩ = some (.int .i64 n) from C0.out)
        go_simp
        clear c1
        refine hK.out _ _ (Lib.hid trivial) (fun hHeld => ?_)
        clear hK K'
        simp only [Act.put, List.getElem_toArray, List.getElem_cons_succ, List.getElem_cons_zero, List.size_toArray, List.length_cons, List.length_nil, Nat.reduceAdd, Array.replicate, List.replicate, List.setIfInBounds_toArray, List.set_cons_zero, List.set_cons_succ]
        refine RD1 (i := 6) rfl (fun K' hK => ?_)
        go_simp
        go_at_call 54
        refine (HO.out _).mono ?_
        rintro e w3 ⟨rfl, hb⟩
        have Z3 : Hid (wr.grownBy w3 none) := Lib.hid ((grown_drewT (grown_reflX wr none)).trans (grown_belowX hb none))
        have B3 : Hid (Wd.BArr w3 g (fun i => x.getLsbD i)) := Lib.hid (blkD Z3.out KB.out)
        have C3 := Lib.hid (Z3.out.cell C0.out (by simp))
        clear hb
        refine hK.out _ _ (Lib.hid trivial) (fun hHeld => ?_)
        clear hK K'
        simp only [Act.put, List.getElem_toArray, List.getElem_cons_succ, List.getElem_cons_zero, List.size_toArray, List.length_cons, List.length_nil, Nat.reduceAdd, Array.replicate, List.replicate, List.setIfInBounds_toArray, List.set_cons_zero, List.set_cons_succ]
        refine RD1 (i := 7) rfl (fun K' hK => ?_)
        go_simp
        go_at_call 53
        refine (HS.out _).mono ?_
        rintro e w4 ⟨rfl, hb⟩
        have Z4 : Hid (wr.grownBy w4 none) := Lib.hid (Z3.out.trans (grown_belowX hb none))
        clear hb
        have B4 : Hid (Wd.BArr w4 g (fun i => x.getLsbD i)) := Lib.hid (blkD Z4.out KB.out)
        refine hK.out _ _ (Lib.hid trivial) (fun hHeld => ?_)
        clear hK K'
        simp only [Act.put, List.getElem_toArray, List.getElem_cons_succ, List.getElem_cons_zero, List.size_toArray, List.length_cons, List.length_nil, Nat.reduceAdd, Array.replicate, List.replicate, List.setIfInBounds_toArray, List.set_cons_zero, List.set_cons_succ]
        refine RD1 (i := 8) rfl (fun K' hK => ?_)
        refine wp_store_row 103 (.tmp 4) (.tmp 19) rfl g (Wd.wArr y) rfl rfl 103 (Wd.fArr fun i => x.getLsbD i) B4.out (by rw [Wd.wArr, Wd.fArr_size]; exact Wd.wide_info) (by rw [Wd.wArr, Wd.fArr_size, Wd.fArr_size]) (Wd.fArr_one _) ?_
        refine hK.out _ _ (Lib.hid trivial) (fun hHeld => ?_)
        clear hK K'
        simp only [Act.put, List.getElem_toArray, List.getElem_cons_succ, List.getElem_cons_zero, List.size_toArray, List.length_cons, List.length_nil, Nat.reduceAdd, Array.replicate, List.replicate, List.setIfInBounds_toArray, List.set_cons_zero, List.set_cons_succ]
        refine wpAnyH_done (by kernel_rfl) ?_ _
        clear hHeld
        have B5 : Hid (Wd.BArr (w4.setRow g (Wd.wArr y)) g (fun i => y.getLsbD i)) := Lib.hid (setRow_heap _ _ _ _ _ _ B4.out)
        have Z5 : Hid (w.grownBy (w4.setRow g (Wd.wArr y)) none) := Lib.hid (grown_thenX (KG.out.trans Z4.out) (grown_setRow _ _ _) (fun j e => by cases e; rw [HGG.out]; exact Nat.le_refl _))
        generalize w4.setRow g (Wd.wArr y) = w5 at *
        go_wp2_with fail
        go_roundw
        case rel => exact ⟨k + 1, by go_num, by omega, Lib.hid (by rw [HY.out]; exact B5.out), Z5⟩
        case measure => simp [intOf]; omega
      · skip
        have c1 := (show wr.drew.cell? ⟨b, off + k * 3 + 1, none⟩ = some (.int .i64 n) from C0.out)
        go_simp
        clear c1
        refine hK.out _ _ (Lib.hid trivial) (fun hHeld => ?_)
        clear hK K'
        simp only [Act.put, List.getElem_toArray, List.getElem_cons_succ, List.getElem_cons_zero, List.size_toArray, List.length_cons, List.length_nil, Nat.reduceAdd, Array.replicate, List.replicate, List.setIfInBounds_toArray, List.set_cons_zero, List.set_cons_succ]
        refine wpAnyH_ready (rs := [0, 6]) (by kernel_rfl) (by simp) ?_
        refine (AllReadyH.cons rfl (fun K' hK => ?_) (AllReadyH.cons rfl (fun K' hK => ?_) AllReadyH.nil))
        · skip
          refine wp_load_row 103 (.tmp 4) rfl g rfl 103 (Wd.wArr x) (0, 0) _ (show wr.drew.heap[g]? = _ from KB.out) Tryz.underlying103 rfl (by rw [Wd.wArr, Wd.fArr_size]; exact Wd.wide_info) ?_
          refine hK.out _ _ (Lib.hid trivial) (fun hHeld => ?_)
          clear hK K'
          simp only [Act.put, List.getElem_toArray, List.getElem_cons_succ, List.getElem_cons_zero, List.size_toArray, List.length_cons, List.length_nil, Nat.reduceAdd, Array.replicate, List.replicate, List.setIfInBounds_toArray, List.set_cons_zero, List.set_cons_succ]
          refine RD1 (i := 6) rfl (fun K' hK => ?_)
          go_simp
          go_at_call 54
          refine (HO.out _).mono ?_
          rintro e w3 ⟨rfl, hb⟩
          have Z3 : Hid (wr.grownBy w3 none) := Lib.hid ((grown_drewT (grown_reflX wr none)).trans (grown_belowX hb none))
          have B3 : Hid (Wd.BArr w3 g (fun i => x.getLsbD i)) := Lib.hid (blkD Z3.out KB.out)
          have C3 := Lib.hid (Z3.out.cell C0.out (by simp))
          clear hb
          refine hK.out _ _ (Lib.hid trivial) (fun hHeld => ?_)
          clear hK K'
          simp only [Act.put, List.getElem_toArray, List.getElem_cons_succ, List.getElem_cons_zero, List.size_toArray, List.length_cons, List.length_nil, Nat.reduceAdd, Array.replicate, List.replicate, List.setIfInBounds_toArray, List.set_cons_zero, List.set_cons_succ]
          refine RD1 (i := 7) rfl (fun K' hK => ?_)
          go_simp
          go_at_call 53
          refine (HS.out _).mono ?_
          rintro e w4 ⟨rfl, hb⟩
          have Z4 : Hid (wr.grownBy w4 none) := Lib.hid (Z3.out.trans (grown_belowX hb none))
          clear hb
          have B4 : Hid (Wd.BArr w4 g (fun i => x.getLsbD i)) := Lib.hid (blkD Z4.out KB.out)
          refine hK.out _ _ (Lib.hid trivial) (fun hHeld => ?_)
          clear hK K'
          simp only [Act.put, List.getElem_toArray, List.getElem_cons_succ, List.getElem_cons_zero, List.size_toArray, List.length_cons, List.length_nil, Nat.reduceAdd, Array.replicate, List.replicate, List.setIfInBounds_toArray, List.set_cons_zero, List.set_cons_succ]
          refine RD1 (i := 8) rfl (fun K' hK => ?_)
          refine wp_store_row 103 (.tmp 4) (.tmp 19) rfl g (Wd.wArr y) rfl rfl 103 (Wd.fArr fun i => x.getLsbD i) B4.out (by rw [Wd.wArr, Wd.fArr_size]; exact Wd.wide_info) (by rw [Wd.wArr, Wd.fArr_size, Wd.fArr_size]) (Wd.fArr_one _) ?_
          refine hK.out _ _ (Lib.hid trivial) (fun hHeld => ?_)
          clear hK K'
          simp only [Act.put, List.getElem_toArray, List.getElem_cons_succ, List.getElem_cons_zero, List.size_toArray, List.length_cons, List.length_nil, Nat.reduceAdd, Array.replicate, List.replicate, List.setIfInBounds_toArray, List.set_cons_zero, List.set_cons_succ]
          refine wpAnyH_done (by kernel_rfl) ?_ _
          clear hHeld
          have B5 : Hid (Wd.BArr (w4.setRow g (Wd.wArr y)) g (fun i => y.getLsbD i)) := Lib.hid (setRow_heap _ _ _ _ _ _ B4.out)
          have Z5 : Hid (w.grownBy (w4.setRow g (Wd.wArr y)) none) := Lib.hid (grown_thenX (KG.out.trans Z4.out) (grown_setRow _ _ _) (fun j e => by cases e; rw [HGG.out]; exact Nat.le_refl _))
          generalize w4.setRow g (Wd.wArr y) = w5 at *
          go_wp2_with fail
          go_roundw
          case rel => exact ⟨k + 1, by go_num, by omega, Lib.hid (by rw [HY.out]; exact B5.out), Z5⟩
          case measure => simp [intOf]; omega
        · go_simp
          go_at_call 54
          refine (HO.out _).mono ?_
          rintro e w3 ⟨rfl, hb⟩
          have Z3 : Hid (wr.grownBy w3 none) := Lib.hid ((grown_drewT (grown_reflX wr none)).trans (grown_belowX hb none))
          have B3 : Hid (Wd.BArr w3 g (fun i => x.getLsbD i)) := Lib.hid (blkD Z3.out KB.out)
          have C3 := Lib.hid (Z3.out.cell C0.out (by simp))
          clear hb
          refine hK.out _ _ (Lib.hid trivial) (fun hHeld => ?_)
          clear hK K'
          simp only [Act.put, List.getElem_toArray, List.getElem_cons_succ, List.getElem_cons_zero, List.size_toArray, List.length_cons, List.length_nil, Nat.reduceAdd, Array.replicate, List.replicate, List.setIfInBounds_toArray, List.set_cons_zero, List.set_cons_succ]
          refine RD1 (i := 0) rfl (fun K' hK => ?_)
          refine wp_load_row 103 (.tmp 4) rfl g rfl 103 (Wd.wArr x) (0, 0) _ (show w3.heap[g]? = _ from B3.out) Tryz.underlying103 rfl (by rw [Wd.wArr, Wd.fArr_size]; exact Wd.wide_info) ?_
          refine hK.out _ _ (Lib.hid trivial) (fun hHeld => ?_)
          clear hK K'
          simp only [Act.put, List.getElem_toArray, List.getElem_cons_succ, List.getElem_cons_zero, List.size_toArray, List.length_cons, List.length_nil, Nat.reduceAdd, Array.replicate, List.replicate, List.setIfInBounds_toArray, List.set_cons_zero, List.set_cons_succ]
          refine RD1 (i := 7) rfl (fun K' hK => ?_)
          go_simp
          go_at_call 53
          refine (HS.out _).mono ?_
          rintro e w4 ⟨rfl, hb⟩
          have Z4 : Hid (wr.grownBy w4 none) := Lib.hid (Z3.out.trans (grown_belowX hb none))
          clear hb
          have B4 : Hid (Wd.BArr w4 g (fun i => x.getLsbD i)) := Lib.hid (blkD Z4.out KB.out)
          refine hK.out _ _ (Lib.hid trivial) (fun hHeld => ?_)
          clear hK K'
          simp only [Act.put, List.getElem_toArray, List.getElem_cons_succ, List.getElem_cons_zero, List.size_toArray, List.length_cons, List.length_nil, Nat.reduceAdd, Array.replicate, List.replicate, List.setIfInBounds_toArray, List.set_cons_zero, List.set_cons_succ]
          refine RD1 (i := 8) rfl (fun K' hK => ?_)
          refine wp_store_row 103 (.tmp 4) (.tmp 19) rfl g (Wd.wArr y) rfl rfl 103 (Wd.fArr fun i => x.getLsbD i) B4.out (by rw [Wd.wArr, Wd.fArr_size]; exact Wd.wide_info) (by rw [Wd.wArr, Wd.fArr_size, Wd.fArr_size]) (Wd.fArr_one _) ?_
          refine hK.out _ _ (Lib.hid trivial) (fun hHeld => ?_)
          clear hK K'
          simp only [Act.put, List.getElem_toArray, List.getElem_cons_succ, List.getElem_cons_zero, List.size_toArray, List.length_cons, List.length_nil, Nat.reduceAdd, Array.replicate, List.replicate, List.setIfInBounds_toArray, List.set_cons_zero, List.set_cons_succ]
          refine wpAnyH_done (by kernel_rfl) ?_ _
          clear hHeld
          have B5 : Hid (Wd.BArr (w4.setRow g (Wd.wArr y)) g (fun i => y.getLsbD i)) := Lib.hid (setRow_heap _ _ _ _ _ _ B4.out)
          have Z5 : Hid (w.grownBy (w4.setRow g (Wd.wArr y)) none) := Lib.hid (grown_thenX (KG.out.trans Z4.out) (grown_setRow _ _ _) (fun j e => by cases e; rw [HGG.out]; exact Nat.le_refl _))
          generalize w4.setRow g (Wd.wArr y) = w5 at *
          go_wp2_with fail
          go_roundw
          case rel => exact ⟨k + 1, by go_num, by omega, Lib.hid (by rw [HY.out]; exact B5.out), Z5⟩
          case measure => simp [intOf]; omega
    · obtain rfl : k = m := by omega
      have HI := Lib.hid (fun W => Wd.refInt_any (xk k) W)
      rw [← HRV.out] at HI
      clear X0 X1 HAt
      go_wp2_with (first
        | (refine wpList_load_row rfl 103 (.tmp 4) rfl g rfl 103 (Wd.wArr (xk k)) (0, 0) _ KB.out Tryz.underlying103 rfl (by rw [Wd.wArr, Wd.fArr_size]; exact Wd.wide_info) ?_)
        | fail)
      refine (HI.out _).mono ?_
      rintro e w3 ⟨rfl, hb⟩
      have G3 := Lib.hid (KG.out.trans (grown_belowX hb none))
      clear hb
      have hI : rv = .tuple #[.int .i64 (xk k).toInt, .bool true] ∨ rv = .tuple #[.int .i64 0, .bool false] := by
        rw [HRV.out]; unfold Wd.intV; split
        · exact .inl rfl
        · exact .inr rfl
      clear HRV HI
      rcases hI with rfl | rfl
      · go_wp2_with fail
        go_ret2
        exact ⟨rfl, G3.out⟩
      · go_wp2_with fail
        go_ret2
        exact ⟨rfl, G3.out⟩
end Go.Proofs.YtpklajadfbigcaaGreatDoor
namespace Go.Proofs.YtpklajadfbigcaaGreatDoor
open Go.ChangeShapes Go.WideShapes Go.ChangeAt Go.RowKit Go.Joins Go.Deep

section
variable {H : Type} {enc : TypeId × Value → H}
set_option maxRecDepth 100000 in
theorem valueT_cells {W : World} {base n : Nat} {spare : Nat → Bool} {held : Bool} {cs : List Value} {y : DataW H × List MemPlace} (ht : DataW.trod enc Tryz.prog W base spare held n 37 cs = some y) (hcl : cs.length = 3) :
    ∃ x : Vv, cs = [.int .i64 x.k, .int .i64 x.n, .string x.s] ∧ In64 (vlV x) := by
  obtain ⟨c0, c1, c2, rfl⟩ : ∃ c0 c1 c2, cs = [c0, c1, c2] := by
    match cs, hcl with
    | [c0, c1, c2], _ => exact ⟨c0, c1, c2, rfl⟩
  obtain ⟨y0, y1, y2, m, _, _, h0, h1, h2⟩ := trod_struct3 Tryz.underlying37 ht
  have k0 : Tryz.prog.cellsOf 33 = 1 := by kernel_rfl
  have k1 : Tryz.prog.cellsOf 3 = 1 := by kernel_rfl
  have k2 : Tryz.prog.cellsOf 9 = 1 := by kernel_rfl
  simp only [k0, k1, k2, List.drop_zero, List.drop_succ_cons, List.take_succ_cons, List.take_zero] at h0 h1 h2
  obtain ⟨k, e0, _, _⟩ := DataW.trod_int Tryz.underlying33 h0
  obtain ⟨n, e1, _, wn⟩ := DataW.trod_int Tryz.underlying3 h1
  obtain ⟨s, e2, _, hs⟩ := DataW.trod_string Tryz.underlying9 h2
  simp only [List.cons.injEq, and_true] at e0 e1 e2
  subst e0 e1 e2
  exact ⟨⟨k, n, s⟩, rfl, fun _ => show -9223372036854775808 ≤ n ∧ n ≤ 9223372036854775807 by simpa [Lit.wf, IntKind.min, IntKind.max, IntKind.signed, IntKind.bits] using wn⟩
set_option maxRecDepth 100000 in
theorem rowT_cells {W : World} {fuel : Nat} {cs : List Value} {y : DataW H × List MemPlace} (hf : DataW.trod enc Tryz.prog W 0 (fun _ => true) true fuel 54 cs = some y) :
    ∃ (a : Option Addr) (cap : Nat) (l : List Vv), cs = [.slice a l.length cap] ∧ VvAt W.heap.size W a l ∧ l.length ≤ cap ∧ ∀ v ∈ l, In64 (vlV v) := by
  rcases open_slice Tryz.underlying54 hf with ⟨hcs, _⟩ | ⟨x, len, cap', m, n, D, Pl, hcs, _, hl, hm, hmm, _, hi⟩
  · exact ⟨none, 0, [], hcs, ⟨by simp, .inl rfl⟩, Nat.le_refl _, fun v hv => by simp at hv⟩
  · simp only [if_true] at hmm
    subst hmm
    have hx : ∀ i, i < len → ∃ x' : Vv, W.cell? ((x.add (i * Tryz.prog.cellsOf 37)).add 0) = some (.int .i64 x'.k) ∧ W.cell? ((x.add (i * Tryz.prog.cellsOf 37)).add 1) = some (.int .i64 x'.n) ∧ W.cell? ((x.add (i * Tryz.prog.cellsOf 37)).add 2) = some (.string x'.s) ∧ In64 (vlV x') := fun i hilt => by
      obtain ⟨cs', hc, ht⟩ := hi i (by omega)
      obtain ⟨_, hcl, hat⟩ := World.cells?_some hc
      obtain ⟨x', e, hin⟩ := valueT_cells ht (hcl.trans cellsS_value)
      subst e
      exact ⟨x', hat 0 (by rw [cellsS_value]; decide), hat 1 (by rw [cellsS_value]; decide), hat 2 (by rw [cellsS_value]; decide), hin⟩
    obtain ⟨f, hfun⟩ := choose_lt hx
    rw [cellsS_value] at hfun
    have hlen : ((List.range len).map f).length = len := by simp
    have hget : ∀ i, i < len → ((List.range len).map f).getD i default = f i := fun i hilt => by simp [List.getD, hilt]
    refine ⟨some x, m, (List.range len).map f, by rw [hlen]; exact hcs, ⟨by rw [hlen]; unfold maxLen at hm; omega, ?_⟩, by rw [hlen]; exact hl, fun v hv => by
      obtain ⟨i, hir, rfl⟩ := List.mem_map.1 hv
      exact (hfun i (by simpa using hir)).2.2.2⟩
    by_cases h0 : len = 0
    · left; subst h0; rfl
    · right
      have hp : x = ⟨x.block, x.off, none⟩ := cellS_plain (W := W) (v := .int .i64 (f 0).k) (by have := (hfun 0 (by omega)).1; simpa [Addr.add] using this)
      have hc0 := (hfun 0 (by omega)).1
      rw [hp] at hc0
      refine ⟨x.block, x.off, by rw [← hp], blockS_of_cell hc0, fun i hilt => ?_⟩
      rw [hlen] at hilt
      rw [hget i hilt]
      have := hfun i hilt
      rw [hp] at this
      have h3 := And.intro this.1 (And.intro this.2.1 this.2.2.1)
      simpa only [addS_plain, Nat.add_zero] using h3
theorem cellsT_row : Tryz.prog.cellsOf 54 = 1 := by kernel_rfl
set_option maxRecDepth 100000 in
theorem open_rowsT {W : World} {b0 : Nat} {v : Value} {d : DataW H} {p : List MemPlace} (hv : Value.okWide Tryz.prog W .any b0 28 v) (h : DataW.Trod enc Tryz.prog W 0 (fun _ => true) true 28 v d p) :
    ∃ (a : Option Addr) (cap : Nat) (ls : List Rwm), v = .slice a ls.length cap ∧ RwsAt W.heap.size W a ls ∧ ls.length ≤ cap ∧ ∀ x ∈ ls, ∀ v ∈ x.l, In64 (vlV v) := by
  obtain ⟨a, len, cap, rfl⟩ := okWide_slice Tryz.underlying28 hv
  obtain ⟨fuel, hf⟩ := h
  rcases open_slice Tryz.underlying28 hf with ⟨hcs, _⟩ | ⟨x, len', cap', m, n, D, Pl, hcs, _, hl, hm, hmm, _, hi⟩
  · simp [Value.cells] at hcs
    obtain ⟨rfl, rfl, rfl⟩ := hcs
    exact ⟨none, 0, [], rfl, ⟨by simp, by simp, .inl rfl⟩, Nat.le_refl _, by simp⟩
  · simp [Value.cells] at hcs
    obtain ⟨rfl, rfl, rfl⟩ := hcs
    simp only [if_true] at hmm
    subst hmm
    have hx : ∀ i, i < len → ∃ r : Rwm, (VvAt W.heap.size W r.a r.l ∧ r.l.length ≤ r.c ∧ ∀ v ∈ r.l, In64 (vlV v)) ∧ W.cell? ((x.add (i * Tryz.prog.cellsOf 54)).add 0) = some (.slice r.a r.l.length r.c) := fun i hilt => by
      obtain ⟨cs', hc, ht⟩ := hi i (by omega)
      obtain ⟨ra, rc, rl, rfl, hr⟩ := rowT_cells ht
      rw [cellsT_row] at hc
      obtain ⟨_, _, hat⟩ := World.cells?_some hc
      exact ⟨⟨ra, rc, rl⟩, hr, by rw [cellsT_row]; exact hat 0 (by omega)⟩
    obtain ⟨f, hfun⟩ := choose_lt hx
    rw [cellsT_row] at hfun
    have hlen : ((List.range len).map f).length = len := by simp
    have hget : ∀ i, i < len → ((List.range len).map f).getD i default = f i := fun i hilt => by simp [List.getD, hilt]
    refine ⟨some x, m, (List.range len).map f, by rw [hlen], ⟨by rw [hlen]; unfold maxLen at hm; omega, ?_, ?_⟩, by rw [hlen]; exact hl, ?_⟩
    · intro y hy
      rw [List.mem_map] at hy
      obtain ⟨i, hir, rfl⟩ := hy
      have := (hfun i (by simpa using hir)).1
      exact ⟨this.1, this.2.1⟩
    · by_cases h0 : len = 0
      · left; subst h0; rfl
      · right
        have hp : x = ⟨x.block, x.off, none⟩ := cellS_plain (W := W) (v := .slice (f 0).a (f 0).l.length (f 0).c) (by have := (hfun 0 (by omega)).2; simpa [Addr.add] using this)
        have hc0 := (hfun 0 (by omega)).2
        rw [hp] at hc0
        refine ⟨x.block, x.off, by rw [← hp], blockS_of_cell hc0, fun i hilt => ?_⟩
        rw [hlen] at hilt
        rw [hget i hilt]
        have := (hfun i hilt).2
        rw [hp] at this
        simpa only [addS_plain, Nat.add_zero, Nat.mul_one] using this
    · intro y hy
      rw [List.mem_map] at hy
      obtain ⟨i, hir, rfl⟩ := hy
      exact (hfun i (by simpa using hir)).1.2.2
set_option maxRecDepth 100000 in
theorem open_itemT {W : World} {b0 : Nat} {v : Value} {d : DataW H} {p : List MemPlace} (hv : Value.okWide Tryz.prog W .any b0 27 v) (h : DataW.Trod enc Tryz.prog W 0 (fun _ => true) true 27 v d p) :
    ∃ (g : Int) (M : ByteArray) (P : Int), v = .agg #[.int .i64 g, .string M, .int .i64 P] ∧ M.size ≤ maxLen := by
  obtain ⟨cs, rfl, hsz⟩ := okWide_struct Tryz.underlying27 hv
  obtain ⟨fuel, hf⟩ := h
  have h3 : cs.size = 3 := hsz.trans (by kernel_rfl)
  obtain ⟨c0, c1, c2, rfl⟩ : ∃ c0 c1 c2, cs = #[c0, c1, c2] := by
    obtain ⟨l⟩ := cs
    match l, h3 with
    | [c0, c1, c2], _ => exact ⟨c0, c1, c2, rfl⟩
  obtain ⟨y0, y1, y2, m, _, _, h0, h1, h2⟩ := trod_struct3 Tryz.underlying27 hf
  have k0 : Tryz.prog.cellsOf 25 = 1 := by kernel_rfl
  have k1 : Tryz.prog.cellsOf 9 = 1 := by kernel_rfl
  have k2 : Tryz.prog.cellsOf 3 = 1 := by kernel_rfl
  simp only [k0, k1, k2, Value.cells, List.drop_zero, List.drop_succ_cons, List.take_succ_cons, List.take_zero] at h0 h1 h2
  obtain ⟨k, e0, _, _⟩ := DataW.trod_int Tryz.underlying25 h0
  obtain ⟨s, e1, _, hs⟩ := DataW.trod_string Tryz.underlying9 h1
  obtain ⟨n, e2, _, wn⟩ := DataW.trod_int Tryz.underlying3 h2
  simp only [List.cons.injEq, and_true] at e0 e1 e2
  subst e0 e1 e2
  exact ⟨k, s, n, rfl, hs⟩
end
end Go.Proofs.YtpklajadfbigcaaGreatDoor
