/- The law LexBlanks, walked: true at any text, with any gaps. -/
import Derived.Test.YtiahojbliaaklaaDoorLxBs
import Derived.Test.YtiahojbliaaklaaDoorLxOr
namespace Go.Proofs.YtiahojbliaaklaaDoor
open Go.RowKit

/-- The gap behind a token. -/
def gapF (gs : List UInt8) (i : Nat) : List UInt8 := if gs = [] then [] else if (gs.getD (i % gs.length) 0).toNat % 3 = 0 then [] else if (gs.getD (i % gs.length) 0).toNat % 3 = 1 then [9] else [13, 10]
theorem gapF_bl (gs : List UInt8) (i : Nat) : ∀ b ∈ gapF gs i, blankB b = true := by
  intro b hb
  unfold gapF at hb
  split at hb
  · simp at hb
  · split at hb
    · simp at hb
    · split at hb
      · simp at hb; subst hb; decide
      · simp at hb; rcases hb with rfl | rfl <;> decide
/-- The tokens with their gaps, from the i-th on. -/
def withG (gs : List UInt8) : Nat → List Tk → List (Tk × List UInt8)
  | _, [] => []
  | i, t :: r => (t, gapF gs i) :: withG gs (i + 1) r
theorem withG_len (gs : List UInt8) : ∀ (l : List Tk) (i : Nat), (withG gs i l).length = l.length
  | [], _ => rfl
  | t :: r, i => by simp [withG, withG_len gs r]
theorem withG_fst (gs : List UInt8) : ∀ (l : List Tk) (i : Nat), (withG gs i l).map (fun x => kt x.1) = l.map kt
  | [], _ => rfl
  | t :: r, i => by simp [withG, withG_fst gs r]
theorem withG_mem (gs : List UInt8) : ∀ (l : List Tk) (i : Nat) (x : Tk × List UInt8), x ∈ withG gs i l → x.1 ∈ l ∧ ∀ b ∈ x.2, blankB b = true
  | [], _, _, h => by cases h
  | t :: r, i, x, h => by
    rcases List.mem_cons.1 h with rfl | h
    · exact ⟨by simp, gapF_bl gs i⟩
    · have := withG_mem gs r (i + 1) x h; exact ⟨by simp [this.1], this.2⟩
theorem withG_snoc (gs : List UInt8) : ∀ (l : List Tk) (i : Nat) (t : Tk), withG gs i (l ++ [t]) = withG gs i l ++ [(t, gapF gs (i + l.length))]
  | [], i, t => rfl
  | a :: r, i, t => by
    rw [List.cons_append, withG, withG_snoc gs r (i + 1) t, withG, List.length_cons, show i + 1 + r.length = i + (r.length + 1) by omega]; rfl
theorem flatP_snoc (ps : List (Tk × List UInt8)) (x : Tk × List UInt8) : flatP (ps ++ [x]) = flatP ps ++ (x.1.text.data.toList ++ 32 :: x.2) := by simp [flatP]
/-- What the text that is put together says. -/
theorem blanks_lex (s T : ByteArray) (l ts : List Tk) (gs : List UInt8) (hl : l.length ≤ 251) (hts : l = ts ++ [⟨0, ⟨#[]⟩, s.size⟩]) (hg : ∀ t ∈ ts, ∀ g : List UInt8, (∀ b ∈ g, blankB b = true) → Gap (t, g)) (hT : T.data.toList = flatP (withG gs 0 ts)) :
    (1500 < T.size → lexL T = .error (1500, 13)) ∧ (T.size ≤ 1500 → ∃ m, lexL T = .ok m ∧ m.map kt = l.map kt) := by
  refine ⟨fun h => by unfold lexL; rw [if_pos h], fun h => ?_⟩
  have hlen : ts.length ≤ 250 := by rw [hts, List.length_append, List.length_singleton] at hl; omega
  obtain ⟨r, hr, hm⟩ := lex_gaps T (withG gs 0 ts) (T.size + 1) 0 [] [] (by rw [List.drop_zero, hT]; rfl) (fun b hb => by cases hb) (fun x hx => by
    have := withG_mem gs ts 0 x hx
    exact hg x.1 this.1 x.2 this.2) (by rw [withG_len]; simpa using hlen) (by omega) (by omega)
  refine ⟨r, by unfold lexL; rw [if_neg (by omega), hr]; rfl, ?_⟩
  rw [hm, withG_fst, hts, List.map_append]; rfl
theorem kt_at {m l : List Tk} (h : m.map kt = l.map kt) (i : Nat) (hi : i < l.length) : ∃ (pm pl rm rl : List Tk) (x y : Tk), m = pm ++ x :: rm ∧ l = pl ++ y :: rl ∧ pm.length = i ∧ pl.length = i ∧ x.kind = y.kind ∧ x.text = y.text := by
  have hlen : m.length = l.length := by have := congrArg List.length h; simpa using this
  have h1 : (m[i]?).map kt = (l[i]?).map kt := by
    have := congrArg (fun z => z[i]?) h
    simpa using this
  rw [List.getElem?_eq_getElem hi, List.getElem?_eq_getElem (by omega : i < m.length)] at h1
  simp [kt] at h1
  refine ⟨m.take i, l.take i, m.drop (i + 1), l.drop (i + 1), m[i], l[i], ?_, ?_, by rw [List.length_take]; omega, by rw [List.length_take]; omega, h1.1, h1.2⟩
  · rw [← List.drop_eq_getElem_cons, List.take_append_drop]
  · rw [← List.drop_eq_getElem_cons, List.take_append_drop]
theorem Seq.small {s : ByteArray} {k : Nat} {l : List Tk} (h : Seq s k l) : ∀ t ∈ l, t.text.size ≤ s.size := by
  induction h with
  | last k hk hb => intro t ht; rw [List.mem_singleton] at ht; subst ht; exact Nat.zero_le _
  | more k q M kd r h1 h2 h3 hk hb ht hr ih =>
    intro t hm
    rcases List.mem_cons.1 hm with rfl | hm
    · show (s.extract q (q + M)).size ≤ s.size
      rw [ByteArray.size_extract]; omega
    · exact ih t hm
theorem cat_bytes (a b : ByteArray) : (a ++ b).data.toList = a.data.toList ++ b.data.toList := by simp
set_option maxRecDepth 100000 in
set_option maxHeartbeats 6400000 in
theorem LexBlanks_walk (G : Nat) (n g m l : Addr) (s : ByteArray) (a : Option Addr) (cap : Nat) (gs : List UInt8) (w : World) (hE : LxEnv G n g m l w)
    (hgs : gs = [] ∨ ∃ b off, a = some ⟨b, off, none⟩ ∧ b < w.heap.size ∧ ∀ i, i < gs.length → w.cell? ⟨b, off + i, none⟩ = some (.int .u8 (gs.getD i 0).toNat)) (hgc : gs.length ≤ cap) (hgm : gs.length ≤ maxLen) :
    Calls Tryd.prog 5 #[.string s, .slice a gs.length cap] w fun e w' => e = .returned (.bool true) ∧ w.grownBy w' none := by
  unfold maxLen at hgm
  have HA := Lib.hid (fun W (hW : w.grownBy W none) => awake10_any G n g m l W (hE.keep hW))
  have HL := Lib.hid (fun S W (hW : w.grownBy W none) => Lex_any G n g m l S W (hE.keep hW))
  have HSq := Lib.hid (lexL_seq s)
  have HLn := Lib.hid (lexL_len s)
  have HCd := Lib.hid (lexL_codes s)
  have HGs := Lib.hid hgs
  clear hE hgs
  by_cases hs : s.size ≤ 600
  · have hs' : (s.size : Int) ≤ 600 := by omega
    have HLs := Lib.hid (HL.out s)
    generalize lexL s = rr at *
    obtain ⟨gl, hgl⟩ : ∃ gl, gl = gs.length := ⟨_, rfl⟩
    have HGl := Lib.hid hgl
    rw [← hgl] at hgc hgm ⊢
    clear hgl
    go_enter Tryd.func5, Tryd.ntmps5
    go_wp2_with fail
    refine (HA.out _ (grown_reflX _ _)).mono ?_
    rintro e w1 ⟨rfl, hg⟩
    have K1 := Lib.hid hg
    clear hg
    go_wp2_with fail
    refine (HLs.out _ K1.out).mono ?_
    rintro e w2 h
    rcases h with ⟨p, c, hr, rfl, hg⟩ | ⟨t, v, hr, rfl, ho, hg⟩
    · have K2 := Lib.hid (K1.out.trans hg)
      have hc := HCd.out p c hr
      have tc : ((c : Int) != 0) = true := by rw [bne_iff_ne]; omega
      clear hg hr hc
      go_wp2_with fail
      go_ret
      exact ⟨rfl, K2.out⟩
    · have K2 := Lib.hid (K1.out.trans hg)
      have hsq := (HSq.out t hr).1
      have hln := HLn.out t hr
      obtain ⟨ts, hts, hgap⟩ := hsq.gaps
      have HSm := Lib.hid hsq.small
      have hN : t.length = ts.length + 1 := by rw [hts]; simp
      obtain ⟨gb, cb, rfl, hcb, _, _⟩ := own_at ho (by omega)
      have O := Lib.hid ho
      obtain ⟨M, hM⟩ : ∃ M, M = ts.length := ⟨_, rfl⟩
      rw [hN, ← hM] at O hcb ⊢
      have HN := Lib.hid hN
      have HM := Lib.hid hM
      have HTs := Lib.hid hts
      have HBl := Lib.hid (fun T hT => blanks_lex s T t ts gs hln hts hgap hT)
      have n1 : (M : Int) ≤ 250 := by omega
      have n2 : (0 : Int) ≤ M := by omega
      have n3 : (((M + 1 : Nat) : Int)) - 1 = (M : Int) := by omega
      clear hg hr hsq ho hN hM hts hgap
      go_wp2_with fail
      go_loopw [8, 37] (fun tx i wr => ∃ (q : Nat) (T : ByteArray) (pre r : List Tk), tx = .string T ∧ i = .int .i64 q ∧ q ≤ M ∧ T.size ≤ 700 * q ∧ Hid (q = pre.length) ∧ Hid (ts = pre ++ r) ∧ Hid (T.data.toList = flatP (withG gs 0 pre)) ∧ Hid (w2.grownBy wr none)) (fun _ i _ => M - (intOf i).toNat)
      case atStart => exact ⟨0, ⟨#[]⟩, [], ts, rfl, rfl, by omega, by decide, Lib.hid rfl, Lib.hid rfl, Lib.hid rfl, Lib.hid (grown_reflX _ _)⟩
      case round =>
        obtain ⟨q, T, pre, r, rfl, rfl, hq, hTs, Q, TT, TX, GW⟩ := hrel
        have b0 : (0 : Int) ≤ q := by omega
        by_cases hlt : q < M
        · have b1 : (q : Int) < M := by omega
          have b2 : (q : Int) < (M : Int) + 1 := by omega
          obtain ⟨x, r', hr⟩ : ∃ x r', r = x :: r' := by
            cases r with
            | nil => have h1 := HM.out; rw [TT.out, List.append_nil, ← Q.out] at h1; omega
            | cons x r' => exact ⟨x, r', rfl⟩
          subst hr
          have O2 := O.out.kept GW.out (.inr (by simp [Value.ownBlock]))
          have ht2 : t = pre ++ x :: (r' ++ [⟨0, ⟨#[]⟩, s.size⟩]) := by rw [HTs.out, TT.out]; simp
          rw [ht2] at O2
          obtain ⟨c0, c1, c2⟩ := tk_cell O2 (by rw [← ht2, HN.out, HM.out])
          rw [← Q.out] at c0 c1 c2
          have hsm := HSm.out x (by rw [ht2]; simp)
          have Q2 : Hid (q + 1 = (pre ++ [x]).length) := Lib.hid (by rw [List.length_append, ← Q.out]; rfl)
          have T2 : Hid (ts = (pre ++ [x]) ++ r') := Lib.hid (by rw [TT.out]; simp)
          have W2 : Hid (∀ T' : ByteArray, T'.data.toList = T.data.toList ++ (x.text.data.toList ++ 32 :: gapF gs q) → T'.data.toList = flatP (withG gs 0 (pre ++ [x]))) := Lib.hid fun T' h => by
            rw [h, withG_snoc, flatP_snoc, TX.out, Nat.zero_add, ← Q.out]
          obtain ⟨xk, xt, xp⟩ := x
          simp only at c0 c1 c2 hsm
          have HXs : Hid (∀ y : List UInt8, ((Tk.mk xk xt xp).text.data.toList ++ 32 :: y) = xt.data.toList ++ 32 :: y) := Lib.hid fun _ => rfl
          clear O2 ht2
          by_cases h0 : gl = 0
          · have g0 : ¬ (0 : Int) < gl := by omega
            have hgap : Hid (gapF gs q = []) := Lib.hid (by unfold gapF; rw [if_pos (List.eq_nil_of_length_eq_zero (by rw [← HGl.out]; exact h0))])
            clear h0
            go_wp2_with fail
            go_roundw
            case rel => exact ⟨q + 1, _, pre ++ [Tk.mk xk xt xp], r', rfl, by go_num, by omega, by simp only [ByteArray.size_append, show (⟨#[32]⟩ : ByteArray).size = 1 from rfl, show (⟨#[9]⟩ : ByteArray).size = 1 from rfl, show (⟨#[13, 10]⟩ : ByteArray).size = 2 from rfl, show (⟨#[]⟩ : ByteArray).size = 0 from rfl]; omega, Q2, T2, Lib.hid (W2.out _ (by rw [hgap.out]; simp)), Lib.hid (GW.out.trans (World.grownBy_alloc _ _ _))⟩
            case measure => simp [intOf]; omega
          · have g0 : (0 : Int) < gl := by omega
            obtain ⟨b, off, rfl, hbl, hcs⟩ : ∃ b off, a = some ⟨b, off, none⟩ ∧ b < w.heap.size ∧ ∀ i, i < gs.length → w.cell? ⟨b, off + i, none⟩ = some (.int .u8 (gs.getD i 0).toNat) := by
              rcases HGs.out with h | h
              · have h1 := HGl.out; rw [h, List.length_nil] at h1; omega
              · exact h
            obtain ⟨j, hj1⟩ : ∃ j, j = q % gl := ⟨_, rfl⟩
            have hj2 : j < gl := by rw [hj1]; exact Nat.mod_lt _ (by omega)
            have hj3 : j = q % gs.length := by rw [hj1, HGl.out]
            have cg := (K2.out.trans GW.out).cell (hcs j (by rw [← HGl.out]; exact hj2)) (by simp)
            obtain ⟨y, hy⟩ : ∃ y, y = (gs.getD j 0).toNat := ⟨_, rfl⟩
            rw [← hy] at cg
            have hy256 : y < 256 := by rw [hy]; exact UInt8.toNat_lt _
            have y0 : (0 : Int) ≤ y := by omega
            have y1 : (y : Int) < 256 := by omega
            have j0 : (0 : Int) ≤ j := by omega
            have j1 : (j : Int) < gl := by omega
            have j2 : (q : Int) % (gl : Int) = (j : Int) := by rw [hj1]; rfl
            have j3 : (q : Int).tmod (gl : Int) = (j : Int) := by rw [Int.tmod_eq_emod_of_nonneg (by omega)]; exact j2
            have hbl2 : b < wr.heap.size := by have h1 := (K2.out.trans GW.out).size; omega
            have j4 : (j : Int) < cap := by omega
            clear hcs hj1
            have ix0 : ∀ w, (Instr.index 31 (.agg #[.string ⟨#[]⟩, .string ⟨#[9]⟩, .string ⟨#[13, 10]⟩]) (.int .u8 0)).run Tryd.prog w = .ok (.string ⟨#[]⟩) w := fun _ => by kernel_rfl
            have ix1 : ∀ w, (Instr.index 31 (.agg #[.string ⟨#[]⟩, .string ⟨#[9]⟩, .string ⟨#[13, 10]⟩]) (.int .u8 1)).run Tryd.prog w = .ok (.string ⟨#[9]⟩) w := fun _ => by kernel_rfl
            have ix2 : ∀ w, (Instr.index 31 (.agg #[.string ⟨#[]⟩, .string ⟨#[9]⟩, .string ⟨#[13, 10]⟩]) (.int .u8 2)).run Tryd.prog w = .ok (.string ⟨#[13, 10]⟩) w := fun _ => by kernel_rfl
            rcases (by omega : y % 3 = 0 ∨ y % 3 = 1 ∨ y % 3 = 2) with he | he | he
            · have hgap : Hid (gapF gs q = []) := Lib.hid (by
                unfold gapF
                rw [if_neg (fun e => by have h1 := HGl.out; rw [e, List.length_nil] at h1; omega)]
                rw [← hj3, ← hy]
                simp [he])
              have e1 : ((y : Int)) % 3 = 0 := by omega
              have e2 : ((y : Int)).tmod 3 = 0 := by rw [Int.tmod_eq_emod_of_nonneg (by omega)]; omega
              clear he hj3 hy
              go_wp2_with fail
              go_roundw
              case rel => exact ⟨q + 1, _, pre ++ [Tk.mk xk xt xp], r', rfl, by go_num, by omega, by simp only [ByteArray.size_append, show (⟨#[32]⟩ : ByteArray).size = 1 from rfl, show (⟨#[9]⟩ : ByteArray).size = 1 from rfl, show (⟨#[13, 10]⟩ : ByteArray).size = 2 from rfl, show (⟨#[]⟩ : ByteArray).size = 0 from rfl]; omega, Q2, T2, Lib.hid (W2.out _ (by rw [hgap.out]; simp)), Lib.hid (GW.out.trans (World.grownBy_alloc _ _ _))⟩
              case measure => simp [intOf]; omega
            · have hgap : Hid (gapF gs q = [9]) := Lib.hid (by
                unfold gapF
                rw [if_neg (fun e => by have h1 := HGl.out; rw [e, List.length_nil] at h1; omega)]
                rw [← hj3, ← hy]
                simp [he])
              have e1 : ((y : Int)) % 3 = 1 := by omega
              have e2 : ((y : Int)).tmod 3 = 1 := by rw [Int.tmod_eq_emod_of_nonneg (by omega)]; omega
              clear he hj3 hy
              go_wp2_with fail
              go_roundw
              case rel => exact ⟨q + 1, _, pre ++ [Tk.mk xk xt xp], r', rfl, by go_num, by omega, by simp only [ByteArray.size_append, show (⟨#[32]⟩ : ByteArray).size = 1 from rfl, show (⟨#[9]⟩ : ByteArray).size = 1 from rfl, show (⟨#[13, 10]⟩ : ByteArray).size = 2 from rfl, show (⟨#[]⟩ : ByteArray).size = 0 from rfl]; omega, Q2, T2, Lib.hid (W2.out _ (by rw [hgap.out]; simp)), Lib.hid (GW.out.trans (World.grownBy_alloc _ _ _))⟩
              case measure => simp [intOf]; omega
            · have hgap : Hid (gapF gs q = [13, 10]) := Lib.hid (by
                unfold gapF
                rw [if_neg (fun e => by have h1 := HGl.out; rw [e, List.length_nil] at h1; omega)]
                rw [← hj3, ← hy]
                simp [he])
              have e1 : ((y : Int)) % 3 = 2 := by omega
              have e2 : ((y : Int)).tmod 3 = 2 := by rw [Int.tmod_eq_emod_of_nonneg (by omega)]; omega
              clear he hj3 hy
              go_wp2_with fail
              go_roundw
              case rel => exact ⟨q + 1, _, pre ++ [Tk.mk xk xt xp], r', rfl, by go_num, by omega, by simp only [ByteArray.size_append, show (⟨#[32]⟩ : ByteArray).size = 1 from rfl, show (⟨#[9]⟩ : ByteArray).size = 1 from rfl, show (⟨#[13, 10]⟩ : ByteArray).size = 2 from rfl, show (⟨#[]⟩ : ByteArray).size = 0 from rfl]; omega, Q2, T2, Lib.hid (W2.out _ (by rw [hgap.out]; simp)), Lib.hid (GW.out.trans (World.grownBy_alloc _ _ _))⟩
              case measure => simp [intOf]; omega
        · obtain rfl : q = M := by omega
          have hpr : pre = ts := by
            have h1 := HM.out
            rw [TT.out, List.length_append, ← Q.out] at h1
            have h2 : r = [] := List.eq_nil_of_length_eq_zero (by omega)
            rw [TT.out, h2, List.append_nil]
          have hbl := HBl.out T (by rw [← hpr]; exact TX.out)
          have HLT := Lib.hid (HL.out T)
          have KW := Lib.hid (K2.out.trans GW.out)
          have OW := Lib.hid (O.out.kept GW.out (.inr (by simp [Value.ownBlock])))
          have hTb : (T.size : Int) ≤ 200000 := by omega
          clear hpr
          go_wp2_with fail
          refine (HLT.out _ KW.out).mono ?_
          rintro e w3 h
          by_cases hbig : 1500 < T.size
          · rw [hbl.1 hbig] at h
            rcases h with ⟨p, c, hr2, rfl, hg⟩ | ⟨t', v, hr2, _⟩
            · cases hr2
              have K3 := Lib.hid (KW.out.trans hg)
              have t2 : (1500 : Int) < T.size := by omega
              clear hg hbl hbig
              go_wp2_with fail
              go_ret
              exact ⟨rfl, K3.out⟩
            · cases hr2
          · obtain ⟨tm, htm, hkt⟩ := hbl.2 (by omega)
            rw [htm] at h
            rcases h with ⟨p, c, hr2, _⟩ | ⟨t', v, hr2, rfl, ho, hg⟩
            · cases hr2
            · cases hr2
              have hlm : tm.length = q + 1 := by
                have h1 := congrArg List.length hkt
                rw [List.length_map, List.length_map] at h1
                rw [h1, HN.out, HM.out]
              rw [hlm] at ho
              obtain ⟨gc, cc, rfl, hcc, _, _⟩ := own_at ho (by omega)
              have OT := Lib.hid ho
              have OS := Lib.hid (OW.out.kept hg (.inr (by simp [Value.ownBlock])))
              have K3 := Lib.hid (KW.out.trans hg)
              have KT := Lib.hid hkt
              have LM := Lib.hid hlm
              have t2 : ¬ (1500 : Int) < T.size := by omega
              clear hg hbl hbig ho htm hkt hlm
              go_wp2_with fail
              go_loopw [85] (fun i wr => ∃ k : Nat, i = .int .i64 k ∧ k ≤ q + 1 ∧ Hid (w3.grownBy wr none)) (fun i _ => q + 1 - (intOf i).toNat)
              case atStart => exact ⟨0, rfl, by omega, Lib.hid (grown_reflX _ _)⟩
              case round =>
                obtain ⟨k, rfl, hk, GX⟩ := hrel
                have d0 : (0 : Int) ≤ k := by omega
                by_cases hlt2 : k < q + 1
                · have d1 : (k : Int) < (q : Int) + 1 := by omega
                  obtain ⟨pm, pl, rm, rl, x, y, hm, hl, hpm, hpl, hk1, hk2⟩ := kt_at KT.out k (by rw [HN.out, ← HM.out]; exact hlt2)
                  have OT2 := OT.out.kept GX.out (.inr (by simp [Value.ownBlock]))
                  have OS2 := OS.out.kept GX.out (.inr (by simp [Value.ownBlock]))
                  have hn1 := LM.out
                  have hn2 : q + 1 = t.length := by rw [HN.out, HM.out]
                  rw [hm] at OT2 hn1
                  rw [hl] at OS2 hn2
                  obtain ⟨c0, c1, _⟩ := tk_cell OT2 hn1.symm
                  obtain ⟨e0, e1, _⟩ := tk_cell OS2 hn2
                  rw [hpm] at c0 c1
                  rw [hpl] at e0 e1
                  rw [hk1] at c0
                  rw [hk2] at c1
                  obtain ⟨yk, yt, yp⟩ := y
                  simp only at c0 c1 e0 e1
                  have f0 : ((yk : Int) != (yk : Int)) = false := by simp
                  have f1 : (yt.toList != yt.toList) = false := by simp
                  clear OT2 OS2 hn1 hn2 hm hl hk1 hk2 hpm hpl
                  go_wp2_with fail
                  go_quiet (fail)
                  go_wp2_with fail
                  go_roundw
                  case rel => exact ⟨k + 1, by go_num, by omega, Lib.hid (grown_drewX GX.out _)⟩
                  case measure => simp [intOf]; omega
                · obtain rfl : k = q + 1 := by omega
                  go_wp2_with fail
                  go_ret
                  exact ⟨rfl, K3.out.trans GX.out⟩
  · have hs' : (600 : Int) < s.size := by omega
    clear hs
    generalize gs.length = gl at *
    go_enter Tryd.func5, Tryd.ntmps5
    go_wp2_with fail
    refine (HA.out _ (grown_reflX _ _)).mono ?_
    rintro e w1 ⟨rfl, hg⟩
    have K1 := Lib.hid hg
    clear hg
    go_wp2_with fail
    refine (HA.out _ K1.out).mono ?_
    rintro e w2 ⟨rfl, hg⟩
    have K2 := Lib.hid (K1.out.trans hg)
    clear hg
    go_wp2_with fail
    go_ret
    exact ⟨rfl, K2.out⟩
end Go.Proofs.YtiahojbliaaklaaDoor
