/- The document's Rows; Tells; Do. -/
import Derived.Test.YtlmoefiajioeoaaTkG
import Derived.Test.YtlmoefiajioeoaaTrA
namespace Go.Proofs.Ytlmoefiajioeoaa
open Go.RowKit

theorem fromP_nil (l : List Pw) : fromP [] l = l.map Pw.r := by
  unfold fromP
  rw [List.filter_eq_self.2]
  intro x _
  have : ¬ rowsOrd x.k.l [] < 0 := by
    cases x.k.l with
    | nil => simp [rowsOrd]
    | cons a l => simp [rowsOrd]
  simp [this]
set_option maxRecDepth 100000 in
set_option maxHeartbeats 3200000 in
theorem refRowsP_any (S : Nat → Prop) (a : Ptr) (cap : Nat) (l : List Pw) (w : World) (h : PsS S w a l) (hcap : l.length ≤ cap) (hlg : ∀ x ∈ l, x.k.l.all Vl.good = true) :
    Calls Try.prog 37 #[.slice a l.length cap] w fun e w' => (∃ ao co, e = .returned (.slice ao l.length co) ∧ l.length ≤ co ∧ RsAt w' ao (l.map Pw.r)) ∧ w.grownBy w' none := by
  have HF := Lib.hid (refFrom_any S a none cap 0 l [] (l.length : Nat) w h hcap ⟨by simp, by simp, .inl rfl⟩ rfl hlg)
  have e : (fromP [] l).take ((l.length : Nat) : Int).toNat = l.map Pw.r := by
    rw [fromP_nil, List.take_of_length_le (by rw [List.length_map, Int.toNat_natCast]; exact Nat.le_refl _)]
  rw [e] at HF
  have HP := Lib.hid h
  have hlen := h.1
  simp only [List.length_nil] at HF
  clear h e hlg
  obtain ⟨n, hn⟩ : ∃ n, n = l.length := ⟨_, rfl⟩
  have Hn := Lib.hid hn
  rw [← hn] at HF hcap hlen ⊢
  clear hn
  go_enter Try.func37, Try.ntmps37
  go_wp2_with fail
  refine HF.out.mono ?_
  rintro e w1 ⟨⟨v, rfl, ho⟩, hg⟩
  have G := Lib.hid hg
  obtain ⟨ao, co, rfl, hco, hrs⟩ := own_rs (S := S) ho (by rw [List.length_map, ← Hn.out]; omega) (fun x hx => by
    rw [List.mem_map] at hx
    obtain ⟨y, hy, rfl⟩ := hx
    exact (HP.out.2.1 y hy).2.keep (.of hg))
  have hl2 : (l.map Pw.r).length = n := by rw [List.length_map, Hn.out]
  rw [hl2] at hco ⊢
  have D := Lib.hid (And.intro hco hrs)
  clear ho hg hrs hco hl2
  go_wp2_with fail
  go_ret
  exact ⟨⟨ao, co, rfl, D.out.1, D.out.2⟩, G.out⟩
set_option maxRecDepth 100000 in
set_option maxHeartbeats 6400000 in
theorem Tells_any (t : Tre) (p a ka : Ptr) (cap kc : Nat) (l : List Pw) (key : List Vl) (w : World) (ht : TrAt Any w t p) (h : PsS Any w a l) (hcap : l.length ≤ cap) (he : Eq7 t l 90000) (hk : RowAt w ka key) (hkl : key.length ≤ 4294967296) :
    Calls Try.prog 13 #[.pointer p, .slice a l.length cap, .slice ka key.length kc] w fun e w' => e = .returned (.bool true) ∧ w.grownBy w' none := by
  have hn := he.n
  have hfew := he.few
  have C1 := Lib.hid (Get_any Any t p ka kc key w ht he.sort (by omega) hk hkl)
  have C2 := Lib.hid (fun W (hW : w.grownBy W none) => refGet_any Any a ka cap kc l key W (h.keep (.of hW)) hcap (hk.keep (below_grownT hW)))
  have C3 := Lib.hid (fun W (hW : w.grownBy W none) => height_any Any t p W (ht.keep (.of hW)))
  have C4 := Lib.hid (fun W (hW : w.grownBy W none) => rowsT_any Any t p W (ht.keep (.of hW)) he.sort (by omega))
  have C5 := Lib.hid (fun W (hW : w.grownBy W none) => refRowsP_any Any a cap l W (h.keep (.of hW)) hcap he.good)
  have C7 := Lib.hid (fun W (hW : w.grownBy W none) => hn ▸ len_any Any t p W (ht.keep (.of hW)))
  have C9 := Lib.hid (fun W => show Calls Try.prog 40 #[.int .i64 ((l.length : Int) + 1)] W fun e w' => e = .returned (.int .i64 (bitsN (l.length + 1) : Nat)) ∧ W = w' from refBits_any (l.length + 1) W (by omega))
  have hhb := high t he.ok
  rw [hn] at hhb
  have hh0 : (t.h = 0) ↔ (l.length = 0) := by
    rw [← hn]
    constructor
    · intro h0
      cases t with
      | nil => rfl
      | node a b c d => simp [Tr.h] at h0
    · intro h0
      have := Tr.n_zero h0
      subst this
      rfl
  have hbl := bitsN_le (l.length + 1)
  have HS := Lib.hid he.same
  have HP := Lib.hid h
  rw [he.same] at C1
  have hhl := Tr.h_le t
  rw [hn] at hhl
  generalize t.h = hh at *
  obtain ⟨n, hnn⟩ : ∃ n, n = l.length := ⟨_, rfl⟩
  have Hn := Lib.hid hnn
  rw [← hnn] at C2 C5 C7 C9 hhb hh0 hbl hcap hfew hhl ⊢
  obtain ⟨m, hm⟩ : ∃ m, m = key.length := ⟨_, rfl⟩
  rw [← hm] at C1 C2 ⊢
  have C0 := Lib.hid (grown_reflT w none)
  generalize hbb : bitsN (n + 1) = bb at *
  have hx : ((2 : Int) * hh ≤ 3 * bb) := by omega
  have hw1 : IntKind.i64.wrap (2 * (hh : Int)) = 2 * (hh : Int) := by rw [IntKind.wrap_i64]; omega
  have hw2 : IntKind.i64.wrap (3 * (bb : Int)) = 3 * (bb : Int) := by rw [IntKind.wrap_i64]; omega
  have hz : (((hh : Int) == 0) == ((n : Int) == 0)) = true := by
    by_cases h0 : n = 0
    · have e1 : ((hh : Int) == 0) = true := beq_iff_eq.2 (by have := hh0.2 h0; omega)
      have e2 : ((n : Int) == 0) = true := beq_iff_eq.2 (by omega)
      rw [e1, e2]; rfl
    · have e1 : ((hh : Int) == 0) = false := beq_eq_false_iff_ne.2 (fun h => h0 (hh0.1 (by omega)))
      have e2 : ((n : Int) == 0) = false := beq_eq_false_iff_ne.2 (by omega)
      rw [e1, e2]; rfl
  have HZ := Lib.hid (And.intro hx (And.intro hw1 (And.intro hw2 hz)))
  clear ht h he hk hkl hm hnn hn hhb hbl hbb hh0 hx hw1 hw2 hz hhl
  go_enter Try.func13, Try.ntmps13
  go_wp2_with fail
  refine C1.out.mono ?_
  rintro e w1 ⟨hr1, hg1⟩
  have G1 := Lib.hid hg1
  obtain ⟨x1, q1, c1, b, rfl, D2⟩ : ∃ (x1 : Ptr) (q1 c1 : Nat) (b : Bool), e = .returned (.tuple #[.slice x1 q1 c1, .bool b]) ∧ Hid (∀ W, w1.grownBy W none → Calls Try.prog 36 #[.slice a n cap, .slice ka m kc] W fun e w' => (∃ (x2 : Ptr) (q2 c2 : Nat), e = .returned (.tuple #[.slice x2 q2 c2, .bool b]) ∧ Hid (∀ W', w'.grownBy W' none → Calls Try.prog 39 #[.slice x1 q1 c1, .slice x2 q2 c2] W' fun e w'' => e = .returned (.bool true) ∧ W'.grownBy w'' none)) ∧ W.grownBy w' none) := by
    rcases hr1 with ⟨a1, c1, r, rfl, hrw, hlk⟩ | ⟨rfl, hlk⟩
    · refine ⟨a1, r.length, c1, true, rfl, Lib.hid fun W hW => (C2.out W (G1.out.trans hW)).mono ?_⟩
      rintro e w' ⟨h, hg⟩
      rcases h with ⟨x, hx, rfl, hl⟩ | ⟨_, hl⟩
      · rw [hlk] at hl
        have hrl : x.r.l = r := (Option.some.inj hl).symm
        refine ⟨⟨x.r.a, x.r.l.length, x.r.cap, rfl, Lib.hid fun W' hW' => ?_⟩, hg⟩
        have h1 := hrw.keep (.of ((hW.trans hg).trans hW'))
        have h2 := (HP.out.2.1 x hx).2.keep (S := Any) (.of (((G1.out.trans hW).trans hg).trans hW'))
        refine (refSame_any a1 x.r.a c1 x.r.cap r x.r.l W' h1.row h2.row).mono fun e w'' h => ⟨?_, grown_belowT h.2 none⟩
        rw [h.1, hrl, (ro_zero r r).2 rfl]
        rfl
      · rw [hlk] at hl; cases hl
    · refine ⟨none, 0, 0, false, rfl, Lib.hid fun W hW => (C2.out W (G1.out.trans hW)).mono ?_⟩
      rintro e w' ⟨h, hg⟩
      rcases h with ⟨x, hx, _, hl⟩ | ⟨rfl, _⟩
      · rw [hlk] at hl; cases hl
      · refine ⟨⟨none, 0, 0, rfl, Lib.hid fun W' hW' => ?_⟩, hg⟩
        exact (refSame_any none none 0 0 [] [] W' ⟨by simp, by simp, .inl rfl⟩ ⟨by simp, by simp, .inl rfl⟩).mono fun e w'' h => ⟨h.1, grown_belowT h.2 none⟩
  clear hr1 hg1 C1 C2
  go_wp2_with fail
  refine (D2.out _ (grown_reflT _ none)).mono ?_
  rintro e w2 ⟨⟨x2, q2, c2, rfl, D6'⟩, hg2⟩
  have G2 := Lib.hid hg2
  clear hg2
  go_wp2_with fail
  refine (C3.out _ (G1.out.trans G2.out)).mono ?_
  rintro e w3 ⟨rfl, rfl⟩
  go_wp2_with fail
  refine (C4.out _ (G1.out.trans G2.out)).mono ?_
  rintro e w4 ⟨⟨vo, done, rfl, h1, h2, h3⟩, hg4⟩
  have hdl : done.length = n := by
    have := congrArg List.length h3
    rw [List.length_map, List.length_map, HS.out, List.length_map] at this
    rw [this, Hn.out]
  obtain ⟨ao, co, rfl, hco, hrs⟩ := own_rs h1 (by omega) h2
  have R4 := Lib.hid (And.intro hco (And.intro hrs (And.intro h3 hg4)))
  have Hd := Lib.hid hdl
  rw [hdl]
  clear h1 h2 h3 hg4 hrs hco hdl
  go_wp2_with fail
  refine (C5.out _ ((G1.out.trans G2.out).trans R4.out.2.2.2)).mono ?_
  rintro e w5 ⟨⟨ao5, co5, rfl, hco5, hrs5⟩, hg5⟩
  have D5 := Lib.hid (show Calls Try.prog 15 #[.slice ao n co, .slice ao5 n co5] w5 fun e w' => e = .returned (.bool true) ∧ w5.grownBy w' none by
    have hl5 : (l.map Pw.r).length = n := by rw [List.length_map, Hn.out]
    have := sameRows_any ao ao5 co co5 done (l.map Pw.r) w5 (R4.out.2.1.keep hg5) hrs5 (by rw [Hd.out]; have := R4.out.1; rw [Hd.out] at this; exact this) (by rw [hl5]; exact hco5) (by rw [R4.out.2.2.1, HS.out, List.map_map, List.map_map]; rfl)
    rw [Hd.out, hl5] at this
    exact this)
  have G5 := Lib.hid (G2.out.trans (R4.out.2.2.2.trans hg5))
  have D6 := Lib.hid (fun W (hW : w5.grownBy W none) => D6'.out W ((R4.out.2.2.2.trans hg5).trans hW))
  clear hrs5 hco5 hg5
  go_wp2_with fail
  refine D5.out.mono ?_
  rintro e w6 ⟨rfl, hg6⟩
  have G6 := Lib.hid (G5.out.trans hg6)
  have D6 := Lib.hid (D6.out _ hg6)
  clear hg6
  go_wp2_with fail
  refine (C7.out _ (G1.out.trans G6.out)).mono ?_
  rintro e w7 ⟨rfl, rfl⟩
  have hbb2 : (b == b) = true := by simp
  go_wp2_with fail
  refine D6.out.mono ?_
  rintro e w8 ⟨rfl, hg8⟩
  have G8 := Lib.hid (G6.out.trans hg8)
  clear hg8
  obtain ⟨hx, hw1, hw2, hz⟩ := HZ.out
  go_wp2_with fail
  refine (C9.out _).mono ?_
  rintro e w9 ⟨rfl, rfl⟩
  go_wp2_with fail
  go_ret
  exact ⟨by simp, G1.out.trans G8.out⟩
end Go.Proofs.Ytlmoefiajioeoaa
