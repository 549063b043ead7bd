/- The law FrameGreat walked. -/
import Derived.Test.YthdaibmminibhaaDoorGreat5
namespace Go.Proofs.YthdaibmminibhaaDoor
open Go.RowKit

theorem numB3 {n : Nat} (h0 : 16384 ≤ n) (h1 : n < 2097152) : (numB n).length = 3 := by
  rw [numB_great (by omega), List.length_cons, numB_great (by omega), List.length_cons, numB_small (by omega)]
  rfl
theorem two_low (w2 : World) (C : Array Value) (n : Nat) (Z : List UInt8) (hO : ∀ (B : Nat) (w : World), B ≤ w.heap.size → OwnB B (w.alloc (.cells C 5)) (.slice (some ⟨w.heap.size, 0, none⟩) n n) Z) (hZ : Z.length = n) (hn : n ≤ 1000000) :
    PLow (((w2.alloc (.cells #[.int .u8 1] 5)).alloc (.cells C 5)).alloc (.cells #[.slice (some ⟨w2.heap.size, 0, none⟩) 1 1, .slice (some ⟨w2.heap.size + 1, 0, none⟩) n n] 32)).heap.size
      (((w2.alloc (.cells #[.int .u8 1] 5)).alloc (.cells C 5)).alloc (.cells #[.slice (some ⟨w2.heap.size, 0, none⟩) 1 1, .slice (some ⟨w2.heap.size + 1, 0, none⟩) n n] 32))
      (some ⟨w2.heap.size + 1 + 1, 0, none⟩) [⟨some ⟨w2.heap.size, 0, none⟩, 1, [1]⟩, ⟨some ⟨w2.heap.size + 1, 0, none⟩, n, Z⟩]
    ∧ Below w2.heap.size w2 (((w2.alloc (.cells #[.int .u8 1] 5)).alloc (.cells C 5)).alloc (.cells #[.slice (some ⟨w2.heap.size, 0, none⟩) 1 1, .slice (some ⟨w2.heap.size + 1, 0, none⟩) n n] 32)) := by
  have o1 : OwnB w2.heap.size (w2.alloc (.cells #[.int .u8 1] 5)) (.slice (some ⟨w2.heap.size, 0, none⟩) 1 1) [1] := OwnB.new1 w2.heap.size w2 1 (Nat.le_refl _)
  obtain ⟨a1, c1, e1, b1, _⟩ := o1.read2 (by simp)
  cases e1
  have ea : (w2.alloc (.cells #[.int .u8 1] 5)).heap.size = w2.heap.size + 1 := by simp
  have g1 := (Below.refl w2.heap.size w2).alloc (Nat.le_refl _) (.cells #[.int .u8 1] 5)
  generalize w2.alloc (.cells #[.int .u8 1] 5) = wa at *
  have o2 := hO wa.heap.size wa (Nat.le_refl _)
  obtain ⟨a2, c2, e2, b2, _⟩ := o2.read2 (by omega)
  rw [hZ] at e2
  cases e2
  have eb : (wa.alloc (.cells C 5)).heap.size = wa.heap.size + 1 := by simp
  have g2 := g1.alloc (by omega) (.cells C 5)
  have k2 := b1.keep (World.grownBy_alloc wa (.cells C 5) none) (by simp)
  rw [ea] at b2
  generalize wa.alloc (.cells C 5) = wb at *
  rw [ea] at eb
  have g3 := g2.alloc (by omega) (.cells #[.slice (some ⟨w2.heap.size, 0, none⟩) 1 1, .slice (some ⟨w2.heap.size + 1, 0, none⟩) n n] 32)
  have k3 := k2.keep (World.grownBy_alloc wb (.cells #[.slice (some ⟨w2.heap.size, 0, none⟩) 1 1, .slice (some ⟨w2.heap.size + 1, 0, none⟩) n n] 32) none) (by simp)
  have k4 := b2.keep (World.grownBy_alloc wb (.cells #[.slice (some ⟨w2.heap.size, 0, none⟩) 1 1, .slice (some ⟨w2.heap.size + 1, 0, none⟩) n n] 32) none) (by simp)
  have hn' := heap_alloc_new wb (.cells #[.slice (some ⟨w2.heap.size, 0, none⟩) 1 1, .slice (some ⟨w2.heap.size + 1, 0, none⟩) n n] 32)
  rw [eb] at hn'
  refine ⟨⟨by simp, ?_, .inr ⟨w2.heap.size + 1 + 1, 0, rfl, (by simp; try omega), fun i hi => ?_⟩⟩, g3⟩
  · intro p hp
    simp only [List.mem_cons, List.not_mem_nil, or_false] at hp
    rcases hp with rfl | rfl
    · exact k3.mono (by simp; try omega)
    · exact k4.mono (by simp; try omega)
  · rw [Nat.zero_add, cell_of_row _ _ i _ _ _ hn']
    match i, hi with
    | 0, _ => rfl
    | 1, _ => simp [Pc.v, hZ]
set_option maxRecDepth 100000 in
set_option maxHeartbeats 6400000 in
theorem FrameGreat_any (G : Nat) (x : Int) (w : World) (hE : Sent3 G w ∧ ErrT G w ∧ G ≤ w.heap.size) (hF : SentF w) (hM : SentM w) (ht : Turns w) :
    Calls Tryd.prog 12 #[.int .i64 x] w fun e w' => e = .returned (.bool true) ∧ Below w.heap.size w w' := by
  have HW := Lib.hid awake5_any
  have HT := Lib.hid ht
  obtain ⟨c, hc⟩ : ∃ c : Nat, IntKind.u64.wrap x = (c : Int) := by
    have := IntKind.wrap_u64 x
    exact ⟨(x % 18446744073709551616).toNat, by rw [this]; omega⟩
  obtain ⟨n, hn, hn1, hn2⟩ : ∃ n : Nat, (199997 + (c : Int) % 7) = (n : Int) ∧ 199997 ≤ n ∧ n ≤ 200003 := ⟨199997 + c % 7, by omega, by omega, by omega⟩
  obtain ⟨C, hmk, hown⟩ := made_zero n (by omega)
  obtain ⟨Z, hZ⟩ : ∃ Z, Z = List.replicate n (0 : UInt8) := ⟨_, rfl⟩
  have hZl : Z.length = n := by rw [hZ, List.length_replicate]
  rw [← hZ] at hown
  have HO := Lib.hid hown
  have HZl := Lib.hid hZl
  clear hown hZ
  have HEy := Lib.hid (fun (hle : n ≤ 200000) (W : World) (hW : Below w.heap.size w W) (ad : Addr) (hb : BAt W.heap.size W (some ad) Z) => encode_yes (some ad) n Z W hb (by simp) (ht.keep (grown_below hW none)) (by omega))
  rw [hZl] at HEy
  have HEn := Lib.hid (fun (hgt : 200000 < n) (W : World) (hW : Below w.heap.size w W) (ad : Addr) => encode_no G (some ad) n n W hgt (hF.keep (grown_below hW none)) (hE.2.1.none (grown_below hW none)))
  have HLy : Hid (n ≤ 200000 → ∀ w2 : World, Below w.heap.size w w2 → Calls Tryd.prog 40 #[.slice (some ⟨w2.heap.size + 1 + 1, 0, none⟩) 2 2] (((w2.alloc (.cells #[.int .u8 1] 5)).alloc (.cells C 5)).alloc (.cells #[.slice (some ⟨w2.heap.size, 0, none⟩) 1 1, .slice (some ⟨w2.heap.size + 1, 0, none⟩) n n] 32)) (fun e w' => ∃ v, e = .returned (.tuple #[v, .int .i64 0]) ∧ OwnB (((w2.alloc (.cells #[.int .u8 1] 5)).alloc (.cells C 5)).alloc (.cells #[.slice (some ⟨w2.heap.size, 0, none⟩) 1 1, .slice (some ⟨w2.heap.size + 1, 0, none⟩) n n] 32)).heap.size w' v (([(⟨some ⟨w2.heap.size, 0, none⟩, 1, [1]⟩ : Pc), ⟨some ⟨w2.heap.size + 1, 0, none⟩, n, Z⟩].map Pc.l).flatMap frB) ∧ Below (((w2.alloc (.cells #[.int .u8 1] 5)).alloc (.cells C 5)).alloc (.cells #[.slice (some ⟨w2.heap.size, 0, none⟩) 1 1, .slice (some ⟨w2.heap.size + 1, 0, none⟩) n n] 32)).heap.size (((w2.alloc (.cells #[.int .u8 1] 5)).alloc (.cells C 5)).alloc (.cells #[.slice (some ⟨w2.heap.size, 0, none⟩) 1 1, .slice (some ⟨w2.heap.size + 1, 0, none⟩) n n] 32)) w')) := Lib.hid (fun hle w2 hW => by
    obtain ⟨hp, hb⟩ := two_low w2 C n Z HO.out HZl.out (by omega)
    refine list_any _ 2 [⟨some ⟨w2.heap.size, 0, none⟩, 1, [1]⟩, ⟨some ⟨w2.heap.size + 1, 0, none⟩, n, Z⟩] _ hp (ht.keep (grown_below (hW.trans (hb.mono hW.size)) none)) ?_ ?_ ?_
    · intro p hp; simp only [List.mem_cons, List.not_mem_nil, or_false] at hp; rcases hp with rfl | rfl
      · simp
      · exact (by rw [HZl.out]; exact hle)
    · intro p hp; simp only [List.mem_cons, List.not_mem_nil, or_false] at hp; rcases hp with rfl | rfl <;> simp
    · have h1 := aheadB_len (l := [1]) (by simp)
      have h2 := aheadB_len (l := Z) (by rw [HZl.out]; exact hle)
      simp only [List.map_cons, List.map_nil, List.flatMap_cons, List.flatMap_nil, List.length_append, frB_len, List.length_nil]
      omega)
  have HLn : Hid (200000 < n → ∀ w2 : World, Below w.heap.size w w2 → Calls Tryd.prog 40 #[.slice (some ⟨w2.heap.size + 1 + 1, 0, none⟩) 2 2] (((w2.alloc (.cells #[.int .u8 1] 5)).alloc (.cells C 5)).alloc (.cells #[.slice (some ⟨w2.heap.size, 0, none⟩) 1 1, .slice (some ⟨w2.heap.size + 1, 0, none⟩) n n] 32)) (fun e w' => e = .returned (.tuple #[.slice none 0 0, .int .i64 3]) ∧ Below (((w2.alloc (.cells #[.int .u8 1] 5)).alloc (.cells C 5)).alloc (.cells #[.slice (some ⟨w2.heap.size, 0, none⟩) 1 1, .slice (some ⟨w2.heap.size + 1, 0, none⟩) n n] 32)).heap.size (((w2.alloc (.cells #[.int .u8 1] 5)).alloc (.cells C 5)).alloc (.cells #[.slice (some ⟨w2.heap.size, 0, none⟩) 1 1, .slice (some ⟨w2.heap.size + 1, 0, none⟩) n n] 32)) w')) := Lib.hid (fun hgt w2 hW => by
    obtain ⟨hp, hb⟩ := two_low w2 C n Z HO.out HZl.out (by omega)
    have hg := grown_below (hW.trans (hb.mono hW.size)) none
    exact list2_no G _ 2 _ _ _ hp (ht.keep hg) (hF.keep hg) (hE.2.1.none hg) (by simp) (by simp) (by rw [HZl.out]; exact hgt))
  have HD := Lib.hid (fun W (hW : Below w.heap.size w W) (p : Option Addr) (c : Nat) (x : List UInt8) (hp : BAt W.heap.size W p x) (hc : x.length ≤ c) (hc2 : c ≤ 9223372036854775807) (hx : x.length ≤ 200020) =>
    decode_any G p x c W ⟨hp, hc, hc2, hE.1.none (grown_below hW none), hE.2.1.none (grown_below hW none), Nat.le_trans hE.2.2 hW.size⟩ (hF.keep (grown_below hW none)) (hM.keep (grown_below hW none)) (ht.keep (grown_below hW none)) hx)
  have HSame := Lib.hid (fun (hle : n ≤ 200000) => decL_fr (l := Z) (by omega))
  have hfl : (frB Z).length = n + 8 := by
    rw [frB_len, aheadB_eq, hZl, numB3 (by omega) (by omega)]
    omega
  have Hfl := Lib.hid hfl
  generalize frB Z = fr at *
  clear hZl hfl hE hF hM ht
  by_cases hle : n ≤ 200000
  · have HE1 := Lib.hid (HEy.out hle)
    have HL1 := Lib.hid (HLy.out hle)
    have hle' : (n : Int) ≤ 200000 := by omega
    clear HEy HEn HLy HLn
    go_enter Tryd.func12, Tryd.ntmps12
    go_wp2_with fail
    refine (HW.out _ HT.out).mono ?_
    rintro e w1 ⟨rfl, hb⟩
    have K1 := Lib.hid hb
    have hs1 : w.heap.size ≤ w1.heap.size := K1.out.size
    have O1 := HO.out w.heap.size w1 hs1
    obtain ⟨a1, c1, e1, hb1, _⟩ := O1.read2 (by rw [HZl.out]; omega)
    rw [HZl.out] at e1
    cases e1
    have KA := Lib.hid (K1.out.alloc (by exact hs1) (.cells C 5))
    have HE2 := Lib.hid (HE1.out _ KA.out _ hb1)
    clear hb O1 hb1
    go_wp2_with fail
    refine HE2.out.mono ?_
    rintro e w2 ⟨v, rfl, ho, hb⟩
    have K2 := Lib.hid (KA.out.trans (hb.mono KA.out.size))
    have OF := Lib.hid ho
    clear hb ho
    go_wp2_with fail
    refine (HL1.out w2 K2.out).mono ?_
    rintro e w3 ⟨v3, rfl, _, hb⟩
    have L3 := Lib.hid ((two_low w2 C n Z HO.out HZl.out (by omega)).2.trans (hb.mono (two_low w2 C n Z HO.out HZl.out (by omega)).2.size))
    have K3 := Lib.hid (K2.out.trans (L3.out.mono K2.out.size))
    have OF3 := OF.out.stay L3.out
    obtain ⟨a3, c3, rfl, hb3, hc3, hcm3, _⟩ := OF3.read2 (by rw [Hfl.out]; omega)
    have HD1 := HD.out w3 K3.out a3 c3 fr hb3 hc3 hcm3 (by rw [Hfl.out]; omega)
    rw [HSame.out hle, Hfl.out] at HD1
    rw [Hfl.out]
    have HD2 := Lib.hid HD1
    clear hb OF3 hb3 HD1 hc3
    go_wp2_with fail
    refine HD2.out.mono ?_
    rintro e w4 ⟨v4, rfl, ho, hb⟩
    have K4 := Lib.hid (K3.out.trans (hb.mono K3.out.size))
    obtain ⟨a4, c4, rfl, _, _, _, _⟩ := ho.read2 (by rw [HZl.out]; omega)
    rw [HZl.out]
    clear ho hb
    go_wp2_with fail
    go_ret
    exact ⟨ret_bool (by simp), K4.out⟩
  · have HE1 := Lib.hid (HEn.out (by omega))
    have HL1 := Lib.hid (HLn.out (by omega))
    have hle' : (200000 : Int) < n := by omega
    clear HEy HEn HLy HLn
    go_enter Tryd.func12, Tryd.ntmps12
    go_wp2_with fail
    refine (HW.out _ HT.out).mono ?_
    rintro e w1 ⟨rfl, hb⟩
    have K1 := Lib.hid hb
    have hs1 : w.heap.size ≤ w1.heap.size := K1.out.size
    have KA := Lib.hid (K1.out.alloc (by exact hs1) (.cells C 5))
    clear hb
    go_wp2_with fail
    refine (HE1.out _ KA.out _).mono ?_
    rintro e w2 ⟨rfl, hg⟩
    have K2 := Lib.hid (KA.out.trans ((below_grown hg).mono KA.out.size))
    clear hg
    go_wp2_with fail
    refine (HL1.out w2 K2.out).mono ?_
    rintro e w3 ⟨rfl, hb⟩
    have L3 := Lib.hid ((two_low w2 C n Z HO.out HZl.out (by omega)).2.trans (hb.mono (two_low w2 C n Z HO.out HZl.out (by omega)).2.size))
    have K3 := Lib.hid (K2.out.trans (L3.out.mono K2.out.size))
    clear hb
    go_wp2_with fail
    go_ret
    exact ⟨rfl, K3.out⟩
end Go.Proofs.YthdaibmminibhaaDoor
