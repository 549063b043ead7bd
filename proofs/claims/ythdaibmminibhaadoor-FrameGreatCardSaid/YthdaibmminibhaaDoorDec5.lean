/- Contracts of the program's Decode. -/
import Derived.Test.YthdaibmminibhaaDoorOpenF
import Derived.Test.YthdaibmminibhaaDoorDecM
namespace Go.Proofs.YthdaibmminibhaaDoor
open Go.RowKit

/-- What Decode answers. -/
def DecPost (w : World) (x : Nat × List UInt8) (e : Ending) (w' : World) : Prop := ∃ v, e = .returned (.tuple #[v, .int .i64 x.1]) ∧ OwnB w.heap.size w' v x.2 ∧ Below w.heap.size w w'
set_option maxRecDepth 100000 in
set_option maxHeartbeats 1600000 in
theorem decode_none (G : Nat) (a : Option Addr) (l : List UInt8) (cap : Nat) (w : World) (h : Env3 G w a l cap) (hF : SentF w) (hlen : l.length ≤ 100000000) (hn : msr l = none) :
    Calls Tryd.prog 36 #[.slice a l.length cap] w (DecPost w (2, [])) := by
  have HC := Lib.hid (cut_no G a l cap w h hF hlen hn)
  have HT := Lib.hid (fun (t : TypeId) (q : Value) (W : World) (hg : w.grownBy W none) => told_len G 2 t q W (h.e.none hg))
  generalize l.length = m at *
  clear h hF hlen hn
  go_enter Tryd.func36, Tryd.ntmps36
  go_wp2_with fail
  refine HC.out.mono ?_
  rintro e w1 ⟨t, p, rfl, hg⟩
  have HG := Lib.hid hg
  clear hg
  go_wp2_with fail
  refine (HT.out _ _ _ (HG.out.trans (World.grownBy_alloc _ _ _))).mono ?_
  rintro e w2 ⟨rfl, hg⟩
  have HG2 := Lib.hid ((HG.out.trans (World.grownBy_alloc _ _ _)).trans hg)
  clear hg
  go_wp2_with fail
  go_ret2
  exact ⟨_, rfl, OwnB.nil _ _, below_grown HG2.out⟩
/-- .. where they begin with a frame. -/
theorem cut_some (G b off : Nat) (l : List UInt8) (cap f t : Nat) (w : World) (h : Env3 G w (some ⟨b, off, none⟩) l cap) (hF : SentF w) (hlen : l.length ≤ 100000000) (hn : msr l = some (f, t)) :
    Calls Tryd.prog 71 #[.slice (some ⟨b, off, none⟩) l.length cap] w fun e w' => ∃ ra rc, e = .returned (.tuple #[.agg #[.slice (some ⟨b, off, none⟩) t cap, .int .i64 f, .slice (some ⟨b, off + t, none⟩) 4 (cap - t)], .slice (some ra) (l.length - (t + 4)) rc, .nilIface])
      ∧ BAt w.heap.size w (some ra) (l.drop (t + 4)) ∧ l.length - (t + 4) ≤ rc ∧ rc ≤ 9223372036854775807 ∧ w.grownBy w' none := by
  have hcl := h.c
  have hcm := h.m
  obtain ⟨h1, h2, h3⟩ := msr_some hn
  by_cases hc : cap = t + 4
  · refine (cut_edge G b off l cap f t w h hF hlen hn hc).mono ?_
    rintro e w' ⟨rfl, hg⟩
    have e0 : l.length - (t + 4) = 0 := by omega
    refine ⟨⟨b, off, none⟩, 0, by rw [e0], ⟨by rw [List.length_drop]; omega, .inl (List.drop_eq_nil_of_le (by omega))⟩, by omega, by omega, hg⟩
  · refine (cut_yes G b off l cap f t w h hF hlen hn hc).mono ?_
    rintro e w' ⟨rfl, hg⟩
    have hs := h.b.sub (q := t + 4) (cap := cap) (by omega) hcl
    rw [if_neg hc] at hs
    exact ⟨_, _, rfl, hs, by omega, by omega, hg⟩
set_option maxRecDepth 100000 in
set_option maxHeartbeats 1600000 in
theorem decode_long (G b off : Nat) (l : List UInt8) (cap f t : Nat) (w : World) (h : Env3 G w (some ⟨b, off, none⟩) l cap) (hF : SentF w) (hM : SentM w) (hlen : l.length ≤ 100000000) (hn : msr l = some (f, t)) (hl : l.length ≠ t + 4) :
    Calls Tryd.prog 36 #[.slice (some ⟨b, off, none⟩) l.length cap] w (DecPost w (2, [])) := by
  have HC := Lib.hid (cut_some G b off l cap f t w h hF hlen hn)
  have HT := Lib.hid (fun (t : TypeId) (q : Value) (W : World) (hg : w.grownBy W none) => told_len G 2 t q W (h.e.none hg))
  have HM := Lib.hid (fun (W : World) (hg : w.grownBy W none) => hM.keep hg)
  obtain ⟨h1, h2, h3⟩ := msr_some hn
  obtain ⟨r, hr⟩ : ∃ r, r = l.length - (t + 4) := ⟨_, rfl⟩
  have hr0 : (0 : Int) < r := by omega
  rw [← hr] at HC
  generalize l.length = m at *
  clear h hF hlen hn hM hl hr h1 h2 h3
  go_enter Tryd.func36, Tryd.ntmps36
  go_wp2_with fail
  refine HC.out.mono ?_
  rintro e w1 ⟨ra, rc, rfl, _, _, _, hg⟩
  have HG := Lib.hid (hg.trans (World.grownBy_alloc w1 (.cells #[.slice (some ⟨b, off, none⟩) t cap, .int .i64 f, .slice (some ⟨b, off + t, none⟩) 4 (cap - t)] 127) none))
  obtain ⟨tm, pm, cm⟩ := HM.out _ HG.out
  clear hg
  go_wp2_with fail
  refine (HT.out _ _ _ HG.out).mono ?_
  rintro e w2 ⟨rfl, hg⟩
  have HG2 := Lib.hid (HG.out.trans hg)
  clear hg
  go_wp2_with fail
  go_ret2
  exact ⟨_, rfl, OwnB.nil _ _, below_grown HG2.out⟩
set_option maxRecDepth 100000 in
set_option maxHeartbeats 3200000 in
theorem decode_sum (G b off : Nat) (l : List UInt8) (cap f t : Nat) (w : World) (h : Env3 G w (some ⟨b, off, none⟩) l cap) (hF : SentF w) (ht : Turns w) (hlen : l.length ≤ 200020) (hn : msr l = some (f, t)) (hl : l.length = t + 4)
    (hs : l.drop t ≠ Crc.le4 (Crc.crc (l.take t))) :
    Calls Tryd.prog 36 #[.slice (some ⟨b, off, none⟩) l.length cap] w (DecPost w (4, [])) := by
  have HC := Lib.hid (cut_some G b off l cap f t w h hF (by omega) hn)
  obtain ⟨h1, h2, h3⟩ := msr_some hn
  have hcl := h.c
  have hcm := h.m
  have hA := h.b.pre2 (k := t) (by omega)
  have hS := h.b.sub (q := t) (cap := cap) (by omega) hcl
  rw [if_neg (show ¬ cap = t by omega)] at hS
  have hlA : (l.take t).length = t := by rw [List.length_take]; omega
  have hlS : (l.drop t).length = 4 := by rw [List.length_drop]; omega
  have HO := Lib.hid (fun (W : World) (hg : w.grownBy W none) => open_no b off cap f (cap - t) (some ⟨b, off + t, none⟩) (l.take t) (l.drop t) W ((hA.keep hg (by simp)).mono hg.size) ((hS.keep hg (by simp)).mono hg.size) (ht.keep hg) (by omega) hlS hs (hF.keep hg).2.2.2 (by omega) (by omega) (by omega) hcm)
  rw [hlA] at HO
  have HT := Lib.hid (fun (s : Addr) (W : World) (hg : w.grownBy W none) => told_sum G s W (h.e.none hg))
  rw [show l.length - (t + 4) = 0 by omega] at HC
  generalize l.length = m at *
  clear h hF hlen hn ht hs hl h1 h2 h3 hA hS hlA hlS hcl hcm
  go_enter Tryd.func36, Tryd.ntmps36
  go_wp2_with fail
  refine HC.out.mono ?_
  rintro e w1 ⟨ra, rc, rfl, _, _, _, hg⟩
  have HG := Lib.hid (hg.trans (World.grownBy_alloc w1 (.cells #[.slice (some ⟨b, off, none⟩) t cap, .int .i64 f, .slice (some ⟨b, off + t, none⟩) 4 (cap - t)] 127) none))
  clear hg
  go_wp2_with fail
  refine (HO.out _ HG.out).mono ?_
  rintro e w2 ⟨p, rfl, hg⟩
  have HG2 := Lib.hid (HG.out.trans (grown_below hg none))
  clear hg
  go_wp2_with fail
  refine (HT.out _ _ HG2.out).mono ?_
  rintro e w3 ⟨rfl, hg⟩
  have HG3 := Lib.hid (HG2.out.trans hg)
  clear hg
  go_wp2_with fail
  go_ret2
  exact ⟨_, rfl, OwnB.nil _ _, below_grown HG3.out⟩
set_option maxRecDepth 100000 in
set_option maxHeartbeats 3200000 in
theorem decode_yes (G b off : Nat) (l : List UInt8) (cap f t : Nat) (w : World) (h : Env3 G w (some ⟨b, off, none⟩) l cap) (hF : SentF w) (ht : Turns w) (hlen : l.length ≤ 200020) (hn : msr l = some (f, t)) (hl : l.length = t + 4)
    (hs : l.drop t = Crc.le4 (Crc.crc (l.take t))) :
    Calls Tryd.prog 36 #[.slice (some ⟨b, off, none⟩) l.length cap] w (DecPost w (0, (l.take t).drop f)) := by
  have HC := Lib.hid (cut_some G b off l cap f t w h hF (by omega) hn)
  obtain ⟨h1, h2, h3⟩ := msr_some hn
  have hcl := h.c
  have hcm := h.m
  have hA := h.b.pre2 (k := t) (by omega)
  have hS := h.b.sub (q := t) (cap := cap) (by omega) hcl
  rw [if_neg (show ¬ cap = t by omega)] at hS
  have hlA : (l.take t).length = t := by rw [List.length_take]; omega
  have hlS : (l.drop t).length = 4 := by rw [List.length_drop]; omega
  have HO := Lib.hid (fun (W : World) (hg : w.grownBy W none) => open_yes b off cap f (cap - t) (some ⟨b, off + t, none⟩) (l.take t) (l.drop t) W ((hA.keep hg (by simp)).mono hg.size) ((hS.keep hg (by simp)).mono hg.size) (ht.keep hg) (by omega) hlS hs (by omega) (by omega) (by omega) hcm)
  rw [hlA] at HO
  rw [show l.length - (t + 4) = 0 by omega] at HC
  generalize l.length = m at *
  generalize (l.take t).drop f = x at *
  clear h hF hlen hn ht hs hl h1 h2 h3 hA hS hlA hlS hcl hcm
  go_enter Tryd.func36, Tryd.ntmps36
  go_wp2_with fail
  refine HC.out.mono ?_
  rintro e w1 ⟨ra, rc, rfl, _, _, _, hg⟩
  have HG := Lib.hid (hg.trans (World.grownBy_alloc w1 (.cells #[.slice (some ⟨b, off, none⟩) t cap, .int .i64 f, .slice (some ⟨b, off + t, none⟩) 4 (cap - t)] 127) none))
  clear hg
  go_wp2_with fail
  refine (HO.out _ HG.out).mono ?_
  rintro e w2 ⟨v, rfl, ho, hg⟩
  have O2 := Lib.hid (ho.lower HG.out.size)
  have HG2 := Lib.hid (HG.out.trans (grown_below hg none))
  clear hg ho
  go_wp2_with fail
  refine (told_nil _).mono ?_
  rintro e w3 ⟨rfl, hg⟩
  have HG3 := Lib.hid (HG2.out.trans hg)
  have O3 := Lib.hid (O2.out.stay (below_grown hg))
  clear hg
  go_wp2_with fail
  go_ret2
  exact ⟨_, rfl, O3.out, below_grown HG3.out⟩
/-- Decode, whatever the bytes are. -/
theorem decode_any (G : Nat) (a : Option Addr) (l : List UInt8) (cap : Nat) (w : World) (h : Env3 G w a l cap) (hF : SentF w) (hM : SentM w) (ht : Turns w) (hlen : l.length ≤ 200020) :
    Calls Tryd.prog 36 #[.slice a l.length cap] w (DecPost w (decL l)) := by
  cases hn : msr l with
  | none => rw [decL_none hn]; exact decode_none G a l cap w h hF (by omega) hn
  | some x =>
    obtain ⟨f, t⟩ := x
    obtain ⟨h1, h2, h3⟩ := msr_some hn
    obtain ⟨b, off, rfl, _, _⟩ := h.b.at (i := 0) (by omega)
    by_cases hl : l.length = t + 4
    · by_cases hs : l.drop t = Crc.le4 (Crc.crc (l.take t))
      · rw [decL_yes hn hl hs]; exact decode_yes G b off l cap f t w h hF ht hlen hn hl hs
      · rw [decL_sum hn hl hs]; exact decode_sum G b off l cap f t w h hF ht hlen hn hl hs
    · rw [decL_long hn hl]; exact decode_long G b off l cap f t w h hF hM (by omega) hn hl
end Go.Proofs.YthdaibmminibhaaDoor
