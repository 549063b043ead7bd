/- Contracts of the program's enclose, told and Encode. -/
import Derived.Test.YthdaibmminibhaaDoorSum5
import Derived.Test.YthdaibmminibhaaDoorBase5
namespace Go.Proofs.YthdaibmminibhaaDoor
open Go.RowKit

/-- All of a frame ahead of its sum. -/
def aheadB (l : List UInt8) : List UInt8 := 83 :: numB l.length ++ l
/-- A frame. -/
def frB (l : List UInt8) : List UInt8 := aheadB l ++ Crc.le4 (Crc.crc (aheadB l))
theorem aheadB_len {l : List UInt8} (h : l.length ≤ 200000) : 2 + l.length ≤ (aheadB l).length ∧ (aheadB l).length ≤ 200020 := by
  unfold aheadB
  have := numB_10 (n := l.length) (by omega)
  rw [List.length_append, List.length_cons]
  omega
theorem frB_len (l : List UInt8) : (frB l).length = (aheadB l).length + 4 := by unfold frB; rw [List.length_append]; rfl

/-- Bytes appended onto a slice of the call's own, wherever they lie. -/
theorem wpList_append_bytes {w : World} {ops : Array Oper} {rest : List Oper} {o : Oper} {a : Act} {Q : Exit → Act → World → Prop} (hgd : o.guard = none) (s x : Operand)
    (ho : o.op = .call { callee := .builtin .append, args := #[s, x], argTypes := #[32, 32] }) (base B : Nat) (v : Value) (xs : List UInt8) (hs : a.eval s = v) (hown : OwnB base w v xs)
    (A : Option Addr) (m cap : Nat) (l : List UInt8) (hm : m = l.length) (hx : a.eval x = .slice A m cap) (hb : BAt B w A l) (hn : A = none → cap = 0) (hsz : xs.length + m ≤ 100000000) (hbase : base ≤ w.heap.size)
    (h : ∀ v' w', OwnB base w' v' (xs ++ l) → w.grownBy w' v.ownBlock → (v'.ownBlock = v.ownBlock ∨ v'.ownBlock = some w.heap.size) → wpList Tryd.prog ops Q rest (a.put o.dst v') w') : wpList Tryd.prog ops Q (o :: rest) a w := by
  subst hm
  obtain ⟨i0, hi, hz0, hz1, hz2⟩ := info_parts u8_info
  cases A with
  | none =>
    obtain rfl : l = [] := by rcases hb.2 with h | ⟨_, _, h, _⟩; exact h; cases h
    obtain rfl := hn rfl
    exact wpList_append_own_none hgd s x 32 ho base 5 i0 1 Tryd.underlying32 hi v xs.length _ hs hown hx (h v w (by rw [List.append_nil]; exact hown) (grown_refl _ _) (.inl rfl))
  | some ad =>
    refine wpList_append_own_at _ hgd s x 32 ho base 5 i0 (.int .u8 0) 1 1 Tryd.underlying32 hi hz0 hz1 hz2 rfl (by decide) v xs.length _ hs hown ad l.length cap (l.map bV) hx (by simp) hb.news (bV_one _) (by unfold maxLen; omega) (by omega) hbase ?_
    intro v' w' hown' hgr _ hat
    exact h v' w' (OwnB.more rfl rfl hown') hgr hat
theorem OwnB.read2 {B : Nat} {w : World} {v : Value} {l : List UInt8} (h : OwnB B w v l) (hl : l.length ≤ 9223372036854775807) : ∃ a cap, v = .slice a l.length cap ∧ BAt w.heap.size w a l ∧ l.length ≤ cap ∧ cap ≤ 9223372036854775807 ∧ (a = none → cap = 0) := by
  obtain ⟨a, cap, e, h1, h2, h3⟩ := h.read hl
  refine ⟨a, cap, e, h1, h2, h3, fun hn => ?_⟩
  subst hn
  rcases h.2 with ⟨hv, _⟩ | ⟨g, c, cur, hv, _⟩
  · rw [hv] at e; exact ((Value.slice.inj e).2.2).symm
  · rw [hv] at e; have := (Value.slice.inj e).1; cases this
theorem BAt.far {B : Nat} {w w' : World} {a : Option Addr} {l : List UInt8} {row : Option Nat} (h : BAt B w a l) (hg : w.grownBy w' row) (hr : ∀ k, row = some k → B ≤ k) : BAt B w' a l := h.keep hg hr
theorem OwnB.range {B : Nat} {w : World} {v : Value} {l : List UInt8} (h : OwnB B w v l) : ∀ k, v.ownBlock = some k → B ≤ k := fun k hk => (World.ownsRow.lt h k hk).1

set_option maxRecDepth 100000 in
set_option maxHeartbeats 3200000 in
theorem enclose_yes (a : Option Addr) (cap : Nat) (l : List UInt8) (w : World) (hb : BAt w.heap.size w a l) (hn : a = none → cap = 0) (ht : Turns w) (hl : l.length ≤ 200000) :
    Calls Tryd.prog 66 #[.slice a l.length cap] w (fun e w' => ∃ v, e = .returned (.tuple #[v, .nilIface]) ∧ OwnB w.heap.size w' v (frB l) ∧ Below w.heap.size w w') := by
  have HB := Lib.hid hb
  have HT := Lib.hid ht
  have HN := Lib.hid (fun w => number_any l.length w (by omega))
  have hlen := aheadB_len hl
  have hnb := numB_10 (n := l.length) (by omega)
  have HF : Hid (83 :: numB l.length ++ l = aheadB l) := Lib.hid rfl
  have HFr : Hid (aheadB l ++ Crc.le4 (Crc.crc (aheadB l)) = frB l) := Lib.hid rfl
  have hts : (Crc.le4 (Crc.crc (aheadB l))).length = 4 := rfl
  have HTl := Lib.hid (fun w a cap (hb : BAt w.heap.size w a (aheadB l)) (ht : Turns w) => tail_any a cap (aheadB l) w hb ht)
  generalize Crc.le4 (Crc.crc (aheadB l)) = ts at *
  generalize numB l.length = ns at *
  generalize aheadB l = fs at *
  generalize frB l = rs at *
  have HO := Lib.hid (fun (B : Nat) (hB : B ≤ w.heap.size) => OwnB.new1 B w 83 hB)
  generalize hln : l.length = len at *
  have Hln := Lib.hid hln
  clear hb ht hln
  have hl' : (len : Int) ≤ 200000 := by omega
  have hwr : IntKind.u64.wrap (len : Int) = len := wrap_u64 (by omega) (by omega)
  go_enter Tryd.func66, Tryd.ntmps66
  go_wp2_with fail
  refine (HN.out _).mono ?_
  rintro e w1 ⟨v1, rfl, ho, hb⟩
  have O1 := Lib.hid ho
  have K1 := Lib.hid (((Below.refl w.heap.size w).alloc (Nat.le_refl _) (.cells #[.int .u8 83] 5)).trans (hb.mono (by simp)))
  have OF1 := Lib.hid ((HO.out w.heap.size (Nat.le_refl _)).stay hb)
  obtain ⟨a1, c1, rfl, hb1, _, _, hn1⟩ := ho.read2 (by omega)
  have HB1 := Lib.hid hb1
  have hs1 : w.heap.size ≤ w1.heap.size := K1.out.size
  clear ho hb hb1
  go_wp2_with (at_builtin; refine wpList_append_bytes rfl (.tmp 11) (.tmp 15) rfl w.heap.size w1.heap.size _ [83] rfl OF1.out a1 ns.length c1 ns rfl rfl HB1.out hn1 (by simp; omega) hs1 ?_)
  intro v2 w2 o2 gr2 _
  have O2 : Hid (OwnB w.heap.size w2 v2 (83 :: ns)) := Lib.hid o2
  have K2 := Lib.hid (OF1.out.grown K1.out hs1 gr2)
  have hs2 : w.heap.size ≤ w2.heap.size := K2.out.size
  clear o2 gr2
  go_wp2_with (at_builtin; refine wpList_append_bytes rfl (.tmp 17) (.tmp 18) rfl w.heap.size w.heap.size v2 (83 :: ns) rfl O2.out a len cap l Hln.out.symm rfl (HB.out.keep (grown_below K2.out none) (by simp)) hn (by simp; omega) hs2 ?_)
  intro v3 w3 o3 gr3 _
  have O3 : Hid (OwnB w.heap.size w3 v3 fs) := Lib.hid (by rw [← HF.out]; exact o3)
  have K3 := Lib.hid (O2.out.grown K2.out hs2 gr3)
  have hs3 : w.heap.size ≤ w3.heap.size := K3.out.size
  clear o3 gr3
  obtain ⟨a3, c3, rfl, hb3, _, _, hn3⟩ := O3.out.read2 (by omega)
  have HTl3 := Lib.hid (HTl.out w3 a3 c3 hb3 (HT.out.keep (grown_below K3.out none)))
  clear hb3
  go_wp2_with fail
  refine HTl3.out.mono ?_
  rintro e w4 ⟨v4, rfl, ho, hb⟩
  have K4 := Lib.hid (K3.out.trans (hb.mono hs3))
  have O34 : Hid (OwnB w.heap.size w4 (.slice a3 fs.length c3) fs) := Lib.hid (OwnB.stay O3.out hb)
  have hs4 : w.heap.size ≤ w4.heap.size := K4.out.size
  obtain ⟨a4, c4, rfl, hb4, _, _, hn4⟩ := ho.read2 (by omega)
  have HB4 := Lib.hid hb4
  clear ho hb hb4
  go_wp2_with (at_builtin; refine wpList_append_bytes rfl (.tmp 20) (.tmp 22) rfl w.heap.size w4.heap.size (.slice a3 fs.length c3) fs rfl O34.out a4 4 c4 ts hts.symm rfl HB4.out hn4 (by omega) hs4 ?_)
  intro v5 w5 o5 gr5 _
  have O5 := Lib.hid o5
  have K5 := Lib.hid (O34.out.grown K4.out hs4 gr5)
  clear o5 gr5
  go_wp2_with fail
  go_ret2
  exact ⟨_, rfl, HFr.out ▸ O5.out, K5.out⟩
set_option maxHeartbeats 1600000 in
theorem told_nil (w : World) : Calls Tryd.prog 67 #[.nilIface] w fun e w' => e = .returned (.int .i64 0) ∧ w.grownBy w' none := by
  go_enter Tryd.func67, Tryd.ntmps67
  go_wp2_with fail
  go_ret
  exact ⟨rfl, World.grownBy_alloc _ _ _⟩
set_option maxHeartbeats 1600000 in
theorem encode_yes (a : Option Addr) (cap : Nat) (l : List UInt8) (w : World) (hb : BAt w.heap.size w a l) (hn : a = none → cap = 0) (ht : Turns w) (hl : l.length ≤ 200000) :
    Calls Tryd.prog 34 #[.slice a l.length cap] w (fun e w' => ∃ v, e = .returned (.tuple #[v, .int .i64 0]) ∧ OwnB w.heap.size w' v (frB l) ∧ Below w.heap.size w w') := by
  have HE := Lib.hid (enclose_yes a cap l w hb hn ht hl)
  clear hb ht hn
  generalize l.length = len at *
  go_enter Tryd.func34, Tryd.ntmps34
  go_wp2_with fail
  refine HE.out.mono ?_
  rintro e w1 ⟨v, rfl, ho, hb⟩
  have O1 := Lib.hid ho
  have K1 := Lib.hid hb
  clear ho hb
  go_wp2_with fail
  refine (told_nil _).mono ?_
  rintro e w2 ⟨rfl, hg⟩
  have O2 := Lib.hid (O1.out.stay (below_grown hg))
  have K2 := Lib.hid (K1.out.trans ((below_grown hg).mono K1.out.size))
  clear hg
  go_wp2_with fail
  go_ret2
  exact ⟨_, rfl, O2.out, K2.out⟩
end Go.Proofs.YthdaibmminibhaaDoor
