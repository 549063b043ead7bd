/- The contract of the program's List. -/
import Derived.Test.YthdaibmminibhaaDoorPc
import Derived.Test.YthdaibmminibhaaDoorDec5
namespace Go.Proofs.YthdaibmminibhaaDoor
open Go.RowKit

theorem frs_take (ls : List (List UInt8)) (j : Nat) (h : j < ls.length) : (ls.take (j + 1)).flatMap frB = (ls.take j).flatMap frB ++ frB (ls.getD j []) := by
  rw [List.take_succ_eq_append_getElem h, List.flatMap_append]
  simp [List.getD, h]
theorem frs_le (ls : List (List UInt8)) (j : Nat) : ((ls.take j).flatMap frB).length ≤ (ls.flatMap frB).length := by
  conv => rhs; rw [← List.take_append_drop j ls, List.flatMap_append, List.length_append]
  omega
theorem getD_map_l (ps : List Pc) (j : Nat) (h : j < ps.length) : (ps.map Pc.l).getD j [] = (ps.getD j default).l := by
  simp [List.getD, h]
set_option maxRecDepth 100000 in
set_option maxHeartbeats 3200000 in
theorem list_any (a : Option Addr) (cap : Nat) (ps : List Pc) (w : World) (h : PLow w.heap.size w a ps) (ht : Turns w) (hl : ∀ p ∈ ps, p.l.length ≤ 200000) (hn : ∀ p ∈ ps, p.a = none → p.cap = 0) (htot : ((ps.map Pc.l).flatMap frB).length ≤ 10000000) :
    Calls Tryd.prog 40 #[.slice a ps.length cap] w (fun e w' => ∃ v, e = .returned (.tuple #[v, .int .i64 0]) ∧ OwnB w.heap.size w' v ((ps.map Pc.l).flatMap frB) ∧ Below w.heap.size w w') := by
  have HP := Lib.hid h
  have HE := Lib.hid (fun (W : World) (hW : Below w.heap.size w W) (p : Pc) (hp : p ∈ ps) => enclose_yes p.a p.cap p.l W (((h.2.1 p hp).keep (grown_below hW none) (by simp)).mono hW.size) (hn p hp) (ht.keep (grown_below hW none)) (hl p hp))
  have hlen := h.1
  have HT := Lib.hid htot
  obtain ⟨R, hR⟩ : ∃ R, R = (ps.map Pc.l).flatMap frB := ⟨_, rfl⟩
  have HR := Lib.hid hR
  rw [← hR] at htot ⊢
  have HS : Hid ((ps.map Pc.l).length = ps.length) := Lib.hid (by simp)
  have HL := Lib.hid hl
  obtain ⟨n, hnn⟩ : ∃ n, n = ps.length := ⟨_, rfl⟩
  have Hn := Lib.hid hnn
  rw [← hnn] at hlen ⊢
  clear h ht hl hn hR hnn htot
  go_enter Tryd.func40, Tryd.ntmps40
  go_wp2_with fail
  go_loopw [4, 11] (fun ov i wr => ∃ (j : Nat), i = .int .i64 j ∧ j ≤ n ∧ Hid (OwnB w.heap.size wr ov (((ps.map Pc.l).take j).flatMap frB)) ∧ Hid (Below w.heap.size w wr)) (fun _ i _ => n - (intOf i).toNat)
  case atStart => exact ⟨0, rfl, by omega, Lib.hid (OwnB.nil _ _), Lib.hid (Below.refl _ _)⟩
  case round =>
    obtain ⟨j, rfl, hj, O, K⟩ := hrel
    by_cases hlt : j < n
    · have hjp : j < ps.length := by rw [← Hn.out]; exact hlt
      obtain ⟨b, off, rfl, _, c0⟩ := (HP.out.keep (grown_below K.out none) (by simp)).at hjp
      have hpm := pc_mem hjp
      have hE := HE.out wr K.out _ hpm
      have hx := frs_take (ps.map Pc.l) j (by rw [HS.out]; exact hjp)
      rw [getD_map_l ps j hjp] at hx
      have hle := frs_le (ps.map Pc.l) (j + 1)
      rw [hx, List.length_append] at hle
      have htt := HT.out
      generalize ((ps.map Pc.l).take j).flatMap frB = acc at *
      obtain ⟨acc2, hacc2⟩ : ∃ acc2, acc2 = ((ps.map Pc.l).take (j + 1)).flatMap frB := ⟨_, rfl⟩
      rw [← hacc2] at hx
      have HA2 := Lib.hid hacc2
      clear hacc2
      generalize (ps.map Pc.l).flatMap frB = tot at *
      generalize ps.getD j default = p at *
      obtain ⟨pa, pc, pl⟩ := p
      simp only [Pc.v] at c0
      simp only at hE hx hle
      have HE1 := Lib.hid hE
      have Hx := Lib.hid hx
      generalize frB pl = fr at *
      generalize pl.length = pn at *
      clear hE hpm hjp hx
      go_wp2_with fail
      refine HE1.out.mono ?_
      rintro e w2 ⟨v, rfl, ho, hb⟩
      have O2 := Lib.hid (O.out.stay hb)
      have K2 := Lib.hid (K.out.trans (hb.mono K.out.size))
      have hs2 : w.heap.size ≤ w2.heap.size := K2.out.size
      obtain ⟨a2, c2, rfl, hb2, hc2, hcm2, hn2⟩ := ho.read2 (by omega)
      have HB2 := Lib.hid hb2
      clear ho hb hb2
      go_wp2_with (at_builtin; refine wpList_append_bytes rfl (.tmp 24) (.tmp 25) rfl w.heap.size w2.heap.size _ acc rfl O2.out a2 fr.length c2 fr rfl rfl HB2.out hn2 (by omega) hs2 ?_)
      intro v3 w3 o3 gr3 _
      have O3 : Hid (OwnB w.heap.size w3 v3 acc2) := Lib.hid (by rw [Hx.out]; exact o3)
      have K3 := Lib.hid (O2.out.grown K2.out hs2 gr3)
      clear o3 gr3
      go_wp2_with fail
      go_roundw
      case rel => exact ⟨j + 1, by go_num, by omega, Lib.hid (by rw [← HA2.out]; exact O3.out), K3⟩
      case measure => simp [intOf]; omega
    · obtain rfl : j = n := by omega
      have O9 : Hid (OwnB w.heap.size wr u4 R) := Lib.hid (by
        have := O.out
        rw [List.take_of_length_le (by rw [HS.out, Hn.out]; exact Nat.le_refl _), ← HR.out] at this
        exact this)
      go_wp2_with fail
      go_ret2
      exact ⟨_, rfl, O9.out, K.out⟩
/-- Slices of slices of bytes appended onto such a list of the call's own. -/
theorem wpList_append_pcs {w : World} {ops : Array Oper} {rest : List Oper} {o : Oper} {a : Act} {Q : Exit → Act → World → Prop} (hgd : o.guard = none) (s x : Operand)
    (ho : o.op = .call { callee := .builtin .append, args := #[s, x], argTypes := #[74, 74] }) (base B : Nat) (v : Value) (xs : List Pc) (hs : a.eval s = v) (hown : OwnP base w v xs)
    (A : Option Addr) (m cap : Nat) (l : List Pc) (hm : m = l.length) (hx : a.eval x = .slice A m cap) (hb : PLow B w A l) (hB : B ≤ base) (hn : A = none → cap = 0) (hsz : xs.length + m ≤ 1000000) (hbase : base ≤ w.heap.size)
    (h : ∀ v' w', OwnP base w' v' (xs ++ l) → w.grownBy w' v.ownBlock → wpList Tryd.prog ops Q rest (a.put o.dst v') w') : wpList Tryd.prog ops Q (o :: rest) a w := by
  subst hm
  obtain ⟨i0, hi, hz0, hz1, hz2⟩ := info_parts pc_info
  cases A with
  | none =>
    obtain rfl : l = [] := by rcases hb.2.2 with h | ⟨_, _, h, _⟩; exact h; cases h
    obtain rfl := hn rfl
    exact wpList_append_own_none hgd s x 74 ho base 32 i0 1 Tryd.underlying74 hi v xs.length _ hs hown.1 hx (h v w (by rw [List.append_nil]; exact hown) (grown_refl _ _))
  | some ad =>
    have hnews : ∀ j u, (l.map Pc.v)[j]? = some u → w.cell? (ad.add j) = some u := by
      intro j u hj
      have hjl : j < l.length := by
        rcases Nat.lt_or_ge j l.length with h' | h'
        · exact h'
        · rw [List.getElem?_eq_none (by simpa using h')] at hj; cases hj
      obtain ⟨b, off, e, _, hc⟩ := hb.at hjl
      cases e
      rw [add_at, hc]
      simp [hjl] at hj
      rw [← hj]
      simp [List.getD, hjl]
    refine wpList_append_own_at _ hgd s x 74 ho base 32 i0 (.slice none 0 0) 1 24 Tryd.underlying74 hi hz0 hz1 hz2 rfl (by decide) v xs.length _ hs hown.1 ad l.length cap (l.map Pc.v) hx (by simp) hnews (by intro u hu; rw [List.mem_map] at hu; obtain ⟨p, _, rfl⟩ := hu; rfl) (by unfold maxLen; omega) (by omega) hbase ?_
    intro v' w' hown' hgr _ hat
    have hat2 : v'.ownBlock = v.ownBlock ∨ ∃ k, v'.ownBlock = some k ∧ w.heap.size ≤ k := hat.imp id (fun h => ⟨_, h, Nat.le_refl _⟩)
    refine h v' w' ⟨by rw [List.length_append, List.map_append]; exact hown', fun r hr => ?_⟩ hgr
    rw [List.mem_append] at hr
    rcases hr with hr | hr
    · exact (hown.2 r hr).keep hgr (fun k hk => hk) hat2
    · have := ((hb.2.1 r hr).pok (out := v) (by omega) (fun k hk => Nat.le_trans hB (World.ownsRow.lt hown.1 k hk).1) r.cap)
      exact POk.keep this hgr (fun k hk => hk) hat2
end Go.Proofs.YthdaibmminibhaaDoor
