/- The contract of value.readText. Trees in memory. Contracts of value.written and value.readInt. -/
import Derived.Test.YtjaclmoobfeikaaGreatDoorZl08
import Derived.Test.YtjaclmoobfeikaaGreatDoorZl07
import Derived.Laws.IdiomStrings
import Derived.Lib.UnsafeStr
import Derived.Test.YtjaclmoobfeikaaGreatDoorZl00
import Derived.Deep.AppendLies
import Derived.Maps.AppendAt
import Derived.Lib.AtoiAll
import Derived.Lib.Strings
import Derived.Lib.Tables
import Derived.Lib.Bytealg
namespace Go.Proofs.YtjaclmoobfeikaaGreatDoor
open Go.RowKit

theorem slice_of_own {w : World} {B : Nat} {e : TypeId} {v : Value} {n : Nat} {xs : List Value} (h : w.ownsRow B e 1 v n xs) : ∃ ao cap, v = .slice ao n cap := by
  rcases h.2 with ⟨hv, h0⟩ | ⟨g, cap, cur, hv, _⟩
  · exact ⟨none, 0, by rw [hv, h0]⟩
  · exact ⟨_, _, hv⟩
theorem extract_to (s : ByteArray) (n : Nat) : (s.extract n s.size).data.toList = s.data.toList.drop n := Lib.extract_to_end s n
theorem take61 (full : List UInt8) (c : UInt8) (h : full.length ≤ 60) : Lib.byteCells ((full ++ [c]).take 61) = Lib.byteCells (full.take 61) ++ [.int .u8 c.toNat] := by
  rw [List.take_of_length_le (by simp; omega), List.take_of_length_le (by omega), Lib.byteCells_append]
  rfl
theorem take61_more (full : List UInt8) (c : UInt8) (h : 60 < full.length) : (full ++ [c]).take 61 = full.take 61 := by
  rw [List.take_append_of_le_length (by omega)]

/-- string(b) of a slice of the call's own. -/
theorem conv_own {w : World} {B : Nat} {v : Value} {n : Nat} {l : List UInt8} (h : w.ownsRow B 5 1 v n (Lib.byteCells l)) : (convert 219 9 v).run Tryz.prog w = .ok (.string ⟨l.toArray⟩) w := by
  have hlen : l.length = n := by have := h.1; rw [Lib.byteCells_length] at this; omega
  rcases h.2 with ⟨rfl, h0⟩ | ⟨g, cap, cur, rfl, _⟩
  · have : l = [] := List.eq_nil_of_length_eq_zero (by omega)
    subst this
    rw [run_convert_bytes_string w _ _ 5 _ _ _ Tryz.underlying219 Tryz.underlying5 Tryz.underlying9]
    rfl
  · subst hlen
    refine run_convert_bytes_back w _ _ 5 _ cap l Tryz.underlying219 Tryz.underlying5 Tryz.underlying9 (fun j hj => ?_)
    have := h.cells (g := g) rfl j (.int .u8 l[j].toNat) (by simp [Lib.byteCells, hj])
    simpa [Addr.add] using this

/-- What the reading of a text comes to. -/
def textRes (o : Option (List UInt8)) : Value := match o with
  | none => .tuple #[vz, .int .i64 2]
  | some t => if t.length ≤ 60 then .tuple #[.agg #[.int .i64 3, .int .i64 0, .string ⟨t.toArray⟩], .int .i64 0] else .tuple #[vz, .int .i64 1]

set_option maxRecDepth 100000 in
set_option maxHeartbeats 800000 in
theorem readText_any (s : ByteArray) (w : World) (hs : s.size ≤ 1510) :
    Calls Tryz.prog 119 #[.string s] w fun e w' => e = .returned (textRes (readB s.data.toList)) ∧ Below w.heap.size w w' := by
  generalize hres : textRes (readB s.data.toList) = res
  have Hres := Lib.hid hres
  clear hres
  obtain ⟨i0, hi, hz0, hz1, hz2⟩ := info_parts byte_info
  go_enter Tryz.func119, Tryz.ntmps119
  go_wp2_with fail
  go_loopw [0, 4] (fun t v wr => ∃ (sx : ByteArray) (full : List UInt8) (n : Nat), t = .string sx ∧ sx.size + full.length ≤ 1510 ∧ Hid (n = (full.take 61).length) ∧ Hid (readB s.data.toList = (readB sx.data.toList).map (full ++ ·)) ∧ wr.ownsRow w.heap.size 5 1 v n (Lib.byteCells (full.take 61)) ∧ Ran w 1 wr ∧ wr.heap[w.heap.size]? = some (.cells #[.int .i64 0, .int .i64 0, .string ⟨#[]⟩] 29 (0, 0))) (fun t _ _ => match t with | .string x => x.size | _ => 0)
  case atStart => exact ⟨s, [], 0, rfl, by simpa using hs, rfl, by show _ = _; simp, ⟨rfl, .inl ⟨rfl, rfl⟩⟩, ⟨(Below.refl _ _).alloc (Nat.le_refl _) _, by simp⟩, heap_new _ _⟩
  case round =>
    obtain ⟨sx, full, n, rfl, hsx, hn, hrd, hown, hran, hblk⟩ := hrel
    obtain ⟨ao, cap, rfl⟩ := slice_of_own hown
    have hbl : Below w.heap.size w wr := hran.1
    have hsz : w.heap.size + 1 ≤ wr.heap.size := hran.2
    have hn61 : n ≤ 61 := by rw [hn.out]; exact List.length_take_le _ _
    have c0 : wr.cell? ⟨w.heap.size, 0, none⟩ = some (.int .i64 0) := by rw [Lib.cell_of_heap hblk]; rfl
    have c1 : wr.cell? ⟨w.heap.size, 1, none⟩ = some (.int .i64 0) := by rw [Lib.cell_of_heap hblk]; rfl
    have c2 : wr.cell? ⟨w.heap.size, 2, none⟩ = some (.string ⟨#[]⟩) := by rw [Lib.cell_of_heap hblk]; rfl
    have f0 := Lib.frozen_of_heap hblk 0
    have f1 := Lib.frozen_of_heap hblk 1
    have f2 := Lib.frozen_of_heap hblk 2
    by_cases h39 : sx.data.toList = [39]
    · have ht : (sx.toList == [39]) = true := by rw [Lib.toList_data, h39]; rfl
      have hr : readB s.data.toList = some full := by rw [hrd.out, h39, readB_end]; simp
      have Hr := Lib.hid hr
      clear hr h39
      by_cases hlen : full.length ≤ 60
      · have hn60 : ¬ (60 : Int) < n := by rw [hn.out, List.length_take]; omega
        have hown2 := hown
        rw [List.take_of_length_le (by omega)] at hown2
        have Hcv := Lib.hid (conv_own hown2)
        have Hlen := Lib.hid hlen
        clear hlen hown2
        go_wp2_with fail
        rw [Hcv.out]
        simp only [Result.andThen]
        rw [Oper.upon_value]
        go_wp2_with fail
        exact bodyPost_ret (v := .tuple #[.agg #[.int .i64 3, .int .i64 0, .string ⟨full.toArray⟩], .int .i64 0]) (by simp [results, Tryz.results119, go_sem, c0, c1, c2]) rfl ⟨by rw [← Hres.out, Hr.out, textRes, if_pos Hlen.out], below_store3 hbl (Nat.le_refl _) _ _ _⟩
      · have hn60 : (60 : Int) < n := by rw [hn.out, List.length_take]; omega
        have Hlen := Lib.hid hlen
        clear hlen
        go_wp2_with fail
        exact bodyPost_ret (v := .tuple #[vz, .int .i64 1]) (by simp [results, Tryz.results119, go_sem, c0, c1, c2]) rfl ⟨by rw [← Hres.out, Hr.out, textRes, if_neg Hlen.out], below_store3 hbl (Nat.le_refl _) _ _ _⟩
    · have ht : (sx.toList == [39]) = false := by rw [Lib.toList_data, beq_eq_false_iff_ne]; exact h39
      cases hf : firstL sx.data.toList with
      | none =>
        have hr : readB s.data.toList = none := by rw [hrd.out, readB_none h39 hf]; rfl
        have Hr := Lib.hid hr
        have HF := Lib.hid (first_none sx wr hf)
        clear hr h39 hf
        go_wp2_with fail
        refine HF.out.mono ?_
        rintro e w1 ⟨rfl, nq, rfl⟩
        go_wp2_with fail
        exact bodyPost_ret (v := .tuple #[vz, .int .i64 2]) (by simp [results, Tryz.results119, go_sem, c0, c1, c2]) rfl ⟨by rw [← Hres.out, Hr.out, textRes], below_store3 (below_drewN hbl _) (Nat.le_refl _) _ _ _⟩
      | some x =>
        obtain ⟨c, r⟩ := x
        obtain ⟨q, q1, q3, hq, hdrop, hF⟩ := first_some sx c r wr hf
        have HF := Lib.hid hF
        have Hrd2 : Hid (readB s.data.toList = (readB r).map ((full ++ [c]) ++ ·)) := Lib.hid (by
          rw [hrd.out, readB_some h39 hf, Option.map_map]
          congr 1
          funext z
          simp)
        have Hex : Hid ((sx.extract q sx.size).data.toList = r) := Lib.hid (by rw [extract_to, hdrop])
        have Hsz : Hid ((sx.extract q sx.size).size = r.length) := Lib.hid (size_list Hex.out)
        have hq0 : ((q : Int) == 0) = false := by rw [beq_eq_false_iff_ne]; omega
        have hqs : q ≤ sx.size := by omega
        have Hq := Lib.hid hq
        clear hF h39 hf hdrop hq
        by_cases hlen : full.length ≤ 60
        · have hn60 : (n : Int) ≤ 60 := by rw [hn.out, List.length_take]; omega
          have hn' : Hid (n + 1 = ((full ++ [c]).take 61).length) := Lib.hid (by rw [hn.out, List.length_take, List.length_take, List.length_append]; simp; omega)
          have htk : Hid (Lib.byteCells ((full ++ [c]).take 61) = Lib.byteCells (full.take 61) ++ [.int .u8 c.toNat]) := Lib.hid (take61 full c hlen)
          have hne := Lib.ownBlock_ne hown hblk (by decide)
          clear hlen
          go_wp2_with fail
          refine HF.out.mono ?_
          rintro e w1 ⟨rfl, nq, rfl⟩
          have hownd : (wr.drewN nq).ownsRow w.heap.size 5 1 (.slice ao n cap) n (Lib.byteCells (full.take 61)) := hown
          go_wp2_with (at_builtin; refine wpList_append_own _ rfl _ _ 219 rfl w.heap.size 5 i0 (.int .u8 0) 1 1 Tryz.underlying219 hi hz0 hz1 hz2 rfl (by decide) _ _ _ rfl (hownd.alloc _) ⟨wr.heap.size, 0, none⟩ 1 1 [.int .u8 c.toNat] rfl rfl ?c1 ?c2 ?c3 ?c4 ?c5 ?_)
          case c1 =>
            intro j u hj
            match j, hj with
            | 0, hj => simp at hj; subst hj; simp [Addr.add]; exact Lib.cell_of_heap (heap_new (wr.drewN nq) _) 0
          case c2 => intro u hu; simp at hu; subst hu; rfl
          case c3 => unfold maxLen; omega
          case c4 => omega
          case c5 => simp; omega
          intro v' w2 hown' hgrow _
          have hblk2 : w2.heap[w.heap.size]? = some (.cells #[.int .i64 0, .int .i64 0, .string ⟨#[]⟩] 29 (0, 0)) := by
            rw [hgrow.block w.heap.size (by simp; omega) (fun e => hne e.symm), Lib.alloc_old _ _ _ (by simp; omega)]
            exact hblk
          have hb2 : Below w.heap.size w w2 := ((below_drewN hbl nq).alloc (by simp; omega) _).grown hgrow (by simp; omega) (fun k hk => (hown.lt k hk).1)
          have hs2 : w.heap.size + 1 ≤ w2.heap.size := by have := hgrow.size; simp at this; omega
          go_wp2_with fail
          refine ⟨⟨_, full ++ [c], n + 1, rfl, ?_, hn', ?_, by rw [htk.out]; exact hown', ⟨hb2, hs2⟩, hblk2⟩, ?_⟩
          · have hq := Hq.out; rw [Hsz.out, List.length_append]; simp; omega
          · exact Lib.hid (by rw [Hex.out]; exact Hrd2.out)
          · show (sx.extract q sx.size).size < sx.size
            have hq := Hq.out
            rw [Hsz.out]; omega
        · have hn60 : ¬ (n : Int) ≤ 60 := by rw [hn.out, List.length_take]; omega
          have htk : Hid ((full ++ [c]).take 61 = full.take 61) := Lib.hid (take61_more full c (by omega))
          clear hlen
          go_wp2_with fail
          refine HF.out.mono ?_
          rintro e w1 ⟨rfl, nq, rfl⟩
          go_wp2_with fail
          refine ⟨⟨_, full ++ [c], n, rfl, ?_, by show n = _; rw [htk.out]; exact hn.out, ?_, by rw [htk.out]; exact hown, ⟨below_drewN hbl _, hsz⟩, hblk⟩, ?_⟩
          · have hq := Hq.out; rw [Hsz.out, List.length_append]; simp; omega
          · exact Lib.hid (by rw [Hex.out]; exact Hrd2.out)
          · show (sx.extract q sx.size).size < sx.size
            have hq := Hq.out
            rw [Hsz.out]; omega
end Go.Proofs.YtjaclmoobfeikaaGreatDoor
namespace Go.Proofs.YtjaclmoobfeikaaGreatDoor
open Go.RowKit

abbrev Tre := Tr (List Vl) (List Vl)
theorem grown_reflT (w : World) (row : Option Nat) : w.grownBy w row := ⟨rfl, rfl, rfl, Nat.le_refl _, fun _ _ _ => rfl⟩
theorem grown_drewT {w w' : World} {row : Option Nat} (h : w.grownBy w' row) : w.grownBy w'.drew row := ⟨h.os, h.tape, h.output, h.size, h.block⟩
theorem grown_drewNT {w w' : World} {row : Option Nat} (h : w.grownBy w' row) (n : Nat) : w.grownBy (w'.drewN n) row := ⟨h.os, h.tape, h.output, h.size, h.block⟩
theorem grown_belowT {w w' : World} (h : Below w.heap.size w w') (row : Option Nat) : w.grownBy w' row := ⟨h.os, h.tape, h.output, h.size, fun i hi _ => h.block i hi⟩
/-- A row that lies in blocks of S. -/
def RwS (S : Nat → Prop) (w : World) (a : Option Addr) (l : List Vl) : Prop :=
  l.length ≤ 4294967296 ∧ (∀ x ∈ l, x.s.size ≤ maxLen) ∧ (l = [] ∨ ∃ b off, a = some ⟨b, off, none⟩ ∧ S b ∧ b < w.heap.size ∧ ∀ i, i < l.length → w.cell? ⟨b, off + i * 3, none⟩ = some (.int .i64 (l.getD i default).k) ∧ w.cell? ⟨b, off + i * 3 + 1, none⟩ = some (.int .i64 (l.getD i default).n) ∧ w.cell? ⟨b, off + i * 3 + 2, none⟩ = some (.string (l.getD i default).s))
theorem RwS.row {S : Nat → Prop} {w : World} {a : Option Addr} {l : List Vl} (h : RwS S w a l) : RowAt w a l :=
  ⟨by have := h.1; omega, h.2.1, h.2.2.imp id fun ⟨b, off, e, _, hlt, hc⟩ => ⟨b, off, e, hlt, hc⟩⟩
/-- What lies in S stays. -/
def Stays (S : Nat → Prop) (w w' : World) : Prop := w.heap.size ≤ w'.heap.size ∧ ∀ b, S b → b < w.heap.size → w'.heap[b]? = w.heap[b]?
theorem Stays.of {S : Nat → Prop} {w w' : World} (h : w.grownBy w' none) : Stays S w w' := ⟨h.size, fun b _ hb => h.block b hb (by simp)⟩
theorem RwS.keep {S : Nat → Prop} {w w' : World} {a : Option Addr} {l : List Vl} (h : RwS S w a l) (hk : Stays S w w') : RwS S w' a l := by
  refine ⟨h.1, h.2.1, h.2.2.imp id fun ⟨b, off, e, hs, hlt, hc⟩ => ⟨b, off, e, hs, Nat.lt_of_lt_of_le hlt hk.1, fun i hi => ?_⟩⟩
  have hb := hk.2 b hs hlt
  exact ⟨(World.cell?_of_block (a := ⟨b, _, none⟩) hb).trans (hc i hi).1, (World.cell?_of_block (a := ⟨b, _, none⟩) hb).trans (hc i hi).2.1, (World.cell?_of_block (a := ⟨b, _, none⟩) hb).trans (hc i hi).2.2⟩
theorem RwS.mono {S S' : Nat → Prop} {w : World} {a : Option Addr} {l : List Vl} (h : RwS S w a l) (hs : ∀ b, b < w.heap.size → S b → S' b) : RwS S' w a l :=
  ⟨h.1, h.2.1, h.2.2.imp id fun ⟨b, off, e, h1, h2, hc⟩ => ⟨b, off, e, hs b h2 h1, h2, hc⟩⟩
/-- A tree that lies in blocks of S. -/
def TrAt (S : Nat → Prop) (w : World) : Tre → Option Addr → Prop
  | .nil, p => p = none
  | .node l k v r, p => ∃ b ka kc va vc lp rp, p = some ⟨b, 0, none⟩ ∧ S b ∧ b < w.heap.size
      ∧ (w.cell? ⟨b, 0, none⟩ = some (.slice ka k.length kc) ∧ w.cell? ⟨b, 1, none⟩ = some (.slice va v.length vc) ∧ w.cell? ⟨b, 2, none⟩ = some (.pointer lp) ∧ w.cell? ⟨b, 3, none⟩ = some (.pointer rp) ∧ w.cell? ⟨b, 4, none⟩ = some (.int .i64 (Tr.h (.node l k v r) : Nat)) ∧ w.cell? ⟨b, 5, none⟩ = some (.int .i64 (Tr.n (.node l k v r) : Nat)))
      ∧ RwS S w ka k ∧ RwS S w va v ∧ TrAt S w l lp ∧ TrAt S w r rp
theorem TrAt.keep {S : Nat → Prop} {w w' : World} (hk : Stays S w w') : ∀ {t : Tre} {p : Option Addr}, TrAt S w t p → TrAt S w' t p
  | .nil, _, h => h
  | .node _ _ _ _, _, ⟨b, ka, kc, va, vc, lp, rp, e, hs, hb, ⟨c0, c1, c2, c3, c4, c5⟩, h1, h2, h3, h4⟩ => by
    have hbb := hk.2 b hs hb
    have g : ∀ {o : Nat} {x : Value}, w.cell? ⟨b, o, none⟩ = some x → w'.cell? ⟨b, o, none⟩ = some x := fun {o x} h => (World.cell?_of_block (a := ⟨b, o, none⟩) hbb).trans h
    exact ⟨b, ka, kc, va, vc, lp, rp, e, hs, Nat.lt_of_lt_of_le hb hk.1, ⟨g c0, g c1, g c2, g c3, g c4, g c5⟩, h1.keep hk, h2.keep hk, TrAt.keep hk h3, TrAt.keep hk h4⟩
theorem TrAt.mono {S S' : Nat → Prop} {w : World} (hs : ∀ b, b < w.heap.size → S b → S' b) : ∀ {t : Tre} {p : Option Addr}, TrAt S w t p → TrAt S' w t p
  | .nil, _, h => h
  | .node _ _ _ _, _, ⟨b, ka, kc, va, vc, lp, rp, e, hb1, hb, hc, h1, h2, h3, h4⟩ =>
    ⟨b, ka, kc, va, vc, lp, rp, e, hs b hb hb1, hb, hc, h1.mono hs, h2.mono hs, TrAt.mono hs h3, TrAt.mono hs h4⟩
end Go.Proofs.YtjaclmoobfeikaaGreatDoor
namespace Go.Proofs.YtjaclmoobfeikaaGreatDoor
open Go.RowKit

def digB (c : UInt8) : Bool := decide (48 ≤ c.toNat) && decide (c.toNat ≤ 57)
/-- Is a text what an int would be written as, of whatever size? -/
def wrB (l : List UInt8) : Bool := match Lib.trimPrefix l [45] with
  | [] => false
  | c :: r => if c = 48 then l == [48] else (c :: r).all digB

theorem all_dig_stop {t : ByteArray} {k : Nat} (h : k < t.size) (hf : digB t[k] = false) : t.data.toList.all digB = false := by
  rw [List.all_eq_false]
  refine ⟨t[k], ?_, by rw [hf]; simp⟩
  have : t.data.toList[k]'(by simpa using h) ∈ t.data.toList := List.getElem_mem _
  exact this
theorem all_dig_go {t : ByteArray} {k : Nat} (h : k < t.size) (ha : (t.data.toList.take k).all digB = true) (hf : digB t[k] = true) : (t.data.toList.take (k + 1)).all digB = true := by
  rw [take_snoc t k h, List.all_append, ha]
  simp [hf]
theorem dig_no1 {c : UInt8} (h : c.toNat < 48) : digB c = false := by simp [digB]; omega
theorem dig_no2 {c : UInt8} (h : 57 < c.toNat) : digB c = false := by simp [digB]; omega
theorem dig_yes {c : UInt8} (h : ¬ c.toNat < 48) (h' : ¬ 57 < c.toNat) : digB c = true := by simp [digB]; omega

set_option maxHeartbeats 800000 in
theorem written_any (s : ByteArray) (w : World) (hs : s.size ≤ 1510) :
    Calls Tryz.prog 136 #[.string s] w fun e w' => e = .returned (.bool (wrB s.data.toList)) ∧ Drawn w w' := by
  have HT : Hid (∀ w, ∃ t : ByteArray, t.data.toList = Lib.trimPrefix s.data.toList [45] ∧ t.size ≤ 1510 ∧ Calls Tryz.prog 149 #[.string s, .string ⟨#[45]⟩] w fun e w' => e = .returned (.string t) ∧ w = w') := Lib.hid fun w =>
    ⟨⟨(Lib.trimPrefix s.data.toList [45]).toArray⟩, by simp, by
      show (Lib.trimPrefix s.data.toList [45]).toArray.size ≤ 1510
      have : s.data.toList.length = s.size := (size_list rfl).symm
      unfold Lib.trimPrefix
      split
      · simp at this ⊢; omega
      · simp at this ⊢; omega, (Tryz.strings_TrimPrefix s ⟨#[45]⟩ w).mono fun _ _ ⟨he, hw⟩ => ⟨he, hw.symm⟩⟩
  obtain ⟨t, ht, hts, HC⟩ := HT.out w
  have HCh := Lib.hid HC
  clear HC
  generalize hres : wrB s.data.toList = res
  have Hres := Lib.hid hres
  clear hres
  cases hl : t.data.toList with
  | nil =>
    have he : t.toList.isEmpty = true := by rw [Lib.toList_data, hl]; rfl
    have hr : res = false := by rw [← Hres.out, wrB, ← ht, hl]
    subst hr
    clear hl ht
    go_enter Tryz.func136, Tryz.ntmps136
    go_wp2_with fail
    refine HCh.out.mono ?_
    rintro e w' ⟨rfl, rfl⟩
    go_wp2_with fail
    go_ret
    exact ⟨rfl, 0, rfl⟩
  | cons c r =>
    obtain ⟨h0, ec, _⟩ := shut1 hl
    have he := nonempty_bytes hl
    have h0' : (0 : Int) < t.size := by omega
    by_cases h48 : c = 48
    · have hb : ((t[0].toNat : Int) == 48) = true := by rw [ec, h48]; decide
      have hr : res = (s.toList == [48]) := by rw [← Hres.out, wrB, ← ht, hl, Lib.toList_data]; simp only [h48, if_true]
      have Hr := Lib.hid hr
      clear hl ht ec hr
      rename_i hsz
      clear hsz
      go_enter Tryz.func136, Tryz.ntmps136
      go_wp2_with fail
      refine HCh.out.mono ?_
      rintro e w' ⟨rfl, rfl⟩
      go_wp2_with fail
      go_ret
      exact ⟨ret_bool Hr.out.symm, 0, rfl⟩
    · have hb : ((t[0].toNat : Int) == 48) = false := by rw [ec]; exact ne_byte 48 (fun h => h48 (UInt8.toNat_inj.1 h))
      have hr : res = t.data.toList.all digB := by rw [← Hres.out, wrB, ← ht, hl]; simp only [h48, if_false]
      have Hr := Lib.hid hr
      clear hl ht ec hr
      rename_i hsz
      clear hsz
      go_enter Tryz.func136, Tryz.ntmps136
      go_wp2_with fail
      refine HCh.out.mono ?_
      rintro e w' ⟨rfl, rfl⟩
      go_wp2_with fail
      go_loopw [16] (fun i wr => ∃ k : Nat, k ≤ t.size ∧ i = .int .i64 k ∧ Hid ((t.data.toList.take k).all digB = true) ∧ Drawn w wr) (fun i _ => t.size - (intOf i).toNat)
      case atStart => exact ⟨0, Nat.zero_le _, rfl, rfl, 0, rfl⟩
      case round =>
        obtain ⟨k, hk, rfl, hall, nq, rfl⟩ := hrel
        by_cases hlt : k < t.size
        · go_wp2_with fail
          · have h := ‹(t[k].toNat : Int) < 48 ∨ 57 < (t[k].toNat : Int)›
            have h2 := ‹(48 : Int) ≤ (t[k].toNat : Int)›
            go_ret
            exact ⟨ret_bool (by rw [Hr.out]; exact (all_dig_stop hlt (dig_no2 (by omega))).symm), nq, rfl⟩
          · have h := ‹(48 : Int) ≤ (t[k].toNat : Int) ∧ (t[k].toNat : Int) ≤ 57›
            go_roundw
            case rel => exact ⟨k + 1, by omega, by go_num, all_dig_go hlt hall.out (dig_yes (by omega) (by omega)), nq, rfl⟩
            case measure => simp [intOf]; omega
          · have h := ‹(t[k].toNat : Int) < 48›
            go_ret
            exact ⟨ret_bool (by rw [Hr.out]; exact (all_dig_stop hlt (dig_no1 (by omega))).symm), nq, rfl⟩
        · obtain rfl : k = t.size := by omega
          go_wp2_with fail
          go_ret
          exact ⟨ret_bool (by rw [Hr.out]; have := hall.out; rw [List.take_of_length_le (by rw [← size_list rfl]; exact Nat.le_refl _)] at this; exact this.symm), nq, rfl⟩

/-- What digits say, behind a number. -/
def dfrom (n : Nat) (l : List UInt8) : Nat := l.foldl (fun n c => 10 * n + (c.toNat - 48)) n
theorem dfrom_cons (n : Nat) (c : UInt8) (l : List UInt8) : dfrom n (c :: l) = dfrom (10 * n + (c.toNat - 48)) l := by unfold dfrom; rw [List.foldl_cons]
theorem dfrom_ge : ∀ (l : List UInt8) (n : Nat), n ≤ dfrom n l
  | [], n => Nat.le_refl _
  | c :: l, n => by rw [dfrom_cons]; have := dfrom_ge l (10 * n + (c.toNat - 48)); omega
theorem dval_dfrom (l : List UInt8) : dval l = dfrom 0 l := rfl
theorem digB_iff {c : UInt8} : digB c = true ↔ 48 ≤ c.toNat ∧ c.toNat ≤ 57 := by simp [digB]
theorem dfrom_nil (n : Nat) : dfrom n [] = n := by unfold dfrom; rw [List.foldl_nil]
theorem parse_nil (n : Nat) : Lib.parseUint10 n [] = .ok n := by rw [Lib.parseUint10]
theorem parse_cons (n : Nat) (c : UInt8) (l : List UInt8) (hc : digB c = true) : Lib.parseUint10 n (c :: l) = if 1844674407370955162 ≤ n then .range else if 18446744073709551616 ≤ n * 10 + (c.toNat - 48) then .range else Lib.parseUint10 (n * 10 + (c.toNat - 48)) l := by
  rw [Lib.parseUint10, if_pos (digB_iff.1 hc)]
theorem parse10 (l : List UInt8) : ∀ n : Nat, n < 18446744073709551616 → l.all digB = true → (dfrom n l < 18446744073709551616 → Lib.parseUint10 n l = .ok (dfrom n l)) ∧ (18446744073709551616 ≤ dfrom n l → Lib.parseUint10 n l = .range) := by
  induction l with
  | nil =>
    intro n hn _
    rw [dfrom_nil, parse_nil]
    exact ⟨fun _ => rfl, fun h => by omega⟩
  | cons c l ih =>
    intro n hn h
    rw [List.all_cons, Bool.and_eq_true] at h
    have hge := dfrom_ge l (10 * n + (c.toNat - 48))
    have ih' := ih (10 * n + (c.toNat - 48))
    rw [dfrom_cons, parse_cons n c l h.1, Nat.mul_comm n 10]
    generalize dfrom (10 * n + (c.toNat - 48)) l = v at *
    by_cases h1 : 1844674407370955162 ≤ n
    · rw [if_pos h1]
      exact ⟨fun h => by omega, fun _ => rfl⟩
    · rw [if_neg h1]
      by_cases h2 : 18446744073709551616 ≤ 10 * n + (c.toNat - 48)
      · rw [if_pos h2]
        exact ⟨fun h => by omega, fun _ => rfl⟩
      · rw [if_neg h2]
        exact ih' (by omega) h.2

/-- What an int's text says. -/
def ival (l : List UInt8) : Int := match l with
  | [] => 0
  | c :: r => if c = 45 then -(dval r : Int) else dval (c :: r)
theorem wrB_cases {l : List UInt8} (h : wrB l = true) : (∃ r, l = 45 :: r ∧ r ≠ [] ∧ r.all digB = true ∧ r.head? ≠ some 48) ∨ (l ≠ [] ∧ l.all digB = true ∧ (∀ r, l ≠ 45 :: r)) := by
  unfold wrB Lib.trimPrefix Lib.hasPrefix at h
  cases l with
  | nil => simp at h
  | cons a t =>
    by_cases h45 : a = 45
    · subst h45
      simp only [List.isPrefixOf, beq_self_eq_true, Bool.true_and, if_true, List.length_cons, List.length_nil, List.drop_succ_cons, List.drop_zero] at h
      cases t with
      | nil => simp at h
      | cons c r =>
        simp only at h
        by_cases h48 : c = 48
        · rw [if_pos h48] at h
          simp at h
        · rw [if_neg h48] at h
          exact .inl ⟨c :: r, rfl, by simp, h, by simp [h48]⟩
    · have hp : ([45] : List UInt8).isPrefixOf (a :: t) = false := by simp [List.isPrefixOf, Ne.symm h45]
      rw [hp] at h
      simp only [Bool.false_eq_true, if_false] at h
      refine .inr ⟨by simp, ?_, fun r e => h45 (List.cons.inj e).1⟩
      by_cases h48 : a = 48
      · rw [if_pos h48] at h
        have := eq_of_beq h
        rw [this]; decide
      · rw [if_neg h48] at h; exact h
theorem atoi_neg {r : List UInt8} (hr : r ≠ []) {u : Nat} (h : Lib.parseUint10 0 r = .ok u) : Lib.atoiAll (45 :: r) = if 9223372036854775808 < u then .range else .ok (-(u : Int)) := by
  simp only [Lib.atoiAll, show (45 : UInt8).toNat = 45 from rfl, or_true, if_true, Lib.parseMag, if_neg hr, h, not_true_eq_false, false_and, if_false, true_and]
theorem atoi_neg_far {r : List UInt8} (hr : r ≠ []) (h : Lib.parseUint10 0 r = .range) : Lib.atoiAll (45 :: r) = .range := by
  simp only [Lib.atoiAll, show (45 : UInt8).toNat = 45 from rfl, or_true, if_true, Lib.parseMag, if_neg hr, h]
theorem atoi_pos {c : UInt8} {r : List UInt8} (hc : 48 ≤ c.toNat) {u : Nat} (h : Lib.parseUint10 0 (c :: r) = .ok u) : Lib.atoiAll (c :: r) = if 9223372036854775808 ≤ u then .range else .ok (u : Int) := by
  have h43 : ¬ (c.toNat = 43 ∨ c.toNat = 45) := by omega
  have h45 : ¬ c.toNat = 45 := by omega
  have hne : ¬ c :: r = [] := by simp
  simp only [Lib.atoiAll, if_neg h43, Lib.parseMag, if_neg hne, h, if_neg h45]
  simp only [h45, not_false_eq_true, true_and, false_and, if_false]
theorem atoi_pos_far {c : UInt8} {r : List UInt8} (hc : 48 ≤ c.toNat) (h : Lib.parseUint10 0 (c :: r) = .range) : Lib.atoiAll (c :: r) = .range := by
  have h43 : ¬ (c.toNat = 43 ∨ c.toNat = 45) := by omega
  have hne : ¬ c :: r = [] := by simp
  simp only [Lib.atoiAll, if_neg h43, Lib.parseMag, if_neg hne, h]
theorem atoi_of {l : List UInt8} (h : wrB l = true) : (inI (ival l) = true → Lib.atoiAll l = .ok (ival l)) ∧ (inI (ival l) = false → Lib.atoiAll l = .range) := by
  rcases wrB_cases h with ⟨r, rfl, hr, hd, _⟩ | ⟨hne, hd, hm⟩
  · have e : ival (45 :: r) = -(dval r : Int) := rfl
    rw [e, dval_dfrom]
    obtain ⟨p1, p2⟩ := parse10 r 0 (by omega) hd
    have q1 := fun h => atoi_neg hr (p1 h)
    have q2 := fun h => atoi_neg_far hr (p2 h)
    generalize Lib.atoiAll (45 :: r) = z at *
    generalize dfrom 0 r = v at *
    clear p1 p2 e
    constructor
    · intro hi
      rw [inI_iff] at hi
      rw [q1 (by omega), if_neg (by omega)]
    · intro hi
      have hi' : ¬ (-9223372036854775808 ≤ -(v : Int) ∧ -(v : Int) ≤ 9223372036854775807) := by rw [← inI_iff, hi]; decide
      by_cases hb : v < 18446744073709551616
      · rw [q1 hb, if_pos (by omega)]
      · exact q2 (by omega)
  · cases l with
    | nil => exact absurd rfl hne
    | cons c r =>
      have hc45 : c ≠ 45 := fun e => hm r (by rw [e])
      have hcd : 48 ≤ c.toNat ∧ c.toNat ≤ 57 := by rw [List.all_cons, Bool.and_eq_true] at hd; exact digB_iff.1 hd.1
      have e : ival (c :: r) = (dval (c :: r) : Int) := by simp [ival, hc45]
      rw [e, dval_dfrom]
      obtain ⟨p1, p2⟩ := parse10 (c :: r) 0 (by omega) hd
      have q1 := fun h => atoi_pos hcd.1 (p1 h)
      have q2 := fun h => atoi_pos_far hcd.1 (p2 h)
      generalize Lib.atoiAll (c :: r) = z at *
      generalize dfrom 0 (c :: r) = v at *
      clear p1 p2 e
      constructor
      · intro hi
        rw [inI_iff] at hi
        rw [q1 (by omega), if_neg (by omega)]
      · intro hi
        have hi' : ¬ (-9223372036854775808 ≤ (v : Int) ∧ (v : Int) ≤ 9223372036854775807) := by rw [← inI_iff, hi]; decide
        by_cases hb : v < 18446744073709551616
        · rw [q1 hb, if_pos (by omega)]
        · exact q2 (by omega)
end Go.Proofs.YtjaclmoobfeikaaGreatDoor
