/- The contract of value.readText. -/
import Derived.Test.YtiahojbliaaklaaGreatDoorReadFirst
import Derived.Test.YtiahojbliaaklaaGreatDoorRuns
import Derived.Laws.IdiomStrings
import Derived.Lib.UnsafeStr
namespace Go.Proofs.YtiahojbliaaklaaGreatDoor
open Go.RowKit

theorem slice_of_own {w : World} {B : Nat} {e : TypeId} {v : Value} {n : Nat} {xs : List Value} (h : w.ownsRow B e 1 v n xs) : ∃ ao cap, v = .slice ao n cap := by
  rcases h.2 with ⟨hv, h0⟩ | ⟨g, cap, cur, hv, _⟩
  · exact ⟨none, 0, by rw [hv, h0]⟩
  · exact ⟨_, _, hv⟩
theorem extract_to (s : ByteArray) (n : Nat) : (s.extract n s.size).data.toList = s.data.toList.drop n := Lib.extract_to_end s n
theorem take61 (full : List UInt8) (c : UInt8) (h : full.length ≤ 60) : Lib.byteCells ((full ++ [c]).take 61) = Lib.byteCells (full.take 61) ++ [.int .u8 c.toNat] := by
  rw [List.take_of_length_le (by simp; omega), List.take_of_length_le (by omega), Lib.byteCells_append]
  rfl
theorem take61_more (full : List UInt8) (c : UInt8) (h : 60 < full.length) : (full ++ [c]).take 61 = full.take 61 := by
  rw [List.take_append_of_le_length (by omega)]

/-- string(b) of a slice of the call's own. -/
theorem conv_own {w : World} {B : Nat} {v : Value} {n : Nat} {l : List UInt8} (h : w.ownsRow B 5 1 v n (Lib.byteCells l)) : (convert 86 9 v).run Tryz.prog w = .ok (.string ⟨l.toArray⟩) w := by
  have hlen : l.length = n := by have := h.1; rw [Lib.byteCells_length] at this; omega
  rcases h.2 with ⟨rfl, h0⟩ | ⟨g, cap, cur, rfl, _⟩
  · have : l = [] := List.eq_nil_of_length_eq_zero (by omega)
    subst this
    rw [run_convert_bytes_string w _ _ 5 _ _ _ Tryz.underlying86 Tryz.underlying5 Tryz.underlying9]
    rfl
  · subst hlen
    refine run_convert_bytes_back w _ _ 5 _ cap l Tryz.underlying86 Tryz.underlying5 Tryz.underlying9 (fun j hj => ?_)
    have := h.cells (g := g) rfl j (.int .u8 l[j].toNat) (by simp [Lib.byteCells, hj])
    simpa [Addr.add] using this

/-- What the reading of a text comes to. -/
def textRes (o : Option (List UInt8)) : Value := match o with
  | none => .tuple #[vz, .int .i64 2]
  | some t => if t.length ≤ 60 then .tuple #[.agg #[.int .i64 3, .int .i64 0, .string ⟨t.toArray⟩], .int .i64 0] else .tuple #[vz, .int .i64 1]

set_option maxRecDepth 100000 in
set_option maxHeartbeats 800000 in
theorem readText_any (s : ByteArray) (w : World) (hs : s.size ≤ 1510) :
    Calls Tryz.prog 46 #[.string s] w fun e w' => e = .returned (textRes (readB s.data.toList)) ∧ Below w.heap.size w w' := by
  generalize hres : textRes (readB s.data.toList) = res
  have Hres := Lib.hid hres
  clear hres
  obtain ⟨i0, hi, hz0, hz1, hz2⟩ := info_parts byte_info
  go_enter Tryz.func46, Tryz.ntmps46
  go_wp2_with fail
  go_loopw [0, 4] (fun t v wr => ∃ (sx : ByteArray) (full : List UInt8) (n : Nat), t = .string sx ∧ sx.size + full.length ≤ 1510 ∧ Hid (n = (full.take 61).length) ∧ Hid (readB s.data.toList = (readB sx.data.toList).map (full ++ ·)) ∧ wr.ownsRow w.heap.size 5 1 v n (Lib.byteCells (full.take 61)) ∧ Ran w 1 wr ∧ wr.heap[w.heap.size]? = some (.cells #[.int .i64 0, .int .i64 0, .string ⟨#[]⟩] 63 (0, 0))) (fun t _ _ => match t with | .string x => x.size | _ => 0)
  case atStart => exact ⟨s, [], 0, rfl, by simpa using hs, rfl, by show _ = _; simp, ⟨rfl, .inl ⟨rfl, rfl⟩⟩, ⟨(Below.refl _ _).alloc (Nat.le_refl _) _, by simp⟩, heap_new _ _⟩
  case round =>
    obtain ⟨sx, full, n, rfl, hsx, hn, hrd, hown, hran, hblk⟩ := hrel
    obtain ⟨ao, cap, rfl⟩ := slice_of_own hown
    have hbl : Below w.heap.size w wr := hran.1
    have hsz : w.heap.size + 1 ≤ wr.heap.size := hran.2
    have hn61 : n ≤ 61 := by rw [hn.out]; exact List.length_take_le _ _
    have c0 : wr.cell? ⟨w.heap.size, 0, none⟩ = some (.int .i64 0) := by rw [Lib.cell_of_heap hblk]; rfl
    have c1 : wr.cell? ⟨w.heap.size, 1, none⟩ = some (.int .i64 0) := by rw [Lib.cell_of_heap hblk]; rfl
    have c2 : wr.cell? ⟨w.heap.size, 2, none⟩ = some (.string ⟨#[]⟩) := by rw [Lib.cell_of_heap hblk]; rfl
    have f0 := Lib.frozen_of_heap hblk 0
    have f1 := Lib.frozen_of_heap hblk 1
    have f2 := Lib.frozen_of_heap hblk 2
    by_cases h39 : sx.data.toList = [39]
    · have ht : (sx.toList == [39]) = true := by rw [Lib.toList_data, h39]; rfl
      have hr : readB s.data.toList = some full := by rw [hrd.out, h39, readB_end]; simp
      have Hr := Lib.hid hr
      clear hr h39
      by_cases hlen : full.length ≤ 60
      · have hn60 : ¬ (60 : Int) < n := by rw [hn.out, List.length_take]; omega
        have hown2 := hown
        rw [List.take_of_length_le (by omega)] at hown2
        have Hcv := Lib.hid (conv_own hown2)
        have Hlen := Lib.hid hlen
        clear hlen hown2
        go_wp2_with fail
        rw [Hcv.out]
        simp only [Result.andThen]
        rw [Oper.upon_value]
        go_wp2_with fail
        exact bodyPost_ret (v := .tuple #[.agg #[.int .i64 3, .int .i64 0, .string ⟨full.toArray⟩], .int .i64 0]) (by simp [results, Tryz.results46, go_sem, c0, c1, c2]) rfl ⟨by rw [← Hres.out, Hr.out, textRes, if_pos Hlen.out], below_store3 hbl (Nat.le_refl _) _ _ _⟩
      · have hn60 : (60 : Int) < n := by rw [hn.out, List.length_take]; omega
        have Hlen := Lib.hid hlen
        clear hlen
        go_wp2_with fail
        exact bodyPost_ret (v := .tuple #[vz, .int .i64 1]) (by simp [results, Tryz.results46, go_sem, c0, c1, c2]) rfl ⟨by rw [← Hres.out, Hr.out, textRes, if_neg Hlen.out], below_store3 hbl (Nat.le_refl _) _ _ _⟩
    · have ht : (sx.toList == [39]) = false := by rw [Lib.toList_data, beq_eq_false_iff_ne]; exact h39
      cases hf : firstL sx.data.toList with
      | none =>
        have hr : readB s.data.toList = none := by rw [hrd.out, readB_none h39 hf]; rfl
        have Hr := Lib.hid hr
        have HF := Lib.hid (first_none sx wr hf)
        clear hr h39 hf
        go_wp2_with fail
        refine HF.out.mono ?_
        rintro e w1 ⟨rfl, nq, rfl⟩
        go_wp2_with fail
        exact bodyPost_ret (v := .tuple #[vz, .int .i64 2]) (by simp [results, Tryz.results46, go_sem, c0, c1, c2]) rfl ⟨by rw [← Hres.out, Hr.out, textRes], below_store3 (below_drewN hbl _) (Nat.le_refl _) _ _ _⟩
      | some x =>
        obtain ⟨c, r⟩ := x
        obtain ⟨q, q1, q3, hq, hdrop, hF⟩ := first_some sx c r wr hf
        have HF := Lib.hid hF
        have Hrd2 : Hid (readB s.data.toList = (readB r).map ((full ++ [c]) ++ ·)) := Lib.hid (by
          rw [hrd.out, readB_some h39 hf, Option.map_map]
          congr 1
          funext z
          simp)
        have Hex : Hid ((sx.extract q sx.size).data.toList = r) := Lib.hid (by rw [extract_to, hdrop])
        have Hsz : Hid ((sx.extract q sx.size).size = r.length) := Lib.hid (size_list Hex.out)
        have hq0 : ((q : Int) == 0) = false := by rw [beq_eq_false_iff_ne]; omega
        have hqs : q ≤ sx.size := by omega
        have Hq := Lib.hid hq
        clear hF h39 hf hdrop hq
        by_cases hlen : full.length ≤ 60
        · have hn60 : (n : Int) ≤ 60 := by rw [hn.out, List.length_take]; omega
          have hn' : Hid (n + 1 = ((full ++ [c]).take 61).length) := Lib.hid (by rw [hn.out, List.length_take, List.length_take, List.length_append]; simp; omega)
          have htk : Hid (Lib.byteCells ((full ++ [c]).take 61) = Lib.byteCells (full.take 61) ++ [.int .u8 c.toNat]) := Lib.hid (take61 full c hlen)
          have hne := Lib.ownBlock_ne hown hblk (by decide)
          clear hlen
          go_wp2_with fail
          refine HF.out.mono ?_
          rintro e w1 ⟨rfl, nq, rfl⟩
          have hownd : (wr.drewN nq).ownsRow w.heap.size 5 1 (.slice ao n cap) n (Lib.byteCells (full.take 61)) := hown
          go_wp2_with (at_builtin; refine wpList_append_own _ rfl _ _ 86 rfl w.heap.size 5 i0 (.int .u8 0) 1 1 Tryz.underlying86 hi hz0 hz1 hz2 rfl (by decide) _ _ _ rfl (hownd.alloc _) ⟨wr.heap.size, 0, none⟩ 1 1 [.int .u8 c.toNat] rfl rfl ?c1 ?c2 ?c3 ?c4 ?c5 ?_)
          case c1 =>
            intro j u hj
            match j, hj with
            | 0, hj => simp at hj; subst hj; simp [Addr.add]; exact Lib.cell_of_heap (heap_new (wr.drewN nq) _) 0
          case c2 => intro u hu; simp at hu; subst hu; rfl
          case c3 => unfold maxLen; omega
          case c4 => omega
          case c5 => simp; omega
          intro v' w2 hown' hgrow _
          have hblk2 : w2.heap[w.heap.size]? = some (.cells #[.int .i64 0, .int .i64 0, .string ⟨#[]⟩] 63 (0, 0)) := by
            rw [hgrow.block w.heap.size (by simp; omega) (fun e => hne e.symm), Lib.alloc_old _ _ _ (by simp; omega)]
            exact hblk
          have hb2 : Below w.heap.size w w2 := ((below_drewN hbl nq).alloc (by simp; omega) _).grown hgrow (by simp; omega) (fun k hk => (hown.lt k hk).1)
          have hs2 : w.heap.size + 1 ≤ w2.heap.size := by have := hgrow.size; simp at this; omega
          go_wp2_with fail
          refine ⟨⟨_, full ++ [c], n + 1, rfl, ?_, hn', ?_, by rw [htk.out]; exact hown', ⟨hb2, hs2⟩, hblk2⟩, ?_⟩
          · have hq := Hq.out; rw [Hsz.out, List.length_append]; simp; omega
          · exact Lib.hid (by rw [Hex.out]; exact Hrd2.out)
          · show (sx.extract q sx.size).size < sx.size
            have hq := Hq.out
            rw [Hsz.out]; omega
        · have hn60 : ¬ (n : Int) ≤ 60 := by rw [hn.out, List.length_take]; omega
          have htk : Hid ((full ++ [c]).take 61 = full.take 61) := Lib.hid (take61_more full c (by omega))
          clear hlen
          go_wp2_with fail
          refine HF.out.mono ?_
          rintro e w1 ⟨rfl, nq, rfl⟩
          go_wp2_with fail
          refine ⟨⟨_, full ++ [c], n, rfl, ?_, by show n = _; rw [htk.out]; exact hn.out, ?_, by rw [htk.out]; exact hown, ⟨below_drewN hbl _, hsz⟩, hblk⟩, ?_⟩
          · have hq := Hq.out; rw [Hsz.out, List.length_append]; simp; omega
          · exact Lib.hid (by rw [Hex.out]; exact Hrd2.out)
          · show (sx.extract q sx.size).size < sx.size
            have hq := Hq.out
            rw [Hsz.out]; omega
end Go.Proofs.YtiahojbliaaklaaGreatDoor
