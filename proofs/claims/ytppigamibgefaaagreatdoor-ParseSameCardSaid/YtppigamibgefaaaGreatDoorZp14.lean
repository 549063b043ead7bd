/- The errors of lex in memory; the contracts of lex's literal and Word. Queries but for places: what is read hangs on the tokens' kinds and texts alone. How great a query's predicate may be: so many of them for each token. -/
import Derived.Test.YtppigamibgefaaaGreatDoorZp13
import Derived.Test.YtppigamibgefaaaGreatDoorZp01
import Derived.Test.YtppigamibgefaaaGreatDoorZp12
namespace Go.Proofs.YtppigamibgefaaaGreatDoor
open Go.RowKit

theorem grown_reflX (w : World) (row : Option Nat) : w.grownBy w row := ⟨rfl, rfl, rfl, Nat.le_refl _, fun _ _ _ => rfl⟩
theorem grown_belowX {w w' : World} (h : Below w.heap.size w w') (row : Option Nat) : w.grownBy w' row := ⟨h.os, h.tape, h.output, h.size, fun i hi _ => h.block i hi⟩
theorem grown_drewX {w w' : World} {row : Option Nat} (h : w.grownBy w' row) (n : Nat) : w.grownBy (w'.drewN n) row := ⟨h.os, h.tape, h.output, h.size, h.block⟩
theorem grown_drew1X {w w' : World} {row : Option Nat} (h : w.grownBy w' row) : w.grownBy w'.drew row := ⟨h.os, h.tape, h.output, h.size, h.block⟩
/-- A sentinel: the variable g holds a pointer to a text of its own. -/
structure SenAt (G g : Nat) (a : Addr) (text : List UInt8) (w : World) : Prop where
  lt : g < G
  alt : a.block < G
  var : w.cell? ⟨g, 0, none⟩ = some (.iface 291 (.pointer (some a)))
  str : ∃ s, w.cell? a = some (.string s) ∧ s.data.toList = text
  blk : ∃ c t, w.heap[a.block]? = some (.cells c t (0, 0))
theorem SenAt.keep {G g : Nat} {a : Addr} {text : List UInt8} {w w' : World} (h : SenAt G g a text w) (hg : w.grownBy w' none) : SenAt G g a text w' := by
  obtain ⟨h1, h2, h3, ⟨s, h4, h5⟩, ⟨c, t, h6⟩⟩ := h
  have hlt : a.block < w.heap.size := by
    rcases Nat.lt_or_ge a.block w.heap.size with h | h
    · exact h
    · rw [Array.getElem?_eq_none h] at h6; cases h6
  exact ⟨h1, h2, hg.cell h3 (by simp), ⟨s, hg.cell h4 (by simp), h5⟩, ⟨c, t, by rw [hg.block _ hlt (by simp)]; exact h6⟩⟩
theorem SenAt.keepR {G g : Nat} {a : Addr} {text : List UInt8} {w w' : World} (h : SenAt G g a text w) {b : Nat} (hg : w.grownBy w' (some b)) (hb : G ≤ b) : SenAt G g a text w' := by
  obtain ⟨h1, h2, h3, ⟨s, h4, h5⟩, ⟨c, t, h6⟩⟩ := h
  have hlt : a.block < w.heap.size := by
    rcases Nat.lt_or_ge a.block w.heap.size with h | h
    · exact h
    · rw [Array.getElem?_eq_none h] at h6; cases h6
  exact ⟨h1, h2, hg.cell h3 (by simp; omega), ⟨s, hg.cell h4 (by simp; omega), h5⟩, ⟨c, t, by rw [hg.block _ hlt (by simp; omega)]; exact h6⟩⟩
theorem SenAt.ne {G g G' g' : Nat} {a b : Addr} {x y : List UInt8} {w : World} (h : SenAt G g a x w) (h' : SenAt G' g' b y w) (hxy : x ≠ y) : a ≠ b := by
  rintro rfl
  obtain ⟨s, h1, h2⟩ := h.str
  obtain ⟨t, h3, h4⟩ := h'.str
  rw [h1] at h3
  cases h3
  exact hxy (h2.symm.trans h4)
/-- What lex reads of package variables: its four errors, strconv's, errors' type. -/
structure LxEnv (G : Nat) (n g m l : Addr) (w : World) : Prop where
  sn : SenAt G 10 n [110, 111, 32, 116, 111, 107, 101, 110] w
  sg : SenAt G 7 g [97, 32, 118, 97, 108, 117, 101, 32, 116, 104, 97, 116, 32, 105, 115, 32, 116, 111, 111, 32, 103, 114, 101, 97, 116, 44, 32, 111, 114, 32, 116, 111, 111, 32, 108, 111, 110, 103] w
  sm : SenAt G 6 m [111, 110, 101, 32, 116, 111, 107, 101, 110, 32, 116, 111, 111, 32, 109, 97, 110, 121] w
  sl : SenAt G 5 l [97, 32, 116, 101, 120, 116, 32, 116, 104, 97, 116, 32, 105, 115, 32, 116, 111, 111, 32, 108, 111, 110, 103] w
  far : Far w
  fl : 12 < G
  et : ErrT G w
  le : G ≤ w.heap.size
theorem far_grown {w w' : World} (h : Far w) (hg : w.grownBy w' none) : Far w' := by
  obtain ⟨tp, p, h⟩ := h
  exact ⟨tp, p, hg.cell h (by simp)⟩
theorem LxEnv.keep {G : Nat} {n g m l : Addr} {w w' : World} (h : LxEnv G n g m l w) (hg : w.grownBy w' none) : LxEnv G n g m l w' :=
  ⟨h.sn.keep hg, h.sg.keep hg, h.sm.keep hg, h.sl.keep hg, far_grown h.far hg, h.fl, ⟨h.et.1, hg.cell h.et.2 (by simp)⟩, Nat.le_trans h.le hg.size⟩
theorem LxEnv.keepR {G : Nat} {n g m l : Addr} {w w' : World} (h : LxEnv G n g m l w) {b : Nat} (hg : w.grownBy w' (some b)) (hb : G ≤ b) : LxEnv G n g m l w' := by
  obtain ⟨tp, p, hf⟩ := h.far
  have hfl := h.fl
  have hel := h.et.1
  exact ⟨h.sn.keepR hg hb, h.sg.keepR hg hb, h.sm.keepR hg hb, h.sl.keepR hg hb, ⟨tp, p, hg.cell hf (by simp; omega)⟩, h.fl, ⟨hel, hg.cell h.et.2 (by simp; omega)⟩, Nat.le_trans h.le hg.size⟩
/-- The error of a number. -/
def errV (n g m l : Addr) : Nat → Value
  | 0 => .nilIface
  | 1 => .iface 291 (.pointer (some g))
  | 3 => .iface 291 (.pointer (some m))
  | 13 => .iface 291 (.pointer (some l))
  | _ => .iface 291 (.pointer (some n))
theorem litC_cases (l : List UInt8) : (readC l = 0 ∧ litC l = 0) ∨ (readC l = 1 ∧ litC l = 1) ∨ (readC l = 2 ∧ litC l = 10) := by
  have := readC_le l
  unfold litC
  obtain h | h | h : readC l = 0 ∨ readC l = 1 ∨ readC l = 2 := by omega
  all_goals rw [h]; simp
set_option maxHeartbeats 800000 in
theorem literal_any (G : Nat) (n g m l : Addr) (s : ByteArray) (w : World) (hs : s.size ≤ 1510) (hE : LxEnv G n g m l w) :
    Calls Tryz.prog 160 #[.string s] w fun e w' => e = .returned (errV n g m l (litC s.data.toList)) ∧ w.grownBy w' none := by
  have HR := Lib.hid (Read_any s w hs hE.far)
  obtain ⟨k, q, t, hv⟩ := readV_code s.data.toList
  rw [hv] at HR
  have HE := Lib.hid hE
  clear hv hE
  rcases litC_cases s.data.toList with ⟨h1, h2⟩ | ⟨h1, h2⟩ | ⟨h1, h2⟩
  · rw [h2]
    rw [h1] at HR
    clear h1 h2
    go_enter Tryz.func160, Tryz.ntmps160
    go_wp2_with fail
    refine (HR.out).mono ?_
    rintro e w2 ⟨rfl, hb⟩
    have K2 := Lib.hid ((grown_belowX hb none).trans (World.grownBy_alloc w2 (.cells #[.int .i64 k, .int .i64 q, .string t] 27) none))
    clear hb
    go_wp2_with fail
    go_ret
    exact ⟨rfl, K2.out⟩
  · rw [h2]
    rw [h1] at HR
    clear h1 h2
    go_enter Tryz.func160, Tryz.ntmps160
    go_wp2_with fail
    refine (HR.out).mono ?_
    rintro e w2 ⟨rfl, hb⟩
    have K2 := Lib.hid ((grown_belowX hb none).trans (World.grownBy_alloc w2 (.cells #[.int .i64 k, .int .i64 q, .string t] 27) none))
    have cv := (HE.out.keep K2.out).sg.var
    clear hb
    go_wp2_with fail
    go_ret
    exact ⟨rfl, K2.out⟩
  · rw [h2]
    rw [h1] at HR
    clear h1 h2
    go_enter Tryz.func160, Tryz.ntmps160
    go_wp2_with fail
    refine (HR.out).mono ?_
    rintro e w2 ⟨rfl, hb⟩
    have K2 := Lib.hid ((grown_belowX hb none).trans (World.grownBy_alloc w2 (.cells #[.int .i64 k, .int .i64 q, .string t] 27) none))
    have cv := (HE.out.keep K2.out).sn.var
    clear hb
    go_wp2_with fail
    go_ret
    exact ⟨rfl, K2.out⟩
end Go.Proofs.YtppigamibgefaaaGreatDoor
namespace Go.Proofs.YtppigamibgefaaaGreatDoor

def Tk.e (t : Tk) : Tk := ⟨t.kind, t.text, 0⟩
def erE (e : Option (Nat × Nat)) : Option (Nat × Nat) := e.map fun p => (0, p.2)
def RS.e (s : RS) : RS := ⟨s.rest.map Tk.e, erE s.err⟩
def Itm.e (x : Itm) : Itm := ⟨x.agg, x.col, 0⟩
def Kyo.e (x : Kyo) : Kyo := ⟨x.item.e, x.desc⟩
mutual
def Prd.e : Prd → Prd
  | .mk k c r v o l ks _ => .mk k c r v o l (Prd.es ks) 0
def Prd.es : List Prd → List Prd
  | [] => []
  | x :: r => x.e :: Prd.es r
end
theorem Prd.es_map (l : List Prd) : Prd.es l = l.map Prd.e := by
  induction l with
  | nil => rfl
  | cons x r ih => simp [Prd.es, ih]
def Qry.e (q : Qry) : Qry := ⟨q.items.map Itm.e, q.all, q.table, q.cond.e, q.group.map Itm.e, q.order.map Kyo.e, q.limit⟩

theorem RS.hd_e (s : RS) : s.e.hd = s.hd.e := by
  obtain ⟨l, e⟩ := s
  cases l <;> rfl
theorem RS.hd_text (s : RS) : s.e.hd.text = s.hd.text := by rw [RS.hd_e]; rfl
theorem RS.hd_kind (s : RS) : s.e.hd.kind = s.hd.kind := by rw [RS.hd_e]; rfl
theorem RS.hd_pos (s : RS) : s.e.hd.pos = 0 := by rw [RS.hd_e]; rfl
theorem RS.wrong_e (s : RS) (c : Nat) : s.e.wrong c = (s.wrong c).e := by
  unfold RS.wrong
  rw [RS.hd_pos]
  obtain ⟨l, e⟩ := s
  cases e with
  | none => simp [RS.e, erE, List.map_drop]
  | some p => simp [RS.e, erE, List.map_drop]
theorem RS.pass_e (s : RS) : s.e.pass = s.pass.e := by simp [RS.pass, RS.e]
theorem RS.comes_e (s : RS) (t : ByteArray) : s.e.comes t = s.comes t := by unfold RS.comes; rw [RS.hd_text]
theorem RS.need_e (s : RS) (t : ByteArray) : s.e.need t = (s.need t).e := by
  unfold RS.need
  rw [RS.comes_e, RS.pass_e, RS.wrong_e]
  split <;> rfl
theorem RS.fin_e (s : RS) : s.e.fin = s.fin.e := by
  unfold RS.fin
  rw [RS.hd_kind, RS.wrong_e]
  split <;> rfl
theorem RS.named_e (s : RS) : s.e.named = s.named := by unfold RS.named; rw [RS.hd_kind]
theorem RS.name_e (s : RS) : s.e.name = (s.name.1.e, s.name.2) := by
  unfold RS.name
  rw [RS.named_e, RS.pass_e, RS.wrong_e, RS.hd_text]
  split <;> rfl
theorem RS.literal_e (s : RS) : s.e.literal = (s.literal.1.e, s.literal.2) := by
  unfold RS.literal
  rw [RS.pass_e, RS.wrong_e, RS.hd_text]
  split <;> rfl
theorem RS.rel_e (s : RS) : s.e.rel = (s.rel.1.e, s.rel.2) := by
  unfold RS.rel
  rw [RS.pass_e, RS.hd_text]
  split <;> rfl
theorem listF_e {β : Type} (er : β → β) (most : Nat) (nx : RS → RS × β) (hn : ∀ s, nx s.e = ((nx s).1.e, er (nx s).2)) : ∀ (f : Nat) (s : RS) (acc : List β), listF most nx f s.e (acc.map er) = ((listF most nx f s acc).1.e, (listF most nx f s acc).2.map er)
  | 0, s, acc => rfl
  | f + 1, s, acc => by
    simp only [listF]
    rw [hn, List.length_map, RS.wrong_e]
    dsimp only
    rw [RS.comes_e, RS.pass_e]
    have h := listF_e er most nx hn f (nx s).1.pass (acc ++ [(nx s).2])
    rw [List.map_append] at h
    simp only [List.map_cons, List.map_nil] at h
    rw [h]
    by_cases h1 : acc.length = most
    · simp [h1]
    · simp only [h1, if_false]
      by_cases h2 : (nx s).1.comes bComma = true <;> simp [h2]
theorem partsF_e (word : ByteArray) (pf : RS → RS × Prd) (hn : ∀ s, pf s.e = ((pf s).1.e, (pf s).2.e)) : ∀ (f : Nat) (s : RS) (acc : List Prd), partsF word pf f s.e (acc.map Prd.e) = ((partsF word pf f s acc).1.e, (partsF word pf f s acc).2.map Prd.e)
  | 0, s, acc => rfl
  | f + 1, s, acc => by
    simp only [partsF]
    rw [RS.pass_e, hn, RS.comes_e]
    dsimp only
    have h := partsF_e word pf hn f (pf s.pass).1 (acc ++ [(pf s.pass).2])
    rw [List.map_append] at h
    simp only [List.map_cons, List.map_nil] at h
    rw [h]
    by_cases h2 : s.comes word = true <;> simp [h2]
theorem joinP_e (kind p : Nat) (l : List Prd) : joinP kind 0 (l.map Prd.e) = (joinP kind p l).e := by
  unfold joinP
  match l with
  | [] => simp [Prd.e, Prd.es]
  | [x] => simp
  | x :: y :: r => simp [Prd.e, Prd.es_map]
theorem partsL_e (kind : Nat) (word : ByteArray) (pf : RS → RS × Prd) (hn : ∀ s, pf s.e = ((pf s).1.e, (pf s).2.e)) (s : RS) : partsL kind word pf s.e = ((partsL kind word pf s).1.e, (partsL kind word pf s).2.e) := by
  unfold partsL
  rw [hn, RS.hd_pos]
  dsimp only
  have h := partsF_e word pf hn (pf s).1.rest.length (pf s).1 [(pf s).2]
  simp only [List.map_cons, List.map_nil] at h
  rw [show (pf s).1.e.rest.length = (pf s).1.rest.length by simp [RS.e], h]
  dsimp only
  rw [joinP_e]
theorem notP_e (p : Prd) (n : Nat) : notP p.e 0 = (notP p n).e := by simp [notP, Prd.e, Prd.es]
theorem amongL_e (col : ByteArray) (n : Nat) (s : RS) : amongL col 0 s.e = ((amongL col n s).1.e, (amongL col n s).2.e) := by
  unfold amongL
  rw [RS.comes_e, RS.pass_e, RS.need_e, RS.need_e, RS.literal_e]
  dsimp only
  rw [RS.need_e, RS.literal_e]
  have h := listF_e (fun v : Vl => v) 12 RS.literal RS.literal_e 13 (s.pass.need bOpen) []
  simp only [List.map_id_fun', id, List.map_nil] at h
  rw [h]
  dsimp only
  rw [RS.need_e]
  split <;> simp [Prd.e, Prd.es]
theorem nameP_e (n : Nat) (s : RS) : nameP 0 s.e = ((nameP n s).1.e, (nameP n s).2.e) := by
  unfold nameP
  rw [RS.name_e]
  dsimp only
  generalize s.name.1 = u
  generalize s.name.2 = c
  rw [RS.comes_e, RS.comes_e, RS.pass_e, RS.comes_e, RS.pass_e, RS.need_e, RS.need_e, RS.rel_e]
  dsimp only
  rw [amongL_e c n, amongL_e c n, RS.named_e, RS.name_e, RS.literal_e, notP_e _ n]
  dsimp only
  by_cases h1 : u.comes bIs = true
  · by_cases h2 : u.pass.comes bNot = true <;> simp [h1, h2, Prd.e, Prd.es]
  · by_cases h3 : u.comes bNot = true
    · simp [h1, h3]
    · by_cases h4 : u.rel.2 = 0
      · simp [h1, h3, h4]
      · by_cases h5 : u.rel.1.named = true <;> simp [h1, h3, h4, h5, Prd.e, Prd.es]
theorem truthP_e (v : Vl) (n : Nat) (s : RS) : truthP v 0 s.e = ((truthP v n s).1.e, (truthP v n s).2.e) := by
  unfold truthP
  rw [RS.wrong_e]
  by_cases h : v.k = 1 <;> simp [h, Prd.e, Prd.es]
theorem litP_e (n : Nat) (s : RS) : litP 0 s.e = ((litP n s).1.e, (litP n s).2.e) := by
  unfold litP
  rw [RS.literal_e]
  dsimp only
  generalize s.literal.1 = u
  generalize s.literal.2 = v
  rw [RS.rel_e]
  dsimp only
  rw [truthP_e v n, RS.named_e, RS.name_e, RS.literal_e]
  dsimp only
  by_cases h4 : u.rel.2 = 0
  · simp [h4]
  · by_cases h5 : u.rel.1.named = true <;> simp [h4, h5, Prd.e, Prd.es]
theorem oneF_e : ∀ (d : Nat) (s : RS), oneF d s.e = ((oneF d s).1.e, (oneF d s).2.e)
  | 0, s => by simp [oneF, RS.wrong_e, Prd.none, Prd.e, Prd.es]
  | d + 1, s => by
    simp only [oneF]
    rw [RS.comes_e, RS.comes_e, RS.pass_e, RS.named_e, RS.hd_pos, oneF_e d]
    dsimp only
    rw [partsL_e 9 bOr _ (partsL_e 8 bAnd _ (oneF_e d)), nameP_e s.hd.pos, litP_e s.hd.pos]
    dsimp only
    rw [RS.need_e, notP_e _ s.hd.pos]
    by_cases h1 : s.comes bNot = true
    · simp [h1]
    · by_cases h2 : s.comes bOpen = true
      · simp [h1, h2]
      · by_cases h3 : s.named = true <;> simp [h1, h2, h3]
theorem anyF_e (d : Nat) (s : RS) : anyF d s.e = ((anyF d s).1.e, (anyF d s).2.e) := partsL_e 9 bOr _ (partsL_e 8 bAnd _ (oneF_e d)) s
theorem columnL_e (s : RS) : columnL s.e = ((columnL s).1.e, (columnL s).2.e) := by
  unfold columnL
  rw [RS.name_e, RS.hd_pos]
  rfl
theorem itemL_e (s : RS) : itemL s.e = ((itemL s).1.e, (itemL s).2.e) := by
  unfold itemL
  dsimp only
  rw [RS.hd_text, columnL_e, RS.pass_e, RS.need_e, RS.comes_e, RS.pass_e, RS.need_e, RS.name_e, RS.hd_pos]
  dsimp only
  rw [RS.need_e]
  by_cases h1 : aggT s.hd.text = 0
  · simp [h1]
  · simp only [h1, if_false]
    by_cases h2 : aggT s.hd.text = 2 ∧ (s.pass.need bOpen).comes bStar = true
    · simp only [h2, and_self, if_true]; rfl
    · simp only [h2, if_false]; rfl
theorem keyL_e (s : RS) : keyL s.e = ((keyL s).1.e, (keyL s).2.e) := by
  unfold keyL
  rw [itemL_e]
  dsimp only
  rw [RS.comes_e, RS.comes_e, RS.pass_e]
  by_cases h1 : (itemL s).1.comes bAsc = true
  · simp [h1, Kyo.e]
  · by_cases h2 : (itemL s).1.comes bDesc = true <;> simp [h1, h2, Kyo.e]
theorem limitL_e (s : RS) : limitL s.e = ((limitL s).1.e, (limitL s).2) := by
  unfold limitL
  dsimp only
  rw [RS.hd_kind, RS.hd_text, RS.wrong_e, RS.wrong_e, RS.pass_e]
  by_cases h1 : s.hd.kind = 2
  · by_cases h2 : (litV s.hd.text).n < 0 ∨ 1000 < (litV s.hd.text).n <;> simp [h1, h2]
  · simp [h1]
theorem itemsQ_e (s : RS) : itemsQ s.e = ((itemsQ s).1.e, (itemsQ s).2.1, (itemsQ s).2.2.map Itm.e) := by
  unfold itemsQ
  have h := listF_e Itm.e 8 itemL itemL_e 9 s []
  simp only [List.map_nil] at h
  rw [RS.comes_e, RS.pass_e, h]
  by_cases h1 : s.comes bStar = true <;> simp [h1]
theorem whereQ_e (s : RS) : whereQ s.e = ((whereQ s).1.e, (whereQ s).2.e) := by
  unfold whereQ
  rw [RS.comes_e, RS.pass_e, anyF_e]
  by_cases h1 : s.comes bWhere = true <;> simp [h1, Prd.none, Prd.e, Prd.es]
theorem groupQ_e (s : RS) : groupQ s.e = ((groupQ s).1.e, (groupQ s).2.map Itm.e) := by
  unfold groupQ
  have h := listF_e Itm.e 8 columnL columnL_e 9 (s.pass.need bBy) []
  simp only [List.map_nil] at h
  rw [RS.comes_e, RS.pass_e, RS.need_e, h]
  by_cases h1 : s.comes bGroup = true <;> simp [h1]
theorem orderQ_e (s : RS) : orderQ s.e = ((orderQ s).1.e, (orderQ s).2.map Kyo.e) := by
  unfold orderQ
  have h := listF_e Kyo.e 8 keyL keyL_e 9 (s.pass.need bBy) []
  simp only [List.map_nil] at h
  rw [RS.comes_e, RS.pass_e, RS.need_e, h]
  by_cases h1 : s.comes bOrder = true <;> simp [h1]
theorem limitQ_e (s : RS) : limitQ s.e = ((limitQ s).1.e, (limitQ s).2) := by
  unfold limitQ
  rw [RS.comes_e, RS.pass_e, limitL_e]
  by_cases h1 : s.comes bLimit = true <;> simp [h1]
theorem queryL_e (s : RS) : queryL s.e = ((queryL s).1.e, (queryL s).2.e) := by
  unfold queryL
  rw [RS.need_e, itemsQ_e]
  dsimp only
  rw [RS.need_e, RS.name_e]
  dsimp only
  rw [whereQ_e]
  dsimp only
  rw [groupQ_e]
  dsimp only
  rw [orderQ_e]
  dsimp only
  rw [limitQ_e]
  dsimp only
  rw [RS.fin_e]
  rfl
/-- Tokens that are the same but for places are one query's, but for places. -/
theorem query_same {l l' : List Tk} (h : l.map Tk.e = l'.map Tk.e) : ((queryL ⟨l, none⟩).1.err = none ↔ (queryL ⟨l', none⟩).1.err = none) ∧ (queryL ⟨l, none⟩).2.e = (queryL ⟨l', none⟩).2.e := by
  have h1 := queryL_e ⟨l, none⟩
  have h2 := queryL_e ⟨l', none⟩
  have he : (⟨l, none⟩ : RS).e = (⟨l', none⟩ : RS).e := by simp [RS.e, h]
  rw [he, h2] at h1
  have ha := congrArg Prod.fst h1
  have hb := congrArg Prod.snd h1
  refine ⟨?_, hb.symm⟩
  have hc := congrArg RS.err ha
  simp only [RS.e, erE] at hc
  cases h3 : (queryL ⟨l, none⟩).1.err <;> cases h4 : (queryL ⟨l', none⟩).1.err <;> simp [h3, h4] at hc ⊢
end Go.Proofs.YtppigamibgefaaaGreatDoor
namespace Go.Proofs.YtppigamibgefaaaGreatDoor

mutual
def Prd.n : Prd → Nat
  | .mk _ _ _ _ _ _ ks _ => 1 + Prd.ns ks
def Prd.ns : List Prd → Nat
  | [] => 0
  | x :: r => x.n + Prd.ns r
end
theorem Prd.ns_app (l m : List Prd) : Prd.ns (l ++ m) = Prd.ns l + Prd.ns m := by
  induction l with
  | nil => simp [Prd.ns]
  | cons x r ih => simp [Prd.ns, ih]; omega
theorem Prd.ns_one (x : Prd) : Prd.ns [x] = x.n := by simp [Prd.ns]
/-- Read with so many tokens. -/
def Small (s : RS) (r : RS × Prd) : Prop := r.2.n + 3 * r.1.rest.length ≤ 3 * s.rest.length + 1
theorem partsF_n (word : ByteArray) (hw : word ≠ ⟨#[]⟩) (pf : RS → RS × Prd) (hn : ∀ s : RS, s.ok → s.next (pf s).1) (hz : ∀ s : RS, s.ok → Small s (pf s)) : ∀ (f : Nat) (s : RS) (acc : List Prd), s.ok →
    Prd.ns (partsF word pf f s acc).2 + 2 * (partsF word pf f s acc).2.length + 3 * (partsF word pf f s acc).1.rest.length ≤ Prd.ns acc + 2 * acc.length + 3 * s.rest.length
  | 0, s, _, _ => Nat.le_refl _
  | f + 1, s, acc, h => by
    rw [partsF]
    split
    · rename_i hc
      have hm := RS.more_of hw hc
      have h0 := (h.pass hm).2
      have h1 := h.npass hm
      have h2 := hz _ h1.1
      unfold Small at h2
      have h3 := partsF_n word hw pf hn hz f (pf s.pass).1 (acc ++ [(pf s.pass).2]) (hn _ h1.1).1
      rw [Prd.ns_app, Prd.ns_one, List.length_append] at h3
      simp only [List.length_cons, List.length_nil] at h3
      omega
    · exact Nat.le_refl _
theorem joinP_n (kind pos : Nat) (l : List Prd) : (joinP kind pos l).n + 1 ≤ Prd.ns l + l.length ∨ l = [] := by
  unfold joinP
  match l with
  | [] => simp
  | [x] => simp [Prd.ns]
  | x :: y :: r => simp [Prd.n, Prd.ns]; omega
theorem partsF_len (word : ByteArray) (pf : RS → RS × Prd) : ∀ (f : Nat) (s : RS) (acc : List Prd), acc.length ≤ (partsF word pf f s acc).2.length
  | 0, _, _ => Nat.le_refl _
  | f + 1, s, acc => by
    rw [partsF]
    split
    · have := partsF_len word pf f (pf s.pass).1 (acc ++ [(pf s.pass).2])
      simp at this; omega
    · exact Nat.le_refl _
theorem partsL_n (kind : Nat) (word : ByteArray) (hw : word ≠ ⟨#[]⟩) (pf : RS → RS × Prd) (hn : ∀ s : RS, s.ok → s.next (pf s).1) (hz : ∀ s : RS, s.ok → Small s (pf s)) (s : RS) (h : s.ok) : Small s (partsL kind word pf s) := by
  have h1 := hz s h
  have h2 := partsF_n word hw pf hn hz (pf s).1.rest.length (pf s).1 [(pf s).2] (hn s h).1
  have h3 := partsF_len word pf (pf s).1.rest.length (pf s).1 [(pf s).2]
  rw [Prd.ns_one] at h2
  unfold Small at h1 ⊢
  unfold partsL
  dsimp only
  generalize partsF word pf (pf s).1.rest.length (pf s).1 [(pf s).2] = r at *
  simp only [List.length_cons, List.length_nil] at h2 h3
  rcases joinP_n kind s.hd.pos r.2 with h4 | h4
  · omega
  · rw [h4] at h3; simp at h3
theorem amongL_n (col : ByteArray) (pos : Nat) (s : RS) (h : s.ok) : (amongL col pos s).2.n + 3 * (amongL col pos s).1.rest.length ≤ 3 * s.rest.length + 3 := by
  have h1 := (amongL_next col pos s h).2
  have h2 : (amongL col pos s).2.n ≤ 3 := by
    unfold amongL
    split <;> simp [Prd.n, Prd.ns]
  omega
theorem nameP_n (pos : Nat) (s : RS) (h : s.ok) (hc : s.named = true) : Small s (nameP pos s) := by
  have e0 : s.name.1 = s.pass := by unfold RS.name; rw [if_pos hc]
  have hp := (h.pass (RS.more_named hc)).2
  have h0 := h.nname
  rw [e0] at h0
  unfold Small nameP
  dsimp only
  rw [e0]
  generalize s.pass = u at *
  have leaf : ∀ (t : RS) (k : Nat) (c : ByteArray) (r : Nat) (v : Vl) (o : ByteArray) (n : Nat), u.next t → (Prd.mk k c r v o [] [] n).n + 3 * t.rest.length ≤ 3 * s.rest.length + 1 := fun t k c r v o n ht => by
    have := ht.2
    simp only [Prd.n, Prd.ns]
    omega
  split
  · rename_i hi
    have h1 := h0.1.npass (RS.more_of (by decide) hi)
    split
    · rename_i hd
      have h2 := h1.trans (h1.1.npass (RS.more_of (by decide) hd))
      exact leaf _ _ _ _ _ _ _ (h2.trans (h2.1.nneed (by decide)))
    · exact leaf _ _ _ _ _ _ _ (h1.trans (h1.1.nneed (by decide)))
  · split
    · rename_i hi
      have hm := RS.more_of (by decide) hi
      have h1 := h0.1.npass hm
      have h2 := amongL_n s.name.2 pos u.pass h1.1
      have h3 := (h0.1.pass hm).2
      simp only [notP, Prd.n, Prd.ns]
      omega
    · have h1 := h0.1.nrel
      split
      · have h2 := amongL_n s.name.2 pos u.rel.1 h1.1
        have := h1.2
        omega
      · split
        · exact leaf _ _ _ _ _ _ _ (h1.trans h1.1.nname)
        · exact leaf _ _ _ _ _ _ _ (h1.trans h1.1.nliteral)
theorem litP_n (pos : Nat) (s : RS) (h : s.ok) : Small s (litP pos s) := by
  have h1 := (litP_next pos s h).2
  have h2 : (litP pos s).2.n ≤ 1 := by
    unfold litP truthP
    dsimp only
    split
    · simp [Prd.n, Prd.ns]
    · split <;> simp [Prd.n, Prd.ns]
  unfold Small
  omega
theorem oneF_n : ∀ (d : Nat) (s : RS), s.ok → Small s (oneF d s)
  | 0, s, h => by
    have := (oneF_next 0 s h).2
    have h2 : (oneF 0 s).2.n ≤ 1 := by simp [oneF, Prd.none, Prd.n, Prd.ns]
    unfold Small
    omega
  | d + 1, s, h => by
    unfold Small
    rw [oneF]
    split
    · rename_i hc
      have hm := RS.more_of (t := bNot) (by decide) hc
      have h1 := oneF_n d _ (h.pass hm).1
      have h2 := (h.pass hm).2
      unfold Small at h1
      simp only [notP, Prd.n, Prd.ns]
      omega
    · split
      · rename_i hc
        have hm := RS.more_of (t := bOpen) (by decide) hc
        have h1 := partsL_n 9 bOr (by decide) _ (fun s h => partsL_next 8 bAnd (by decide) _ (oneF_next d) s h) (fun s h => partsL_n 8 bAnd (by decide) _ (oneF_next d) (oneF_n d) s h) _ (h.pass hm).1
        have h2 := (h.pass hm).2
        have h3 := ((partsL_next 9 bOr (by decide) _ (fun s h => partsL_next 8 bAnd (by decide) _ (oneF_next d) s h) _ (h.pass hm).1).1.nneed (t := bShut) (by decide)).2
        unfold Small at h1
        dsimp only
        omega
      · split
        · rename_i hc; exact nameP_n _ _ h hc
        · exact litP_n _ _ h
theorem anyF_n (d : Nat) (s : RS) (h : s.ok) : Small s (anyF d s) :=
  partsL_n 9 bOr (by decide) _ (fun s h => partsL_next 8 bAnd (by decide) _ (oneF_next d) s h) (fun s h => partsL_n 8 bAnd (by decide) _ (oneF_next d) (oneF_n d) s h) s h
theorem whereQ_n (s : RS) (h : s.ok) : (whereQ s).2.n ≤ 3 * s.rest.length + 1 := by
  unfold whereQ
  split
  · rename_i hc
    have hm := RS.more_of (t := bWhere) (by decide) hc
    have h1 := anyF_n 20 _ (h.pass hm).1
    have h2 := (h.pass hm).2
    unfold Small at h1
    omega
  · simp [Prd.none, Prd.n, Prd.ns]
end Go.Proofs.YtppigamibgefaaaGreatDoor
