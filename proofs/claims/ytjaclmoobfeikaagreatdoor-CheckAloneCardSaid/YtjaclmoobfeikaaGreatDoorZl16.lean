/- How great a query's predicate may be: so many of them for each token. The errors of lex in memory; the contracts of lex's literal and Word. Tables in memory; contracts of slices.IndexFunc at tables, of tableOf, and of twice where no name comes twice. -/
import Derived.Test.YtjaclmoobfeikaaGreatDoorZl13
import Derived.Test.YtjaclmoobfeikaaGreatDoorZl14
import Derived.Test.YtjaclmoobfeikaaGreatDoorZl01
namespace Go.Proofs.YtjaclmoobfeikaaGreatDoor

mutual
def Prd.n : Prd → Nat
  | .mk _ _ _ _ _ _ ks _ => 1 + Prd.ns ks
def Prd.ns : List Prd → Nat
  | [] => 0
  | x :: r => x.n + Prd.ns r
end
theorem Prd.ns_app (l m : List Prd) : Prd.ns (l ++ m) = Prd.ns l + Prd.ns m := by
  induction l with
  | nil => simp [Prd.ns]
  | cons x r ih => simp [Prd.ns, ih]; omega
theorem Prd.ns_one (x : Prd) : Prd.ns [x] = x.n := by simp [Prd.ns]
/-- Read with so many tokens. -/
def Small (s : RS) (r : RS × Prd) : Prop := r.2.n + 3 * r.1.rest.length ≤ 3 * s.rest.length + 1
theorem partsF_n (word : ByteArray) (hw : word ≠ ⟨#[]⟩) (pf : RS → RS × Prd) (hn : ∀ s : RS, s.ok → s.next (pf s).1) (hz : ∀ s : RS, s.ok → Small s (pf s)) : ∀ (f : Nat) (s : RS) (acc : List Prd), s.ok →
    Prd.ns (partsF word pf f s acc).2 + 2 * (partsF word pf f s acc).2.length + 3 * (partsF word pf f s acc).1.rest.length ≤ Prd.ns acc + 2 * acc.length + 3 * s.rest.length
  | 0, s, _, _ => Nat.le_refl _
  | f + 1, s, acc, h => by
    rw [partsF]
    split
    · rename_i hc
      have hm := RS.more_of hw hc
      have h0 := (h.pass hm).2
      have h1 := h.npass hm
      have h2 := hz _ h1.1
      unfold Small at h2
      have h3 := partsF_n word hw pf hn hz f (pf s.pass).1 (acc ++ [(pf s.pass).2]) (hn _ h1.1).1
      rw [Prd.ns_app, Prd.ns_one, List.length_append] at h3
      simp only [List.length_cons, List.length_nil] at h3
      omega
    · exact Nat.le_refl _
theorem joinP_n (kind pos : Nat) (l : List Prd) : (joinP kind pos l).n + 1 ≤ Prd.ns l + l.length ∨ l = [] := by
  unfold joinP
  match l with
  | [] => simp
  | [x] => simp [Prd.ns]
  | x :: y :: r => simp [Prd.n, Prd.ns]; omega
theorem partsF_len (word : ByteArray) (pf : RS → RS × Prd) : ∀ (f : Nat) (s : RS) (acc : List Prd), acc.length ≤ (partsF word pf f s acc).2.length
  | 0, _, _ => Nat.le_refl _
  | f + 1, s, acc => by
    rw [partsF]
    split
    · have := partsF_len word pf f (pf s.pass).1 (acc ++ [(pf s.pass).2])
      simp at this; omega
    · exact Nat.le_refl _
theorem partsL_n (kind : Nat) (word : ByteArray) (hw : word ≠ ⟨#[]⟩) (pf : RS → RS × Prd) (hn : ∀ s : RS, s.ok → s.next (pf s).1) (hz : ∀ s : RS, s.ok → Small s (pf s)) (s : RS) (h : s.ok) : Small s (partsL kind word pf s) := by
  have h1 := hz s h
  have h2 := partsF_n word hw pf hn hz (pf s).1.rest.length (pf s).1 [(pf s).2] (hn s h).1
  have h3 := partsF_len word pf (pf s).1.rest.length (pf s).1 [(pf s).2]
  rw [Prd.ns_one] at h2
  unfold Small at h1 ⊢
  unfold partsL
  dsimp only
  generalize partsF word pf (pf s).1.rest.length (pf s).1 [(pf s).2] = r at *
  simp only [List.length_cons, List.length_nil] at h2 h3
  rcases joinP_n kind s.hd.pos r.2 with h4 | h4
  · omega
  · rw [h4] at h3; simp at h3
theorem amongL_n (col : ByteArray) (pos : Nat) (s : RS) (h : s.ok) : (amongL col pos s).2.n + 3 * (amongL col pos s).1.rest.length ≤ 3 * s.rest.length + 3 := by
  have h1 := (amongL_next col pos s h).2
  have h2 : (amongL col pos s).2.n ≤ 3 := by
    unfold amongL
    split <;> simp [Prd.n, Prd.ns]
  omega
theorem nameP_n (pos : Nat) (s : RS) (h : s.ok) (hc : s.named = true) : Small s (nameP pos s) := by
  have e0 : s.name.1 = s.pass := by unfold RS.name; rw [if_pos hc]
  have hp := (h.pass (RS.more_named hc)).2
  have h0 := h.nname
  rw [e0] at h0
  unfold Small nameP
  dsimp only
  rw [e0]
  generalize s.pass = u at *
  have leaf : ∀ (t : RS) (k : Nat) (c : ByteArray) (r : Nat) (v : Vl) (o : ByteArray) (n : Nat), u.next t → (Prd.mk k c r v o [] [] n).n + 3 * t.rest.length ≤ 3 * s.rest.length + 1 := fun t k c r v o n ht => by
    have := ht.2
    simp only [Prd.n, Prd.ns]
    omega
  split
  · rename_i hi
    have h1 := h0.1.npass (RS.more_of (by decide) hi)
    split
    · rename_i hd
      have h2 := h1.trans (h1.1.npass (RS.more_of (by decide) hd))
      exact leaf _ _ _ _ _ _ _ (h2.trans (h2.1.nneed (by decide)))
    · exact leaf _ _ _ _ _ _ _ (h1.trans (h1.1.nneed (by decide)))
  · split
    · rename_i hi
      have hm := RS.more_of (by decide) hi
      have h1 := h0.1.npass hm
      have h2 := amongL_n s.name.2 pos u.pass h1.1
      have h3 := (h0.1.pass hm).2
      simp only [notP, Prd.n, Prd.ns]
      omega
    · have h1 := h0.1.nrel
      split
      · have h2 := amongL_n s.name.2 pos u.rel.1 h1.1
        have := h1.2
        omega
      · split
        · exact leaf _ _ _ _ _ _ _ (h1.trans h1.1.nname)
        · exact leaf _ _ _ _ _ _ _ (h1.trans h1.1.nliteral)
theorem litP_n (pos : Nat) (s : RS) (h : s.ok) : Small s (litP pos s) := by
  have h1 := (litP_next pos s h).2
  have h2 : (litP pos s).2.n ≤ 1 := by
    unfold litP truthP
    dsimp only
    split
    · simp [Prd.n, Prd.ns]
    · split <;> simp [Prd.n, Prd.ns]
  unfold Small
  omega
theorem oneF_n : ∀ (d : Nat) (s : RS), s.ok → Small s (oneF d s)
  | 0, s, h => by
    have := (oneF_next 0 s h).2
    have h2 : (oneF 0 s).2.n ≤ 1 := by simp [oneF, Prd.none, Prd.n, Prd.ns]
    unfold Small
    omega
  | d + 1, s, h => by
    unfold Small
    rw [oneF]
    split
    · rename_i hc
      have hm := RS.more_of (t := bNot) (by decide) hc
      have h1 := oneF_n d _ (h.pass hm).1
      have h2 := (h.pass hm).2
      unfold Small at h1
      simp only [notP, Prd.n, Prd.ns]
      omega
    · split
      · rename_i hc
        have hm := RS.more_of (t := bOpen) (by decide) hc
        have h1 := partsL_n 9 bOr (by decide) _ (fun s h => partsL_next 8 bAnd (by decide) _ (oneF_next d) s h) (fun s h => partsL_n 8 bAnd (by decide) _ (oneF_next d) (oneF_n d) s h) _ (h.pass hm).1
        have h2 := (h.pass hm).2
        have h3 := ((partsL_next 9 bOr (by decide) _ (fun s h => partsL_next 8 bAnd (by decide) _ (oneF_next d) s h) _ (h.pass hm).1).1.nneed (t := bShut) (by decide)).2
        unfold Small at h1
        dsimp only
        omega
      · split
        · rename_i hc; exact nameP_n _ _ h hc
        · exact litP_n _ _ h
theorem anyF_n (d : Nat) (s : RS) (h : s.ok) : Small s (anyF d s) :=
  partsL_n 9 bOr (by decide) _ (fun s h => partsL_next 8 bAnd (by decide) _ (oneF_next d) s h) (fun s h => partsL_n 8 bAnd (by decide) _ (oneF_next d) (oneF_n d) s h) s h
theorem whereQ_n (s : RS) (h : s.ok) : (whereQ s).2.n ≤ 3 * s.rest.length + 1 := by
  unfold whereQ
  split
  · rename_i hc
    have hm := RS.more_of (t := bWhere) (by decide) hc
    have h1 := anyF_n 20 _ (h.pass hm).1
    have h2 := (h.pass hm).2
    unfold Small at h1
    omega
  · simp [Prd.none, Prd.n, Prd.ns]
end Go.Proofs.YtjaclmoobfeikaaGreatDoor
namespace Go.Proofs.YtjaclmoobfeikaaGreatDoor
open Go.RowKit

theorem grown_reflX (w : World) (row : Option Nat) : w.grownBy w row := ⟨rfl, rfl, rfl, Nat.le_refl _, fun _ _ _ => rfl⟩
theorem grown_belowX {w w' : World} (h : Below w.heap.size w w') (row : Option Nat) : w.grownBy w' row := ⟨h.os, h.tape, h.output, h.size, fun i hi _ => h.block i hi⟩
theorem grown_drewX {w w' : World} {row : Option Nat} (h : w.grownBy w' row) (n : Nat) : w.grownBy (w'.drewN n) row := ⟨h.os, h.tape, h.output, h.size, h.block⟩
theorem grown_drew1X {w w' : World} {row : Option Nat} (h : w.grownBy w' row) : w.grownBy w'.drew row := ⟨h.os, h.tape, h.output, h.size, h.block⟩
/-- A sentinel: the variable g holds a pointer to a text of its own. -/
structure SenAt (G g : Nat) (a : Addr) (text : List UInt8) (w : World) : Prop where
  lt : g < G
  alt : a.block < G
  var : w.cell? ⟨g, 0, none⟩ = some (.iface 256 (.pointer (some a)))
  str : ∃ s, w.cell? a = some (.string s) ∧ s.data.toList = text
  blk : ∃ c t, w.heap[a.block]? = some (.cells c t (0, 0))
theorem SenAt.keep {G g : Nat} {a : Addr} {text : List UInt8} {w w' : World} (h : SenAt G g a text w) (hg : w.grownBy w' none) : SenAt G g a text w' := by
  obtain ⟨h1, h2, h3, ⟨s, h4, h5⟩, ⟨c, t, h6⟩⟩ := h
  have hlt : a.block < w.heap.size := by
    rcases Nat.lt_or_ge a.block w.heap.size with h | h
    · exact h
    · rw [Array.getElem?_eq_none h] at h6; cases h6
  exact ⟨h1, h2, hg.cell h3 (by simp), ⟨s, hg.cell h4 (by simp), h5⟩, ⟨c, t, by rw [hg.block _ hlt (by simp)]; exact h6⟩⟩
theorem SenAt.keepR {G g : Nat} {a : Addr} {text : List UInt8} {w w' : World} (h : SenAt G g a text w) {b : Nat} (hg : w.grownBy w' (some b)) (hb : G ≤ b) : SenAt G g a text w' := by
  obtain ⟨h1, h2, h3, ⟨s, h4, h5⟩, ⟨c, t, h6⟩⟩ := h
  have hlt : a.block < w.heap.size := by
    rcases Nat.lt_or_ge a.block w.heap.size with h | h
    · exact h
    · rw [Array.getElem?_eq_none h] at h6; cases h6
  exact ⟨h1, h2, hg.cell h3 (by simp; omega), ⟨s, hg.cell h4 (by simp; omega), h5⟩, ⟨c, t, by rw [hg.block _ hlt (by simp; omega)]; exact h6⟩⟩
theorem SenAt.ne {G g G' g' : Nat} {a b : Addr} {x y : List UInt8} {w : World} (h : SenAt G g a x w) (h' : SenAt G' g' b y w) (hxy : x ≠ y) : a ≠ b := by
  rintro rfl
  obtain ⟨s, h1, h2⟩ := h.str
  obtain ⟨t, h3, h4⟩ := h'.str
  rw [h1] at h3
  cases h3
  exact hxy (h2.symm.trans h4)
/-- What lex reads of package variables: its four errors, strconv's, errors' type. -/
structure LxEnv (G : Nat) (n g m l : Addr) (w : World) : Prop where
  sn : SenAt G 9 n [110, 111, 32, 116, 111, 107, 101, 110] w
  sg : SenAt G 7 g [97, 32, 118, 97, 108, 117, 101, 32, 116, 104, 97, 116, 32, 105, 115, 32, 116, 111, 111, 32, 103, 114, 101, 97, 116, 44, 32, 111, 114, 32, 116, 111, 111, 32, 108, 111, 110, 103] w
  sm : SenAt G 6 m [111, 110, 101, 32, 116, 111, 107, 101, 110, 32, 116, 111, 111, 32, 109, 97, 110, 121] w
  sl : SenAt G 5 l [97, 32, 116, 101, 120, 116, 32, 116, 104, 97, 116, 32, 105, 115, 32, 116, 111, 111, 32, 108, 111, 110, 103] w
  far : Far w
  fl : 11 < G
  et : ErrT G w
  le : G ≤ w.heap.size
theorem far_grown {w w' : World} (h : Far w) (hg : w.grownBy w' none) : Far w' := by
  obtain ⟨tp, p, h⟩ := h
  exact ⟨tp, p, hg.cell h (by simp)⟩
theorem LxEnv.keep {G : Nat} {n g m l : Addr} {w w' : World} (h : LxEnv G n g m l w) (hg : w.grownBy w' none) : LxEnv G n g m l w' :=
  ⟨h.sn.keep hg, h.sg.keep hg, h.sm.keep hg, h.sl.keep hg, far_grown h.far hg, h.fl, ⟨h.et.1, hg.cell h.et.2 (by simp)⟩, Nat.le_trans h.le hg.size⟩
theorem LxEnv.keepR {G : Nat} {n g m l : Addr} {w w' : World} (h : LxEnv G n g m l w) {b : Nat} (hg : w.grownBy w' (some b)) (hb : G ≤ b) : LxEnv G n g m l w' := by
  obtain ⟨tp, p, hf⟩ := h.far
  have hfl := h.fl
  have hel := h.et.1
  exact ⟨h.sn.keepR hg hb, h.sg.keepR hg hb, h.sm.keepR hg hb, h.sl.keepR hg hb, ⟨tp, p, hg.cell hf (by simp; omega)⟩, h.fl, ⟨hel, hg.cell h.et.2 (by simp; omega)⟩, Nat.le_trans h.le hg.size⟩
/-- The error of a number. -/
def errV (n g m l : Addr) : Nat → Value
  | 0 => .nilIface
  | 1 => .iface 256 (.pointer (some g))
  | 3 => .iface 256 (.pointer (some m))
  | 13 => .iface 256 (.pointer (some l))
  | _ => .iface 256 (.pointer (some n))
theorem litC_cases (l : List UInt8) : (readC l = 0 ∧ litC l = 0) ∨ (readC l = 1 ∧ litC l = 1) ∨ (readC l = 2 ∧ litC l = 10) := by
  have := readC_le l
  unfold litC
  obtain h | h | h : readC l = 0 ∨ readC l = 1 ∨ readC l = 2 := by omega
  all_goals rw [h]; simp
set_option maxHeartbeats 800000 in
theorem literal_any (G : Nat) (n g m l : Addr) (s : ByteArray) (w : World) (hs : s.size ≤ 1510) (hE : LxEnv G n g m l w) :
    Calls Tryz.prog 128 #[.string s] w fun e w' => e = .returned (errV n g m l (litC s.data.toList)) ∧ w.grownBy w' none := by
  have HR := Lib.hid (Read_any s w hs hE.far)
  obtain ⟨k, q, t, hv⟩ := readV_code s.data.toList
  rw [hv] at HR
  have HE := Lib.hid hE
  clear hv hE
  rcases litC_cases s.data.toList with ⟨h1, h2⟩ | ⟨h1, h2⟩ | ⟨h1, h2⟩
  · rw [h2]
    rw [h1] at HR
    clear h1 h2
    go_enter Tryz.func128, Tryz.ntmps128
    go_wp2_with fail
    refine (HR.out).mono ?_
    rintro e w2 ⟨rfl, hb⟩
    have K2 := Lib.hid ((grown_belowX hb none).trans (World.grownBy_alloc w2 (.cells #[.int .i64 k, .int .i64 q, .string t] 29) none))
    clear hb
    go_wp2_with fail
    go_ret
    exact ⟨rfl, K2.out⟩
  · rw [h2]
    rw [h1] at HR
    clear h1 h2
    go_enter Tryz.func128, Tryz.ntmps128
    go_wp2_with fail
    refine (HR.out).mono ?_
    rintro e w2 ⟨rfl, hb⟩
    have K2 := Lib.hid ((grown_belowX hb none).trans (World.grownBy_alloc w2 (.cells #[.int .i64 k, .int .i64 q, .string t] 29) none))
    have cv := (HE.out.keep K2.out).sg.var
    clear hb
    go_wp2_with fail
    go_ret
    exact ⟨rfl, K2.out⟩
  · rw [h2]
    rw [h1] at HR
    clear h1 h2
    go_enter Tryz.func128, Tryz.ntmps128
    go_wp2_with fail
    refine (HR.out).mono ?_
    rintro e w2 ⟨rfl, hb⟩
    have K2 := Lib.hid ((grown_belowX hb none).trans (World.grownBy_alloc w2 (.cells #[.int .i64 k, .int .i64 q, .string t] 29) none))
    have cv := (HE.out.keep K2.out).sn.var
    clear hb
    go_wp2_with fail
    go_ret
    exact ⟨rfl, K2.out⟩
end Go.Proofs.YtjaclmoobfeikaaGreatDoor
namespace Go.Proofs.YtjaclmoobfeikaaGreatDoor
open Go.RowKit

/-- A table: its name, its columns' slice and what that reads as, its keys. -/
structure Tb where
  n : ByteArray
  a : Option Addr
  cap : Nat
  l : List Cl
  k : Int
instance : Inhabited Tb := ⟨⟨⟨#[]⟩, none, 0, [], 0⟩⟩
def Tb.v (t : Tb) : Value := .agg #[.string t.n, .slice t.a t.l.length t.cap, .int .i64 t.k]
/-- A slice of tables that lies in memory, each with its columns. -/
def TabsAt (B : Nat) (w : World) (a : Option Addr) (l : List Tb) : Prop :=
  l.length ≤ 9223372036854775807 ∧ (∀ t ∈ l, ColsAt B w t.a t.l) ∧ (l = [] ∨ ∃ b off, a = some ⟨b, off, none⟩ ∧ b < B ∧ ∀ i, i < l.length → w.cell? ⟨b, off + i * 3, none⟩ = some (.string (l.getD i default).n) ∧ w.cell? ⟨b, off + i * 3 + 1, none⟩ = some (.slice (l.getD i default).a (l.getD i default).l.length (l.getD i default).cap) ∧ w.cell? ⟨b, off + i * 3 + 2, none⟩ = some (.int .i64 (l.getD i default).k))
theorem TabsAt.keep {B : Nat} {w w' : World} {a : Option Addr} {l : List Tb} (h : TabsAt B w a l) {row : Option Nat} (hg : w.grownBy w' row) (hr : ∀ k, row = some k → B ≤ k) : TabsAt B w' a l := by
  refine ⟨h.1, fun t ht => (h.2.1 t ht).keep hg hr, h.2.2.imp id fun ⟨b, off, e, hlt, hc⟩ => ⟨b, off, e, hlt, fun i hi => ?_⟩⟩
  have hb : some b ≠ row := fun e => by have := hr b e.symm; omega
  exact ⟨hg.cell (hc i hi).1 hb, hg.cell (hc i hi).2.1 hb, hg.cell (hc i hi).2.2 hb⟩
theorem TabsAt.at {B : Nat} {w : World} {a : Option Addr} {l : List Tb} (h : TabsAt B w a l) {i : Nat} (hi : i < l.length) : ∃ b off, a = some ⟨b, off, none⟩ ∧ b < B ∧ w.cell? ⟨b, off + i * 3, none⟩ = some (.string (l.getD i default).n) ∧ w.cell? ⟨b, off + i * 3 + 1, none⟩ = some (.slice (l.getD i default).a (l.getD i default).l.length (l.getD i default).cap) ∧ w.cell? ⟨b, off + i * 3 + 2, none⟩ = some (.int .i64 (l.getD i default).k) := by
  rcases h.2.2 with h | ⟨b, off, e, hlt, hc⟩
  · rw [h] at hi; simp at hi
  · exact ⟨b, off, e, hlt, hc i hi⟩
/-- The closure of tableOf: is it the table's name? -/
theorem tabIs_any (N M : ByteArray) (a : Option Addr) (m cap : Nat) (k : Int) (g : Nat) (w : World) (hc : w.cell? ⟨g, 0, none⟩ = some (.string M)) :
    Calls Tryz.prog 104 #[.agg #[.string N, .slice a m cap, .int .i64 k], .pointer (some ⟨g, 0, none⟩)] w fun e w' => e = .returned (.bool (N.toList == M.toList)) ∧ w.grownBy w' none := by
  have hc2 : ∀ o, (w.alloc o).cell? ⟨g, 0, none⟩ = some (.string M) := fun o => (World.grownBy_alloc w o none).cell hc (by simp)
  go_enter Tryz.func104, Tryz.ntmps104
  go_wp2_with fail
  go_ret
  exact ⟨rfl, World.grownBy_alloc _ _ _⟩
/-- The first table of a name. -/
def tabIx (M : ByteArray) (l : List Tb) (k : Nat) : Prop := ∀ i, i < k → ((l.getD i default).n.toList == M.toList) = false
def TxIs (M : ByteArray) (l : List Tb) (r : Int) : Prop := (r = -1 ∧ tabIx M l l.length) ∨ (∃ k : Nat, r = k ∧ k < l.length ∧ ((l.getD k default).n.toList == M.toList) = true ∧ tabIx M l k)
set_option maxHeartbeats 1600000 in
theorem indexTab_any (a : Option Addr) (cap : Nat) (l : List Tb) (M : ByteArray) (g : Nat) (w : World) (h : TabsAt w.heap.size w a l) (hc : w.cell? ⟨g, 0, none⟩ = some (.string M)) :
    Calls Tryz.prog 103 #[.slice a l.length cap, .func (.func 104) #[] #[.pointer (some ⟨g, 0, none⟩)]] w fun e w' => (∃ r, e = .returned (.int .i64 r) ∧ TxIs M l r) ∧ w.grownBy w' none := by
  have H := Lib.hid h
  have HC := Lib.hid (fun (W : World) (hW : w.grownBy W none) (N : ByteArray) (a : Option Addr) (m cap : Nat) (k : Int) => tabIs_any N M a m cap k g W (hW.cell hc (by simp)))
  have hlen := h.1
  obtain ⟨n, hn⟩ : ∃ n, n = l.length := ⟨_, rfl⟩
  have Hn := Lib.hid hn
  rw [← hn] at hlen ⊢
  clear h hc hn
  go_enter Tryz.func103, Tryz.ntmps103
  go_wp2_with fail
  go_loopw [8] (fun i wr => ∃ (k : Nat), i = .int .i64 k ∧ k ≤ n ∧ Hid (tabIx M l k) ∧ Hid (w.grownBy wr none)) (fun i _ => n - (intOf i).toNat)
  case atStart => exact ⟨0, rfl, by omega, Lib.hid (fun i hi => by omega), Lib.hid (grown_refl6 _ _)⟩
  case round =>
    obtain ⟨k, rfl, hk, E, K⟩ := hrel
    by_cases hlt : k < n
    · obtain ⟨b, off, rfl, _, c0, c1, c2⟩ := (H.out.keep K.out (by simp)).at (i := k) (by rw [← Hn.out]; exact hlt)
      obtain ⟨x, hx⟩ : ∃ x, x = l.getD k default := ⟨_, rfl⟩
      rw [← hx] at c0 c1 c2
      have Hx := Lib.hid hx
      obtain ⟨xn, xa, xc, xl, xk⟩ := x
      generalize hxl : xl.length = xm at *
      simp only at c0 c1 c2
      clear hx
      have HC1 := Lib.hid (HC.out wr K.out xn xa xm xc xk)
      by_cases hm : (xn.toList == M.toList) = true
      · have HM := Lib.hid (show ((l.getD k default).n.toList == M.toList) = true by rw [← Hx.out]; exact hm)
        rw [hm] at HC1
        clear hm
        go_wp2_with fail
        refine HC1.out.mono ?_
        rintro e w2 ⟨rfl, hg⟩
        have K2 := Lib.hid (K.out.trans hg)
        clear hg
        go_wp2_with fail
        go_ret
        exact ⟨⟨k, rfl, .inr ⟨k, rfl, by rw [← Hn.out]; exact hlt, HM.out, E.out⟩⟩, K2.out⟩
      · have hm' : (xn.toList == M.toList) = false := by simpa using hm
        have E2 : Hid (tabIx M l (k + 1)) := Lib.hid fun i hi => by
          by_cases e : i = k
          · rw [e, ← Hx.out]; exact hm'
          · exact E.out i (by omega)
        rw [hm'] at HC1
        clear hm hm'
        go_wp2_with fail
        refine HC1.out.mono ?_
        rintro e w2 ⟨rfl, hg⟩
        have K2 := Lib.hid (K.out.trans hg)
        clear hg
        go_wp2_with fail
        go_roundw
        case rel => exact ⟨k + 1, by go_num, by omega, E2, K2⟩
        case measure => simp [intOf]; omega
    · obtain rfl : k = n := by omega
      go_wp2_with fail
      go_ret
      exact ⟨⟨-1, rfl, .inl ⟨rfl, by rw [← Hn.out]; exact E.out⟩⟩, K.out⟩
theorem ColsAt.mono {B B' : Nat} {w : World} {a : Option Addr} {l : List Cl} (h : ColsAt B w a l) (hB : B ≤ B') : ColsAt B' w a l := ⟨h.1, h.2.imp id fun ⟨b, off, e, hlt, hc⟩ => ⟨b, off, e, by omega, hc⟩⟩
theorem TabsAt.mono {B B' : Nat} {w : World} {a : Option Addr} {l : List Tb} (h : TabsAt B w a l) (hB : B ≤ B') : TabsAt B' w a l := ⟨h.1, fun t ht => (h.2.1 t ht).mono hB, h.2.2.imp id fun ⟨b, off, e, hlt, hc⟩ => ⟨b, off, e, by omega, hc⟩⟩
set_option maxHeartbeats 1600000 in
theorem tableOf_any (a : Option Addr) (cap : Nat) (l : List Tb) (M : ByteArray) (w : World) (h : TabsAt w.heap.size w a l) :
    Calls Tryz.prog 78 #[.slice a l.length cap, .string M] w fun e w' => (∃ r, e = .returned (.int .i64 r) ∧ TxIs M l r) ∧ w.grownBy w' none := by
  have hb : ∀ T, (w.alloc (.cells #[.string M] T)).cell? ⟨w.heap.size, 0, none⟩ = some (.string M) := fun T => cell_of_row _ _ 0 _ _ _ (heap_alloc_new w _)
  have HI := Lib.hid (fun T => indexTab_any a cap l M w.heap.size (w.alloc (.cells #[.string M] T)) ((h.keep (World.grownBy_alloc w _ none) (by simp)).mono (by simp)) (hb T))
  generalize l.length = n at *
  clear h
  go_enter Tryz.func78, Tryz.ntmps78
  go_wp2_with fail
  refine (HI.out _).mono ?_
  rintro e w2 ⟨⟨r, rfl, hr⟩, hg⟩
  have HR := Lib.hid hr
  have K2 := Lib.hid ((World.grownBy_alloc w _ none).trans hg)
  clear hg hr
  go_wp2_with fail
  go_ret
  exact ⟨⟨r, rfl, HR.out⟩, K2.out⟩
end Go.Proofs.YtjaclmoobfeikaaGreatDoor
