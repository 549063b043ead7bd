/- What lex's tokens are for the reader. Layer 10's fixed fact. Predicates but for places, compared one level after the other: the mathematics. -/
import Derived.Test.YtppigamibgefaaaGreatDoorZp19
import Derived.Test.YtppigamibgefaaaGreatDoorZp11
import Derived.Test.YtppigamibgefaaaGreatDoorZp14
namespace Go.Proofs.YtppigamibgefaaaGreatDoor
open Go.RowKit

/-- A token ahead of the end. -/
def TkOk (t : Tk) : Prop := t.kind ≠ 0 ∧ t.text ≠ ⟨#[]⟩ ∧ t.text.size ≤ 1510
theorem lexF_okP (s : ByteArray) (hs : s.size ≤ 1500) : ∀ (f k : Nat) (acc l : List Tk), acc.length ≤ 250 → (∀ t ∈ acc, TkOk t) → k ≤ s.size → s.size + 1 ≤ f + k → lexF s f k acc = .ok l →
    ∃ fr last, l = fr ++ [last] ∧ last.kind = 0 ∧ last.text = ⟨#[]⟩ ∧ fr.length ≤ 250 ∧ ∀ t ∈ fr, TkOk t
  | 0, k, acc, l, _, _, hk, hf, _ => by omega
  | f + 1, k, acc, l, ha, hA, hk, hf, h => by
    have hr := lexF_round s f k acc
    by_cases he : nxt s k = s.size
    · rw [hr.1 he] at h
      cases h
      exact ⟨acc, _, rfl, rfl, rfl, ha, hA⟩
    · cases ht : tokL (s.data.toList.drop (nxt s k)) with | mk kd NC =>
      obtain ⟨N, c⟩ := NC
      have h2 := hr.2 he kd N c ht
      by_cases h0 : c = 0
      · subst h0
        by_cases hl : acc.length = 250
        · rw [h2.2.1 rfl hl] at h; cases h
        · rw [h2.2.2 rfl hl] at h
          obtain ⟨t1, t2, _⟩ := tokL_len _ _ _ _ ht
          have t2 := t2 rfl
          rw [List.length_drop] at t1
          have hz : s.data.toList.length = s.size := rfl
          have hn : k ≤ nxt s k := Nat.le_add_right _ _
          have hx : (s.extract (nxt s k) (nxt s k + N)).size = N := by rw [ByteArray.size_extract]; omega
          refine lexF_okP s hs f _ _ l (by simp; omega) (fun t ht' => ?_) (by omega) (by omega) h
          rcases List.mem_append.1 ht' with ht' | ht'
          · exact hA t ht'
          · obtain rfl : t = _ := by simpa using ht'
            refine ⟨tokL_kind _ _ _ ht, fun e => ?_, ?_⟩
            · simp only at e
              rw [e] at hx
              have : (⟨#[]⟩ : ByteArray).size = 0 := rfl
              omega
            · simp only
              omega
      · rw [h2.1 h0] at h; cases h
theorem lexL_ok (s : ByteArray) (l : List Tk) (h : lexL s = .ok l) : (⟨l, Option.none⟩ : RS).ok ∧ l.length ≤ 251 ∧ ∀ t ∈ l, t.text.size ≤ 1510 := by
  unfold lexL at h
  split at h
  · cases h
  · obtain ⟨fr, la, rfl, h1, h2, h3, h4⟩ := lexF_okP s (by omega) _ 0 [] l (by simp) (by simp) (by omega) (by omega) h
    refine ⟨⟨fr, la, rfl, h1, h2, fun t ht => ⟨(h4 t ht).1, (h4 t ht).2.1⟩⟩, by simp; omega, fun t ht => ?_⟩
    rcases List.mem_append.1 ht with ht | ht
    · exact (h4 t ht).2.2
    · obtain rfl : t = la := by simpa using ht
      rw [h2]; decide
end Go.Proofs.YtppigamibgefaaaGreatDoor
namespace Go.Proofs.YtppigamibgefaaaGreatDoor
open Go.RowKit

def txA : ByteArray := ⟨#[97, 62, 61, 45, 53]⟩
def txB : ByteArray := ⟨#[32, 39, 105, 116, 39, 39, 115, 39]⟩
def txC : ByteArray := ⟨#[48, 53]⟩
def txD : ByteArray := ⟨#[83, 101, 108, 101, 99, 116]⟩
theorem lex_A : lexL txA = .ok [⟨1, ⟨#[97]⟩, 0⟩, ⟨4, ⟨#[62, 61]⟩, 1⟩, ⟨2, ⟨#[45, 53]⟩, 3⟩, ⟨0, ⟨#[]⟩, 5⟩] := by rfl
theorem lex_B : lexL txB = .ok [⟨3, ⟨#[39, 105, 116, 39, 39, 115, 39]⟩, 1⟩, ⟨0, ⟨#[]⟩, 8⟩] := by kernel_rfl
theorem lex_C : lexL txC = .error (0, 10) := by rfl
theorem lex_D : lexL txD = .error (0, 10) := by rfl
theorem heap_ltX {w : World} {b : Nat} {o : Obj} (h : w.heap[b]? = some o) : b < w.heap.size := heap_lt h
/-- An own list of tokens that isn't empty: where it lies. -/
theorem own_at {w : World} {B : Nat} {v : Value} {n : Nat} {xs : List Value} (h : w.ownsRow B 207 3 v n xs) (hn : 0 < n) : ∃ g cap, v = .slice (some ⟨g, 0, none⟩) n cap ∧ n ≤ cap ∧ B ≤ g ∧ g < w.heap.size := by
  rcases h.2 with ⟨_, h0⟩ | ⟨g, cap, cur, hv, hb, hg, hc, _⟩
  · omega
  · exact ⟨g, cap, hv, hc, hb, heap_ltX hg⟩
/-- What Lex answers where no token is wrong, and where one is. -/
theorem Lex_ok (G : Nat) (n g m l : Addr) (s : ByteArray) (w : World) (hE : LxEnv G n g m l w) (t : List Tk) (ht : lexL s = .ok t) :
    Calls Tryz.prog 60 #[.string s] w fun e w' => ∃ v, e = .returned (.tuple #[v, .int .i64 0, .int .i64 0]) ∧ w'.ownsRow w.heap.size 207 3 v t.length (t.flatMap Tk.c) ∧ w.grownBy w' none := by
  refine (Lex_any G n g m l s w hE).mono fun e w' h => ?_
  rcases h with ⟨p, c, hr, _⟩ | ⟨t', v, hr, he, ho, hg⟩
  · rw [ht] at hr; cases hr
  · rw [ht] at hr; cases hr; exact ⟨v, he, ho, hg⟩
theorem Lex_bad (G : Nat) (n g m l : Addr) (s : ByteArray) (w : World) (hE : LxEnv G n g m l w) (p c : Nat) (ht : lexL s = .error (p, c)) :
    Calls Tryz.prog 60 #[.string s] w fun e w' => e = .returned (.tuple #[.slice none 0 0, .int .i64 (p : Nat), .int .i64 (c : Nat)]) ∧ w.grownBy w' none := by
  refine (Lex_any G n g m l s w hE).mono fun e w' h => ?_
  rcases h with ⟨p, c, hr, he, hg⟩ | ⟨t', v, hr, _⟩
  · rw [ht] at hr; cases hr; exact ⟨he, hg⟩
  · rw [ht] at hr; cases hr
end Go.Proofs.YtppigamibgefaaaGreatDoor
namespace Go.Proofs.YtppigamibgefaaaGreatDoor

/-- A predicate without its lists' places, and (p false) without those in the text. -/
def Pm.z (p : Bool) (x : Pm) : Prd := if p then x.e else x.e.e
/-- The same but for kids. -/
def Pm.like (p : Bool) : Pm → Pm → Prop
  | .mk k c r v o _ _ l _ _ _ i, .mk k' c' r' v' o' _ _ l' _ _ _ i' => k = k' ∧ c = c' ∧ r = r' ∧ v = v' ∧ o = o' ∧ l = l' ∧ (p = true → i = i')
theorem Pm.z_eq : ∀ (p : Bool) (x y : Pm), x.z p = y.z p ↔ Pm.like p x y ∧ x.kids.map (Pm.z p) = y.kids.map (Pm.z p)
  | p, .mk k c r v o _ _ l _ _ ks i, .mk k' c' r' v' o' _ _ l' _ _ ks' i' => by
    cases p with
    | false =>
      have e : ∀ l : List Pm, Prd.es (Pm.es l) = l.map (Pm.z false) := fun l => by
        rw [Pm.es_map, Prd.es_map, List.map_map]; rfl
      simp only [Pm.z, Bool.false_eq_true, if_false, Pm.e, Prd.e, Prd.mk.injEq, Pm.like, Pm.kids, e, and_true, false_implies]
      constructor
      · rintro ⟨h1, h2, h3, h4, h5, h6, h7⟩; exact ⟨⟨h1, h2, h3, h4, h5, h6⟩, h7⟩
      · rintro ⟨⟨h1, h2, h3, h4, h5, h6⟩, h7⟩; exact ⟨h1, h2, h3, h4, h5, h6, h7⟩
    | true =>
      have e : ∀ l : List Pm, Pm.es l = l.map (Pm.z true) := fun l => by
        rw [Pm.es_map]; rfl
      simp only [Pm.z, if_true, Pm.e, Prd.mk.injEq, Pm.like, Pm.kids, e, true_implies]
      constructor
      · rintro ⟨h1, h2, h3, h4, h5, h6, h7, h8⟩; exact ⟨⟨h1, h2, h3, h4, h5, h6, h8⟩, h7⟩
      · rintro ⟨⟨h1, h2, h3, h4, h5, h6, h8⟩, h7⟩; exact ⟨h1, h2, h3, h4, h5, h6, h7, h8⟩
/-- A slice of predicates. -/
structure Psl where
  a : Ptr
  c : Nat
  l : List Pm
instance : Inhabited Psl := ⟨⟨Option.none, 0, []⟩⟩
def Psl.v (x : Psl) : Value := .slice x.a x.l.length x.c
def Pm.ksl : Pm → Psl | .mk _ _ _ _ _ _ _ _ ka kc ks _ => ⟨ka, kc, ks⟩
theorem Pm.ksl_l : ∀ x : Pm, x.ksl.l = x.kids | .mk .. => rfl
def Psl.in (S : Nat → Prop) (w : World) (x : Psl) : Prop := CellsS S w x.a (x.l.flatMap Pm.c) ∧ x.l.length ≤ x.c ∧ PmSs S w x.l
theorem Pm.ksl_in {S : Nat → Prop} {w : World} : ∀ {x : Pm}, PmS S w x → x.ksl.in S w
  | .mk .., h => ⟨h.2.2.1, h.2.2.2.1, h.2.2.2.2⟩
theorem Psl.in.keep {S : Nat → Prop} {w w' : World} {x : Psl} (h : x.in S w) (hk : Stays S w w') : x.in S w' := ⟨h.1.keep hk, h.2.1, h.2.2.keep hk⟩
/-- Pairs of slices that are left. -/
abbrev Lft := List (Psl × Psl)
def Lft.same (b : Bool) (st : Lft) : Prop := ∀ p ∈ st, p.1.l.map (Pm.z b) = p.2.l.map (Pm.z b)
def kidsP (l m : List Pm) : Lft := (l.zip m).map fun p => (p.1.ksl, p.2.ksl)
theorem kidsP_len (l m : List Pm) (h : l.length = m.length) : (kidsP l m).length = l.length := by simp [kidsP, h]
theorem kidsP_at (l m : List Pm) (i : Nat) (hi : i < l.length) (h : l.length = m.length) : (kidsP l m)[i]? = some ((l.getD i default).ksl, (m.getD i default).ksl) := by
  have h2 : i < m.length := by omega
  have hz : (l.zip m)[i]? = some (l[i], m[i]) := by
    rw [List.getElem?_eq_getElem (by simp; omega), List.getElem_zip]
  rw [kidsP, List.getElem?_map, hz]
  simp [hi, h2]
/-- Lists are the same: each is like the other, and their kids are the same. -/
theorem same_step (b : Bool) : ∀ l m : List Pm, l.map (Pm.z b) = m.map (Pm.z b) ↔ (l.length = m.length ∧ ∀ i, i < l.length → Pm.like b (l.getD i default) (m.getD i default)) ∧ (kidsP l m).same b
  | [], [] => by simp [Lft.same, kidsP]
  | [], y :: m => by simp
  | x :: l, [] => by simp
  | x :: l, y :: m => by
    have ih := same_step b l m
    rw [List.map_cons, List.map_cons, List.cons.injEq, ih, Pm.z_eq]
    constructor
    · rintro ⟨⟨h1, h2⟩, ⟨h3, h4⟩, h5⟩
      refine ⟨⟨by simp [h3], fun i hi => ?_⟩, ?_⟩
      · cases i with
        | zero => exact h1
        | succ i => exact h4 i (by simpa using hi)
      · intro p hp
        rw [kidsP, List.zip_cons_cons, List.map_cons] at hp
        rcases List.mem_cons.1 hp with rfl | hp
        · simp only [Pm.ksl_l]; exact h2
        · exact h5 p hp
    · rintro ⟨⟨h3, h4⟩, h5⟩
      refine ⟨⟨h4 0 (by simp), ?_⟩, ⟨by simpa using h3, fun i hi => h4 (i + 1) (by simpa using hi)⟩, fun p hp => h5 p ?_⟩
      · have := h5 (x.ksl, y.ksl) (by simp [kidsP])
        simpa only [Pm.ksl_l] using this
      · rw [kidsP, List.zip_cons_cons, List.map_cons]; exact List.mem_cons_of_mem _ hp
theorem Lft.same_app (c : Bool) (a b : Lft) : Lft.same c (a ++ b) ↔ a.same c ∧ b.same c := by
  unfold Lft.same
  constructor
  · intro h; exact ⟨fun p hp => h p (by simp [hp]), fun p hp => h p (by simp [hp])⟩
  · rintro ⟨h1, h2⟩ p hp
    rcases List.mem_append.1 hp with hp | hp
    · exact h1 p hp
    · exact h2 p hp
mutual
def Pm.n : Pm → Nat
  | .mk _ _ _ _ _ _ _ _ _ _ ks _ => 1 + Pm.ns ks
def Pm.ns : List Pm → Nat
  | [] => 0
  | x :: r => x.n + Pm.ns r
end
def Lft.w : Lft → Nat
  | [] => 0
  | p :: r => 2 * Pm.ns p.1.l + 1 + Lft.w r
theorem Pm.n_eq : ∀ x : Pm, x.n = 1 + Pm.ns x.kids | .mk .. => by simp [Pm.n, Pm.kids]
theorem Lft.w_app (a b : Lft) : Lft.w (a ++ b) = Lft.w a + Lft.w b := by
  induction a with
  | nil => simp [Lft.w]
  | cons x r ih => rw [List.cons_append, Lft.w, Lft.w, ih]; omega
theorem kidsP_w : ∀ l m : List Pm, l.length = m.length → Lft.w (kidsP l m) + l.length = 2 * Pm.ns l
  | [], [], _ => rfl
  | [], y :: m, h => by simp at h
  | x :: l, [], h => by simp at h
  | x :: l, y :: m, h => by
    have ih := kidsP_w l m (by simpa using h)
    have e : kidsP (x :: l) (y :: m) = (x.ksl, y.ksl) :: kidsP l m := rfl
    rw [e, Lft.w, Pm.ns, Pm.n_eq, Pm.ksl_l, List.length_cons]
    omega
theorem Lft.w_len (st : Lft) : st.length ≤ Lft.w st := by
  induction st with
  | nil => simp [Lft.w]
  | cons x r ih => rw [List.length_cons, Lft.w]; omega
theorem Lft.w_take (st : Lft) (k : Nat) : Lft.w (st.take k) ≤ Lft.w st := by
  have := Lft.w_app (st.take k) (st.drop k)
  rw [List.take_append_drop] at this; omega
mutual
theorem Pm.n_e : ∀ x : Pm, x.n = x.e.n
  | .mk _ _ _ _ _ _ _ _ _ _ ks _ => by rw [Pm.n, Pm.e, Prd.n, Pm.ns_es ks]
theorem Pm.ns_es : ∀ l : List Pm, Pm.ns l = Prd.ns (Pm.es l)
  | [] => rfl
  | x :: r => by rw [Pm.ns, Pm.es, Prd.ns, Pm.n_e x, Pm.ns_es r]
end
end Go.Proofs.YtppigamibgefaaaGreatDoor
