/- What is read without an error names its columns. tree's walk: how it goes down. The contract of lex's Word. (Laid by tools/gen_lxword.py.) -/
import Derived.Test.YtjaclmoobfeikaaGreatDoorZk13
import Derived.Test.YtjaclmoobfeikaaGreatDoorZk15
import Derived.Test.YtjaclmoobfeikaaGreatDoorZk16
namespace Go.Proofs.YtjaclmoobfeikaaGreatDoor

/-- If no error is there behind it, none was ahead of it. -/
def RS.bk (s t : RS) : Prop := t.err = none → s.err = none
theorem RS.bk.refl (s : RS) : s.bk s := id
theorem RS.bk.trans {s t u : RS} (h : s.bk t) (h' : t.bk u) : s.bk u := fun e => h (h' e)
theorem RS.bwrong (s : RS) (c : Nat) : s.bk (s.wrong c) := fun e => by simp [RS.wrong] at e
theorem RS.bpass (s : RS) : s.bk s.pass := id
theorem RS.bneed (s : RS) (t : ByteArray) : s.bk (s.need t) := by
  unfold RS.need; split
  · exact s.bpass
  · exact s.bwrong _
theorem RS.bfin (s : RS) : s.bk s.fin := by
  unfold RS.fin; split
  · exact RS.bk.refl s
  · exact s.bwrong _
theorem RS.bname (s : RS) : s.bk s.name.1 := by
  unfold RS.name; split
  · exact s.bpass
  · exact s.bwrong _
theorem RS.bliteral (s : RS) : s.bk s.literal.1 := by
  unfold RS.literal; split
  · exact s.bpass
  · exact s.bwrong _
theorem RS.brel (s : RS) : s.bk s.rel.1 := by
  unfold RS.rel; split
  · exact RS.bk.refl s
  · exact s.bpass
theorem listF_bk {β : Type} (most : Nat) (nx : RS → RS × β) (hn : ∀ s : RS, s.bk (nx s).1) : ∀ (f : Nat) (s : RS) (acc : List β), s.bk (listF most nx f s acc).1
  | 0, s, _ => RS.bk.refl s
  | f + 1, s, acc => by
    rw [listF]
    split
    · exact s.bwrong _
    · split
      · exact ((hn s).trans (RS.bpass _)).trans (listF_bk most nx hn f _ _)
      · exact hn s
theorem partsF_bk (word : ByteArray) (pf : RS → RS × Prd) (hn : ∀ s : RS, s.bk (pf s).1) : ∀ (f : Nat) (s : RS) (acc : List Prd), s.bk (partsF word pf f s acc).1
  | 0, s, _ => RS.bk.refl s
  | f + 1, s, acc => by
    rw [partsF]
    split
    · exact (s.bpass.trans (hn _)).trans (partsF_bk word pf hn f _ _)
    · exact RS.bk.refl s
theorem partsL_bk (kind : Nat) (word : ByteArray) (pf : RS → RS × Prd) (hn : ∀ s : RS, s.bk (pf s).1) (s : RS) : s.bk (partsL kind word pf s).1 := (hn s).trans (partsF_bk word pf hn _ _ _)
theorem amongL_bk (col : ByteArray) (pos : Nat) (s : RS) : s.bk (amongL col pos s).1 := by
  unfold amongL
  split
  · exact ((s.bpass.trans (RS.bneed _ _)).trans (listF_bk 12 RS.literal RS.bliteral 13 _ [])).trans (RS.bneed _ _)
  · exact (((s.bneed _).trans (RS.bliteral _)).trans (RS.bneed _ _)).trans (RS.bliteral _)
theorem nameP_bk (pos : Nat) (s : RS) : s.name.1.bk (nameP pos s).1 := by
  unfold nameP
  dsimp only
  generalize s.name.1 = u
  split
  · split
    · exact (u.bpass.trans (RS.bpass _)).trans (RS.bneed _ _)
    · exact u.bpass.trans (RS.bneed _ _)
  · split
    · exact u.bpass.trans (amongL_bk _ _ _)
    · split
      · exact u.brel.trans (amongL_bk _ _ _)
      · split
        · exact u.brel.trans (RS.bname _)
        · exact u.brel.trans (RS.bliteral _)
theorem litP_bk (pos : Nat) (s : RS) : s.bk (litP pos s).1 := by
  refine s.bliteral.trans ?_
  unfold litP
  dsimp only
  generalize s.literal.1 = u
  split
  · unfold truthP
    dsimp only
    split
    · exact u.brel
    · exact u.brel.trans (RS.bwrong _ _)
  · split
    · exact u.brel.trans (RS.bname _)
    · exact u.brel.trans (RS.bliteral _)
theorem oneF_bk : ∀ (d : Nat) (s : RS), s.bk (oneF d s).1
  | 0, s => s.bwrong _
  | d + 1, s => by
    rw [oneF]
    split
    · exact s.bpass.trans (oneF_bk d _)
    · split
      · exact (s.bpass.trans (partsL_bk 9 bOr _ (fun s => partsL_bk 8 bAnd _ (oneF_bk d) s) _)).trans (RS.bneed _ _)
      · split
        · exact s.bname.trans (nameP_bk _ _)
        · exact litP_bk _ _
theorem anyF_bk (d : Nat) (s : RS) : s.bk (anyF d s).1 := partsL_bk 9 bOr _ (fun s => partsL_bk 8 bAnd _ (oneF_bk d) s) s
theorem columnL_bk (s : RS) : s.bk (columnL s).1 := s.bname
theorem itemL_bk (s : RS) : s.bk (itemL s).1 := by
  unfold itemL
  split
  · exact s.bname
  · dsimp only
    split
    · exact ((s.bpass.trans (RS.bneed _ _)).trans (RS.bpass _)).trans (RS.bneed _ _)
    · exact ((s.bpass.trans (RS.bneed _ _)).trans (RS.bname _)).trans (RS.bneed _ _)
theorem keyL_bk (s : RS) : s.bk (keyL s).1 := by
  refine (itemL_bk s).trans ?_
  unfold keyL
  dsimp only
  split
  · exact RS.bpass _
  · split
    · exact RS.bpass _
    · exact RS.bk.refl _
/-- A name that was read has bytes. -/
theorem RS.ok.name_ne {s : RS} (h : s.ok) (he : s.name.1.err = none) : s.name.2 ≠ ⟨#[]⟩ := by
  unfold RS.name at he ⊢
  split at he
  · rename_i hc
    rw [if_pos hc]
    obtain ⟨f, l, e, hk, ht, hf⟩ := h
    have hk1 : s.hd.kind = 1 := by
      unfold RS.named at hc
      simpa using hc
    cases f with
    | nil =>
      have : s.hd = l := by unfold RS.hd; rw [e]; rfl
      rw [this, hk] at hk1
      cases hk1
    | cons t f =>
      have : s.hd = t := by unfold RS.hd; rw [e]; rfl
      show s.hd.text ≠ _
      rw [this]
      exact (hf t (by simp)).2
  · simp [RS.wrong] at he
/-- The columns that a predicate names, but for its kids. -/
def Prd.nms : Prd → List ByteArray
  | .mk k c _ _ o _ _ _ => if k = 3 ∨ k = 5 ∨ k = 6 ∨ k = 7 then [c] else if k = 4 then [c, o] else []
/-- What a predicate names stands there, and nothing else. -/
def Prd.own : Prd → Prop
  | .mk k c _ _ o _ _ _ => (k = 3 ∨ k = 5 ∨ k = 6 ∨ k = 7 → c ≠ ⟨#[]⟩ ∧ o = ⟨#[]⟩) ∧ (k = 4 → c ≠ ⟨#[]⟩ ∧ o ≠ ⟨#[]⟩) ∧ (¬ (k = 3 ∨ k = 4 ∨ k = 5 ∨ k = 6 ∨ k = 7) → c = ⟨#[]⟩ ∧ o = ⟨#[]⟩)
mutual
def Prd.wf : Prd → Prop
  | .mk k c r v o l ks p => Prd.own (.mk k c r v o l ks p) ∧ Prd.wfs ks
def Prd.wfs : List Prd → Prop
  | [] => True
  | x :: r => x.wf ∧ Prd.wfs r
end
theorem Prd.wfs_app : ∀ l m : List Prd, Prd.wfs (l ++ m) ↔ Prd.wfs l ∧ Prd.wfs m
  | [], m => by simp [Prd.wfs]
  | x :: l, m => by simp [Prd.wfs, Prd.wfs_app l m, and_assoc]
theorem partsF_wf (word : ByteArray) (hw : word ≠ ⟨#[]⟩) (pf : RS → RS × Prd) (hn : ∀ s : RS, s.ok → s.next (pf s).1) (hb : ∀ s : RS, s.bk (pf s).1) (hp : ∀ s : RS, s.ok → (pf s).1.err = none → (pf s).2.wf) : ∀ (f : Nat) (s : RS) (acc : List Prd), s.ok → Prd.wfs acc → (partsF word pf f s acc).1.err = none → Prd.wfs (partsF word pf f s acc).2
  | 0, _, _, _, ha, _ => ha
  | f + 1, s, acc, h, ha, he => by
    rw [partsF] at he ⊢
    split at he
    · rename_i hc
      rw [if_pos hc]
      have hm := RS.more_of hw hc
      have h1 := h.npass hm
      have h2 := (hn _ h1.1).1
      exact partsF_wf word hw pf hn hb hp f _ _ h2 ((Prd.wfs_app _ _).2 ⟨ha, hp _ h1.1 (partsF_bk word pf hb f _ _ he), trivial⟩) he
    · rename_i hc
      rw [if_neg hc]; exact ha
theorem joinP_wf (kind p : Nat) (hk : kind = 8 ∨ kind = 9) (l : List Prd) (h : Prd.wfs l) : (joinP kind p l).wf := by
  unfold joinP
  split
  · exact h.1
  · refine ⟨⟨?_, ?_, ?_⟩, h⟩
    · rcases hk with rfl | rfl <;> simp
    · rcases hk with rfl | rfl <;> simp
    · intro _; exact ⟨rfl, rfl⟩
theorem partsL_wf (kind : Nat) (hk : kind = 8 ∨ kind = 9) (word : ByteArray) (hw : word ≠ ⟨#[]⟩) (pf : RS → RS × Prd) (hn : ∀ s : RS, s.ok → s.next (pf s).1) (hb : ∀ s : RS, s.bk (pf s).1) (hp : ∀ s : RS, s.ok → (pf s).1.err = none → (pf s).2.wf) (s : RS) (h : s.ok) (he : (partsL kind word pf s).1.err = none) : (partsL kind word pf s).2.wf :=
  joinP_wf kind _ hk _ (partsF_wf word hw pf hn hb hp _ _ _ (hn s h).1 ⟨hp s h (partsF_bk word pf hb _ _ _ he), trivial⟩ he)
theorem amongL_wf (col : ByteArray) (hc : col ≠ ⟨#[]⟩) (pos : Nat) (s : RS) : (amongL col pos s).2.wf := by
  unfold amongL
  split
  · exact ⟨⟨fun _ => ⟨hc, rfl⟩, by simp, by simp⟩, trivial⟩
  · exact ⟨⟨by simp, by simp, fun _ => ⟨rfl, rfl⟩⟩, ⟨⟨fun _ => ⟨hc, rfl⟩, by simp, by simp⟩, trivial⟩, ⟨⟨fun _ => ⟨hc, rfl⟩, by simp, by simp⟩, trivial⟩, trivial⟩
theorem notP_wf {p : Prd} (h : p.wf) (n : Nat) : (notP p n).wf := ⟨⟨by simp, by simp, fun _ => ⟨rfl, rfl⟩⟩, h, trivial⟩
theorem nameP_wf (pos : Nat) (s : RS) (h : s.ok) (he : (nameP pos s).1.err = none) : (nameP pos s).2.wf := by
  have hc := h.name_ne (nameP_bk pos s he)
  have hu := h.nname.1
  unfold nameP at he ⊢
  dsimp only at he ⊢
  generalize s.name.2 = c at *
  generalize s.name.1 = u at *
  split at he
  · rename_i h1
    rw [if_pos h1]
    split at he
    · rename_i h2
      rw [if_pos h2]
      exact ⟨⟨fun _ => ⟨hc, rfl⟩, by simp, by simp⟩, trivial⟩
    · rename_i h2
      rw [if_neg h2]
      exact ⟨⟨fun _ => ⟨hc, rfl⟩, by simp, by simp⟩, trivial⟩
  · rename_i h1
    rw [if_neg h1]
    split at he
    · rename_i h2
      rw [if_pos h2]
      exact notP_wf (amongL_wf c hc _ _) _
    · rename_i h2
      rw [if_neg h2]
      split at he
      · rename_i h3
        rw [if_pos h3]
        exact amongL_wf c hc _ _
      · rename_i h3
        rw [if_neg h3]
        split at he
        · rename_i h4
          rw [if_pos h4]
          exact ⟨⟨by simp, fun _ => ⟨hc, hu.nrel.1.name_ne he⟩, by simp⟩, trivial⟩
        · rename_i h4
          rw [if_neg h4]
          exact ⟨⟨fun _ => ⟨hc, rfl⟩, by simp, by simp⟩, trivial⟩
theorem litP_wf (pos : Nat) (s : RS) (h : s.ok) (he : (litP pos s).1.err = none) : (litP pos s).2.wf := by
  have hu := h.nliteral.1
  unfold litP at he ⊢
  dsimp only at he ⊢
  generalize s.literal.2 = v at *
  generalize s.literal.1 = u at *
  split at he
  · rename_i h1
    rw [if_pos h1]
    unfold truthP
    dsimp only
    split <;> exact ⟨⟨by simp, by simp, fun _ => ⟨rfl, rfl⟩⟩, trivial⟩
  · rename_i h1
    rw [if_neg h1]
    split at he
    · rename_i h2
      rw [if_pos h2]
      exact ⟨⟨fun _ => ⟨hu.nrel.1.name_ne he, rfl⟩, by simp, by simp⟩, trivial⟩
    · rename_i h2
      rw [if_neg h2]
      exact ⟨⟨by simp, by simp, fun _ => ⟨rfl, rfl⟩⟩, trivial⟩
theorem oneF_wf : ∀ (d : Nat) (s : RS), s.ok → (oneF d s).1.err = none → (oneF d s).2.wf
  | 0, s, _, he => by simp [oneF, RS.wrong] at he
  | d + 1, s, h, he => by
    rw [oneF] at he ⊢
    split at he
    · rename_i hc
      rw [if_pos hc]
      exact notP_wf (oneF_wf d _ (h.npass (RS.more_of (t := bNot) (by decide) hc)).1 he) _
    · rename_i hc
      rw [if_neg hc]
      split at he
      · rename_i ho
        rw [if_pos ho]
        exact partsL_wf 9 (.inr rfl) bOr (by decide) _ (fun s h => partsL_next 8 bAnd (by decide) _ (oneF_next d) s h) (fun s => partsL_bk 8 bAnd _ (oneF_bk d) s) (fun s h he => partsL_wf 8 (.inl rfl) bAnd (by decide) _ (oneF_next d) (oneF_bk d) (oneF_wf d) s h he) _ (h.npass (RS.more_of (t := bOpen) (by decide) ho)).1 (RS.bneed _ _ he)
      · rename_i ho
        rw [if_neg ho]
        split at he
        · rename_i hn
          rw [if_pos hn]; exact nameP_wf _ _ h he
        · rename_i hn
          rw [if_neg hn]; exact litP_wf _ _ h he
theorem anyF_wf (d : Nat) (s : RS) (h : s.ok) (he : (anyF d s).1.err = none) : (anyF d s).2.wf :=
  partsL_wf 9 (.inr rfl) bOr (by decide) _ (fun s h => partsL_next 8 bAnd (by decide) _ (oneF_next d) s h) (fun s => partsL_bk 8 bAnd _ (oneF_bk d) s) (fun s h he => partsL_wf 8 (.inl rfl) bAnd (by decide) _ (oneF_next d) (oneF_bk d) (oneF_wf d) s h he) s h he
/-- An item that isn't COUNT of all names a column; COUNT of all none. -/
def Itm.wf (x : Itm) : Prop := (x.agg ≠ 1 → x.col ≠ ⟨#[]⟩) ∧ (x.agg = 1 → x.col = ⟨#[]⟩)
theorem columnL_wf (s : RS) (h : s.ok) (he : (columnL s).1.err = none) : (columnL s).2.wf := ⟨fun _ => h.name_ne he, fun e => by cases e⟩
theorem aggT_ne (t : ByteArray) : aggT t ≠ 1 := by
  unfold aggT
  repeat' split
  all_goals decide
theorem itemL_wf (s : RS) (h : s.ok) (he : (itemL s).1.err = none) : (itemL s).2.wf := by
  unfold itemL at he ⊢
  split at he
  · rename_i h1
    rw [if_pos h1]; exact columnL_wf s h he
  · rename_i h1
    rw [if_neg h1]
    have h2 := (h.npass (RS.more_agg h1)).1.nneed (t := bOpen) (by decide)
    dsimp only at he ⊢
    split at he
    · rename_i h3
      rw [if_pos h3]
      exact ⟨fun e => absurd rfl e, fun _ => rfl⟩
    · rename_i h3
      rw [if_neg h3]
      exact ⟨fun _ => h2.1.name_ne (RS.bneed _ _ he), fun e => absurd e (aggT_ne _)⟩
theorem keyL_wf (s : RS) (h : s.ok) (he : (keyL s).1.err = none) : (keyL s).2.item.wf := by
  have h1 : (itemL s).1.err = none := by
    unfold keyL at he
    dsimp only at he
    split at he
    · exact RS.bpass _ he
    · split at he
      · exact RS.bpass _ he
      · exact he
  have h2 := itemL_wf s h h1
  unfold keyL
  dsimp only
  split
  · exact h2
  · split <;> exact h2
theorem listF_wf {β : Type} (Q : β → Prop) (most : Nat) (nx : RS → RS × β) (hn : ∀ s : RS, s.ok → s.next (nx s).1) (hb : ∀ s : RS, s.bk (nx s).1) (hp : ∀ s : RS, s.ok → (nx s).1.err = none → Q (nx s).2) : ∀ (f : Nat) (s : RS) (acc : List β), s.ok → (∀ x ∈ acc, Q x) → (listF most nx f s acc).1.err = none → ∀ x ∈ (listF most nx f s acc).2, Q x
  | 0, _, _, _, ha, _ => ha
  | f + 1, s, acc, h, ha, he => by
    rw [listF] at he ⊢
    split at he
    · rename_i h1
      rw [if_pos h1]; exact ha
    · rename_i h1
      rw [if_neg h1]
      have h2 := (hn s h).1
      split at he
      · rename_i h3
        rw [if_pos h3]
        have hm := RS.more_of (t := bComma) (by decide) h3
        have hq := hp s h ((RS.bpass _).trans (listF_bk most nx hb f _ _) he)
        exact listF_wf Q most nx hn hb hp f _ _ (h2.npass hm).1 (fun x hx => (List.mem_append.1 hx).elim (ha x) (fun e => by
          obtain rfl : x = _ := by simpa using e
          exact hq)) he
      · rename_i h3
        rw [if_neg h3]
        intro x hx
        rcases List.mem_append.1 hx with e | e
        · exact ha x e
        · obtain rfl : x = _ := by simpa using e
          exact hp s h he
end Go.Proofs.YtjaclmoobfeikaaGreatDoor
namespace Go.Proofs.YtjaclmoobfeikaaGreatDoor
open Go.RowKit

end Go.Proofs.YtjaclmoobfeikaaGreatDoor
namespace Go.Proofs.YtjaclmoobfeikaaGreatDoor
open Go.RowKit

set_option maxHeartbeats 3200000 in
theorem word_any (s : ByteArray) (w : World) : Calls Tryz.prog 141 #[.string s] w fun e w' => e = .returned (.bool (wordB s.data.toList)) ∧ w = w' := by
  by_cases h0 : s.data.toList = [83, 69, 76, 69, 67, 84]
  · have hw : wordB s.data.toList = true := by rw [h0]; decide
    rw [hw]
    have t0 := bytes_is h0
    clear hw h0
    go_enter Tryz.func141, Tryz.ntmps141
    go_wp2_with fail
    go_ret
    exact ⟨rfl, rfl⟩
  have t0 := bytes_not h0
  have H0 := Lib.hid h0
  clear h0
  by_cases h1 : s.data.toList = [70, 82, 79, 77]
  · have hw : wordB s.data.toList = true := by rw [h1]; decide
    rw [hw]
    have t1 := bytes_is h1
    clear hw h1
    go_enter Tryz.func141, Tryz.ntmps141
    go_wp2_with fail
    go_ret
    exact ⟨rfl, rfl⟩
  have t1 := bytes_not h1
  have H1 := Lib.hid h1
  clear h1
  by_cases h2 : s.data.toList = [87, 72, 69, 82, 69]
  · have hw : wordB s.data.toList = true := by rw [h2]; decide
    rw [hw]
    have t2 := bytes_is h2
    clear hw h2
    go_enter Tryz.func141, Tryz.ntmps141
    go_wp2_with fail
    go_ret
    exact ⟨rfl, rfl⟩
  have t2 := bytes_not h2
  have H2 := Lib.hid h2
  clear h2
  by_cases h3 : s.data.toList = [71, 82, 79, 85, 80]
  · have hw : wordB s.data.toList = true := by rw [h3]; decide
    rw [hw]
    have t3 := bytes_is h3
    clear hw h3
    go_enter Tryz.func141, Tryz.ntmps141
    go_wp2_with fail
    go_ret
    exact ⟨rfl, rfl⟩
  have t3 := bytes_not h3
  have H3 := Lib.hid h3
  clear h3
  by_cases h4 : s.data.toList = [79, 82, 68, 69, 82]
  · have hw : wordB s.data.toList = true := by rw [h4]; decide
    rw [hw]
    have t4 := bytes_is h4
    clear hw h4
    go_enter Tryz.func141, Tryz.ntmps141
    go_wp2_with fail
    go_ret
    exact ⟨rfl, rfl⟩
  have t4 := bytes_not h4
  have H4 := Lib.hid h4
  clear h4
  by_cases h5 : s.data.toList = [66, 89]
  · have hw : wordB s.data.toList = true := by rw [h5]; decide
    rw [hw]
    have t5 := bytes_is h5
    clear hw h5
    go_enter Tryz.func141, Tryz.ntmps141
    go_wp2_with fail
    go_ret
    exact ⟨rfl, rfl⟩
  have t5 := bytes_not h5
  have H5 := Lib.hid h5
  clear h5
  by_cases h6 : s.data.toList = [76, 73, 77, 73, 84]
  · have hw : wordB s.data.toList = true := by rw [h6]; decide
    rw [hw]
    have t6 := bytes_is h6
    clear hw h6
    go_enter Tryz.func141, Tryz.ntmps141
    go_wp2_with fail
    go_ret
    exact ⟨rfl, rfl⟩
  have t6 := bytes_not h6
  have H6 := Lib.hid h6
  clear h6
  by_cases h7 : s.data.toList = [65, 83, 67]
  · have hw : wordB s.data.toList = true := by rw [h7]; decide
    rw [hw]
    have t7 := bytes_is h7
    clear hw h7
    go_enter Tryz.func141, Tryz.ntmps141
    go_wp2_with fail
    go_ret
    exact ⟨rfl, rfl⟩
  have t7 := bytes_not h7
  have H7 := Lib.hid h7
  clear h7
  by_cases h8 : s.data.toList = [68, 69, 83, 67]
  · have hw : wordB s.data.toList = true := by rw [h8]; decide
    rw [hw]
    have t8 := bytes_is h8
    clear hw h8
    go_enter Tryz.func141, Tryz.ntmps141
    go_wp2_with fail
    go_ret
    exact ⟨rfl, rfl⟩
  have t8 := bytes_not h8
  have H8 := Lib.hid h8
  clear h8
  by_cases h9 : s.data.toList = [65, 78, 68]
  · have hw : wordB s.data.toList = true := by rw [h9]; decide
    rw [hw]
    have t9 := bytes_is h9
    clear hw h9
    go_enter Tryz.func141, Tryz.ntmps141
    go_wp2_with fail
    go_ret
    exact ⟨rfl, rfl⟩
  have t9 := bytes_not h9
  have H9 := Lib.hid h9
  clear h9
  by_cases h10 : s.data.toList = [79, 82]
  · have hw : wordB s.data.toList = true := by rw [h10]; decide
    rw [hw]
    have t10 := bytes_is h10
    clear hw h10
    go_enter Tryz.func141, Tryz.ntmps141
    go_wp2_with fail
    go_ret
    exact ⟨rfl, rfl⟩
  have t10 := bytes_not h10
  have H10 := Lib.hid h10
  clear h10
  by_cases h11 : s.data.toList = [78, 79, 84]
  · have hw : wordB s.data.toList = true := by rw [h11]; decide
    rw [hw]
    have t11 := bytes_is h11
    clear hw h11
    go_enter Tryz.func141, Tryz.ntmps141
    go_wp2_with fail
    go_ret
    exact ⟨rfl, rfl⟩
  have t11 := bytes_not h11
  have H11 := Lib.hid h11
  clear h11
  by_cases h12 : s.data.toList = [73, 83]
  · have hw : wordB s.data.toList = true := by rw [h12]; decide
    rw [hw]
    have t12 := bytes_is h12
    clear hw h12
    go_enter Tryz.func141, Tryz.ntmps141
    go_wp2_with fail
    go_ret
    exact ⟨rfl, rfl⟩
  have t12 := bytes_not h12
  have H12 := Lib.hid h12
  clear h12
  by_cases h13 : s.data.toList = [73, 78]
  · have hw : wordB s.data.toList = true := by rw [h13]; decide
    rw [hw]
    have t13 := bytes_is h13
    clear hw h13
    go_enter Tryz.func141, Tryz.ntmps141
    go_wp2_with fail
    go_ret
    exact ⟨rfl, rfl⟩
  have t13 := bytes_not h13
  have H13 := Lib.hid h13
  clear h13
  by_cases h14 : s.data.toList = [66, 69, 84, 87, 69, 69, 78]
  · have hw : wordB s.data.toList = true := by rw [h14]; decide
    rw [hw]
    have t14 := bytes_is h14
    clear hw h14
    go_enter Tryz.func141, Tryz.ntmps141
    go_wp2_with fail
    go_ret
    exact ⟨rfl, rfl⟩
  have t14 := bytes_not h14
  have H14 := Lib.hid h14
  clear h14
  by_cases h15 : s.data.toList = [78, 85, 76, 76]
  · have hw : wordB s.data.toList = true := by rw [h15]; decide
    rw [hw]
    have t15 := bytes_is h15
    clear hw h15
    go_enter Tryz.func141, Tryz.ntmps141
    go_wp2_with fail
    go_ret
    exact ⟨rfl, rfl⟩
  have t15 := bytes_not h15
  have H15 := Lib.hid h15
  clear h15
  by_cases h16 : s.data.toList = [84, 82, 85, 69]
  · have hw : wordB s.data.toList = true := by rw [h16]; decide
    rw [hw]
    have t16 := bytes_is h16
    clear hw h16
    go_enter Tryz.func141, Tryz.ntmps141
    go_wp2_with fail
    go_ret
    exact ⟨rfl, rfl⟩
  have t16 := bytes_not h16
  have H16 := Lib.hid h16
  clear h16
  by_cases h17 : s.data.toList = [70, 65, 76, 83, 69]
  · have hw : wordB s.data.toList = true := by rw [h17]; decide
    rw [hw]
    have t17 := bytes_is h17
    clear hw h17
    go_enter Tryz.func141, Tryz.ntmps141
    go_wp2_with fail
    go_ret
    exact ⟨rfl, rfl⟩
  have t17 := bytes_not h17
  have H17 := Lib.hid h17
  clear h17
  by_cases h18 : s.data.toList = [67, 79, 85, 78, 84]
  · have hw : wordB s.data.toList = true := by rw [h18]; decide
    rw [hw]
    have t18 := bytes_is h18
    clear hw h18
    go_enter Tryz.func141, Tryz.ntmps141
    go_wp2_with fail
    go_ret
    exact ⟨rfl, rfl⟩
  have t18 := bytes_not h18
  have H18 := Lib.hid h18
  clear h18
  by_cases h19 : s.data.toList = [83, 85, 77]
  · have hw : wordB s.data.toList = true := by rw [h19]; decide
    rw [hw]
    have t19 := bytes_is h19
    clear hw h19
    go_enter Tryz.func141, Tryz.ntmps141
    go_wp2_with fail
    go_ret
    exact ⟨rfl, rfl⟩
  have t19 := bytes_not h19
  have H19 := Lib.hid h19
  clear h19
  by_cases h20 : s.data.toList = [77, 73, 78]
  · have hw : wordB s.data.toList = true := by rw [h20]; decide
    rw [hw]
    have t20 := bytes_is h20
    clear hw h20
    go_enter Tryz.func141, Tryz.ntmps141
    go_wp2_with fail
    go_ret
    exact ⟨rfl, rfl⟩
  have t20 := bytes_not h20
  have H20 := Lib.hid h20
  clear h20
  by_cases h21 : s.data.toList = [77, 65, 88]
  · have hw : wordB s.data.toList = true := by rw [h21]; decide
    rw [hw]
    have t21 := bytes_is h21
    clear hw h21
    go_enter Tryz.func141, Tryz.ntmps141
    go_wp2_with fail
    go_ret
    exact ⟨rfl, rfl⟩
  have t21 := bytes_not h21
  have H21 := Lib.hid h21
  clear h21
  have hw : wordB s.data.toList = false := by
    unfold wordB words
    simp only [List.contains_eq_mem, List.mem_cons, List.not_mem_nil, or_false, decide_eq_false_iff_not, not_or]
    exact ⟨H0.out, H1.out, H2.out, H3.out, H4.out, H5.out, H6.out, H7.out, H8.out, H9.out, H10.out, H11.out, H12.out, H13.out, H14.out, H15.out, H16.out, H17.out, H18.out, H19.out, H20.out, H21.out⟩
  rw [hw]
  clear hw
  go_enter Tryz.func141, Tryz.ntmps141
  go_wp2_with fail
  go_ret
  exact ⟨rfl, rfl⟩
end Go.Proofs.YtjaclmoobfeikaaGreatDoor
