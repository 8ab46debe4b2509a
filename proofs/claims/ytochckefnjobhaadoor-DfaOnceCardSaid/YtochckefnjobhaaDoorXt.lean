/- The machine of several regexes: step by step; words of bytes. -/
import Derived.Test.YtochckefnjobhaaDoorQg
set_option linter.unusedVariables false
namespace Go.Proofs.YtochckefnjobhaaDoor
open Go Go.RowKit Go.Lib
open X3 (RX Pl)

mutual
def okR : RX → Prop
  | .empty => True
  | .bytes x y z u => okB (.bytes x y z u)
  | .cat l => okL l
  | .alt l => okL l
  | .star r => okR r
def okL : List RX → Prop
  | [] => True
  | r :: l => okR r ∧ okL l
end
mutual
theorem RepS.ok {S : Nat → Prop} {w : World} : ∀ {r : RX} {v : Value}, RepS S w r v → okR r
  | _, _, .empty => trivial
  | _, _, .bytes x y z u hx hy hz hu => ⟨hx, hy, hz, hu⟩
  | _, _, .cat l g cap h hc hn hw h0 => RepLS.ok h
  | _, _, .alt l g cap h hc hn hw h0 => RepLS.ok h
  | _, _, .star r g cap h hc hn hw => (RepLS.ok h).1
theorem RepLS.ok {S : Nat → Prop} {w : World} : ∀ {l : List RX} {g j : Nat}, RepLS S w l g j → okL l
  | _, _, _, .nil _ _ => trivial
  | _, _, _, .cons r l _ _ k x y z u kv h c0 c1 c2 c3 c4 c5 h2 => ⟨RepS.ok h, RepLS.ok h2⟩
end
def okP (P : List Pl) : Prop := ∀ pl ∈ P, okB pl.b
theorem okP.app {P : List Pl} (h : okP P) {pl : Pl} (hb : okB pl.b) : okP (P ++ [pl]) := fun x hx => by
  rcases List.mem_append.1 hx with h1 | h1
  · exact h x h1
  · simp at h1; subst h1; exact hb
theorem okP.mod {P : List Pl} (h : okP P) (a : Nat) (f : Pl → Pl) (hf : ∀ pl, (f pl).b = pl.b) : okP (P.modify a f) := fun x hx => by
  obtain ⟨k, hk⟩ := List.mem_iff_getElem?.1 hx
  rw [List.getElem?_modify] at hk
  cases e : P[k]? with
  | none => rw [e] at hk; simp at hk
  | some pl =>
    rw [e] at hk
    have hp := h pl (List.mem_iff_getElem?.2 ⟨k, e⟩)
    simp at hk
    subst hk
    split
    · rw [hf]; exact hp
    · exact hp
mutual
theorem lay_ok : ∀ (r : RX) (b : Nat) (P : List Pl), okR r → okP P → okP (X3.layX r b P).2
  | .empty, b, P, h, hP => hP
  | .bytes x y z u, b, P, h, hP => hP.app h
  | .cat l, b, P, h, hP => layCat_ok l b P h hP
  | .alt l, b, P, h, hP => layAlt_ok l P.length b (P ++ [X3.none_]) h (hP.app trivial)
  | .star r, b, P, h, hP => (lay_ok r P.length (P ++ [X3.none_]) h (hP.app trivial)).mod _ _ (fun _ => rfl)
theorem layCat_ok : ∀ (l : List RX) (b : Nat) (P : List Pl), okL l → okP P → okP (X3.layCat l b P).2
  | [], b, P, h, hP => hP
  | r :: l, b, P, h, hP => lay_ok r _ _ h.1 (layCat_ok l b P h.2 hP)
theorem layAlt_ok : ∀ (l : List RX) (a b : Nat) (P : List Pl), okL l → okP P → okP (X3.layAlt l a b P)
  | [], a, b, P, h, hP => hP
  | r :: l, a, b, P, h, hP => layAlt_ok l a b _ h.2 ((lay_ok r b P h.1 hP).mod _ _ (fun _ => rfl))
end
theorem mk_ok : ∀ (l : List RX) (i : Nat) (P : List Pl) (TS : List Nat), okL l → okP P → okP (X4.mk l i P TS).2.1
  | [], i, P, TS, h, hP => hP
  | r :: l, i, P, TS, h, hP => mk_ok l (i + 1) _ _ h.2 (lay_ok r _ _ h.1 (hP.app trivial))

/-- The machine's tag of a place. -/
def tagF (l : List RX) (q : Nat) : Nat := (X4.mk l 0 [] []).2.2.getD q 0
/-- So far a machine is laid. -/
structure MkI (l : List RX) (k : Nat) (fs : List Nat) (P : List Pl) (TS : List Nat) : Prop where
  eq : X4.mk l 0 [] [] = (fs ++ (X4.mk (l.drop k) k P TS).1, (X4.mk (l.drop k) k P TS).2)
  tl : TS.length = P.length
  bd : X3.Bd P P.length
  fl : fs.length = k
  fb : ∀ f ∈ fs, f < P.length
  len : P.length ≤ k + X3.sizeL (l.take k)
  mu : X3.muL P ≤ k + 4 * X3.sizeL (l.take k)
theorem MkI.start (l : List RX) : MkI l 0 [] [] [] := ⟨rfl, rfl, (by intro x hx; cases hx), rfl, (by intro f hf; cases hf), Nat.zero_le _, by simp [X3.muL]⟩
theorem MkI.step {l : List RX} {k : Nat} {fs : List Nat} {P : List Pl} {TS : List Nat} (h : MkI l k fs P TS) (hk : k < l.length) :
    MkI l (k + 1) (fs ++ [(X3.layX l[k] P.length (P ++ [X3.none_])).1]) (X3.layX l[k] P.length (P ++ [X3.none_])).2 (TS ++ 2 ^ k :: List.replicate ((X3.layX l[k] P.length (P ++ [X3.none_])).2.length - (P.length + 1)) 0) ∧
    tagF l P.length = 2 ^ k ∧ ∀ q, P.length < q → q < (X3.layX l[k] P.length (P ++ [X3.none_])).2.length → tagF l q = 0 := by
  have hd := List.drop_eq_getElem_cons hk
  have hseg := X4.seg_len l[k] P
  have hb : X3.Bd (P ++ [X3.none_]) (P ++ [X3.none_]).length := (h.bd.mono (by simp)).app (by simp [X3.none_]) (by simp [X3.none_])
  have h1 := X3.lay_sound l[k] P.length (P ++ [X3.none_]) hb (by simp)
  have hl1 := h1.len
  have hm1 := h1.mu
  rw [X3.muL_app] at hm1
  simp only [List.length_append, List.length_singleton] at hl1
  have h0 : X3.none_.also.length = 0 := rfl
  rw [h0] at hm1
  have hst := sizeL_take l k hk
  have hsp := size_pos l[k]
  have e := h.eq
  rw [hd] at e
  have htg := X4.mk_tags (l[k] :: l.drop (k + 1)) k P TS h.tl
  have hTS : (X4.mk l 0 [] []).2.2 = (X4.mk (l[k] :: l.drop (k + 1)) k P TS).2.2 := by rw [e]
  refine ⟨⟨?_, ?_, h1.bd, by simp [h.fl], ?_, by have := h.len; omega, by have := h.mu; omega⟩, ?_, ?_⟩
  · rw [e]
    simp only [X4.mk, List.append_assoc, List.singleton_append]
  · have := h.tl; simp; omega
  · intro f hf
    rcases List.mem_append.1 hf with h2 | h2
    · have := h.fb f h2; omega
    · simp at h2; subst h2; exact h1.lt
  · unfold tagF
    rw [hTS, List.getD_eq_getElem?_getD, htg.2.2.1 0 P.length (by simp [X4.ends])]
    simp
  · intro q hq1 hq2
    unfold tagF
    rw [hTS, List.getD_eq_getElem?_getD]
    cases ht : (X4.mk (l[k] :: l.drop (k + 1)) k P TS).2.2[q]? with
    | none => rfl
    | some t =>
      rcases htg.2.2.2 q t (by omega) ht with h2 | ⟨j, hj, _⟩
      · exact h2
      · simp only [X4.ends] at hj
        cases j with
        | zero => simp at hj; omega
        | succ j =>
          simp only [List.getElem?_cons_succ] at hj
          have := X4.ends_ge _ _ q (List.mem_iff_getElem?.2 ⟨j, hj⟩)
          omega
theorem tagF_lt {l : List RX} (hl : l.length ≤ 60) (q : Nat) : tagF l q < 18446744073709551616 := by
  unfold tagF
  rw [List.getD_eq_getElem?_getD]
  have htg := X4.mk_tags l 0 [] [] rfl
  cases ht : (X4.mk l 0 [] []).2.2[q]? with
  | none => decide
  | some t =>
    rcases htg.2.2.2 q t (Nat.zero_le _) ht with h2 | ⟨j, hj, h3⟩
    · subst h2; decide
    · have h4 := (List.getElem?_eq_some_iff.1 hj).1
      rw [X4.ends_len] at h4
      subst h3
      show 2 ^ (0 + j) < 2 ^ 64
      exact Nat.pow_lt_pow_right (by decide) (by omega)
theorem mw_of {l : List RX} (hl : l.length ≤ 60) (ho : okL l) : MW (tagF l) (X4.mk l 0 [] []).2.2 (X4.mk l 0 [] []).2.1 := by
  have htg := X4.mk_tags l 0 [] [] rfl
  refine ⟨htg.1, fun k hk => ?_, fun k => tagF_lt hl k, (X4.mk_sound l 0 [] [] (by intro x hx; cases hx)).1, fun pl hpl => mk_ok l 0 [] [] ho (by intro x hx; cases hx) pl hpl⟩
  unfold tagF
  rw [List.getD_eq_getElem?_getD, List.getElem?_eq_getElem (by rw [htg.1]; exact hk)]
  rfl
end Go.Proofs.YtochckefnjobhaaDoor
