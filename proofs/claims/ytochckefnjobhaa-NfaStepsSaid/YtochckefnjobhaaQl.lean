/- Rows that are appended whole. -/
import Derived.Test.YtochckefnjobhaaXw
namespace Go.Proofs.Ytochckefnjobhaa
open Go Go.RowKit Go.Lib
open X3 (RX Pl)
set_option linter.unusedVariables false

/-- A row that is read: none, or one that lies somewhere. -/
def Src (w : World) (sv : Value) (m : Nat) (news : List Value) : Prop :=
  (sv = .slice none 0 0 ∧ m = 0 ∧ news = []) ∨ ∃ ad c, sv = .slice (some ad) m c ∧ ∀ j u, news[j]? = some u → w.cell? (ad.add j) = some u
theorem owns_src {w : World} {B size n : Nat} {e : TypeId} {v : Value} {xs : List Value} (h : w.ownsRow B e size v n xs) : Src w v n xs := by
  rcases h.2 with ⟨rfl, h0⟩ | ⟨g, cap, cur, rfl, _⟩
  · subst h0
    exact .inl ⟨rfl, rfl, List.eq_nil_of_length_eq_zero (by simpa using h.1)⟩
  · exact .inr ⟨_, _, rfl, h.cells rfl⟩

section
variable {P : Program}
theorem append_none (w : World) (base : Nat) (t ty e : TypeId) (i : TypeInfo) (size : Nat) (ht : P.underlying t = some (.slice e)) (hi : P.info? e = some i) (v : Value) (n : Nat) (xs : List Value) (hown : w.ownsRow base e size v n xs) :
    (Builtin.append_ #[t, t] ty #[v, .slice none 0 0]).run P w = .ok v w := by
  rcases hown.2 with ⟨rfl, h0⟩ | ⟨g, cap, cur, rfl, _, _, hnc, _⟩
  · simp [Builtin.append_, run_underlying ht, sizeOf, typeInfo, hi, Builtin.lenOf, Builtin.firstCells]
  · simp [Builtin.append_, run_underlying ht, sizeOf, typeInfo, hi, Builtin.lenOf, Builtin.firstCells, hnc, storeCells]

/-- A row onto a row of the call's own, whether it is none or lies somewhere. -/
theorem wpList_append_src {w : World} {ops : Array Oper} {rest : List Oper} {o : Oper} {a : Act} {Q : Exit → Act → World → Prop} (hgd : o.guard = none) (s x : Operand) (t : TypeId)
    (ho : o.op = .call { callee := .builtin .append, args := #[s, x], argTypes := #[t, t] })
    (base : Nat) (e : TypeId) (i : TypeInfo) (z : Value) (size bytes : Nat) (ht : P.underlying t = some (.slice e)) (hi : P.info? e = some i) (hz : i.zero = some z)
    (hsize : i.size = size) (hby : i.bytes = bytes) (hzs : z.cells.size = size) (hsz : 0 < size)
    (v : Value) (n : Nat) (xs : List Value) (hs : a.eval s = v) (hown : w.ownsRow base e size v n xs)
    (sv : Value) (m : Nat) (news : List Value) (hx : a.eval x = sv) (hsrc : Src w sv m news) (hl : news.length = m * size) (h1 : ∀ u ∈ news, u.oneCell' = true)
    (h63 : n + m ≤ maxLen) (hbytes : (n + m) * bytes ≤ 140737488355328) (hbase : base ≤ w.heap.size)
    (h : ∀ v' w', w'.ownsRow base e size v' (n + m) (xs ++ news) → w.grownBy w' v.ownBlock → (v'.ownBlock = v.ownBlock ∨ v'.ownBlock = some w.heap.size) → wpList P ops Q rest (a.put o.dst v') w') :
    wpList P ops Q (o :: rest) a w := by
  rcases hsrc with ⟨rfl, rfl, rfl⟩ | ⟨ad, c, rfl, hnews⟩
  · refine wpList_plain hgd fun K hK => ?_
    have hr := append_none (P := P) w base t o.type e i size ht hi v n xs hown
    unfold Oper.wp execOp
    simp only [ho, resolve, invoke, builtin, Sem.run_bind, Sem.run_pure, Result.andThen_ok, List.map_toArray, List.map_cons, List.map_nil, hs, hx, hr]
    exact hK _ _ (h v w (by simpa using hown) (World.grownBy.refl w _) (.inl rfl))
  · exact wpList_append_own_at w hgd s x t ho base e i z size bytes ht hi hz hsize hby hzs hsz v n xs hs hown ad m c news hx hl hnews h1 h63 hbytes hbase fun v' w' h2 h3 _ h5 => h v' w' h2 h3 h5
end

theorem Reps.one {S : Nat → Prop} {w : World} {L : List RX} {VS : List Value} (h : Reps S w L VS) : ∀ u ∈ VS.flatMap ncs, u.oneCell' = true := by
  induction h with
  | nil => intro u hu; cases hu
  | cons r l v vs h h2 ih =>
    intro u hu
    rw [List.flatMap_cons] at hu
    rcases List.mem_append.1 hu with h3 | h3
    · obtain ⟨kd, x, y, z, u', o, n, c, rfl⟩ := h.shape
      simp [ncs] at h3
      rcases h3 with rfl | rfl | rfl | rfl | rfl | rfl <;> rfl
    · exact ih u h3
theorem Reps.long {S : Nat → Prop} {w : World} {L : List RX} {VS : List Value} (h : Reps S w L VS) : (VS.flatMap ncs).length = L.length * 6 := by
  induction h with
  | nil => rfl
  | cons r l v vs h h2 ih =>
    obtain ⟨kd, x, y, z, u', o, n, c, rfl⟩ := h.shape
    rw [List.flatMap_cons, List.length_append, ih, List.length_cons]
    simp [ncs]; omega
theorem Reps.join {S : Nat → Prop} {w : World} {L L2 : List RX} {VS VS2 : List Value} (h : Reps S w L VS) (h2 : Reps S w L2 VS2) : Reps S w (L ++ L2) (VS ++ VS2) := by
  induction h with
  | nil => exact h2
  | cons r l v vs h h3 ih => exact .cons r _ v _ h ih
/-- A row grows by a row that lies elsewhere. -/
theorem row_join {B : Nat} {w3 w4 : World} {v v' : Value} {L L2 : List RX} {VS VS2 : List Value}
    (h1 : Reps (fun x => B ≤ x ∧ some x ≠ v.ownBlock) w3 L VS)
    (h2 : Reps (fun x => B ≤ x ∧ some x ≠ v.ownBlock) w3 L2 VS2) (hown : w4.ownsRow B 28 6 v' (L.length + L2.length) (VS.flatMap ncs ++ VS2.flatMap ncs))
    (hgrow : w3.grownBy w4 v.ownBlock) (hat : v'.ownBlock = v.ownBlock ∨ v'.ownBlock = some w3.heap.size) : RowOf B w4 v' (L ++ L2) := by
  refine ⟨VS ++ VS2, ?_, ?_⟩
  · have h3 := h1.join h2
    have h3' : Reps (fun x => (B ≤ x ∧ some x ≠ v.ownBlock) ∧ x < w3.heap.size) w3 (L ++ L2) (VS ++ VS2) := h3.monoS (fun g hg hl => ⟨hg, hl⟩)
    have h4 : Reps (fun x => (B ≤ x ∧ some x ≠ v.ownBlock) ∧ x < w3.heap.size) w4 (L ++ L2) (VS ++ VS2) := h3'.kept ⟨hgrow.size, fun g hg hl => hgrow.block g hl hg.1.2⟩
    exact h4.monoS (fun g hg _ => ⟨hg.1.1, by
      rcases hat with e | e
      · rw [e]; exact hg.1.2
      · rw [e]; intro e2; have := Option.some.inj e2; omega⟩)
  · rw [List.flatMap_append, List.length_append]
    exact hown
end Go.Proofs.Ytochckefnjobhaa
