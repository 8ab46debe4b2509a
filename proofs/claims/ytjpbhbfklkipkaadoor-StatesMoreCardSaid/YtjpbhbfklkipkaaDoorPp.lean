/- Productions that are put together, and one that is handed in. -/
import Derived.Laws.AppendOwnNone
import Derived.Test.YtjpbhbfklkipkaaDoorPg
namespace Go.Proofs.YtjpbhbfklkipkaaDoor
open Go Go.RowKit Go.Lib Go.WideShapes Go.ChangeShapes Go.Deep
set_option maxRecDepth 100000

theorem info41 : (Tryd.prog.info? 64).map (fun i => (i.zero, i.size, i.bytes)) = some (some (.agg #[.string ⟨#[]⟩, .int .i64 0, .slice none 0 0, .int .i64 0]), 4, 56) := by kernel_rfl

theorem app_prods {w : World} {o : Oper} {a : Act} {K : Act → World → Prop} {Q : Exit → Act → World → Prop} (s x : Operand)
    (ho : o.op = .call { callee := .builtin .append, args := #[s, x], argTypes := #[25, 25] }) (base : Nat) (v : Value) (n : Nat) (xs : List Value) (hs : a.eval s = v) (hown : w.ownsRow base 64 4 v n xs)
    (A : Option Addr) (m c : Nat) (news : List Value) (hx : a.eval x = .slice A m c) (hl : news.length = m * 4) (hnews : ∀ ad, A = some ad → ∀ j u, news[j]? = some u → w.cell? (ad.add j) = some u) (hA : A = none → m = 0 ∧ c = 0)
    (h1 : ∀ u ∈ news, u.oneCell' = true) (hn : n + m ≤ 1000000) (hbase : base ≤ w.heap.size)
    (h : ∀ v' w', w'.ownsRow base 64 4 v' (n + m) (xs ++ news) → Below base w w' → (∀ k ob, w.heap[k]? = some ob → v.ownBlock ≠ some k → w'.heap[k]? = some ob) → K (a.put o.dst v') w') : Oper.wp Tryd.prog o a w K Q := by
  obtain ⟨i0, hi, hz0, hz1, hz2⟩ := info_parts info41
  cases A with
  | none =>
    obtain ⟨rfl, rfl⟩ := hA rfl
    obtain rfl : news = [] := List.eq_nil_of_length_eq_zero (by simpa using hl)
    have hrun := run_append_owned_none (P := Tryd.prog) (w := w) base 25 o.type 64 i0 4 Tryd.underlying25 hi v n xs hown
    unfold Oper.wp
    simp [execOp, ho, resolve, invoke, builtin, hs, hx, hrun, Result.andThen]
    exact h v w (by simpa using hown) (Below.refl _ _) (fun _ _ hk _ => hk)
  | some ad =>
    refine wp_append_own w s x 25 ho base 64 i0 _ 4 56 Tryd.underlying25 hi hz0 hz1 hz2 rfl (by decide) v n xs hs hown ad m c news hx hl (hnews ad rfl) h1 (by unfold maxLen; omega) (by omega) hbase ?_
    intro v' w' h2 h3 _
    exact h v' w' h2 ((Below.refl _ _).grown h3 hbase fun k hk => (hown.lt k hk).1) (fun k ob hk hne => (h3.block k (Array.getElem?_eq_some_iff.1 hk).1 (fun e => hne e.symm)).trans hk)

section
variable {H : Type} {enc : TypeId × Value → H} {w : World} {base : Nat} {spare : Nat → Bool} {held : Bool}
theorem open_prod {r : Reach} {b0 : Nat} {v : Value} {d : DataW H} {ps : List MemPlace} (hval : Value.okWide Tryd.prog w r b0 64 v) (h : DataW.Trod enc Tryd.prog w base spare held 64 v d ps) :
    ∃ (p : PD) (a : Option Addr) (c : Nat), v = .agg #[.string p.lab, .int .i64 p.sort, .slice a p.rs.length c, .int .i64 p.cls] ∧ IntsAt w (.slice a p.rs.length c) p.rs ∧ p.rs.length ≤ c := by
  obtain ⟨cs, rfl, hsz⟩ := okWide_struct Tryd.underlying64 hval
  obtain ⟨l⟩ := cs
  have hC : Tryd.prog.cellsOf 64 = 4 := by kernel_rfl
  match l, hsz.trans hC with
  | [c0, c1, c2, c3], _ =>
    obtain ⟨fuel, hf⟩ := h
    obtain ⟨xs, n, _, hx, _, hlen, hg⟩ := DataW.trod_struct Tryd.underlying64 hf
    match xs, hlen with
    | [y0, y1, y2, y3], _ =>
      have k0 : DataW.trod enc Tryd.prog w base spare held n 9 [c0] = some y0 := hg 0 _ rfl
      have k1 : DataW.trod enc Tryd.prog w base spare held n 3 [c1] = some y1 := hg 1 _ rfl
      have k2 : DataW.trod enc Tryd.prog w base spare held n 62 [c2] = some y2 := hg 2 _ rfl
      have k3 : DataW.trod enc Tryd.prog w base spare held n 3 [c3] = some y3 := hg 3 _ rfl
      obtain ⟨s, hs, _⟩ := DataW.trod_string Tryd.underlying9 k0
      obtain ⟨z1, hz1, _⟩ := DataW.trod_int Tryd.underlying3 k1
      obtain ⟨rs, a, c, hr1, hr2, hr3, _⟩ := open_syms Tryd.underlying62 Tryd.underlying29 (by kernel_rfl) k2
      obtain ⟨z3, hz3, _⟩ := DataW.trod_int Tryd.underlying3 k3
      simp only [List.cons.injEq, and_true] at hs hz1 hz3
      subst hs hz1 hz3 hr1
      exact ⟨⟨s, z1, rs, z3⟩, a, c, rfl, hr3, hr2⟩
end
end Go.Proofs.YtjpbhbfklkipkaaDoor
