/- Growing lists of sets: what a closure tells is more is joined to its place. -/
import Derived.Test.YtmfobiimihaiiaaHt
namespace Go.Proofs.Ytmfobiimihaiiaa
open Go Go.RowKit Go.Lib Go.Joins

/-- What lies where a list of sets grows. -/
structure GStS (W : World) (lb Bl Bj Bc n : Nat) (L : List Nat) (c : Bool) : Prop where
  list : W.heap[lb]? = some (.cells (sets L) 30)
  var : W.heap[Bl]? = some (.cells #[.slice (some ⟨lb, 0, none⟩) n n] 36)
  join : W.heap[Bj]? = some (.cells #[.func (.func 35) #[] #[]] 57)
  chg : W.heap[Bc]? = some (.cells #[.bool c] 4)
  len : L.length = n
  ne : lb ≠ Bc

theorem GStS.keep {W W' : World} {lb Bl Bj Bc n : Nat} {L : List Nat} {c : Bool} (h : GStS W lb Bl Bj Bc n L c) (hb : Below W.heap.size W W') : GStS W' lb Bl Bj Bc n L c :=
  ⟨heap_keep hb h.list, heap_keep hb h.var, heap_keep hb h.join, heap_keep hb h.chg, h.len, h.ne⟩

theorem union_is (a b : Nat) (ha : a < top) (hb : b < top) (w : World) : Calls Try.prog 35 #[u64 a, u64 b] w fun e w' => e = .returned (u64 (a ||| b)) ∧ w' = w :=
  (Union_any a b ha hb w).mono fun _ _ ⟨h1, h2⟩ => ⟨h1, h2.symm⟩

set_option maxRecDepth 100000 in
set_option maxHeartbeats 1000000 in
theorem moreS_any {W : World} {lb Bl Bj Bc n : Nat} {L : List Nat} {c : Bool} (h : GStS W lb Bl Bj Bc n L c) (i : Nat) (hi : i < n) (x : Nat) (hx : x < top) (hL : ∀ x ∈ L, x < top) :
    Calls Try.prog 54 #[.int .i64 (i : Int), u64 x, .pointer (some ⟨Bj, 0, none⟩), .pointer (some ⟨Bl, 0, none⟩), .pointer (some ⟨Bc, 0, none⟩)] W fun e W' =>
      (∃ v, e = .returned v) ∧ GStS W' lb Bl Bj Bc n (L.set i (L.getD i 0 ||| x)) (c || ((L.getD i 0 ||| x) != L.getD i 0)) ∧ Far (fun k => k = lb ∨ k = Bc) W W' := by
  have hlen := h.len
  have c1 := cell_sets h.list (i := i) (by omega)
  have c2 := cell_of_block h.var 0
  have c3 := cell_of_block h.join 0
  have c4 := cell_of_block h.chg 0
  have f1 := unfrozen_of_block h.list i
  have f4 := unfrozen_of_block h.chg 0
  simp only [List.getElem?_toArray, List.getElem?_cons_zero] at c2 c3 c4
  have hne := h.ne
  have fs : ∀ m v, ((W.drewN m).setCell { block := lb, off := i } v).cell? { block := Bc, off := 0 } = some (.bool c) := fun m v =>
    (World.cell?_setCell_far _ _ _ _ hne).trans c4
  have hyt := getD_lt hL i
  have ke := hid fun w => union_is (L.getD i 0) x hyt hx w
  have hset0 : L.set i (L.getD i 0) = L := setS_same
  generalize hy : L.getD i 0 = y at *
  generalize hz : y ||| x = z at *
  have i0 : (0 : Int) ≤ (i : Int) := by omega
  have i1 : (i : Int) < (n : Int) := by omega
  have H := hid h
  have HL := hid hL
  clear h hL hz
  by_cases hxy : z = y
  · subst hxy
    rw [hset0, bne_self_eq_false, Bool.or_false]
    go_enter Try.func54, Try.ntmps54
    go_wp2_with fail
    go_quiet ((go_at_call 35; exact Calls.quiet_of_same (ke.out _)))
    go_wp2
    go_end0
    exact ⟨⟨_, rfl⟩, ⟨H.out.list, H.out.var, H.out.join, H.out.chg, H.out.len, H.out.ne⟩, (Far.refl _ _).drewN nq⟩
  · have hb1 : ((z : Int) != (y : Int)) = true := by rw [bne_iff_ne]; omega
    rw [bne_iff_ne.2 hxy, Bool.or_true]
    go_enter Try.func54, Try.ntmps54
    go_wp2_with fail
    go_quiet ((go_at_call 35; exact Calls.quiet_of_same (ke.out _)))
    go_wp2
    go_end0
    have hst : GStS (((W.drewN nq).setCell { block := lb, off := i } (u64 z)).setCell { block := Bc, off := 0 } (Value.bool true)) lb Bl Bj Bc n (L.set i z) true := by
      obtain ⟨h1, h2, h3, h4, h5, h6⟩ := H.out
      have hl : ((W.drewN nq).setCell { block := lb, off := i } (u64 z)).heap[lb]? = some (.cells (sets (L.set i z)) 30) := by
        have := block_setCell (w := W.drewN nq) (i := i) h1 (u64 z)
        rw [this]
        simp [sets, List.map_set]
      have far : ∀ k, k ≠ lb → k ≠ Bc → (((W.drewN nq).setCell { block := lb, off := i } (u64 z)).setCell { block := Bc, off := 0 } (Value.bool true)).heap[k]? = W.heap[k]? := fun k e1 e2 =>
        (Below.heap_setCell _ _ _ _ e2).trans (Below.heap_setCell _ _ _ _ e1)
      have n1 : Bl ≠ lb := fun e => by rw [e, h1] at h2; simp at h2
      have n2 : Bl ≠ Bc := fun e => by rw [e, h4] at h2; simp at h2
      have n3 : Bj ≠ lb := fun e => by rw [e, h1] at h3; simp at h3
      have n4 : Bj ≠ Bc := fun e => by rw [e, h4] at h3; simp at h3
      refine ⟨?_, ?_, ?_, ?_, by simp [h5], h6⟩
      · exact (Below.heap_setCell _ _ _ _ h6).trans hl
      · exact (far _ n1 n2).trans h2
      · exact (far _ n3 n4).trans h3
      · have h4' : ((W.drewN nq).setCell { block := lb, off := i } (u64 z)).heap[Bc]? = some (.cells #[.bool c] 4) := (Below.heap_setCell _ _ _ _ (Ne.symm h6)).trans h4
        have := block_setCell (i := 0) h4' (Value.bool true)
        rw [this]
        simp
    exact ⟨⟨_, rfl⟩, hst, (((Far.refl _ _).drewN nq).set (.inl rfl) _).set (.inr rfl) _⟩

end Go.Proofs.Ytmfobiimihaiiaa
