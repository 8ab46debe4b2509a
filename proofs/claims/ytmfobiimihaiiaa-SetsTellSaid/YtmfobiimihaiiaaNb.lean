/- All ten answers on a grammar, whatever it be; and the document's own comparison of two rows of sets. -/
import Derived.Test.YtmfobiimihaiiaaKf
import Derived.Test.YtmfobiimihaiiaaKo
import Derived.Test.YtmfobiimihaiiaaKy
import Derived.Test.YtmfobiimihaiiaaHf
import Derived.Test.YtmfobiimihaiiaaHt3
namespace Go.Proofs.Ytmfobiimihaiiaa
open Go Go.RowKit Go.Lib Go.Joins

theorem REmpty_not {G : GD} {gv tv ov sv pv : Value} {tf : Nat → Nat → Value} {rv : Nat → Value} {w : World} (h : GrAt w gv G tv ov sv pv tf rv) (hV : validB G = false) :
    Calls Try.prog 13 #[gv] w fun e W' => e = .returned (.slice none 0 0) ∧ Below w.heap.size w W' := by
  obtain ⟨W1, B, hW1, hB, c0, c1, c2, c3, c4, hG, hb, hsz⟩ := gr_box h
  subst hB
  have kv := RValid_any hG
  try rw [hV] at kv
  have hgv := h.eq
  subst hgv
  clear h hV hG
  go_enter Try.func13, Try.ntmps13
  go_wp2_with fail
  rw [← hW1]
  clear hW1
  refine kv.mono ?_
  rintro e w1 ⟨rfl, hB1⟩
  go_wp2_with fail
  go_ret
  exact ⟨rfl, hb.trans (hB1.mono hsz)⟩

theorem RLives_not {G : GD} {gv tv ov sv pv : Value} {tf : Nat → Nat → Value} {rv : Nat → Value} {w : World} (h : GrAt w gv G tv ov sv pv tf rv) (hV : validB G = false) :
    Calls Try.prog 15 #[gv] w fun e W' => e = .returned (.slice none 0 0) ∧ Below w.heap.size w W' := by
  obtain ⟨W1, B, hW1, hB, c0, c1, c2, c3, c4, hG, hb, hsz⟩ := gr_box h
  subst hB
  have kv := RValid_any hG
  try rw [hV] at kv
  have hgv := h.eq
  subst hgv
  clear h hV hG
  go_enter Try.func15, Try.ntmps15
  go_wp2_with fail
  rw [← hW1]
  clear hW1
  refine kv.mono ?_
  rintro e w1 ⟨rfl, hB1⟩
  go_wp2_with fail
  go_ret
  exact ⟨rfl, hb.trans (hB1.mono hsz)⟩

theorem RFirst_not {G : GD} {gv tv ov sv pv : Value} {tf : Nat → Nat → Value} {rv : Nat → Value} {w : World} (h : GrAt w gv G tv ov sv pv tf rv) (hV : validB G = false) :
    Calls Try.prog 18 #[gv] w fun e W' => e = .returned (.slice none 0 0) ∧ Below w.heap.size w W' := by
  obtain ⟨W1, B, hW1, hB, c0, c1, c2, c3, c4, hG, hb, hsz⟩ := gr_box h
  subst hB
  have kv := REmpty_not hG hV
  try rw [hV] at kv
  have hgv := h.eq
  subst hgv
  clear h hV hG
  go_enter Try.func18, Try.ntmps18
  go_wp2_with fail
  rw [← hW1]
  clear hW1
  refine kv.mono ?_
  rintro e w1 ⟨rfl, hB1⟩
  go_wp2_with fail
  go_ret
  exact ⟨rfl, hb.trans (hB1.mono hsz)⟩

theorem RFollow_not {G : GD} {gv tv ov sv pv : Value} {tf : Nat → Nat → Value} {rv : Nat → Value} {w : World} (h : GrAt w gv G tv ov sv pv tf rv) (hV : validB G = false) :
    Calls Try.prog 20 #[gv] w fun e W' => e = .returned (.slice none 0 0) ∧ Below w.heap.size w W' := by
  obtain ⟨W1, B, hW1, hB, c0, c1, c2, c3, c4, hG, hb, hsz⟩ := gr_box h
  subst hB
  have kv := RFirst_not hG hV
  try rw [hV] at kv
  have hgv := h.eq
  subst hgv
  clear h hV hG
  go_enter Try.func20, Try.ntmps20
  go_wp2_with fail
  rw [← hW1]
  clear hW1
  refine kv.mono ?_
  rintro e w1 ⟨rfl, hB1⟩
  go_wp2_with fail
  go_ret
  exact ⟨rfl, hb.trans (hB1.mono hsz)⟩

theorem ROf_not {G : GD} {gv tv ov sv pv : Value} {tf : Nat → Nat → Value} {rv : Nat → Value} {w : World} (h : GrAt w gv G tv ov sv pv tf rv) (hV : validB G = false) {a : Option Addr} {n c b : Nat} :
    Calls Try.prog 22 #[gv, .slice a n c, u64 b] w fun e W' => e = .returned (u64 0) ∧ Below w.heap.size w W' := by
  obtain ⟨W1, B, hW1, hB, c0, c1, c2, c3, c4, hG, hb, hsz⟩ := gr_box h
  subst hB
  have kv := RFirst_not hG hV
  try rw [hV] at kv
  have hgv := h.eq
  subst hgv
  clear h hV hG
  go_enter Try.func22, Try.ntmps22
  go_wp2_with fail
  rw [← hW1]
  clear hW1
  refine kv.mono ?_
  rintro e w1 ⟨rfl, hB1⟩
  go_wp2_with fail
  go_ret
  exact ⟨rfl, hb.trans (hB1.mono hsz)⟩

theorem Empty_not {G : GD} {gv tv ov sv pv : Value} {tf : Nat → Nat → Value} {rv : Nat → Value} {w : World} (h : GrAt w gv G tv ov sv pv tf rv) (hV : validB G = false) :
    Calls Try.prog 12 #[gv] w fun e W' => e = .returned (.slice none 0 0) ∧ Below w.heap.size w W' := by
  obtain ⟨W1, B, hW1, hB, c0, c1, c2, c3, c4, hG, hb, hsz⟩ := gr_box h
  subst hB
  have kv := every_not (.func (.func 28) #[] #[]) hG hV (Or.inl rfl)
  have hgv := h.eq
  subst hgv
  clear h hV hG
  go_enter Try.func12, Try.ntmps12
  go_wp2_with fail
  rw [← hW1]
  clear hW1
  refine kv.mono ?_
  rintro e w1 ⟨rfl, hB1⟩
  go_wp2_with fail
  go_ret
  exact ⟨rfl, hb.trans (hB1.mono hsz)⟩

theorem Lives_not {G : GD} {gv tv ov sv pv : Value} {tf : Nat → Nat → Value} {rv : Nat → Value} {w : World} (h : GrAt w gv G tv ov sv pv tf rv) (hV : validB G = false) :
    Calls Try.prog 14 #[gv] w fun e W' => e = .returned (.slice none 0 0) ∧ Below w.heap.size w W' := by
  obtain ⟨W1, B, hW1, hB, c0, c1, c2, c3, c4, hG, hb, hsz⟩ := gr_box h
  subst hB
  have kv := every_not (.func (.func 30) #[] #[]) hG hV (Or.inr rfl)
  have hgv := h.eq
  subst hgv
  clear h hV hG
  go_enter Try.func14, Try.ntmps14
  go_wp2_with fail
  rw [← hW1]
  clear hW1
  refine kv.mono ?_
  rintro e w1 ⟨rfl, hB1⟩
  go_wp2_with fail
  go_ret
  exact ⟨rfl, hb.trans (hB1.mono hsz)⟩

/-- A row of truths, as a value, in a world. -/
def BoolV (W : World) (v : Value) (L : List Bool) : Prop := ∃ A, v = .slice A L.length L.length ∧ (L ≠ [] → ∃ b, A = some ⟨b, 0, none⟩ ∧ W.heap[b]? = some (.cells (L.map Value.bool).toArray 4))
def SetV (W : World) (v : Value) (L : List Nat) : Prop := ∃ A, v = .slice A L.length L.length ∧ (L ≠ [] → ∃ b, A = some ⟨b, 0, none⟩ ∧ W.heap[b]? = some (.cells (sets L) 30))

theorem BoolV.mono {W W' : World} {v : Value} {L : List Bool} (h : BoolV W v L) (hb : Below W.heap.size W W') : BoolV W' v L := by
  obtain ⟨A, e, h⟩ := h
  exact ⟨A, e, fun hn => by obtain ⟨b, e2, h2⟩ := h hn; exact ⟨b, e2, heap_keep hb h2⟩⟩
theorem SetV.mono {W W' : World} {v : Value} {L : List Nat} (h : SetV W v L) (hb : Below W.heap.size W W') : SetV W' v L := by
  obtain ⟨A, e, h⟩ := h
  exact ⟨A, e, fun hn => by obtain ⟨b, e2, h2⟩ := h hn; exact ⟨b, e2, heap_keep hb h2⟩⟩

def TruL (k : Bool) (G : GD) (L : List Bool) : Prop := (validB G = true ∧ Least k G.prods G.sorts.length L) ∨ (validB G = false ∧ L = [])
def FirL (G : GD) (F : List Nat) : Prop := (validB G = true ∧ ∃ E, Least false G.prods G.sorts.length E ∧ LeastS (evF G.terms.length E G.prods) G.sorts.length F) ∨ (validB G = false ∧ F = [])
def FolL (G : GD) (L : List Nat) : Prop := (validB G = true ∧ ∃ E F, Least false G.prods G.sorts.length E ∧ LeastS (evF G.terms.length E G.prods) G.sorts.length F ∧ LeastS (evW G.terms.length E F G.start G.prods) G.sorts.length L) ∨ (validB G = false ∧ L = [])
def OfL (G : GD) (l : List Int) (b : Nat) (x : Nat) : Prop := (validB G = true ∧ ∃ E F, Least false G.prods G.sorts.length E ∧ LeastS (evF G.terms.length E G.prods) G.sorts.length F ∧ x = ofRow G.terms.length E F l b) ∨ (validB G = false ∧ x = 0)

theorem TruL.same {k : Bool} {G : GD} {L M : List Bool} (h : TruL k G L) (h2 : TruL k G M) : L = M := by
  rcases h with ⟨a, h⟩ | ⟨a, h⟩ <;> rcases h2 with ⟨b, h2⟩ | ⟨b, h2⟩
  · exact h.same h2
  · rw [a] at b; cases b
  · rw [a] at b; cases b
  · rw [h, h2]
theorem TruL.len {G : GD} {L M : List Bool} (h : TruL false G L) (h2 : TruL true G M) : L.length = M.length := by
  rcases h with ⟨a, h⟩ | ⟨a, h⟩ <;> rcases h2 with ⟨b, h2⟩ | ⟨b, h2⟩
  · rw [h.length, h2.length]
  · rw [a] at b; cases b
  · rw [a] at b; cases b
  · rw [h, h2]
theorem FirL.same {G : GD} {L M : List Nat} (h : FirL G L) (h2 : FirL G M) : L = M := by
  rcases h with ⟨a, E, e1, h⟩ | ⟨a, h⟩ <;> rcases h2 with ⟨b, E', e2, h2⟩ | ⟨b, h2⟩
  · obtain rfl := e1.same e2
    exact h.sameN h2 (evF_mono _ _ _ _)
  · rw [a] at b; cases b
  · rw [a] at b; cases b
  · rw [h, h2]
theorem FolL.same {G : GD} {L M : List Nat} (h : FolL G L) (h2 : FolL G M) : L = M := by
  rcases h with ⟨a, E, F, e1, f1, h⟩ | ⟨a, h⟩ <;> rcases h2 with ⟨b, E', F', e2, f2, h2⟩ | ⟨b, h2⟩
  · obtain rfl := e1.same e2
    obtain rfl : F = F' := f1.sameN f2 (evF_mono _ _ _ _)
    exact h.sameN h2 (evW_mono _ _ _ _ _ _)
  · rw [a] at b; cases b
  · rw [a] at b; cases b
  · rw [h, h2]
theorem OfL.same {G : GD} {l : List Int} {c x y : Nat} (h : OfL G l c x) (h2 : OfL G l c y) : x = y := by
  rcases h with ⟨a, E, F, e1, f1, h⟩ | ⟨a, h⟩ <;> rcases h2 with ⟨b, E', F', e2, f2, h2⟩ | ⟨b, h2⟩
  · obtain rfl := e1.same e2
    obtain rfl : F = F' := f1.sameN f2 (evF_mono _ _ _ _)
    rw [h, h2]
  · rw [a] at b; cases b
  · rw [a] at b; cases b
  · rw [h, h2]

theorem boolV_nil (W : World) : BoolV W (.slice none 0 0) [] := ⟨none, rfl, fun h => absurd rfl h⟩
theorem setV_nil (W : World) : SetV W (.slice none 0 0) [] := ⟨none, rfl, fun h => absurd rfl h⟩

theorem E12 {G : GD} {gv tv ov sv pv : Value} {tf : Nat → Nat → Value} {rv : Nat → Value} {w : World} (h : GrAt w gv G tv ov sv pv tf rv) : Calls Try.prog 12 #[gv] w fun e W' => ∃ v L, e = .returned v ∧ TruL false G L ∧ BoolV W' v L ∧ Below w.heap.size w W' := by
  cases hV : validB G with
  | true =>
    refine (Empty_any h hV).mono ?_
    rintro e w' ⟨lb, L, rfl, h1, h2, _, h4⟩
    exact ⟨_, L, by rw [← h1.length], Or.inl ⟨hV, h1⟩, ⟨_, rfl, fun _ => ⟨lb, rfl, h2⟩⟩, h4⟩
  | false =>
    refine (Empty_not h hV).mono ?_
    rintro e w' ⟨rfl, hb⟩
    exact ⟨_, [], rfl, Or.inr ⟨hV, rfl⟩, boolV_nil _, hb⟩
theorem E13 {G : GD} {gv tv ov sv pv : Value} {tf : Nat → Nat → Value} {rv : Nat → Value} {w : World} (h : GrAt w gv G tv ov sv pv tf rv) : Calls Try.prog 13 #[gv] w fun e W' => ∃ v L, e = .returned v ∧ TruL false G L ∧ BoolV W' v L ∧ Below w.heap.size w W' := by
  cases hV : validB G with
  | true =>
    refine (REmpty_any h hV).mono ?_
    rintro e w' ⟨lb, L, rfl, h1, h2, _, h4⟩
    exact ⟨_, L, by rw [← h1.length], Or.inl ⟨hV, h1⟩, ⟨_, rfl, fun _ => ⟨lb, rfl, h2⟩⟩, h4⟩
  | false =>
    refine (REmpty_not h hV).mono ?_
    rintro e w' ⟨rfl, hb⟩
    exact ⟨_, [], rfl, Or.inr ⟨hV, rfl⟩, boolV_nil _, hb⟩
theorem L14 {G : GD} {gv tv ov sv pv : Value} {tf : Nat → Nat → Value} {rv : Nat → Value} {w : World} (h : GrAt w gv G tv ov sv pv tf rv) : Calls Try.prog 14 #[gv] w fun e W' => ∃ v L, e = .returned v ∧ TruL true G L ∧ BoolV W' v L ∧ Below w.heap.size w W' := by
  cases hV : validB G with
  | true =>
    refine (Lives_any h hV).mono ?_
    rintro e w' ⟨lb, L, rfl, h1, h2, _, h4⟩
    exact ⟨_, L, by rw [← h1.length], Or.inl ⟨hV, h1⟩, ⟨_, rfl, fun _ => ⟨lb, rfl, h2⟩⟩, h4⟩
  | false =>
    refine (Lives_not h hV).mono ?_
    rintro e w' ⟨rfl, hb⟩
    exact ⟨_, [], rfl, Or.inr ⟨hV, rfl⟩, boolV_nil _, hb⟩
theorem L15 {G : GD} {gv tv ov sv pv : Value} {tf : Nat → Nat → Value} {rv : Nat → Value} {w : World} (h : GrAt w gv G tv ov sv pv tf rv) : Calls Try.prog 15 #[gv] w fun e W' => ∃ v L, e = .returned v ∧ TruL true G L ∧ BoolV W' v L ∧ Below w.heap.size w W' := by
  cases hV : validB G with
  | true =>
    refine (RLives_any h hV).mono ?_
    rintro e w' ⟨lb, L, rfl, h1, h2, _, h4⟩
    exact ⟨_, L, by rw [← h1.length], Or.inl ⟨hV, h1⟩, ⟨_, rfl, fun _ => ⟨lb, rfl, h2⟩⟩, h4⟩
  | false =>
    refine (RLives_not h hV).mono ?_
    rintro e w' ⟨rfl, hb⟩
    exact ⟨_, [], rfl, Or.inr ⟨hV, rfl⟩, boolV_nil _, hb⟩
theorem F17 {G : GD} {gv tv ov sv pv : Value} {tf : Nat → Nat → Value} {rv : Nat → Value} {w : World} (h : GrAt w gv G tv ov sv pv tf rv) : Calls Try.prog 17 #[gv] w fun e W' => ∃ v L, e = .returned v ∧ FirL G L ∧ SetV W' v L ∧ Below w.heap.size w W' := by
  cases hV : validB G with
  | true =>
    refine (First_any h hV).mono ?_
    rintro e w' ⟨lb, E, L, rfl, h0, h1, h2, _, h4⟩
    exact ⟨_, L, by rw [← h1.length], Or.inl ⟨hV, E, h0, h1⟩, ⟨_, rfl, fun _ => ⟨lb, rfl, h2⟩⟩, h4⟩
  | false =>
    refine (First_not h hV).mono ?_
    rintro e w' ⟨rfl, hb⟩
    exact ⟨_, [], rfl, Or.inr ⟨hV, rfl⟩, setV_nil _, hb⟩
theorem F18 {G : GD} {gv tv ov sv pv : Value} {tf : Nat → Nat → Value} {rv : Nat → Value} {w : World} (h : GrAt w gv G tv ov sv pv tf rv) : Calls Try.prog 18 #[gv] w fun e W' => ∃ v L, e = .returned v ∧ FirL G L ∧ SetV W' v L ∧ Below w.heap.size w W' := by
  cases hV : validB G with
  | true =>
    refine (RFirst_any h hV).mono ?_
    rintro e w' ⟨lb, rfl, E, L, h0, h1, h2, _, h4⟩
    exact ⟨_, L, by rw [← h1.length], Or.inl ⟨hV, E, h0, h1⟩, ⟨_, rfl, fun _ => ⟨lb, rfl, h2⟩⟩, h4⟩
  | false =>
    refine (RFirst_not h hV).mono ?_
    rintro e w' ⟨rfl, hb⟩
    exact ⟨_, [], rfl, Or.inr ⟨hV, rfl⟩, setV_nil _, hb⟩
theorem W19 {G : GD} {gv tv ov sv pv : Value} {tf : Nat → Nat → Value} {rv : Nat → Value} {w : World} (h : GrAt w gv G tv ov sv pv tf rv) : Calls Try.prog 19 #[gv] w fun e W' => ∃ v L, e = .returned v ∧ FolL G L ∧ SetV W' v L ∧ Below w.heap.size w W' := by
  cases hV : validB G with
  | true =>
    refine (Follow_any h hV).mono ?_
    rintro e w' ⟨lb, E, F, L, rfl, h0, h1, h2, h3, _, h4⟩
    exact ⟨_, L, by rw [← h2.length], Or.inl ⟨hV, E, F, h0, h1, h2⟩, ⟨_, rfl, fun _ => ⟨lb, rfl, h3⟩⟩, h4⟩
  | false =>
    refine (Follow_not h hV).mono ?_
    rintro e w' ⟨rfl, hb⟩
    exact ⟨_, [], rfl, Or.inr ⟨hV, rfl⟩, setV_nil _, hb⟩
theorem W20 {G : GD} {gv tv ov sv pv : Value} {tf : Nat → Nat → Value} {rv : Nat → Value} {w : World} (h : GrAt w gv G tv ov sv pv tf rv) : Calls Try.prog 20 #[gv] w fun e W' => ∃ v L, e = .returned v ∧ FolL G L ∧ SetV W' v L ∧ Below w.heap.size w W' := by
  cases hV : validB G with
  | true =>
    refine (RFollow_any h hV).mono ?_
    rintro e w' ⟨lb, rfl, E, F, L, h0, h1, h2, h3, _, h4⟩
    exact ⟨_, L, by rw [← h2.length], Or.inl ⟨hV, E, F, h0, h1, h2⟩, ⟨_, rfl, fun _ => ⟨lb, rfl, h3⟩⟩, h4⟩
  | false =>
    refine (RFollow_not h hV).mono ?_
    rintro e w' ⟨rfl, hb⟩
    exact ⟨_, [], rfl, Or.inr ⟨hV, rfl⟩, setV_nil _, hb⟩
theorem O21 {G : GD} {gv tv ov sv pv : Value} {tf : Nat → Nat → Value} {rv : Nat → Value} {w : World} (h : GrAt w gv G tv ov sv pv tf rv) {l : List Int} {a : Option Addr} {n c : Nat} {b : Nat} (hl : IntsAt w (.slice a n c) l) (hb0 : b < top) : Calls Try.prog 21 #[gv, .slice a n c, u64 b] w fun e W' => ∃ x, e = .returned (u64 x) ∧ OfL G l b x ∧ Below w.heap.size w W' := by
  cases hV : validB G with
  | true =>
    refine (Of_any h hV hl hb0).mono ?_
    rintro e w' ⟨E, F, rfl, h0, h1, h4⟩
    exact ⟨_, rfl, Or.inl ⟨hV, E, F, h0, h1, rfl⟩, h4⟩
  | false =>
    refine (Of_not h hV).mono ?_
    rintro e w' ⟨rfl, hb⟩
    exact ⟨0, rfl, Or.inr ⟨hV, rfl⟩, hb⟩
theorem O22 {G : GD} {gv tv ov sv pv : Value} {tf : Nat → Nat → Value} {rv : Nat → Value} {w : World} (h : GrAt w gv G tv ov sv pv tf rv) {l : List Int} {a : Option Addr} {n c : Nat} {b : Nat} (hl : IntsAt w (.slice a n c) l) (hb0 : b < top) : Calls Try.prog 22 #[gv, .slice a n c, u64 b] w fun e W' => ∃ x, e = .returned (u64 x) ∧ OfL G l b x ∧ Below w.heap.size w W' := by
  cases hV : validB G with
  | true =>
    refine (RrowOf_any h hV hl hb0).mono ?_
    rintro e w' ⟨E, F, rfl, h0, h1, h4⟩
    exact ⟨_, rfl, Or.inl ⟨hV, E, F, h0, h1, rfl⟩, h4⟩
  | false =>
    refine (ROf_not h hV).mono ?_
    rintro e w' ⟨rfl, hb⟩
    exact ⟨0, rfl, Or.inr ⟨hV, rfl⟩, hb⟩

set_option maxRecDepth 100000 in
/-- Two rows of the same sets are the same. -/
theorem RSame_any {L : List Nat} {v v' : Value} {w : World} (h : SetV w v L) (h' : SetV w v' L) (hL : L.length ≤ 1000000) : Calls Try.prog 16 #[v, v'] w fun e W' => e = .returned (.bool true) ∧ ∃ n, W' = w.drewN n := by
  obtain ⟨A, rfl, hA⟩ := h
  obtain ⟨A', rfl, hA'⟩ := h'
  have HA := hid hA
  have HA' := hid hA'
  clear hA hA'
  generalize hn : L.length = n at *
  have HN := hid hn
  clear hn
  go_enter Try.func16, Try.ntmps16
  go_wp2_with fail
  go_loopw [5] (fun i wr => ∃ j : Nat, j ≤ n ∧ i = .int .i64 (j : Int) ∧ ∃ k, wr = w.drewN k) (fun i _ => n - (RowKit.intOf i).toNat)
  case atStart => exact ⟨0, by omega, rfl, 0, rfl⟩
  case round =>
    obtain ⟨j, hj, rfl, k, hk⟩ := hrel
    by_cases hlt : j < n
    · have hne : L ≠ [] := by intro e; have := HN.out; rw [e] at this; simp at this; omega
      obtain ⟨b, rfl, hb⟩ := HA.out hne
      obtain ⟨b', rfl, hb'⟩ := HA'.out hne
      have hbr : Below w.heap.size w wr := by rw [hk]; exact below_drewN (Below.refl _ _) k
      have x1 := cell_below hbr (cell_sets hb (i := j) (by have := HN.out; omega))
      have x2 := cell_below hbr (cell_sets hb' (i := j) (by have := HN.out; omega))
      have hk2 := hid hk
      have j0 : (0 : Int) ≤ (j : Int) := by omega
      have j1 : (j : Int) < (n : Int) := by omega
      clear hk hb hb' hbr
      generalize L.getD j 0 = x at *
      go_wp2_with fail
      go_quiet (fail)
      go_wp2_with fail
      refine ⟨⟨j + 1, by omega, by go_num, k + nq, by rw [hk2.out]; simp⟩, by simp [RowKit.intOf]; omega⟩
    · have HK := hid hk
      clear hk
      go_wp2_with fail
      go_ret
      exact ⟨rfl, k, HK.out⟩

end Go.Proofs.Ytmfobiimihaiiaa
