/- The document's rows of items: in order, each once. -/
import Derived.Test.YtjpbhbfklkipkaaDoorRe
namespace Go.Proofs.YtjpbhbfklkipkaaDoor
open Go Go.RowKit Go.Lib
open X14 (It Less Rise lessB AtX RisX)
set_option linter.unusedVariables false
set_option linter.unusedSimpArgs false
/-- What comes back owns a row of items. -/
def RowP (L : List It) (w : World) (e : Ending) (w' : World) : Prop := ∃ rv, e = .returned rv ∧ w'.ownsRow w.heap.size 39 2 rv L.length (icells L) ∧ Below w.heap.size w w'
def RRisingP (l : List It) (w : World) (e : Ending) (w' : World) : Prop := ∃ L, Rise L ∧ (∀ x, x ∈ L ↔ x ∈ l) ∧ L.length ≤ l.length ∧ RowP L w e w'
set_option maxRecDepth 100000 in
set_option maxHeartbeats 8000000 in
theorem RRising_any {w : World} {v : Value} {l : List It} (h : ItemsAt w v l) (hl : l.length ≤ 100000) :
    Calls Tryd.prog 31 #[v] w (RRisingP l w) := by
  obtain ⟨vo, vc, rfl, hvn⟩ := h.len
  obtain ⟨n, hln⟩ : ∃ n, l.length = n := ⟨_, rfl⟩
  have HLN := hid hln
  have HL := hid h
  rw [hln] at HL hvn hl ⊢
  clear h hln
  go_enter Tryd.func31, Tryd.ntmps31
  go_wp2_with fail
  go_loopw [3, 4, 5, 6] (fun t3 t4 t5 t6 wr => ∃ (m : Nat) (O : List It), m ≤ n ∧ t4 = .int .i64 (m : Int) ∧ Hid (RisX l O m) ∧ Hid (wr.ownsRow w.heap.size 39 2 t3 O.length (icells O)) ∧ Hid (Below w.heap.size w wr)) (fun _ t4 _ _ _ => n - (RowKit.intOf t4).toNat)
  case atStart => exact ⟨0, [], Nat.zero_le _, rfl, hid (RisX.start l), hid (World.ownsRow_nil _ _ _ _), hid (Below.refl _ _)⟩
  case round =>
    obtain ⟨m, O, hm, rfl, HX, HO, HB⟩ := hrel
    have hszr := HB.out.size
    by_cases hlt : m < n
    · have t1 : (m : Int) < (n : Int) := by omega
      have hOm : O.length ≤ 100000 := by have := HX.out.len; omega
      obtain ⟨oo, oc, rfl⟩ := own_shape HO.out
      generalize hwo : wr = wo at *
      clear hwo
      go_wp2_with fail
      go_loopw [5, 6] (fun t5 t6 wr => ∃ (i : Nat) (a : Int), i ≤ n ∧ t6 = .int .i64 (i : Int) ∧ t5 = .int .i64 a ∧ Hid (AtX O l i a) ∧ Hid (Below wo.heap.size wo wr)) (fun _ t6 _ => n - (RowKit.intOf t6).toNat)
      case atStart => exact ⟨0, -1, Nat.zero_le _, rfl, rfl, hid (AtX.start O l), hid (Below.refl _ _)⟩
      case round =>
        obtain ⟨i, a, hi, rfl, rfl, HA, HBo⟩ := hrel
        have hszo := HBo.out.size
        by_cases hlti : i < n
        · have t3 : (i : Int) < (n : Int) := by omega
          have t4 : (0 : Int) ≤ (i : Int) := by omega
          obtain ⟨x, hx⟩ : ∃ x, l[i]? = some x := ⟨_, List.getElem?_eq_getElem (by rw [HLN.out]; exact hlti)⟩
          have HXX := hid hx
          obtain ⟨lb, lo, rfl, q0, q1⟩ := HL.out.at_ hx
          have HBw := hid (HB.out.trans (HBo.out.mono hszr))
          have HQ0 : Hid (∀ w', Below wr.heap.size wr w' → w'.cell? ⟨lb, lo + i * 2, none⟩ = some (.int .i64 x.1)) := hid fun w' hC => cell_below hC (cell_below HBw.out q0)
          have HQ1 : Hid (∀ w', Below wr.heap.size wr w' → w'.cell? ⟨lb, lo + i * 2 + 1, none⟩ = some (.int .i64 x.2)) := hid fun w' hC => cell_below hC (cell_below HBw.out q1)
          obtain ⟨hb, hhb⟩ : ∃ hb, decide (x ∈ O) = hb := ⟨_, rfl⟩
          have hKH : ∀ w', Below wr.heap.size wr w' → Calls Tryd.prog 30 #[.slice oo O.length oc, .agg #[.int .i64 x.1, .int .i64 x.2]] w' fun e w'' => e = .returned (.bool hb) ∧ Below w'.heap.size w' w'' := fun w' hC => by
            have h1 := own_below (own_below HO.out HBo.out) hC
            have h2 := has_any (own_items h1 (by omega)) x
            rw [hhb] at h2
            exact h2
          have KH := hid hKH
          clear hKH hx q0 q1
          cases hb
          case true =>
            have HA2 := hid (HA.out.skip HXX.out (of_decide_eq_true hhb))
            clear hhb
            go_wp2_with fail
            refine wp_region_below (by kernel_rfl) (by kernel_rfl) ?_
            with_reducible refine BigFrame.wpQuiet_want (by kernel_rfl) (fun K hK => ?_)
            apply Exists.intro
            refine ⟨fun w' hC => ?_, hK _ ?_⟩
            · unfold Oper.quietAt
              go_simp
              first | with_reducible rfl | done
            clear hK K
            try simp only [Act.put, List.setIfInBounds_toArray, List.set_cons_zero, List.set_cons_succ]
            with_reducible refine BigFrame.wpQuiet_want (by kernel_rfl) (fun K hK => ?_)
            apply Exists.intro
            refine ⟨fun w' hC => ?_, hK _ ?_⟩
            · unfold Oper.quietAt
              go_simp
              first | with_reducible rfl | done
            clear hK K
            try simp only [Act.put, List.setIfInBounds_toArray, List.set_cons_zero, List.set_cons_succ]
            with_reducible refine BigFrame.wpQuiet_want (by kernel_rfl) (fun K hK => ?_)
            apply Exists.intro
            refine ⟨fun w' hC => ?_, hK _ ?_⟩
            · unfold Oper.quietAt
              go_simp
              first | with_reducible rfl | done
            clear hK K
            try simp only [Act.put, List.setIfInBounds_toArray, List.set_cons_zero, List.set_cons_succ]
            with_reducible refine BigFrame.wpQuiet_want (by kernel_rfl) (fun K hK => ?_)
            apply Exists.intro
            refine ⟨fun w' hC => ?_, hK _ ?_⟩
            · unfold Oper.quietAt
              go_simp
              first | with_reducible rfl | done
            clear hK K
            try simp only [Act.put, List.setIfInBounds_toArray, List.set_cons_zero, List.set_cons_succ]
            with_reducible refine BigFrame.wpQuiet_want (by kernel_rfl) (fun K hK => ?_)
            apply Exists.intro
            refine ⟨fun w' hC => ?_, hK _ ?_⟩
            · have f0' := HQ0.out w' hC
              have f1' := HQ1.out w' hC
              unfold Oper.quietAt
              go_simp
              first | with_reducible rfl | done
            clear hK K
            try simp only [Act.put, List.setIfInBounds_toArray, List.set_cons_zero, List.set_cons_succ]
            with_reducible refine BigFrame.wpQuiet_want (by kernel_rfl) (fun K hK => ?_)
            apply Exists.intro
            refine ⟨fun w' hC => ?_, hK _ ?_⟩
            · unfold Oper.quietAt
              go_simp
              first
                | with_reducible exact below_call hC (Nat.le_refl _) (KH.out w' hC)
            clear hK K
            try simp only [Act.put, List.setIfInBounds_toArray, List.set_cons_zero, List.set_cons_succ]
            with_reducible refine BigFrame.wpQuiet_want (by kernel_rfl) (fun K hK => ?_)
            apply Exists.intro
            refine ⟨fun w' hC => ?_, hK _ ?_⟩
            · unfold Oper.quietAt
              go_simp
              first | with_reducible rfl | done
            clear hK K
            try simp only [Act.put, List.setIfInBounds_toArray, List.set_cons_zero, List.set_cons_succ]
            with_reducible refine BigFrame.wpQuiet_want (by kernel_rfl) (fun K hK => ?_)
            apply Exists.intro
            refine ⟨fun w' hC => ?_, hK _ ?_⟩
            · unfold Oper.quietAt
              go_simp
              first | with_reducible rfl | done
            clear hK K
            try simp only [Act.put, List.setIfInBounds_toArray, List.set_cons_zero, List.set_cons_succ]
            with_reducible refine BigFrame.wpQuiet_skip (by kernel_rfl) ?_
            try simp only [Act.put, List.setIfInBounds_toArray, List.set_cons_zero, List.set_cons_succ]
            with_reducible refine BigFrame.wpQuiet_skip (by kernel_rfl) ?_
            try simp only [Act.put, List.setIfInBounds_toArray, List.set_cons_zero, List.set_cons_succ]
            with_reducible refine BigFrame.wpQuiet_skip (by kernel_rfl) ?_
            try simp only [Act.put, List.setIfInBounds_toArray, List.set_cons_zero, List.set_cons_succ]
            with_reducible refine BigFrame.wpQuiet_skip (by kernel_rfl) ?_
            try simp only [Act.put, List.setIfInBounds_toArray, List.set_cons_zero, List.set_cons_succ]
            with_reducible refine BigFrame.wpQuiet_skip (by kernel_rfl) ?_
            try simp only [Act.put, List.setIfInBounds_toArray, List.set_cons_zero, List.set_cons_succ]
            with_reducible refine BigFrame.wpQuiet_skip (by kernel_rfl) ?_
            try simp only [Act.put, List.setIfInBounds_toArray, List.set_cons_zero, List.set_cons_succ]
            with_reducible refine BigFrame.wpQuiet_skip (by kernel_rfl) ?_
            try simp only [Act.put, List.setIfInBounds_toArray, List.set_cons_zero, List.set_cons_succ]
            with_reducible refine BigFrame.wpQuiet_skip (by kernel_rfl) ?_
            try simp only [Act.put, List.setIfInBounds_toArray, List.set_cons_zero, List.set_cons_succ]
            with_reducible refine BigFrame.wpQuiet_skip (by kernel_rfl) ?_
            try simp only [Act.put, List.setIfInBounds_toArray, List.set_cons_zero, List.set_cons_succ]
            with_reducible refine BigFrame.wpQuiet_skip (by kernel_rfl) ?_
            try simp only [Act.put, List.setIfInBounds_toArray, List.set_cons_zero, List.set_cons_succ]
            with_reducible refine BigFrame.wpQuiet_skip (by kernel_rfl) ?_
            try simp only [Act.put, List.setIfInBounds_toArray, List.set_cons_zero, List.set_cons_succ]
            with_reducible refine BigFrame.wpQuiet_skip (by kernel_rfl) ?_
            try simp only [Act.put, List.setIfInBounds_toArray, List.set_cons_zero, List.set_cons_succ]
            with_reducible refine BigFrame.wpQuiet_skip (by kernel_rfl) ?_
            try simp only [Act.put, List.setIfInBounds_toArray, List.set_cons_zero, List.set_cons_succ]
            with_reducible refine BigFrame.wpQuiet_want (by kernel_rfl) (fun K hK => ?_)
            apply Exists.intro
            refine ⟨fun w' hC => ?_, hK _ ?_⟩
            · unfold Oper.quietAt
              go_simp
              first | with_reducible rfl | done
            clear hK K
            try simp only [Act.put, List.setIfInBounds_toArray, List.set_cons_zero, List.set_cons_succ]
            refine wpQuiet_nil ?_
            intro w6 hb6
            have HB6 := hid (HBo.out.trans (hb6.mono hszo))
            clear hb6
            go_wp2_with fail
            refine ⟨⟨i + 1, a, by omega, rfl, rfl, HA2, HB6⟩, ?_⟩
            show n - ((i : Int) + 1).toNat < n - ((i : Int)).toNat
            omega
          case false =>
            have hno := of_decide_eq_false hhb
            clear hhb
            have ha : a = -1 ∨ ∃ (q : Nat) (y : It), a = (q : Int) ∧ q < n ∧ l[q]? = some y := by
              rcases HA.out with ⟨e, _⟩ | ⟨q, y, e, e2, e3, _⟩
              · exact .inl e
              · exact .inr ⟨q, y, e, by omega, e3⟩
            rcases ha with rfl | ⟨q, y, rfl, hq, hy⟩
            · have HA2 := hid (HA.out.new HXX.out hno)
              clear hno
              go_wp2_with fail
              refine wp_region_below (by kernel_rfl) (by kernel_rfl) ?_
              with_reducible refine BigFrame.wpQuiet_want (by kernel_rfl) (fun K hK => ?_)
              apply Exists.intro
              refine ⟨fun w' hC => ?_, hK _ ?_⟩
              · unfold Oper.quietAt
                go_simp
                first | with_reducible rfl | done
              clear hK K
              try simp only [Act.put, List.setIfInBounds_toArray, List.set_cons_zero, List.set_cons_succ]
              with_reducible refine BigFrame.wpQuiet_want (by kernel_rfl) (fun K hK => ?_)
              apply Exists.intro
              refine ⟨fun w' hC => ?_, hK _ ?_⟩
              · unfold Oper.quietAt
                go_simp
                first | with_reducible rfl | done
              clear hK K
              try simp only [Act.put, List.setIfInBounds_toArray, List.set_cons_zero, List.set_cons_succ]
              with_reducible refine BigFrame.wpQuiet_want (by kernel_rfl) (fun K hK => ?_)
              apply Exists.intro
              refine ⟨fun w' hC => ?_, hK _ ?_⟩
              · unfold Oper.quietAt
                go_simp
                first | with_reducible rfl | done
              clear hK K
              try simp only [Act.put, List.setIfInBounds_toArray, List.set_cons_zero, List.set_cons_succ]
              with_reducible refine BigFrame.wpQuiet_want (by kernel_rfl) (fun K hK => ?_)
              apply Exists.intro
              refine ⟨fun w' hC => ?_, hK _ ?_⟩
              · unfold Oper.quietAt
                go_simp
                first | with_reducible rfl | done
              clear hK K
              try simp only [Act.put, List.setIfInBounds_toArray, List.set_cons_zero, List.set_cons_succ]
              with_reducible refine BigFrame.wpQuiet_want (by kernel_rfl) (fun K hK => ?_)
              apply Exists.intro
              refine ⟨fun w' hC => ?_, hK _ ?_⟩
              · have f0' := HQ0.out w' hC
                have f1' := HQ1.out w' hC
                unfold Oper.quietAt
                go_simp
                first | with_reducible rfl | done
              clear hK K
              try simp only [Act.put, List.setIfInBounds_toArray, List.set_cons_zero, List.set_cons_succ]
              with_reducible refine BigFrame.wpQuiet_want (by kernel_rfl) (fun K hK => ?_)
              apply Exists.intro
              refine ⟨fun w' hC => ?_, hK _ ?_⟩
              · unfold Oper.quietAt
                go_simp
                first
                  | with_reducible exact below_call hC (Nat.le_refl _) (KH.out w' hC)
              clear hK K
              try simp only [Act.put, List.setIfInBounds_toArray, List.set_cons_zero, List.set_cons_succ]
              with_reducible refine BigFrame.wpQuiet_want (by kernel_rfl) (fun K hK => ?_)
              apply Exists.intro
              refine ⟨fun w' hC => ?_, hK _ ?_⟩
              · unfold Oper.quietAt
                go_simp
                first | with_reducible rfl | done
              clear hK K
              try simp only [Act.put, List.setIfInBounds_toArray, List.set_cons_zero, List.set_cons_succ]
              with_reducible refine BigFrame.wpQuiet_want (by kernel_rfl) (fun K hK => ?_)
              apply Exists.intro
              refine ⟨fun w' hC => ?_, hK _ ?_⟩
              · unfold Oper.quietAt
                go_simp
                first | with_reducible rfl | done
              clear hK K
              try simp only [Act.put, List.setIfInBounds_toArray, List.set_cons_zero, List.set_cons_succ]
              with_reducible refine BigFrame.wpQuiet_want (by kernel_rfl) (fun K hK => ?_)
              apply Exists.intro
              refine ⟨fun w' hC => ?_, hK _ ?_⟩
              · unfold Oper.quietAt
                go_simp
                first | with_reducible rfl | done
              clear hK K
              try simp only [Act.put, List.setIfInBounds_toArray, List.set_cons_zero, List.set_cons_succ]
              with_reducible refine BigFrame.wpQuiet_want (by kernel_rfl) (fun K hK => ?_)
              apply Exists.intro
              refine ⟨fun w' hC => ?_, hK _ ?_⟩
              · unfold Oper.quietAt
                go_simp
                first | with_reducible rfl | done
              clear hK K
              try simp only [Act.put, List.setIfInBounds_toArray, List.set_cons_zero, List.set_cons_succ]
              with_reducible refine BigFrame.wpQuiet_want (by kernel_rfl) (fun K hK => ?_)
              apply Exists.intro
              refine ⟨fun w' hC => ?_, hK _ ?_⟩
              · unfold Oper.quietAt
                go_simp
                first | with_reducible rfl | done
              clear hK K
              try simp only [Act.put, List.setIfInBounds_toArray, List.set_cons_zero, List.set_cons_succ]
              with_reducible refine BigFrame.wpQuiet_skip (by kernel_rfl) ?_
              try simp only [Act.put, List.setIfInBounds_toArray, List.set_cons_zero, List.set_cons_succ]
              with_reducible refine BigFrame.wpQuiet_skip (by kernel_rfl) ?_
              try simp only [Act.put, List.setIfInBounds_toArray, List.set_cons_zero, List.set_cons_succ]
              with_reducible refine BigFrame.wpQuiet_skip (by kernel_rfl) ?_
              try simp only [Act.put, List.setIfInBounds_toArray, List.set_cons_zero, List.set_cons_succ]
              with_reducible refine BigFrame.wpQuiet_skip (by kernel_rfl) ?_
              try simp only [Act.put, List.setIfInBounds_toArray, List.set_cons_zero, List.set_cons_succ]
              with_reducible refine BigFrame.wpQuiet_skip (by kernel_rfl) ?_
              try simp only [Act.put, List.setIfInBounds_toArray, List.set_cons_zero, List.set_cons_succ]
              with_reducible refine BigFrame.wpQuiet_skip (by kernel_rfl) ?_
              try simp only [Act.put, List.setIfInBounds_toArray, List.set_cons_zero, List.set_cons_succ]
              with_reducible refine BigFrame.wpQuiet_skip (by kernel_rfl) ?_
              try simp only [Act.put, List.setIfInBounds_toArray, List.set_cons_zero, List.set_cons_succ]
              with_reducible refine BigFrame.wpQuiet_skip (by kernel_rfl) ?_
              try simp only [Act.put, List.setIfInBounds_toArray, List.set_cons_zero, List.set_cons_succ]
              with_reducible refine BigFrame.wpQuiet_skip (by kernel_rfl) ?_
              try simp only [Act.put, List.setIfInBounds_toArray, List.set_cons_zero, List.set_cons_succ]
              with_reducible refine BigFrame.wpQuiet_want (by kernel_rfl) (fun K hK => ?_)
              apply Exists.intro
              refine ⟨fun w' hC => ?_, hK _ ?_⟩
              · unfold Oper.quietAt
                go_simp
                first | with_reducible rfl | done
              clear hK K
              try simp only [Act.put, List.setIfInBounds_toArray, List.set_cons_zero, List.set_cons_succ]
              with_reducible refine BigFrame.wpQuiet_want (by kernel_rfl) (fun K hK => ?_)
              apply Exists.intro
              refine ⟨fun w' hC => ?_, hK _ ?_⟩
              · unfold Oper.quietAt
                go_simp
                first | with_reducible rfl | done
              clear hK K
              try simp only [Act.put, List.setIfInBounds_toArray, List.set_cons_zero, List.set_cons_succ]
              refine wpQuiet_nil ?_
              intro w6 hb6
              have HB6 := hid (HBo.out.trans (hb6.mono hszo))
              clear hb6
              go_wp2_with fail
              refine ⟨⟨i + 1, (i : Int), by omega, rfl, rfl, HA2, HB6⟩, ?_⟩
              show n - ((i : Int) + 1).toNat < n - ((i : Int)).toNat
              omega
            · have t5 : (q : Int) < (n : Int) := by omega
              have t6 : (0 : Int) ≤ (q : Int) := by omega
              have t7 : decide ((q : Int) < 0) = false := decide_eq_false (by omega)
              obtain ⟨lb', lo', elo, p0, p1⟩ := HL.out.at_ hy
              injection elo with elo
              injection elo with elb elo
              subst elb
              subst elo
              have HQ2 : Hid (∀ w', Below wr.heap.size wr w' → w'.cell? ⟨lb, lo + q * 2, none⟩ = some (.int .i64 y.1)) := hid fun w' hC => cell_below hC (cell_below HBw.out p0)
              have HQ3 : Hid (∀ w', Below wr.heap.size wr w' → w'.cell? ⟨lb, lo + q * 2 + 1, none⟩ = some (.int .i64 y.2)) := hid fun w' hC => cell_below hC (cell_below HBw.out p1)
              obtain ⟨lb2, hlb2⟩ : ∃ b, lessB x y = b := ⟨_, rfl⟩
              have hKL : ∀ w', Below wr.heap.size wr w' → Calls Tryd.prog 47 #[.agg #[.int .i64 x.1, .int .i64 x.2], .agg #[.int .i64 y.1, .int .i64 y.2]] w' fun e w'' => e = .returned (.bool lb2) ∧ Below w'.heap.size w' w'' := fun w' hC => by
                have h2 := less_any (w := w') x y
                rw [hlb2] at h2
                exact h2
              have KL := hid hKL
              clear hKL p0 p1
              cases lb2
              · have HA2 := hid (HA.out.keep HXX.out hy (fun hl => by have := X14.lessB_iff.2 hl; rw [hlb2] at this; cases this))
                clear hno hlb2 hy
                go_wp2_with fail
                refine wp_region_below (by kernel_rfl) (by kernel_rfl) ?_
                with_reducible refine BigFrame.wpQuiet_want (by kernel_rfl) (fun K hK => ?_)
                apply Exists.intro
                refine ⟨fun w' hC => ?_, hK _ ?_⟩
                · unfold Oper.quietAt
                  go_simp
                  first | with_reducible rfl | done
                clear hK K
                try simp only [Act.put, List.setIfInBounds_toArray, List.set_cons_zero, List.set_cons_succ]
                with_reducible refine BigFrame.wpQuiet_want (by kernel_rfl) (fun K hK => ?_)
                apply Exists.intro
                refine ⟨fun w' hC => ?_, hK _ ?_⟩
                · unfold Oper.quietAt
                  go_simp
                  first | with_reducible rfl | done
                clear hK K
                try simp only [Act.put, List.setIfInBounds_toArray, List.set_cons_zero, List.set_cons_succ]
                with_reducible refine BigFrame.wpQuiet_want (by kernel_rfl) (fun K hK => ?_)
                apply Exists.intro
                refine ⟨fun w' hC => ?_, hK _ ?_⟩
                · unfold Oper.quietAt
                  go_simp
                  first | with_reducible rfl | done
                clear hK K
                try simp only [Act.put, List.setIfInBounds_toArray, List.set_cons_zero, List.set_cons_succ]
                with_reducible refine BigFrame.wpQuiet_want (by kernel_rfl) (fun K hK => ?_)
                apply Exists.intro
                refine ⟨fun w' hC => ?_, hK _ ?_⟩
                · unfold Oper.quietAt
                  go_simp
                  first | with_reducible rfl | done
                clear hK K
                try simp only [Act.put, List.setIfInBounds_toArray, List.set_cons_zero, List.set_cons_succ]
                with_reducible refine BigFrame.wpQuiet_want (by kernel_rfl) (fun K hK => ?_)
                apply Exists.intro
                refine ⟨fun w' hC => ?_, hK _ ?_⟩
                · have f0' := HQ0.out w' hC
                  have f1' := HQ1.out w' hC
                  have f2' := HQ2.out w' hC
                  have f3' := HQ3.out w' hC
                  unfold Oper.quietAt
                  go_simp
                  first | with_reducible rfl | done
                clear hK K
                try simp only [Act.put, List.setIfInBounds_toArray, List.set_cons_zero, List.set_cons_succ]
                with_reducible refine BigFrame.wpQuiet_want (by kernel_rfl) (fun K hK => ?_)
                apply Exists.intro
                refine ⟨fun w' hC => ?_, hK _ ?_⟩
                · unfold Oper.quietAt
                  go_simp
                  first
                    | with_reducible exact below_call hC (Nat.le_refl _) (KH.out w' hC)
                    | with_reducible exact below_call hC (Nat.le_refl _) (KL.out w' hC)
                clear hK K
                try simp only [Act.put, List.setIfInBounds_toArray, List.set_cons_zero, List.set_cons_succ]
                with_reducible refine BigFrame.wpQuiet_want (by kernel_rfl) (fun K hK => ?_)
                apply Exists.intro
                refine ⟨fun w' hC => ?_, hK _ ?_⟩
                · unfold Oper.quietAt
                  go_simp
                  first | with_reducible rfl | done
                clear hK K
                try simp only [Act.put, List.setIfInBounds_toArray, List.set_cons_zero, List.set_cons_succ]
                with_reducible refine BigFrame.wpQuiet_want (by kernel_rfl) (fun K hK => ?_)
                apply Exists.intro
                refine ⟨fun w' hC => ?_, hK _ ?_⟩
                · unfold Oper.quietAt
                  go_simp
                  first | with_reducible rfl | done
                clear hK K
                try simp only [Act.put, List.setIfInBounds_toArray, List.set_cons_zero, List.set_cons_succ]
                with_reducible refine BigFrame.wpQuiet_want (by kernel_rfl) (fun K hK => ?_)
                apply Exists.intro
                refine ⟨fun w' hC => ?_, hK _ ?_⟩
                · unfold Oper.quietAt
                  go_simp
                  first | with_reducible rfl | done
                clear hK K
                try simp only [Act.put, List.setIfInBounds_toArray, List.set_cons_zero, List.set_cons_succ]
                with_reducible refine BigFrame.wpQuiet_want (by kernel_rfl) (fun K hK => ?_)
                apply Exists.intro
                refine ⟨fun w' hC => ?_, hK _ ?_⟩
                · unfold Oper.quietAt
                  go_simp
                  first | with_reducible rfl | done
                clear hK K
                try simp only [Act.put, List.setIfInBounds_toArray, List.set_cons_zero, List.set_cons_succ]
                with_reducible refine BigFrame.wpQuiet_want (by kernel_rfl) (fun K hK => ?_)
                apply Exists.intro
                refine ⟨fun w' hC => ?_, hK _ ?_⟩
                · unfold Oper.quietAt
                  go_simp
                  first | with_reducible rfl | done
                clear hK K
                try simp only [Act.put, List.setIfInBounds_toArray, List.set_cons_zero, List.set_cons_succ]
                with_reducible refine BigFrame.wpQuiet_want (by kernel_rfl) (fun K hK => ?_)
                apply Exists.intro
                refine ⟨fun w' hC => ?_, hK _ ?_⟩
                · unfold Oper.quietAt
                  go_simp
                  first | with_reducible rfl | done
                clear hK K
                try simp only [Act.put, List.setIfInBounds_toArray, List.set_cons_zero, List.set_cons_succ]
                with_reducible refine BigFrame.wpQuiet_want (by kernel_rfl) (fun K hK => ?_)
                apply Exists.intro
                refine ⟨fun w' hC => ?_, hK _ ?_⟩
                · unfold Oper.quietAt
                  go_simp
                  first | with_reducible rfl | done
                clear hK K
                try simp only [Act.put, List.setIfInBounds_toArray, List.set_cons_zero, List.set_cons_succ]
                with_reducible refine BigFrame.wpQuiet_want (by kernel_rfl) (fun K hK => ?_)
                apply Exists.intro
                refine ⟨fun w' hC => ?_, hK _ ?_⟩
                · unfold Oper.quietAt
                  go_simp
                  first | with_reducible rfl | done
                clear hK K
                try simp only [Act.put, List.setIfInBounds_toArray, List.set_cons_zero, List.set_cons_succ]
                with_reducible refine BigFrame.wpQuiet_want (by kernel_rfl) (fun K hK => ?_)
                apply Exists.intro
                refine ⟨fun w' hC => ?_, hK _ ?_⟩
                · have f0' := HQ0.out w' hC
                  have f1' := HQ1.out w' hC
                  have f2' := HQ2.out w' hC
                  have f3' := HQ3.out w' hC
                  unfold Oper.quietAt
                  go_simp
                  first | with_reducible rfl | done
                clear hK K
                try simp only [Act.put, List.setIfInBounds_toArray, List.set_cons_zero, List.set_cons_succ]
                with_reducible refine BigFrame.wpQuiet_want (by kernel_rfl) (fun K hK => ?_)
                apply Exists.intro
                refine ⟨fun w' hC => ?_, hK _ ?_⟩
                · unfold Oper.quietAt
                  go_simp
                  first | with_reducible rfl | done
                clear hK K
                try simp only [Act.put, List.setIfInBounds_toArray, List.set_cons_zero, List.set_cons_succ]
                with_reducible refine BigFrame.wpQuiet_want (by kernel_rfl) (fun K hK => ?_)
                apply Exists.intro
                refine ⟨fun w' hC => ?_, hK _ ?_⟩
                · unfold Oper.quietAt
                  go_simp
                  first | with_reducible rfl | done
                clear hK K
                try simp only [Act.put, List.setIfInBounds_toArray, List.set_cons_zero, List.set_cons_succ]
                with_reducible refine BigFrame.wpQuiet_want (by kernel_rfl) (fun K hK => ?_)
                apply Exists.intro
                refine ⟨fun w' hC => ?_, hK _ ?_⟩
                · unfold Oper.quietAt
                  go_simp
                  first | with_reducible rfl | done
                clear hK K
                try simp only [Act.put, List.setIfInBounds_toArray, List.set_cons_zero, List.set_cons_succ]
                with_reducible refine BigFrame.wpQuiet_want (by kernel_rfl) (fun K hK => ?_)
                apply Exists.intro
                refine ⟨fun w' hC => ?_, hK _ ?_⟩
                · have f0' := HQ0.out w' hC
                  have f1' := HQ1.out w' hC
                  have f2' := HQ2.out w' hC
                  have f3' := HQ3.out w' hC
                  unfold Oper.quietAt
                  go_simp
                  first | with_reducible rfl | done
                clear hK K
                try simp only [Act.put, List.setIfInBounds_toArray, List.set_cons_zero, List.set_cons_succ]
                with_reducible refine BigFrame.wpQuiet_want (by kernel_rfl) (fun K hK => ?_)
                apply Exists.intro
                refine ⟨fun w' hC => ?_, hK _ ?_⟩
                · unfold Oper.quietAt
                  go_simp
                  first
                    | with_reducible exact below_call hC (Nat.le_refl _) (KH.out w' hC)
                    | with_reducible exact below_call hC (Nat.le_refl _) (KL.out w' hC)
                clear hK K
                try simp only [Act.put, List.setIfInBounds_toArray, List.set_cons_zero, List.set_cons_succ]
                with_reducible refine BigFrame.wpQuiet_want (by kernel_rfl) (fun K hK => ?_)
                apply Exists.intro
                refine ⟨fun w' hC => ?_, hK _ ?_⟩
                · unfold Oper.quietAt
                  go_simp
                  first | with_reducible rfl | done
                clear hK K
                try simp only [Act.put, List.setIfInBounds_toArray, List.set_cons_zero, List.set_cons_succ]
                with_reducible refine BigFrame.wpQuiet_want (by kernel_rfl) (fun K hK => ?_)
                apply Exists.intro
                refine ⟨fun w' hC => ?_, hK _ ?_⟩
                · unfold Oper.quietAt
                  go_simp
                  first | with_reducible rfl | done
                clear hK K
                try simp only [Act.put, List.setIfInBounds_toArray, List.set_cons_zero, List.set_cons_succ]
                refine wpQuiet_nil ?_
                intro w6 hb6
                have HB6 := hid (HBo.out.trans (hb6.mono hszo))
                clear hb6
                go_wp2_with fail
                refine ⟨⟨i + 1, (q : Int), by omega, rfl, rfl, HA2, HB6⟩, ?_⟩
                show n - ((i : Int) + 1).toNat < n - ((i : Int)).toNat
                omega
              · have HA2 := hid (HA.out.less HXX.out hno hy (X14.lessB_iff.1 hlb2))
                clear hno hlb2 hy
                go_wp2_with fail
                refine wp_region_below (by kernel_rfl) (by kernel_rfl) ?_
                with_reducible refine BigFrame.wpQuiet_want (by kernel_rfl) (fun K hK => ?_)
                apply Exists.intro
                refine ⟨fun w' hC => ?_, hK _ ?_⟩
                · unfold Oper.quietAt
                  go_simp
                  first | with_reducible rfl | done
                clear hK K
                try simp only [Act.put, List.setIfInBounds_toArray, List.set_cons_zero, List.set_cons_succ]
                with_reducible refine BigFrame.wpQuiet_want (by kernel_rfl) (fun K hK => ?_)
                apply Exists.intro
                refine ⟨fun w' hC => ?_, hK _ ?_⟩
                · unfold Oper.quietAt
                  go_simp
                  first | with_reducible rfl | done
                clear hK K
                try simp only [Act.put, List.setIfInBounds_toArray, List.set_cons_zero, List.set_cons_succ]
                with_reducible refine BigFrame.wpQuiet_want (by kernel_rfl) (fun K hK => ?_)
                apply Exists.intro
                refine ⟨fun w' hC => ?_, hK _ ?_⟩
                · unfold Oper.quietAt
                  go_simp
                  first | with_reducible rfl | done
                clear hK K
                try simp only [Act.put, List.setIfInBounds_toArray, List.set_cons_zero, List.set_cons_succ]
                with_reducible refine BigFrame.wpQuiet_want (by kernel_rfl) (fun K hK => ?_)
                apply Exists.intro
                refine ⟨fun w' hC => ?_, hK _ ?_⟩
                · unfold Oper.quietAt
                  go_simp
                  first | with_reducible rfl | done
                clear hK K
                try simp only [Act.put, List.setIfInBounds_toArray, List.set_cons_zero, List.set_cons_succ]
                with_reducible refine BigFrame.wpQuiet_want (by kernel_rfl) (fun K hK => ?_)
                apply Exists.intro
                refine ⟨fun w' hC => ?_, hK _ ?_⟩
                · have f0' := HQ0.out w' hC
                  have f1' := HQ1.out w' hC
                  have f2' := HQ2.out w' hC
                  have f3' := HQ3.out w' hC
                  unfold Oper.quietAt
                  go_simp
                  first | with_reducible rfl | done
                clear hK K
                try simp only [Act.put, List.setIfInBounds_toArray, List.set_cons_zero, List.set_cons_succ]
                with_reducible refine BigFrame.wpQuiet_want (by kernel_rfl) (fun K hK => ?_)
                apply Exists.intro
                refine ⟨fun w' hC => ?_, hK _ ?_⟩
                · unfold Oper.quietAt
                  go_simp
                  first
                    | with_reducible exact below_call hC (Nat.le_refl _) (KH.out w' hC)
                    | with_reducible exact below_call hC (Nat.le_refl _) (KL.out w' hC)
                clear hK K
                try simp only [Act.put, List.setIfInBounds_toArray, List.set_cons_zero, List.set_cons_succ]
                with_reducible refine BigFrame.wpQuiet_want (by kernel_rfl) (fun K hK => ?_)
                apply Exists.intro
                refine ⟨fun w' hC => ?_, hK _ ?_⟩
                · unfold Oper.quietAt
                  go_simp
                  first | with_reducible rfl | done
                clear hK K
                try simp only [Act.put, List.setIfInBounds_toArray, List.set_cons_zero, List.set_cons_succ]
                with_reducible refine BigFrame.wpQuiet_want (by kernel_rfl) (fun K hK => ?_)
                apply Exists.intro
                refine ⟨fun w' hC => ?_, hK _ ?_⟩
                · unfold Oper.quietAt
                  go_simp
                  first | with_reducible rfl | done
                clear hK K
                try simp only [Act.put, List.setIfInBounds_toArray, List.set_cons_zero, List.set_cons_succ]
                with_reducible refine BigFrame.wpQuiet_want (by kernel_rfl) (fun K hK => ?_)
                apply Exists.intro
                refine ⟨fun w' hC => ?_, hK _ ?_⟩
                · unfold Oper.quietAt
                  go_simp
                  first | with_reducible rfl | done
                clear hK K
                try simp only [Act.put, List.setIfInBounds_toArray, List.set_cons_zero, List.set_cons_succ]
                with_reducible refine BigFrame.wpQuiet_want (by kernel_rfl) (fun K hK => ?_)
                apply Exists.intro
                refine ⟨fun w' hC => ?_, hK _ ?_⟩
                · unfold Oper.quietAt
                  go_simp
                  first | with_reducible rfl | done
                clear hK K
                try simp only [Act.put, List.setIfInBounds_toArray, List.set_cons_zero, List.set_cons_succ]
                with_reducible refine BigFrame.wpQuiet_want (by kernel_rfl) (fun K hK => ?_)
                apply Exists.intro
                refine ⟨fun w' hC => ?_, hK _ ?_⟩
                · unfold Oper.quietAt
                  go_simp
                  first | with_reducible rfl | done
                clear hK K
                try simp only [Act.put, List.setIfInBounds_toArray, List.set_cons_zero, List.set_cons_succ]
                with_reducible refine BigFrame.wpQuiet_want (by kernel_rfl) (fun K hK => ?_)
                apply Exists.intro
                refine ⟨fun w' hC => ?_, hK _ ?_⟩
                · unfold Oper.quietAt
                  go_simp
                  first | with_reducible rfl | done
                clear hK K
                try simp only [Act.put, List.setIfInBounds_toArray, List.set_cons_zero, List.set_cons_succ]
                with_reducible refine BigFrame.wpQuiet_want (by kernel_rfl) (fun K hK => ?_)
                apply Exists.intro
                refine ⟨fun w' hC => ?_, hK _ ?_⟩
                · unfold Oper.quietAt
                  go_simp
                  first | with_reducible rfl | done
                clear hK K
                try simp only [Act.put, List.setIfInBounds_toArray, List.set_cons_zero, List.set_cons_succ]
                with_reducible refine BigFrame.wpQuiet_want (by kernel_rfl) (fun K hK => ?_)
                apply Exists.intro
                refine ⟨fun w' hC => ?_, hK _ ?_⟩
                · unfold Oper.quietAt
                  go_simp
                  first | with_reducible rfl | done
                clear hK K
                try simp only [Act.put, List.setIfInBounds_toArray, List.set_cons_zero, List.set_cons_succ]
                with_reducible refine BigFrame.wpQuiet_want (by kernel_rfl) (fun K hK => ?_)
                apply Exists.intro
                refine ⟨fun w' hC => ?_, hK _ ?_⟩
                · have f0' := HQ0.out w' hC
                  have f1' := HQ1.out w' hC
                  have f2' := HQ2.out w' hC
                  have f3' := HQ3.out w' hC
                  unfold Oper.quietAt
                  go_simp
                  first | with_reducible rfl | done
                clear hK K
                try simp only [Act.put, List.setIfInBounds_toArray, List.set_cons_zero, List.set_cons_succ]
                with_reducible refine BigFrame.wpQuiet_want (by kernel_rfl) (fun K hK => ?_)
                apply Exists.intro
                refine ⟨fun w' hC => ?_, hK _ ?_⟩
                · unfold Oper.quietAt
                  go_simp
                  first | with_reducible rfl | done
                clear hK K
                try simp only [Act.put, List.setIfInBounds_toArray, List.set_cons_zero, List.set_cons_succ]
                with_reducible refine BigFrame.wpQuiet_want (by kernel_rfl) (fun K hK => ?_)
                apply Exists.intro
                refine ⟨fun w' hC => ?_, hK _ ?_⟩
                · unfold Oper.quietAt
                  go_simp
                  first | with_reducible rfl | done
                clear hK K
                try simp only [Act.put, List.setIfInBounds_toArray, List.set_cons_zero, List.set_cons_succ]
                with_reducible refine BigFrame.wpQuiet_want (by kernel_rfl) (fun K hK => ?_)
                apply Exists.intro
                refine ⟨fun w' hC => ?_, hK _ ?_⟩
                · unfold Oper.quietAt
                  go_simp
                  first | with_reducible rfl | done
                clear hK K
                try simp only [Act.put, List.setIfInBounds_toArray, List.set_cons_zero, List.set_cons_succ]
                with_reducible refine BigFrame.wpQuiet_want (by kernel_rfl) (fun K hK => ?_)
                apply Exists.intro
                refine ⟨fun w' hC => ?_, hK _ ?_⟩
                · have f0' := HQ0.out w' hC
                  have f1' := HQ1.out w' hC
                  have f2' := HQ2.out w' hC
                  have f3' := HQ3.out w' hC
                  unfold Oper.quietAt
                  go_simp
                  first | with_reducible rfl | done
                clear hK K
                try simp only [Act.put, List.setIfInBounds_toArray, List.set_cons_zero, List.set_cons_succ]
                with_reducible refine BigFrame.wpQuiet_want (by kernel_rfl) (fun K hK => ?_)
                apply Exists.intro
                refine ⟨fun w' hC => ?_, hK _ ?_⟩
                · unfold Oper.quietAt
                  go_simp
                  first
                    | with_reducible exact below_call hC (Nat.le_refl _) (KH.out w' hC)
                    | with_reducible exact below_call hC (Nat.le_refl _) (KL.out w' hC)
                clear hK K
                try simp only [Act.put, List.setIfInBounds_toArray, List.set_cons_zero, List.set_cons_succ]
                with_reducible refine BigFrame.wpQuiet_want (by kernel_rfl) (fun K hK => ?_)
                apply Exists.intro
                refine ⟨fun w' hC => ?_, hK _ ?_⟩
                · unfold Oper.quietAt
                  go_simp
                  first | with_reducible rfl | done
                clear hK K
                try simp only [Act.put, List.setIfInBounds_toArray, List.set_cons_zero, List.set_cons_succ]
                with_reducible refine BigFrame.wpQuiet_want (by kernel_rfl) (fun K hK => ?_)
                apply Exists.intro
                refine ⟨fun w' hC => ?_, hK _ ?_⟩
                · unfold Oper.quietAt
                  go_simp
                  first | with_reducible rfl | done
                clear hK K
                try simp only [Act.put, List.setIfInBounds_toArray, List.set_cons_zero, List.set_cons_succ]
                refine wpQuiet_nil ?_
                intro w6 hb6
                have HB6 := hid (HBo.out.trans (hb6.mono hszo))
                clear hb6
                go_wp2_with fail
                refine ⟨⟨i + 1, (i : Int), by omega, rfl, rfl, HA2, HB6⟩, ?_⟩
                show n - ((i : Int) + 1).toNat < n - ((i : Int)).toNat
                omega
        · have t3 : ¬ (i : Int) < (n : Int) := by omega
          have hin : i = n := by omega
          have HB7 := hid (HB.out.trans (HBo.out.mono hszr))
          have HO7 := hid (own_below HO.out HBo.out)
          have HA7 := hid (show AtX O l l.length a from by rw [HLN.out, ← hin]; exact HA.out)
          have ha : a = -1 ∨ ∃ (q : Nat) (y : It), a = (q : Int) ∧ q < n ∧ l[q]? = some y := by
            rcases HA.out with ⟨e, _⟩ | ⟨q, y, e, e2, e3, _⟩
            · exact .inl e
            · exact .inr ⟨q, y, e, by omega, e3⟩
          clear hin
          rcases ha with rfl | ⟨q, y, rfl, hq, hy⟩
          · have HX2 := hid (HX.out.none_ HA7.out)
            have HO8 := hid (show wr.ownsRow w.heap.size 39 2 (.slice oo O.length oc) O.length (icells O) from HO7.out)
            go_wp2_with fail
            refine ⟨⟨m + 1, O, by omega, rfl, HX2, HO8, HB7⟩, ?_⟩
            show n - ((m : Int) + 1).toNat < n - ((m : Int)).toNat
            omega
          · have t5 : (q : Int) < (n : Int) := by omega
            have t6 : (0 : Int) ≤ (q : Int) := by omega
            have HX2 := hid (HX.out.one HA7.out hy)
            obtain ⟨lb, lo, rfl, p0, p1⟩ := HL.out.at_ hy
            have p0 := cell_below HB7.out p0
            have p1 := cell_below HB7.out p1
            obtain ⟨wq, eq⟩ : ∃ wq, wr.alloc (.cells #[.int .i64 y.1, .int .i64 y.2] 39) = wq := ⟨_, rfl⟩
            have hbq : Below wr.heap.size wr wq := by rw [← eq]; exact (Below.refl _ _).alloc (Nat.le_refl _) _
            have HNQ := hid (show wq.heap[wr.heap.size]? = some (.cells #[.int .i64 y.1, .int .i64 y.2] 39 (0, 0)) from by rw [← eq]; exact new_block _ _)
            have HOq := hid (own_below HO7.out hbq)
            have HBq := hid (HB7.out.trans (hbq.mono HB7.out.size))
            have hdq := HBq.out.size
            clear hbq hy
            go_wp2_with (at_builtin; refine wpList_push39 rfl (.tmp 44) (.tmp 49) rfl w.heap.size (.slice oo O.length oc) O.length (icells O) rfl HOq.out wr.heap.size rfl y.1 y.2 HNQ.out (by omega) hdq ?_)
            intro v7 w7 hown7 hg7 hat7
            have HO8 := hid (own_push39 hown7)
            have HB8 := hid (HBq.out.grown hg7 hdq (fun q hq => (owns_lt HOq.out q hq).1))
            clear hown7 hg7 hat7 eq
            go_wp2_with fail
            refine ⟨⟨m + 1, O ++ [y], by omega, rfl, HX2, HO8, HB8⟩, ?_⟩
            show n - ((m : Int) + 1).toNat < n - ((m : Int)).toNat
            omega
    · have t1 : ¬ (m : Int) < (n : Int) := by omega
      have hmn : m = n := by omega
      have HD := hid (show RisX l O l.length from by rw [HLN.out, ← hmn]; exact HX.out)
      go_wp2_with fail
      go_ret
      exact ⟨O, HD.out.done.1, HD.out.done.2, HD.out.len, _, rfl, HO.out, HB.out⟩
end Go.Proofs.YtjpbhbfklkipkaaDoor
