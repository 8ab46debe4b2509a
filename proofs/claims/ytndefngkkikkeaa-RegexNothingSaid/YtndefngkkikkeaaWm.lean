/- A region that draws its order, whose operations and callees leave what lay before them as it lay: one walk of the lexical order serves every order. The class of worlds: what lies below is as it was. -/
import Derived.Test.YtndefngkkikkeaaWl
import Derived.BigQuiet
namespace Go.Proofs.Ytndefngkkikkeaa
open Go Go.RowKit

theorem wp_region_below {P : Program} {id : Nat} {Q : Exit → Act → World → Prop} {a : Act} {w : World} {l : List Oper} (hm : P.follows .mixedOrders = true) (hB : Region.lexB .any l.toArray = true)
    (h : wpQuiet P l.toArray (Below w.heap.size w) (fun a' => ∀ w', Below w.heap.size w w' → Q .normal a' w') l a) : (Code.region id l.toArray true).wp P Q a w :=
  wp_region_quiet (C := Below w.heap.size w) hm hB (below_drewN (Below.refl _ _) 1) (by simpa using h)
theorem quiet_of {P : Program} {C : World → Prop} {o : Oper} {a : Act} {K : Act → Prop} {v : Value} (h : ∀ w, C w → o.quietAt P a C w v) (hk : K (a.put o.dst v)) : o.quiet P a C K := ⟨v, h, hk⟩
theorem below_call {P : Program} {f : FuncId} {args : Array Value} {n : Nat} {w0 w' : World} {v : Value} (hC : Below n w0 w') (hn : n ≤ w0.heap.size) (h : Calls P f args w' fun e w'' => e = .returned v ∧ Below w'.heap.size w' w'') :
    Calls P f args w' fun e w'' => e = .returned v ∧ Below n w0 w'' :=
  h.mono fun _ _ ⟨he, hb⟩ => ⟨he, hC.trans (hb.mono (Nat.le_trans hn hC.size))⟩
end Go.Proofs.Ytndefngkkikkeaa
