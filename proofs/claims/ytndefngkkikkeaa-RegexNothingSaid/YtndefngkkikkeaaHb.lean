/- A region that draws its order: one operation alone may come up, and the rest goes on. -/
import Derived.Test.YtndefngkkikkeaaHa
namespace Go.Proofs.Ytndefngkkikkeaa
open Go

theorem anyT_next {P : Program} {ops : Array Oper} {Q : Exit → Act → World → Prop} {md : Region.Mode} {S : World → Prop} {n i : Nat} {o : Oper} {fuel : Nat} {listed : Array Bool} {a : Act} {w : World}
    (hr : Region.ready md ops listed = [i]) (ho : ops[i]? = some o) (hin : i < n) (inv : HeadInv md ops n listed)
    (h : HeadInv md ops n (listed.setIfInBounds i true) → ∀ K' : Act → World → Prop, Shut (∀ a w, S w → AnyT P md ops Q S n fuel (listed.setIfInBounds i true) a w → K' a w) → if Region.wanted o (yielded ops a.tmps) = true then Oper.wp P o a w K' Q else K' (a.put o.dst undef) w) :
    AnyT P md ops Q S n (fuel + 1) listed a w :=
  anyT_one hr ho fun K' hK => h (inv.set (by rw [hr]; exact List.mem_cons_self) hin) K' fun a w h1 h2 => hK a w (fun _ => h1) h2

end Go.Proofs.Ytndefngkkikkeaa
