/- Where a machine is nowhere it stays nowhere. -/
import Derived.Test.YtochckefnjobhaaQg
set_option linter.unusedVariables false
namespace Go.Proofs.Ytochckefnjobhaa
open X3 (RX Pl)

theorem none_step {l : List RX} {s : List UInt8} (h : AtN l s []) (x : UInt8) : AtN l (s ++ [x]) [] :=
  h.step ⟨List.Pairwise.nil, fun q => by
    constructor
    · intro hq; cases hq
    · rintro ⟨⟨n, ⟨p, pl, hp, _⟩, _⟩, _⟩; cases hp⟩
theorem none_app {l : List RX} (t : List UInt8) : ∀ {s : List UInt8}, AtN l s [] → AtN l (s ++ t) [] := by
  induction t with
  | nil => intro s h; rw [List.append_nil]; exact h
  | cons x t ih =>
    intro s h
    have := ih (none_step h x)
    rwa [List.append_assoc] at this
theorem none_run {l : List RX} {s : List UInt8} (h : AtN l s []) : RunR l s 0 := ⟨by decide, fun i => X4.run_tags h i⟩
end Go.Proofs.Ytochckefnjobhaa
