/- mini.blocks' closure: the number of a text. -/
import Derived.Test.YtochckefnjobhaaGreatDoorKb
namespace Go.Proofs.YtochckefnjobhaaGreatDoor
open Go Go.RowKit Go.Lib
open X5 (Aut)
set_option linter.unusedVariables false
set_option linter.unusedSimpArgs false
def numM (M : List (List UInt8)) (x : List UInt8) : List (List UInt8) := if M.contains x then M else M ++ [x]
def numI (M : List (List UInt8)) (x : List UInt8) : Nat := if M.contains x then M.idxOf x else M.length
set_option maxRecDepth 100000 in
set_option maxHeartbeats 4000000 in
theorem numberB_any {w : World} {nb mb : Nat} {M : List (List UInt8)} (x : List UInt8) (hx : x.length ≤ 1000000000) (hM : M.length ≤ 1000000) (hn : w.heap[nb]? = some (.cells #[.map (some mb)] 124 (0, 0))) (hm : MapIs Tryz.prog 9 w mb (bmap M)) :
  Calls Tryz.prog 71 #[keyTV x, .pointer (some ⟨nb, 0, none⟩)] w fun e w' => e = .returned (.int .i64 ((numI M x : Nat) : Int)) ∧ MapIs Tryz.prog 9 w' mb (bmap (numM M x)) ∧ w.grownBy w' (some mb) := by
 have cn : w.cell? ⟨nb, 0, none⟩ = some (.map (some mb)) := by rw [Lib.cell_of_heap hn]; rfl
 have HK := hid (keyOf9 x hx)
 have HM := hid hm
 obtain ⟨KV, hKV⟩ : ∃ KV, keyTV x = KV := ⟨_, rfl⟩
 have HKV := hid hKV
 by_cases hin : x ∈ M
 ·have h1 : numI M x = M.idxOf x := by unfold numI; rw [if_pos (by simpa using hin)]
  have h2 : numM M x = M := by unfold numM; rw [if_pos (by simpa using hin)]
  rw [h1, h2, hKV]
  have HMem := hid (bmap_mem hin)
  generalize M.idxOf x = n at *
  rw [hKV] at HK HMem
  clear h1 h2 hin hm hKV
  go_enter Tryz.func71, Tryz.ntmps71
  go_wp2_with (at_lookup; refine wpList_look_some rfl (.tmp 7) (.tmp 8) 124 rfl keyed9 Tryz.underlying124 rfl HM.out KV (.int .i64 (n : Int)) (.string x) rfl HK.out HMem.out ?_)
  go_ret
  exact ⟨rfl, HM.out, ⟨rfl, rfl, rfl, Nat.le_refl _, fun _ _ _ => rfl⟩⟩
 ·have h1 : numI M x = M.length := by unfold numI; rw [if_neg (by simpa using hin)]
  have h2 : numM M x = M ++ [x] := by unfold numM; rw [if_neg (by simpa using hin)]
  rw [h1, h2, hKV]
  have HNone := hid (bmap_none hin)
  rw [hKV] at HK HNone
  have HP := hid (bmap_push M x)
  have HLen := hid (bmap_len M)
  obtain ⟨n, hn1⟩ : ∃ n, M.length = n := ⟨_, rfl⟩
  rw [hn1] at HP HLen hM ⊢
  rw [hKV] at HP
  have hne : nb ≠ mb := by
   intro e
   obtain ⟨es, clock, hb, _⟩ := hm.ex
   rw [e, hb] at hn
   cases hn
  clear h1 h2 hin hm hKV hn1
  go_enter Tryz.func71, Tryz.ntmps71
  go_wp2_with (first | (at_lookup; refine wpList_look_none rfl (.tmp 7) (.tmp 8) 124 rfl keyed9 Tryz.underlying124 rfl HM.out KV (.int .i64 0) (.string x) rfl HK.out (zero3 _) HNone.out ?_) | (at_len; refine wpList_mlen rfl (.tmp 14) 124 rfl Tryz.underlying124 rfl HM.out n HLen.out ?_) | (at_mapUpdate; refine wpList_put rfl (.tmp 16) (.tmp 17) (.tmp 18) 124 (.inl rfl) keyed9 Tryz.underlying124 rfl HM.out KV (.int .i64 (n : Int)) (.string x) rfl rfl HK.out HNone.out ?_))
  intro w5 hmap hgr
  have HMap := hid hmap
  have HG := hid hgr
  clear hmap hgr
  go_wp2_with fail
  go_ret
  exact ⟨rfl, by rw [HP.out]; exact HMap.out, HG.out⟩
end Go.Proofs.YtochckefnjobhaaGreatDoor
