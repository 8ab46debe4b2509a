/- mini.keyOf: what tells a state apart, as a text. -/
import Derived.Test.YtochckefnjobhaaGreatDoorUj
namespace Go.Proofs.YtochckefnjobhaaGreatDoor
open Go Go.RowKit Go.Lib
open X5 (Aut)
set_option linter.unusedVariables false
set_option linter.unusedSimpArgs false
def num4 (i : Int) : List UInt8 := [UInt8.ofNat (i % 256).toNat, UInt8.ofNat (i / 256 % 256).toNat, UInt8.ofNat (i / 65536 % 256).toNat, UInt8.ofNat (i / 16777216 % 256).toNat]
theorem of_mod (x : Int) : ((UInt8.ofNat (x % 256).toNat).toNat : Int) = x % 256 := by
 have h0 := Int.emod_nonneg x (by decide : (256 : Int) ≠ 0)
 have h1 := Int.emod_lt_of_pos x (by decide : (0 : Int) < 256)
 obtain ⟨n, hn⟩ : ∃ n : Nat, x % 256 = (n : Int) := ⟨(x % 256).toNat, by omega⟩
 rw [hn, Int.toNat_natCast]
 have hlt : n < 256 := by omega
 simp [UInt8.toNat_ofNat, Nat.mod_eq_of_lt hlt]
theorem num4_cells (i : Int) : Lib.byteCells (num4 i) = [.int .u8 (i % 256), .int .u8 (i / 256 % 256), .int .u8 (i / 65536 % 256), .int .u8 (i / 16777216 % 256)] := by
 simp only [Lib.byteCells, num4, List.map_cons, List.map_nil, of_mod]
theorem num4_inj {i j : Int} (h0 : -1 ≤ i) (h1 : i < 2147483648) (k0 : -1 ≤ j) (k1 : j < 2147483648) (h : num4 i = num4 j) : i = j := by
 have hc : Lib.byteCells (num4 i) = Lib.byteCells (num4 j) := by rw [h]
 rw [num4_cells, num4_cells] at hc
 injection hc with a1 hc
 injection hc with a2 hc
 injection hc with a3 hc
 injection hc with a4 hc
 injection a1 with _ a1
 injection a2 with _ a2
 injection a3 with _ a3
 injection a4 with _ a4
 omega
theorem num4_len (i : Int) : (num4 i).length = 4 := rfl
set_option maxRecDepth 100000 in
set_option maxHeartbeats 4000000 in
theorem append_number {w : World} {B n : Nat} {sv : Value} {xs : List Value} (i : Int) (h0 : -1 ≤ i) (h1 : i < 2147483648) (hown : w.ownsRow B 5 1 sv n xs) (hB : B ≤ w.heap.size) (hn : n ≤ 1000000000) :
  Calls Tryz.prog 92 #[sv, .int .i64 i] w fun e w' => ∃ v', e = .returned v' ∧ w'.ownsRow B 5 1 v' (n + 4) (xs ++ Lib.byteCells (num4 i)) ∧ Below B w w' := by
 have HF := hid hown
 obtain ⟨so, sc, rfl⟩ := (show ∃ o c, sv = .slice o n c from by rcases hown.2 with ⟨rfl, rfl⟩ | ⟨g, cap, cur, rfl, _⟩ <;> exact ⟨_, _, rfl⟩)
 have HN := hid (num4_cells i)
 obtain ⟨wq, eq⟩ : ∃ wq, w.alloc (.cells #[.int .u8 (i % 256), .int .u8 (i / 256 % 256), .int .u8 (i / 65536 % 256), .int .u8 (i / 16777216 % 256)] 5) = wq := ⟨_, rfl⟩
 have hbq : Below w.heap.size w wq := by rw [← eq]; exact (Below.refl _ _).alloc (Nat.le_refl _) _
 have hnq : wq.heap[w.heap.size]? = some (.cells #[.int .u8 (i % 256), .int .u8 (i / 256 % 256), .int .u8 (i / 65536 % 256), .int .u8 (i / 16777216 % 256)] 5 (0, 0)) := by rw [← eq]; exact new_block _ _
 have HFq := hid (owns_kept hown fun g hg => hbq.block g (owns_lt hown g hg).2)
 have HBq := hid (hbq.mono hB)
 have hdq := Nat.le_trans hB hbq.size
 obtain ⟨j0, hj, hk0, hk1, hk2⟩ := info_parts info5
 clear hown hbq
 go_enter Tryz.func92, Tryz.ntmps92
 go_wp2_with (at_builtin; refine wpList_append_own_at _ rfl (.tmp 5) (.tmp 17) 99 rfl B 5 j0 (.int .u8 0) 1 1 Tryz.underlying99 hj hk0 hk1 hk2 rfl (by decide) (.slice so n sc) n xs rfl HFq.out ⟨w.heap.size, 0, none⟩ 4 4 [.int .u8 (i % 256), .int .u8 (i / 256 % 256), .int .u8 (i / 65536 % 256), .int .u8 (i / 16777216 % 256)] rfl rfl ?_ ?_ ?_ ?_ ?_ ?_)
 ·intro j v hj
  have := Lib.cell_of_heap hnq j
  rw [show (⟨w.heap.size, 0, none⟩ : Addr).add j = ⟨w.heap.size, j, none⟩ by simp [Addr.add]; omega]
  rw [this, ← hj]
  simp
 ·intro v hv
  simp only [List.mem_cons, List.not_mem_nil, or_false] at hv
  rcases hv with rfl | rfl | rfl | rfl <;> rfl
 ·unfold maxLen; omega
 ·omega
 ·exact hdq
 intro v7 w7 hown7 hgrow7 hnil7 hat7
 have HB7 := hid (HBq.out.grown hgrow7 hdq (fun q hq => (owns_lt HFq.out q hq).1))
 clear hgrow7 hnil7 hat7 hnq eq
 go_wp2_with fail
 go_ret
 exact ⟨v7, rfl, by rw [HN.out]; exact hown7, HB7.out⟩
end Go.Proofs.YtochckefnjobhaaGreatDoor
