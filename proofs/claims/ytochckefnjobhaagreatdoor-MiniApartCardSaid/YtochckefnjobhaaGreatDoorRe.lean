/- regex's reader: take, passed. -/
import Derived.Test.YtochckefnjobhaaGreatDoorRa
import Derived.Laws.Rows
import Derived.Laws.AppendOwn
import Derived.Maps.AppendAt
import Derived.Test.YtochckefnjobhaaGreatDoorXa
namespace Go.Proofs.YtochckefnjobhaaGreatDoor
open Go Go.RowKit Go.Lib
set_option linter.unusedVariables false
abbrev Gr (b : Nat) (w w' : World) : Prop := w.grownBy w' (some b)
theorem Gr.refl (b : Nat) (w : World) : Gr b w w := ⟨rfl, rfl, rfl, Nat.le_refl _, fun _ _ _ => rfl⟩
theorem gr_below {b : Nat} {w w' : World} (h : Below w.heap.size w w') : Gr b w w' := ⟨h.os, h.tape, h.output, h.size, fun i hi _ => h.block i hi⟩
theorem gr_set {b : Nat} {w w' : World} (h : Gr b w w') (i : Nat) (v : Value) : Gr b w (w'.setCell ⟨b, i, none⟩ v) :=
 World.grownBy.trans h ⟨rfl, rfl, rfl, by simp, fun i hi hne => Below.heap_setCell _ _ _ i (fun e => hne (congrArg some e))⟩
theorem rd_next {b : Nat} {s : ByteArray} {i : Nat} {w : World} (h : Rd b s i w) (j : Nat) : Rd b s j (w.setCell ⟨b, 1, none⟩ (.int .i64 j)) := by
 unfold Rd
 rw [heap_setCell_same w b 1 _ 96 _ h]
 rfl
abbrev flt (n : Nat) : Ending := .panicked [{ v := .iface 136 (.agg #[.int .i64 n]), recovered := false }]
set_option maxHeartbeats 1000000 in
theorem take_mid (b : Nat) (s : ByteArray) (i : Nat) (w : World) (h : Rd b s i w) (hs : s.size ≤ maxLen) (hi : i < s.size) :
  Calls Tryz.prog 136 #[.pointer (some ⟨b, 0, none⟩)] w fun e w' => e = .returned (.int .u8 (s[i]'hi).toNat) ∧ (Rd b s (i + 1) w' ∧ Gr b w w') := by
 have k := hid (peek_mid b s i w h hs hi)
 unfold maxLen at hs
 go_enter Tryz.func136, Tryz.ntmps136
 go_wp2_with fail
 refine k.out.mono ?_
 rintro e w1 ⟨rfl, hb1, hh1⟩
 have h1 : Rd b s i w1 := by unfold Rd; rw [hh1]; exact h
 have c1 : w1.cell? ⟨b, 1, none⟩ = some (.int .i64 i) := by rw [Lib.cell_of_heap h1]; rfl
 have f1 : w1.frozen? ⟨b, 1, none⟩ = false := Lib.frozen_of_heap h1 1
 go_wp2_with fail
 go_ret
 exact ⟨rfl, rd_next h1 (i + 1), gr_set (gr_below hb1) 1 _⟩
theorem take_end (b : Nat) (s : ByteArray) (w : World) (h : Rd b s s.size w) (hs : s.size ≤ maxLen) :
  Calls Tryz.prog 136 #[.pointer (some ⟨b, 0, none⟩)] w fun e w' => e = flt 5 ∧ Gr b w w' := by
 have k := hid (peek_end b s w h hs)
 go_enter Tryz.func136, Tryz.ntmps136
 go_wp2_with fail
 refine k.out.mono ?_
 rintro e w1 ⟨rfl, hb1, hh1⟩
 have k2 := hid fun w => fail_any b 5 w
 go_wp2_with fail
 refine (k2.out _).mono ?_
 rintro e w2 ⟨rfl, rfl⟩
 exact ⟨rfl, rfl, gr_below hb1⟩
theorem passed_end (b : Nat) (s : ByteArray) (c : Int) (w : World) (h : Rd b s s.size w) (hs : s.size ≤ maxLen) :
  Calls Tryz.prog 104 #[.pointer (some ⟨b, 0, none⟩), .int .u8 c] w fun e w' => e = .returned (.bool false) ∧ (Rd b s s.size w' ∧ Gr b w w') := by
 have k := hid (peek_end b s w h hs)
 go_enter Tryz.func104, Tryz.ntmps104
 go_wp2_with fail
 refine k.out.mono ?_
 rintro e w1 ⟨rfl, hb1, hh1⟩
 go_wp2_with fail
 go_ret
 exact ⟨rfl, by unfold Rd; rw [hh1]; exact h, gr_below hb1⟩
theorem passed_no (b : Nat) (s : ByteArray) (c : Int) (i : Nat) (w : World) (h : Rd b s i w) (hs : s.size ≤ maxLen) (hi : i < s.size) (hc : ((s[i]'hi).toNat : Int) ≠ c) :
  Calls Tryz.prog 104 #[.pointer (some ⟨b, 0, none⟩), .int .u8 c] w fun e w' => e = .returned (.bool false) ∧ (Rd b s i w' ∧ Gr b w w') := by
 have k := hid (peek_mid b s i w h hs hi)
 have hc' : ((((s[i]'hi).toNat : Int)) == c) = false := by simpa using hc
 go_enter Tryz.func104, Tryz.ntmps104
 go_wp2_with fail
 refine k.out.mono ?_
 rintro e w1 ⟨rfl, hb1, hh1⟩
 go_wp2_with fail
 go_ret
 exact ⟨rfl, by unfold Rd; rw [hh1]; exact h, gr_below hb1⟩
theorem passed_yes (b : Nat) (s : ByteArray) (i : Nat) (w : World) (h : Rd b s i w) (hs : s.size ≤ maxLen) (hi : i < s.size) :
  Calls Tryz.prog 104 #[.pointer (some ⟨b, 0, none⟩), .int .u8 (s[i]'hi).toNat] w fun e w' => e = .returned (.bool true) ∧ (Rd b s (i + 1) w' ∧ Gr b w w') := by
 have k := hid (peek_mid b s i w h hs hi)
 unfold maxLen at hs
 go_enter Tryz.func104, Tryz.ntmps104
 go_wp2_with fail
 refine k.out.mono ?_
 rintro e w1 ⟨rfl, hb1, hh1⟩
 have h1 : Rd b s i w1 := by unfold Rd; rw [hh1]; exact h
 have c1 : w1.cell? ⟨b, 1, none⟩ = some (.int .i64 i) := by rw [Lib.cell_of_heap h1]; rfl
 have f1 : w1.frozen? ⟨b, 1, none⟩ = false := Lib.frozen_of_heap h1 1
 go_wp2_with fail
 go_ret
 exact ⟨rfl, rd_next h1 (i + 1), gr_set (gr_below hb1) 1 _⟩
end Go.Proofs.YtochckefnjobhaaGreatDoor
namespace Go.Proofs.YtochckefnjobhaaGreatDoor
open Go Go.RowKit Go.Lib
set_option linter.unusedVariables false
abbrev LL (s : ByteArray) : List UInt8 := s.data.toList
def NP (b : Nat) (s : ByteArray) (w : World) (r : X3.PR Nat) (e : Ending) (w' : World) : Prop :=
 match r with
 | .ok n j => e = .returned (.int .u8 (n : Int)) ∧ (Rd b s j w' ∧ Gr b w w' ∧ j ≤ s.size ∧ n < 256)
 | .err c => e = flt c ∧ Gr b w w'
theorem ll_at {s : ByteArray} {i : Nat} (hi : i < s.size) : (LL s)[i]? = some (s[i]'hi) := by
 show s.data.toList[i]? = _
 rw [Array.getElem?_toList]
 exact Array.getElem?_eq_getElem hi
theorem ll_end (s : ByteArray) : (LL s)[s.size]? = none := by
 show s.data.toList[s.data.size]? = _
 rw [Array.getElem?_toList]
 simp
theorem x_take {s : ByteArray} {i : Nat} (hi : i < s.size) : X3.take (LL s) i = .ok (s[i]'hi) (i + 1) := by
 unfold X3.take; rw [ll_at hi]
theorem x_take_end (s : ByteArray) : X3.take (LL s) s.size = .err 5 := by
 unfold X3.take; rw [ll_end]
set_option maxHeartbeats 2000000 in
theorem digit_any (b : Nat) (s : ByteArray) (i : Nat) (w : World) (h : Rd b s i w) (hs : s.size ≤ maxLen) (hi : i ≤ s.size) :
  Calls Tryz.prog 153 #[.pointer (some ⟨b, 0, none⟩)] w (NP b s w (X3.digitX (LL s) i)) := by
 by_cases hlt : i < s.size
 ·have k := hid (take_mid b s i w h hs hlt)
  have kf := hid fun w => fail_any b 5 w
  have hx := (s[i]'hlt).toNat_lt
  have e1 : X3.digitX (LL s) i = if 48 ≤ (s[i]'hlt).toNat ∧ (s[i]'hlt).toNat ≤ 57 then .ok ((s[i]'hlt).toNat - 48) (i + 1)
    else if 97 ≤ (s[i]'hlt).toNat ∧ (s[i]'hlt).toNat ≤ 102 then .ok ((s[i]'hlt).toNat - 87) (i + 1) else .err 5 := by
   unfold X3.digitX; rw [x_take hlt]; rfl
  rw [e1]
  clear e1
  generalize (s[i]'hlt).toNat = x at *
  by_cases a1 : (48 : Int) ≤ x ∧ (x : Int) ≤ 57
  ·have hc : 48 ≤ x ∧ x ≤ 57 := by omega
   obtain ⟨a1, a2⟩ := a1
   rw [if_pos hc]
   have a3 : ((x : Int) - 48) = ((x - 48 : Nat) : Int) := by omega
   go_enter Tryz.func153, Tryz.ntmps153
   go_wp2_with fail
   refine k.out.mono ?_
   rintro e w1 ⟨rfl, hr, hg⟩
   go_wp2_with fail
   go_ret
   exact ⟨rfl, hr, hg, by omega, by omega⟩
  have hc : ¬(48 ≤ x ∧ x ≤ 57) := by omega
  rw [if_neg hc]
  by_cases a2 : (97 : Int) ≤ x ∧ (x : Int) ≤ 102
  ·have hd : 97 ≤ x ∧ x ≤ 102 := by omega
   rw [if_pos hd]
   obtain ⟨b1, b2⟩ := a2
   have a3 : ((x : Int) - 97) = ((x - 97 : Nat) : Int) := by omega
   have a4 : (((x - 97 : Nat) : Int) + 10) = ((x - 87 : Nat) : Int) := by omega
   have a5 : (48 : Int) ≤ x := by omega
   have a6 : ¬ (x : Int) ≤ 57 := by omega
   go_enter Tryz.func153, Tryz.ntmps153
   go_wp2_with fail
   refine k.out.mono ?_
   rintro e w1 ⟨rfl, hr, hg⟩
   go_wp2_with fail
   go_ret
   exact ⟨rfl, hr, hg, by omega, by omega⟩
  have hd : ¬(97 ≤ x ∧ x ≤ 102) := by omega
  rw [if_neg hd]
  by_cases b1 : (48 : Int) ≤ x
  ·have b2 : ¬ (x : Int) ≤ 57 := by omega
   by_cases b3 : (97 : Int) ≤ x
   ·have b4 : ¬ (x : Int) ≤ 102 := by omega
    go_enter Tryz.func153, Tryz.ntmps153
    go_wp2_with fail
    refine k.out.mono ?_
    rintro e w1 ⟨rfl, hr, hg⟩
    go_wp2_with fail
    refine (kf.out _).mono ?_
    rintro e w2 ⟨rfl, rfl⟩
    exact ⟨rfl, rfl, hg⟩
   ·skip
    go_enter Tryz.func153, Tryz.ntmps153
    go_wp2_with fail
    refine k.out.mono ?_
    rintro e w1 ⟨rfl, hr, hg⟩
    go_wp2_with fail
    refine (kf.out _).mono ?_
    rintro e w2 ⟨rfl, rfl⟩
    exact ⟨rfl, rfl, hg⟩
  ·have b3 : ¬ (97 : Int) ≤ x := by omega
   go_enter Tryz.func153, Tryz.ntmps153
   go_wp2_with fail
   refine k.out.mono ?_
   rintro e w1 ⟨rfl, hr, hg⟩
   go_wp2_with fail
   refine (kf.out _).mono ?_
   rintro e w2 ⟨rfl, rfl⟩
   exact ⟨rfl, rfl, hg⟩
 ·obtain rfl : i = s.size := by omega
  have k := hid (take_end b s w h hs)
  have e1 : X3.digitX (LL s) s.size = .err 5 := by unfold X3.digitX; rw [x_take_end]; rfl
  rw [e1]
  go_enter Tryz.func153, Tryz.ntmps153
  go_wp2_with fail
  refine k.out.mono ?_
  rintro e w1 ⟨rfl, hg⟩
  exact ⟨rfl, rfl, hg⟩
end Go.Proofs.YtochckefnjobhaaGreatDoor
namespace Go.Proofs.YtochckefnjobhaaGreatDoor
open Go Go.RowKit Go.Lib
set_option linter.unusedVariables false
theorem digitX_lt {L : List UInt8} {i n j : Nat} (h : X3.digitX L i = .ok n j) : n < 16 := by
 unfold X3.digitX at h
 obtain ⟨b, k, h1, h2⟩ := X3.bind_ok h
 split at h2
 ·injection h2; omega
 ·split at h2
  ·injection h2; omega
  ·cases h2
theorem or16 : ∀ h l : Fin 16, bits BinOp.or IntKind.u8 ((h.val : Int) * 16) (l.val : Int) = ((h.val * 16 + l.val : Nat) : Int) := by decide
theorem escX_at {s : ByteArray} {i : Nat} (hi : i < s.size) : X3.escX (LL s) i =
  if (s[i]'hi).toNat = 110 then .ok 10 (i + 1)
  else if (s[i]'hi).toNat = 116 then .ok 9 (i + 1)
  else if (s[i]'hi).toNat = 114 then .ok 13 (i + 1)
  else if (s[i]'hi).toNat = 115 then .ok 32 (i + 1)
  else if (s[i]'hi).toNat = 120 then (X3.digitX (LL s) (i + 1)).bind fun h k => (X3.digitX (LL s) k).bind fun l m => .ok (h * 16 + l) m
  else if (97 ≤ (s[i]'hi).toNat ∧ (s[i]'hi).toNat ≤ 122) ∨ (65 ≤ (s[i]'hi).toNat ∧ (s[i]'hi).toNat ≤ 90) ∨ (48 ≤ (s[i]'hi).toNat ∧ (s[i]'hi).toNat ≤ 57) then .err 5
  else .ok (s[i]'hi).toNat (i + 1) := by
 unfold X3.escX; rw [x_take hi]; rfl
set_option maxRecDepth 100000 in
set_option maxHeartbeats 4000000 in
theorem escaped_any (b : Nat) (s : ByteArray) (i : Nat) (w : World) (h : Rd b s i w) (hs : s.size ≤ maxLen) (hi : i ≤ s.size) :
  Calls Tryz.prog 141 #[.pointer (some ⟨b, 0, none⟩)] w (NP b s w (X3.escX (LL s) i)) := by
 by_cases hlt : i < s.size
 ·have k := hid (take_mid b s i w h hs hlt)
  have kf := hid fun w => fail_any b 5 w
  have hx := (s[i]'hlt).toNat_lt
  rw [escX_at hlt]
  generalize (s[i]'hlt).toNat = x at *
  by_cases c110 : x = 110
  ·subst c110
   rw [if_pos rfl]
   go_enter Tryz.func141, Tryz.ntmps141
   go_wp2_with fail
   refine k.out.mono ?_
   rintro e w1 ⟨rfl, hr, hg⟩
   go_wp2_with fail
   go_ret
   exact ⟨rfl, hr, hg, by omega, by omega⟩
  rw [if_neg c110]
  have n110 : ((x : Int) == 110) = false := by simp; omega
  by_cases c116 : x = 116
  ·subst c116
   rw [if_pos rfl]
   go_enter Tryz.func141, Tryz.ntmps141
   go_wp2_with fail
   refine k.out.mono ?_
   rintro e w1 ⟨rfl, hr, hg⟩
   go_wp2_with fail
   go_ret
   exact ⟨rfl, hr, hg, by omega, by omega⟩
  rw [if_neg c116]
  have n116 : ((x : Int) == 116) = false := by simp; omega
  by_cases c114 : x = 114
  ·subst c114
   rw [if_pos rfl]
   go_enter Tryz.func141, Tryz.ntmps141
   go_wp2_with fail
   refine k.out.mono ?_
   rintro e w1 ⟨rfl, hr, hg⟩
   go_wp2_with fail
   go_ret
   exact ⟨rfl, hr, hg, by omega, by omega⟩
  rw [if_neg c114]
  have n114 : ((x : Int) == 114) = false := by simp; omega
  by_cases c115 : x = 115
  ·subst c115
   rw [if_pos rfl]
   go_enter Tryz.func141, Tryz.ntmps141
   go_wp2_with fail
   refine k.out.mono ?_
   rintro e w1 ⟨rfl, hr, hg⟩
   go_wp2_with fail
   go_ret
   exact ⟨rfl, hr, hg, by omega, by omega⟩
  rw [if_neg c115]
  have n115 : ((x : Int) == 115) = false := by simp; omega
  by_cases c120 : x = 120
  ·subst c120
   rw [if_pos rfl]
   have kd := hid fun i w h hi => digit_any b s i w h hs hi
   cases hD : X3.digitX (LL s) (i + 1) with
   | err c =>
    show Calls _ _ _ _ (NP b s w (.err c))
    go_enter Tryz.func141, Tryz.ntmps141
    go_wp2_with fail
    refine k.out.mono ?_
    rintro e w1 ⟨rfl, hr, hg⟩
    go_wp2_with fail
    refine (kd.out (i + 1) _ hr (by omega)).mono ?_
    intro e w2 h2
    rw [hD] at h2
    obtain ⟨rfl, hg2⟩ := h2
    exact ⟨rfl, rfl, World.grownBy.trans hg hg2⟩
   | ok hh j =>
    show Calls _ _ _ _ (NP b s w ((X3.digitX (LL s) j).bind fun l m => .ok (hh * 16 + l) m))
    have l1 := digitX_lt hD
    cases hE : X3.digitX (LL s) j with
    | err c =>
     show Calls _ _ _ _ (NP b s w (.err c))
     go_enter Tryz.func141, Tryz.ntmps141
     go_wp2_with fail
     refine k.out.mono ?_
     rintro e w1 ⟨rfl, hr, hg⟩
     go_wp2_with fail
     refine (kd.out (i + 1) _ hr (by omega)).mono ?_
     intro e w2 h2
     rw [hD] at h2
     obtain ⟨rfl, hr2, hg2, hj, _⟩ := h2
     go_wp2_with fail
     refine (kd.out j _ hr2 hj).mono ?_
     intro e w3 h3
     rw [hE] at h3
     obtain ⟨rfl, hg3⟩ := h3
     exact ⟨rfl, rfl, World.grownBy.trans (World.grownBy.trans hg hg2) hg3⟩
    | ok ll m =>
     show Calls _ _ _ _ (NP b s w (.ok (hh * 16 + ll) m))
     have l2 := digitX_lt hE
     have hor : bits BinOp.or IntKind.u8 ((hh : Int) * 16) (ll : Int) = ((hh * 16 + ll : Nat) : Int) := or16 ⟨hh, l1⟩ ⟨ll, l2⟩
     go_enter Tryz.func141, Tryz.ntmps141
     go_wp2_with fail
     refine k.out.mono ?_
     rintro e w1 ⟨rfl, hr, hg⟩
     go_wp2_with fail
     refine (kd.out (i + 1) _ hr (by omega)).mono ?_
     intro e w2 h2
     rw [hD] at h2
     obtain ⟨rfl, hr2, hg2, hj, _⟩ := h2
     go_wp2_with fail
     refine (kd.out j _ hr2 hj).mono ?_
     intro e w3 h3
     rw [hE] at h3
     obtain ⟨rfl, hr3, hg3, hm, _⟩ := h3
     go_wp2_with fail
     go_ret
     exact ⟨rfl, hr3, World.grownBy.trans (World.grownBy.trans hg hg2) hg3, hm, by omega⟩
  rw [if_neg c120]
  have n120 : ((x : Int) == 120) = false := by simp; omega
  by_cases r0 : x ≤ 47
  ·skip
   have t0 : ¬ (97 : Int) ≤ x := by omega
   have t1 : (x : Int) ≤ 122 := by omega
   have t2 : ¬ (65 : Int) ≤ x := by omega
   have t3 : (x : Int) ≤ 90 := by omega
   have t4 : ¬ (48 : Int) ≤ x := by omega
   have t5 : (x : Int) ≤ 57 := by omega
   rw [if_neg (by omega)]
   go_enter Tryz.func141, Tryz.ntmps141
   go_wp2_with fail
   refine k.out.mono ?_
   rintro e w1 ⟨rfl, hr, hg⟩
   go_wp2_with fail
   go_ret
   exact ⟨rfl, hr, hg, by omega, by omega⟩
  by_cases r1 : x ≤ 57
  ·skip
   have t0 : ¬ (97 : Int) ≤ x := by omega
   have t1 : (x : Int) ≤ 122 := by omega
   have t2 : ¬ (65 : Int) ≤ x := by omega
   have t3 : (x : Int) ≤ 90 := by omega
   have t4 : (48 : Int) ≤ x := by omega
   have t5 : (x : Int) ≤ 57 := by omega
   rw [if_pos (by omega)]
   go_enter Tryz.func141, Tryz.ntmps141
   go_wp2_with fail
   refine k.out.mono ?_
   rintro e w1 ⟨rfl, hr, hg⟩
   go_wp2_with fail
   refine (kf.out _).mono ?_
   rintro e w2 ⟨rfl, rfl⟩
   exact ⟨rfl, rfl, hg⟩
  by_cases r2 : x ≤ 64
  ·skip
   have t0 : ¬ (97 : Int) ≤ x := by omega
   have t1 : (x : Int) ≤ 122 := by omega
   have t2 : ¬ (65 : Int) ≤ x := by omega
   have t3 : (x : Int) ≤ 90 := by omega
   have t4 : (48 : Int) ≤ x := by omega
   have t5 : ¬ (x : Int) ≤ 57 := by omega
   rw [if_neg (by omega)]
   go_enter Tryz.func141, Tryz.ntmps141
   go_wp2_with fail
   refine k.out.mono ?_
   rintro e w1 ⟨rfl, hr, hg⟩
   go_wp2_with fail
   go_ret
   exact ⟨rfl, hr, hg, by omega, by omega⟩
  by_cases r3 : x ≤ 90
  ·skip
   have t0 : ¬ (97 : Int) ≤ x := by omega
   have t1 : (x : Int) ≤ 122 := by omega
   have t2 : (65 : Int) ≤ x := by omega
   have t3 : (x : Int) ≤ 90 := by omega
   have t4 : (48 : Int) ≤ x := by omega
   have t5 : ¬ (x : Int) ≤ 57 := by omega
   rw [if_pos (by omega)]
   go_enter Tryz.func141, Tryz.ntmps141
   go_wp2_with fail
   refine k.out.mono ?_
   rintro e w1 ⟨rfl, hr, hg⟩
   go_wp2_with fail
   refine (kf.out _).mono ?_
   rintro e w2 ⟨rfl, rfl⟩
   exact ⟨rfl, rfl, hg⟩
  by_cases r4 : x ≤ 96
  ·skip
   have t0 : ¬ (97 : Int) ≤ x := by omega
   have t1 : (x : Int) ≤ 122 := by omega
   have t2 : (65 : Int) ≤ x := by omega
   have t3 : ¬ (x : Int) ≤ 90 := by omega
   have t4 : (48 : Int) ≤ x := by omega
   have t5 : ¬ (x : Int) ≤ 57 := by omega
   rw [if_neg (by omega)]
   go_enter Tryz.func141, Tryz.ntmps141
   go_wp2_with fail
   refine k.out.mono ?_
   rintro e w1 ⟨rfl, hr, hg⟩
   go_wp2_with fail
   go_ret
   exact ⟨rfl, hr, hg, by omega, by omega⟩
  by_cases r5 : x ≤ 122
  ·skip
   have t0 : (97 : Int) ≤ x := by omega
   have t1 : (x : Int) ≤ 122 := by omega
   have t2 : (65 : Int) ≤ x := by omega
   have t3 : ¬ (x : Int) ≤ 90 := by omega
   have t4 : (48 : Int) ≤ x := by omega
   have t5 : ¬ (x : Int) ≤ 57 := by omega
   rw [if_pos (by omega)]
   go_enter Tryz.func141, Tryz.ntmps141
   go_wp2_with fail
   refine k.out.mono ?_
   rintro e w1 ⟨rfl, hr, hg⟩
   go_wp2_with fail
   refine (kf.out _).mono ?_
   rintro e w2 ⟨rfl, rfl⟩
   exact ⟨rfl, rfl, hg⟩
  have t0 : (97 : Int) ≤ x := by omega
  have t1 : ¬ (x : Int) ≤ 122 := by omega
  have t2 : (65 : Int) ≤ x := by omega
  have t3 : ¬ (x : Int) ≤ 90 := by omega
  have t4 : (48 : Int) ≤ x := by omega
  have t5 : ¬ (x : Int) ≤ 57 := by omega
  rw [if_neg (by omega)]
  go_enter Tryz.func141, Tryz.ntmps141
  go_wp2_with fail
  refine k.out.mono ?_
  rintro e w1 ⟨rfl, hr, hg⟩
  go_wp2_with fail
  go_ret
  exact ⟨rfl, hr, hg, by omega, by omega⟩
 ·obtain rfl : i = s.size := by omega
  have k := hid (take_end b s w h hs)
  have e1 : X3.escX (LL s) s.size = .err 5 := by unfold X3.escX; rw [x_take_end]; rfl
  rw [e1]
  go_enter Tryz.func141, Tryz.ntmps141
  go_wp2_with fail
  refine k.out.mono ?_
  rintro e w1 ⟨rfl, hg⟩
  exact ⟨rfl, rfl, hg⟩
end Go.Proofs.YtochckefnjobhaaGreatDoor
namespace Go.Proofs.YtochckefnjobhaaGreatDoor
open Go Go.RowKit Go.Lib
set_option linter.unusedVariables false
theorem itemByte_at {s : ByteArray} {i : Nat} (hi : i < s.size) : X3.itemByte (LL s) i =
  if (s[i]'hi).toNat = 93 ∨ (s[i]'hi).toNat = 45 then .err 5
  else if (s[i]'hi).toNat = 92 then X3.escX (LL s) (i + 1)
  else .ok (s[i]'hi).toNat (i + 1) := by
 unfold X3.itemByte; rw [x_take hi]; rfl
theorem NP.pass {b : Nat} {s : ByteArray} {w w1 w2 : World} {r : X3.PR Nat} {e : Ending} (hg : Gr b w w1) (h : NP b s w1 r e w2) : NP b s w r e w2 := by
 cases r with
 | err c => exact ⟨h.1, World.grownBy.trans hg h.2⟩
 | ok n j => exact ⟨h.1, h.2.1, World.grownBy.trans hg h.2.2.1, h.2.2.2⟩
set_option maxRecDepth 100000 in
set_option maxHeartbeats 4000000 in
theorem itemByte_any (b : Nat) (s : ByteArray) (i : Nat) (w : World) (h : Rd b s i w) (hs : s.size ≤ maxLen) (hi : i ≤ s.size) :
  Calls Tryz.prog 152 #[.pointer (some ⟨b, 0, none⟩)] w (NP b s w (X3.itemByte (LL s) i)) := by
 by_cases hlt : i < s.size
 ·have k := hid (take_mid b s i w h hs hlt)
  have kf := hid fun w => fail_any b 5 w
  have hx := (s[i]'hlt).toNat_lt
  rw [itemByte_at hlt]
  generalize (s[i]'hlt).toNat = x at *
  by_cases c93 : x = 93
  ·subst c93
   rw [if_pos (by omega)]
   go_enter Tryz.func152, Tryz.ntmps152
   go_wp2_with fail
   refine k.out.mono ?_
   rintro e w1 ⟨rfl, hr, hg⟩
   go_wp2_with fail
   refine (kf.out _).mono ?_
   rintro e w2 ⟨rfl, rfl⟩
   exact ⟨rfl, rfl, hg⟩
  have n93 : ((x : Int) == 93) = false := by simp; omega
  by_cases c45 : x = 45
  ·subst c45
   rw [if_pos (by omega)]
   go_enter Tryz.func152, Tryz.ntmps152
   go_wp2_with fail
   refine k.out.mono ?_
   rintro e w1 ⟨rfl, hr, hg⟩
   go_wp2_with fail
   refine (kf.out _).mono ?_
   rintro e w2 ⟨rfl, rfl⟩
   exact ⟨rfl, rfl, hg⟩
  have n45 : ((x : Int) == 45) = false := by simp; omega
  rw [if_neg (by omega)]
  by_cases c92 : x = 92
  ·subst c92
   rw [if_pos rfl]
   have ke := hid fun i w h hi => escaped_any b s i w h hs hi
   cases hD : X3.escX (LL s) (i + 1) with
   | err c =>
    go_enter Tryz.func152, Tryz.ntmps152
    go_wp2_with fail
    refine k.out.mono ?_
    rintro e w1 ⟨rfl, hr, hg⟩
    go_wp2_with fail
    refine (ke.out (i + 1) _ hr (by omega)).mono ?_
    intro e w2 h2
    rw [hD] at h2
    obtain ⟨rfl, hg2⟩ := h2
    exact ⟨rfl, rfl, World.grownBy.trans hg hg2⟩
   | ok n j =>
    go_enter Tryz.func152, Tryz.ntmps152
    go_wp2_with fail
    refine k.out.mono ?_
    rintro e w1 ⟨rfl, hr, hg⟩
    go_wp2_with fail
    refine (ke.out (i + 1) _ hr (by omega)).mono ?_
    intro e w2 h2
    rw [hD] at h2
    obtain ⟨rfl, hr2, hg2, hj, hn⟩ := h2
    go_wp2_with fail
    go_ret
    exact ⟨rfl, hr2, World.grownBy.trans hg hg2, hj, hn⟩
  rw [if_neg c92]
  have n92 : ((x : Int) == 92) = false := by simp; omega
  go_enter Tryz.func152, Tryz.ntmps152
  go_wp2_with fail
  refine k.out.mono ?_
  rintro e w1 ⟨rfl, hr, hg⟩
  go_wp2_with fail
  go_ret
  exact ⟨rfl, hr, hg, by omega, by omega⟩
 ·obtain rfl : i = s.size := by omega
  have k := hid (take_end b s w h hs)
  have e1 : X3.itemByte (LL s) s.size = .err 5 := by unfold X3.itemByte; rw [x_take_end]; rfl
  rw [e1]
  go_enter Tryz.func152, Tryz.ntmps152
  go_wp2_with fail
  refine k.out.mono ?_
  rintro e w1 ⟨rfl, hg⟩
  exact ⟨rfl, rfl, hg⟩
end Go.Proofs.YtochckefnjobhaaGreatDoor
