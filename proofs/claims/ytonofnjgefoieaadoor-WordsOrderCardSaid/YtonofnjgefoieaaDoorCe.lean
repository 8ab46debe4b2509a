/- word.readRegex, at every text. -/
import Derived.Test.YtonofnjgefoieaaDoorCd
namespace Go.Proofs.YtonofnjgefoieaaDoor
open Go Go.RowKit Go.Lib Go.Proofs.W8
set_option linter.unusedVariables false

/-- A word as a value. -/
abbrev wordV (k : Int) (t : ByteArray) (n a : Int) : Value := .agg #[.int .i64 k, .string t, .int .i64 n, .int .i64 a]

/-- What readRegex hands back of a text that begins with '/'. -/
def rxV (l : List UInt8) : Value :=
  match rx (l.drop 1) with
  | some x => .tuple #[wordV 3 (bs x.1) 0 0, .int .i64 ((x.2 + 1 : Nat) : Int), .int .i64 0]
  | none => .tuple #[wordV 0 ⟨#[]⟩ 0 0, .int .i64 0, .int .i64 5]

def RR (l : List UInt8) (k : Nat) (acc : List UInt8) : Prop := rx (l.drop 1) = (rx (l.drop k)).map (fun x => (acc ++ x.1, x.2 + (k - 1)))

theorem RR.none {s : ByteArray} {k : Nat} {acc : List UInt8} (h : RR s.data.toList k acc) (hq : rx (s.data.toList.drop k) = none) : rxV s.data.toList = .tuple #[wordV 0 ⟨#[]⟩ 0 0, .int .i64 0, .int .i64 5] := by
  unfold RR at h; rw [hq] at h; unfold rxV; rw [h]; rfl
theorem RR.step {s : ByteArray} {k : Nat} (n : Nat) {acc : List UInt8} (more : List UInt8) (h : RR s.data.toList k acc) (h1 : 1 ≤ k) (hq : rx (s.data.toList.drop k) = (rx (s.data.toList.drop (k + n))).map (fun x => (more ++ x.1, x.2 + n))) : RR s.data.toList (k + n) (acc ++ more) := by
  unfold RR at *; rw [h, hq, Option.map_map]; congr 1; funext x; simp; omega
theorem RR.done {s : ByteArray} {k : Nat} {acc : List UInt8} (h : RR s.data.toList k acc) (h1 : 1 ≤ k) (hq : rx (s.data.toList.drop k) = some ([], 1)) : rxV s.data.toList = .tuple #[wordV 3 (bs acc) 0 0, .int .i64 ((k + 1 : Nat) : Int), .int .i64 0] := by
  unfold RR at h; rw [hq] at h; unfold rxV; rw [h]
  have e : 1 + (k - 1) + 1 = k + 1 := by omega
  simp [e]

theorem rx_10 (b : UInt8) (l : List UInt8) (h : b.toNat = 10) : rx (b :: l) = none := by
  cases l <;> simp [rx, h]
theorem rx_47 (b : UInt8) (l : List UInt8) (h : b.toNat = 47) : rx (b :: l) = some ([], 1) := by
  cases l <;> simp [rx, h]
theorem rx_92_end (b : UInt8) (h : b.toNat = 92) : rx [b] = none := by simp [rx, h]
theorem rx_92_47 (b c : UInt8) (l : List UInt8) (h : b.toNat = 92) (hc : c.toNat = 47) : rx (b :: c :: l) = (rx l).map (fun x => ([47] ++ x.1, x.2 + 2)) := by simp [rx, h, hc]
theorem rx_92_10 (b c : UInt8) (l : List UInt8) (h : b.toNat = 92) (hc : c.toNat = 10) : rx (b :: c :: l) = none := by simp [rx, h, hc]
theorem rx_92 (b c : UInt8) (l : List UInt8) (h : b.toNat = 92) (h1 : c.toNat ≠ 47) (h2 : c.toNat ≠ 10) : rx (b :: c :: l) = (rx l).map (fun x => ([b, c] ++ x.1, x.2 + 2)) := by
  have : b = 92 := u8_eq (by decide) h
  subst this
  simp [rx, h1, h2]
theorem rx_any (b : UInt8) (l : List UInt8) (h1 : b.toNat ≠ 10) (h2 : b.toNat ≠ 47) (h3 : b.toNat ≠ 92) : rx (b :: l) = (rx l).map (fun x => ([b] ++ x.1, x.2 + 1)) := by
  rw [rx_plain b l h1 h2 h3]; rfl

abbrev zeroW : Array Value := #[.int .i64 0, .string { data := #[] }, .int .i64 0, .int .i64 0]

theorem alloc_new (w : World) (o : Obj) : (w.alloc o).heap[w.heap.size]? = some o := by
  show (w.heap.push o)[w.heap.size]? = some o
  simp
theorem kept_cells {w w' : World} {b g : Nat} {cs : Array Value} {T : TypeId} {fr : Nat × Nat} (hk : Lib.OthersKept 5 (some b) w w') (h : w.heap[g]? = some (.cells cs T fr)) (hg : g ≠ b) (hT : T ≠ 5) : w'.heap[g]? = some (.cells cs T fr) :=
  hk g _ h (fun e => hg (Option.some.inj e)) (fun c fz e => by cases e; exact hT rfl)

set_option maxRecDepth 100000 in
set_option maxHeartbeats 4000000 in
theorem readRegex_any (s : ByteArray) (w : World) (hs : s.size ≤ 1000000) (h1s : 1 ≤ s.size) :
    Calls Tryd.prog 30 #[.string s] w fun e w' => e = .returned (rxV s.data.toList) ∧ Below w.heap.size w w' := by
  go_enter Tryd.func30, Tryd.ntmps30
  go_wp2_with fail
  go_loopw [6] (fun i wr => ∃ (k : Nat) (acc : List UInt8), 1 ≤ k ∧ k ≤ s.size ∧ i = .int .i64 (k : Int) ∧ BldT (w.heap.size + 1) (w.heap.size + 1) acc wr ∧ wr.heap[w.heap.size]? = some (.cells zeroW 32 (0, 0)) ∧ Below w.heap.size w wr ∧ acc.length ≤ 2 * k ∧ RR s.data.toList k acc) (fun i _ => s.size - (Go.RowKit.intOf i).toNat)
  case atStart =>
    refine ⟨1, [], Nat.le_refl _, h1s, rfl, ?_, ?_, ?_, by simp, by unfold RR; simp⟩
    · have := Lib.IsBuilderF.of (Lib.fresh_isBuilder 39 5 (w.alloc (.cells zeroW 32)))
      have e : (w.alloc (.cells zeroW 32)).heap.size = w.heap.size + 1 := by simp
      rw [e] at this; exact this
    · rw [Lib.alloc_old _ _ _ (by simp)]; exact alloc_new w _
    · exact ((Below.refl _ w).alloc (Nat.le_refl _) _).alloc (by simp) _
  case round =>
    obtain ⟨k, acc, hk1, hk, rfl, hI, hc0, hbw, hal, hq⟩ := hrel
    have HQ := hid hq
    have hwz := hbw.size
    have hsz1 : w.heap.size + 1 < wr.heap.size := hI.elim (·.lt) (·.lt)
    have hsz2 : w.heap.size + 1 ≤ wr.heap.size := by omega
    have cc : ∀ o, wr.cell? ⟨w.heap.size, o, none⟩ = zeroW[o]? := fun o => Lib.cell_of_heap hc0 o
    have cz0 : wr.cell? ⟨w.heap.size, 0, none⟩ = some (.int .i64 0) := cc 0
    have cz1 : wr.cell? ⟨w.heap.size, 1, none⟩ = some (.string { data := #[] }) := cc 1
    have cz2 : wr.cell? ⟨w.heap.size, 2, none⟩ = some (.int .i64 0) := cc 2
    have cz3 : wr.cell? ⟨w.heap.size, 3, none⟩ = some (.int .i64 0) := cc 3
    have cf : ∀ o, wr.frozen? ⟨w.heap.size, o, none⟩ = false := fun o => Lib.frozen_of_heap hc0 o
    clear hq cc
    by_cases hlt : k < s.size
    · have hd := hid (drop_at s k hlt)
      have hb256 := byte_lt (s[k]'hlt)
      by_cases h10 : (s[k]'hlt).toNat = 10
      · have HV := hid (HQ.out.none (by rw [hd.out]; exact rx_10 _ _ h10))
        have t10 : (((s[k]'hlt).toNat : Int) == 10) = true := by simp; omega
        clear h10
        go_wp2_with fail
        exact bodyPost_ret (v := .tuple #[wordV 0 ⟨#[]⟩ 0 0, .int .i64 0, .int .i64 5]) (by simp [results, Tryd.results30, go_sem, cz0, cz1, cz2, cz3]) rfl ⟨by rw [HV.out], (((hbw.setCell (by simp) _).setCell (by simp) _).setCell (by simp) _).setCell (by simp) _⟩
      · have t10 : (((s[k]'hlt).toNat : Int) == 10) = false := by simp; omega
        by_cases h47 : (s[k]'hlt).toNat = 47
        · have HV := hid (HQ.out.done hk1 (by rw [hd.out, rx_47 _ _ h47]))
          have t47 : (((s[k]'hlt).toNat : Int) == 47) = true := by simp; omega
          clear h10 h47
          go_wp2_with fail
          refine (take_t (w.heap.size + 1) (w.heap.size + 1) acc _ hI hsz2).mono ?_
          rintro e w1 ⟨rfl, hb1, hk1'⟩
          have hc1 := kept_cells hk1' hc0 (by omega) (by decide)
          have dz0 : w1.cell? ⟨w.heap.size, 0, none⟩ = some (.int .i64 0) := Lib.cell_of_heap hc1 0
          have dz1 : w1.cell? ⟨w.heap.size, 1, none⟩ = some (.string { data := #[] }) := Lib.cell_of_heap hc1 1
          have dz2 : w1.cell? ⟨w.heap.size, 2, none⟩ = some (.int .i64 0) := Lib.cell_of_heap hc1 2
          have dz3 : w1.cell? ⟨w.heap.size, 3, none⟩ = some (.int .i64 0) := Lib.cell_of_heap hc1 3
          have df : ∀ o, w1.frozen? ⟨w.heap.size, o, none⟩ = false := fun o => Lib.frozen_of_heap hc1 o
          have hb2 : Below w.heap.size w w1 := hbw.trans (hb1.mono (by omega))
          go_wp2_with fail
          exact bodyPost_ret (v := .tuple #[wordV 3 (bs acc) 0 0, .int .i64 ((k + 1 : Nat) : Int), .int .i64 0]) (by simp [results, Tryd.results30, go_sem, dz0, dz1, dz2, dz3]) rfl ⟨by rw [HV.out], (((hb2.setCell (by simp) _).setCell (by simp) _).setCell (by simp) _).setCell (by simp) _⟩
        · have t47 : (((s[k]'hlt).toNat : Int) == 47) = false := by simp; omega
          by_cases h92 : (s[k]'hlt).toNat = 92
          · have t92 : (((s[k]'hlt).toNat : Int) == 92) = true := by simp; omega
            by_cases hk2 : k + 1 < s.size
            · have tk : (k : Int) + 1 < (s.size : Int) := by omega
              have hd2 := hid (drop_at s (k + 1) hk2)
              have hc256 := byte_lt (s[k + 1]'hk2)
              by_cases c47 : (s[k + 1]'hk2).toNat = 47
              · have HS := hid (RR.step 2 [47] HQ.out hk1 (by rw [hd.out, hd2.out, rx_92_47 _ _ _ h92 c47]))
                have u47 : (((s[k + 1]'hk2).toNat : Int) == 47) = true := by simp; omega
                clear h10 h47 h92 c47
                go_wp2_with fail
                refine (put_b (w.heap.size + 1) (w.heap.size + 1) acc 47 _ hI (by omega) hsz2).mono ?_
                rintro e w1 ⟨rfl, hI1, hb1, hk1⟩
                have hc1 := kept_cells hk1 hc0 (by omega) (by decide)
                go_wp2_with fail
                go_roundw
                case rel => exact ⟨k + 2, acc ++ [47], by omega, by omega, by go_num, hI1, hc1, hbw.trans (hb1.mono (by omega)), by simp; omega, HS.out⟩
                case measure => simp [Go.RowKit.intOf]; omega
              · have u47 : (((s[k + 1]'hk2).toNat : Int) == 47) = false := by simp; omega
                by_cases c10 : (s[k + 1]'hk2).toNat = 10
                · have HS := hid (RR.step 1 [s[k]'hlt] HQ.out hk1 (by rw [hd.out, hd2.out, rx_92_10 _ _ _ h92 c10, rx_10 _ _ c10]; rfl))
                  have u10 : (((s[k + 1]'hk2).toNat : Int) == 10) = true := by simp; omega
                  clear h10 h47 h92 c47 c10
                  go_wp2_with fail
                  refine (put_b (w.heap.size + 1) (w.heap.size + 1) acc (s[k]'hlt) _ hI (by omega) hsz2).mono ?_
                  rintro e w1 ⟨rfl, hI1, hb1, hk1⟩
                  have hc1 := kept_cells hk1 hc0 (by omega) (by decide)
                  go_wp2_with fail
                  go_roundw
                  case rel => exact ⟨k + 1, acc ++ [s[k]'hlt], by omega, by omega, by go_num, hI1, hc1, hbw.trans (hb1.mono (by omega)), by simp; omega, HS.out⟩
                  case measure => simp [Go.RowKit.intOf]; omega
                · have u10 : (((s[k + 1]'hk2).toNat : Int) == 10) = false := by simp; omega
                  have HS := hid (RR.step 2 [s[k]'hlt, s[k + 1]'hk2] HQ.out hk1 (by rw [hd.out, hd2.out, rx_92 _ _ _ h92 c47 c10]))
                  have HX := hid (extract2 s k hk2)
                  clear h10 h47 h92 c47 c10
                  go_wp2_with fail
                  refine (put_t (w.heap.size + 1) (w.heap.size + 1) acc (s.extract k (k + 2)) _ hI (by omega) (by rw [ByteArray.size_extract]; omega) hsz2).mono ?_
                  rintro e w1 ⟨rfl, hI1, hb1, hk1⟩
                  have hc1 := kept_cells hk1 hc0 (by omega) (by decide)
                  go_wp2_with fail
                  go_roundw
                  case rel => exact ⟨k + 2, acc ++ [s[k]'hlt, s[k + 1]'hk2], by omega, by omega, by go_num, by rw [HX.out] at hI1; exact hI1, hc1, hbw.trans (hb1.mono (by omega)), by simp; omega, HS.out⟩
                  case measure => simp [Go.RowKit.intOf]; omega
            · have HS := hid (RR.step 1 [s[k]'hlt] HQ.out hk1 (by rw [hd.out, drop_end0 s (k + 1) (by omega), rx_92_end _ h92]; rfl))
              have tk : (s.size : Int) ≤ (k : Int) + 1 := by omega
              clear h10 h47 h92
              go_wp2_with fail
              refine (put_b (w.heap.size + 1) (w.heap.size + 1) acc (s[k]'hlt) _ hI (by omega) hsz2).mono ?_
              rintro e w1 ⟨rfl, hI1, hb1, hk1⟩
              have hc1 := kept_cells hk1 hc0 (by omega) (by decide)
              go_wp2_with fail
              go_roundw
              case rel => exact ⟨k + 1, acc ++ [s[k]'hlt], by omega, by omega, by go_num, hI1, hc1, hbw.trans (hb1.mono (by omega)), by simp; omega, HS.out⟩
              case measure => simp [Go.RowKit.intOf]; omega
          · have t92 : (((s[k]'hlt).toNat : Int) == 92) = false := by simp; omega
            have HS := hid (RR.step 1 [s[k]'hlt] HQ.out hk1 (by rw [hd.out, rx_any _ _ h10 h47 h92]))
            clear h10 h47 h92
            go_wp2_with fail
            refine (put_b (w.heap.size + 1) (w.heap.size + 1) acc (s[k]'hlt) _ hI (by omega) hsz2).mono ?_
            rintro e w1 ⟨rfl, hI1, hb1, hk1⟩
            have hc1 := kept_cells hk1 hc0 (by omega) (by decide)
            go_wp2_with fail
            go_roundw
            case rel => exact ⟨k + 1, acc ++ [s[k]'hlt], by omega, by omega, by go_num, hI1, hc1, hbw.trans (hb1.mono (by omega)), by simp; omega, HS.out⟩
            case measure => simp [Go.RowKit.intOf]; omega
    · have HV := hid (HQ.out.none (by rw [drop_end0 s k (by omega)]; rfl))
      go_wp2_with fail
      exact bodyPost_ret (v := .tuple #[wordV 0 ⟨#[]⟩ 0 0, .int .i64 0, .int .i64 5]) (by simp [results, Tryd.results30, go_sem, cz0, cz1, cz2, cz3]) rfl ⟨by rw [HV.out], (((hbw.setCell (by simp) _).setCell (by simp) _).setCell (by simp) _).setCell (by simp) _⟩

end Go.Proofs.YtonofnjgefoieaaDoor
