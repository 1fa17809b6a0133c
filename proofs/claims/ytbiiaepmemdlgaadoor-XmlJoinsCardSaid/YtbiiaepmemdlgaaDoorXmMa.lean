/-
  LAYER 11 (xml), THE PROGRAM: the reader's past, upTo, space.
-/
import Derived.Test.YtbiiaepmemdlgaaDoorXmTok
namespace Go.Proofs.YtbiiaepmemdlgaaDoor
open Go.RowKit
set_option linter.unusedVariables false
set_option maxRecDepth 100000

set_option maxHeartbeats 1000000 in
theorem rPast_any {w : World} {F : Nat → Prop} {b : Nat} {s : RSt} (h : RIs w F b s) (p : ByteArray) :
    Calls Tryd.prog 18 #[.pointer (some ⟨b, 0, none⟩), .string p] w fun e w' => e = .returned (.bool (past p.data.toList s.rest).isSome) ∧ RTo F w w' b { s with rest := (past p.data.toList s.rest).getD s.rest } := by
  obtain ⟨c0, f0, hlt⟩ := rIs_rest h
  have HC : Hid (∀ wx, Calls Tryd.prog 32 #[.string (mk s.rest), .string p] wx fun e w' => e = .returned (.tuple #[.string (mk ((past p.data.toList s.rest).getD s.rest)), .bool (past p.data.toList s.rest).isSome]) ∧ wx = w') := hid (fun wx => cutPrefix_any (mk s.rest) p wx)
  have HS := hid (fun l => rIs_store h (Below.refl _ _) l)
  clear h
  generalize (past p.data.toList s.rest).getD s.rest = r at *
  generalize (past p.data.toList s.rest).isSome = o at *
  go_enter Tryd.func18, Tryd.ntmps18
  go_wp2_with (go_at_call 32; (with_reducible refine (HC.out _).mono ?_); rintro e w' ⟨rfl, rfl⟩)
  go_ret
  exact ⟨rfl, HS.out r⟩
theorem rPast_yes {w : World} {F : Nat → Prop} {b : Nat} {s : RSt} (h : RIs w F b s) (p : ByteArray) {r : List UInt8} (hp : past p.data.toList s.rest = some r) :
    Calls Tryd.prog 18 #[.pointer (some ⟨b, 0, none⟩), .string p] w fun e w' => e = .returned (.bool true) ∧ RTo F w w' b { s with rest := r } := by
  have := rPast_any h p
  rw [hp] at this
  exact this
theorem rPast_no {w : World} {F : Nat → Prop} {b : Nat} {s : RSt} (h : RIs w F b s) (p : ByteArray) (hp : past p.data.toList s.rest = none) :
    Calls Tryd.prog 18 #[.pointer (some ⟨b, 0, none⟩), .string p] w fun e w' => e = .returned (.bool false) ∧ RTo F w w' b s := by
  have := rPast_any h p
  rw [hp] at this
  exact this
set_option maxHeartbeats 1000000 in
theorem rUpTo_yes {B : Nat} {w : World} {F : Nat → Prop} {b : Nat} {s : RSt} (h : RIs w F b s) (hG : Gb B w) (hl : s.rest.length ≤ 100000) (e : ByteArray) (he : e.data.toList ≠ []) {x y : List UInt8} (hu : upTo e.data.toList s.rest = some (x, y)) :
    Calls Tryd.prog 19 #[.pointer (some ⟨b, 0, none⟩), .string e] w fun q w' => q = .returned (.tuple #[.string (mk x), .bool true]) ∧ RTo F w w' b { s with rest := y } := by
  obtain ⟨c0, f0, hlt⟩ := rIs_rest h
  have HC : Hid (Calls Tryd.prog 33 #[.string (mk s.rest), .string e] w fun q w' => q = .returned (.tuple #[.string (mk x), .string (mk y), .bool true]) ∧ Below w.heap.size w w') := hid (by
    have := cut_any hG (mk s.rest) e he (by rw [mk_size]; omega)
    rw [mk_data, cutV, hu] at this
    exact this)
  have HS := hid (fun w1 (hb : Below w.heap.size w w1) => rIs_store h hb y)
  clear h
  go_enter Tryd.func19, Tryd.ntmps19
  go_wp2_with (go_at_call 33; (with_reducible refine HC.out.mono ?_))
  rintro q w1 ⟨rfl, hb⟩
  have c0' : w1.cell? ⟨b, 0, none⟩ = some (.string (mk s.rest)) := (hb.cell (p := ⟨b, 0, none⟩) hlt).trans c0
  have f0' : w1.frozen? ⟨b, 0, none⟩ = false := (hb.frozen (p := ⟨b, 0, none⟩) hlt).trans f0
  go_wp2
  go_ret2
  exact ⟨rfl, HS.out _ hb⟩
set_option maxHeartbeats 1000000 in
theorem rUpTo_no {B : Nat} {w : World} {F : Nat → Prop} {b : Nat} {s : RSt} (h : RIs w F b s) (hG : Gb B w) (hl : s.rest.length ≤ 100000) (e : ByteArray) (he : e.data.toList ≠ []) (hu : upTo e.data.toList s.rest = none) :
    Calls Tryd.prog 19 #[.pointer (some ⟨b, 0, none⟩), .string e] w fun q w' => q = .returned (.tuple #[.string (mk s.rest), .bool false]) ∧ RTo F w w' b { s with rest := [] } := by
  obtain ⟨c0, f0, hlt⟩ := rIs_rest h
  have HC : Hid (Calls Tryd.prog 33 #[.string (mk s.rest), .string e] w fun q w' => q = .returned (.tuple #[.string (mk s.rest), .string (mk []), .bool false]) ∧ Below w.heap.size w w') := hid (by
    have := cut_any hG (mk s.rest) e he (by rw [mk_size]; omega)
    rw [mk_data, cutV, hu] at this
    exact this)
  have HS := hid (fun w1 (hb : Below w.heap.size w w1) => rIs_store h hb [])
  clear h
  go_enter Tryd.func19, Tryd.ntmps19
  go_wp2_with (go_at_call 33; (with_reducible refine HC.out.mono ?_))
  rintro q w1 ⟨rfl, hb⟩
  have c0' : w1.cell? ⟨b, 0, none⟩ = some (.string (mk s.rest)) := (hb.cell (p := ⟨b, 0, none⟩) hlt).trans c0
  have f0' : w1.frozen? ⟨b, 0, none⟩ = false := (hb.frozen (p := ⟨b, 0, none⟩) hlt).trans f0
  go_wp2
  go_ret2
  exact ⟨rfl, HS.out _ hb⟩
theorem dropW_lt (s : List UInt8) : ((mk (s.dropWhile spcX)).size : Int) ≤ (mk s).size := by
  rw [mk_size, mk_size]
  have := dropW_len spcX s
  omega
set_option maxHeartbeats 1000000 in
theorem rSpace_any {w : World} {F : Nat → Prop} {b : Nat} {s : RSt} (h : RIs w F b s) :
    Calls Tryd.prog 36 #[.pointer (some ⟨b, 0, none⟩)] w fun q w' => q = .returned (.bool (decide ((s.rest.dropWhile spcX).length < s.rest.length))) ∧ RTo F w w' b { s with rest := s.rest.dropWhile spcX } := by
  obtain ⟨c0, f0, hlt⟩ := rIs_rest h
  have HC : Hid (Calls Tryd.prog 51 #[.string (mk s.rest), .string ⟨#[32, 9, 10, 13]⟩] w fun q w' => q = .returned (.string (mk (s.rest.dropWhile spcX))) ∧ Below w.heap.size w w') := hid (trimLeft_any (mk s.rest) w)
  have HS := hid (fun w1 (hb : Below w.heap.size w w1) => rIs_store h hb (s.rest.dropWhile spcX))
  have HE : Hid (decide (((mk (s.rest.dropWhile spcX)).size : Int) < ((mk s.rest).size : Int)) = decide ((s.rest.dropWhile spcX).length < s.rest.length)) := hid (by rw [mk_size, mk_size]; exact decide_eq_decide.2 (by omega))
  clear h
  generalize s.rest.dropWhile spcX = r at *
  go_enter Tryd.func36, Tryd.ntmps36
  go_wp2_with (go_at_call 51; (with_reducible refine HC.out.mono ?_))
  rintro q w1 ⟨rfl, hb⟩
  have c0' : w1.cell? ⟨b, 0, none⟩ = some (.string (mk s.rest)) := (hb.cell (p := ⟨b, 0, none⟩) hlt).trans c0
  have f0' : w1.frozen? ⟨b, 0, none⟩ = false := (hb.frozen (p := ⟨b, 0, none⟩) hlt).trans f0
  go_wp2
  go_ret
  exact ⟨by rw [← HE.out]; first | rfl | simp, HS.out _ hb⟩
end Go.Proofs.YtbiiaepmemdlgaaDoor
