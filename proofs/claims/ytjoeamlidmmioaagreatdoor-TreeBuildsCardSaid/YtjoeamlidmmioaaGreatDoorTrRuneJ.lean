import Derived.Test.YtjoeamlidmmioaaGreatDoorXmIndJ
import Derived.Test.YtjoeamlidmmioaaGreatDoorMq4J
/-
  strings.ContainsRune of four ASCII bytes, at whatever rune.
-/
namespace Go.Proofs.YtjoeamlidmmioaaGreatDoor
open Go.RowKit
set_option linter.unusedVariables false
set_option maxRecDepth 100000

set_option maxHeartbeats 4000000 in
theorem ixRune4_bad (c : ByteArray) (hc : c.size = 4) (h0 : ∀ (j : Nat) (hj : j < c.size), (c[j]'hj).toNat < 128) (w : World) :
    Calls Tryz.prog 37 #[.string c, .int .i32 65533] w fun e w' => e = .returned (.int .i64 (-1)) ∧ Below w.heap.size w w' := by
  go_enter Tryz.func37, Tryz.ntmps37
  go_wp2
  go_loopg [5, 6] c.size (fun g _ _ wx => ∃ i : Nat, i + g = c.size ∧ wx = w.iter c i)
  case atStart => exact ⟨0, by omega, rfl⟩
  case round =>
    obtain ⟨i, hig, rfl⟩ := hrel
    cases gk with
    | zero =>
      obtain rfl : i = c.size := by omega
      have hnx := fun ty => run_next_end (P := Tryz.prog) w c 4 ty (by omega)
      go_wp2
      go_ret
      exact ⟨rfl, iter_below _ _ _⟩
    | succ g =>
      have hi : i < c.size := by omega
      have hx := h0 i hi
      have hnx := fun ty => run_next_ascii (P := Tryz.prog) w c i ty hi hx
      have hne : (((c[i]'hi).toNat : Int) == 65533) = false := by simp; omega
      generalize (c[i]'hi).toNat = x at *
      go_wp2
      go_roundg g
      case measure => omega
      case rel => exact ⟨i + 1, by omega, rfl⟩
theorem ixB_no {l : List UInt8} {x : UInt8} (h : ∀ y ∈ l, y.toNat < 128) (hx : 128 ≤ x.toNat) : Lib.indexByte l x < 0 := by
  have hcon := Lib.contains_iff_indexByte l x
  have hn : l.contains x = false := by
    cases hq : l.contains x with
    | false => rfl
    | true => have := h x (List.contains_iff_mem.1 hq); omega
  rw [hn] at hcon
  have := of_decide_eq_false hcon.symm
  omega
set_option maxHeartbeats 4000000 in
theorem ixRune4_hi1 (c : ByteArray) (hc : c.size = 4) (h0 : ∀ (j : Nat) (hj : j < c.size), (c[j]'hj).toNat < 128) (ha : ∀ y ∈ c.data.toList, y.toNat < 128) (r : Nat) (r0 : 128 ≤ r) (r3 : r ≠ 65533) (e : ByteArray) (hs : e.size = 2) (hel : 1 < e.size) (l1 : 128 ≤ (e[1]'hel).toNat) (c1 : ∀ wx, (convert 21 9 (.int .i32 (r : Nat))).run Tryz.prog wx = .ok (.string e) wx)
    (HV : Hid (∀ wx, Calls Tryz.prog 62 #[.int .i32 (r : Nat)] wx fun e w' => e = .returned (.bool true) ∧ wx = w')) (w : World) :
    Calls Tryz.prog 37 #[.string c, .int .i32 (r : Nat)] w fun e w' => e = .returned (.int .i64 (-1)) ∧ Below w.heap.size w w' := by
  have r3b : ((r : Int) == 65533) = false := by simp; omega
  have hcl : 1 < c.size := by omega
  have h1 := h0 1 hcl
  have hne : (((c[1]'hcl).toNat : Int) == ((e[1]'hel).toNat : Int)) = false := by simp; omega
  have hne2 : (!(((c[1]'hcl).toNat : Int) == ((e[1]'hel).toNat : Int))) = true := by rw [hne]; rfl
  have s1 := fun wx => slice_l (s := c) (lo := 2) (l := c.data.toList.drop 2) (by omega) (by omega) rfl wx
  have hq : Lib.indexByte (c.data.toList.drop 2) (e[1]'hel) < 0 := ixB_no (fun y hy => ha y (List.mem_of_mem_drop hy)) l1
  have HI : Hid (∀ wx, Calls Tryz.prog 61 #[.string (mk (c.data.toList.drop 2)), .int .u8 ((e[1]'hel).toNat : Nat)] wx fun q w' => q = .returned (.int .i64 (Lib.indexByte (c.data.toList.drop 2) (e[1]'hel))) ∧ wx = w') := hid (fun wx => (Any.strings_IndexByte { Tryz.xInda with } (mk (c.data.toList.drop 2)) _ wx).mono fun q w' ⟨q1, q2⟩ => ⟨by rw [q1, Int.toNat_natCast, mk_data]; simp, q2.symm⟩)
  have hw2 : IntKind.i64.wrap 2 = 2 := by decide
  generalize Lib.indexByte (c.data.toList.drop 2) (e[1]'hel) = q at *
  clear l1 h1 h0 ha r3
  go_enter Tryz.func37, Tryz.ntmps37
  go_wp2_with (go_at_call 62; (with_reducible refine (HV.out _).mono ?_); rintro e w2 ⟨rfl, rfl⟩)
  go_step3
  go_wp2
  refine wp_loop_rounds 1 ?_
  rw [rounds_succ]
  go_wp2
  go_step3
  go_wp2
  go_quiet (fail)
  have hbq : Below w.heap.size w (w.drewN nq) := below_drew (Below.refl _ _) _
  generalize w.drewN nq = Z at *
  go_wp2
  go_quiet ((go_loud (go_at_call 61; exact quiet_eq (HI.out _))))
  go_wp2
  rw [Exit.noGoto_ret]
  go_simp
  go_ret
  exact ⟨rfl, below_drew hbq _⟩
set_option maxHeartbeats 4000000 in
theorem ixRune4_hi2 (c : ByteArray) (hc : c.size = 4) (h0 : ∀ (j : Nat) (hj : j < c.size), (c[j]'hj).toNat < 128) (ha : ∀ y ∈ c.data.toList, y.toNat < 128) (r : Nat) (r0 : 128 ≤ r) (r3 : r ≠ 65533) (e : ByteArray) (hs : e.size = 3) (hel : 2 < e.size) (l1 : 128 ≤ (e[2]'hel).toNat) (c1 : ∀ wx, (convert 21 9 (.int .i32 (r : Nat))).run Tryz.prog wx = .ok (.string e) wx)
    (HV : Hid (∀ wx, Calls Tryz.prog 62 #[.int .i32 (r : Nat)] wx fun e w' => e = .returned (.bool true) ∧ wx = w')) (w : World) :
    Calls Tryz.prog 37 #[.string c, .int .i32 (r : Nat)] w fun e w' => e = .returned (.int .i64 (-1)) ∧ Below w.heap.size w w' := by
  have r3b : ((r : Int) == 65533) = false := by simp; omega
  have hcl : 2 < c.size := by omega
  have h1 := h0 2 hcl
  have hne : (((c[2]'hcl).toNat : Int) == ((e[2]'hel).toNat : Int)) = false := by simp; omega
  have hne2 : (!(((c[2]'hcl).toNat : Int) == ((e[2]'hel).toNat : Int))) = true := by rw [hne]; rfl
  have s1 := fun wx => slice_l (s := c) (lo := 3) (l := c.data.toList.drop 3) (by omega) (by omega) rfl wx
  have hq : Lib.indexByte (c.data.toList.drop 3) (e[2]'hel) < 0 := ixB_no (fun y hy => ha y (List.mem_of_mem_drop hy)) l1
  have HI : Hid (∀ wx, Calls Tryz.prog 61 #[.string (mk (c.data.toList.drop 3)), .int .u8 ((e[2]'hel).toNat : Nat)] wx fun q w' => q = .returned (.int .i64 (Lib.indexByte (c.data.toList.drop 3) (e[2]'hel))) ∧ wx = w') := hid (fun wx => (Any.strings_IndexByte { Tryz.xInda with } (mk (c.data.toList.drop 3)) _ wx).mono fun q w' ⟨q1, q2⟩ => ⟨by rw [q1, Int.toNat_natCast, mk_data]; simp, q2.symm⟩)
  have hw2 : IntKind.i64.wrap 3 = 3 := by decide
  generalize Lib.indexByte (c.data.toList.drop 3) (e[2]'hel) = q at *
  clear l1 h1 h0 ha r3
  go_enter Tryz.func37, Tryz.ntmps37
  go_wp2_with (go_at_call 62; (with_reducible refine (HV.out _).mono ?_); rintro e w2 ⟨rfl, rfl⟩)
  go_step3
  go_wp2
  refine wp_loop_rounds 1 ?_
  rw [rounds_succ]
  go_wp2
  go_step3
  go_wp2
  go_quiet (fail)
  have hbq : Below w.heap.size w (w.drewN nq) := below_drew (Below.refl _ _) _
  generalize w.drewN nq = Z at *
  go_wp2
  go_quiet ((go_loud (go_at_call 61; exact quiet_eq (HI.out _))))
  go_wp2
  rw [Exit.noGoto_ret]
  go_simp
  go_ret
  exact ⟨rfl, below_drew hbq _⟩
set_option maxHeartbeats 4000000 in
theorem ixRune4_hi3 (c : ByteArray) (hc : c.size = 4) (h0 : ∀ (j : Nat) (hj : j < c.size), (c[j]'hj).toNat < 128) (ha : ∀ y ∈ c.data.toList, y.toNat < 128) (r : Nat) (r0 : 128 ≤ r) (r3 : r ≠ 65533) (e : ByteArray) (hs : e.size = 4) (hel : 3 < e.size) (l1 : 128 ≤ (e[3]'hel).toNat) (c1 : ∀ wx, (convert 21 9 (.int .i32 (r : Nat))).run Tryz.prog wx = .ok (.string e) wx)
    (HV : Hid (∀ wx, Calls Tryz.prog 62 #[.int .i32 (r : Nat)] wx fun e w' => e = .returned (.bool true) ∧ wx = w')) (w : World) :
    Calls Tryz.prog 37 #[.string c, .int .i32 (r : Nat)] w fun e w' => e = .returned (.int .i64 (-1)) ∧ Below w.heap.size w w' := by
  have r3b : ((r : Int) == 65533) = false := by simp; omega
  have hcl : 3 < c.size := by omega
  have h1 := h0 3 hcl
  have hne : (((c[3]'hcl).toNat : Int) == ((e[3]'hel).toNat : Int)) = false := by simp; omega
  have hne2 : (!(((c[3]'hcl).toNat : Int) == ((e[3]'hel).toNat : Int))) = true := by rw [hne]; rfl
  have s1 := fun wx => slice_l (s := c) (lo := 4) (l := c.data.toList.drop 4) (by omega) (by omega) rfl wx
  have hq : Lib.indexByte (c.data.toList.drop 4) (e[3]'hel) < 0 := ixB_no (fun y hy => ha y (List.mem_of_mem_drop hy)) l1
  have HI : Hid (∀ wx, Calls Tryz.prog 61 #[.string (mk (c.data.toList.drop 4)), .int .u8 ((e[3]'hel).toNat : Nat)] wx fun q w' => q = .returned (.int .i64 (Lib.indexByte (c.data.toList.drop 4) (e[3]'hel))) ∧ wx = w') := hid (fun wx => (Any.strings_IndexByte { Tryz.xInda with } (mk (c.data.toList.drop 4)) _ wx).mono fun q w' ⟨q1, q2⟩ => ⟨by rw [q1, Int.toNat_natCast, mk_data]; simp, q2.symm⟩)
  have hw2 : IntKind.i64.wrap 4 = 4 := by decide
  generalize Lib.indexByte (c.data.toList.drop 4) (e[3]'hel) = q at *
  clear l1 h1 h0 ha r3
  go_enter Tryz.func37, Tryz.ntmps37
  go_wp2_with (go_at_call 62; (with_reducible refine (HV.out _).mono ?_); rintro e w2 ⟨rfl, rfl⟩)
  go_step3
  go_wp2
  refine wp_loop_rounds 1 ?_
  rw [rounds_succ]
  go_wp2
  go_step3
  go_wp2
  go_quiet (fail)
  have hbq : Below w.heap.size w (w.drewN nq) := below_drew (Below.refl _ _) _
  generalize w.drewN nq = Z at *
  go_wp2
  go_quiet ((go_loud (go_at_call 61; exact quiet_eq (HI.out _))))
  go_wp2
  rw [Exit.noGoto_ret]
  go_simp
  go_ret
  exact ⟨rfl, below_drew hbq _⟩
/-- Whatever rune from 128 on. -/
theorem ixRune4_big (c : ByteArray) (hc : c.size = 4) (ha : ∀ y ∈ c.data.toList, y.toNat < 128) (r : Nat) (r0 : 128 ≤ r) (r1 : r ≤ 1114111) (w : World) :
    Calls Tryz.prog 37 #[.string c, .int .i32 (r : Nat)] w fun e w' => e = .returned (.int .i64 (-1)) ∧ Below w.heap.size w w' := by
  have h0 : ∀ (j : Nat) (hj : j < c.size), (c[j]'hj).toNat < 128 := fun j hj => ha _ (by
    have : c.data.toList[j]? = some (c[j]'hj) := by simp [hj]; rfl
    exact List.mem_of_getElem? this)
  by_cases h5 : r = 65533
  · subst h5; exact ixRune4_bad c hc h0 w
  · by_cases h2 : r < 55296 ∨ 57344 ≤ r
    · have HV : Hid (∀ wx, Calls Tryz.prog 62 #[.int .i32 (r : Nat)] wx fun e w' => e = .returned (.bool true) ∧ wx = w') := hid (fun wx => (Any.utf8_ValidRune Tryz.xValid (r : Int) wx).mono fun e w' ⟨h1, h2'⟩ => ⟨by rw [h1, validHi r r0 r1 h2], h2'.symm⟩)
      obtain ⟨e, he, hs, hl⟩ := encode_hi r r0 r1 h2
      have c1 := fun wx => convR r wx
      rw [he] at c1
      rcases hs with hs | hs | hs
      · exact ixRune4_hi1 c hc h0 ha r r0 h5 e hs (by omega) (by have := hl (by omega); simp only [hs] at this; exact this) c1 HV w
      · exact ixRune4_hi2 c hc h0 ha r r0 h5 e hs (by omega) (by have := hl (by omega); simp only [hs] at this; exact this) c1 HV w
      · exact ixRune4_hi3 c hc h0 ha r r0 h5 e hs (by omega) (by have := hl (by omega); simp only [hs] at this; exact this) c1 HV w
    · have HV : Hid (∀ wx, Calls Tryz.prog 62 #[.int .i32 (r : Nat)] wx fun e w' => e = .returned (.bool false) ∧ wx = w') := hid (fun wx => (Any.utf8_ValidRune Tryz.xValid (r : Int) wx).mono fun e w' ⟨h1, h2'⟩ => ⟨by rw [h1]; simp [Lib.validRune]; omega, h2'.symm⟩)
      have r3b : ((r : Int) == 65533) = false := by simp; omega
      clear h2 h0 ha
      go_enter Tryz.func37, Tryz.ntmps37
      go_wp2_with (go_at_call 62; (with_reducible refine (HV.out _).mono ?_); rintro e w2 ⟨rfl, rfl⟩)
      go_ret
      exact ⟨rfl, Below.refl _ _⟩
/-- strings.ContainsRune of the four blanks. -/
theorem conRune_any (r : Nat) (r1 : r ≤ 1114111) (w : World) :
    Calls Tryz.prog 18 #[.string ⟨#[32, 9, 10, 13]⟩, .int .i32 (r : Nat)] w fun e w' => e = .returned (.bool (gapR r)) ∧ Below w.heap.size w w' := by
  by_cases h : r < 128
  · refine (Any.strings_ContainsRune_ascii Tryz.trCR ⟨#[32, 9, 10, 13]⟩ (r : Int) w (by omega) (by omega)).mono fun e w' ⟨h1, h2⟩ => ⟨?_, h2 ▸ Below.refl _ _⟩
    rw [h1, Int.toNat_natCast]
    congr 2
    have hcon := Lib.contains_iff_indexByte [32, 9, 10, 13] r.toUInt8
    show decide (0 ≤ Lib.indexByte [32, 9, 10, 13] r.toUInt8) = _
    rw [← hcon, ← gap_byte_nat h]
    simp [spcX, Bool.or_assoc]
    rfl
  · have HI := hid (fun wx => ixRune4_big ⟨#[32, 9, 10, 13]⟩ (by decide) (by decide) r (by omega) r1 wx)
    have hg : gapR r = false := by simp [gapR]; omega
    rw [hg]
    go_enter Tryz.func18, Tryz.ntmps18
    go_wp2_with (go_at_call 37; (with_reducible refine (HI.out _).mono ?_); rintro e w2 ⟨rfl, hb⟩)
    go_ret
    exact ⟨rfl, hb⟩
end Go.Proofs.YtjoeamlidmmioaaGreatDoor

