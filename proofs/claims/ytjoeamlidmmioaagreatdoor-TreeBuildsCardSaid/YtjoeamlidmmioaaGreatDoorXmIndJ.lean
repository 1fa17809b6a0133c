import Derived.Test.YtjoeamlidmmioaaGreatDoorXmJbJ
import Derived.Laws.RangeAny
import Derived.Lib.DecodeN
import Derived.Shelf.Strings.Runes
import Derived.Shelf.Strings.IndexAny
import Derived.Deep.LoopGhost
import Derived.WalkMore
import Derived.Lib.OthersKept
/-
  strings.IndexAny of two ASCII bytes, in a text of whatever bytes.
-/
namespace Go.Proofs.YtjoeamlidmmioaaGreatDoor
open Go.RowKit
set_option linter.unusedVariables false
set_option maxRecDepth 100000

/-- What a byte from 128 on and those behind it make. -/
theorem decode_hi (s : ByteArray) (i : Nat) (h : i < s.size) (ha : 128 ≤ (s[i]'h).toNat) : 128 ≤ (Utf8.decode s i).1 ∧ (Utf8.decode s i).1 ≤ 1114111 ∧ ((Utf8.decode s i).1 = 65533 ∨ ((Utf8.decode s i).1 < 55296 ∨ 57344 ≤ (Utf8.decode s i).1)) ∧ 1 ≤ (Utf8.decode s i).2 ∧
    ∀ j, i ≤ j → j < i + (Utf8.decode s i).2 → j < s.size ∧ 128 ≤ (s.get! j).toNat := by
  have g0 : (s.get! i).toNat = (s[i]'h).toNat := by simp [ByteArray.get!, h]; rfl
  rw [Lib.decode_at]
  have hb : ∀ k, (s.get! (i + k)).toNat < 256 := fun k => (s.get! (i + k)).toNat_lt
  have h1 := hb 1; have h2 := hb 2; have h3 := hb 3
  have h0 : (s.get! i).toNat < 256 := (s.get! i).toNat_lt
  rw [← g0] at ha
  generalize e0 : (s.get! i).toNat = b0 at *
  generalize e1 : (s.get! (i + 1)).toNat = b1 at *
  generalize e2 : (s.get! (i + 2)).toNat = b2 at *
  generalize e3 : (s.get! (i + 3)).toNat = b3 at *
  have key : ∀ n, (∀ j, i ≤ j → j < i + n → j = i ∨ (j = i + 1 ∧ 1 < s.size - i ∧ 128 ≤ b1) ∨ (j = i + 2 ∧ 2 < s.size - i ∧ 128 ≤ b2) ∨ (j = i + 3 ∧ 3 < s.size - i ∧ 128 ≤ b3)) → ∀ j, i ≤ j → j < i + n → j < s.size ∧ 128 ≤ (s.get! j).toNat := by
    intro n hn j hj1 hj2
    rcases hn j hj1 hj2 with rfl | ⟨rfl, q1, q2⟩ | ⟨rfl, q1, q2⟩ | ⟨rfl, q1, q2⟩
    · exact ⟨h, by omega⟩
    · exact ⟨by omega, by omega⟩
    · exact ⟨by omega, by omega⟩
    · exact ⟨by omega, by omega⟩
  unfold Lib.decodeN
  rw [if_neg (by omega)]
  split
  · rename_i c1
    split
    · rename_i c2
      refine ⟨by simp only; omega, by simp only; omega, .inr (.inl (by simp only; omega)), by simp only; omega, key _ fun j a1 a2 => ?_⟩
      simp only at a2
      omega
    · exact ⟨by simp only; omega, by simp only; omega, .inl rfl, by simp only; omega, key _ fun j a1 a2 => by simp only at a2; omega⟩
  · split
    · rename_i c1
      split
      · rename_i c2
        refine ⟨by simp only; omega, by simp only; omega, .inr (by simp only; omega), by simp only; omega, key _ fun j a1 a2 => ?_⟩
        simp only at a2
        omega
      · exact ⟨by simp only; omega, by simp only; omega, .inl rfl, by simp only; omega, key _ fun j a1 a2 => by simp only at a2; omega⟩
    · split
      · rename_i c1
        split
        · rename_i c2
          refine ⟨by simp only; omega, by simp only; omega, .inr (by simp only; omega), by simp only; omega, key _ fun j a1 a2 => ?_⟩
          simp only at a2
          omega
        · exact ⟨by simp only; omega, by simp only; omega, .inl rfl, by simp only; omega, key _ fun j a1 a2 => by simp only at a2; omega⟩
      · exact ⟨by simp only; omega, by simp only; omega, .inl rfl, by simp only; omega, key _ fun j a1 a2 => by simp only at a2; omega⟩
/-- A rune's bytes: two to four, the last from 128 on. -/
theorem encode_hi (r : Nat) (h0 : 128 ≤ r) (h1 : r ≤ 1114111) (h2 : r < 55296 ∨ 57344 ≤ r) : ∃ e : ByteArray, Utf8.encode (r : Int) = e ∧ (e.size = 2 ∨ e.size = 3 ∨ e.size = 4) ∧ ∀ (hh : e.size - 1 < e.size), 128 ≤ (e[e.size - 1]'hh).toNat := by
  have hv : Utf8.valid (r : Int) = true := by unfold Utf8.valid; simp; omega
  unfold Utf8.encode
  rw [if_pos hv, Int.toNat_natCast]
  simp only
  rw [if_neg (by omega)]
  have hl : 128 ≤ (UInt8.ofNat (0x80 + r % 64)).toNat := by rw [UInt8.toNat_ofNat']; omega
  split
  · exact ⟨_, rfl, .inl rfl, fun _ => hl⟩
  · split
    · exact ⟨_, rfl, .inr (.inl rfl), fun _ => hl⟩
    · exact ⟨_, rfl, .inr (.inr rfl), fun _ => hl⟩
theorem validHi (r : Nat) (h0 : 128 ≤ r) (h1 : r ≤ 1114111) (h2 : r < 55296 ∨ 57344 ≤ r) : Lib.validRune (r : Int) = true := by
  simp [Lib.validRune]; omega
theorem convR (r : Nat) (w : World) : (convert 21 9 (.int .i32 (r : Nat))).run Tryz.prog w = .ok (.string (Utf8.encode (r : Int))) w := by
  simp [convert, run_underlying Tryz.underlying21, run_underlying Tryz.underlying9, Conv.intToString]
theorem iter_below (w : World) (s : ByteArray) (p : Nat) : Below w.heap.size w (w.iter s p) := (Below.refl _ _).alloc (Nat.le_refl _) _
set_option maxHeartbeats 4000000 in
theorem ixRune_bad (c : ByteArray) (hc : c.size = 2) (h0 : ∀ (j : Nat) (hj : j < c.size), (c[j]'hj).toNat < 128) (w : World) :
    Calls Tryz.prog 37 #[.string c, .int .i32 65533] w fun e w' => e = .returned (.int .i64 (-1)) ∧ Below w.heap.size w w' := by
  go_enter Tryz.func37, Tryz.ntmps37
  go_wp2
  go_loopg [5, 6] c.size (fun g _ _ wx => ∃ i : Nat, i + g = c.size ∧ wx = w.iter c i)
  case atStart => exact ⟨0, by omega, rfl⟩
  case round =>
    obtain ⟨i, hig, rfl⟩ := hrel
    cases gk with
    | zero =>
      obtain rfl : i = c.size := by omega
      have hnx := fun ty => run_next_end (P := Tryz.prog) w c 2 ty (by omega)
      go_wp2
      go_ret
      exact ⟨rfl, iter_below _ _ _⟩
    | succ g =>
      have hi : i < c.size := by omega
      have hx := h0 i hi
      have hnx := fun ty => run_next_ascii (P := Tryz.prog) w c i ty hi hx
      have hne : (((c[i]'hi).toNat : Int) == 65533) = false := by simp; omega
      generalize (c[i]'hi).toNat = x at *
      go_wp2
      go_roundg g
      case measure => omega
      case rel => exact ⟨i + 1, by omega, rfl⟩
set_option maxHeartbeats 4000000 in
theorem ixRune_hi (c : ByteArray) (hc : c.size = 2) (h0 : ∀ (j : Nat) (hj : j < c.size), (c[j]'hj).toNat < 128) (r : Nat) (r0 : 128 ≤ r) (r1 : r ≤ 1114111) (r2 : r < 55296 ∨ 57344 ≤ r) (r3 : r ≠ 65533) (w : World) :
    Calls Tryz.prog 37 #[.string c, .int .i32 (r : Nat)] w fun e w' => e = .returned (.int .i64 (-1)) ∧ Below w.heap.size w w' := by
  have HV : Hid (∀ wx, Calls Tryz.prog 62 #[.int .i32 (r : Nat)] wx fun e w' => e = .returned (.bool true) ∧ wx = w') := hid (fun wx => (Any.utf8_ValidRune Tryz.xValid (r : Int) wx).mono fun e w' ⟨h1, h2⟩ => ⟨by rw [h1, validHi r r0 r1 r2], h2.symm⟩)
  obtain ⟨e, he, hs, hl⟩ := encode_hi r r0 r1 r2
  have c1 := fun wx => convR r wx
  rw [he] at c1
  have r3b : ((r : Int) == 65533) = false := by simp; omega
  clear he r2 r1 r3
  rcases hs with hs | hs | hs
  · have l1 := hl (by omega)
    have h1 := h0 1 (by omega)
    have e1 : (e[e.size - 1]'(by omega)) = e[1]'(by omega) := by simp only [hs]
    rw [e1] at l1
    have hcl : 1 < c.size := by omega
    have hel : 1 < e.size := by omega
    have hne : (((c[1]'hcl).toNat : Int) == ((e[1]'hel).toNat : Int)) = false := by simp; omega
    have hne2 : (!(((c[1]'hcl).toNat : Int) == ((e[1]'hel).toNat : Int))) = true := by rw [hne]; rfl
    have s1 := fun wx => slice_l (s := c) (lo := 2) (l := []) (by omega) (by omega) (List.drop_eq_nil_of_le (by rw [str_len]; omega)) wx
    have HI : Hid (∀ wx, Calls Tryz.prog 61 #[.string (mk []), .int .u8 ((e[1]'hel).toNat : Nat)] wx fun e w' => e = .returned (.int .i64 (-1)) ∧ wx = w') := hid (fun wx => (Any.strings_IndexByte { Tryz.xInda with } (mk []) _ wx).mono fun e w' ⟨q1, q2⟩ => ⟨q1, q2.symm⟩)
    have hw2 : IntKind.i64.wrap 2 = 2 := by decide
    clear e1 l1 h1 h0 hl
    go_enter Tryz.func37, Tryz.ntmps37
    go_wp2_with (go_at_call 62; (with_reducible refine (HV.out _).mono ?_); rintro e w2 ⟨rfl, rfl⟩)
    go_step3
    go_wp2
    refine wp_loop_rounds 1 ?_
    rw [rounds_succ]
    go_wp2
    go_step3
    go_wp2
    go_quiet (fail)
    have hbq : Below w.heap.size w (w.drewN nq) := below_drew (Below.refl _ _) _
    generalize w.drewN nq = Z at *
    go_wp2
    go_quiet ((go_loud (go_at_call 61; exact quiet_eq (HI.out _))))
    go_wp2
    rw [Exit.noGoto_ret]
    go_simp
    go_ret
    exact ⟨rfl, below_drew hbq _⟩
  · clear h0 hl
    go_enter Tryz.func37, Tryz.ntmps37
    go_wp2_with (go_at_call 62; (with_reducible refine (HV.out _).mono ?_); rintro e w2 ⟨rfl, rfl⟩)
    go_step3
    go_wp2
    refine wp_loop_rounds 1 ?_
    rw [rounds_succ]
    go_wp2
    rw [Exit.noGoto_ret]
    go_ret
    exact ⟨rfl, Below.refl _ _⟩
  · clear h0 hl
    go_enter Tryz.func37, Tryz.ntmps37
    go_wp2_with (go_at_call 62; (with_reducible refine (HV.out _).mono ?_); rintro e w2 ⟨rfl, rfl⟩)
    go_step3
    go_wp2
    refine wp_loop_rounds 1 ?_
    rw [rounds_succ]
    go_wp2
    rw [Exit.noGoto_ret]
    go_ret
    exact ⟨rfl, Below.refl _ _⟩
/-- strings.IndexAny of two ASCII bytes. -/
theorem get_bang (s : ByteArray) (j : Nat) (h : j < s.size) : s.get! j = s[j]'h := by simp [ByteArray.get!, h]; rfl
theorem noAny_more {s c : ByteArray} {i wd : Nat} (h : Lib.NoAny s.data.toList c.data.toList i) (hc : ∀ (j : Nat) b, c.data.toList[j]? = some b → b.toNat < 128) (hh : ∀ j, i ≤ j → j < i + wd → j < s.size ∧ 128 ≤ (s.get! j).toNat) : Lib.NoAny s.data.toList c.data.toList (i + wd) := by
  intro j x hj hx
  by_cases hji : j < i
  · exact h j x hji hx
  · obtain ⟨h1, h2⟩ := hh j (by omega) hj
    rw [get_bang s j h1] at h2
    have hxs : s[j]'h1 = x := by
      have : s.data.toList[j]? = some (s[j]'h1) := by simp [h1]; rfl
      rw [hx] at this; exact (Option.some.inj this).symm
    rw [hxs] at h2
    cases hcn : c.data.toList.contains x with
    | false => rfl
    | true =>
      obtain ⟨k, hk, he⟩ := List.getElem_of_mem (List.contains_iff_mem.1 hcn)
      have := hc k x (by rw [List.getElem?_eq_getElem hk, he])
      omega
set_option maxHeartbeats 4000000 in
theorem ixAny_short (s c : ByteArray) (w : World) (hc : c.size = 2) (h8 : s.size ≤ 8) (ha : ∀ (j : Nat) b, c.data.toList[j]? = some b → b.toNat < 128) :
    Calls Tryz.prog 52 #[.string s, .string c] w fun e w' => e = .returned (.int .i64 (Lib.indexAny s.data.toList c.data.toList)) ∧ Below w.heap.size w w' := by
  have HA := hid ha
  have h0 : ∀ (j : Nat) (hj : j < c.size), (c[j]'hj).toNat < 128 := fun j hj => ha j _ (by simp [hj]; rfl)
  have HB := hid (fun wx => ixRune_bad c hc h0 wx)
  have HR := hid (fun r r0 r1 r2 r3 wx => ixRune_hi c hc h0 r r0 r1 r2 r3 wx)
  have HU : Hid (∀ wx, Calls Tryz.prog 84 #[.int .i64 (s.size : Nat)] wx fun e w' => e = .returned (.bool false) ∧ wx = w') := hid (fun wx => (Any.strings_shouldUseASCIISet { Tryz.xInda with } (s.size : Nat) wx).mono fun e w' ⟨q1, q2⟩ => ⟨by rw [q1, decide_eq_false (by omega)], q2.symm⟩)
  have HI : Hid (∀ (x : UInt8) wx, x.toNat < 128 → Calls Tryz.prog 37 #[.string c, .int .i32 (x.toNat : Nat)] wx fun e w' => e = .returned (.int .i64 (Lib.indexByte c.data.toList x)) ∧ wx = w') := hid (fun x wx hx => (Any.strings_IndexRune_ascii { Tryz.xInda with } c (x.toNat : Nat) wx (by omega) (by omega)).mono fun e w' ⟨q1, q2⟩ => ⟨by rw [q1]; simp, q2.symm⟩)
  have hemp : c.toList.isEmpty = false := by
    rw [Lib.toList_data]
    cases h : c.data.toList with
    | nil => have := str_len c; rw [h] at this; simp at this; omega
    | cons _ _ => rfl
  have hemp2 : (c.toList == []) = false := by
    rw [Lib.toList_data]
    cases h : c.data.toList with
    | nil => have := str_len c; rw [h] at this; simp at this; omega
    | cons _ _ => rfl
  have hn1 : ((c.size : Int) == 1) = false := beq_eq_false_iff_ne.2 (by omega)
  clear ha h0 hc
  go_enter Tryz.func52, Tryz.ntmps52
  go_wp2_with (go_at_call 84; (with_reducible refine (HU.out _).mono ?_); rintro e w2 ⟨rfl, rfl⟩)
  go_loopg [9, 10] s.size (fun g _ _ wx => ∃ i : Nat, i ≤ s.size ∧ i + g = s.size ∧ Hid (Lib.NoAny s.data.toList c.data.toList i) ∧ Hid (wx.heap[w.heap.size]? = some (.stringIter s i)) ∧ Hid (Below w.heap.size w wx))
  case atStart => exact ⟨0, by omega, by omega, hid (Lib.NoAny.zero _ _), hid (by simp [World.iter_heap]), hid (iter_below _ _ _)⟩
  case round =>
    obtain ⟨i, hi, hig, hN, hk, hb⟩ := hrel
    cases gk with
    | zero =>
      obtain rfl : i = s.size := by omega
      have hnx := fun ty => Lib.run_next_end_at (P := Tryz.prog) wr w.heap.size s s.size ty hk.out (by omega)
      have HZ : Hid (Lib.indexAny s.data.toList c.data.toList = -1) := hid (Lib.indexAny_none (by rw [str_len]; exact hN.out))
      go_wp2
      go_ret
      exact ⟨by rw [HZ.out]; rfl, hb.out⟩
    | succ g =>
      have his : i < s.size := by omega
      by_cases hx : (s[i]'his).toNat < 128
      · have hnx := fun ty => Lib.run_next_ascii_at (P := Tryz.prog) wr w.heap.size s i ty hk.out his hx
        have hxl : s.data.toList[i]? = some (s[i]'his) := by simp [his]; rfl
        have hcon := Lib.contains_iff_indexByte c.data.toList (s[i]'his)
        have HI2 := hid (fun wx => HI.out (s[i]'his) wx hx)
        have HB2 : Hid (Below w.heap.size w (wr.iterAt w.heap.size s (i + 1)) ∧ (wr.iterAt w.heap.size s (i + 1)).heap[w.heap.size]? = some (.stringIter s (i + 1))) := hid ⟨hb.out.trans ⟨rfl, rfl, rfl, by simp [World.iterAt], fun k hkk => by simp [World.iterAt, Array.getElem?_setIfInBounds]; omega⟩, Lib.iterAt_heap _ _ _ _ _ hk.out⟩
        cases hin : c.data.toList.contains (s[i]'his)
        · rw [hin] at hcon
          have hlt : ¬ ((0 : Int) ≤ Lib.indexByte c.data.toList (s[i]'his)) := of_decide_eq_false hcon.symm
          have HN2 := hid (hN.out.succ hxl hin)
          clear hcon hin hxl hx
          generalize (wr.iterAt w.heap.size s (i + 1)) = w5 at *
          generalize Lib.indexByte c.data.toList (s[i]'his) = q at *
          go_wp2_with (go_at_call 37; (with_reducible refine (HI2.out _).mono ?_); rintro e w2 ⟨rfl, rfl⟩)
          go_roundg g
          case measure => omega
          case rel => exact ⟨i + 1, by omega, by omega, HN2, hid HB2.out.2, hid HB2.out.1⟩
        · rw [hin] at hcon
          have hge : (0 : Int) ≤ Lib.indexByte c.data.toList (s[i]'his) := of_decide_eq_true hcon.symm
          have HZ : Hid (Lib.indexAny s.data.toList c.data.toList = (i : Int)) := hid (Lib.indexAny_hit hN.out hxl hin)
          clear hcon hin hxl hx
          generalize (wr.iterAt w.heap.size s (i + 1)) = w5 at *
          generalize Lib.indexByte c.data.toList (s[i]'his) = q at *
          go_wp2_with (go_at_call 37; (with_reducible refine (HI2.out _).mono ?_); rintro e w2 ⟨rfl, rfl⟩)
          go_ret
          exact ⟨by rw [HZ.out]; rfl, HB2.out.1⟩
      · have hnx := fun ty => Lib.run_next_any_at (P := Tryz.prog) wr w.heap.size s i ty hk.out his
        obtain ⟨q1, q2, q3, q4, q5⟩ := decode_hi s i his (by omega)
        have HN2 := hid (noAny_more hN.out HA.out q5)
        have hwd : i + (Utf8.decode s i).2 ≤ s.size := by
          have := (q5 (i + (Utf8.decode s i).2 - 1) (by omega) (by omega)).1
          omega
        have HB2 : Hid (Below w.heap.size w (wr.iterAt w.heap.size s (i + (Utf8.decode s i).2)) ∧ (wr.iterAt w.heap.size s (i + (Utf8.decode s i).2)).heap[w.heap.size]? = some (.stringIter s (i + (Utf8.decode s i).2))) := hid ⟨hb.out.trans ⟨rfl, rfl, rfl, by simp [World.iterAt], fun k hkk => by simp [World.iterAt, Array.getElem?_setIfInBounds]; omega⟩, Lib.iterAt_heap _ _ _ _ _ hk.out⟩
        have HI2 : Hid (∀ wx, Calls Tryz.prog 37 #[.string c, .int .i32 ((Utf8.decode s i).1 : Nat)] wx fun e w' => e = .returned (.int .i64 (-1)) ∧ Below wx.heap.size wx w') := hid (fun wx => by
          by_cases h5 : (Utf8.decode s i).1 = 65533
          · rw [h5]; exact HB.out wx
          · exact HR.out _ q1 q2 (by rcases q3 with k | k; exact absurd k h5; exact k) h5 wx)
        generalize (Utf8.decode s i).1 = r at *
        generalize (Utf8.decode s i).2 = wd at *
        generalize (wr.iterAt w.heap.size s (i + wd)) = w5 at *
        clear q5 q3 hx
        go_wp2_with (go_at_call 37; (with_reducible refine (HI2.out _).mono ?_); rintro e w2 ⟨rfl, hb2⟩)
        go_roundg (s.size - (i + wd))
        case measure => omega
        case rel => exact ⟨i + wd, by omega, by omega, HN2, hid ((hb2.block _ (by have := (Array.getElem?_eq_some_iff.1 HB2.out.2).1; exact this)).trans HB2.out.2), hid (HB2.out.1.trans (hb2.mono HB2.out.1.size))⟩
theorem ixAny_any (s c : ByteArray) (w : World) (hc : c.size = 2) (hs : s.size ≤ 1000000000) (ha : ∀ (j : Nat) b, c.data.toList[j]? = some b → b.toNat < 128) :
    Calls Tryz.prog 52 #[.string s, .string c] w fun e w' => e = .returned (.int .i64 (Lib.indexAny s.data.toList c.data.toList)) ∧ Below w.heap.size w w' := by
  by_cases h8 : s.size ≤ 8
  · exact ixAny_short s c w hc h8 ha
  · have h116 : (Tryz.prog.info? (Tryz.xInda_ren.t 116)).map (fun i => (i.zero, i.size)) = some (some (.agg (Array.replicate 256 (.bool false))), 256) := by kernel_rfl
    refine (Any.strings_IndexAny_long Tryz.xInda (zero_of_info h116).1 (zero_of_info h116).2 s c w (by omega) (by omega) (by omega) (by omega) ha).mono fun e w' ⟨h1, h2⟩ => ⟨h1, ?_⟩
    rw [h2]
    exact (Below.alloc (Below.alloc (Below.refl _ _) (Nat.le_refl _) _) (by simp) _)
end Go.Proofs.YtjoeamlidmmioaaGreatDoor

