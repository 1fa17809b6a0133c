import Derived.Test.YtpcafkinpkepcaaGreatDoorWq5
import Derived.Laws.BytesString
/-
  Wq6: Ints, ToInt, in one text.
-/
/-
  LAYER 1: Int, Text and Bool: what the program's and the document's return.
-/
namespace Go.Proofs.YtpcafkinpkepcaaGreatDoor
open Go.RowKit
set_option linter.unusedVariables false
set_option maxRecDepth 100000

theorem blkOk_output : BlkOk 226 := ⟨by kernel_rfl, by decide⟩

theorem encs_snoc (l : List Int) (n : Int) : encs (l ++ [n]) = encs l ++ enc (nat64 n) := by simp [encs]
theorem encs_length (l : List Int) (h : ∀ n ∈ l, -9223372036854775808 ≤ n ∧ n ≤ 9223372036854775807) : (encs l).length ≤ 10 * l.length := by
  induction l with
  | nil => simp [encs]
  | cons n l ih =>
    have h1 := enc_length (nat64_lt (h n (by simp)).1 (h n (by simp)).2)
    have h2 := ih fun m hm => h m (by simp [hm])
    simp only [encs, List.flatMap_cons, List.length_append, List.length_cons] at *
    omega

/-- A text: its length, and its bytes. -/
def txt (s : List UInt8) : List UInt8 := enc (nat64 s.length) ++ s
def txts (l : List ByteArray) : List UInt8 := l.flatMap fun s => txt s.data.toList

set_option maxHeartbeats 1000000 in
set_option maxRecDepth 100000 in
theorem eachInt_any {T : TypeId} (hT : BlkOk T) (B b : Nat) (l : List UInt8) (sb so cap : Nat) (xs : List Int) (w : World)
    (hc : ∀ j x, xs[j]? = some x → w.cell? ⟨sb, so + j, none⟩ = some (.int .i64 x)) (hx : ∀ n ∈ xs, -9223372036854775808 ≤ n ∧ n ≤ 9223372036854775807) (hsb : sb < B)
    (h : Lib.IsBuilder T 5 B b (Lib.byteCells l) w) (hlen : l.length + 10 * xs.length ≤ 140737488355328) (hBw : B ≤ w.heap.size) :
    Calls Tryz.prog 192 #[.slice (some ⟨sb, so, none⟩) xs.length cap, .func (.func 193) #[.pointer (some ⟨b, 0, none⟩)] #[]] w fun e w' =>
      e = .returned (.tuple #[]) ∧ Lib.IsBuilder T 5 B b (Lib.byteCells (l ++ encs xs)) w' ∧ Below B w w' := by
  have HB := hid h
  have HX := hid hx
  have HC := hid hc
  clear h hx hc
  go_enter Tryz.func192, Tryz.ntmps192
  go_wp2
  go_loopw [8] (fun i wr => ∃ k : Nat, k ≤ xs.length ∧ i = .int .i64 k ∧ Hid (Lib.IsBuilder T 5 B b (Lib.byteCells (l ++ encs (xs.take k))) wr) ∧ Below B w wr) (fun i _ => xs.length - (intOf i).toNat)
  case atStart => exact ⟨0, Nat.zero_le _, rfl, hid (by simpa [encs] using HB.out), Below.refl _ _⟩
  case round =>
    obtain ⟨k, hk, rfl, hI, hbl⟩ := hrel
    by_cases hlt : k < xs.length
    · have hx := HX.out xs[k] (List.getElem_mem _)
      have c1 : wr.cell? ⟨sb, so + k, none⟩ = some (.int .i64 xs[k]) := (hbl.cell (p := ⟨sb, so + k, none⟩) hsb).trans (HC.out k _ (by simp [hlt]))
      have ht : xs.take (k + 1) = xs.take k ++ [xs[k]] := by rw [List.take_succ_eq_append_getElem hlt]
      have HT := hid ht
      clear ht
      have hl := encs_length (xs.take k) fun n hn => HX.out n (List.mem_of_mem_take hn)
      rw [List.length_take] at hl
      generalize xs[k] = x at *
      go_wp2_with (go_at_call 193; refine (number_any hT B b _ x _ hx.1 hx.2 hI.out (by rw [List.length_append]; omega) (by have := hbl.size; omega)).mono ?_; rintro e w1 ⟨rfl, h1, hb2⟩)
      go_roundw
      case rel => exact ⟨k + 1, by omega, by go_num, hid (by rw [HT.out, encs_snoc, ← List.append_assoc]; exact h1), hbl.trans hb2⟩
      case measure => simp [intOf]; omega
    · go_wp2
      go_end0
      exact ⟨rfl, by have := hI.out; rw [List.take_of_length_le (by omega)] at this; exact this, hbl⟩

theorem eachInt_none (a : Option Addr) (cap : Nat) (f : Value) (w : World) :
    Calls Tryz.prog 192 #[.slice a 0 cap, f] w fun e w' => e = .returned (.tuple #[]) ∧ w = w' := by
  go_enter Tryz.func192, Tryz.ntmps192
  go_wp2
  refine wp_loop_rounds 1 ?_
  rw [rounds_succ]
  go_wp2
  go_end0
  exact ⟨rfl, rfl⟩

set_option maxHeartbeats 1000000 in
set_option maxRecDepth 100000 in
/-- codec.Int. -/
theorem int_any (v : Value) (xs : List Int) (w : World) (hv : IntsAt w w.heap.size v xs) (hx : ∀ n ∈ xs, -9223372036854775808 ≤ n ∧ n ≤ 9223372036854775807) (hlen : 10 * xs.length ≤ 140737488355328) :
    Calls Tryz.prog 145 #[v] w fun e w' => e = .returned (.string ⟨(encs xs).toArray⟩) ∧ Below w.heap.size w w' := by
  obtain ⟨a, cap, rfl, ha⟩ := hv
  have HX := hid hx
  have hfr : Lib.IsBuilder 226 5 w.heap.size w.heap.size [] (w.alloc (.cells #[.pointer none, .slice none 0 0] 226)) := Lib.fresh_isBuilder _ _ _
  have HF := hid hfr
  clear hfr hx
  have heach : ∀ W, Hid (W = w.alloc (.cells #[.pointer none, .slice none 0 0] 226)) → Calls Tryz.prog 192 #[.slice a xs.length cap, .func (.func 193) #[.pointer (some ⟨w.heap.size, 0, none⟩)] #[]] W fun e w' =>
      e = .returned (.tuple #[]) ∧ Lib.IsBuilder 226 5 w.heap.size w.heap.size (Lib.byteCells (encs xs)) w' ∧ Below w.heap.size W w' := by
    intro W hW
    have hW := hW.out
    subst hW
    by_cases h0 : xs = []
    · subst h0
      refine (eachInt_none a cap _ _).mono ?_
      rintro e w' ⟨rfl, rfl⟩
      exact ⟨rfl, HF.out, Below.refl _ _⟩
    · obtain ⟨sb, so, rfl, hsb, hc⟩ := ha h0
      refine (eachInt_any blkOk_output w.heap.size w.heap.size [] sb so cap xs _ ?_ HX.out hsb (by simpa [Lib.byteCells] using HF.out) (by simpa using hlen) (by simp)).mono ?_
      · intro j x hj
        exact ((Below.alloc (Below.refl w.heap.size w) (Nat.le_refl _) _).cell (p := ⟨sb, so + j, none⟩) hsb).trans (hc j x hj)
      · rintro e w' ⟨rfl, h1, h2⟩
        exact ⟨rfl, by simpa using h1, h2⟩
  have HE := hid heach
  clear heach ha
  go_enter Tryz.func145, Tryz.ntmps145
  go_wp2_with (first
    | (go_at_call 192; refine (HE.out _ (hid rfl)).mono ?_; rintro e w1 ⟨rfl, h1, h2⟩)
    | (go_at_call 104; refine (string_any w.heap.size w.heap.size (encs xs) _ h1 (by have := h2.size; simp at this; omega)).mono ?_; rintro e w2 ⟨rfl, h3⟩))
  go_ret
  exact ⟨rfl, (Below.alloc (Below.refl _ _) (Nat.le_refl _) _).trans (h2.trans h3)⟩

set_option maxHeartbeats 1000000 in
set_option maxRecDepth 100000 in
/-- The document's Int. -/
theorem refInt_any (n : Int) (w : World) (h0 : -9223372036854775808 ≤ n) (h1 : n ≤ 9223372036854775807) :
    Calls Tryz.prog 153 #[.int .i64 n] w fun e w' => e = .returned (.string ⟨(enc (nat64 n)).toArray⟩) ∧ Below w.heap.size w w' := by
  have hu := nat64_lt h0 h1
  have HZ := hid (natural_any n w h0 h1)
  have hel := enc_length hu
  have henc : enc (nat64 n) = encC (nat64 n / 128) ++ [UInt8.ofNat (nat64 n % 128)] := rfl
  generalize nat64 n = v at *
  obtain ⟨i0, hi, hz0, hz1, hz2⟩ := infoByte_parts
  have HE := hid henc
  have e1 : IntKind.u8.wrap ((v : Int) % 128) = ((v % 128 : Nat) : Int) := by rw [IntKind.wrap_u8']; omega
  clear henc
  go_enter Tryz.func153, Tryz.ntmps153
  go_wp2_with (go_at_call 198; refine HZ.out.mono ?_; rintro e w' ⟨rfl, rfl⟩)
  go_loopw [3, 4] (fun x b wr => ∃ (u : Nat) (bs : List UInt8) (g cap : Nat), u < 18446744073709551616 ∧ x = .int .u64 u ∧ b = .slice (some ⟨g, 0, none⟩) bs.length cap ∧ Hid (encC u ++ bs = enc v) ∧ Hid (Bytes wr w.heap.size (.slice (some ⟨g, 0, none⟩) bs.length cap) bs) ∧ 0 < bs.length ∧ Below w.heap.size w wr) (fun x _ _ => (intOf x).toNat)
  case atStart => exact ⟨v / 128, [UInt8.ofNat (v % 128)], w.heap.size, 1, by omega, by go_num, rfl, hid HE.out.symm, hid (Bytes.one w _ (v % 128) _ (by omega) (by omega) (Nat.le_refl _)), by simp, Below.alloc (Below.refl _ _) (Nat.le_refl _) _⟩
  case round =>
    obtain ⟨u, bs, g, cap, hu, rfl, rfl, hE, hB, hpos, hbl⟩ := hrel
    by_cases hu0 : u = 0
    · subst hu0
      have hst := hB.out.shape (by intro h; simp [h] at hpos)
      obtain ⟨g', cap', hv', _, hg, _, _, hc, _⟩ := hst
      cases hv'
      have hrs := run_string (w := wr) (g := g) (n := bs.length) (cap := cap) rfl hc
      clear hc
      go_wp2
      go_ret
      have := hE.out
      rw [encC_zero, List.nil_append] at this
      exact ⟨by rw [this]; rfl, hbl⟩
    · have hlen : (encC u ++ bs).length ≤ 10 := by rw [hE.out]; exact hel
      rw [List.length_append] at hlen
      have hcs : ∀ j x, (Lib.byteCells bs)[j]? = some x → wr.cell? ((⟨g, 0, none⟩ : Addr).add j) = some x := fun j x hj => World.ownsRow.cells hB.out (g := g) rfl j x hj
      have HCS := hid hcs
      clear hcs
      have hgw := World.ownsRow.lt hB.out g rfl
      have hz := hbl.size
      have hone := Bytes.one wr w.heap.size (128 + u % 128) (128 + (u : Int) % 128) (by omega) (by omega) hz
      generalize hxe : UInt8.ofNat (128 + u % 128) = x at hone
      have HO := hid hone
      have HXE := hid hxe
      clear hone hxe
      go_wp2_with (at_builtin; refine wpList_append_own _ rfl _ _ 93 rfl w.heap.size 5 i0 (.int .u8 0) 1 1 Tryz.underlying93 hi hz0 hz1 hz2 rfl (by decide) _ _ _ rfl HO.out ⟨g, 0, none⟩ bs.length cap (Lib.byteCells bs) rfl (by rw [Lib.byteCells_length, Nat.mul_one]) ?c1 (byteCells_one bs) ?c3 ?c4 ?c5 ?_)
      case c1 => intro j x hj; exact (Below.cell (Below.alloc (Below.refl wr.heap.size wr) (Nat.le_refl _) _) (p := (⟨g, 0, none⟩ : Addr).add j) (by unfold Addr.add; split <;> exact hgw.2)).trans (HCS.out j x hj)
      case c3 => unfold maxLen; simp; omega
      case c4 => simp; omega
      case c5 => simp; omega
      intro v' w2 hown' hgrow _
      have hby : Bytes w2 w.heap.size v' (x :: bs) := by
        have e : Lib.byteCells [x] ++ Lib.byteCells bs = Lib.byteCells (x :: bs) := by rw [byteCells_append]; rfl
        unfold Bytes
        rw [← e, show (x :: bs).length = [x].length + bs.length by simp; omega]
        exact hown'
      obtain ⟨g2, cap2, rfl, hg2, _⟩ := hby.shape (by simp)
      have HY := hid hby
      have hbl2 : Below w.heap.size w w2 := (hbl.alloc hz _).grown hgrow (by simp; omega) (fun k hk => (World.ownsRow.lt HO.out k hk).1)
      clear hby hown' hgrow
      go_wp2
      go_roundw
      case rel => exact ⟨u / 128, x :: bs, g2, cap2, by omega, by go_num, rfl, hid (by rw [← hE.out, encC_pos hu0, HXE.out, List.append_assoc]; rfl), HY, by simp, hbl2⟩
      case measure => simp [intOf]; omega
end Go.Proofs.YtpcafkinpkepcaaGreatDoor

/-
  LAYER 1: ToInt, the program's and the document's: both return what 'toInt' says.
-/
namespace Go.Proofs.YtpcafkinpkepcaaGreatDoor
open Go.RowKit
set_option linter.unusedVariables false
set_option maxRecDepth 100000

/-- What ToInt returns. -/
def intRes : Option (Nat × List UInt8) → Value
  | none => .tuple #[.int .i64 0, .string ⟨#[]⟩, .bool false]
  | some (v, r) => .tuple #[.int .i64 (unz v), .string (mk r), .bool true]

theorem toIntI_cons (u : Nat) (c : UInt8) (r : List UInt8) : toIntI u (c :: r) = if 144115188075855871 < u then none else if c.toNat < 128 then some (u * 128 + c.toNat % 128, r) else toIntI (u * 128 + c.toNat % 128) r := rfl

theorem andNot128 (c : Nat) (hc : c < 256) : bits .andNot .u8 (c : Int) 128 = ((c % 128 : Nat) : Int) := by
  have h := u8_andNot_nat c 128 hc (by omega)
  rw [show 255 - 128 = 127 from rfl, nat_mask7] at h
  exact h
theorem or_seven (u c : Nat) (hu : u ≤ 144115188075855871) : bits .or .u64 ((u : Int) * 128) ((c : Int) % 128) = ((u * 128 + c % 128 : Nat) : Int) := by
  have h := u64_or_nat (u * 128) (c % 128) (by omega) (by omega)
  rw [nat_join 7 (u * 128) (c % 128) (by omega) (by omega)] at h
  rw [← h]; rfl

theorem hasPrefix128 (l : List UInt8) : Lib.hasPrefix l [128] = decide (l.head? = some 128) := by
  cases l with
  | nil => rfl
  | cons c r =>
    show ((128 : UInt8) == c && List.isPrefixOf [] r) = _
    rw [List.head?_cons, show List.isPrefixOf ([] : List UInt8) r = true from by cases r <;> rfl, Bool.and_true, Bool.eq_iff_iff, beq_iff_eq, decide_eq_true_iff]
    exact ⟨fun h => by rw [h], fun h => (Option.some.inj h).symm⟩

set_option maxHeartbeats 1000000 in
set_option maxRecDepth 100000 in
theorem toInt_any (s : ByteArray) (w : World) (hs : s.size ≤ maxLen) :
    Calls Tryz.prog 185 #[.string s] w fun e w' => e = .returned (intRes (toInt s.data.toList)) ∧ ∃ m, w' = w.drewN m := by
  unfold maxLen at hs
  have HP := hid (fun w => strings_HasPrefix s ⟨#[128]⟩ w)
  by_cases hp : s.data.toList.head? = some 128
  · have hres : toInt s.data.toList = none := by unfold toInt; rw [if_pos hp]
    have HR := hid hres
    have hb : Lib.hasPrefix s.data.toList [128] = true := by rw [hasPrefix128]; simpa using hp
    clear hres hp
    go_enter Tryz.func185, Tryz.ntmps185
    go_wp2_with (go_at_call 210; refine (HP.out _).mono ?_; rintro e w' ⟨rfl, rfl⟩)
    go_ret3
    exact ⟨by rw [HR.out]; rfl, 0, rfl⟩
  · have hres : toInt s.data.toList = toIntI 0 (s.data.toList.drop 0) := by unfold toInt; rw [if_neg hp]; rfl
    have HR := hid hres
    have hb : Lib.hasPrefix s.data.toList [128] = false := by rw [hasPrefix128]; simpa using hp
    clear hres hp
    go_enter Tryz.func185, Tryz.ntmps185
    go_wp2_with (go_at_call 210; refine (HP.out _).mono ?_; rintro e w' ⟨rfl, rfl⟩)
    go_loop [5, 6, 11] (fun u _ i => ∃ k x : Nat, k ≤ s.size ∧ i = .int .i64 k ∧ u = .int .u64 x ∧ x < 18446744073709551616 ∧ Hid (toInt s.data.toList = toIntI x (s.data.toList.drop k))) (fun _ _ i => s.size - (intOf i).toNat)
    case atStart => exact ⟨0, 0, Nat.zero_le _, rfl, rfl, by omega, HR⟩
    case round =>
      obtain ⟨k, x, hk, rfl, rfl, hx, hI⟩ := hrel
      by_cases hlt : k < s.size
      · have hst := hI.out
        rw [drop_cons s k hlt, toIntI_cons] at hst
        have hc : s[k].toNat < 256 := s[k].toNat_lt
        by_cases hbig : 144115188075855871 < x
        · rw [if_pos hbig] at hst
          have HS := hid hst
          clear hst
          go_wp2
          go_ret3
          exact ⟨by rw [HS.out]; rfl, 0, rfl⟩
        · rw [if_neg hbig] at hst
          have e1 := andNot128 s[k].toNat hc
          have e2 := or_seven x s[k].toNat (by omega)
          have hbig' : x ≤ 144115188075855871 := by omega
          have hnew : x * 128 + s[k].toNat % 128 < 18446744073709551616 := by omega
          by_cases hend : s[k].toNat < 128
          · rw [if_pos hend] at hst
            have HS := hid hst
            have HU := hid (fun w => unzigzag_any (x * 128 + s[k].toNat % 128) w hnew)
            have hx2 : s.extract (k + 1) s.size = mk (s.data.toList.drop (k + 1)) := extract_drop s (k + 1) _ rfl
            have HX2 := hid hx2
            generalize x * 128 + s[k].toNat % 128 = y at *
            clear hst hx2
            go_wp2
            go_quiet ((go_at_call 211; exact quiet_eq (HU.out _)))
            go_wp2
            go_ret3
            exact ⟨by rw [HS.out, intRes, ← HX2.out]; rfl, _, rfl⟩
          · rw [if_neg hend] at hst
            have HS := hid hst
            generalize hy : x * 128 + s[k].toNat % 128 = y at *
            clear hst
            have HY := hid hy
            clear hy
            go_wp2
            go_round
            case rel => exact ⟨k + 1, y, by omega, by go_num, rfl, hnew, HS⟩
            case measure => simp [intOf]; omega
      · have hst := hI.out
        rw [List.drop_eq_nil_of_le (by rw [str_len]; omega), toIntI] at hst
        have HS := hid hst
        clear hst
        go_wp2
        go_ret3
        exact ⟨by rw [HS.out]; rfl, 0, rfl⟩
end Go.Proofs.YtpcafkinpkepcaaGreatDoor

