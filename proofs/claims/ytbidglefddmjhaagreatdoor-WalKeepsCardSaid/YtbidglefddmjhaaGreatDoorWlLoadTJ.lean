import Derived.Test.YtbidglefddmjhaaGreatDoorWlLoadJ
import Derived.Test.YtbidglefddmjhaaGreatDoorMq7J
import Derived.Test.YtbidglefddmjhaaGreatDoorMq5J
/-
  LAYER 3 (wal): load of a last segment that may be torn; Open of a disk that ends in one.
-/
namespace Go.Proofs.YtbidglefddmjhaaGreatDoor
open Go.RowKit Go.Maps
set_option linter.unusedVariables false
set_option maxRecDepth 100000

/-- What load does to the disk where the segment is the last one: it cuts what is no record. -/
def tornR (s : Dk) (n : List UInt8) : Dk × Int := if (scanL (dat s n)).2.2 = 0 then (s, 0) else trL s n ((scanL (dat s n)).2.1 : Nat)
def LastT (w : World) (S : Nat → Prop) (p a : Nat) (g : Lg) (r : Dk × Int) (e : Ending) (wz : World) : Prop :=
  e = .returned (.int .i64 r.2) ∧ ∃ T, LogAt wz T p a r.1 g ∧ (∀ b, T b → S b ∨ w.heap.size ≤ b) ∧ Chg S w wz
section
variable {w w1 wx wy : World} {S : Nat → Prop} {p a : Nat} {s : Dk} {g : Lg} {B0 : Nat}
theorem OpI.trimmed (hd : DiskIs w S a s) (h : OpI w w1 p a g wx) {r : Dk × Int} {e : Ending} (hO : OpPost wx S a r e wy) : LastT w S p a g r e wy := by
  have hSl := diskIs_lt hd
  obtain ⟨v, h1, h2⟩ := h.st
  obtain ⟨he, hD, hc⟩ := hO
  have hz := h.below.size
  have hz1 := h.base.size
  have hge := h.ge
  have hpx := h1.head.lt
  have hz2 := hc.size
  have hSp : ¬ S p := fun e => by have := hSl p e; omega
  have hSv : ∀ b, v.ownBlock = some b → ¬ S b := fun b hb e => by have := hSl b e; have := h2 b hb; omega
  have hvl : ∀ b, v.ownBlock = some b → b < wx.heap.size := fun b hb => (World.ownsRow.lt h1.row b hb).2
  refine ⟨he, fun b => grow S wx wy b ∨ b = p ∨ v.ownBlock = some b, ⟨⟨grow S wx wy, v, hD, h1.same (hc.block p hpx hSp) (fun b hb => hc.block b (hvl b hb) (hSv b hb)), fun e => ?_, fun b hb e => ?_, fun b hb => .inl hb, .inr (.inl rfl), fun b hb => .inr (.inr hb)⟩, fun b hb => ?_, h.ok, h.len⟩, fun b hb => ?_, ?_⟩
  · rcases e with e | e
    · exact hSp e
    · omega
  · rcases e with e | e
    · exact hSv b hb e
    · have := hvl b hb; omega
  · rcases hb with (hb | hb) | hb | hb
    · have := hSl b hb; omega
    · exact hb.2
    · omega
    · have := hvl b hb; omega
  · rcases hb with (hb | hb) | hb | hb
    · exact .inl hb
    · exact .inr (by omega)
    · exact .inr (by omega)
    · exact .inr (by have := h2 b hb; omega)
  · exact (Chg.of_below (S := S) h.below).trans hc (fun b hb => .inl hb)
theorem OpI.whole (hd : DiskIs w S a s) (h : OpI w w1 p a g wx) : LastT w S p a g (s, 0) (.returned (.int .i64 0)) wx := by
  obtain ⟨p', T, he, h1, h2, h3, h4⟩ := h.log hd
  simp only [Ending.returned.injEq, Value.tuple.injEq] at he
  obtain rfl : p = p' := by
    have := congrArg (fun a : Array Value => a[0]?) he
    simpa using this
  exact ⟨rfl, T, h1, h2, Chg.of_below (S := S) h3⟩
set_option maxHeartbeats 8000000 in
theorem load_last (hd : DiskIs w S a s) (hgl : Glob w B0) (hB0 : B0 ≤ w.heap.size) (h : OpI w w1 p a g wx) (n : ByteArray) (hn : n.size ≤ maxLen) (hrd : rd s n.data.toList = (dat s n.data.toList, 0)) (hl : g.L.length + (recs s n.data.toList).length ≤ 100000) :
    Calls Tryz.prog 77 #[.pointer (some ⟨p, 0, none⟩), .string n, .bool true] wx (LastT w S p a (takeRs g (recs s n.data.toList)) (tornR s n.data.toList)) := by
  have hSl := diskIs_lt hd
  have hok : s.Ok := by obtain ⟨mb, F, h⟩ := hd; exact h.ok
  have hdl : (dat s n.data.toList).length ≤ 10000000 := by have := rd_len hok n.data.toList; rw [hrd] at this; exact this
  have c0 := h.ptr.2
  have HR := hid (show Calls Tryz.prog 64 #[.pointer (some ⟨a, 0, none⟩), .string n] wx (fun e w' => e = .returned (ReadV (dat s n.data.toList, 0)) ∧ wx = w') by
    obtain ⟨mb, F, h1⟩ := hd.below h.below
    have := read_any h1 n hn
    rw [hrd] at this
    exact this)
  have HSc := hid (scan_take (fun d wz => OpI w w1 p a (takeRs g d) wz ∧ d.length ≤ (recs s n.data.toList).length) (mk (dat s n.data.toList)) wx p (by rw [mk_size]; omega) ⟨h, Nat.zero_le _⟩ (fun d wz hz => (hz.1.glob hgl hB0).1.steps) (fun d wz wu hz hb => ⟨hz.1.later hb, hz.2⟩) (fun d r k hh x wz hz hf hi ht => by
    rw [mk_data] at ht
    obtain ⟨t, ht⟩ := ht
    have h1 : d.length + 1 ≤ (recs s n.data.toList).length := by unfold recs; rw [ht]; simp
    have h2 := takeRs_len d g
    refine (hz.1.take hf hi (scanL_short _ (dat s n.data.toList) (Nat.le_refl _) r (by rw [ht]; simp)) (by omega)).mono ?_
    rintro e w' ⟨he, hI⟩
    exact ⟨he, by rw [takeRs_append]; exact hI, by rw [List.length_append]; exact h1⟩))
  rw [mk_data] at HSc
  unfold ScanPost at HSc
  unfold ReadV at HR
  have HTr := hid (fun wy (hI : OpI w w1 p a (takeRs g (recs s n.data.toList)) wy) => (trim_any (hd.below hI.below) ⟨fun e => by have := hSl p e; have := hI.ge; omega, hI.ptr.1, hI.ptr.2⟩ n hn ((scanL (dat s n.data.toList)).2.1 : Nat)).mono (fun e wz ho => hI.trimmed hd ho))
  have HWh := hid (fun wy (hI : OpI w w1 p a (takeRs g (recs s n.data.toList)) wy) => hI.whole hd)
  have HC := hid (fun wy (hI : OpI w w1 p a (takeRs g (recs s n.data.toList)) wy) => hI.ptr.2)
  have HF : Hid (∀ wy, OpI w w1 p a (takeRs g (scanL (dat s n.data.toList)).1) wy → OpI w w1 p a (takeRs g (recs s n.data.toList)) wy) := hid (fun wy h => h)
  have hle := (scanL_le (dat s n.data.toList).length (dat s n.data.toList) (Nat.le_refl _)).1
  unfold tornR
  clear hd hgl h hok hrd hl hSl
  generalize recs s n.data.toList = R at *
  generalize hqq : scanL (dat s n.data.toList) = q at *
  generalize mk (dat s n.data.toList) = t at *
  obtain ⟨q1, q2, q3⟩ := q
  simp only at HSc HTr HF hle ⊢
  by_cases hq : q3 = 0
  · subst hq
    rw [if_pos rfl]
    clear HTr
    go_enter Tryz.func77, Tryz.ntmps77
    go_wp2_with (first
      | (go_at_call 64; (with_reducible refine HR.out.mono ?_); rintro e w1 ⟨rfl, rfl⟩)
      | (go_at_call 132; (with_reducible refine HSc.out.mono ?_); rintro e w2 ⟨rfl, hI⟩; have HI := hid hI.1; clear hI))
    go_ret
    exact HWh.out _ (HF.out _ HI.out)
  · rw [if_neg hq]
    have hqb : (q3 == 0) = false := beq_false_of_ne hq
    clear HWh
    go_enter Tryz.func77, Tryz.ntmps77
    go_wp2_with (first
      | (go_at_call 64; (with_reducible refine HR.out.mono ?_); rintro e w1 ⟨rfl, rfl⟩)
      | (go_at_call 132; (with_reducible refine HSc.out.mono ?_); rintro e w2 ⟨rfl, hI⟩; have HI := hid hI.1; have HT2 := hid (HTr.out _ (HF.out _ HI.out)); clear hI)
      | (go_at_call 134; (with_reducible refine HT2.out.mono ?_); rintro e w3 hL; have HL := hid hL; obtain ⟨rfl, -⟩ := hL))
    go_ret
    exact HL.out
end
/-- Open's answer: a log, or an error and none. -/
def OpenT (w : World) (S : Nat → Prop) (a : Nat) (g : Lg) (r : Dk × Int) (e : Ending) (w' : World) : Prop :=
  ∃ p T, e = .returned (.tuple #[if r.2 = 0 then .pointer (some ⟨p, 0, none⟩) else .pointer none, .int .i64 r.2]) ∧ LogAt w' T p a r.1 g ∧ (∀ b, T b → S b ∨ w.heap.size ≤ b) ∧ Chg S w w' ∧ w.heap.size ≤ p
theorem LastT.opened {w wz : World} {S : Nat → Prop} {p a : Nat} {g : Lg} {r : Dk × Int} {e : Ending} (hp : w.heap.size ≤ p) (h : LastT w S p a g r e wz) {v : Value} (hv : v = .tuple #[if r.2 = 0 then .pointer (some ⟨p, 0, none⟩) else .pointer none, .int .i64 r.2]) : OpenT w S a g r (.returned v) wz := by
  obtain ⟨_, T, h1, h2, h3⟩ := h
  exact ⟨p, T, by rw [hv], h1, h2, h3, hp⟩
def OpRelT (w w1 : World) (S : Nat → Prop) (p a : Nat) (s : Dk) (g : Lg) (r : Dk × Int) (names : List (List UInt8)) (u : Value) (wr : World) : Prop := ∃ k : Nat, k ≤ names.length ∧ u = .int .i64 (k : Int) ∧ (k < names.length → Hid (OpI w w1 p a (takeRs g0 ((names.take k).flatMap (recs s))) wr)) ∧ (k = names.length → Hid (r.2 = 0 ∧ LastT w S p a g r (.returned (.int .i64 r.2)) wr))
set_option maxHeartbeats 8000000 in
theorem open_torn {w : World} {S : Nat → Prop} {a : Nat} {s : Dk} {g : Lg} {B0 : Nat} (hd : DiskIs w S a s) (hG : Good (cool s)) (hgl : Glob w B0) (hB0 : B0 ≤ w.heap.size) (hR : RecT s g) (hm : s.most ≤ 700000) {n0 : List UInt8} (hl0 : (segsL s.L).getLast? = some n0) :
    Calls Tryz.prog 29 #[.pointer (some ⟨a, 0, none⟩)] w (OpenT w S a g (tornR s n0)) := by
  have hSl := diskIs_lt hd
  obtain ⟨wA, hwA⟩ : ∃ wA, w.alloc (.cells #[.pointer (some ⟨a, 0, none⟩), .int .i64 0, .int .i64 0, .slice none 0 0] 108) = wA := ⟨_, rfl⟩
  have hbA : Below w.heap.size w wA := by rw [← hwA]; exact (Below.refl _ _).alloc (Nat.le_refl _) _
  have hAz : wA.heap.size = w.heap.size + 1 := by rw [← hwA]; simp
  have hoA : own wA w.heap.size #[.pointer (some ⟨a, 0, none⟩), .int .i64 0, .int .i64 0, .slice none 0 0] 108 := by rw [← hwA]; exact own.new w _ _
  have hI0 : ∀ w1, Below wA.heap.size wA w1 → OpI w w1 w.heap.size a g0 w1 := fun w1 hb => ⟨hbA.trans (hb.mono hbA.size), Nat.le_refl _, ⟨.slice none 0 0, ⟨hoA.same (hb.block _ hoA.lt), EntRow.none _ _, (fun e => by cases e), Nat.zero_le _⟩, fun b hb => by cases hb⟩, Chg.refl _ _, g0_ok, by simp [g0]⟩
  obtain ⟨hgA, hBA⟩ := (hI0 wA (Below.refl _ _)).glob hgl hB0
  have HSeg := hid (segments_any (p := w.heap.size) (hd.below hbA) ((hoA.cell 0).trans rfl) hgA hBA)
  have hok : s.Ok := by obtain ⟨mb, F, h⟩ := hd; exact h.ok
  have hin := segsL_in hok
  have hst := segsL_strict hok.rise
  have hfew : 8 * ((segsL s.L).flatMap (recs s)).length ≤ sz s.L := by
    have h1 := flat_len (s := s) (segsL s.L)
    have h2 : ((segsL s.L).map fun n => (dat s n).length).sum = sz s.L := segs_sz (s := cool s) hG
    omega
  have hroom := hok.room
  obtain ⟨names, hnames⟩ : ∃ l, segsL s.L = l := ⟨_, rfl⟩
  rw [hnames] at hst hl0 hfew
  have heq : takeRs g0 (names.flatMap (recs s)) = g := by rw [← hnames]; exact hR.eq
  have hlast : ∀ k (h : k < names.length), k + 1 = names.length → names[k]'h = n0 := fun k h e => by
    rw [List.getLast?_eq_getElem?, show names.length - 1 = k from by omega, List.getElem?_eq_getElem h] at hl0
    exact Option.some.inj hl0
  have hnot : ∀ k (h : k < names.length), k + 1 < names.length → names.getLast? ≠ some (names[k]'h) := fun k h e hc => by
    rw [hl0] at hc
    have h1 := List.pairwise_iff_getElem.1 hst k (names.length - 1) h (by omega) (by omega)
    rw [hlast (names.length - 1) (by omega) (by omega), Option.some.inj hc] at h1
    omega
  have hgo : ∀ (k : Nat) (h : k < names.length) w1 wx, OpI w w1 w.heap.size a (takeRs g0 ((names.take k).flatMap (recs s))) wx → (takeRs g0 ((names.take k).flatMap (recs s))).L.length + (recs s (names[k]'h)).length ≤ 100000 ∧ (mk (names[k]'h)).size ≤ maxLen ∧ rd s (names[k]'h) = (dat s (names[k]'h), 0) ∧ takeRs (takeRs g0 ((names.take k).flatMap (recs s))) (recs s (names[k]'h)) = takeRs g0 ((names.take (k + 1)).flatMap (recs s)) := fun k h w1 wx hI => by
    have hmem : names[k]'h ∈ segsL s.L := by rw [hnames]; exact List.getElem_mem h
    obtain ⟨q1, q2, q3⟩ := hin.2 _ hmem
    have hsplit : names.take (k + 1) = names.take k ++ [names[k]'h] := by rw [List.take_add_one, List.getElem?_eq_getElem h]; rfl
    have hle : ((names.take (k + 1)).flatMap (recs s)).length ≤ (names.flatMap (recs s)).length := by
      conv => rhs; rw [← List.take_append_drop (k + 1) names]
      rw [List.flatMap_append, List.length_append]
      omega
    rw [hsplit, List.flatMap_append, List.length_append, show [names[k]'h].flatMap (recs s) = recs s (names[k]'h) from by simp] at hle
    have h2 := takeRs_len ((names.take k).flatMap (recs s)) g0
    have h3 : (g0 : Lg).L.length = 0 := rfl
    refine ⟨by omega, by rw [mk_size]; unfold maxLen; omega, rd_dat hG q3, ?_⟩
    rw [← takeRs_append, hsplit, List.flatMap_append, show [names[k]'h].flatMap (recs s) = recs s (names[k]'h) from by simp]
  have HLd : Hid (∀ (k : Nat) (h : k < names.length) w1 wx (b : Bool), k + 1 < names.length → OpI w w1 w.heap.size a (takeRs g0 ((names.take k).flatMap (recs s))) wx → Calls Tryz.prog 77 #[.pointer (some ⟨w.heap.size, 0, none⟩), .string (mk (names[k]'h)), .bool b] wx fun e wy => e = .returned (.int .i64 0) ∧ Hid (OpI w w1 w.heap.size a (takeRs g0 ((names.take (k + 1)).flatMap (recs s))) wy)) := hid (fun k h w1 wx b h1 hI => by
    obtain ⟨p1, p2, p3, p4⟩ := hgo k h w1 wx hI
    have hdt : (mk (names[k]'h)).data.toList = names[k]'h := mk_data _
    refine (load_good hd hgl hB0 hI (mk (names[k]'h)) p2 b (by rw [hdt]; exact p3) (by rw [hdt]; exact hR.whole _ (by rw [hnames]; exact List.getElem_mem h) (by rw [hnames]; exact hnot k h h1)) (by rw [hdt]; exact p1)).mono ?_
    rintro e wy ⟨he, hI2⟩
    rw [hdt, p4] at hI2
    exact ⟨he, hid hI2⟩)
  have HLs : Hid (∀ (k : Nat) (h : k < names.length) w1 wx, k + 1 = names.length → OpI w w1 w.heap.size a (takeRs g0 ((names.take k).flatMap (recs s))) wx → Calls Tryz.prog 77 #[.pointer (some ⟨w.heap.size, 0, none⟩), .string (mk (names[k]'h)), .bool true] wx (LastT w S w.heap.size a g (tornR s n0))) := hid (fun k h w1 wx h1 hI => by
    obtain ⟨p1, p2, p3, p4⟩ := hgo k h w1 wx hI
    have hdt : (mk (names[k]'h)).data.toList = names[k]'h := mk_data _
    have := load_last hd hgl hB0 hI (mk (names[k]'h)) p2 (by rw [hdt]; exact p3) (by rw [hdt]; exact p1)
    rw [hdt, p4, h1, List.take_length, heq] at this
    rw [hlast k h h1] at this ⊢
    exact this)
  have hne : names ≠ [] := by rw [← hnames]; exact hR.ne0
  have hl40 : names.length ≤ 40 := by rw [← hnames]; exact hin.1
  have hpos : 0 < names.length := List.length_pos_iff.2 hne
  have q0 : ((names.length : Int) == 0) = false := beq_false_of_ne (by omega)
  have hwl : IntKind.i64.wrap ((names.length : Int) - 1) = (names.length : Int) - 1 := by rw [IntKind.wrap_i64]; omega
  unfold SegsPost at HSeg
  rw [hnames] at HSeg
  generalize tornR s n0 = r at *
  have HI0 := hid hI0
  have HbA := hid hbA
  clear hd hG hgl hB0 hR hm hSl hI0 hgA hBA hin hfew hroom hnames hoA hne hbA hok hst hl0 hlast hnot hgo heq
  go_enter Tryz.func29, Tryz.ntmps29
  go_wp2_with (go_at_call 19; (with_reducible refine HSeg.out.mono ?_); rintro e w1 ⟨v1, rfl, hv1, hb1⟩; have HV := hid hv1; have HI1 := hid (HI0.out _ hb1); obtain ⟨a1, cap1, rfl⟩ := names_slice hv1; clear hv1 hb1)
  obtain ⟨gn, rfl⟩ := names_some HV.out (List.length_pos_iff.1 hpos)
  have hgn := names_lt HV.out
  go_wp2
  go_loopw [32] (OpRelT w w1 S w.heap.size a s g r names) (fun i _ => names.length - (intOf i).toNat)
  case atStart => exact ⟨0, Nat.zero_le _, rfl, fun _ => hid (by simpa [takeRs] using HI1.out), fun e => by omega⟩
  case round =>
    obtain ⟨k, hk, rfl, hI, hL⟩ := hrel
    by_cases hkn : k < names.length
    · have hI := hI hkn
      have hkI : (k : Int) < (names.length : Int) := by omega
      have hNV := names_same HV.out (w' := wr) (hI.out.chg.block gn hgn.2 (fun e => by have := hgn.1; omega))
      have d0 := names_at hNV hkn
      clear hNV hL
      by_cases hk1 : k + 1 < names.length
      · have C1 := hid (fun b => HLd.out k hkn w1 wr b hk1 hI.out)
        go_wp2_with (go_at_call 77; (with_reducible refine (C1.out _).mono ?_); rintro e w2 ⟨rfl, hI2⟩)
        go_roundw
        case rel => exact ⟨k + 1, hkn, by go_num, fun _ => hI2, fun e => by omega⟩
        case measure => simp [intOf]; omega
      · have hke : k + 1 = names.length := by omega
        have hb : ((k : Int) == (names.length : Int) - 1) = true := by simp; omega
        have C1 := HLs.out k hkn w1 wr hke hI.out
        by_cases hr0 : r.2 = 0
        · have C2 := hid (C1.mono (fun e wz hL => (⟨by rw [hL.1, hr0], hid hL⟩ : e = .returned (.int .i64 0) ∧ Hid (LastT w S w.heap.size a g r e wz))))
          clear C1
          go_wp2_with (go_at_call 77; (with_reducible refine C2.out.mono ?_); rintro e w2 ⟨rfl, hL2⟩)
          go_roundw
          case rel => exact ⟨k + 1, hkn, by go_num, fun e => by omega, fun _ => hid ⟨hr0, by rw [hr0]; exact hL2.out⟩⟩
          case measure => simp [intOf]; omega
        · have hrb : (r.2 == 0) = false := beq_false_of_ne hr0
          have C2 := hid (C1.mono (fun e wz hL => (⟨hL.1, hid hL⟩ : e = .returned (.int .i64 r.2) ∧ Hid (LastT w S w.heap.size a g r e wz))))
          have HOp := hid (fun e wz v (hL : LastT w S w.heap.size a g r e wz) (hv : v = .tuple #[.pointer none, .int .i64 r.2]) => hL.opened (Nat.le_refl _) (v := v) (by rw [hv, if_neg hr0]))
          clear C1
          generalize r.2 = x at *
          go_wp2_with (go_at_call 77; (with_reducible refine C2.out.mono ?_); rintro e w2 ⟨rfl, hL2⟩)
          go_ret2
          exact HOp.out _ _ _ hL2.out rfl
    · obtain rfl : k = names.length := by omega
      have hL2 := hL rfl
      have HOk := hid (fun v (hv : v = .tuple #[.pointer (some ⟨w.heap.size, 0, none⟩), .int .i64 0]) => hL2.out.2.opened (Nat.le_refl _) (v := v) (by rw [hv, if_pos hL2.out.1, hL2.out.1]))
      clear hI hL hL2
      have hkI : (names.length : Int) ≤ (names.length : Int) := Int.le_refl _
      go_wp2
      go_ret2
      exact HOk.out _ rfl
end Go.Proofs.YtbidglefddmjhaaGreatDoor

