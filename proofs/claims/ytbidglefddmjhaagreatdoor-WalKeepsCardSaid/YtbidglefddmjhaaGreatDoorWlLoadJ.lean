import Derived.Test.YtbidglefddmjhaaGreatDoorMq7J
import Derived.Test.YtbidglefddmjhaaGreatDoorWlNeededJ
/-
  LAYER 3 (wal): load of a segment that is whole; Open of a disk whose segments are.
-/
namespace Go.Proofs.YtbidglefddmjhaaGreatDoor
open Go.RowKit Go.Maps
set_option linter.unusedVariables false
set_option maxRecDepth 100000

/-- Open's log, while it reads: made since w; since w1 itself alone has turned. -/
structure OpI (w w1 : World) (p a : Nat) (g : Lg) (wx : World) : Prop where
  base : Below w.heap.size w w1
  ge : w.heap.size ≤ p
  st : ∃ v, StRep wx 0 p a v g ∧ ∀ b, v.ownBlock = some b → w1.heap.size ≤ b
  chg : Chg (fun b => b = p) w1 wx
  ok : g.Ok
  len : g.L.length ≤ 100000
section
variable {w w1 wx wy : World} {S : Nat → Prop} {p a : Nat} {s : Dk} {g : Lg} {B0 : Nat}
theorem OpI.below (h : OpI w w1 p a g wx) : Below w.heap.size w wx := h.base.trans (h.chg.below h.base.size (fun b e => by have := h.ge; omega))
theorem OpI.later (h : OpI w w1 p a g wx) (hb : Below wx.heap.size wx wy) : OpI w w1 p a g wy := by
  obtain ⟨v, h1, h2⟩ := h.st
  exact ⟨h.base, h.ge, ⟨v, h1.below hb, h2⟩, h.chg.trans (Chg.of_below (S := fun b => b = p) hb) (fun b e => .inl e), h.ok, h.len⟩
theorem OpI.ptr (h : OpI w w1 p a g wx) : p < wx.heap.size ∧ wx.cell? ⟨p, 0, none⟩ = some (.pointer (some ⟨a, 0, none⟩)) := by
  obtain ⟨v, h1, h2⟩ := h.st
  exact ⟨h1.head.lt, (h1.head.cell 0).trans rfl⟩
theorem OpI.glob (h : OpI w w1 p a g wx) (hg : Glob w B0) (hB0 : B0 ≤ w.heap.size) : Glob wx B0 ∧ B0 ≤ wx.heap.size := ⟨hg.below h.below hB0, by have := h.below.size; omega⟩
theorem OpI.turn (h : OpI w w1 p a g wx) {g' : Lg} (hok : g'.Ok) (hl : g'.L.length ≤ 100000) {f : FuncId} {args : Array Value} (hf : ∀ v, StRep wx 0 p a v g → Calls Tryz.prog f args wx (PutPost wx 0 p a v g')) :
    Calls Tryz.prog f args wx fun e wy => e = .returned (.tuple #[]) ∧ OpI w w1 p a g' wy := by
  obtain ⟨v, h1, h2⟩ := h.st
  refine (hf v h1).mono ?_
  rintro e wy ⟨he, v', k1, k2, k3⟩
  have hz := h.chg.size
  refine ⟨he, h.base, h.ge, ⟨v', k1, fun b hb => ?_⟩, h.chg.trans k2 (fun b hb => ?_), hok, hl⟩
  · rcases k3 with k3 | k3
    · exact h2 b (by rw [← k3]; exact hb)
    · have := k3 b hb; omega
  · rcases hb with hb | hb
    · exact .inl hb
    · exact .inr (h2 b hb)
/-- One record taken. -/
theorem OpI.take (h : OpI w w1 p a g wx) {r : Rc} (hr : r.Fits) {k : Int} {hh : Hd} {x : En} (hi : RcIs k hh x r) (hs : (payL r).length ≤ 65536) (hl : g.L.length + 1 ≤ 100000) :
    Calls Tryz.prog 133 #[.pointer (some ⟨p, 1, none⟩), .agg (rcells k hh x).toArray] wx fun e wy => e = .returned (.tuple #[]) ∧ OpI w w1 p a (takeR g r) wy := by
  have hok := takeR_ok h.ok hr
  have hlen := takeR_len g r
  refine h.turn hok (by omega) (fun v hv => ?_)
  cases r with
  | hard h' =>
    obtain ⟨rfl, rfl⟩ := hi
    exact take_hard hv (Nat.zero_le _) _ x
  | entry e' =>
    obtain ⟨rfl, rfl⟩ := hi
    exact take_entry hv h.ok.row (fun e he => (h.ok.ents e he).2) h.len (Nat.zero_le _) hh x hr.2.1.idx (by
      have h2 : x.data.length ≤ (payL (.entry x)).length := by
        show _ ≤ (encs [2, x.idx, x.term, x.kind] ++ txt x.data).length
        unfold txt
        rw [List.length_append, List.length_append]
        omega
      omega)
  | reset =>
    obtain rfl := hi
    exact take_reset hv (Nat.zero_le _) hh x
set_option maxHeartbeats 8000000 in
theorem load_good (hd : DiskIs w S a s) (hgl : Glob w B0) (hB0 : B0 ≤ w.heap.size) (h : OpI w w1 p a g wx) (n : ByteArray) (hn : n.size ≤ maxLen) (isLast : Bool) (hrd : rd s n.data.toList = (dat s n.data.toList, 0)) (hw : (scanL (dat s n.data.toList)).2.2 = 0) (hl : g.L.length + (recs s n.data.toList).length ≤ 100000) :
    Calls Tryz.prog 77 #[.pointer (some ⟨p, 0, none⟩), .string n, .bool isLast] wx fun e wy => e = .returned (.int .i64 0) ∧ OpI w w1 p a (takeRs g (recs s n.data.toList)) wy := by
  have hSl := diskIs_lt hd
  have hok : s.Ok := by obtain ⟨mb, F, h⟩ := hd; exact h.ok
  have hdl : (dat s n.data.toList).length ≤ 10000000 := by have := rd_len hok n.data.toList; rw [hrd] at this; exact this
  have c0 := h.ptr.2
  have HR := hid (show Calls Tryz.prog 64 #[.pointer (some ⟨a, 0, none⟩), .string n] wx (fun e w' => e = .returned (ReadV (dat s n.data.toList, 0)) ∧ wx = w') by
    obtain ⟨mb, F, h1⟩ := hd.below h.below
    have := read_any h1 n hn
    rw [hrd] at this
    exact this)
  have HSc := hid (scan_take (fun d wz => OpI w w1 p a (takeRs g d) wz ∧ d.length ≤ (recs s n.data.toList).length) (mk (dat s n.data.toList)) wx p (by rw [mk_size]; omega) ⟨h, Nat.zero_le _⟩ (fun d wz hz => (hz.1.glob hgl hB0).1.steps) (fun d wz wu hz hb => ⟨hz.1.later hb, hz.2⟩) (fun d r k hh x wz hz hf hi ht => by
    rw [mk_data] at ht
    obtain ⟨t, ht⟩ := ht
    have h1 : d.length + 1 ≤ (recs s n.data.toList).length := by unfold recs; rw [ht]; simp
    have h2 := takeRs_len d g
    refine (hz.1.take hf hi (scanL_short _ (dat s n.data.toList) (Nat.le_refl _) r (by rw [ht]; simp)) (by omega)).mono ?_
    rintro e w' ⟨he, hI⟩
    exact ⟨he, by rw [takeRs_append]; exact hI, by rw [List.length_append]; exact h1⟩))
  rw [mk_data] at HSc
  unfold ScanPost at HSc
  rw [hw] at HSc
  unfold ReadV at HR
  have HF : Hid (∀ wy, OpI w w1 p a (takeRs g (scanL (dat s n.data.toList)).1) wy → OpI w w1 p a (takeRs g (recs s n.data.toList)) wy) := hid (fun wy h => h)
  clear hd hgl h hok hdl hrd hw hl hSl
  generalize recs s n.data.toList = R at *
  generalize (scanL (dat s n.data.toList)) = q at *
  generalize mk (dat s n.data.toList) = t at *
  go_enter Tryz.func77, Tryz.ntmps77
  go_wp2_with (first
    | (go_at_call 64; (with_reducible refine HR.out.mono ?_); rintro e w1 ⟨rfl, rfl⟩)
    | (go_at_call 132; (with_reducible refine HSc.out.mono ?_); rintro e w2 ⟨rfl, hI⟩; have HI := hid hI.1; clear hI))
  go_ret
  exact ⟨rfl, HF.out _ HI.out⟩
end
theorem names_some {w : World} {B : Nat} {ao : Option Addr} {n cap : Nat} {C : List (List UInt8)} (h : NamesAt w B (.slice ao n cap) C) (hne : C ≠ []) : ∃ g, ao = some ⟨g, 0, none⟩ := by
  rcases h.2 with ⟨hv, hz⟩ | ⟨g, cap', cur, hv, _⟩
  · exact absurd (List.length_eq_zero_iff.1 hz) hne
  · simp only [Value.slice.injEq] at hv
    exact ⟨g, hv.1⟩
def OpenG (w : World) (S : Nat → Prop) (a : Nat) (s : Dk) (g : Lg) (e : Ending) (w' : World) : Prop :=
  ∃ p T, e = .returned (.tuple #[.pointer (some ⟨p, 0, none⟩), .int .i64 0]) ∧ LogAt w' T p a s g ∧ (∀ b, T b → S b ∨ w.heap.size ≤ b) ∧ Below w.heap.size w w' ∧ w.heap.size ≤ p
theorem OpI.log {w w1 wx : World} {S : Nat → Prop} {p a : Nat} {s : Dk} {g : Lg} (hd : DiskIs w S a s) (h : OpI w w1 p a g wx) : OpenG w S a s g (.returned (.tuple #[.pointer (some ⟨p, 0, none⟩), .int .i64 0])) wx := by
  have hSl := diskIs_lt hd
  obtain ⟨v, h1, h2⟩ := h.st
  have hz := h.below.size
  have hz1 := h.base.size
  refine ⟨p, fun b => S b ∨ b = p ∨ v.ownBlock = some b, rfl, ⟨⟨S, v, hd.below h.below, h1, fun e => by have := hSl p e; have := h.ge; omega, fun b hb e => by have := hSl b e; have := h2 b hb; omega, fun b hb => .inl hb, .inr (.inl rfl), fun b hb => .inr (.inr hb)⟩, fun b hb => ?_, h.ok, h.len⟩, fun b hb => ?_, h.below, h.ge⟩
  · rcases hb with hb | hb | hb
    · have := hSl b hb; omega
    · rw [hb]; exact h1.head.lt
    · exact (World.ownsRow.lt h1.row b hb).2
  · rcases hb with hb | hb | hb
    · exact .inl hb
    · rw [hb]; exact .inr h.ge
    · exact .inr (by have := h2 b hb; omega)
def OpRel (w w1 : World) (p a : Nat) (s : Dk) (names : List (List UInt8)) (u : Value) (wr : World) : Prop := ∃ k : Nat, k ≤ names.length ∧ u = .int .i64 (k : Int) ∧ Hid (OpI w w1 p a (takeRs g0 ((names.take k).flatMap (recs s))) wr)
set_option maxHeartbeats 8000000 in
theorem open_good {w : World} {S : Nat → Prop} {a : Nat} {s : Dk} {g : Lg} {B0 : Nat} (hd : DiskIs w S a s) (hG : Good s) (hgl : Glob w B0) (hB0 : B0 ≤ w.heap.size) (hR : RecInv s g) (hm : s.most ≤ 700000) :
    Calls Tryz.prog 29 #[.pointer (some ⟨a, 0, none⟩)] w (OpenG w S a s g) := by
  have hSl := diskIs_lt hd
  obtain ⟨wA, hwA⟩ : ∃ wA, w.alloc (.cells #[.pointer (some ⟨a, 0, none⟩), .int .i64 0, .int .i64 0, .slice none 0 0] 108) = wA := ⟨_, rfl⟩
  have hbA : Below w.heap.size w wA := by rw [← hwA]; exact (Below.refl _ _).alloc (Nat.le_refl _) _
  have hAz : wA.heap.size = w.heap.size + 1 := by rw [← hwA]; simp
  have hoA : own wA w.heap.size #[.pointer (some ⟨a, 0, none⟩), .int .i64 0, .int .i64 0, .slice none 0 0] 108 := by rw [← hwA]; exact own.new w _ _
  have hI0 : ∀ w1, Below wA.heap.size wA w1 → OpI w w1 w.heap.size a g0 w1 := fun w1 hb => ⟨hbA.trans (hb.mono hbA.size), Nat.le_refl _, ⟨.slice none 0 0, ⟨hoA.same (hb.block _ hoA.lt), EntRow.none _ _, (fun e => by cases e), Nat.zero_le _⟩, fun b hb => by cases hb⟩, Chg.refl _ _, g0_ok, by simp [g0]⟩
  obtain ⟨hgA, hBA⟩ := (hI0 wA (Below.refl _ _)).glob hgl hB0
  have HSeg := hid (segments_any (p := w.heap.size) (hd.below hbA) ((hoA.cell 0).trans rfl) hgA hBA)
  have hin := segsL_in hG.ok
  have hfew := hR.few hG
  have hroom := hG.ok.room
  obtain ⟨names, hnames⟩ : ∃ l, segsL s.L = l := ⟨_, rfl⟩
  have HLd : Hid (∀ (k : Nat) (h : k < names.length) w1 wx (b : Bool), OpI w w1 w.heap.size a (takeRs g0 ((names.take k).flatMap (recs s))) wx → Calls Tryz.prog 77 #[.pointer (some ⟨w.heap.size, 0, none⟩), .string (mk (names[k]'h)), .bool b] wx fun e wy => e = .returned (.int .i64 0) ∧ Hid (OpI w w1 w.heap.size a (takeRs g0 ((names.take (k + 1)).flatMap (recs s))) wy)) := hid (fun k h w1 wx b hI => by
    have hmem : names[k]'h ∈ segsL s.L := by rw [hnames]; exact List.getElem_mem h
    obtain ⟨q1, q2, q3⟩ := hin.2 _ hmem
    have hsplit : names.take (k + 1) = names.take k ++ [names[k]'h] := by rw [List.take_add_one, List.getElem?_eq_getElem h]; rfl
    have hle : ((names.take (k + 1)).flatMap (recs s)).length ≤ (names.flatMap (recs s)).length := by
      conv => rhs; rw [← List.take_append_drop (k + 1) names]
      rw [List.flatMap_append, List.length_append]
      omega
    rw [hsplit, List.flatMap_append, List.length_append, show [names[k]'h].flatMap (recs s) = recs s (names[k]'h) from by simp] at hle
    rw [hnames] at hfew
    have h2 := takeRs_len ((names.take k).flatMap (recs s)) g0
    have h3 : (g0 : Lg).L.length = 0 := rfl
    have hdt : (mk (names[k]'h)).data.toList = names[k]'h := mk_data _
    refine (load_good hd hgl hB0 hI (mk (names[k]'h)) (by rw [mk_size]; unfold maxLen; omega) b (by rw [hdt]; exact rd_dat hG q3) (by rw [hdt]; exact hR.whole _ hmem) (by rw [hdt]; omega)).mono ?_
    rintro e wy ⟨he, hI2⟩
    rw [hdt, ← takeRs_append] at hI2
    refine ⟨he, hid ?_⟩
    rw [hsplit, List.flatMap_append, show [names[k]'h].flatMap (recs s) = recs s (names[k]'h) from by simp]
    exact hI2)
  have HEnd : Hid (∀ w1 wx, OpI w w1 w.heap.size a (takeRs g0 ((names.take names.length).flatMap (recs s))) wx → OpenG w S a s g (.returned (.tuple #[.pointer (some ⟨w.heap.size, 0, none⟩), .int .i64 0])) wx) := hid (fun w1 wx hI => by
    rw [List.take_length, ← hnames, hR.eq] at hI
    exact hI.log hd)
  have hne : names ≠ [] := by rw [← hnames]; exact hR.ne0
  have hl40 : names.length ≤ 40 := by rw [← hnames]; exact hin.1
  have hpos : 0 < names.length := List.length_pos_iff.2 hne
  have q0 : ((names.length : Int) == 0) = false := beq_false_of_ne (by omega)
  have hwl : IntKind.i64.wrap ((names.length : Int) - 1) = (names.length : Int) - 1 := by rw [IntKind.wrap_i64]; omega
  unfold SegsPost at HSeg
  rw [hnames] at HSeg
  have HI0 := hid hI0
  have HbA := hid hbA
  clear hd hG hgl hB0 hR hm hSl hI0 hgA hBA hin hfew hroom hnames hoA hne hbA
  go_enter Tryz.func29, Tryz.ntmps29
  go_wp2_with (go_at_call 19; (with_reducible refine HSeg.out.mono ?_); rintro e w1 ⟨v1, rfl, hv1, hb1⟩; have HV := hid hv1; have HI1 := hid (HI0.out _ hb1); obtain ⟨a1, cap1, rfl⟩ := names_slice hv1; clear hv1 hb1)
  obtain ⟨gn, rfl⟩ := names_some HV.out (List.length_pos_iff.1 hpos)
  have hgn := names_lt HV.out
  go_wp2
  go_loopw [32] (OpRel w w1 w.heap.size a s names) (fun i _ => names.length - (intOf i).toNat)
  case atStart => exact ⟨0, Nat.zero_le _, rfl, hid (by simpa [takeRs] using HI1.out)⟩
  case round =>
    obtain ⟨k, hk, rfl, hI⟩ := hrel
    by_cases hkn : k < names.length
    · have hkI : (k : Int) < (names.length : Int) := by omega
      have hNV := names_same HV.out (w' := wr) (hI.out.chg.block gn hgn.2 (fun e => by have := hgn.1; omega))
      have d0 := names_at hNV hkn
      have C1 := hid (HLd.out k hkn w1 wr)
      clear hNV
      go_wp2_with (go_at_call 77; (with_reducible refine (C1.out _ hI.out).mono ?_); rintro e w2 ⟨rfl, hI2⟩)
      go_roundw
      case rel => exact ⟨k + 1, hkn, by go_num, hI2⟩
      case measure => simp [intOf]; omega
    · obtain rfl : k = names.length := by omega
      have hkI : (names.length : Int) ≤ (names.length : Int) := Int.le_refl _
      go_wp2
      go_ret2
      exact HEnd.out _ _ hI.out
theorem LogAt.segs {wx : World} {T : Nat → Prop} {p a B0 : Nat} {s : Dk} {g : Lg} {names : List (List UInt8)} (h : LogAt wx T p a s g) (hg : Glob wx B0) (hB0 : B0 ≤ wx.heap.size) (hn : segsL s.L = names) :
    Calls Tryz.prog 19 #[.pointer (some ⟨p, 0, none⟩)] wx fun e w' => ∃ v, e = .returned v ∧ NamesAt w' wx.heap.size v names ∧ Below wx.heap.size wx w' := by
  obtain ⟨⟨S, v, hd, hst, _⟩, _⟩ := h
  have := segments_any hd ((hst.head.cell 0).trans rfl) hg hB0
  unfold SegsPost at this
  rw [hn] at this
  exact this
end Go.Proofs.YtbidglefddmjhaaGreatDoor

