import Derived.Test.YtbidglefddmjhaaGreatDoorWlScanNJ
import Derived.Test.YtbidglefddmjhaaGreatDoorWlNeedJ
/-
  LAYER 3 (wal): whether a segment is needed.
-/
namespace Go.Proofs.YtbidglefddmjhaaGreatDoor
open Go.RowKit Go.Maps
set_option linter.unusedVariables false
set_option maxRecDepth 100000

def NeedI (w : World) (pf pi : Nat) (i : Int) (d : List Rc) (wx : World) : Prop := NeedAt wx pf pi (d.any (isBig i)) i ∧ Below w.heap.size w wx
theorem needI_below {w : World} {pf pi : Nat} {i : Int} {d : List Rc} {wx wy : World} (h : NeedI w pf pi i d wx) (hb : Below wx.heap.size wx wy) : NeedI w pf pi i d wy :=
  ⟨⟨h.1.f.same (hb.block _ h.1.f.lt), h.1.x.same (hb.block _ h.1.x.lt), h.1.ne⟩, h.2.trans (hb.mono h.2.size)⟩
theorem needScan_any {w : World} {B0 : Nat} (hg : Glob w B0) (hB0 : B0 ≤ w.heap.size) (t : ByteArray) (ht : t.size ≤ 100000000) (i : Int) (w3 : World) (pf pi : Nat) (hpf : w.heap.size ≤ pf) (h3 : NeedI w pf pi i [] w3) :
    Calls Tryz.prog 132 #[.string t, .func (.func 159) #[] #[.pointer (some ⟨pf, 0, none⟩), .pointer (some ⟨pi, 0, none⟩)]] w3 (ScanPost (NeedI w pf pi i) t.data.toList) := by
  refine scan_needed (NeedI w pf pi i) t w3 pf pi ht h3 (fun d wx h => (hg.below h.2 hB0).steps) (fun d wx wy h hb => needI_below h hb) ?_
  intro d r k h x wx hI hf hr _
  refine (need1_any hI.1 k h x r hr).mono ?_
  rintro e w' ⟨rfl, h1, h2⟩
  refine ⟨rfl, ?_, hI.2.trans (h2.below hI.2.size (fun b e => by omega))⟩
  rw [List.any_append]
  simpa using h1
set_option maxHeartbeats 4000000 in
theorem needed_any {w : World} {S : Nat → Prop} {p a : Nat} {s : Dk} {B0 : Nat} (h : DiskIs w S a s) (hp : AtDisk w S p a) (hg : Glob w B0) (hB0 : B0 ≤ w.heap.size) (n : ByteArray) (hn : n.size ≤ maxLen) (i : Int) :
    Calls Tryz.prog 113 #[.pointer (some ⟨p, 0, none⟩), .string n, .int .i64 i] w fun e w' => e = .returned (.tuple #[.bool ((scanL (rd s n.data.toList).1).1.any (isBig i)), .int .i64 (rd s n.data.toList).2]) ∧ Below w.heap.size w w' := by
  have hok : s.Ok := by obtain ⟨mb, F, h⟩ := h; exact h.ok
  have hlen := rd_len hok n.data.toList
  have b1 : Below w.heap.size w (w.alloc (.cells #[.int .i64 i] 3)) := Below.alloc (Below.refl _ _) (Nat.le_refl _) _
  have z1 : (w.alloc (.cells #[.int .i64 i] 3)).heap.size = w.heap.size + 1 := by simp
  have b2 : Below w.heap.size w ((w.alloc (.cells #[.int .i64 i] 3)).alloc (.cells #[.bool false] 4)) := b1.alloc b1.size _
  have c0 := (hp.below b1).2.2
  have HR := hid (show Calls Tryz.prog 64 #[.pointer (some ⟨a, 0, none⟩), .string n] (w.alloc (.cells #[.int .i64 i] 3)) (fun e w' => e = .returned (ReadV (rd s n.data.toList)) ∧ (w.alloc (.cells #[.int .i64 i] 3)) = w') by
    obtain ⟨mb, F, h1⟩ := h.below b1
    exact read_any h1 n hn)
  have oi := own.new w #[.int .i64 i] 3
  have of := own.new (w.alloc (.cells #[.int .i64 i] 3)) #[.bool false] 4
  rw [z1] at of
  have hNI : NeedI w (w.heap.size + 1) w.heap.size i [] ((w.alloc (.cells #[.int .i64 i] 3)).alloc (.cells #[.bool false] 4)) :=
    ⟨⟨of, oi.same (Below.heap_alloc _ _ _ (by rw [z1]; omega)), by omega⟩, b2⟩
  have HSc := hid (needScan_any hg hB0 (mk (rd s n.data.toList).1) (by rw [mk_size]; omega) i _ (w.heap.size + 1) w.heap.size (by omega) hNI)
  rw [mk_data] at HSc
  unfold ScanPost at HSc
  unfold ReadV at HR
  clear h hp hg hok oi of hNI hlen
  generalize (scanL (rd s n.data.toList).1) = q at *
  generalize (rd s n.data.toList).2 = k at *
  generalize mk (rd s n.data.toList).1 = t at *
  go_enter Tryz.func113, Tryz.ntmps113
  go_wp2_with (first
    | (go_at_call 64; go_loud ((with_reducible refine HR.out.mono ?_); rintro e w1 ⟨rfl, rfl⟩))
    | (go_at_call 132; go_loud ((with_reducible refine HSc.out.mono ?_); rintro e w2 ⟨rfl, hI⟩; have hc := (hI.1.f.cell 0).trans rfl; have hb2 := hI.2; clear hI)))
  go_ret2
  exact ⟨rfl, hb2⟩
end Go.Proofs.YtbidglefddmjhaaGreatDoor

