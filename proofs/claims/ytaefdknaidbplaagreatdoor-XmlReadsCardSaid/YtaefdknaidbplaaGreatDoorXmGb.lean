/-
  LAYER 11 (xml): what the package's variables hold; the library's calls on texts, in the words of the layer's mathematics.
-/
import Derived.Test.YtaefdknaidbplaaGreatDoorXmMath3
import Derived.Test.YtaefdknaidbplaaGreatDoorXmLay
import Derived.Test.YtaefdknaidbplaaGreatDoorXmLay2
import Derived.Test.YtaefdknaidbplaaGreatDoorBase
import Derived.Test.YtaefdknaidbplaaGreatDoorG0
namespace Go.Proofs.YtaefdknaidbplaaGreatDoor
open Go.RowKit
set_option linter.unusedVariables false
set_option maxRecDepth 100000

def namedCells : List Value := [.string ⟨#[38]⟩, .string ⟨#[97, 109, 112]⟩, .string ⟨#[60]⟩, .string ⟨#[108, 116]⟩, .string ⟨#[62]⟩, .string ⟨#[103, 116]⟩, .string ⟨#[34]⟩, .string ⟨#[113, 117, 111, 116]⟩, .string ⟨#[39]⟩, .string ⟨#[97, 112, 111, 115]⟩]
structure Gb (B : Nat) (w : World) : Prop where
  named : ∀ k v, namedCells[k]? = some v → w.cell? ⟨0, k, none⟩ = some v
  max : ∃ m, w.cell? ⟨1, 0, none⟩ = some (.int .i64 m)
  syn : ∃ ev, w.cell? ⟨4, 0, none⟩ = some ev ∧ (ev = .nilIface ∨ ∃ te pe, ev = .iface te pe)
  rng : ∃ ev, w.cell? ⟨5, 0, none⟩ = some ev ∧ (ev = .nilIface ∨ ∃ te pe, ev = .iface te pe)
  b1 : 0 < B
  b2 : 1 < B
  b3 : 4 < B
  b4 : 5 < B
theorem Gb.below {B : Nat} {w w' : World} (h : Gb B w) (hb : Below B w w') : Gb B w' := by
  obtain ⟨h1, ⟨m, h2⟩, ⟨e3, h3, h3'⟩, ⟨e4, h4, h4'⟩, b1, b2, b3, b4⟩ := h
  exact ⟨fun k v hk => (hb.cell (p := ⟨0, k, none⟩) b1).trans (h1 k v hk), ⟨m, (hb.cell (p := ⟨1, 0, none⟩) b2).trans h2⟩,
    ⟨e3, (hb.cell (p := ⟨4, 0, none⟩) b3).trans h3, h3'⟩, ⟨e4, (hb.cell (p := ⟨5, 0, none⟩) b4).trans h4, h4'⟩, b1, b2, b3, b4⟩
theorem Gb.more {B B' : Nat} {w : World} (h : Gb B w) (hB : B ≤ B') : Gb B' w := by
  obtain ⟨h1, h2, h3, h4, b1, b2, b3, b4⟩ := h
  exact ⟨h1, h2, h3, h4, by omega, by omega, by omega, by omega⟩
theorem Gb.names {B : Nat} {w : World} (h : Gb B w) : w.cell? ⟨0, 0, none⟩ = some (.string ⟨#[38]⟩) ∧ w.cell? ⟨0, 1, none⟩ = some (.string ⟨#[97, 109, 112]⟩) ∧ w.cell? ⟨0, 2, none⟩ = some (.string ⟨#[60]⟩) ∧ w.cell? ⟨0, 3, none⟩ = some (.string ⟨#[108, 116]⟩) ∧ w.cell? ⟨0, 4, none⟩ = some (.string ⟨#[62]⟩) ∧
    w.cell? ⟨0, 5, none⟩ = some (.string ⟨#[103, 116]⟩) ∧ w.cell? ⟨0, 6, none⟩ = some (.string ⟨#[34]⟩) ∧ w.cell? ⟨0, 7, none⟩ = some (.string ⟨#[113, 117, 111, 116]⟩) ∧ w.cell? ⟨0, 8, none⟩ = some (.string ⟨#[39]⟩) ∧ w.cell? ⟨0, 9, none⟩ = some (.string ⟨#[97, 112, 111, 115]⟩) :=
  ⟨h.named 0 _ rfl, h.named 1 _ rfl, h.named 2 _ rfl, h.named 3 _ rfl, h.named 4 _ rfl, h.named 5 _ rfl, h.named 6 _ rfl, h.named 7 _ rfl, h.named 8 _ rfl, h.named 9 _ rfl⟩
theorem max_of {W : World} (h : W.ShapedOpen Tryz.prog) : ∃ m, W.cell? ⟨1, 0, none⟩ = some (.int .i64 m) :=
  Go.Proofs.cell_of_shapedOpen_int (zero := #[.int .i64 0]) (t := 3) h (of_decide_eq_true (by kernel_rfl)) (by kernel_rfl) rfl (by kernel_rfl) (by kernel_rfl) Tryz.underlying3

/-! ### the library's calls -/
theorem mk_str (l : List UInt8) : (⟨l.toArray⟩ : ByteArray) = mk l := rfl
theorem past_eq (p s : List UInt8) : (Lib.trimPrefix s p, Lib.hasPrefix s p) = ((past p s).getD s, (past p s).isSome) := by
  unfold Lib.trimPrefix Lib.hasPrefix past
  by_cases h : p.isPrefixOf s = true
  · simp [h]
  · simp [h]
theorem cutPrefix_any (s p : ByteArray) (w : World) :
    Calls Tryz.prog 33 #[.string s, .string p] w fun e w' => e = .returned (.tuple #[.string (mk ((past p.data.toList s.data.toList).getD s.data.toList)), .bool (past p.data.toList s.data.toList).isSome]) ∧ w = w' := by
  have h := past_eq p.data.toList s.data.toList
  simp only [Prod.mk.injEq] at h
  rw [← h.1, ← h.2]
  exact (Any.strings_CutPrefix Tryz.xCutP s p w).mono fun e w' ⟨h1, h2⟩ => ⟨h1, h2.symm⟩
theorem index_upTo {e : List UInt8} (he : e ≠ []) : ∀ l : List UInt8, (upTo e l = none ∧ Lib.index l e = -1) ∨ ∃ a b, upTo e l = some (a, b) ∧ Lib.index l e = (a.length : Int)
  | [] => by
    left; unfold upTo Lib.index
    simp [he]
  | c :: r => by
    unfold upTo Lib.index
    by_cases hp : e.isPrefixOf (c :: r) = true
    · right; exact ⟨[], _, by rw [if_pos hp], by rw [if_pos hp]; rfl⟩
    · rw [if_neg hp, if_neg hp]
      rcases index_upTo he r with ⟨h1, h2⟩ | ⟨a, b, h1, h2⟩
      · left; rw [h1, h2]; exact ⟨rfl, rfl⟩
      · right
        refine ⟨c :: a, b, by rw [h1]; rfl, ?_⟩
        rw [h2]
        have : ((a.length : Int) == -1) = false := by simp
        rw [this]
        simp
def cutV (e l : List UInt8) : Value := match upTo e l with
  | none => .tuple #[.string (mk l), .string (mk []), .bool false]
  | some x => .tuple #[.string (mk x.1), .string (mk x.2), .bool true]
theorem cut_eq {e : List UInt8} (he : e ≠ []) (l : List UInt8) : Value.tuple #[.string ⟨(Lib.cut l e).1.toArray⟩, .string ⟨(Lib.cut l e).2.1.toArray⟩, .bool (Lib.cut l e).2.2] = cutV e l := by
  unfold cutV Lib.cut
  rcases index_upTo he l with ⟨h1, h2⟩ | ⟨a, b, h1, h2⟩
  · rw [h1, h2]; rfl
  · rw [h1, h2, if_pos (by omega)]
    obtain ⟨h3, h4⟩ := upTo_lt h1
    simp only [Int.toNat_natCast]
    have e1 : l.take a.length = a := by rw [h4, List.append_assoc, List.take_left]
    have e2 : l.drop (a.length + e.length) = b := by rw [h4, ← List.length_append, List.drop_left]
    rw [e1, e2]; rfl
theorem cut_any {B : Nat} {w : World} (hG : Gb B w) (s e : ByteArray) (he : e.data.toList ≠ []) (hs : s.size ≤ 1000000000) :
    Calls Tryz.prog 34 #[.string s, .string e] w fun x w' => x = .returned (cutV e.data.toList s.data.toList) ∧ Below w.heap.size w w' := by
  obtain ⟨m, hm⟩ := hG.max
  refine (Any.strings_Cut Tryz.xCut s e m w (by omega) hm).mono fun x w' ⟨h1, n, h2⟩ => ⟨?_, ?_⟩
  · rw [h1, cut_eq he]
  · rw [h2]; exact below_drew (Below.refl _ _) n
theorem index_mem (c : UInt8) : ∀ l : List UInt8, 0 ≤ Lib.index l [c] ↔ c ∈ l
  | [] => by simp [Lib.index]
  | d :: r => by
    unfold Lib.index
    by_cases h : c = d
    · subst h; simp
    · have ih := index_mem c r
      have hp : [c].isPrefixOf (d :: r) = false := by simp [List.isPrefixOf, h]
      rw [hp]
      simp only [Bool.false_eq_true, if_false, List.mem_cons, h, false_or]
      rw [← ih]
      have hge : -1 ≤ Lib.index r [c] := by
        rcases index_upTo (e := [c]) (by simp) r with ⟨_, h2⟩ | ⟨a, b, _, h2⟩ <;> rw [h2] <;> omega
      split
      · rename_i h1
        have : Lib.index r [c] = -1 := by simpa using h1
        omega
      · rename_i h1
        have : Lib.index r [c] ≠ -1 := by simpa using h1
        omega
theorem contains_any {B : Nat} {w : World} (hG : Gb B w) (s : ByteArray) (hs : s.size ≤ 1000000000) :
    Calls Tryz.prog 80 #[.string s, .string ⟨#[60]⟩] w fun x w' => x = .returned (.bool (decide ((60 : UInt8) ∈ s.data.toList))) ∧ Below w.heap.size w w' := by
  obtain ⟨m, hm⟩ := hG.max
  refine (Any.strings_Contains Tryz.xConta s ⟨#[60]⟩ m w (by omega) hm).mono fun x w' ⟨h1, h2⟩ => ⟨?_, ?_⟩
  · rw [h1]
    have : Lib.contains s.data.toList (⟨#[60]⟩ : ByteArray).data.toList = decide ((60 : UInt8) ∈ s.data.toList) := by
      unfold Lib.contains
      rw [show (⟨#[60]⟩ : ByteArray).data.toList = [60] from rfl]
      exact decide_eq_decide.2 (index_mem 60 _)
    rw [this]
  · rw [h2]; exact Below.refl _ _
theorem trim_eq (l : List UInt8) : Lib.trimLeftS l [32, 9, 10, 13] = l.dropWhile spcX := by
  unfold Lib.trimLeftS
  congr 1
  funext c
  simp [spcX, Bool.or_assoc]
  rfl
theorem trimLeft_any (s : ByteArray) (w : World) :
    Calls Tryz.prog 58 #[.string s, .string ⟨#[32, 9, 10, 13]⟩] w fun x w' => x = .returned (.string (mk (s.data.toList.dropWhile spcX))) ∧ Below w.heap.size w w' :=
  (Any.strings_TrimLeft_laid Tryz.xTrimL (by kernel_rfl) s ⟨#[32, 9, 10, 13]⟩ w (by decide) (ascii_of_all (by decide))).mono fun x w' ⟨h1, h2⟩ => ⟨by rw [h1]; show _ = Ending.returned (.string (mk _)); rw [← trim_eq]; rfl, h2⟩
theorem clone0_any (s : ByteArray) (w : World) (hs : s.size ≤ 1000000000) : Calls Tryz.prog 76 #[.string s] w fun x w' => x = .returned (.string s) ∧ Below w.heap.size w w' :=
  Any.stringslite_Clone Tryz.xClone s w (by omega)
set_option maxHeartbeats 400000 in
theorem clone_any (s : ByteArray) (w : World) (hs : s.size ≤ 1000000000) : Calls Tryz.prog 57 #[.string s] w fun x w' => x = .returned (.string s) ∧ Below w.heap.size w w' := by
  have H := hid (clone0_any s w hs)
  go_enter Tryz.func57, Tryz.ntmps57
  go_wp2_with (go_at_call 76; (with_reducible refine H.out.mono ?_); rintro e w' ⟨rfl, hb⟩)
  go_ret
  exact ⟨rfl, hb⟩
end Go.Proofs.YtaefdknaidbplaaGreatDoor
