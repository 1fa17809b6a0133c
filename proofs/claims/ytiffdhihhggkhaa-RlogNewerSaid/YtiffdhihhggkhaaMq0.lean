/-
  GRis0, Base, Builder, NumMath, CodecMath, Crc, Bits, Num, Law, Sl, Ints, ToInt, RefToInt, Frame, Texts, CodecMath2, MsMath, MsMath2, Bools, in one text.
-/
import Derived.KernelRfl
import Derived.Test.YtiffdhihhggkhaaProg
import Derived.WalkKit
import Derived.Lib.Builder
import Derived.Lib.Strings
import Derived.Lib.UnsafeStr
import Derived.Laws.BytesArg
import Derived.Laws.OwnMore
import Derived.Lib.ConvBytes
import Derived.Deep.QuietTactic
import Derived.BigQuiet
import Derived.Deep.RegionWith
import Derived.Lib.Slices
import Derived.Lib.AppendStr
import Derived.Laws.Externs
import Derived.BigRegion
import Derived.Lib.BitFns
import Derived.Laws.BitsAllLaws
import Derived.RowKit
import Init
import Derived.Shelf.Strconv.Itoa0
import Derived.Shelf.Strings.Prefix
import Derived.Test.YtiffdhihhggkhaaRows
import Derived.ProofKit
import Derived.OpenShut
import Derived.Carry
import Derived.Laws.BytesString
/-
  GENERAL: rows of numbers that rise, from above b, to 9.
-/
namespace Go.Proofs.Ytiffdhihhggkhaa
/-- Rising from above b, to 9. -/
def risingF (b : Int) : List Int → Bool
  | [] => true
  | v :: r => decide (b < v) && decide (v ≤ 9) && risingF v r
theorem risingF_len : ∀ (l : List Int) (b : Int), risingF b l = true → b ≤ 9 → (l.length : Int) ≤ 9 - b ∧ ∀ v ∈ l, b < v ∧ v ≤ 9
  | [], b, h, hb => ⟨by simp; omega, by simp⟩
  | v :: r, b, h, hb => by
    unfold risingF at h
    simp only [Bool.and_eq_true, decide_eq_true_eq] at h
    obtain ⟨⟨h1, h2⟩, h3⟩ := h
    obtain ⟨h4, h5⟩ := risingF_len r v h3 h2
    refine ⟨by simp only [List.length_cons]; omega, fun x hx => ?_⟩
    rcases List.mem_cons.1 hx with e | e
    · subst e; exact ⟨h1, h2⟩
    · have := h5 x e; omega

/-! ### reading -/
end Go.Proofs.Ytiffdhihhggkhaa

/-
  SMALL LAWS THAT EVERY LAYER USES: rows of bytes that the call has made itself; strings cut and joined; what stays below a block.
-/
namespace Go.Proofs.Ytiffdhihhggkhaa
open Go.RowKit
set_option linter.unusedVariables false
set_option maxRecDepth 100000

theorem hid {p : Prop} (h : p) : Hid p := h

theorem infoByte : (Try.prog.info? 5).map (fun i => (i.zero, i.size, i.bytes)) = some (some (.int .u8 0), 1, 1) := by kernel_rfl
theorem infoByte_parts : ∃ i, Try.prog.info? 5 = some i ∧ i.zero = some (.int .u8 0) ∧ i.size = 1 ∧ i.bytes = 1 := by
  obtain ⟨i, hi, hz⟩ := Option.map_eq_some_iff.1 infoByte
  simp only [Prod.mk.injEq] at hz
  exact ⟨i, hi, hz.1, hz.2.1, hz.2.2⟩
theorem cellsByte : Try.prog.cellsOf 5 = 1 := by kernel_rfl

/-- A row of bytes that the call has made itself (from block B on). -/
def Bytes (w : World) (B : Nat) (v : Value) (l : List UInt8) : Prop := w.ownsRow B 5 1 v l.length (Lib.byteCells l)

theorem byteCells_getElem? (l : List UInt8) (j : Nat) (u : Value) (h : (Lib.byteCells l)[j]? = some u) : ∃ c, l[j]? = some c ∧ u = .int .u8 c.toNat := by
  simp only [Lib.byteCells, List.getElem?_map, Option.map_eq_some_iff] at h
  obtain ⟨c, hc, rfl⟩ := h
  exact ⟨c, hc, rfl⟩
theorem byteCells_one (l : List UInt8) : ∀ u ∈ Lib.byteCells l, u.oneCell' = true := by
  intro u hu
  simp only [Lib.byteCells, List.mem_map] at hu
  obtain ⟨c, _, rfl⟩ := hu
  rfl

/-- Its shape, where it holds a byte. -/
theorem Bytes.shape {w : World} {B : Nat} {v : Value} {l : List UInt8} (h : Bytes w B v l) (h0 : l ≠ []) :
    ∃ g cap, v = .slice (some ⟨g, 0, none⟩) l.length cap ∧ B ≤ g ∧ g < w.heap.size ∧ l.length ≤ cap ∧ cap ≤ maxLen ∧ (∀ j c, l[j]? = some c → w.cell? ⟨g, j, none⟩ = some (.int .u8 c.toNat)) ∧ ∀ j, w.frozen? ⟨g, j, none⟩ = false := by
  have hlen : l.length ≠ 0 := by simpa using h0
  have hcs := fun g hg => World.ownsRow.cells h (g := g) hg
  have hlt := World.ownsRow.lt h
  rcases h.2 with ⟨_, hz⟩ | ⟨g, cap, cur, rfl, hB, hg, hnc, hcm, hcs', htake⟩
  · exact absurd hz hlen
  · refine ⟨g, cap, rfl, hB, (hlt g rfl).2, hnc, hcm, ?_, fun j => Lib.frozen_of_heap hg j⟩
    intro j c hj
    have := hcs g rfl j (.int .u8 c.toNat) (by simp [Lib.byteCells, hj])
    have hadd : (⟨g, 0, none⟩ : Addr).add j = ⟨g, j, none⟩ := by unfold Addr.add; split <;> simp_all
    rw [hadd] at this
    exact this

theorem ownsRow_below {w w' : World} {B B' : Nat} {e : TypeId} {size : Nat} {v : Value} {n : Nat} {xs : List Value} (h : w.ownsRow B e size v n xs) (hb : Below B' w w') (hB : w.heap.size ≤ B') : w'.ownsRow B e size v n xs := by
  refine h.kept (row := none) ⟨hb.os, hb.tape, hb.output, hb.size, fun k hk _ => hb.block k (by omega)⟩ ?_
  cases hv : v.ownBlock <;> simp

/-- One that holds just one byte, laid by '[]byte{c}'. -/
theorem Bytes.one (w : World) (B : Nat) (c : Nat) (n : Int) (hn : n = (c : Int)) (hc : c < 256) (hB : B ≤ w.heap.size) : Bytes (w.alloc (.cells #[.int .u8 n] 5)) B (.slice (some ⟨w.heap.size, 0, none⟩) 1 1) [UInt8.ofNat c] := by
  subst hn
  have : (UInt8.ofNat c).toNat = c := by rw [UInt8.toNat_ofNat']; exact Nat.mod_eq_of_lt hc
  refine ⟨by simp [Lib.byteCells], .inr ⟨w.heap.size, 1, #[.int .u8 (c : Int)], rfl, hB, heap_alloc_new w _, Nat.le_refl _, by unfold maxLen; omega, by simp, by simp [Lib.byteCells, this]⟩⟩

theorem getD_of {l : List Int} {i : Nat} (h : i < l.length) : l.getD i 0 = l[i] := by simp [List.getD, h]

set_option maxRecDepth 100000 in
/-- string(b). -/
theorem run_string {w : World} {g n cap : Nat} {l : List UInt8} (hn : n = l.length) (hc : ∀ j c, l[j]? = some c → w.cell? ⟨g, j, none⟩ = some (.int .u8 c.toNat)) :
    (convert 103 9 (.slice (some ⟨g, 0, none⟩) n cap)).run Try.prog w = .ok (.string ⟨l.toArray⟩) w := by
  have h := run_convert_bytes_arg (P := Try.prog) w 103 5 Try.underlying103 Try.underlying5 g 0 n cap (l.map fun c => (c.toNat : Int)) (by simp [hn]) (fun i hi => by
    have hil : i < l.length := by omega
    rw [Nat.zero_add, hc i l[i] (by simp [hil]), getD_of (by simpa using hil)]
    simp) 9 Try.underlying9
  rw [h]
  congr 2
  simp [strOfNums, List.map_map]
  congr 1
  apply List.ext_getElem
  · simp
  · intro i h1 h2; simp


/-- A string out of a list of bytes. -/
def mk (l : List UInt8) : ByteArray := ⟨l.toArray⟩
theorem mk_size (l : List UInt8) : (mk l).size = l.length := by simp [mk, ByteArray.size]
theorem mk_data (l : List UInt8) : (mk l).data.toList = l := rfl
theorem mk_of (s : ByteArray) : mk s.data.toList = s := rfl
theorem str_ext {s t : ByteArray} (h : s.data.toList = t.data.toList) : s = t := by
  obtain ⟨⟨l⟩⟩ := s; obtain ⟨⟨m⟩⟩ := t; simp at h; rw [h]
theorem str_len (s : ByteArray) : s.data.toList.length = s.size := rfl
theorem extract_drop (s : ByteArray) (a n : Nat) (h : n = s.size) : s.extract a n = mk (s.data.toList.drop a) := by
  apply str_ext
  rw [Lib.extract_data, mk_data, h, List.take_of_length_le]
  rw [List.length_drop, str_len]; exact Nat.le_refl _
theorem extract_take (s : ByteArray) (b : Nat) : s.extract 0 b = mk (s.data.toList.take b) := by
  apply str_ext; rw [Lib.extract_data, mk_data]; simp
theorem append_data (s t : ByteArray) : (s ++ t).data.toList = s.data.toList ++ t.data.toList := by rw [ByteArray.data_append, Array.toList_append]
theorem mk_append (l m : List UInt8) : mk l ++ mk m = mk (l ++ m) := str_ext (by rw [append_data]; rfl)
theorem drop_cons (s : ByteArray) (k : Nat) (h : k < s.size) : s.data.toList.drop k = s[k] :: s.data.toList.drop (k + 1) := by
  rw [List.drop_eq_getElem_cons (by simpa using h)]; rfl

/-- A contract that leaves the world, inside a region that draws its order. -/
theorem quiet_eq {P : Program} {f : FuncId} {args : Array Value} {w : World} {n : Nat} {v : Value}
    (h : Calls P f args (w.drewN n) fun e w' => e = .returned v ∧ w.drewN n = w') : Calls P f args (w.drewN n) fun e w'' => e = .returned v ∧ ∃ m, w'' = w.drewN m :=
  h.mono fun _ _ ⟨he, hm⟩ => ⟨he, n, hm.symm⟩
theorem drewN_zero (w : World) : w = w.drewN 0 := rfl
theorem below_drew {B : Nat} {a w : World} (h : Below B a w) (n : Nat) : Below B a (w.drewN n) := h.trans ⟨rfl, rfl, rfl, Nat.le_refl _, fun _ _ => rfl⟩

/-- s[lo:hi], s[lo:], s[:hi] of a string, as a list of bytes. -/
theorem slice_lh {s : ByteArray} {lo hi : Int} {l : List UInt8} (h0 : 0 ≤ lo) (h1 : lo ≤ hi) (h2 : hi ≤ s.size) (hl : (s.data.toList.drop lo.toNat).take (hi.toNat - lo.toNat) = l) (wx : World) :
    (Instr.slice 9 (.string s) (some (.int .i64 lo)) (some (.int .i64 hi)) none).run Try.prog wx = .ok (.string (mk l)) wx := by
  rw [run_slice_string (P := Try.prog) wx 9 s .i64 .i64 lo hi Try.underlying9 h0 h1 h2]
  congr 2
  apply str_ext; rw [Lib.extract_data, mk_data, hl]
theorem slice_l {s : ByteArray} {lo : Int} {l : List UInt8} (h0 : 0 ≤ lo) (h1 : lo ≤ s.size) (hl : s.data.toList.drop lo.toNat = l) (wx : World) :
    (Instr.slice 9 (.string s) (some (.int .i64 lo)) none none).run Try.prog wx = .ok (.string (mk l)) wx := by
  rw [run_slice_string_from_if (P := Try.prog) wx 9 s .i64 lo Try.underlying9, if_pos ⟨h0, h1⟩, extract_drop s _ _ rfl, hl]
theorem slice_h {s : ByteArray} {hi : Int} {l : List UInt8} (h0 : 0 ≤ hi) (h1 : hi ≤ s.size) (hl : s.data.toList.take hi.toNat = l) (wx : World) :
    (Instr.slice 9 (.string s) none (some (.int .i64 hi)) none).run Try.prog wx = .ok (.string (mk l)) wx := by
  rw [run_slice_string_to_if (P := Try.prog) wx 9 s .i64 hi Try.underlying9, if_pos ⟨h0, h1⟩, extract_take, hl]

/-- make([]byte, n): a row of noughts of the call's own. -/
theorem make_bytes (w : World) (B n : Nat) (hB : B ≤ w.heap.size) (hn : n ≤ 140737488355328) :
    ∃ w', (Instr.makeSlice 103 (.int .i64 (n : Int)) (.int .i64 (n : Int))).run Try.prog w = .ok (.slice (some ⟨w.heap.size, 0, none⟩) n n) w' ∧ Bytes w' B (.slice (some ⟨w.heap.size, 0, none⟩) n n) (List.replicate n 0) ∧ Below w.heap.size w w' ∧ w'.heap.size = w.heap.size + 1 := by
  obtain ⟨i0, hi, hz0, hz1, hz2⟩ := infoByte_parts
  have h := run_make (P := Try.prog) w 103 5 i0 (.int .u8 0) Try.underlying103 hi hz0 .i64 .i64 (n : Int) (n : Int) (by omega) (Int.le_refl _) (by rw [hz2]; omega) (by omega)
  rw [hz1, Int.toNat_natCast] at h
  refine ⟨_, h, ?_, Below.alloc (Below.refl _ _) (Nat.le_refl _) _, by simp⟩
  have hc : madeCells (Value.cells (.int .u8 0)) (n * 1) = (List.replicate n (Value.int .u8 0)).toArray :=
    Array.ext' (by rw [show Value.cells (.int .u8 0) = #[.int .u8 0] from rfl, Nat.mul_one, toList_madeCells_one])
  rw [hc]
  refine ⟨by simp [Lib.byteCells], .inr ⟨w.heap.size, n, _, by simp, hB, heap_alloc_new w _, by simp, by unfold maxLen; omega, by simp, by simp [Lib.byteCells]⟩⟩

/-- A store into it. -/
theorem Bytes.set {w : World} {B g cap : Nat} {l : List UInt8} (h : Bytes w B (.slice (some ⟨g, 0, none⟩) l.length cap) l) (k : Nat) (hk : k < l.length) (c : UInt8) (n : Int) (hn : n = (c.toNat : Int)) :
    Bytes (w.setCell ⟨g, k, none⟩ (.int .u8 n)) B (.slice (some ⟨g, 0, none⟩) l.length cap) (l.set k c) := by
  subst hn
  rcases h.2 with ⟨hv, _⟩ | ⟨g', cap', cur, hv, hB, hg, hnc, hcm, hcs, htake⟩
  · cases hv
  · cases hv
    refine ⟨by simp [Lib.byteCells], .inr ⟨g, cap, cur.setIfInBounds k (.int .u8 c.toNat), by rw [List.length_set], hB, ?_, by rw [List.length_set]; exact hnc, hcm, by simpa using hcs, ?_⟩⟩
    · simp [World.setCell, Array.getElem?_modify, hg]
    · rw [Array.toList_setIfInBounds, List.length_set, List.take_set, htake]
      simp [Lib.byteCells, List.map_set]

/-! ### A row of bytes whose block may bear a mark behind its end (what []byte(s) makes) -/
def RowAt (w : World) (B g : Nat) (l : List UInt8) : Prop :=
  B ≤ g ∧ (∀ j c, l[j]? = some c → w.cell? ⟨g, j, none⟩ = some (.int .u8 c.toNat)) ∧ ∀ j, j < l.length → w.frozen? ⟨g, j, none⟩ = false

theorem setCell_cell {w : World} {g k j : Nat} {v u : Value} (hk : w.cell? ⟨g, k, none⟩ = some u) : (w.setCell ⟨g, k, none⟩ v).cell? ⟨g, j, none⟩ = if j = k then some v else w.cell? ⟨g, j, none⟩ := by
  unfold World.cell? at hk
  cases hg : w.heap[g]? with
  | none => simp [hg] at hk
  | some o =>
    cases o with
    | cells cs t fr =>
      simp [hg] at hk
      have hlt : k < cs.size := by
        rcases Nat.lt_or_ge k cs.size with h | h
        · exact h
        · simp [Array.getElem?_eq_none h] at hk
      simp only [World.cell?, World.setCell, Array.getElem?_modify, hg]
      by_cases h : j = k
      · subst h; simp [hlt]
      · simp [h, Ne.symm h]
    | _ => simp [hg] at hk
theorem setCell_frozen (w : World) (g k : Nat) (v : Value) (a : Addr) : (w.setCell ⟨g, k, none⟩ v).frozen? a = w.frozen? a := by
  simp only [World.frozen?, World.setCell, Array.getElem?_modify]
  by_cases h : g = a.block
  · rw [if_pos h]
    cases hg : w.heap[a.block]? with
    | none => rfl
    | some o => cases o <;> rfl
  · rw [if_neg h]

theorem RowAt.set {w : World} {B g : Nat} {l : List UInt8} (h : RowAt w B g l) (k : Nat) (hk : k < l.length) (c : UInt8) (n : Int) (hn : n = (c.toNat : Int)) :
    RowAt (w.setCell ⟨g, k, none⟩ (.int .u8 n)) B g (l.set k c) := by
  subst hn
  obtain ⟨h1, h2, h3⟩ := h
  refine ⟨h1, fun j d hj => ?_, fun j hj => ?_⟩
  · rw [setCell_cell (h2 k l[k] (by simp [hk]))]
    by_cases hjk : j = k
    · subst hjk
      rw [List.getElem?_set_self hk] at hj
      cases hj; rw [if_pos rfl]
    · rw [if_neg hjk]
      rw [List.getElem?_set_ne (Ne.symm hjk)] at hj
      exact h2 j d hj
  · rw [setCell_frozen]; exact h3 j (by simpa using hj)

/-- []byte(s). -/
theorem run_bytes (w : World) (s : ByteArray) :
    ∃ cap w', (convert 9 103 (.string s)).run Try.prog w = .ok (.slice (some ⟨w.heap.size, 0, none⟩) s.size cap) w' ∧ RowAt w' w.heap.size w.heap.size s.data.toList ∧ Below w.heap.size w w' ∧ s.size ≤ cap ∧ w'.heap.size = w.heap.size + 1 := by
  refine ⟨_, _, Lib.run_convert_string_bytes (P := Try.prog) w 9 103 5 s Try.underlying9 Try.underlying103 Try.underlying5, ⟨Nat.le_refl _, fun j c hj => ?_, fun j hj => ?_⟩, ⟨rfl, rfl, rfl, by rw [Lib.bytesWorld_size]; omega, fun k hk => Lib.bytesWorld_at_old w _ s k hk⟩, ?_, Lib.bytesWorld_size _ _ _⟩
  · have hlt : j < s.size := by
      rcases Nat.lt_or_ge j s.size with h | h
      · exact h
      · rw [List.getElem?_eq_none (by rw [str_len]; exact h)] at hj; cases hj
    rw [Lib.bytesWorld_cell w _ s j hlt]
    simp [List.getD, hj]
  · have hh := Lib.bytesWorld_at_new w 5 s
    simp only [World.frozen?, hh]
    rw [str_len] at hj
    have : s.size ≤ (Lib.bytesCells w 5 s).size := by
      unfold Lib.bytesCells
      rw [Array.size_append, Array.size_map]
      exact Nat.le_add_right _ _
    simp; omega
  · exact grownCap_ge _ _ _ _
end Go.Proofs.Ytiffdhihhggkhaa

/-
  WHAT strings.Builder DOES IN A BLOCK OF THE CALL's OWN: contracts of copyCheck, WriteByte, WriteString and String, over a block of whatever type T at whose head a Builder lies (condition: 'BlkOk T': two cells, no row of bytes).
-/
namespace Go.Proofs.Ytiffdhihhggkhaa
open Go.RowKit
set_option linter.unusedVariables false
set_option maxRecDepth 100000

/-! ### The same over lists of bytes -/
theorem byteCells_snoc (l : List UInt8) (c : Nat) (hc : c < 256) : Lib.byteCells l ++ [.int .u8 (c : Int)] = Lib.byteCells (l ++ [UInt8.ofNat c]) := by
  have : (UInt8.ofNat c).toNat = c := by rw [UInt8.toNat_ofNat']; exact Nat.mod_eq_of_lt hc
  simp [Lib.byteCells, this]
theorem byteCells_append (l m : List UInt8) : Lib.byteCells l ++ Lib.byteCells m = Lib.byteCells (l ++ m) := by simp [Lib.byteCells]

/-- A draw leaves a builder as it is. -/
theorem builder_drew {T e : TypeId} {B b : Nat} {bs : List Value} {w : World} (h : Lib.IsBuilder T e B b bs w) : Lib.IsBuilder T e B b bs w.drew := h
end Go.Proofs.Ytiffdhihhggkhaa


/-
  THE PLAIN MATHEMATICS OF LAYER 1 (codec): numbers in groups of seven bits, the most significant one first: written ('enc'), and read by the program's rule ('toInt') and by the document's ('toIntR'): both read just what was written.
-/
namespace Go.Proofs.Ytiffdhihhggkhaa
open Go.RowKit

/-- What an int is turned into. -/
def nat64 (n : Int) : Nat := if 0 ≤ n then (2 * n).toNat else (-2 * n - 1).toNat
def unz (v : Nat) : Int := if v % 2 = 1 then -((v / 2 : Nat) : Int) - 1 else ((v / 2 : Nat) : Int)

theorem nat64_lt {n : Int} (h0 : -9223372036854775808 ≤ n) (h1 : n ≤ 9223372036854775807) : nat64 n < 18446744073709551616 := by
  unfold nat64; split <;> omega
theorem unz_nat64 (n : Int) : unz (nat64 n) = n := by
  unfold unz nat64
  by_cases h : 0 ≤ n
  · rw [if_pos h, if_neg (by omega)]; omega
  · rw [if_neg h, if_pos (by omega)]; omega
theorem nat64_unz (v : Nat) : nat64 (unz v) = v := by
  unfold nat64 unz
  by_cases h : v % 2 = 1
  · rw [if_pos h, if_neg (by omega)]; omega
  · rw [if_neg h, if_pos (by omega)]; omega
theorem unz_lo {v : Nat} (h : v < 18446744073709551616) : -9223372036854775808 ≤ unz v ∧ unz v ≤ 9223372036854775807 := by
  unfold unz; split <;> omega

/-- The groups of a number but the last, each with 128 added. -/
def encC (v : Nat) : List UInt8 := if v = 0 then [] else encC (v / 128) ++ [UInt8.ofNat (128 + v % 128)]
termination_by v
decreasing_by omega
def enc (v : Nat) : List UInt8 := encC (v / 128) ++ [UInt8.ofNat (v % 128)]
def encs (l : List Int) : List UInt8 := l.flatMap fun n => enc (nat64 n)

theorem encC_zero : encC 0 = [] := by rw [encC]; rfl
theorem encC_pos {v : Nat} (h : v ≠ 0) : encC v = encC (v / 128) ++ [UInt8.ofNat (128 + v % 128)] := by rw [encC, if_neg h]
theorem encC_length (k : Nat) : ∀ v, v < 128 ^ k → (encC v).length ≤ k := by
  induction k with
  | zero => intro v h; rw [Nat.pow_zero] at h; rw [show v = 0 by omega, encC_zero]; exact Nat.le_refl _
  | succ k ih =>
    intro v h
    by_cases h0 : v = 0
    · rw [h0, encC_zero]; exact Nat.zero_le _
    · rw [encC_pos h0, List.length_append, List.length_singleton]
      have := ih (v / 128) (by rw [Nat.pow_succ] at h; omega)
      omega
theorem enc_length {v : Nat} (h : v < 18446744073709551616) : (enc v).length ≤ 10 := by
  have := encC_length 9 (v / 128) (by omega)
  rw [enc, List.length_append, List.length_singleton]; omega
theorem enc_pos (v : Nat) : 0 < (enc v).length := by rw [enc, List.length_append, List.length_singleton]; omega

theorem ofNat_toNat {n : Nat} (h : n < 256) : (UInt8.ofNat n).toNat = n := by
  rw [UInt8.toNat_ofNat']; exact Nat.mod_eq_of_lt h
theorem of_toNat (c : UInt8) : UInt8.ofNat c.toNat = c := UInt8.ofNat_toNat

/-- The program's reader. -/
def toIntI : Nat → List UInt8 → Option (Nat × List UInt8)
  | _, [] => none
  | u, c :: r => if 144115188075855871 < u then none else if c.toNat < 128 then some (u * 128 + c.toNat % 128, r) else toIntI (u * 128 + c.toNat % 128) r
def toInt (l : List UInt8) : Option (Nat × List UInt8) := if l.head? = some 128 then none else toIntI 0 l
/-- The document's. -/
def toIntR (p : List UInt8) (v : Nat) : List UInt8 → Option (Nat × List UInt8)
  | [] => none
  | c :: r => if p.length < 10 then
      (if c.toNat < 128 then (if enc ((128 * v + c.toNat % 128) % 18446744073709551616) = p ++ [c] then some ((128 * v + c.toNat % 128) % 18446744073709551616, r) else none)
       else toIntR (p ++ [c]) ((128 * v + c.toNat % 128) % 18446744073709551616) r)
    else none

theorem toIntI_sound : ∀ (l : List UInt8) (u v : Nat) (r : List UInt8), (u ≠ 0 ∨ l.head? ≠ some 128) → toIntI u l = some (v, r) → v < 18446744073709551616 ∧ encC u ++ l = enc v ++ r := by
  intro l
  induction l with
  | nil => intro u v r _ h; cases h
  | cons c l ih =>
    intro u v r hu h
    have hc := c.toNat_lt
    rw [toIntI] at h
    split at h
    · cases h
    · split at h
      · rename_i h1 h2
        cases h
        refine ⟨by omega, ?_⟩
        rw [enc, show (u * 128 + c.toNat % 128) / 128 = u by omega, show (u * 128 + c.toNat % 128) % 128 = c.toNat by omega, of_toNat, List.append_assoc]; rfl
      · rename_i h1 h2
        have hne : u * 128 + c.toNat % 128 ≠ 0 := by
          rcases hu with hu | hu
          · omega
          · have : c ≠ 128 := fun e => hu (by rw [e]; rfl)
            have : c.toNat ≠ 128 := fun e => this (by rw [← of_toNat c, e]; rfl)
            omega
        have := ih _ v r (.inl hne) h
        refine ⟨this.1, ?_⟩
        rw [← this.2, encC_pos hne, show (u * 128 + c.toNat % 128) / 128 = u by omega, show 128 + (u * 128 + c.toNat % 128) % 128 = c.toNat by omega, of_toNat, List.append_assoc]; rfl

theorem toIntI_through : ∀ (w : Nat) (t : List UInt8), w < 18446744073709551616 → toIntI 0 (encC w ++ t) = toIntI w t := by
  intro w
  induction w using Nat.strongRecOn with
  | ind w ih =>
    intro t hw
    by_cases h0 : w = 0
    · rw [h0, encC_zero]; rfl
    · rw [encC_pos h0, List.append_assoc, ih (w / 128) (by omega) _ (by omega), List.singleton_append, toIntI, if_neg (by omega), ofNat_toNat (by omega), if_neg (by omega)]
      congr 1; omega

theorem head_encC : ∀ (w : Nat), w ≠ 0 → ∀ t, (encC w ++ t).head? ≠ some 128 := by
  intro w
  induction w using Nat.strongRecOn with
  | ind w ih =>
    intro h0 t
    rw [encC_pos h0, List.append_assoc]
    by_cases h1 : w / 128 = 0
    · rw [h1, encC_zero, List.nil_append, List.singleton_append, List.head?_cons]
      intro h
      have := congrArg UInt8.toNat (Option.some.inj h)
      rw [ofNat_toNat (by omega)] at this
      have h128 : (128 : UInt8).toNat = 128 := rfl
      omega
    · exact ih (w / 128) (by omega) h1 _

theorem head_enc (v : Nat) (r : List UInt8) : (enc v ++ r).head? ≠ some 128 := by
  rw [enc, List.append_assoc]
  by_cases h : v / 128 = 0
  · rw [h, encC_zero, List.nil_append, List.singleton_append, List.head?_cons]
    intro h
    have := congrArg UInt8.toNat (Option.some.inj h)
    rw [ofNat_toNat (by omega)] at this
    have h128 : (128 : UInt8).toNat = 128 := rfl
    omega
  · exact head_encC _ h _

theorem toInt_enc {v : Nat} (h : v < 18446744073709551616) (r : List UInt8) : toInt (enc v ++ r) = some (v, r) := by
  rw [toInt, if_neg (head_enc v r), enc, List.append_assoc, toIntI_through _ _ (by omega), List.singleton_append, toIntI, if_neg (by omega), ofNat_toNat (by omega), if_pos (by omega)]
  congr 2; omega
theorem toInt_sound {l : List UInt8} {v : Nat} {r : List UInt8} (h : toInt l = some (v, r)) : v < 18446744073709551616 ∧ l = enc v ++ r := by
  unfold toInt at h
  split at h
  · cases h
  · rename_i hh
    have := toIntI_sound l 0 v r (.inr hh) h
    rw [encC_zero] at this
    exact this

theorem toIntR_sound : ∀ (l p : List UInt8) (u v : Nat) (r : List UInt8), toIntR p u l = some (v, r) → v < 18446744073709551616 ∧ p ++ l = enc v ++ r := by
  intro l
  induction l with
  | nil => intro p u v r h; cases h
  | cons c l ih =>
    intro p u v r h
    rw [toIntR] at h
    split at h
    · split at h
      · split at h
        · rename_i h1 h2 h3
          cases h
          exact ⟨by omega, by rw [h3, List.append_assoc]; rfl⟩
        · cases h
      · have := ih _ _ v r h
        exact ⟨this.1, by rw [← this.2, List.append_assoc]; rfl⟩
    · cases h

theorem toIntR_through : ∀ (w : Nat) (t : List UInt8), w < 144115188075855872 → toIntR [] 0 (encC w ++ t) = toIntR (encC w) w t := by
  intro w
  induction w using Nat.strongRecOn with
  | ind w ih =>
    intro t hw
    by_cases h0 : w = 0
    · rw [h0, encC_zero]; rfl
    · have hl := encC_length 9 (w / 128) (by omega)
      rw [encC_pos h0, List.append_assoc, ih (w / 128) (by omega) _ (by omega), List.singleton_append, toIntR, if_pos (by omega), ofNat_toNat (by omega), if_neg (by omega)]
      congr 1; omega

theorem toIntR_enc {v : Nat} (h : v < 18446744073709551616) (r : List UInt8) : toIntR [] 0 (enc v ++ r) = some (v, r) := by
  have hl := encC_length 9 (v / 128) (by omega)
  rw [enc, List.append_assoc, toIntR_through _ _ (by omega), List.singleton_append, toIntR, if_pos (by omega), ofNat_toNat (by omega), if_pos (by omega),
    show (128 * (v / 128) + v % 128 % 128) % 18446744073709551616 = v by omega, if_pos (by rw [enc])]

/-- Both readers are one. -/
theorem toIntR_eq (l : List UInt8) : toIntR [] 0 l = toInt l := by
  cases h : toInt l with
  | some x =>
    obtain ⟨v, r⟩ := x
    obtain ⟨hv, rfl⟩ := toInt_sound h
    exact toIntR_enc hv r
  | none =>
    cases k : toIntR [] 0 l with
    | none => rfl
    | some x =>
      obtain ⟨v, r⟩ := x
      obtain ⟨hv, hl⟩ := toIntR_sound l [] 0 v r k
      rw [List.nil_append] at hl
      rw [hl, toInt_enc hv] at h
      cases h

/-! ### bits -/
theorem xor_ones {x : Nat} (n : Nat) (h : x < 2 ^ n) : x ^^^ (2 ^ n - 1) = 2 ^ n - 1 - x := by
  apply Nat.eq_of_testBit_eq
  intro i
  rw [show 2 ^ n - 1 - x = 2 ^ n - (x + 1) by omega, Nat.testBit_two_pow_sub_succ h, Nat.testBit_xor, Nat.testBit_two_pow_sub_one]
  by_cases hi : i < n
  · simp [hi]
  · have h2 : x < 2 ^ i := Nat.lt_of_lt_of_le h (Nat.pow_le_pow_right (by omega) (by omega))
    simp [hi, Nat.testBit_lt_two_pow h2]

theorem zig_bits {n : Int} (h0 : -9223372036854775808 ≤ n) (h1 : n ≤ 9223372036854775807) :
    bits .xor .u64 (IntKind.u64.wrap (IntKind.u64.wrap n * 2)) (IntKind.u64.wrap (n / 9223372036854775808)) = (nat64 n : Int) := by
  have e : ∀ m : Int, IntKind.u64.wrap m = m % 18446744073709551616 := fun m => by simp [IntKind.wrap, IntKind.bits, IntKind.signed]
  simp only [e]
  by_cases h : 0 ≤ n
  · obtain ⟨m, rfl⟩ := Int.eq_ofNat_of_zero_le h
    rw [show (m : Int) / 9223372036854775808 = 0 by omega, show (m : Int) % 18446744073709551616 * 2 % 18446744073709551616 = ((2 * m : Nat) : Int) by omega]
    have := u64_xor_nat (2 * m) 0 (by omega) (by omega)
    rw [Nat.xor_zero] at this
    rw [show (0 : Int) % 18446744073709551616 = ((0 : Nat) : Int) from rfl, this]
    unfold nat64; rw [if_pos h]; omega
  · rw [show n / 9223372036854775808 = -1 by omega, show n % 18446744073709551616 * 2 % 18446744073709551616 = (((2 * n + 18446744073709551616).toNat : Nat) : Int) by omega,
      show (-1 : Int) % 18446744073709551616 = ((18446744073709551615 : Nat) : Int) from rfl, u64_xor_nat _ _ (by omega) (by omega)]
    have hx := xor_ones (x := (2 * n + 18446744073709551616).toNat) 64 (by omega)
    rw [show 2 ^ 64 - 1 = 18446744073709551615 from rfl] at hx
    rw [hx]
    unfold nat64; rw [if_neg h]; omega

theorem unz_bits {v : Nat} (h : v < 18446744073709551616) :
    bits .xor .i64 ((v : Int) / 2) (wrap64 (-wrap64 (bits .and .u64 (v : Int) 1))) = unz v := by
  have ha : bits .and .u64 (v : Int) 1 = ((v % 2 : Nat) : Int) := by
    have := u64_and_nat v 1 h (by omega)
    rw [nat_mask1] at this
    exact this
  rw [ha]
  have hv : ((v : Int) / 2) = ((v / 2 : Nat) : Int) := by omega
  rw [hv]
  unfold unz
  rcases Nat.mod_two_eq_zero_or_one v with h2 | h2
  · rw [h2, if_neg (by omega)]
    have : wrap64 (-wrap64 ((0 : Nat) : Int)) = 0 := by simp [wrap64]
    rw [this]
    show IntKind.i64.wrap ((BitVec.ofInt 64 ((v / 2 : Nat) : Int) ^^^ BitVec.ofInt 64 0).toNat : Int) = _
    rw [show BitVec.ofInt 64 0 = 0#64 from rfl, BitVec.xor_zero, ofInt_u64 _ (by omega)]
    simp [IntKind.wrap, IntKind.bits, IntKind.signed]
    omega
  · rw [h2, if_pos rfl]
    have : wrap64 (-wrap64 ((1 : Nat) : Int)) = -1 := by simp [wrap64]
    rw [this]
    show IntKind.i64.wrap ((BitVec.ofInt 64 ((v / 2 : Nat) : Int) ^^^ BitVec.ofInt 64 (-1)).toNat : Int) = _
    have h1 : BitVec.ofInt 64 (-1) = BitVec.allOnes 64 := by decide
    rw [h1, BitVec.xor_allOnes, BitVec.toNat_not, ofInt_u64 _ (by omega)]
    simp [IntKind.wrap, IntKind.bits, IntKind.signed]
    omega

/-! ### How many groups -/
theorem bitLenAux_bounds : ∀ (f x : Nat), x ≠ 0 → x < 2 ^ f → 2 ^ (Lib.bitLenAux f x - 1) ≤ x ∧ x < 2 ^ Lib.bitLenAux f x ∧ 1 ≤ Lib.bitLenAux f x := by
  intro f
  induction f with
  | zero => intro x h0 h; simp at h; omega
  | succ f ih =>
    intro x h0 h
    rw [Lib.bitLenAux, if_neg h0]
    by_cases h1 : x / 2 = 0
    · have hz : Lib.bitLenAux f (x / 2) = 0 := by
        rw [h1]; cases f <;> simp [Lib.bitLenAux]
      rw [hz]; simp; omega
    · obtain ⟨i1, i2, i3⟩ := ih (x / 2) h1 (by rw [Nat.pow_succ] at h; omega)
      generalize Lib.bitLenAux f (x / 2) = n at *
      obtain ⟨m, rfl⟩ : ∃ m, n = m + 1 := ⟨n - 1, by omega⟩
      rw [show 1 + (m + 1) - 1 = m + 1 by omega, show 1 + (m + 1) = (m + 1) + 1 by omega, Nat.pow_succ 2 (m + 1), Nat.pow_succ 2 m] at *
      rw [show m + 1 - 1 = m by omega] at i1
      omega

/-- How many groups stand ahead of the last one. -/
def lastG (u : Nat) : Nat := (Lib.bitLen (u ||| 1) - 1) / 7

theorem or_one (u : Nat) : u ||| 1 = u ∧ u % 2 = 1 ∨ u ||| 1 = u + 1 ∧ u % 2 = 0 := by
  have h2 := Nat.or_div_two_pow (a := u) (b := 1) (n := 1)
  have h1 := Nat.or_mod_two_pow (a := u) (b := 1) (n := 1)
  rw [show 2 ^ 1 = 2 from rfl] at h1 h2
  rw [show 1 / 2 = 0 from rfl, Nat.or_zero] at h2
  rcases Nat.mod_two_eq_zero_or_one u with h | h
  · have h1' : (u ||| 1) % 2 = 1 := h1.trans (by rw [h]; rfl)
    omega
  · have h1' : (u ||| 1) % 2 = 1 := h1.trans (by rw [h]; rfl)
    omega

theorem lastG_spec {u : Nat} (h : u < 18446744073709551616) : lastG u ≤ 9 ∧ u / 128 ^ (lastG u + 1) = 0 ∧ ∀ j, 1 ≤ j → j ≤ lastG u → u / 128 ^ j ≠ 0 := by
  have ho := or_one u
  have hm : u ||| 1 ≠ 0 ∧ u ||| 1 < 18446744073709551616 := by omega
  obtain ⟨b1, b2, b3⟩ := bitLenAux_bounds 64 (u ||| 1) hm.1 (by rw [show 2 ^ 64 = 18446744073709551616 from rfl]; exact hm.2)
  have hL : lastG u = (Lib.bitLenAux 64 (u ||| 1) - 1) / 7 := rfl
  rw [hL]
  have hle : Lib.bitLenAux 64 (u ||| 1) ≤ 64 := by
    rcases Nat.lt_or_ge 64 (Lib.bitLenAux 64 (u ||| 1)) with h' | h'
    · exfalso
      have := Nat.pow_le_pow_right (show 0 < 2 by omega) (show 64 ≤ Lib.bitLenAux 64 (u ||| 1) - 1 by omega)
      rw [show 2 ^ 64 = 18446744073709551616 from rfl] at this
      omega
    · exact h'
  generalize Lib.bitLenAux 64 (u ||| 1) = n at *
  refine ⟨by omega, ?_, ?_⟩
  · rw [show 128 = 2 ^ 7 from rfl, ← Nat.pow_mul]
    apply Nat.div_eq_of_lt
    refine Nat.lt_of_lt_of_le ?_ (Nat.pow_le_pow_right (by omega) (show n ≤ 7 * ((n - 1) / 7 + 1) by omega))
    omega
  · intro j hj1 hj2 hz
    have h3 : u < 128 ^ j := by
      rcases Nat.lt_or_ge u (128 ^ j) with h' | h'
      · exact h'
      · have := Nat.div_pos h' (Nat.pow_pos (by omega)); omega
    have h4 : 128 ^ j ≤ 2 ^ (n - 1) := by
      rw [show 128 = 2 ^ 7 from rfl, ← Nat.pow_mul]
      exact Nat.pow_le_pow_right (by omega) (by omega)
    have h5 : 128 ^ j % 2 = 0 := by
      obtain ⟨i, rfl⟩ : ∃ i, j = i + 1 := ⟨j - 1, by omega⟩
      rw [Nat.pow_succ]; omega
    omega

/-- One group ahead of the last one. -/
theorem encC_step {u j : Nat} (h : u / 128 ^ j ≠ 0) : encC (u / 128 ^ j) = encC (u / 128 ^ (j + 1)) ++ [UInt8.ofNat (128 + u / 128 ^ j % 128)] := by
  rw [encC_pos h, Nat.div_div_eq_div_mul, ← Nat.pow_succ]

end Go.Proofs.Ytiffdhihhggkhaa

/-
  THE PLAIN MATHEMATICS OF LAYER 1 (codec): the checksum's register, bit by bit and four bits at a time; that it is linear, and that a register that is not 0 stays so.
-/
namespace Go.Proofs.Ytiffdhihhggkhaa

/-- One bit of the register. -/
def bitStep (r : Nat) : Nat := if r % 2 = 1 then (r / 2) ^^^ 2197175160 else r / 2
def fourSteps (r : Nat) : Nat := bitStep (bitStep (bitStep (bitStep r)))
def byteStep (r c : Nat) : Nat := fourSteps (fourSteps (r ^^^ c))
def crcReg (r : Nat) (l : List UInt8) : Nat := l.foldl (fun r c => byteStep r c.toNat) r
def crc (l : List UInt8) : Nat := crcReg 4294967295 l ^^^ 4294967295

/-- What four steps do with the lowest four bits. -/
def tab (i : Nat) : Nat := [0, 274646895, 549293790, 820201905, 1098587580, 1361435347, 1640403810, 1905808397, 2197175160, 2460548119, 2722870694, 2987750089, 3280807620, 3553878443, 3811616794, 4084100981].getD i 0

theorem xor_half (a b : Nat) : (a ^^^ b) / 2 = a / 2 ^^^ b / 2 := by
  apply Nat.eq_of_testBit_eq; intro i; simp [Nat.testBit_div_two]
theorem xor_odd (a b : Nat) : (a ^^^ b) % 2 = (a % 2 + b % 2) % 2 := by
  have h := Nat.xor_mod_two_pow (a := a) (b := b) (n := 1)
  rw [show 2 ^ 1 = 2 from rfl] at h
  rw [h]
  rcases Nat.mod_two_eq_zero_or_one a with h | h <;> rcases Nat.mod_two_eq_zero_or_one b with k | k <;> simp [h, k]

theorem bitStep_xor (a b : Nat) : bitStep (a ^^^ b) = bitStep a ^^^ bitStep b := by
  unfold bitStep
  rw [xor_half, xor_odd]
  rcases Nat.mod_two_eq_zero_or_one a with h | h <;> rcases Nat.mod_two_eq_zero_or_one b with k | k <;> simp [h, k]
  · rw [Nat.xor_assoc]
  · rw [Nat.xor_assoc, Nat.xor_comm (b / 2), Nat.xor_assoc]
  · rw [Nat.xor_assoc, ← Nat.xor_assoc 2197175160, Nat.xor_comm 2197175160, Nat.xor_assoc (b / 2), Nat.xor_self, Nat.xor_zero]
theorem fourSteps_xor (a b : Nat) : fourSteps (a ^^^ b) = fourSteps a ^^^ fourSteps b := by simp only [fourSteps, bitStep_xor]

theorem bitStep_lt {r : Nat} (h : r < 4294967296) : bitStep r < 4294967296 := by
  unfold bitStep
  split
  · exact Nat.xor_lt_two_pow (n := 32) (by omega) (by omega)
  · omega
theorem fourSteps_lt {r : Nat} (h : r < 4294967296) : fourSteps r < 4294967296 := bitStep_lt (bitStep_lt (bitStep_lt (bitStep_lt h)))
theorem byteStep_lt {r c : Nat} (h : r < 4294967296) (hc : c < 256) : byteStep r c < 4294967296 :=
  fourSteps_lt (fourSteps_lt (Nat.xor_lt_two_pow (n := 32) h (by omega)))

theorem bitStep_double (q : Nat) : bitStep (2 * q) = q := by unfold bitStep; rw [if_neg (by omega)]; omega

theorem fourSteps_sixteen (q : Nat) : fourSteps (16 * q) = q := by
  unfold fourSteps
  rw [show 16 * q = 2 * (2 * (2 * (2 * q))) from by omega]
  simp only [bitStep_double]

theorem split16 (r : Nat) : r = 16 * (r / 16) ^^^ r % 16 := by
  apply Nat.eq_of_testBit_eq
  intro i
  rw [Nat.testBit_xor, show 16 = 2 ^ 4 from rfl, Nat.testBit_two_pow_mul, Nat.testBit_mod_two_pow, Nat.testBit_div_two_pow]
  by_cases h : i < 4
  · simp [h, show ¬ 4 ≤ i from by omega]
  · simp [h, show 4 ≤ i from by omega]

theorem fourSteps_tab (r : Nat) : fourSteps r = r / 16 ^^^ tab (r % 16) := by
  have h : fourSteps r = fourSteps (16 * (r / 16) ^^^ r % 16) := by rw [← split16]
  rw [h, fourSteps_xor, fourSteps_sixteen]
  congr 1
  have : r % 16 < 16 := Nat.mod_lt _ (by omega)
  generalize r % 16 = t at this
  match t, this with
  | 0, _ | 1, _ | 2, _ | 3, _ | 4, _ | 5, _ | 6, _ | 7, _ | 8, _ | 9, _ | 10, _ | 11, _ | 12, _ | 13, _ | 14, _ | 15, _ => decide
  | n + 16, h => omega

theorem tab_lt (i : Nat) : tab i < 4294967296 := by
  match i with
  | 0 | 1 | 2 | 3 | 4 | 5 | 6 | 7 | 8 | 9 | 10 | 11 | 12 | 13 | 14 | 15 => decide
  | n + 16 => simp [tab]


/-- Four bytes of a number, and a number of four bytes. -/
def word (n : Nat) : List UInt8 := [UInt8.ofNat (n / 16777216), UInt8.ofNat (n / 65536 % 256), UInt8.ofNat (n / 256 % 256), UInt8.ofNat (n % 256)]
def toWordL : List UInt8 → Nat
  | a :: b :: c :: d :: _ => 16777216 * a.toNat + 65536 * b.toNat + 256 * c.toNat + d.toNat
  | _ => 0
theorem word_length (n : Nat) : (word n).length = 4 := rfl
theorem ofNat_toNat' {n : Nat} (h : n < 256) : (UInt8.ofNat n).toNat = n := by
  rw [UInt8.toNat_ofNat']; exact Nat.mod_eq_of_lt h
theorem toWord_word {n : Nat} (h : n < 4294967296) (l : List UInt8) : toWordL (word n ++ l) = n := by
  show 16777216 * (UInt8.ofNat (n / 16777216)).toNat + 65536 * (UInt8.ofNat (n / 65536 % 256)).toNat + 256 * (UInt8.ofNat (n / 256 % 256)).toNat + (UInt8.ofNat (n % 256)).toNat = n
  rw [ofNat_toNat' (by omega), ofNat_toNat' (by omega), ofNat_toNat' (by omega), ofNat_toNat' (by omega)]
  omega
theorem four_of {l : List UInt8} (h : 4 ≤ l.length) : ∃ a b c d r, l = a :: b :: c :: d :: r := by
  match l, h with
  | a :: b :: c :: d :: r, _ => exact ⟨a, b, c, d, r, rfl⟩
theorem word_toWord {l : List UInt8} (h : 4 ≤ l.length) : word (toWordL l) = l.take 4 := by
  obtain ⟨a, b, c, d, r, rfl⟩ := four_of h
  have ha := a.toNat_lt; have hb := b.toNat_lt; have hc := c.toNat_lt; have hd := d.toNat_lt
  show [UInt8.ofNat _, UInt8.ofNat _, UInt8.ofNat _, UInt8.ofNat _] = [a, b, c, d]
  simp only [toWordL]
  rw [show (16777216 * a.toNat + 65536 * b.toNat + 256 * c.toNat + d.toNat) / 16777216 = a.toNat by omega,
    show (16777216 * a.toNat + 65536 * b.toNat + 256 * c.toNat + d.toNat) / 65536 % 256 = b.toNat by omega,
    show (16777216 * a.toNat + 65536 * b.toNat + 256 * c.toNat + d.toNat) / 256 % 256 = c.toNat by omega,
    show (16777216 * a.toNat + 65536 * b.toNat + 256 * c.toNat + d.toNat) % 256 = d.toNat by omega]
  simp only [UInt8.ofNat_toNat]
theorem toWordL_lt (l : List UInt8) : toWordL l < 4294967296 := by
  unfold toWordL
  split
  · rename_i a b c d _
    have ha := a.toNat_lt; have hb := b.toNat_lt; have hc := c.toNat_lt; have hd := d.toNat_lt
    omega
  · omega

theorem crcReg_lt (l : List UInt8) : ∀ r, r < 4294967296 → crcReg r l < 4294967296 := by
  induction l with
  | nil => intro r h; exact h
  | cons c l ih => intro r h; exact ih _ (byteStep_lt h c.toNat_lt)
theorem crc_lt (l : List UInt8) : crc l < 4294967296 := Nat.xor_lt_two_pow (n := 32) (crcReg_lt l _ (by omega)) (by omega)

/-- A frame, and what is read of bytes as one: the payload, the frame's length, the error. -/
def frameL (l : List UInt8) : List UInt8 := word l.length ++ word (crc (word l.length ++ l)) ++ l
theorem frameL_length (l : List UInt8) : (frameL l).length = 8 + l.length := by simp [frameL, word_length]; omega
def unframe (l : List UInt8) : List UInt8 × Nat × Nat :=
  if l.length < 4 then ([], 0, 8)
  else if 65536 < toWordL l then ([], 0, 10)
  else if l.length < 8 + toWordL l then ([], 0, 8)
  else if crc (l.take 4 ++ (l.drop 8).take (toWordL l)) ≠ toWordL (l.drop 4) then ([], 0, 9)
  else ((l.drop 8).take (toWordL l), 8 + toWordL l, 0)
end Go.Proofs.Ytiffdhihhggkhaa

/-
  (For a seat that holds the codec's numbers and texts but no sum.) LAYER 1: the checksum: the program's Crc (by a table for four bits) and the document's (bit by bit): both return 'crc'. Condition: the table's cells hold its sixteen numbers ('Steps').
-/
namespace Go.Proofs.Ytiffdhihhggkhaa
open Go.RowKit
set_option linter.unusedVariables false
set_option maxRecDepth 100000


theorem and15 (a : Nat) (h : a < 4294967296) : bits .and .u32 (a : Int) 15 = ((a % 16 : Nat) : Int) := by
  have := u32_and_nat a 15 h (by omega)
  rw [nat_mask4] at this
  exact this

theorem crcReg_snoc (r : Nat) (l : List UInt8) (c : UInt8) : crcReg r (l ++ [c]) = byteStep (crcReg r l) c.toNat := by simp [crcReg]

theorem take_snoc' (s : ByteArray) (k : Nat) (h : k < s.size) : s.data.toList.take (k + 1) = s.data.toList.take k ++ [s[k]] := by
  rw [List.take_succ_eq_append_getElem (by simpa using h)]; rfl

end Go.Proofs.Ytiffdhihhggkhaa

/-
  math/bits.Len64 and strings.HasPrefix, off the shelf's contracts (the table of numbers in plain words).
-/
namespace Go.Proofs.Ytiffdhihhggkhaa
open Go.Shelf
def lays206_ren : Go.Shelf.Ren := ⟨fun | 206 => 79 | n => n, fun | 9 => 9 | 4 => 4 | 3 => 3 | n => n, fun | n => n⟩
def lays99_ren : Go.Shelf.Ren := ⟨fun | 99 => 76 | 206 => 79 | n => n, fun | 9 => 9 | 4 => 4 | 3 => 3 | n => n, fun | n => n⟩
theorem lays99 : Go.Proofs.Lays.n99 Try.prog lays99_ren := {
  mixed := by kernel_rfl
  f99 := Try.func76.trans (congrArg some (by kernel_rfl))
  f206 := Try.func79.trans (congrArg some (by kernel_rfl))
  t3 := Try.underlying3
  a3 := Try.isAgg3
  z3 := Try.sizeOf3
  v3 := Try.zeroValue3
  t4 := Try.underlying4
  a4 := Try.isAgg4
  z4 := Try.sizeOf4
  v4 := Try.zeroValue4
  t9 := Try.underlying9
  a9 := Try.isAgg9
  z9 := Try.sizeOf9
  v9 := Try.zeroValue9 }
open Go.RowKit Go.Lib in
theorem strings_HasPrefix (s p : ByteArray) (w : World) :
    Calls Try.prog 76 #[.string s, .string p] w fun e w' => e = .returned (.bool (Lib.hasPrefix s.data.toList p.data.toList)) ∧ w' = w := Any.strings_HasPrefix lays99 s p w
end Go.Proofs.Ytiffdhihhggkhaa


/-
  LAYER 1: numbers: what the program's and the document's functions that write them return.
-/
namespace Go.Proofs.Ytiffdhihhggkhaa
open Go.RowKit
set_option linter.unusedVariables false
set_option maxRecDepth 100000

theorem unzigzag_any (v : Nat) (w : World) (h1 : v < 18446744073709551616) :
    Calls Try.prog 77 #[.int .u64 v] w fun e w' => e = .returned (.int .i64 (unz v)) ∧ w = w' := by
  have HZ := hid (unz_bits h1)
  go_enter Try.func77, Try.ntmps77
  go_wp2
  all_goals go_ret
  all_goals exact ⟨by rw [← HZ.out]; rfl, rfl⟩

theorem natural_any (n : Int) (w : World) (h0 : -9223372036854775808 ≤ n) (h1 : n ≤ 9223372036854775807) :
    Calls Try.prog 71 #[.int .i64 n] w fun e w' => e = .returned (.int .u64 (nat64 n)) ∧ w = w' := by
  by_cases hn : 0 ≤ n
  · have HZ : Hid ((nat64 n : Int) = 2 * n) := hid (by unfold nat64; rw [if_pos hn]; omega)
    go_enter Try.func71, Try.ntmps71
    go_wp2
    all_goals go_ret
    all_goals exact ⟨by rw [HZ.out]; rfl, rfl⟩
  · have HZ : Hid ((nat64 n : Int) = 2 * -(n + 1) + 1) := hid (by unfold nat64; rw [if_neg hn]; omega)
    go_enter Try.func71, Try.ntmps71
    go_wp2
    all_goals go_ret
    all_goals exact ⟨by rw [HZ.out]; rfl, rfl⟩

end Go.Proofs.Ytiffdhihhggkhaa


/-
  WHAT EVERY LAW's ROW NEEDS: a call that returns true, and leaves all memory that was there as it was, meets the row's specification.
-/
namespace Go.Proofs.Ytiffdhihhggkhaa
open Go.ChangeShapes Go.WideShapes Go.ChangeAt Go.RowKit
set_option linter.unusedVariables false
set_option maxRecDepth 100000

theorem laidOut : laidOutB Try.prog = true := by kernel_rfl
theorem ownKnobs : ownKnob Try.prog.godebug = none := by kernel_rfl

theorem trodAll_stays {H : Type} {enc : TypeId × Value → H} {W W' : World} (hb : Below W.heap.size W W') :
    ∀ (ts : List TypeId) (vs : List Value) (ds : List (DataW H)) (ps : List MemPlace), (∀ t ∈ ts, Try.prog.readableRec t = true ∧ t < Try.prog.types.size) →
      DataW.TrodAll enc Try.prog W 0 (fun _ => true) true ts vs ds ps → (∀ x ∈ ps, x.block < W.heap.size) →
      DataW.TrodAll enc Try.prog W' 0 (fun b => decide (b < W.heap.size)) true ts vs ds ps := by
  intro ts
  induction ts with
  | nil =>
    intro vs ds ps _ h _
    obtain ⟨rfl, rfl, rfl⟩ := trodAll_nil h
    exact rfl
  | cons t ts ih =>
    intro vs ds ps ht h hlt
    obtain ⟨v, vs', d, ds', p, q, rfl, rfl, rfl, h1, h2⟩ := trodAll_cons h
    have h3 := ht t (by simp)
    exact ⟨p, q, Below.trod laidOut h3.1 h3.2 h1 hb (fun x hx => hlt x (by simp [hx])), ih _ _ _ (fun u hu => ht u (by simp [hu])) h2 (fun x hx => hlt x (by simp [hx])), rfl⟩

theorem okTy {t : TypeId} (h1 : Try.prog.readableRec t = true) (h2 : decide (t < Try.prog.types.size) = true) : Try.prog.readableRec t = true ∧ t < Try.prog.types.size := ⟨h1, of_decide_eq_true h2⟩

/-- THE ROW's 'post' OF A LAW: true; the arguments read as they did. -/
theorem law_post {H : Type} {enc : TypeId × Value → H} {f : Func} {s : ChangeSpec} {W W' : World} {args : Array Value} {ds gs : List (DataW H)} {before : List MemPlace}
    (hW : DataW.Whole enc Try.prog f.params.toList s.vars false W args.toList ds gs before) (hb : Below W.heap.size W W') (hvars : s.vars = [])
    (hparams : ∀ t ∈ f.params.toList, Try.prog.readableRec t = true ∧ t < Try.prog.types.size) (hres : f.resultTypes = #[4])
    (hfn : (s.fn H (ds ++ gs)).results = [.lit (.bool true)] ∧ (s.fn H (ds ++ gs)).args = ds ∧ (s.fn H (ds ++ gs)).vars = []) :
    s.post enc Try.prog f false true false false W args (.bool true) W' := by
  have hlt := hW.lt
  have hW' := hW
  obtain ⟨p, q, hA, hV, rfl, hfz, hnd⟩ := hW
  rw [hvars] at hV
  obtain ⟨rfl, rfl⟩ := trodVars_none hV
  refine ⟨ds, [], _, [], p, [], hW', ?_, ?_, ?_, hb.frame _, fun h => by cases h⟩
  · rw [hfn.1, hres]; exact trodAll_mk1 (shut_bool Try.underlying4 true)
  · rw [hfn.2.1]
    exact trodAll_stays hb _ _ _ _ hparams hA (fun x hx => hlt x (by simp [hx]))
  · rw [hvars, hfn.2.2]; exact rfl
end Go.Proofs.Ytiffdhihhggkhaa

/-
  SLICES OF INTS AND OF STRINGS that came in: where their cells lie; what the arguments' reading gives of them.
-/
namespace Go.Proofs.Ytiffdhihhggkhaa
open Go.ChangeShapes Go.WideShapes Go.ChangeAt Go.RowKit
open Go.WideMaps Go.WideElems
set_option linter.unusedVariables false
set_option maxRecDepth 100000

/-- A slice of ints, wherever it lies below block B. -/
def IntsAt (w : World) (B : Nat) (v : Value) (xs : List Int) : Prop :=
  ∃ a cap, v = .slice a xs.length cap ∧ (xs ≠ [] → ∃ sb so, a = some ⟨sb, so, none⟩ ∧ sb < B ∧ ∀ j x, xs[j]? = some x → w.cell? ⟨sb, so + j, none⟩ = some (.int .i64 x))

/-- A slice of strings, wherever it lies below block B. -/
def StrsAt (w : World) (B : Nat) (v : Value) (xs : List ByteArray) : Prop :=
  ∃ a cap, v = .slice a xs.length cap ∧ (xs ≠ [] → ∃ sb so, a = some ⟨sb, so, none⟩ ∧ sb < B ∧ ∀ j x, xs[j]? = some x → w.cell? ⟨sb, so + j, none⟩ = some (.string x))

theorem cellsInt : Try.prog.cellsOf 3 = 1 := by kernel_rfl
theorem cellsString : Try.prog.cellsOf 9 = 1 := by kernel_rfl

theorem ints_arg {H : Type} {enc : TypeId × Value → H} {W : World} {base : Nat} {v : Value} {d : DataW H} {p : List MemPlace} (ho : Value.okWide Try.prog W .any base 31 v)
    (h : DataW.Trod enc Try.prog W 0 (fun _ => true) true 31 v d p) :
    ∃ xs : List Int, IntsAt W W.heap.size v xs ∧ (∀ n ∈ xs, -9223372036854775808 ≤ n ∧ n ≤ 9223372036854775807) ∧ xs.length ≤ maxLen := by
  obtain ⟨a0, len, cap, rfl⟩ := okWide_slice Try.underlying31 ho
  obtain ⟨fuel, hf⟩ := h
  rcases open_ints Try.underlying31 Try.underlying3 cellsInt hf with ⟨hcs, hx⟩ | ⟨a, len', cap', zs, hcs, _, hl, hm, hz, hx, hcell, hwz⟩
  · simp [Value.cells] at hcs
    obtain ⟨rfl, rfl, rfl⟩ := hcs
    exact ⟨[], ⟨none, 0, rfl, fun h => absurd rfl h⟩, by simp, by simp⟩
  · simp [Value.cells] at hcs
    obtain ⟨rfl, rfl, rfl⟩ := hcs
    simp only [if_true] at hz
    have hlen : (zs.take len).length = len := by rw [List.length_take]; omega
    refine ⟨zs.take len, ⟨some a, cap, by rw [hlen], fun h0 => ?_⟩, ?_, by omega⟩
    · have hpos : 0 < zs.length := by
        rcases Nat.eq_zero_or_pos zs.length with h | h
        · exact absurd (by rw [List.length_eq_zero_iff.1 h]; simp) h0
        · exact h
      obtain ⟨b, off, rfl, hc⟩ := ints_at hcell hpos
      refine ⟨b, off, rfl, World.block_lt_of_cell? W _ (hc 0 hpos), fun j x hj => ?_⟩
      have hjl : j < len := by
        rcases Nat.lt_or_ge j len with h | h
        · exact h
        · rw [List.getElem?_eq_none (by rw [hlen]; exact h)] at hj; cases hj
      rw [hc j (by omega)]
      rw [List.getElem?_take_of_lt hjl] at hj
      simp [List.getD, hj]
    · intro n hn
      have := hwz n (List.mem_of_mem_take hn)
      simpa [Lit.wf, IntKind.min, IntKind.max, IntKind.signed, IntKind.bits] using this

end Go.Proofs.Ytiffdhihhggkhaa


/-
  LAYER 1: Int, Text and Bool: what the program's and the document's return.
-/
namespace Go.Proofs.Ytiffdhihhggkhaa
open Go.RowKit
set_option linter.unusedVariables false
set_option maxRecDepth 100000

theorem encs_snoc (l : List Int) (n : Int) : encs (l ++ [n]) = encs l ++ enc (nat64 n) := by simp [encs]
theorem encs_length (l : List Int) (h : ∀ n ∈ l, -9223372036854775808 ≤ n ∧ n ≤ 9223372036854775807) : (encs l).length ≤ 10 * l.length := by
  induction l with
  | nil => simp [encs]
  | cons n l ih =>
    have h1 := enc_length (nat64_lt (h n (by simp)).1 (h n (by simp)).2)
    have h2 := ih fun m hm => h m (by simp [hm])
    simp only [encs, List.flatMap_cons, List.length_append, List.length_cons] at *
    omega

/-- A text: its length, and its bytes. -/
def txt (s : List UInt8) : List UInt8 := enc (nat64 s.length) ++ s
def txts (l : List ByteArray) : List UInt8 := l.flatMap fun s => txt s.data.toList

set_option maxHeartbeats 1000000 in
set_option maxRecDepth 100000 in
/-- The document's Int. -/
theorem refInt_any (n : Int) (w : World) (h0 : -9223372036854775808 ≤ n) (h1 : n ≤ 9223372036854775807) :
    Calls Try.prog 61 #[.int .i64 n] w fun e w' => e = .returned (.string ⟨(enc (nat64 n)).toArray⟩) ∧ Below w.heap.size w w' := by
  have hu := nat64_lt h0 h1
  have HZ := hid (natural_any n w h0 h1)
  have hel := enc_length hu
  have henc : enc (nat64 n) = encC (nat64 n / 128) ++ [UInt8.ofNat (nat64 n % 128)] := rfl
  generalize nat64 n = v at *
  obtain ⟨i0, hi, hz0, hz1, hz2⟩ := infoByte_parts
  have HE := hid henc
  have e1 : IntKind.u8.wrap ((v : Int) % 128) = ((v % 128 : Nat) : Int) := by rw [IntKind.wrap_u8']; omega
  clear henc
  go_enter Try.func61, Try.ntmps61
  go_wp2_with (go_at_call 71; refine HZ.out.mono ?_; rintro e w' ⟨rfl, rfl⟩)
  go_loopw [3, 4] (fun x b wr => ∃ (u : Nat) (bs : List UInt8) (g cap : Nat), u < 18446744073709551616 ∧ x = .int .u64 u ∧ b = .slice (some ⟨g, 0, none⟩) bs.length cap ∧ Hid (encC u ++ bs = enc v) ∧ Hid (Bytes wr w.heap.size (.slice (some ⟨g, 0, none⟩) bs.length cap) bs) ∧ 0 < bs.length ∧ Below w.heap.size w wr) (fun x _ _ => (intOf x).toNat)
  case atStart => exact ⟨v / 128, [UInt8.ofNat (v % 128)], w.heap.size, 1, by omega, by go_num, rfl, hid HE.out.symm, hid (Bytes.one w _ (v % 128) _ (by omega) (by omega) (Nat.le_refl _)), by simp, Below.alloc (Below.refl _ _) (Nat.le_refl _) _⟩
  case round =>
    obtain ⟨u, bs, g, cap, hu, rfl, rfl, hE, hB, hpos, hbl⟩ := hrel
    by_cases hu0 : u = 0
    · subst hu0
      have hst := hB.out.shape (by intro h; simp [h] at hpos)
      obtain ⟨g', cap', hv', _, hg, _, _, hc, _⟩ := hst
      cases hv'
      have hrs := run_string (w := wr) (g := g) (n := bs.length) (cap := cap) rfl hc
      clear hc
      go_wp2
      go_ret
      have := hE.out
      rw [encC_zero, List.nil_append] at this
      exact ⟨by rw [this]; rfl, hbl⟩
    · have hlen : (encC u ++ bs).length ≤ 10 := by rw [hE.out]; exact hel
      rw [List.length_append] at hlen
      have hcs : ∀ j x, (Lib.byteCells bs)[j]? = some x → wr.cell? ((⟨g, 0, none⟩ : Addr).add j) = some x := fun j x hj => World.ownsRow.cells hB.out (g := g) rfl j x hj
      have HCS := hid hcs
      clear hcs
      have hgw := World.ownsRow.lt hB.out g rfl
      have hz := hbl.size
      have hone := Bytes.one wr w.heap.size (128 + u % 128) (128 + (u : Int) % 128) (by omega) (by omega) hz
      generalize hxe : UInt8.ofNat (128 + u % 128) = x at hone
      have HO := hid hone
      have HXE := hid hxe
      clear hone hxe
      go_wp2_with (at_builtin; refine wpList_append_own _ rfl _ _ 103 rfl w.heap.size 5 i0 (.int .u8 0) 1 1 Try.underlying103 hi hz0 hz1 hz2 rfl (by decide) _ _ _ rfl HO.out ⟨g, 0, none⟩ bs.length cap (Lib.byteCells bs) rfl (by rw [Lib.byteCells_length, Nat.mul_one]) ?c1 (byteCells_one bs) ?c3 ?c4 ?c5 ?_)
      case c1 => intro j x hj; exact (Below.cell (Below.alloc (Below.refl wr.heap.size wr) (Nat.le_refl _) _) (p := (⟨g, 0, none⟩ : Addr).add j) (by unfold Addr.add; split <;> exact hgw.2)).trans (HCS.out j x hj)
      case c3 => unfold maxLen; simp; omega
      case c4 => simp; omega
      case c5 => simp; omega
      intro v' w2 hown' hgrow _
      have hby : Bytes w2 w.heap.size v' (x :: bs) := by
        have e : Lib.byteCells [x] ++ Lib.byteCells bs = Lib.byteCells (x :: bs) := by rw [byteCells_append]; rfl
        unfold Bytes
        rw [← e, show (x :: bs).length = [x].length + bs.length by simp; omega]
        exact hown'
      obtain ⟨g2, cap2, rfl, hg2, _⟩ := hby.shape (by simp)
      have HY := hid hby
      have hbl2 : Below w.heap.size w w2 := (hbl.alloc hz _).grown hgrow (by simp; omega) (fun k hk => (World.ownsRow.lt HO.out k hk).1)
      clear hby hown' hgrow
      go_wp2
      go_roundw
      case rel => exact ⟨u / 128, x :: bs, g2, cap2, by omega, by go_num, rfl, hid (by rw [← hE.out, encC_pos hu0, HXE.out, List.append_assoc]; rfl), HY, by simp, hbl2⟩
      case measure => simp [intOf]; omega
end Go.Proofs.Ytiffdhihhggkhaa


/-
  LAYER 1: ToInt, the program's and the document's: both return what 'toInt' says.
-/
namespace Go.Proofs.Ytiffdhihhggkhaa
open Go.RowKit
set_option linter.unusedVariables false
set_option maxRecDepth 100000

/-- What ToInt returns. -/
def intRes : Option (Nat × List UInt8) → Value
  | none => .tuple #[.int .i64 0, .string ⟨#[]⟩, .bool false]
  | some (v, r) => .tuple #[.int .i64 (unz v), .string (mk r), .bool true]

theorem toIntI_cons (u : Nat) (c : UInt8) (r : List UInt8) : toIntI u (c :: r) = if 144115188075855871 < u then none else if c.toNat < 128 then some (u * 128 + c.toNat % 128, r) else toIntI (u * 128 + c.toNat % 128) r := rfl

theorem andNot128 (c : Nat) (hc : c < 256) : bits .andNot .u8 (c : Int) 128 = ((c % 128 : Nat) : Int) := by
  have h := u8_andNot_nat c 128 hc (by omega)
  rw [show 255 - 128 = 127 from rfl, nat_mask7] at h
  exact h
theorem or_seven (u c : Nat) (hu : u ≤ 144115188075855871) : bits .or .u64 ((u : Int) * 128) ((c : Int) % 128) = ((u * 128 + c % 128 : Nat) : Int) := by
  have h := u64_or_nat (u * 128) (c % 128) (by omega) (by omega)
  rw [nat_join 7 (u * 128) (c % 128) (by omega) (by omega)] at h
  rw [← h]; rfl

theorem hasPrefix128 (l : List UInt8) : Lib.hasPrefix l [128] = decide (l.head? = some 128) := by
  cases l with
  | nil => rfl
  | cons c r =>
    show ((128 : UInt8) == c && List.isPrefixOf [] r) = _
    rw [List.head?_cons, show List.isPrefixOf ([] : List UInt8) r = true from by cases r <;> rfl, Bool.and_true, Bool.eq_iff_iff, beq_iff_eq, decide_eq_true_iff]
    exact ⟨fun h => by rw [h], fun h => (Option.some.inj h).symm⟩

set_option maxHeartbeats 1000000 in
set_option maxRecDepth 100000 in
theorem toInt_any (s : ByteArray) (w : World) (hs : s.size ≤ maxLen) :
    Calls Try.prog 70 #[.string s] w fun e w' => e = .returned (intRes (toInt s.data.toList)) ∧ ∃ m, w' = w.drewN m := by
  unfold maxLen at hs
  have HP := hid (fun w => strings_HasPrefix s ⟨#[128]⟩ w)
  by_cases hp : s.data.toList.head? = some 128
  · have hres : toInt s.data.toList = none := by unfold toInt; rw [if_pos hp]
    have HR := hid hres
    have hb : Lib.hasPrefix s.data.toList [128] = true := by rw [hasPrefix128]; simpa using hp
    clear hres hp
    go_enter Try.func70, Try.ntmps70
    go_wp2_with (go_at_call 76; refine (HP.out _).mono ?_; rintro e w' ⟨rfl, rfl⟩)
    go_ret3
    exact ⟨by rw [HR.out]; rfl, 0, rfl⟩
  · have hres : toInt s.data.toList = toIntI 0 (s.data.toList.drop 0) := by unfold toInt; rw [if_neg hp]; rfl
    have HR := hid hres
    have hb : Lib.hasPrefix s.data.toList [128] = false := by rw [hasPrefix128]; simpa using hp
    clear hres hp
    go_enter Try.func70, Try.ntmps70
    go_wp2_with (go_at_call 76; refine (HP.out _).mono ?_; rintro e w' ⟨rfl, rfl⟩)
    go_loop [5, 6, 11] (fun u _ i => ∃ k x : Nat, k ≤ s.size ∧ i = .int .i64 k ∧ u = .int .u64 x ∧ x < 18446744073709551616 ∧ Hid (toInt s.data.toList = toIntI x (s.data.toList.drop k))) (fun _ _ i => s.size - (intOf i).toNat)
    case atStart => exact ⟨0, 0, Nat.zero_le _, rfl, rfl, by omega, HR⟩
    case round =>
      obtain ⟨k, x, hk, rfl, rfl, hx, hI⟩ := hrel
      by_cases hlt : k < s.size
      · have hst := hI.out
        rw [drop_cons s k hlt, toIntI_cons] at hst
        have hc : s[k].toNat < 256 := s[k].toNat_lt
        by_cases hbig : 144115188075855871 < x
        · rw [if_pos hbig] at hst
          have HS := hid hst
          clear hst
          go_wp2
          go_ret3
          exact ⟨by rw [HS.out]; rfl, 0, rfl⟩
        · rw [if_neg hbig] at hst
          have e1 := andNot128 s[k].toNat hc
          have e2 := or_seven x s[k].toNat (by omega)
          have hbig' : x ≤ 144115188075855871 := by omega
          have hnew : x * 128 + s[k].toNat % 128 < 18446744073709551616 := by omega
          by_cases hend : s[k].toNat < 128
          · rw [if_pos hend] at hst
            have HS := hid hst
            have HU := hid (fun w => unzigzag_any (x * 128 + s[k].toNat % 128) w hnew)
            have hx2 : s.extract (k + 1) s.size = mk (s.data.toList.drop (k + 1)) := extract_drop s (k + 1) _ rfl
            have HX2 := hid hx2
            generalize x * 128 + s[k].toNat % 128 = y at *
            clear hst hx2
            go_wp2
            go_quiet ((go_at_call 77; exact quiet_eq (HU.out _)))
            go_wp2
            go_ret3
            exact ⟨by rw [HS.out, intRes, ← HX2.out]; rfl, _, rfl⟩
          · rw [if_neg hend] at hst
            have HS := hid hst
            generalize hy : x * 128 + s[k].toNat % 128 = y at *
            clear hst
            have HY := hid hy
            clear hy
            go_wp2
            go_round
            case rel => exact ⟨k + 1, y, by omega, by go_num, rfl, hnew, HS⟩
            case measure => simp [intOf]; omega
      · have hst := hI.out
        rw [List.drop_eq_nil_of_le (by rw [str_len]; omega), toIntI] at hst
        have HS := hid hst
        clear hst
        go_wp2
        go_ret3
        exact ⟨by rw [HS.out]; rfl, 0, rfl⟩
end Go.Proofs.Ytiffdhihhggkhaa

/-
  LAYER 1: the document's ToInt.
-/
namespace Go.Proofs.Ytiffdhihhggkhaa
open Go.RowKit
set_option linter.unusedVariables false
set_option maxRecDepth 100000

theorem toIntR_cons (p : List UInt8) (v : Nat) (c : UInt8) (r : List UInt8) : toIntR p v (c :: r) = if p.length < 10 then
      (if c.toNat < 128 then (if enc ((128 * v + c.toNat % 128) % 18446744073709551616) = p ++ [c] then some ((128 * v + c.toNat % 128) % 18446744073709551616, r) else none)
       else toIntR (p ++ [c]) ((128 * v + c.toNat % 128) % 18446744073709551616) r)
    else none := rfl

theorem take_len (s : ByteArray) (k : Nat) (h : k ≤ s.size) : (s.data.toList.take k).length = k := by
  rw [List.length_take, str_len]; omega

theorem wrap_u64 (n : Int) : IntKind.u64.wrap n = n % 18446744073709551616 := by simp [IntKind.wrap, IntKind.bits, IntKind.signed]

set_option maxHeartbeats 1000000 in
set_option maxRecDepth 100000 in
theorem refToInt_any (s : ByteArray) (w : World) (hs : s.size ≤ maxLen) :
    Calls Try.prog 72 #[.string s] w fun e w' => e = .returned (intRes (toInt s.data.toList)) ∧ Below w.heap.size w w' := by
  unfold maxLen at hs
  have HR : Hid (toInt s.data.toList = toIntR (s.data.toList.take 0) 0 (s.data.toList.drop 0)) := hid (toIntR_eq _).symm
  go_enter Try.func72, Try.ntmps72
  go_wp2_with fail
  go_loopw [5, 6, 7] (fun v i _ wr => ∃ k x : Nat, k ≤ s.size ∧ i = .int .i64 k ∧ v = .int .u64 x ∧ x < 18446744073709551616 ∧ Hid (toInt s.data.toList = toIntR (s.data.toList.take k) x (s.data.toList.drop k)) ∧ w = wr) (fun _ i _ _ => s.size - (intOf i).toNat)
  case atStart => exact ⟨0, 0, Nat.zero_le _, rfl, rfl, by omega, HR, rfl⟩
  case round =>
    obtain ⟨k, x, hk, rfl, rfl, hx, hI, rfl⟩ := hrel
    by_cases hlt : k < s.size
    · have hst := hI.out
      rw [drop_cons s k hlt, toIntR_cons, take_len s k hk] at hst
      have hc : s[k].toNat < 256 := s[k].toNat_lt
      by_cases h10 : k < 10
      · rw [if_pos h10, ← take_snoc' s k hlt] at hst
        have e2 : IntKind.u64.wrap (IntKind.u64.wrap (128 * (x : Int)) + (s[k].toNat : Int) % 128) = (((128 * x + s[k].toNat % 128) % 18446744073709551616 : Nat) : Int) := by
          rw [wrap_u64, wrap_u64]; omega
        have hy : (128 * x + s[k].toNat % 128) % 18446744073709551616 < 18446744073709551616 := Nat.mod_lt _ (by omega)
        generalize (128 * x + s[k].toNat % 128) % 18446744073709551616 = y at *
        by_cases hend : s[k].toNat < 128
        · rw [if_pos hend] at hst
          have HS := hid hst
          clear hst
          have hxk : s.extract (k + 1) s.size = mk (s.data.toList.drop (k + 1)) := extract_drop s (k + 1) _ rfl
          have hxt : s.extract 0 (k + 1) = mk (s.data.toList.take (k + 1)) := extract_take s (k + 1)
          have HX := hid hxk
          have HT := hid hxt
          clear hxk hxt
          by_cases hodd : y % 2 = 1
          · have hn : unz y = -((y : Int) / 2) - 1 := by unfold unz; rw [if_pos hodd]; omega
            have HI := fun w => refInt_any (-((y : Int) / 2) - 1) w (by omega) (by omega)
            rw [← hn, nat64_unz, hn] at HI
            have HII := hid HI
            have HN := hid hn
            clear HI hn
            have htl : (s.extract 0 (k + 1)).toList = s.data.toList.take (k + 1) := by rw [HT.out, Lib.toList_data, mk_data]
            have b1 : (k : Int) + 1 ≤ (s.size : Int) := by omega
            have b2 : (0 : Int) ≤ (k : Int) + 1 := by omega
            by_cases hq : enc y = s.data.toList.take (k + 1)
            · have hst2 := HS.out
              rw [if_pos hq] at hst2
              have HS2 := hid hst2
              have hq' : (enc y == (s.extract 0 (k + 1)).toList) = true := by rw [htl, hq, beq_self_eq_true]
              clear hst2 hq htl
              go_wp2_with fail
              have s1 : IntKind.i64.wrap ((k : Int) + 1) = (k : Int) + 1 := IntWalk.i64_in _ (by omega)
              have s2 : ((k : Int) + 1).toNat = k + 1 := by omega
              go_region_with (go_at_call 61; refine (HII.out _).mono ?_; rintro e w1 ⟨rfl, hb⟩)
              go_wp2
              go_quiet (fail)
              clear s1 s2
              go_wp2
              go_ret3
              exact ⟨by rw [HS2.out, intRes, HN.out, ← HX.out]; rfl, below_drew (Below.trans (Below.drew (Below.refl _ _)) hb) _⟩
            · have hst2 := HS.out
              rw [if_neg hq] at hst2
              have HS2 := hid hst2
              have hq' : (enc y == (s.extract 0 (k + 1)).toList) = false := by rw [htl]; exact beq_eq_false_iff_ne.2 hq
              clear hst2 hq htl
              go_wp2_with fail
              have s1 : IntKind.i64.wrap ((k : Int) + 1) = (k : Int) + 1 := IntWalk.i64_in _ (by omega)
              have s2 : ((k : Int) + 1).toNat = k + 1 := by omega
              go_region_with (go_at_call 61; refine (HII.out _).mono ?_; rintro e w1 ⟨rfl, hb⟩)
              clear s1 s2
              go_wp2
              go_ret3
              exact ⟨by rw [HS2.out]; rfl, Below.trans (Below.drew (Below.refl _ _)) hb⟩
          · have hn : unz y = (y : Int) / 2 := by unfold unz; rw [if_neg hodd]; omega
            have HI := fun w => refInt_any ((y : Int) / 2) w (by omega) (by omega)
            rw [← hn, nat64_unz, hn] at HI
            have HII := hid HI
            have HN := hid hn
            clear HI hn
            have htl : (s.extract 0 (k + 1)).toList = s.data.toList.take (k + 1) := by rw [HT.out, Lib.toList_data, mk_data]
            have b1 : (k : Int) + 1 ≤ (s.size : Int) := by omega
            have b2 : (0 : Int) ≤ (k : Int) + 1 := by omega
            by_cases hq : enc y = s.data.toList.take (k + 1)
            · have hst2 := HS.out
              rw [if_pos hq] at hst2
              have HS2 := hid hst2
              have hq' : (enc y == (s.extract 0 (k + 1)).toList) = true := by rw [htl, hq, beq_self_eq_true]
              clear hst2 hq htl
              go_wp2_with fail
              have s1 : IntKind.i64.wrap ((k : Int) + 1) = (k : Int) + 1 := IntWalk.i64_in _ (by omega)
              have s2 : ((k : Int) + 1).toNat = k + 1 := by omega
              go_region_with (go_at_call 61; refine (HII.out _).mono ?_; rintro e w1 ⟨rfl, hb⟩)
              go_wp2
              go_quiet (fail)
              clear s1 s2
              go_wp2
              go_ret3
              exact ⟨by rw [HS2.out, intRes, HN.out, ← HX.out]; rfl, below_drew (Below.trans (Below.drew (Below.refl _ _)) hb) _⟩
            · have hst2 := HS.out
              rw [if_neg hq] at hst2
              have HS2 := hid hst2
              have hq' : (enc y == (s.extract 0 (k + 1)).toList) = false := by rw [htl]; exact beq_eq_false_iff_ne.2 hq
              clear hst2 hq htl
              go_wp2_with fail
              have s1 : IntKind.i64.wrap ((k : Int) + 1) = (k : Int) + 1 := IntWalk.i64_in _ (by omega)
              have s2 : ((k : Int) + 1).toNat = k + 1 := by omega
              go_region_with (go_at_call 61; refine (HII.out _).mono ?_; rintro e w1 ⟨rfl, hb⟩)
              clear s1 s2
              go_wp2
              go_ret3
              exact ⟨by rw [HS2.out]; rfl, Below.trans (Below.drew (Below.refl _ _)) hb⟩
        · rw [if_neg hend] at hst
          have HS := hid hst
          clear hst
          go_wp2_with fail
          go_roundw
          case rel => exact ⟨k + 1, y, by omega, by go_num, rfl, hy, HS, by trivial⟩
          case measure => simp [intOf]; omega
      · rw [if_neg h10] at hst
        have HS := hid hst
        clear hst
        go_wp2_with fail
        go_ret3
        exact ⟨by rw [HS.out]; rfl, Below.refl _ _⟩
    · have hst := hI.out
      rw [List.drop_eq_nil_of_le (by rw [str_len]; omega), toIntR] at hst
      have HS := hid hst
      clear hst
      go_wp2_with fail
      go_ret3
      exact ⟨by rw [HS.out]; rfl, Below.refl _ _⟩
end Go.Proofs.Ytiffdhihhggkhaa

/-
  (For a seat that holds the codec's numbers and texts but no frame.)
-/

/-
  LAYER 1: texts and bools: what the program's and the document's functions return.
-/
namespace Go.Proofs.Ytiffdhihhggkhaa
open Go.RowKit
set_option linter.unusedVariables false
set_option maxRecDepth 100000

/-- What ToText says. -/
def toText (l : List UInt8) : Option (List UInt8 × List UInt8) :=
  match toInt l with
  | none => none
  | some (v, r) => if unz v < 0 ∨ (r.length : Int) < unz v then none else some (r.take (unz v).toNat, r.drop (unz v).toNat)
def textRes : Option (List UInt8 × List UInt8) → Value
  | none => .tuple #[.string ⟨#[]⟩, .string ⟨#[]⟩, .bool false]
  | some (a, r) => .tuple #[.string (mk a), .string (mk r), .bool true]
theorem toInt_rest {l : List UInt8} {v : Nat} {r : List UInt8} (h : toInt l = some (v, r)) : r.length ≤ l.length := by
  obtain ⟨_, rfl⟩ := toInt_sound h
  rw [List.length_append]; omega


theorem txts_snoc (l : List ByteArray) (s : ByteArray) : txts (l ++ [s]) = txts l ++ txt s.data.toList := by simp [txts]
theorem txt_length (s : ByteArray) (h : s.size ≤ 9223372036854775807) : (txt s.data.toList).length ≤ 10 + s.size := by
  have := enc_length (nat64_lt (n := (s.data.toList.length : Int)) (by omega) (by rw [str_len]; omega))
  rw [txt, List.length_append, str_len] at *
  omega

end Go.Proofs.Ytiffdhihhggkhaa


/-
  THE PLAIN MATHEMATICS OF LAYER 1 (codec): what was written is read as it was.
-/
namespace Go.Proofs.Ytiffdhihhggkhaa
set_option linter.unusedVariables false
set_option maxRecDepth 100000

theorem toText_txt (t s : List UInt8) (ht : t.length ≤ 9223372036854775807) : toText (txt t ++ s) = some (t, s) := by
  unfold toText txt
  rw [List.append_assoc, toInt_enc (nat64_lt (by omega) (by omega))]
  simp only [unz_nat64]
  rw [if_neg (by simp; omega), Int.toNat_natCast]
  simp

theorem toWord_frame (l s : List UInt8) (hl : l.length ≤ 65536) : toWordL (frameL l ++ s) = l.length := by
  unfold frameL
  rw [List.append_assoc, List.append_assoc]
  exact toWord_word (by omega) _
theorem unframe_frame (l s : List UInt8) (hl : l.length ≤ 65536) : unframe (frameL l ++ s) = (l, 8 + l.length, 0) := by
  have h1 := toWord_frame l s hl
  have h4 : (frameL l ++ s).take 4 = word l.length := by unfold frameL; rw [List.append_assoc, List.append_assoc]; rfl
  have h8 : ((frameL l ++ s).drop 8).take l.length = l := by
    unfold frameL
    rw [List.append_assoc, List.append_assoc]
    show (l ++ s).take l.length = l
    simp
  have hd : toWordL ((frameL l ++ s).drop 4) = crc (word l.length ++ l) := by
    unfold frameL
    rw [List.append_assoc, List.append_assoc]
    exact toWord_word (crc_lt _) _
  unfold unframe
  rw [h1, h4, h8, hd, if_neg (by rw [List.length_append, frameL_length]; omega), if_neg (by omega), if_neg (by rw [List.length_append, frameL_length]; omega), if_neg (by simp)]

theorem unframe_cases (l : List UInt8) : (∃ e, (unframe l) = ([], 0, e) ∧ (e = 8 ∨ e = 9 ∨ e = 10)) ∨ ∃ p : List UInt8, unframe l = (p, 8 + p.length, 0) ∧ p.length ≤ 65536 ∧ 8 + p.length ≤ l.length ∧ frameL p = l.take (8 + p.length) := by
  unfold unframe
  by_cases h1 : l.length < 4
  · rw [if_pos h1]; exact .inl ⟨8, rfl, .inl rfl⟩
  · rw [if_neg h1]
    by_cases h2 : 65536 < toWordL l
    · rw [if_pos h2]; exact .inl ⟨10, rfl, .inr (.inr rfl)⟩
    · rw [if_neg h2]
      by_cases h3 : l.length < 8 + toWordL l
      · rw [if_pos h3]; exact .inl ⟨8, rfl, .inl rfl⟩
      · rw [if_neg h3]
        by_cases h4 : crc (l.take 4 ++ (l.drop 8).take (toWordL l)) ≠ toWordL (l.drop 4)
        · rw [if_pos h4]; exact .inl ⟨9, rfl, .inr (.inl rfl)⟩
        · rw [if_neg h4]
          have h4 : crc (l.take 4 ++ (l.drop 8).take (toWordL l)) = toWordL (l.drop 4) := Decidable.not_not.1 h4
          have hlen : ((l.drop 8).take (toWordL l)).length = toWordL l := by rw [List.length_take, List.length_drop]; omega
          refine .inr ⟨(l.drop 8).take (toWordL l), by rw [hlen], by omega, by omega, ?_⟩
          unfold frameL
          rw [hlen, word_toWord (by omega), h4, word_toWord (by rw [List.length_drop]; omega)]
          rw [show 8 + toWordL l = 4 + (4 + toWordL l) by omega, List.take_add, List.take_add, List.drop_drop, List.append_assoc]

/-! ### The sum is linear -/
def xor3 : List UInt8 → List UInt8 → List UInt8 → List UInt8
  | a :: l, b :: m, c :: n => (a ^^^ b ^^^ c) :: xor3 l m n
  | _, _, _ => []
theorem byteStep_xor (r s c d : Nat) : byteStep (r ^^^ s) (c ^^^ d) = byteStep r c ^^^ byteStep s d := by
  unfold byteStep
  rw [show r ^^^ s ^^^ (c ^^^ d) = (r ^^^ c) ^^^ (s ^^^ d) by rw [Nat.xor_assoc, ← Nat.xor_assoc s, Nat.xor_comm s c, Nat.xor_assoc c, ← Nat.xor_assoc], fourSteps_xor, fourSteps_xor]
theorem crcReg_xor3 : ∀ (l m n : List UInt8) (r s t : Nat), l.length = m.length → m.length = n.length → crcReg (r ^^^ s ^^^ t) (xor3 l m n) = crcReg r l ^^^ crcReg s m ^^^ crcReg t n
  | [], [], [], r, s, t, _, _ => rfl
  | a :: l, b :: m, c :: n, r, s, t, h1, h2 => by
    show crcReg (byteStep (r ^^^ s ^^^ t) (a ^^^ b ^^^ c).toNat) (xor3 l m n) = crcReg (byteStep r a.toNat) l ^^^ crcReg (byteStep s b.toNat) m ^^^ crcReg (byteStep t c.toNat) n
    rw [UInt8.toNat_xor, UInt8.toNat_xor, byteStep_xor, byteStep_xor]
    exact crcReg_xor3 l m n _ _ _ (by simpa using h1) (by simpa using h2)
theorem crc_xor3 (l m n : List UInt8) (h1 : l.length = m.length) (h2 : m.length = n.length) : crc (xor3 l m n) = crc l ^^^ crc m ^^^ crc n := by
  unfold crc
  have h := crcReg_xor3 l m n 4294967295 4294967295 4294967295 h1 h2
  rw [show 4294967295 ^^^ 4294967295 ^^^ 4294967295 = 4294967295 from rfl] at h
  rw [h]
  generalize crcReg 4294967295 l = x; generalize crcReg 4294967295 m = y; generalize crcReg 4294967295 n = z
  apply Nat.eq_of_testBit_eq
  intro i
  simp only [Nat.testBit_xor]
  generalize Nat.testBit x i = a; generalize Nat.testBit y i = b; generalize Nat.testBit z i = c; generalize Nat.testBit 4294967295 i = d
  cases a <;> cases b <;> cases c <;> cases d <;> rfl
theorem xor3_length : ∀ (l m n : List UInt8), l.length = m.length → m.length = n.length → (xor3 l m n).length = l.length
  | [], [], [], _, _ => rfl
  | a :: l, b :: m, c :: n, h1, h2 => by simp only [xor3, List.length_cons]; rw [xor3_length l m n (by simpa using h1) (by simpa using h2)]
theorem xor3_get : ∀ (l m n : List UInt8) (i : Nat) (a b c : UInt8), l[i]? = some a → m[i]? = some b → n[i]? = some c → (xor3 l m n)[i]? = some (a ^^^ b ^^^ c)
  | a :: l, b :: m, c :: n, 0, x, y, z, h1, h2, h3 => by simp at h1 h2 h3; subst h1 h2 h3; rfl
  | a :: l, b :: m, c :: n, i + 1, x, y, z, h1, h2, h3 => by simpa [xor3] using xor3_get l m n i x y z (by simpa using h1) (by simpa using h2) (by simpa using h3)

/-! ### A frame cut short, or with a bit turned -/
theorem unframe_cut (l : List UInt8) (hl : l.length ≤ 65536) (p : Nat) (hp : p < 8 + l.length) : unframe ((frameL l).take p) = ([], 0, 8) := by
  have hlen : ((frameL l).take p).length = p := by rw [List.length_take, frameL_length]; omega
  unfold unframe
  by_cases h4 : p < 4
  · rw [hlen, if_pos h4]
  · have htw : toWordL ((frameL l).take p) = l.length := by
      unfold frameL
      rw [List.append_assoc, List.take_append, show (word l.length).take p = word l.length from List.take_of_length_le (by rw [word_length]; omega)]
      exact toWord_word (by omega) _
    rw [hlen, htw, if_neg h4, if_neg (by omega), if_pos (by omega)]

/-- The register behind n noughts. -/
def zeros (r : Nat) : Nat → Nat
  | 0 => r
  | n + 1 => zeros (byteStep r 0) n
theorem crcReg_shift : ∀ (l : List UInt8) (x y : Nat), crcReg (x ^^^ y) l = crcReg x l ^^^ zeros y l.length
  | [], x, y => rfl
  | c :: l, x, y => by
    show crcReg (byteStep (x ^^^ y) c.toNat) l = crcReg (byteStep x c.toNat) l ^^^ zeros (byteStep y 0) l.length
    have h := byteStep_xor x y c.toNat 0
    rw [Nat.xor_zero] at h
    rw [h, crcReg_shift l]
theorem bitStep_pos {r : Nat} (h : r < 4294967296) (h0 : r ≠ 0) : bitStep r ≠ 0 := by
  unfold bitStep
  split
  · intro hx
    have h2 : r / 2 ^^^ 2197175160 ^^^ 2197175160 = 0 ^^^ 2197175160 := by rw [hx]
    rw [Nat.xor_assoc, Nat.xor_self, Nat.xor_zero, Nat.zero_xor] at h2
    omega
  · omega
theorem fourSteps_pos {r : Nat} (h : r < 4294967296) (h0 : r ≠ 0) : fourSteps r ≠ 0 :=
  bitStep_pos (bitStep_lt (bitStep_lt (bitStep_lt h))) (bitStep_pos (bitStep_lt (bitStep_lt h)) (bitStep_pos (bitStep_lt h) (bitStep_pos h h0)))
theorem byteStep_pos {r c : Nat} (h : r < 4294967296) (hc : c < 256) (h0 : r ^^^ c ≠ 0) : byteStep r c ≠ 0 :=
  fourSteps_pos (fourSteps_lt (Nat.xor_lt_two_pow (n := 32) h (by omega))) (fourSteps_pos (Nat.xor_lt_two_pow (n := 32) h (by omega)) h0)
theorem zeros_pos : ∀ (n r : Nat), r < 4294967296 → r ≠ 0 → zeros r n ≠ 0
  | 0, r, _, h => h
  | n + 1, r, h, h0 => zeros_pos n _ (byteStep_lt h (by omega)) (byteStep_pos h (by omega) (by rw [Nat.xor_zero]; exact h0))

/-- A byte that is another one turns the sum. -/
theorem crc_turn (p q : List UInt8) (c e : UInt8) (he : e ≠ 0) : crc (p ++ (c ^^^ e) :: q) ≠ crc (p ++ c :: q) := by
  unfold crc
  have h1 : ∀ d : UInt8, crcReg 4294967295 (p ++ d :: q) = crcReg (byteStep (crcReg 4294967295 p) d.toNat) q := fun d => by simp [crcReg]
  rw [h1, h1, UInt8.toNat_xor]
  have h2 := byteStep_xor (crcReg 4294967295 p) 0 c.toNat e.toNat
  rw [Nat.xor_zero] at h2
  rw [h2, crcReg_shift]
  have h3 : e.toNat ≠ 0 := fun h => he (by rw [← of_toNat e, h]; rfl)
  have h4 := zeros_pos q.length (byteStep 0 e.toNat) (byteStep_lt (by omega) e.toNat_lt) (byteStep_pos (by omega) e.toNat_lt (by rw [Nat.zero_xor]; exact h3))
  generalize crcReg (byteStep (crcReg 4294967295 p) c.toNat) q = x
  generalize zeros (byteStep 0 e.toNat) q.length = z at h4
  intro h
  apply h4
  have h5 : x ^^^ (x ^^^ z ^^^ 4294967295 ^^^ 4294967295) = x ^^^ (x ^^^ 4294967295 ^^^ 4294967295) := by rw [h]
  rw [Nat.xor_assoc _ 4294967295, Nat.xor_assoc _ 4294967295, Nat.xor_self, Nat.xor_zero, Nat.xor_zero, ← Nat.xor_assoc, Nat.xor_self, Nat.zero_xor] at h5
  exact h5

theorem set_split {l : List UInt8} {k : Nat} (hk : k < l.length) (c : UInt8) : l.set k c = l.take k ++ c :: l.drop (k + 1) := List.set_eq_take_append_cons_drop.trans (if_pos hk)

theorem unframe_turn (l : List UInt8) (hl : l.length ≤ 65536) (k : Nat) (h4 : 4 ≤ k) (hk : k < 8 + l.length) (c e : UInt8) (hc : (frameL l)[k]? = some c) (he : e ≠ 0) :
    unframe ((frameL l).set k (c ^^^ e)) = ([], 0, 9) := by
  have hflen := frameL_length l
  have hce : c ^^^ e ≠ c := by
    intro h
    apply he
    have : c ^^^ (c ^^^ e) = c ^^^ c := by rw [h]
    rw [← UInt8.xor_assoc, UInt8.xor_self, UInt8.zero_xor] at this
    exact this
  have hlen : ((frameL l).set k (c ^^^ e)).length = 8 + l.length := by rw [List.length_set, hflen]
  have ht4 : ((frameL l).set k (c ^^^ e)).take 4 = word l.length := by
    rw [List.take_set_of_le h4]; unfold frameL; rw [List.append_assoc]; rfl
  have htw : toWordL ((frameL l).set k (c ^^^ e)) = l.length := by
    have h1 : ((frameL l).set k (c ^^^ e)) = word l.length ++ ((frameL l).set k (c ^^^ e)).drop 4 := by rw [← ht4, List.take_append_drop]
    rw [h1]; exact toWord_word (by omega) _
  unfold unframe
  rw [hlen, htw, ht4, if_neg (by omega), if_neg (by omega), if_neg (by omega), if_pos ?_]
  -- the sum
  by_cases h8 : k < 8
  · have hd8 : ((frameL l).set k (c ^^^ e)).drop 8 = l := by
      rw [List.drop_set_of_lt h8]; unfold frameL; rw [List.append_assoc]; rfl
    rw [hd8, List.take_length]
    intro h
    have hw := word_toWord (l := ((frameL l).set k (c ^^^ e)).drop 4) (by rw [List.length_drop, hlen]; omega)
    rw [← h] at hw
    have hw0 : word (crc (word l.length ++ l)) = ((frameL l).drop 4).take 4 := by unfold frameL; rw [List.append_assoc]; rfl
    rw [hw0] at hw
    have hg := congrArg (fun m => m[k - 4]?) hw
    rw [List.getElem?_take_of_lt (by omega), List.getElem?_take_of_lt (by omega), List.getElem?_drop, List.getElem?_drop, show 4 + (k - 4) = k by omega, hc, List.getElem?_set_self (by omega)] at hg
    exact hce (Option.some.inj hg).symm
  · have hd4 : toWordL (((frameL l).set k (c ^^^ e)).drop 4) = crc (word l.length ++ l) := by
      have h1 : (((frameL l).set k (c ^^^ e)).drop 4).take 4 = word (crc (word l.length ++ l)) := by
        rw [List.drop_set, if_neg (by omega), List.take_set_of_le (by omega)]; unfold frameL; rw [List.append_assoc]; rfl
      have h2 : ((frameL l).set k (c ^^^ e)).drop 4 = word (crc (word l.length ++ l)) ++ (((frameL l).set k (c ^^^ e)).drop 4).drop 4 := by rw [← h1, List.take_append_drop]
      rw [h2]; exact toWord_word (crc_lt _) _
    have hd8 : ((frameL l).set k (c ^^^ e)).drop 8 = l.set (k - 8) (c ^^^ e) := by
      rw [List.drop_set, if_neg (by omega)]; unfold frameL; rw [List.append_assoc]; rfl
    have hcl : l[k - 8]? = some c := by
      rw [← hc]; unfold frameL
      rw [List.getElem?_append_right (by rw [List.length_append, word_length, word_length]; omega), List.length_append, word_length, word_length]
    have hkl : k - 8 < l.length := by omega
    rw [hd4, hd8, show (l.set (k - 8) (c ^^^ e)).take l.length = l.set (k - 8) (c ^^^ e) from List.take_of_length_le (by rw [List.length_set]; exact Nat.le_refl _), set_split hkl]
    have hlc : l = l.take (k - 8) ++ c :: l.drop (k - 8 + 1) := by
      rw [List.getElem?_eq_getElem hkl] at hcl
      rw [← Option.some.inj hcl, ← List.drop_eq_getElem_cons hkl, List.take_append_drop]
    have := crc_turn (word l.length ++ l.take (k - 8)) (l.drop (k - 8 + 1)) c e he
    rw [List.append_assoc, List.append_assoc, ← hlc] at this
    exact this
end Go.Proofs.Ytiffdhihhggkhaa

/-
  LAYER 7 (msg): what a message is; its bytes; how they are read: mathematics of lists.
-/
namespace Go.Proofs.Ytiffdhihhggkhaa
open Go.RowKit
set_option linter.unusedVariables false
set_option maxRecDepth 100000

/-- An entry. -/
structure Me where
  idx : Int
  term : Int
  kind : Int
  dt : ByteArray
/-- A message. -/
structure Ms where
  kind : Int
  fr : Int
  to_ : Int
  term : Int
  index : Int
  logTerm : Int
  commit : Int
  ok : Bool
  ents : List Me
  bi : Int
  bt : Int
  vot : List Int
  bd : ByteArray
  dt : ByteArray
def eI (n : Int) : List UInt8 := enc (nat64 n)
def eV (l : List Int) : List UInt8 := eI l.length ++ encs l
def eB (b : Bool) : List UInt8 := [if b then 1 else 0]
def eE (e : Me) : List UInt8 := eI e.idx ++ eI e.term ++ eI e.kind ++ txt e.dt.data.toList
def eEs (l : List Me) : List UInt8 := l.flatMap eE
def heads (m : Ms) : List Int := [m.kind, m.fr, m.to_, m.term, m.index, m.logTerm, m.commit]
def eM (m : Ms) : List UInt8 := encs (heads m) ++ eB m.ok ++ eI m.ents.length ++ eEs m.ents ++ eI m.bi ++ eI m.bt ++ eV m.vot ++ txt m.bd.data.toList ++ txt m.dt.data.toList
def i64b (n : Int) : Prop := -9223372036854775808 ≤ n ∧ n ≤ 9223372036854775807
def inN (n : Int) : Bool := decide (0 ≤ n) && decide (n ≤ 1099511627776)
def rightE (e : Me) : Bool := inN e.idx && inN e.term && decide (1 ≤ e.kind) && decide (e.kind ≤ 3) && decide (e.dt.size ≤ 4000000)
def rightM (m : Ms) : Bool :=
  m.ents.all rightE && (decide (1 ≤ m.kind) && decide (m.kind ≤ 6)) && (decide (1 ≤ m.fr) && decide (m.fr ≤ 9) && decide (1 ≤ m.to_) && decide (m.to_ ≤ 9)) &&
    (inN m.term && inN m.index && inN m.logTerm && inN m.commit && inN m.bi && inN m.bt) && risingF 0 m.vot && decide (m.ents.length ≤ 8) && decide (m.dt.size ≤ 4000000) && decide (m.bd.size ≤ 4000000)
def dI (l : List UInt8) : Option (Int × List UInt8) := (toInt l).map fun p => (unz p.1, p.2)
theorem dI_eI {n : Int} (h : i64b n) (r : List UInt8) : dI (eI n ++ r) = some (n, r) := by
  unfold dI eI
  rw [toInt_enc (nat64_lt h.1 h.2)]
  simp [unz_nat64]
theorem dI_sound {l : List UInt8} {n : Int} {r : List UInt8} (h : dI l = some (n, r)) : i64b n ∧ l = eI n ++ r := by
  unfold dI at h
  obtain ⟨⟨v, r'⟩, h1, h2⟩ := Option.map_eq_some_iff.1 h
  simp only [Prod.mk.injEq] at h2
  obtain ⟨rfl, rfl⟩ := h2
  obtain ⟨h3, h4⟩ := toInt_sound h1
  exact ⟨unz_lo h3, by unfold eI; rw [nat64_unz]; exact h4⟩
theorem dI_none_of_toInt {l : List UInt8} : toInt l = none ↔ dI l = none := by unfold dI; rw [Option.map_eq_none_iff]
/-- n numbers behind one another. -/
def dNs : Nat → List UInt8 → Option (List Int × List UInt8)
  | 0, l => some ([], l)
  | n + 1, l => match dI l with
    | none => none
    | some (v, r) => match dNs n r with
      | none => none
      | some (vs, r') => some (v :: vs, r')
theorem dNs_encs : ∀ (xs : List Int), (∀ x ∈ xs, i64b x) → ∀ r, dNs xs.length (encs xs ++ r) = some (xs, r)
  | [], h, r => rfl
  | x :: xs, h, r => by
    have e : encs (x :: xs) ++ r = eI x ++ (encs xs ++ r) := by simp [encs, eI, List.append_assoc]
    rw [List.length_cons, dNs, e, dI_eI (h x (by simp))]
    simp only
    rw [dNs_encs xs (fun y hy => h y (by simp [hy])) r]
theorem dNs_sound : ∀ (n : Nat) (l : List UInt8) (xs : List Int) (r : List UInt8), dNs n l = some (xs, r) → xs.length = n ∧ (∀ x ∈ xs, i64b x) ∧ l = encs xs ++ r
  | 0, l, xs, r, h => by
    simp only [dNs, Option.some.injEq, Prod.mk.injEq] at h
    obtain ⟨rfl, rfl⟩ := h
    exact ⟨rfl, by simp, rfl⟩
  | n + 1, l, xs, r, h => by
    rw [dNs] at h
    cases h1 : dI l with
    | none => rw [h1] at h; cases h
    | some p =>
      obtain ⟨v, r1⟩ := p
      rw [h1] at h
      simp only at h
      cases h2 : dNs n r1 with
      | none => rw [h2] at h; cases h
      | some q =>
        obtain ⟨vs, r2⟩ := q
        rw [h2] at h
        simp only [Option.some.injEq, Prod.mk.injEq] at h
        obtain ⟨rfl, rfl⟩ := h
        obtain ⟨h3, h4⟩ := dI_sound h1
        obtain ⟨h5, h6, h7⟩ := dNs_sound n r1 vs r2 h2
        refine ⟨by simp [h5], fun x hx => ?_, by rw [h4, h7]; simp [encs, eI, List.append_assoc]⟩
        rcases List.mem_cons.1 hx with e | e
        · rw [e]; exact h3
        · exact h6 x e
/-- ToVoters. -/
def dV (l : List UInt8) : Option (List Int × List UInt8) :=
  match dI l with
  | none => none
  | some (n, r) => if n < 0 ∨ 9 < n then none else dNs n.toNat r
theorem dV_eV {xs : List Int} (h : ∀ x ∈ xs, i64b x) (hl : xs.length ≤ 9) (r : List UInt8) : dV (eV xs ++ r) = some (xs, r) := by
  unfold dV eV
  rw [List.append_assoc, dI_eI ⟨by omega, by omega⟩]
  simp only
  rw [if_neg (by omega), Int.toNat_natCast, dNs_encs xs h r]
theorem dV_sound {l : List UInt8} {xs : List Int} {r : List UInt8} (h : dV l = some (xs, r)) : (∀ x ∈ xs, i64b x) ∧ xs.length ≤ 9 ∧ l = eV xs ++ r := by
  unfold dV at h
  cases h1 : dI l with
  | none => rw [h1] at h; cases h
  | some p =>
    obtain ⟨n, r1⟩ := p
    rw [h1] at h
    simp only at h
    split at h
    · cases h
    · rename_i hn
      obtain ⟨h2, h3⟩ := dI_sound h1
      obtain ⟨h4, h5, h6⟩ := dNs_sound _ _ _ _ h
      refine ⟨h5, by omega, ?_⟩
      unfold eV
      rw [h3, h6, h4, Int.toNat_of_nonneg (by omega), List.append_assoc]
theorem dV_many {xs : List Int} (hl : 9 < xs.length) (hm : xs.length ≤ 1000000) (r : List UInt8) : dV (eV xs ++ r) = none := by
  unfold dV eV
  rw [List.append_assoc, dI_eI ⟨by omega, by omega⟩]
  simp only
  rw [if_pos (.inr (by omega))]
/-- A text. -/
theorem toText_sound {l t r : List UInt8} (h : toText l = some (t, r)) : l = txt t ++ r := by
  unfold toText at h
  cases h1 : toInt l with
  | none => rw [h1] at h; cases h
  | some p =>
    obtain ⟨v, r1⟩ := p
    rw [h1] at h
    simp only at h
    split at h
    · cases h
    · rename_i hn
      simp only [Option.some.injEq, Prod.mk.injEq] at h
      obtain ⟨rfl, rfl⟩ := h
      obtain ⟨_, h3⟩ := toInt_sound h1
      unfold txt
      have hl : (r1.take (unz v).toNat).length = (unz v).toNat := by rw [List.length_take]; omega
      rw [hl, Int.toNat_of_nonneg (by omega), nat64_unz, List.append_assoc, List.take_append_drop]
      exact h3
end Go.Proofs.Ytiffdhihhggkhaa

/-
  LAYER 7 (msg): how a message is read back: mathematics of lists.
-/
namespace Go.Proofs.Ytiffdhihhggkhaa
open Go.RowKit
set_option linter.unusedVariables false
set_option maxRecDepth 100000

/-- What a right message's parts are bounded by. -/
structure MsB (m : Ms) : Prop where
  heads : ∀ n ∈ heads m, i64b n
  el : m.ents.length ≤ 8
  ents : ∀ e ∈ m.ents, i64b e.idx ∧ i64b e.term ∧ i64b e.kind ∧ e.dt.size ≤ 4000000
  bi : i64b m.bi
  bt : i64b m.bt
  vot : ∀ n ∈ m.vot, i64b n
  vl : m.vot.length ≤ 9
  bd : m.bd.size ≤ 4000000
  dt : m.dt.size ≤ 4000000
theorem inN_i64 {n : Int} (h : inN n = true) : i64b n := by
  unfold inN at h
  simp only [Bool.and_eq_true, decide_eq_true_eq] at h
  exact ⟨by omega, by omega⟩
theorem rightM_b {m : Ms} (h : rightM m = true) : MsB m := by
  unfold rightM at h
  simp only [Bool.and_eq_true, decide_eq_true_eq] at h
  obtain ⟨⟨⟨⟨⟨⟨⟨h1, h2, h3⟩, ⟨⟨h4, h5⟩, h6⟩, h7⟩, ⟨⟨⟨⟨h8, h9⟩, h10⟩, h11⟩, h12⟩, h13⟩, h14⟩, h15⟩, h16⟩, h17⟩ := h
  obtain ⟨hl, hv⟩ := risingF_len m.vot 0 h14 (by omega)
  refine ⟨?_, h15, fun e he => ?_, inN_i64 h12, inN_i64 h13, fun n hn => ⟨by have := hv n hn; omega, by have := hv n hn; omega⟩, by omega, h17, h16⟩
  · simp only [Go.Proofs.Ytiffdhihhggkhaa.heads, List.forall_mem_cons]
    exact ⟨⟨by omega, by omega⟩, ⟨by omega, by omega⟩, ⟨by omega, by omega⟩, inN_i64 h8, inN_i64 h9, inN_i64 h10, inN_i64 h11, fun _ h => by cases h⟩
  · have := (List.all_eq_true.1 h1) e he
    unfold rightE at this
    simp only [Bool.and_eq_true, decide_eq_true_eq] at this
    exact ⟨inN_i64 this.1.1.1.1, inN_i64 this.1.1.1.2, ⟨by omega, by omega⟩, this.2⟩
/-- A text, as bytes. -/
def dT (l : List UInt8) : Option (ByteArray × List UInt8) := (toText l).map fun p => (mk p.1, p.2)
theorem dT_txt {t : ByteArray} (h : t.size ≤ 4000000) (r : List UInt8) : dT (txt t.data.toList ++ r) = some (t, r) := by
  unfold dT
  rw [toText_txt _ _ (by rw [str_len]; omega)]
  simp [mk_of]
theorem dT_sound {l : List UInt8} {t : ByteArray} {r : List UInt8} (h : dT l = some (t, r)) : l = txt t.data.toList ++ r := by
  unfold dT at h
  obtain ⟨⟨a, r'⟩, h1, h2⟩ := Option.map_eq_some_iff.1 h
  simp only [Prod.mk.injEq] at h2
  obtain ⟨rfl, rfl⟩ := h2
  exact toText_sound h1
def dB : List UInt8 → Option (Bool × List UInt8)
  | [] => none
  | c :: r => if 1 < c.toNat then none else some (decide (c.toNat = 1), r)
theorem dB_eB (b : Bool) (r : List UInt8) : dB (eB b ++ r) = some (b, r) := by cases b <;> rfl
theorem dB_sound {l : List UInt8} {b : Bool} {r : List UInt8} (h : dB l = some (b, r)) : l = eB b ++ r := by
  cases l with
  | nil => cases h
  | cons c t =>
    change (if 1 < c.toNat then none else some (decide (c.toNat = 1), t)) = some (b, r) at h
    split at h
    · cases h
    · rename_i hc
      simp only [Option.some.injEq, Prod.mk.injEq] at h
      obtain ⟨rfl, rfl⟩ := h
      have h2 : c.toNat = 0 ∨ c.toNat = 1 := by omega
      have e : ∀ n, c.toNat = n → c = UInt8.ofNat n := fun n hn => by rw [← hn]; exact (of_toNat c).symm
      rcases h2 with h2 | h2
      · rw [e 0 h2]; rfl
      · rw [e 1 h2]; rfl
def dE (l : List UInt8) : Option (Me × List UInt8) :=
  match dNs 3 l with
  | none => none
  | some (ns, r) => match dT r with
    | none => none
    | some (t, r') => some (⟨ns.getD 0 0, ns.getD 1 0, ns.getD 2 0, t⟩, r')
theorem eE_is (e : Me) : eE e = encs [e.idx, e.term, e.kind] ++ txt e.dt.data.toList := by unfold eE eI; simp [encs, List.append_assoc]
theorem dE_eE {e : Me} (h : i64b e.idx ∧ i64b e.term ∧ i64b e.kind ∧ e.dt.size ≤ 4000000) (r : List UInt8) : dE (eE e ++ r) = some (e, r) := by
  unfold dE
  rw [eE_is, List.append_assoc, show (3 : Nat) = [e.idx, e.term, e.kind].length from rfl, dNs_encs _ (by simp only [List.forall_mem_cons]; exact ⟨h.1, h.2.1, h.2.2.1, fun _ h => by cases h⟩)]
  simp only
  rw [dT_txt h.2.2.2]
  rfl
theorem dE_sound {l : List UInt8} {e : Me} {r : List UInt8} (h : dE l = some (e, r)) : l = eE e ++ r := by
  unfold dE at h
  cases h1 : dNs 3 l with
  | none => rw [h1] at h; cases h
  | some p =>
    obtain ⟨ns, r1⟩ := p
    rw [h1] at h
    simp only at h
    cases h2 : dT r1 with
    | none => rw [h2] at h; cases h
    | some q =>
      obtain ⟨t, r2⟩ := q
      rw [h2] at h
      simp only [Option.some.injEq, Prod.mk.injEq] at h
      obtain ⟨rfl, rfl⟩ := h
      obtain ⟨h3, _, h5⟩ := dNs_sound _ _ _ _ h1
      have h6 := dT_sound h2
      match ns, h3 with
      | [a, b, c], _ =>
        rw [eE_is, h5, h6, List.append_assoc]
        rfl
def dEs : Nat → List UInt8 → Option (List Me × List UInt8)
  | 0, l => some ([], l)
  | n + 1, l => match dE l with
    | none => none
    | some (e, r) => match dEs n r with
      | none => none
      | some (es, r') => some (e :: es, r')
theorem dEs_eEs : ∀ (es : List Me), (∀ e ∈ es, i64b e.idx ∧ i64b e.term ∧ i64b e.kind ∧ e.dt.size ≤ 4000000) → ∀ r, dEs es.length (eEs es ++ r) = some (es, r)
  | [], h, r => rfl
  | x :: xs, h, r => by
    have e : eEs (x :: xs) ++ r = eE x ++ (eEs xs ++ r) := by simp [eEs, List.append_assoc]
    rw [List.length_cons, dEs, e, dE_eE (h x (by simp))]
    simp only
    rw [dEs_eEs xs (fun y hy => h y (by simp [hy])) r]
theorem dEs_sound : ∀ (n : Nat) (l : List UInt8) (es : List Me) (r : List UInt8), dEs n l = some (es, r) → es.length = n ∧ l = eEs es ++ r
  | 0, l, es, r, h => by
    simp only [dEs, Option.some.injEq, Prod.mk.injEq] at h
    obtain ⟨rfl, rfl⟩ := h
    exact ⟨rfl, rfl⟩
  | n + 1, l, es, r, h => by
    rw [dEs] at h
    cases h1 : dE l with
    | none => rw [h1] at h; cases h
    | some p =>
      obtain ⟨v, r1⟩ := p
      rw [h1] at h
      simp only at h
      cases h2 : dEs n r1 with
      | none => rw [h2] at h; cases h
      | some q =>
        obtain ⟨vs, r2⟩ := q
        rw [h2] at h
        simp only [Option.some.injEq, Prod.mk.injEq] at h
        obtain ⟨rfl, rfl⟩ := h
        obtain ⟨h5, h7⟩ := dEs_sound n r1 vs r2 h2
        exact ⟨by simp [h5], by rw [dE_sound h1, h7]; simp [eEs, List.append_assoc]⟩
/-- A message, read. -/
def dM (l : List UInt8) : Option (Ms × List UInt8) :=
  (dNs 7 l).bind fun a => (dB a.2).bind fun b => (dI b.2).bind fun c => if c.1 < 0 ∨ 8 < c.1 then none else (dEs c.1.toNat c.2).bind fun d => (dNs 2 d.2).bind fun e => (dV e.2).bind fun f => (dT f.2).bind fun g => (dT g.2).bind fun h =>
    some (⟨a.1.getD 0 0, a.1.getD 1 0, a.1.getD 2 0, a.1.getD 3 0, a.1.getD 4 0, a.1.getD 5 0, a.1.getD 6 0, b.1, d.1, e.1.getD 0 0, e.1.getD 1 0, f.1, g.1, h.1⟩, h.2)
theorem eM_is (m : Ms) (r : List UInt8) : eM m ++ r = encs (heads m) ++ (eB m.ok ++ (eI m.ents.length ++ (eEs m.ents ++ (encs [m.bi, m.bt] ++ (eV m.vot ++ (txt m.bd.data.toList ++ (txt m.dt.data.toList ++ r))))))) := by
  unfold eM
  have e : encs [m.bi, m.bt] = eI m.bi ++ eI m.bt := by simp [encs, eI]
  rw [e]
  simp only [List.append_assoc]
theorem dM_eM {m : Ms} (h : MsB m) (r : List UInt8) : dM (eM m ++ r) = some (m, r) := by
  have e8 := h.el
  unfold dM
  rw [eM_is, show (7 : Nat) = (heads m).length from rfl, dNs_encs _ h.heads]
  simp only [Option.bind_some]
  rw [dB_eB]
  simp only [Option.bind_some]
  rw [dI_eI ⟨by omega, by omega⟩]
  simp only [Option.bind_some]
  rw [if_neg (by omega), Int.toNat_natCast, dEs_eEs _ h.ents]
  simp only [Option.bind_some]
  rw [show (2 : Nat) = [m.bi, m.bt].length from rfl, dNs_encs _ (by simp only [List.forall_mem_cons]; exact ⟨h.bi, h.bt, fun _ h => by cases h⟩)]
  simp only [Option.bind_some]
  rw [dV_eV h.vot h.vl]
  simp only [Option.bind_some]
  rw [dT_txt h.bd]
  simp only [Option.bind_some]
  rw [dT_txt h.dt]
  rfl
theorem dM_sound {l : List UInt8} {m : Ms} {r : List UInt8} (h : dM l = some (m, r)) : l = eM m ++ r := by
  unfold dM at h
  simp only [Option.bind_eq_some_iff] at h
  obtain ⟨⟨a1, a2⟩, ha, ⟨b1, b2⟩, hb, ⟨c1, c2⟩, hc, h⟩ := h
  split at h
  · cases h
  · rename_i hn
    simp only [Option.bind_eq_some_iff] at h
    obtain ⟨⟨d1, d2⟩, hd, ⟨e1, e2⟩, he, ⟨f1, f2⟩, hf, ⟨g1, g2⟩, hg, ⟨k1, k2⟩, hk, h⟩ := h
    simp only [Option.some.injEq, Prod.mk.injEq] at h
    obtain ⟨rfl, rfl⟩ := h
    obtain ⟨ha1, _, ha3⟩ := dNs_sound _ _ _ _ ha
    obtain ⟨he1, _, he3⟩ := dNs_sound _ _ _ _ he
    have hb3 := dB_sound hb
    obtain ⟨_, hc3⟩ := dI_sound hc
    obtain ⟨hd1, hd3⟩ := dEs_sound _ _ _ _ hd
    obtain ⟨_, _, hf3⟩ := dV_sound hf
    have hg3 := dT_sound hg
    have hk3 := dT_sound hk
    simp only at hb3 hc3 hd3 he3 hf3 hg3 hk3 hn
    match a1, ha1, e1, he1 with
    | [x0, x1, x2, x3, x4, x5, x6], _, [y0, y1], _ =>
      rw [eM_is, ha3, hb3, hc3, hd3, he3, hf3, hg3, hk3]
      simp only [hd1]
      rw [Int.toNat_of_nonneg (by omega)]
      rfl
/-- What Unpack says. -/
def unpackN (l : List UInt8) : Option Ms :=
  match dM l with
  | some (m, []) => if rightM m = true then some m else none
  | _ => none
theorem unpackN_iff (l : List UInt8) (m : Ms) : unpackN l = some m ↔ rightM m = true ∧ l = eM m := by
  constructor
  · intro h
    unfold unpackN at h
    split at h
    · rename_i m' hd
      split at h
      · rename_i hr
        simp only [Option.some.injEq] at h
        subst h
        exact ⟨hr, by have := dM_sound hd; rwa [List.append_nil] at this⟩
      · cases h
    · cases h
  · rintro ⟨hr, rfl⟩
    unfold unpackN
    have := dM_eM (rightM_b hr) []
    rw [List.append_nil] at this
    rw [this]
    simp [hr]
/-- Nothing that is cut short, and nothing with more behind it. -/
theorem unpackN_more {m : Ms} (h : rightM m = true) (r : List UInt8) (hr : r ≠ []) : unpackN (eM m ++ r) = none := by
  cases hu : unpackN (eM m ++ r) with
  | none => rfl
  | some m' =>
    obtain ⟨hr', e⟩ := (unpackN_iff _ _).1 hu
    have h1 := dM_eM (rightM_b h) r
    have h2 := dM_eM (rightM_b hr') []
    rw [e] at h1
    rw [List.append_nil] at h2
    rw [h1] at h2
    simp only [Option.some.injEq, Prod.mk.injEq] at h2
    exact absurd h2.2 hr
theorem unpackN_cut {m : Ms} (h : rightM m = true) (k : Nat) (hk : k < (eM m).length) : unpackN ((eM m).take k) = none := by
  cases hu : unpackN ((eM m).take k) with
  | none => rfl
  | some m' =>
    obtain ⟨hr', e⟩ := (unpackN_iff _ _).1 hu
    have h1 := dM_eM (rightM_b hr') ((eM m).drop k)
    rw [← e, List.take_append_drop] at h1
    have h2 := dM_eM (rightM_b h) []
    rw [List.append_nil] at h2
    rw [h1] at h2
    simp only [Option.some.injEq, Prod.mk.injEq] at h2
    have := congrArg List.length h2.2
    simp at this
    omega
theorem eM_pos (m : Ms) : 0 < (eM m).length := by
  unfold eM
  simp [eB]
  omega
end Go.Proofs.Ytiffdhihhggkhaa

/-
  CODEC: bools.
-/
namespace Go.Proofs.Ytiffdhihhggkhaa
open Go.RowKit
set_option linter.unusedVariables false
set_option maxRecDepth 100000

def boolRes : List UInt8 → Value
  | [] => .tuple #[.bool false, .string ⟨#[]⟩, .bool false]
  | c :: r => if 1 < c.toNat then .tuple #[.bool false, .string ⟨#[]⟩, .bool false] else .tuple #[.bool (decide (c.toNat = 1)), .string (mk r), .bool true]

def boolB (c : UInt8) : Bool := decide ((c.toNat : Int) = 1)
theorem boolRes_cons (c : UInt8) (r : List UInt8) : boolRes (c :: r) = if 1 < c.toNat then .tuple #[.bool false, .string ⟨#[]⟩, .bool false] else .tuple #[.bool (decide (c.toNat = 1)), .string (mk r), .bool true] := rfl

end Go.Proofs.Ytiffdhihhggkhaa


