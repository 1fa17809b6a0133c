/-
  SMALL LAWS THAT EVERY LAYER USES: rows of bytes that the call has made itself; strings cut and joined; what stays below a block.
-/
import Derived.Test.YtnbghghkahaenaaProg
import Derived.WalkKit
import Derived.KernelRfl
import Derived.Lib.Builder
import Derived.Lib.Strings
import Derived.Lib.UnsafeStr
import Derived.Laws.BytesArg
import Derived.Laws.OwnMore
import Derived.Lib.ConvBytes
import Derived.Deep.QuietTactic
import Derived.BigQuiet
import Derived.Deep.RegionWith
namespace Go.Proofs.Ytnbghghkahaenaa
open Go.RowKit
set_option linter.unusedVariables false
set_option maxRecDepth 100000

theorem hid {p : Prop} (h : p) : Hid p := h

theorem infoByte : (Try.prog.info? 5).map (fun i => (i.zero, i.size, i.bytes)) = some (some (.int .u8 0), 1, 1) := by kernel_rfl
theorem infoByte_parts : ∃ i, Try.prog.info? 5 = some i ∧ i.zero = some (.int .u8 0) ∧ i.size = 1 ∧ i.bytes = 1 := by
  obtain ⟨i, hi, hz⟩ := Option.map_eq_some_iff.1 infoByte
  simp only [Prod.mk.injEq] at hz
  exact ⟨i, hi, hz.1, hz.2.1, hz.2.2⟩
theorem cellsByte : Try.prog.cellsOf 5 = 1 := by kernel_rfl

/-- A row of bytes that the call has made itself (from block B on). -/
def Bytes (w : World) (B : Nat) (v : Value) (l : List UInt8) : Prop := w.ownsRow B 5 1 v l.length (Lib.byteCells l)

theorem byteCells_getElem? (l : List UInt8) (j : Nat) (u : Value) (h : (Lib.byteCells l)[j]? = some u) : ∃ c, l[j]? = some c ∧ u = .int .u8 c.toNat := by
  simp only [Lib.byteCells, List.getElem?_map, Option.map_eq_some_iff] at h
  obtain ⟨c, hc, rfl⟩ := h
  exact ⟨c, hc, rfl⟩
theorem byteCells_one (l : List UInt8) : ∀ u ∈ Lib.byteCells l, u.oneCell' = true := by
  intro u hu
  simp only [Lib.byteCells, List.mem_map] at hu
  obtain ⟨c, _, rfl⟩ := hu
  rfl

/-- Its shape, where it holds a byte. -/
theorem Bytes.shape {w : World} {B : Nat} {v : Value} {l : List UInt8} (h : Bytes w B v l) (h0 : l ≠ []) :
    ∃ g cap, v = .slice (some ⟨g, 0, none⟩) l.length cap ∧ B ≤ g ∧ g < w.heap.size ∧ l.length ≤ cap ∧ cap ≤ maxLen ∧ (∀ j c, l[j]? = some c → w.cell? ⟨g, j, none⟩ = some (.int .u8 c.toNat)) ∧ ∀ j, w.frozen? ⟨g, j, none⟩ = false := by
  have hlen : l.length ≠ 0 := by simpa using h0
  have hcs := fun g hg => World.ownsRow.cells h (g := g) hg
  have hlt := World.ownsRow.lt h
  rcases h.2 with ⟨_, hz⟩ | ⟨g, cap, cur, rfl, hB, hg, hnc, hcm, hcs', htake⟩
  · exact absurd hz hlen
  · refine ⟨g, cap, rfl, hB, (hlt g rfl).2, hnc, hcm, ?_, fun j => Lib.frozen_of_heap hg j⟩
    intro j c hj
    have := hcs g rfl j (.int .u8 c.toNat) (by simp [Lib.byteCells, hj])
    have hadd : (⟨g, 0, none⟩ : Addr).add j = ⟨g, j, none⟩ := by unfold Addr.add; split <;> simp_all
    rw [hadd] at this
    exact this

theorem ownsRow_below {w w' : World} {B B' : Nat} {e : TypeId} {size : Nat} {v : Value} {n : Nat} {xs : List Value} (h : w.ownsRow B e size v n xs) (hb : Below B' w w') (hB : w.heap.size ≤ B') : w'.ownsRow B e size v n xs := by
  refine h.kept (row := none) ⟨hb.os, hb.tape, hb.output, hb.size, fun k hk _ => hb.block k (by omega)⟩ ?_
  cases hv : v.ownBlock <;> simp

/-- One that holds just one byte, laid by '[]byte{c}'. -/
theorem Bytes.one (w : World) (B : Nat) (c : Nat) (n : Int) (hn : n = (c : Int)) (hc : c < 256) (hB : B ≤ w.heap.size) : Bytes (w.alloc (.cells #[.int .u8 n] 5)) B (.slice (some ⟨w.heap.size, 0, none⟩) 1 1) [UInt8.ofNat c] := by
  subst hn
  have : (UInt8.ofNat c).toNat = c := by rw [UInt8.toNat_ofNat']; exact Nat.mod_eq_of_lt hc
  refine ⟨by simp [Lib.byteCells], .inr ⟨w.heap.size, 1, #[.int .u8 (c : Int)], rfl, hB, heap_alloc_new w _, Nat.le_refl _, by unfold maxLen; omega, by simp, by simp [Lib.byteCells, this]⟩⟩

theorem getD_of {l : List Int} {i : Nat} (h : i < l.length) : l.getD i 0 = l[i] := by simp [List.getD, h]

set_option maxRecDepth 100000 in
/-- string(b). -/
theorem run_string {w : World} {g n cap : Nat} {l : List UInt8} (hn : n = l.length) (hc : ∀ j c, l[j]? = some c → w.cell? ⟨g, j, none⟩ = some (.int .u8 c.toNat)) :
    (convert 35 9 (.slice (some ⟨g, 0, none⟩) n cap)).run Try.prog w = .ok (.string ⟨l.toArray⟩) w := by
  have h := run_convert_bytes_arg (P := Try.prog) w 35 5 Try.underlying35 Try.underlying5 g 0 n cap (l.map fun c => (c.toNat : Int)) (by simp [hn]) (fun i hi => by
    have hil : i < l.length := by omega
    rw [Nat.zero_add, hc i l[i] (by simp [hil]), getD_of (by simpa using hil)]
    simp) 9 Try.underlying9
  rw [h]
  congr 2
  simp [strOfNums, List.map_map]
  congr 1
  apply List.ext_getElem
  · simp
  · intro i h1 h2; simp


/-- A string out of a list of bytes. -/
def mk (l : List UInt8) : ByteArray := ⟨l.toArray⟩
theorem mk_size (l : List UInt8) : (mk l).size = l.length := by simp [mk, ByteArray.size]
theorem mk_data (l : List UInt8) : (mk l).data.toList = l := rfl
theorem mk_of (s : ByteArray) : mk s.data.toList = s := rfl
theorem str_ext {s t : ByteArray} (h : s.data.toList = t.data.toList) : s = t := by
  obtain ⟨⟨l⟩⟩ := s; obtain ⟨⟨m⟩⟩ := t; simp at h; rw [h]
theorem str_len (s : ByteArray) : s.data.toList.length = s.size := rfl
theorem extract_drop (s : ByteArray) (a n : Nat) (h : n = s.size) : s.extract a n = mk (s.data.toList.drop a) := by
  apply str_ext
  rw [Lib.extract_data, mk_data, h, List.take_of_length_le]
  rw [List.length_drop, str_len]; exact Nat.le_refl _
theorem extract_take (s : ByteArray) (b : Nat) : s.extract 0 b = mk (s.data.toList.take b) := by
  apply str_ext; rw [Lib.extract_data, mk_data]; simp
theorem append_data (s t : ByteArray) : (s ++ t).data.toList = s.data.toList ++ t.data.toList := by rw [ByteArray.data_append, Array.toList_append]
theorem mk_append (l m : List UInt8) : mk l ++ mk m = mk (l ++ m) := str_ext (by rw [append_data]; rfl)
theorem drop_cons (s : ByteArray) (k : Nat) (h : k < s.size) : s.data.toList.drop k = s[k] :: s.data.toList.drop (k + 1) := by
  rw [List.drop_eq_getElem_cons (by simpa using h)]; rfl

/-- A contract that leaves the world, inside a region that draws its order. -/
theorem quiet_eq {P : Program} {f : FuncId} {args : Array Value} {w : World} {n : Nat} {v : Value}
    (h : Calls P f args (w.drewN n) fun e w' => e = .returned v ∧ w.drewN n = w') : Calls P f args (w.drewN n) fun e w'' => e = .returned v ∧ ∃ m, w'' = w.drewN m :=
  h.mono fun _ _ ⟨he, hm⟩ => ⟨he, n, hm.symm⟩
theorem drewN_zero (w : World) : w = w.drewN 0 := rfl
theorem below_drew {B : Nat} {a w : World} (h : Below B a w) (n : Nat) : Below B a (w.drewN n) := h.trans ⟨rfl, rfl, rfl, Nat.le_refl _, fun _ _ => rfl⟩

/-- s[lo:hi], s[lo:], s[:hi] of a string, as a list of bytes. -/
theorem slice_lh {s : ByteArray} {lo hi : Int} {l : List UInt8} (h0 : 0 ≤ lo) (h1 : lo ≤ hi) (h2 : hi ≤ s.size) (hl : (s.data.toList.drop lo.toNat).take (hi.toNat - lo.toNat) = l) (wx : World) :
    (Instr.slice 9 (.string s) (some (.int .i64 lo)) (some (.int .i64 hi)) none).run Try.prog wx = .ok (.string (mk l)) wx := by
  rw [run_slice_string (P := Try.prog) wx 9 s .i64 .i64 lo hi Try.underlying9 h0 h1 h2]
  congr 2
  apply str_ext; rw [Lib.extract_data, mk_data, hl]
theorem slice_l {s : ByteArray} {lo : Int} {l : List UInt8} (h0 : 0 ≤ lo) (h1 : lo ≤ s.size) (hl : s.data.toList.drop lo.toNat = l) (wx : World) :
    (Instr.slice 9 (.string s) (some (.int .i64 lo)) none none).run Try.prog wx = .ok (.string (mk l)) wx := by
  rw [run_slice_string_from_if (P := Try.prog) wx 9 s .i64 lo Try.underlying9, if_pos ⟨h0, h1⟩, extract_drop s _ _ rfl, hl]
theorem slice_h {s : ByteArray} {hi : Int} {l : List UInt8} (h0 : 0 ≤ hi) (h1 : hi ≤ s.size) (hl : s.data.toList.take hi.toNat = l) (wx : World) :
    (Instr.slice 9 (.string s) none (some (.int .i64 hi)) none).run Try.prog wx = .ok (.string (mk l)) wx := by
  rw [run_slice_string_to_if (P := Try.prog) wx 9 s .i64 hi Try.underlying9, if_pos ⟨h0, h1⟩, extract_take, hl]

/-- make([]byte, n): a row of noughts of the call's own. -/
theorem make_bytes (w : World) (B n : Nat) (hB : B ≤ w.heap.size) (hn : n ≤ 140737488355328) :
    ∃ w', (Instr.makeSlice 35 (.int .i64 (n : Int)) (.int .i64 (n : Int))).run Try.prog w = .ok (.slice (some ⟨w.heap.size, 0, none⟩) n n) w' ∧ Bytes w' B (.slice (some ⟨w.heap.size, 0, none⟩) n n) (List.replicate n 0) ∧ Below w.heap.size w w' ∧ w'.heap.size = w.heap.size + 1 := by
  obtain ⟨i0, hi, hz0, hz1, hz2⟩ := infoByte_parts
  have h := run_make (P := Try.prog) w 35 5 i0 (.int .u8 0) Try.underlying35 hi hz0 .i64 .i64 (n : Int) (n : Int) (by omega) (Int.le_refl _) (by rw [hz2]; omega) (by omega)
  rw [hz1, Int.toNat_natCast] at h
  refine ⟨_, h, ?_, Below.alloc (Below.refl _ _) (Nat.le_refl _) _, by simp⟩
  have hc : madeCells (Value.cells (.int .u8 0)) (n * 1) = (List.replicate n (Value.int .u8 0)).toArray :=
    Array.ext' (by rw [show Value.cells (.int .u8 0) = #[.int .u8 0] from rfl, Nat.mul_one, toList_madeCells_one])
  rw [hc]
  refine ⟨by simp [Lib.byteCells], .inr ⟨w.heap.size, n, _, by simp, hB, heap_alloc_new w _, by simp, by unfold maxLen; omega, by simp, by simp [Lib.byteCells]⟩⟩

/-- A store into it. -/
theorem Bytes.set {w : World} {B g cap : Nat} {l : List UInt8} (h : Bytes w B (.slice (some ⟨g, 0, none⟩) l.length cap) l) (k : Nat) (hk : k < l.length) (c : UInt8) (n : Int) (hn : n = (c.toNat : Int)) :
    Bytes (w.setCell ⟨g, k, none⟩ (.int .u8 n)) B (.slice (some ⟨g, 0, none⟩) l.length cap) (l.set k c) := by
  subst hn
  rcases h.2 with ⟨hv, _⟩ | ⟨g', cap', cur, hv, hB, hg, hnc, hcm, hcs, htake⟩
  · cases hv
  · cases hv
    refine ⟨by simp [Lib.byteCells], .inr ⟨g, cap, cur.setIfInBounds k (.int .u8 c.toNat), by rw [List.length_set], hB, ?_, by rw [List.length_set]; exact hnc, hcm, by simpa using hcs, ?_⟩⟩
    · simp [World.setCell, Array.getElem?_modify, hg]
    · rw [Array.toList_setIfInBounds, List.length_set, List.take_set, htake]
      simp [Lib.byteCells, List.map_set]

/-! ### A row of bytes whose block may bear a mark behind its end (what []byte(s) makes) -/
def RowAt (w : World) (B g : Nat) (l : List UInt8) : Prop :=
  B ≤ g ∧ (∀ j c, l[j]? = some c → w.cell? ⟨g, j, none⟩ = some (.int .u8 c.toNat)) ∧ ∀ j, j < l.length → w.frozen? ⟨g, j, none⟩ = false

theorem setCell_cell {w : World} {g k j : Nat} {v u : Value} (hk : w.cell? ⟨g, k, none⟩ = some u) : (w.setCell ⟨g, k, none⟩ v).cell? ⟨g, j, none⟩ = if j = k then some v else w.cell? ⟨g, j, none⟩ := by
  unfold World.cell? at hk
  cases hg : w.heap[g]? with
  | none => simp [hg] at hk
  | some o =>
    cases o with
    | cells cs t fr =>
      simp [hg] at hk
      have hlt : k < cs.size := by
        rcases Nat.lt_or_ge k cs.size with h | h
        · exact h
        · simp [Array.getElem?_eq_none h] at hk
      simp only [World.cell?, World.setCell, Array.getElem?_modify, hg]
      by_cases h : j = k
      · subst h; simp [hlt]
      · simp [h, Ne.symm h]
    | _ => simp [hg] at hk
theorem setCell_frozen (w : World) (g k : Nat) (v : Value) (a : Addr) : (w.setCell ⟨g, k, none⟩ v).frozen? a = w.frozen? a := by
  simp only [World.frozen?, World.setCell, Array.getElem?_modify]
  by_cases h : g = a.block
  · rw [if_pos h]
    cases hg : w.heap[a.block]? with
    | none => rfl
    | some o => cases o <;> rfl
  · rw [if_neg h]

theorem RowAt.set {w : World} {B g : Nat} {l : List UInt8} (h : RowAt w B g l) (k : Nat) (hk : k < l.length) (c : UInt8) (n : Int) (hn : n = (c.toNat : Int)) :
    RowAt (w.setCell ⟨g, k, none⟩ (.int .u8 n)) B g (l.set k c) := by
  subst hn
  obtain ⟨h1, h2, h3⟩ := h
  refine ⟨h1, fun j d hj => ?_, fun j hj => ?_⟩
  · rw [setCell_cell (h2 k l[k] (by simp [hk]))]
    by_cases hjk : j = k
    · subst hjk
      rw [List.getElem?_set_self hk] at hj
      cases hj; rw [if_pos rfl]
    · rw [if_neg hjk]
      rw [List.getElem?_set_ne (Ne.symm hjk)] at hj
      exact h2 j d hj
  · rw [setCell_frozen]; exact h3 j (by simpa using hj)

/-- []byte(s). -/
theorem run_bytes (w : World) (s : ByteArray) :
    ∃ cap w', (convert 9 35 (.string s)).run Try.prog w = .ok (.slice (some ⟨w.heap.size, 0, none⟩) s.size cap) w' ∧ RowAt w' w.heap.size w.heap.size s.data.toList ∧ Below w.heap.size w w' ∧ s.size ≤ cap ∧ w'.heap.size = w.heap.size + 1 := by
  refine ⟨_, _, Lib.run_convert_string_bytes (P := Try.prog) w 9 35 5 s Try.underlying9 Try.underlying35 Try.underlying5, ⟨Nat.le_refl _, fun j c hj => ?_, fun j hj => ?_⟩, ⟨rfl, rfl, rfl, by rw [Lib.bytesWorld_size]; omega, fun k hk => Lib.bytesWorld_at_old w _ s k hk⟩, ?_, Lib.bytesWorld_size _ _ _⟩
  · have hlt : j < s.size := by
      rcases Nat.lt_or_ge j s.size with h | h
      · exact h
      · rw [List.getElem?_eq_none (by rw [str_len]; exact h)] at hj; cases hj
    rw [Lib.bytesWorld_cell w _ s j hlt]
    simp [List.getD, hj]
  · have hh := Lib.bytesWorld_at_new w 5 s
    simp only [World.frozen?, hh]
    rw [str_len] at hj
    have : s.size ≤ (Lib.bytesCells w 5 s).size := by
      unfold Lib.bytesCells
      rw [Array.size_append, Array.size_map]
      exact Nat.le_add_right _ _
    simp; omega
  · exact grownCap_ge _ _ _ _
end Go.Proofs.Ytnbghghkahaenaa
