import Derived.KernelRfl
import Derived.Test.YtbccikefccdekaaGreatDoorProg
import Derived.WalkKit
import Derived.Lib.Builder
import Derived.Lib.Strings
import Derived.Lib.UnsafeStr
import Derived.Laws.BytesArg
import Derived.Laws.OwnMore
import Derived.Lib.ConvBytes
import Derived.Deep.QuietTactic
import Derived.BigQuiet
import Derived.Deep.RegionWith
import Derived.Lib.Slices
import Derived.Lib.AppendStr
import Derived.Laws.Externs
import Derived.BigRegion
import Derived.Lib.BitFns
import Derived.Laws.BitsAllLaws
import Derived.RowKit
import Init
import Derived.Shelf.Strconv.Itoa0
import Derived.Shelf.Strings.Prefix
import Derived.Test.YtbccikefccdekaaGreatDoorRows
import Derived.ProofKit
import Derived.OpenShut
import Derived.Carry
import Derived.Laws.BytesString
/-
  GENERAL: rows of numbers that rise, from above b, to 9.
-/
namespace Go.Proofs.YtbccikefccdekaaGreatDoor
/-- Rising from above b, to 9. -/
def risingF (b : Int) : List Int → Bool
  | [] => true
  | v :: r => decide (b < v) && decide (v ≤ 9) && risingF v r
theorem risingF_len : ∀ (l : List Int) (b : Int), risingF b l = true → b ≤ 9 → (l.length : Int) ≤ 9 - b ∧ ∀ v ∈ l, b < v ∧ v ≤ 9
  | [], b, h, hb => ⟨by simp; omega, by simp⟩
  | v :: r, b, h, hb => by
    unfold risingF at h
    simp only [Bool.and_eq_true, decide_eq_true_eq] at h
    obtain ⟨⟨h1, h2⟩, h3⟩ := h
    obtain ⟨h4, h5⟩ := risingF_len r v h3 h2
    refine ⟨by simp only [List.length_cons]; omega, fun x hx => ?_⟩
    rcases List.mem_cons.1 hx with e | e
    · subst e; exact ⟨h1, h2⟩
    · have := h5 x e; omega

/-! ### reading -/
end Go.Proofs.YtbccikefccdekaaGreatDoor

/-
  SMALL LAWS THAT EVERY LAYER USES: rows of bytes that the call has made itself; strings cut and joined; what stays below a block.
-/
namespace Go.Proofs.YtbccikefccdekaaGreatDoor
open Go.RowKit
set_option linter.unusedVariables false
set_option maxRecDepth 100000

theorem hid {p : Prop} (h : p) : Hid p := h

theorem infoByte : (Tryz.prog.info? 5).map (fun i => (i.zero, i.size, i.bytes)) = some (some (.int .u8 0), 1, 1) := by kernel_rfl
theorem infoByte_parts : ∃ i, Tryz.prog.info? 5 = some i ∧ i.zero = some (.int .u8 0) ∧ i.size = 1 ∧ i.bytes = 1 := by
  obtain ⟨i, hi, hz⟩ := Option.map_eq_some_iff.1 infoByte
  simp only [Prod.mk.injEq] at hz
  exact ⟨i, hi, hz.1, hz.2.1, hz.2.2⟩
theorem cellsByte : Tryz.prog.cellsOf 5 = 1 := by kernel_rfl

/-- A row of bytes that the call has made itself (from block B on). -/
def Bytes (w : World) (B : Nat) (v : Value) (l : List UInt8) : Prop := w.ownsRow B 5 1 v l.length (Lib.byteCells l)

theorem byteCells_getElem? (l : List UInt8) (j : Nat) (u : Value) (h : (Lib.byteCells l)[j]? = some u) : ∃ c, l[j]? = some c ∧ u = .int .u8 c.toNat := by
  simp only [Lib.byteCells, List.getElem?_map, Option.map_eq_some_iff] at h
  obtain ⟨c, hc, rfl⟩ := h
  exact ⟨c, hc, rfl⟩
theorem byteCells_one (l : List UInt8) : ∀ u ∈ Lib.byteCells l, u.oneCell' = true := by
  intro u hu
  simp only [Lib.byteCells, List.mem_map] at hu
  obtain ⟨c, _, rfl⟩ := hu
  rfl

/-- Its shape, where it holds a byte. -/
theorem Bytes.shape {w : World} {B : Nat} {v : Value} {l : List UInt8} (h : Bytes w B v l) (h0 : l ≠ []) :
    ∃ g cap, v = .slice (some ⟨g, 0, none⟩) l.length cap ∧ B ≤ g ∧ g < w.heap.size ∧ l.length ≤ cap ∧ cap ≤ maxLen ∧ (∀ j c, l[j]? = some c → w.cell? ⟨g, j, none⟩ = some (.int .u8 c.toNat)) ∧ ∀ j, w.frozen? ⟨g, j, none⟩ = false := by
  have hlen : l.length ≠ 0 := by simpa using h0
  have hcs := fun g hg => World.ownsRow.cells h (g := g) hg
  have hlt := World.ownsRow.lt h
  rcases h.2 with ⟨_, hz⟩ | ⟨g, cap, cur, rfl, hB, hg, hnc, hcm, hcs', htake⟩
  · exact absurd hz hlen
  · refine ⟨g, cap, rfl, hB, (hlt g rfl).2, hnc, hcm, ?_, fun j => Lib.frozen_of_heap hg j⟩
    intro j c hj
    have := hcs g rfl j (.int .u8 c.toNat) (by simp [Lib.byteCells, hj])
    have hadd : (⟨g, 0, none⟩ : Addr).add j = ⟨g, j, none⟩ := by unfold Addr.add; split <;> simp_all
    rw [hadd] at this
    exact this

theorem ownsRow_below {w w' : World} {B B' : Nat} {e : TypeId} {size : Nat} {v : Value} {n : Nat} {xs : List Value} (h : w.ownsRow B e size v n xs) (hb : Below B' w w') (hB : w.heap.size ≤ B') : w'.ownsRow B e size v n xs := by
  refine h.kept (row := none) ⟨hb.os, hb.tape, hb.output, hb.size, fun k hk _ => hb.block k (by omega)⟩ ?_
  cases hv : v.ownBlock <;> simp

/-- One that holds just one byte, laid by '[]byte{c}'. -/
theorem Bytes.one (w : World) (B : Nat) (c : Nat) (n : Int) (hn : n = (c : Int)) (hc : c < 256) (hB : B ≤ w.heap.size) : Bytes (w.alloc (.cells #[.int .u8 n] 5)) B (.slice (some ⟨w.heap.size, 0, none⟩) 1 1) [UInt8.ofNat c] := by
  subst hn
  have : (UInt8.ofNat c).toNat = c := by rw [UInt8.toNat_ofNat']; exact Nat.mod_eq_of_lt hc
  refine ⟨by simp [Lib.byteCells], .inr ⟨w.heap.size, 1, #[.int .u8 (c : Int)], rfl, hB, heap_alloc_new w _, Nat.le_refl _, by unfold maxLen; omega, by simp, by simp [Lib.byteCells, this]⟩⟩

theorem getD_of {l : List Int} {i : Nat} (h : i < l.length) : l.getD i 0 = l[i] := by simp [List.getD, h]

set_option maxRecDepth 100000 in
/-- string(b). -/
theorem run_string {w : World} {g n cap : Nat} {l : List UInt8} (hn : n = l.length) (hc : ∀ j c, l[j]? = some c → w.cell? ⟨g, j, none⟩ = some (.int .u8 c.toNat)) :
    (convert 33 9 (.slice (some ⟨g, 0, none⟩) n cap)).run Tryz.prog w = .ok (.string ⟨l.toArray⟩) w := by
  have h := run_convert_bytes_arg (P := Tryz.prog) w 33 5 Tryz.underlying33 Tryz.underlying5 g 0 n cap (l.map fun c => (c.toNat : Int)) (by simp [hn]) (fun i hi => by
    have hil : i < l.length := by omega
    rw [Nat.zero_add, hc i l[i] (by simp [hil]), getD_of (by simpa using hil)]
    simp) 9 Tryz.underlying9
  rw [h]
  congr 2
  simp [strOfNums, List.map_map]
  congr 1
  apply List.ext_getElem
  · simp
  · intro i h1 h2; simp


/-- A string out of a list of bytes. -/
def mk (l : List UInt8) : ByteArray := ⟨l.toArray⟩
theorem mk_size (l : List UInt8) : (mk l).size = l.length := by simp [mk, ByteArray.size]
theorem mk_data (l : List UInt8) : (mk l).data.toList = l := rfl
theorem mk_of (s : ByteArray) : mk s.data.toList = s := rfl
theorem str_ext {s t : ByteArray} (h : s.data.toList = t.data.toList) : s = t := by
  obtain ⟨⟨l⟩⟩ := s; obtain ⟨⟨m⟩⟩ := t; simp at h; rw [h]
theorem str_len (s : ByteArray) : s.data.toList.length = s.size := rfl
theorem extract_drop (s : ByteArray) (a n : Nat) (h : n = s.size) : s.extract a n = mk (s.data.toList.drop a) := by
  apply str_ext
  rw [Lib.extract_data, mk_data, h, List.take_of_length_le]
  rw [List.length_drop, str_len]; exact Nat.le_refl _
theorem extract_take (s : ByteArray) (b : Nat) : s.extract 0 b = mk (s.data.toList.take b) := by
  apply str_ext; rw [Lib.extract_data, mk_data]; simp
theorem append_data (s t : ByteArray) : (s ++ t).data.toList = s.data.toList ++ t.data.toList := by rw [ByteArray.data_append, Array.toList_append]
theorem mk_append (l m : List UInt8) : mk l ++ mk m = mk (l ++ m) := str_ext (by rw [append_data]; rfl)
theorem drop_cons (s : ByteArray) (k : Nat) (h : k < s.size) : s.data.toList.drop k = s[k] :: s.data.toList.drop (k + 1) := by
  rw [List.drop_eq_getElem_cons (by simpa using h)]; rfl

/-- A contract that leaves the world, inside a region that draws its order. -/
theorem quiet_eq {P : Program} {f : FuncId} {args : Array Value} {w : World} {n : Nat} {v : Value}
    (h : Calls P f args (w.drewN n) fun e w' => e = .returned v ∧ w.drewN n = w') : Calls P f args (w.drewN n) fun e w'' => e = .returned v ∧ ∃ m, w'' = w.drewN m :=
  h.mono fun _ _ ⟨he, hm⟩ => ⟨he, n, hm.symm⟩
theorem drewN_zero (w : World) : w = w.drewN 0 := rfl
theorem below_drew {B : Nat} {a w : World} (h : Below B a w) (n : Nat) : Below B a (w.drewN n) := h.trans ⟨rfl, rfl, rfl, Nat.le_refl _, fun _ _ => rfl⟩

/-- s[lo:hi], s[lo:], s[:hi] of a string, as a list of bytes. -/
theorem slice_lh {s : ByteArray} {lo hi : Int} {l : List UInt8} (h0 : 0 ≤ lo) (h1 : lo ≤ hi) (h2 : hi ≤ s.size) (hl : (s.data.toList.drop lo.toNat).take (hi.toNat - lo.toNat) = l) (wx : World) :
    (Instr.slice 9 (.string s) (some (.int .i64 lo)) (some (.int .i64 hi)) none).run Tryz.prog wx = .ok (.string (mk l)) wx := by
  rw [run_slice_string (P := Tryz.prog) wx 9 s .i64 .i64 lo hi Tryz.underlying9 h0 h1 h2]
  congr 2
  apply str_ext; rw [Lib.extract_data, mk_data, hl]
theorem slice_l {s : ByteArray} {lo : Int} {l : List UInt8} (h0 : 0 ≤ lo) (h1 : lo ≤ s.size) (hl : s.data.toList.drop lo.toNat = l) (wx : World) :
    (Instr.slice 9 (.string s) (some (.int .i64 lo)) none none).run Tryz.prog wx = .ok (.string (mk l)) wx := by
  rw [run_slice_string_from_if (P := Tryz.prog) wx 9 s .i64 lo Tryz.underlying9, if_pos ⟨h0, h1⟩, extract_drop s _ _ rfl, hl]
theorem slice_h {s : ByteArray} {hi : Int} {l : List UInt8} (h0 : 0 ≤ hi) (h1 : hi ≤ s.size) (hl : s.data.toList.take hi.toNat = l) (wx : World) :
    (Instr.slice 9 (.string s) none (some (.int .i64 hi)) none).run Tryz.prog wx = .ok (.string (mk l)) wx := by
  rw [run_slice_string_to_if (P := Tryz.prog) wx 9 s .i64 hi Tryz.underlying9, if_pos ⟨h0, h1⟩, extract_take, hl]

/-- make([]byte, n): a row of noughts of the call's own. -/
theorem make_bytes (w : World) (B n : Nat) (hB : B ≤ w.heap.size) (hn : n ≤ 140737488355328) :
    ∃ w', (Instr.makeSlice 33 (.int .i64 (n : Int)) (.int .i64 (n : Int))).run Tryz.prog w = .ok (.slice (some ⟨w.heap.size, 0, none⟩) n n) w' ∧ Bytes w' B (.slice (some ⟨w.heap.size, 0, none⟩) n n) (List.replicate n 0) ∧ Below w.heap.size w w' ∧ w'.heap.size = w.heap.size + 1 := by
  obtain ⟨i0, hi, hz0, hz1, hz2⟩ := infoByte_parts
  have h := run_make (P := Tryz.prog) w 33 5 i0 (.int .u8 0) Tryz.underlying33 hi hz0 .i64 .i64 (n : Int) (n : Int) (by omega) (Int.le_refl _) (by rw [hz2]; omega) (by omega)
  rw [hz1, Int.toNat_natCast] at h
  refine ⟨_, h, ?_, Below.alloc (Below.refl _ _) (Nat.le_refl _) _, by simp⟩
  have hc : madeCells (Value.cells (.int .u8 0)) (n * 1) = (List.replicate n (Value.int .u8 0)).toArray :=
    Array.ext' (by rw [show Value.cells (.int .u8 0) = #[.int .u8 0] from rfl, Nat.mul_one, toList_madeCells_one])
  rw [hc]
  refine ⟨by simp [Lib.byteCells], .inr ⟨w.heap.size, n, _, by simp, hB, heap_alloc_new w _, by simp, by unfold maxLen; omega, by simp, by simp [Lib.byteCells]⟩⟩

/-- A store into it. -/
theorem Bytes.set {w : World} {B g cap : Nat} {l : List UInt8} (h : Bytes w B (.slice (some ⟨g, 0, none⟩) l.length cap) l) (k : Nat) (hk : k < l.length) (c : UInt8) (n : Int) (hn : n = (c.toNat : Int)) :
    Bytes (w.setCell ⟨g, k, none⟩ (.int .u8 n)) B (.slice (some ⟨g, 0, none⟩) l.length cap) (l.set k c) := by
  subst hn
  rcases h.2 with ⟨hv, _⟩ | ⟨g', cap', cur, hv, hB, hg, hnc, hcm, hcs, htake⟩
  · cases hv
  · cases hv
    refine ⟨by simp [Lib.byteCells], .inr ⟨g, cap, cur.setIfInBounds k (.int .u8 c.toNat), by rw [List.length_set], hB, ?_, by rw [List.length_set]; exact hnc, hcm, by simpa using hcs, ?_⟩⟩
    · simp [World.setCell, Array.getElem?_modify, hg]
    · rw [Array.toList_setIfInBounds, List.length_set, List.take_set, htake]
      simp [Lib.byteCells, List.map_set]

/-! ### A row of bytes whose block may bear a mark behind its end (what []byte(s) makes) -/
def RowAt (w : World) (B g : Nat) (l : List UInt8) : Prop :=
  B ≤ g ∧ (∀ j c, l[j]? = some c → w.cell? ⟨g, j, none⟩ = some (.int .u8 c.toNat)) ∧ ∀ j, j < l.length → w.frozen? ⟨g, j, none⟩ = false

theorem setCell_cell {w : World} {g k j : Nat} {v u : Value} (hk : w.cell? ⟨g, k, none⟩ = some u) : (w.setCell ⟨g, k, none⟩ v).cell? ⟨g, j, none⟩ = if j = k then some v else w.cell? ⟨g, j, none⟩ := by
  unfold World.cell? at hk
  cases hg : w.heap[g]? with
  | none => simp [hg] at hk
  | some o =>
    cases o with
    | cells cs t fr =>
      simp [hg] at hk
      have hlt : k < cs.size := by
        rcases Nat.lt_or_ge k cs.size with h | h
        · exact h
        · simp [Array.getElem?_eq_none h] at hk
      simp only [World.cell?, World.setCell, Array.getElem?_modify, hg]
      by_cases h : j = k
      · subst h; simp [hlt]
      · simp [h, Ne.symm h]
    | _ => simp [hg] at hk
theorem setCell_frozen (w : World) (g k : Nat) (v : Value) (a : Addr) : (w.setCell ⟨g, k, none⟩ v).frozen? a = w.frozen? a := by
  simp only [World.frozen?, World.setCell, Array.getElem?_modify]
  by_cases h : g = a.block
  · rw [if_pos h]
    cases hg : w.heap[a.block]? with
    | none => rfl
    | some o => cases o <;> rfl
  · rw [if_neg h]

theorem RowAt.set {w : World} {B g : Nat} {l : List UInt8} (h : RowAt w B g l) (k : Nat) (hk : k < l.length) (c : UInt8) (n : Int) (hn : n = (c.toNat : Int)) :
    RowAt (w.setCell ⟨g, k, none⟩ (.int .u8 n)) B g (l.set k c) := by
  subst hn
  obtain ⟨h1, h2, h3⟩ := h
  refine ⟨h1, fun j d hj => ?_, fun j hj => ?_⟩
  · rw [setCell_cell (h2 k l[k] (by simp [hk]))]
    by_cases hjk : j = k
    · subst hjk
      rw [List.getElem?_set_self hk] at hj
      cases hj; rw [if_pos rfl]
    · rw [if_neg hjk]
      rw [List.getElem?_set_ne (Ne.symm hjk)] at hj
      exact h2 j d hj
  · rw [setCell_frozen]; exact h3 j (by simpa using hj)

/-- []byte(s). -/
theorem run_bytes (w : World) (s : ByteArray) :
    ∃ cap w', (convert 9 33 (.string s)).run Tryz.prog w = .ok (.slice (some ⟨w.heap.size, 0, none⟩) s.size cap) w' ∧ RowAt w' w.heap.size w.heap.size s.data.toList ∧ Below w.heap.size w w' ∧ s.size ≤ cap ∧ w'.heap.size = w.heap.size + 1 := by
  refine ⟨_, _, Lib.run_convert_string_bytes (P := Tryz.prog) w 9 33 5 s Tryz.underlying9 Tryz.underlying33 Tryz.underlying5, ⟨Nat.le_refl _, fun j c hj => ?_, fun j hj => ?_⟩, ⟨rfl, rfl, rfl, by rw [Lib.bytesWorld_size]; omega, fun k hk => Lib.bytesWorld_at_old w _ s k hk⟩, ?_, Lib.bytesWorld_size _ _ _⟩
  · have hlt : j < s.size := by
      rcases Nat.lt_or_ge j s.size with h | h
      · exact h
      · rw [List.getElem?_eq_none (by rw [str_len]; exact h)] at hj; cases hj
    rw [Lib.bytesWorld_cell w _ s j hlt]
    simp [List.getD, hj]
  · have hh := Lib.bytesWorld_at_new w 5 s
    simp only [World.frozen?, hh]
    rw [str_len] at hj
    have : s.size ≤ (Lib.bytesCells w 5 s).size := by
      unfold Lib.bytesCells
      rw [Array.size_append, Array.size_map]
      exact Nat.le_add_right _ _
    simp; omega
  · exact grownCap_ge _ _ _ _
end Go.Proofs.YtbccikefccdekaaGreatDoor

/-
  WHAT strings.Builder DOES IN A BLOCK OF THE CALL's OWN: contracts of copyCheck, WriteByte, WriteString and String, over a block of whatever type T at whose head a Builder lies (condition: 'BlkOk T': two cells, no row of bytes).
-/
namespace Go.Proofs.YtbccikefccdekaaGreatDoor
open Go.RowKit
set_option linter.unusedVariables false
set_option maxRecDepth 100000

/-- A block of type T bears a Builder at its head. -/
def BlkOk (T : TypeId) : Prop := liesAt Tryz.prog Tryz.prog.depth T (2 / Tryz.prog.cellsOf T) 0 51 1 = true ∧ T ≠ 5

theorem sizeBuilder : (Tryz.prog.info? 51).map (·.size) = some 2 := by kernel_rfl
theorem copyCheck_used (b : Nat) (w : World) (h0 : w.cell? ⟨b, 0, none⟩ = some (.pointer (some ⟨b, 0, none⟩))) :
    Calls Tryz.prog 49 #[.pointer (some ⟨b, 0, none⟩)] w fun e w' => e = .returned (.tuple #[]) ∧ w' = w := by
  obtain ⟨j, hj, hjs⟩ := Option.map_eq_some_iff.1 sizeBuilder
  go_enter Tryz.func49, Tryz.ntmps49
  go_wp2
  rw [Lib.run_neq_ptr_same w _ Tryz.underlying49 hj]
  go_wp2
  go_end0
  exact ⟨rfl, rfl⟩

theorem copyCheck_fresh {T : TypeId} (hT : BlkOk T) (b : Nat) (w : World) (h0 : w.cell? ⟨b, 0, none⟩ = some (.pointer none)) (hsh : w.shape? b = some (T, 2)) (hfz : w.frozen? ⟨b, 0, none⟩ = false) :
    Calls Tryz.prog 49 #[.pointer (some ⟨b, 0, none⟩)] w fun e w' => e = .returned (.tuple #[]) ∧ w' = w.setCell ⟨b, 0, none⟩ (.pointer (some ⟨b, 0, none⟩)) := by
  obtain ⟨j, hj, hjs⟩ := Option.map_eq_some_iff.1 sizeBuilder
  go_enter Tryz.func49, Tryz.ntmps49
  go_wp2
  rw [Lib.run_to_unsafe w ⟨b, 0, none⟩ Tryz.underlying49 Tryz.underlying107 hj (by rw [hjs]; decide) hsh (Nat.zero_lt_succ 1)]
  simp only [Result.andThen]
  rw [Oper.upon_value]
  go_wp2
  rw [run_callFunc_extern Tryz.func77 (by kernel_rfl) (by kernel_rfl) (by kernel_rfl) (e := Extern.AbiNoEscape.same) (by kernel_rfl)]
  rw [Lib.run_noEscape]
  simp only [Result.andThen]
  rw [Oper.upon_value]
  go_wp2
  rw [Lib.run_from_unsafe w ⟨b, 0, none⟩ Tryz.underlying107 Tryz.underlying49 hj hsh hT.1]
  simp only [Result.andThen]
  rw [Oper.upon_value]
  go_wp2
  go_end0
  exact ⟨rfl, rfl⟩

theorem copyCheck_any {T : TypeId} (hT : BlkOk T) (B b : Nat) (bs : List Value) (w : World) (h : Lib.IsBuilder T 5 B b bs w) :
    Calls Tryz.prog 49 #[.pointer (some ⟨b, 0, none⟩)] w fun e w' => e = .returned (.tuple #[]) ∧ (Lib.BuilderAt T 5 B b (.pointer (some ⟨b, 0, none⟩)) bs w' ∧ Below B w w') := by
  rcases h with h | h
  · refine (copyCheck_fresh hT b w h.cell0 h.shape h.frozen0).mono ?_
    rintro e w' ⟨rfl, rfl⟩
    exact ⟨rfl, h.used _, (Below.refl B w).setCell (p := ⟨b, 0, none⟩) h.1 _⟩
  · refine (copyCheck_used b w h.cell0).mono ?_
    rintro e w' ⟨rfl, rfl⟩
    exact ⟨rfl, h, Below.refl B _⟩

set_option maxHeartbeats 2000000 in
set_option maxRecDepth 100000 in
theorem writeByte_any {T : TypeId} (hT : BlkOk T) (B b : Nat) (bs : List Value) (c : Int) (w : World) (h : Lib.IsBuilder T 5 B b bs w) (hlen : bs.length + 1 ≤ 140737488355328) (hBw : B ≤ w.heap.size) :
    Calls Tryz.prog 130 #[.pointer (some ⟨b, 0, none⟩), .int .u8 c] w fun e w' => e = .returned .nilIface ∧ (Lib.BuilderAt T 5 B b (.pointer (some ⟨b, 0, none⟩)) (bs ++ [.int .u8 c]) w' ∧ Below B w w') := by
  obtain ⟨i0, hi, hz0, hz1, hz2⟩ := infoByte_parts
  go_enter Tryz.func130, Tryz.ntmps130
  go_wp2_with (go_at_call 49; refine (copyCheck_any hT B b bs _ h).mono ?_)
  rintro e w1 ⟨rfl, h1, hb1⟩
  obtain ⟨hB, v, hbk, hown, hne⟩ := h1
  have c0 : w1.cell? ⟨b, 0, none⟩ = some (.pointer (some ⟨b, 0, none⟩)) := by rw [Lib.cell_of_heap hbk]; rfl
  have c1 : w1.cell? ⟨b, 1, none⟩ = some v := by rw [Lib.cell_of_heap hbk]; rfl
  go_wp2_with (at_builtin; refine wpList_append_own _ rfl _ _ 33 rfl B 5 i0 (.int .u8 0) 1 1 Tryz.underlying33 hi hz0 hz1 hz2 rfl (by decide) _ _ _ rfl (hown.alloc _) ⟨w1.heap.size, 0, none⟩ 1 1 [.int .u8 c] rfl rfl ?c1 ?c2 ?c3 ?c4 ?c5 ?_)
  case c1 =>
    intro j u hj
    match j, hj with
    | 0, hj => simp at hj; subst hj; simp [Addr.add]
  case c2 => intro u hu; simp at hu; subst hu; rfl
  case c3 => unfold maxLen; omega
  case c4 => omega
  case c5 => have := hb1.size; simp; omega
  intro v' w2 hown' hgrow _
  have hlt : b < w1.heap.size := by
    rcases Nat.lt_or_ge b w1.heap.size with h' | h'
    · exact h'
    · simp [Array.getElem?_eq_none h'] at hbk
  have hb2 : w2.heap[b]? = some (.cells #[.pointer (some ⟨b, 0, none⟩), v] T (0, 0)) := by
    rw [hgrow.block b (by simp; omega) (fun e => hne e.symm), Lib.alloc_old w1 _ b hlt]
    exact hbk
  have d0 : w2.cell? ⟨b, 0, none⟩ = some (.pointer (some ⟨b, 0, none⟩)) := by rw [Lib.cell_of_heap hb2]; rfl
  have d1 : w2.cell? ⟨b, 1, none⟩ = some v := by rw [Lib.cell_of_heap hb2]; rfl
  have f1 : w2.frozen? ⟨b, 1, none⟩ = false := Lib.frozen_of_heap hb2 1
  obtain ⟨g, cap, rfl⟩ : ∃ g cap, v' = .slice (some ⟨g, 0, none⟩) (bs.length + 1) cap := by
    rcases hown'.2 with ⟨_, h0⟩ | ⟨g, cap, cur, hv, _⟩
    · omega
    · exact ⟨g, cap, hv⟩
  go_wp2
  go_ret
  refine ⟨rfl, ?_, ?_⟩
  · exact Lib.BuilderAt.put (T := T) (e := 5) hB hb2 (bs' := bs ++ [.int .u8 c]) (by simpa using hown') hT.2
  · exact ((hb1.alloc (by have := hb1.size; omega) _).grown hgrow (by have := hb1.size; simp; omega) (fun k hk => (World.ownsRow.lt hown k hk).1)).setCell (p := ⟨b, 1, none⟩) hB _

set_option maxHeartbeats 2000000 in
set_option maxRecDepth 100000 in
theorem writeString_any {T : TypeId} (hT : BlkOk T) (B b : Nat) (bs : List Value) (s : ByteArray) (w : World) (h : Lib.IsBuilder T 5 B b bs w) (hlen : bs.length + s.size ≤ 140737488355328) (hBw : B ≤ w.heap.size) :
    Calls Tryz.prog 25 #[.pointer (some ⟨b, 0, none⟩), .string s] w fun e w' => e = .returned (.tuple #[.int .i64 s.size, .nilIface]) ∧ (Lib.BuilderAt T 5 B b (.pointer (some ⟨b, 0, none⟩)) (bs ++ Lib.strCells s) w' ∧ Below B w w') := by
  obtain ⟨i0, hi, hz0, hz1, hz2⟩ := infoByte_parts
  go_enter Tryz.func25, Tryz.ntmps25
  go_wp2_with (go_at_call 49; refine (copyCheck_any hT B b bs _ h).mono ?_)
  rintro e w1 ⟨rfl, h1, hb1⟩
  obtain ⟨hB, v, hbk, hown, hne⟩ := h1
  have c0 : w1.cell? ⟨b, 0, none⟩ = some (.pointer (some ⟨b, 0, none⟩)) := by rw [Lib.cell_of_heap hbk]; rfl
  have c1 : w1.cell? ⟨b, 1, none⟩ = some v := by rw [Lib.cell_of_heap hbk]; rfl
  go_wp2_with (at_builtin; refine Lib.wpList_append_own_string _ rfl _ _ 33 9 rfl B 5 i0 Tryz.underlying33 Tryz.underlying9 hi hz0 hz1 hz2 _ _ _ rfl hown s rfl ?c3 ?c4 ?c5 ?_)
  case c3 => unfold maxLen; omega
  case c4 => omega
  case c5 => have := hb1.size; omega
  intro v' w2 hown' hgrow _
  have hlt : b < w1.heap.size := by
    rcases Nat.lt_or_ge b w1.heap.size with h' | h'
    · exact h'
    · simp [Array.getElem?_eq_none h'] at hbk
  have hb2 : w2.heap[b]? = some (.cells #[.pointer (some ⟨b, 0, none⟩), v] T (0, 0)) := by
    rw [hgrow.block b hlt (fun e => hne e.symm)]
    exact hbk
  have d0 : w2.cell? ⟨b, 0, none⟩ = some (.pointer (some ⟨b, 0, none⟩)) := by rw [Lib.cell_of_heap hb2]; rfl
  have d1 : w2.cell? ⟨b, 1, none⟩ = some v := by rw [Lib.cell_of_heap hb2]; rfl
  have f1 : w2.frozen? ⟨b, 1, none⟩ = false := Lib.frozen_of_heap hb2 1
  obtain ⟨ao, n', cap, rfl⟩ : ∃ ao n' cap, v' = .slice ao n' cap := by
    rcases hown'.2 with ⟨hv, _⟩ | ⟨g, cap, cur, hv, _⟩
    · exact ⟨_, _, _, hv⟩
    · exact ⟨_, _, _, hv⟩
  go_wp2
  go_ret2
  refine ⟨rfl, ?_, ?_⟩
  · exact Lib.BuilderAt.put (T := T) (e := 5) hB hb2 (bs' := bs ++ Lib.strCells s) (by rw [List.length_append, Lib.strCells_length]; exact hown') hT.2
  · exact (hb1.grown hgrow (by have := hb1.size; omega) (fun k hk => (World.ownsRow.lt hown k hk).1)).setCell (p := ⟨b, 1, none⟩) hB _

set_option maxHeartbeats 2000000 in
set_option maxRecDepth 100000 in
theorem string_some {T : TypeId} (B b : Nat) (l : List UInt8) (w : World) (h : Lib.IsBuilder T 5 B b (Lib.byteCells l) w) (h0 : l ≠ []) :
    Calls Tryz.prog 26 #[.pointer (some ⟨b, 0, none⟩)] w fun e w' => e = .returned (.string ⟨l.toArray⟩) ∧ Below B w w' := by
  obtain ⟨p, hB, v, hbk, hown, hne⟩ : ∃ p, Lib.BuilderAt T 5 B b p (Lib.byteCells l) w := by
    rcases h with h | h
    · exact ⟨_, h⟩
    · exact ⟨_, h⟩
  have hl0 : l.length ≠ 0 := by simpa using h0
  rw [Lib.byteCells_length] at hown
  obtain ⟨g, cap, cur, rfl, hbg, hg, hnc, hcm, hcs, htake⟩ : ∃ g cap cur, v = .slice (some ⟨g, 0, none⟩) l.length cap ∧ B ≤ g ∧ w.heap[g]? = some (.cells cur 5 (0, 0)) ∧ l.length ≤ cap ∧ cap ≤ maxLen ∧ cur.size = cap * 1 ∧ cur.toList.take (l.length * 1) = Lib.byteCells l := by
    rcases hown.2 with ⟨_, hz⟩ | ⟨g, cap, cur, hv, r⟩
    · exact absurd hz hl0
    · exact ⟨g, cap, cur, hv, r⟩
  have c1 : w.drew.cell? ⟨b, 1, none⟩ = some (.slice (some ⟨g, 0, none⟩) l.length cap) := by
    have : w.drew.heap[b]? = some (.cells #[p, .slice (some ⟨g, 0, none⟩) l.length cap] T (0, 0)) := hbk
    rw [Lib.cell_of_heap this]; rfl
  have hSD : (Builtin.unsafeSliceData_ #[33] 87 #[.slice (some ⟨g, 0, none⟩) l.length cap]).run Tryz.prog w.drew = .ok (.pointer (some ⟨g, 0, none⟩)) w.drew :=
    Lib.run_unsafeSliceData_row _ _ _ _ _ _ (by omega)
  have hUS : (Builtin.unsafeString_ #[87, 3] 9 #[.pointer (some ⟨g, 0, none⟩), .int .i64 l.length]).run Tryz.prog w.drew = .ok (.string ⟨l.toArray⟩) (w.drew.freeze ⟨g, 0, none⟩ l.length) := by
    refine Lib.run_unsafeString_row w.drew 87 3 9 5 Tryz.underlying87 cellsByte g cur.size (by have hg' : w.drew.heap[g]? = some (.cells cur 5 (0, 0)) := hg; simp [World.shape?, hg']) l h0 (by omega) (by unfold maxLen at hcm; omega) ?_
    intro j x hx
    have := hown.cells (g := g) rfl j (.int .u8 x.toNat) (by simp [Lib.byteCells, hx])
    exact this
  go_enter Tryz.func26, Tryz.ntmps26
  go_wp2
  go_region
  all_goals (go_wp2; go_ret; exact ⟨rfl, Lib.below_freeze (Below.drew (Below.refl B w)) (p := ⟨g, 0, none⟩) hbg _⟩)

set_option maxHeartbeats 2000000 in
set_option maxRecDepth 100000 in
theorem string_nil {T : TypeId} (B b : Nat) (p : Value) (w : World) (hbk : w.heap[b]? = some (.cells #[p, .slice none 0 0] T (0, 0))) :
    Calls Tryz.prog 26 #[.pointer (some ⟨b, 0, none⟩)] w fun e w' => e = .returned (.string ⟨#[]⟩) ∧ Below B w w' := by
  have hUS : ∀ (W : World) (q : Option Addr), (Builtin.unsafeString_ #[87, 3] 9 #[.pointer q, .int .i64 0]).run Tryz.prog W = .ok (.string .empty) W := fun W q => Lib.run_unsafeString_none W _ _ _ q
  have c1 : w.drew.cell? ⟨b, 1, none⟩ = some (.slice none 0 0) := by
    have : w.drew.heap[b]? = some (.cells #[p, .slice none 0 0] T (0, 0)) := hbk
    rw [Lib.cell_of_heap this]; rfl
  have hSD : (Builtin.unsafeSliceData_ #[33] 87 #[.slice none 0 0]).run Tryz.prog w.drew = .ok (.pointer none) w.drew := rfl
  go_enter Tryz.func26, Tryz.ntmps26
  go_wp2
  go_region
  all_goals (go_wp2; go_ret; exact ⟨rfl, Below.drew (Below.refl B w)⟩)

set_option maxHeartbeats 2000000 in
set_option maxRecDepth 100000 in
theorem string_noroom {T : TypeId} (B b g : Nat) (p : Value) (cur : Array Value) (w : World) (hBw : B ≤ w.heap.size) (hbk : w.heap[b]? = some (.cells #[p, .slice (some ⟨g, 0, none⟩) 0 0] T (0, 0))) (hg : w.heap[g]? = some (.cells cur 5 (0, 0))) :
    Calls Tryz.prog 26 #[.pointer (some ⟨b, 0, none⟩)] w fun e w' => e = .returned (.string ⟨#[]⟩) ∧ Below B w w' := by
  have hUS : ∀ (W : World) (q : Option Addr), (Builtin.unsafeString_ #[87, 3] 9 #[.pointer q, .int .i64 0]).run Tryz.prog W = .ok (.string .empty) W := fun W q => Lib.run_unsafeString_none W _ _ _ q
  have hlt : b < w.heap.size := by
    rcases Nat.lt_or_ge b w.heap.size with h' | h'
    · exact h'
    · simp [Array.getElem?_eq_none h'] at hbk
  have c1 : w.drew.cell? ⟨b, 1, none⟩ = some (.slice (some ⟨g, 0, none⟩) 0 0) := by
    have : w.drew.heap[b]? = some (.cells #[p, .slice (some ⟨g, 0, none⟩) 0 0] T (0, 0)) := hbk
    rw [Lib.cell_of_heap this]; rfl
  have hSD : (Builtin.unsafeSliceData_ #[33] 87 #[.slice (some ⟨g, 0, none⟩) 0 0]).run Tryz.prog w.drew = .ok (.pointer (some ⟨w.drew.heap.size, 0, none⟩)) (w.drew.alloc (.view ⟨g, 0, none⟩ 5)) :=
    Lib.run_unsafeSliceData_zero w.drew _ _ 5 Tryz.underlying87 ⟨g, 0, none⟩ 0 (5, cur.size) (by have hg' : w.drew.heap[g]? = some (.cells cur 5 (0, 0)) := hg; simp [World.shape?, hg'])
  have c2 : (w.drew.alloc (.view ⟨g, 0, none⟩ 5)).cell? ⟨b, 1, none⟩ = some (.slice (some ⟨g, 0, none⟩) 0 0) := by
    have : (w.drew.alloc (.view ⟨g, 0, none⟩ 5)).heap[b]? = _ := (Lib.alloc_old w.drew _ b hlt).trans hbk
    rw [Lib.cell_of_heap this]; rfl
  have c3 : (w.alloc (.view ⟨g, 0, none⟩ 5)).drew.cell? ⟨b, 1, none⟩ = some (.slice (some ⟨g, 0, none⟩) 0 0) := c2
  have c0 : w.cell? ⟨b, 1, none⟩ = some (.slice (some ⟨g, 0, none⟩) 0 0) := c1
  go_enter Tryz.func26, Tryz.ntmps26
  go_wp2
  go_region
  all_goals (go_wp2; go_ret; exact ⟨rfl, (Below.drew (Below.refl B w)).alloc hBw _⟩)

set_option maxHeartbeats 2000000 in
set_option maxRecDepth 100000 in
theorem string_room {T : TypeId} (B b g cap : Nat) (p : Value) (w : World) (hc0 : cap ≠ 0) (hbk : w.heap[b]? = some (.cells #[p, .slice (some ⟨g, 0, none⟩) 0 cap] T (0, 0))) :
    Calls Tryz.prog 26 #[.pointer (some ⟨b, 0, none⟩)] w fun e w' => e = .returned (.string ⟨#[]⟩) ∧ Below B w w' := by
  have hUS : ∀ (W : World) (q : Option Addr), (Builtin.unsafeString_ #[87, 3] 9 #[.pointer q, .int .i64 0]).run Tryz.prog W = .ok (.string .empty) W := fun W q => Lib.run_unsafeString_none W _ _ _ q
  have c1 : w.drew.cell? ⟨b, 1, none⟩ = some (.slice (some ⟨g, 0, none⟩) 0 cap) := by
    have : w.drew.heap[b]? = some (.cells #[p, .slice (some ⟨g, 0, none⟩) 0 cap] T (0, 0)) := hbk
    rw [Lib.cell_of_heap this]; rfl
  have hSD : (Builtin.unsafeSliceData_ #[33] 87 #[.slice (some ⟨g, 0, none⟩) 0 cap]).run Tryz.prog w.drew = .ok (.pointer (some ⟨g, 0, none⟩)) w.drew :=
    Lib.run_unsafeSliceData_row _ _ _ _ _ _ hc0
  clear hc0
  go_enter Tryz.func26, Tryz.ntmps26
  go_wp2
  go_region
  all_goals (go_wp2; go_ret; exact ⟨rfl, Below.drew (Below.refl B w)⟩)

/-- String, whatever the builder holds. -/
theorem string_any {T : TypeId} (B b : Nat) (l : List UInt8) (w : World) (h : Lib.IsBuilder T 5 B b (Lib.byteCells l) w) (hBw : B ≤ w.heap.size) :
    Calls Tryz.prog 26 #[.pointer (some ⟨b, 0, none⟩)] w fun e w' => e = .returned (.string ⟨l.toArray⟩) ∧ Below B w w' := by
  cases l with
  | cons x r => exact string_some B b (x :: r) w h (by simp)
  | nil =>
    obtain ⟨p, hB, v, hbk, hown, hne⟩ : ∃ p, Lib.BuilderAt T 5 B b p [] w := by
      rcases h with h | h
      · exact ⟨_, h⟩
      · exact ⟨_, h⟩
    rcases hown.2 with ⟨rfl, _⟩ | ⟨g, cap, cur, rfl, hbg, hg, _, _, _, _⟩
    · exact string_nil B b p w hbk
    · by_cases hc0 : cap = 0
      · subst hc0
        exact string_noroom B b g p cur w hBw hbk hg
      · exact string_room B b g cap p w hc0 hbk

/-! ### The same over lists of bytes -/
theorem byteCells_snoc (l : List UInt8) (c : Nat) (hc : c < 256) : Lib.byteCells l ++ [.int .u8 (c : Int)] = Lib.byteCells (l ++ [UInt8.ofNat c]) := by
  have : (UInt8.ofNat c).toNat = c := by rw [UInt8.toNat_ofNat']; exact Nat.mod_eq_of_lt hc
  simp [Lib.byteCells, this]
theorem byteCells_append (l m : List UInt8) : Lib.byteCells l ++ Lib.byteCells m = Lib.byteCells (l ++ m) := by simp [Lib.byteCells]

theorem writeByte_nat {T : TypeId} (hT : BlkOk T) (B b : Nat) (l : List UInt8) (c : Nat) (hc : c < 256) (w : World) (h : Lib.IsBuilder T 5 B b (Lib.byteCells l) w) (hlen : l.length + 1 ≤ 140737488355328) (hBw : B ≤ w.heap.size) :
    Calls Tryz.prog 130 #[.pointer (some ⟨b, 0, none⟩), .int .u8 (c : Int)] w fun e w' => e = .returned .nilIface ∧ Lib.IsBuilder T 5 B b (Lib.byteCells (l ++ [UInt8.ofNat c])) w' ∧ Below B w w' :=
  (writeByte_any hT B b (Lib.byteCells l) c w h (by rw [Lib.byteCells_length]; exact hlen) hBw).mono fun e w' ⟨he, h1, h2⟩ =>
    ⟨he, Or.inr (by rw [byteCells_snoc l c hc] at h1; exact h1), h2⟩

theorem writeString_list {T : TypeId} (hT : BlkOk T) (B b : Nat) (l : List UInt8) (s : ByteArray) (w : World) (h : Lib.IsBuilder T 5 B b (Lib.byteCells l) w) (hlen : l.length + s.size ≤ 140737488355328) (hBw : B ≤ w.heap.size) :
    Calls Tryz.prog 25 #[.pointer (some ⟨b, 0, none⟩), .string s] w fun e w' => e = .returned (.tuple #[.int .i64 s.size, .nilIface]) ∧ Lib.IsBuilder T 5 B b (Lib.byteCells (l ++ s.data.toList)) w' ∧ Below B w w' :=
  (writeString_any hT B b (Lib.byteCells l) s w h (by rw [Lib.byteCells_length]; exact hlen) hBw).mono fun e w' ⟨he, h1, h2⟩ =>
    ⟨he, Or.inr (by rw [Lib.strCells_eq, byteCells_append] at h1; exact h1), h2⟩

/-- A draw leaves a builder as it is. -/
theorem builder_drew {T e : TypeId} {B b : Nat} {bs : List Value} {w : World} (h : Lib.IsBuilder T e B b bs w) : Lib.IsBuilder T e B b bs w.drew := h
end Go.Proofs.YtbccikefccdekaaGreatDoor

/-
  THE PLAIN MATHEMATICS OF LAYER 1 (codec): numbers in groups of seven bits, the most significant one first: written ('enc'), and read by the program's rule ('toInt') and by the document's ('toIntR'): both read just what was written.
-/
namespace Go.Proofs.YtbccikefccdekaaGreatDoor
open Go.RowKit

/-- What an int is turned into. -/
def nat64 (n : Int) : Nat := if 0 ≤ n then (2 * n).toNat else (-2 * n - 1).toNat
def unz (v : Nat) : Int := if v % 2 = 1 then -((v / 2 : Nat) : Int) - 1 else ((v / 2 : Nat) : Int)

theorem nat64_lt {n : Int} (h0 : -9223372036854775808 ≤ n) (h1 : n ≤ 9223372036854775807) : nat64 n < 18446744073709551616 := by
  unfold nat64; split <;> omega
theorem unz_nat64 (n : Int) : unz (nat64 n) = n := by
  unfold unz nat64
  by_cases h : 0 ≤ n
  · rw [if_pos h, if_neg (by omega)]; omega
  · rw [if_neg h, if_pos (by omega)]; omega
theorem nat64_unz (v : Nat) : nat64 (unz v) = v := by
  unfold nat64 unz
  by_cases h : v % 2 = 1
  · rw [if_pos h, if_neg (by omega)]; omega
  · rw [if_neg h, if_pos (by omega)]; omega
theorem unz_lo {v : Nat} (h : v < 18446744073709551616) : -9223372036854775808 ≤ unz v ∧ unz v ≤ 9223372036854775807 := by
  unfold unz; split <;> omega

/-- The groups of a number but the last, each with 128 added. -/
def encC (v : Nat) : List UInt8 := if v = 0 then [] else encC (v / 128) ++ [UInt8.ofNat (128 + v % 128)]
termination_by v
decreasing_by omega
def enc (v : Nat) : List UInt8 := encC (v / 128) ++ [UInt8.ofNat (v % 128)]
def encs (l : List Int) : List UInt8 := l.flatMap fun n => enc (nat64 n)

theorem encC_zero : encC 0 = [] := by rw [encC]; rfl
theorem encC_pos {v : Nat} (h : v ≠ 0) : encC v = encC (v / 128) ++ [UInt8.ofNat (128 + v % 128)] := by rw [encC, if_neg h]
theorem encC_length (k : Nat) : ∀ v, v < 128 ^ k → (encC v).length ≤ k := by
  induction k with
  | zero => intro v h; rw [Nat.pow_zero] at h; rw [show v = 0 by omega, encC_zero]; exact Nat.le_refl _
  | succ k ih =>
    intro v h
    by_cases h0 : v = 0
    · rw [h0, encC_zero]; exact Nat.zero_le _
    · rw [encC_pos h0, List.length_append, List.length_singleton]
      have := ih (v / 128) (by rw [Nat.pow_succ] at h; omega)
      omega
theorem enc_length {v : Nat} (h : v < 18446744073709551616) : (enc v).length ≤ 10 := by
  have := encC_length 9 (v / 128) (by omega)
  rw [enc, List.length_append, List.length_singleton]; omega
theorem enc_pos (v : Nat) : 0 < (enc v).length := by rw [enc, List.length_append, List.length_singleton]; omega

theorem ofNat_toNat {n : Nat} (h : n < 256) : (UInt8.ofNat n).toNat = n := by
  rw [UInt8.toNat_ofNat']; exact Nat.mod_eq_of_lt h
theorem of_toNat (c : UInt8) : UInt8.ofNat c.toNat = c := UInt8.ofNat_toNat

/-- The program's reader. -/
def toIntI : Nat → List UInt8 → Option (Nat × List UInt8)
  | _, [] => none
  | u, c :: r => if 144115188075855871 < u then none else if c.toNat < 128 then some (u * 128 + c.toNat % 128, r) else toIntI (u * 128 + c.toNat % 128) r
def toInt (l : List UInt8) : Option (Nat × List UInt8) := if l.head? = some 128 then none else toIntI 0 l
/-- The document's. -/
def toIntR (p : List UInt8) (v : Nat) : List UInt8 → Option (Nat × List UInt8)
  | [] => none
  | c :: r => if p.length < 10 then
      (if c.toNat < 128 then (if enc ((128 * v + c.toNat % 128) % 18446744073709551616) = p ++ [c] then some ((128 * v + c.toNat % 128) % 18446744073709551616, r) else none)
       else toIntR (p ++ [c]) ((128 * v + c.toNat % 128) % 18446744073709551616) r)
    else none

theorem toIntI_sound : ∀ (l : List UInt8) (u v : Nat) (r : List UInt8), (u ≠ 0 ∨ l.head? ≠ some 128) → toIntI u l = some (v, r) → v < 18446744073709551616 ∧ encC u ++ l = enc v ++ r := by
  intro l
  induction l with
  | nil => intro u v r _ h; cases h
  | cons c l ih =>
    intro u v r hu h
    have hc := c.toNat_lt
    rw [toIntI] at h
    split at h
    · cases h
    · split at h
      · rename_i h1 h2
        cases h
        refine ⟨by omega, ?_⟩
        rw [enc, show (u * 128 + c.toNat % 128) / 128 = u by omega, show (u * 128 + c.toNat % 128) % 128 = c.toNat by omega, of_toNat, List.append_assoc]; rfl
      · rename_i h1 h2
        have hne : u * 128 + c.toNat % 128 ≠ 0 := by
          rcases hu with hu | hu
          · omega
          · have : c ≠ 128 := fun e => hu (by rw [e]; rfl)
            have : c.toNat ≠ 128 := fun e => this (by rw [← of_toNat c, e]; rfl)
            omega
        have := ih _ v r (.inl hne) h
        refine ⟨this.1, ?_⟩
        rw [← this.2, encC_pos hne, show (u * 128 + c.toNat % 128) / 128 = u by omega, show 128 + (u * 128 + c.toNat % 128) % 128 = c.toNat by omega, of_toNat, List.append_assoc]; rfl

theorem toIntI_through : ∀ (w : Nat) (t : List UInt8), w < 18446744073709551616 → toIntI 0 (encC w ++ t) = toIntI w t := by
  intro w
  induction w using Nat.strongRecOn with
  | ind w ih =>
    intro t hw
    by_cases h0 : w = 0
    · rw [h0, encC_zero]; rfl
    · rw [encC_pos h0, List.append_assoc, ih (w / 128) (by omega) _ (by omega), List.singleton_append, toIntI, if_neg (by omega), ofNat_toNat (by omega), if_neg (by omega)]
      congr 1; omega

theorem head_encC : ∀ (w : Nat), w ≠ 0 → ∀ t, (encC w ++ t).head? ≠ some 128 := by
  intro w
  induction w using Nat.strongRecOn with
  | ind w ih =>
    intro h0 t
    rw [encC_pos h0, List.append_assoc]
    by_cases h1 : w / 128 = 0
    · rw [h1, encC_zero, List.nil_append, List.singleton_append, List.head?_cons]
      intro h
      have := congrArg UInt8.toNat (Option.some.inj h)
      rw [ofNat_toNat (by omega)] at this
      have h128 : (128 : UInt8).toNat = 128 := rfl
      omega
    · exact ih (w / 128) (by omega) h1 _

theorem head_enc (v : Nat) (r : List UInt8) : (enc v ++ r).head? ≠ some 128 := by
  rw [enc, List.append_assoc]
  by_cases h : v / 128 = 0
  · rw [h, encC_zero, List.nil_append, List.singleton_append, List.head?_cons]
    intro h
    have := congrArg UInt8.toNat (Option.some.inj h)
    rw [ofNat_toNat (by omega)] at this
    have h128 : (128 : UInt8).toNat = 128 := rfl
    omega
  · exact head_encC _ h _

theorem toInt_enc {v : Nat} (h : v < 18446744073709551616) (r : List UInt8) : toInt (enc v ++ r) = some (v, r) := by
  rw [toInt, if_neg (head_enc v r), enc, List.append_assoc, toIntI_through _ _ (by omega), List.singleton_append, toIntI, if_neg (by omega), ofNat_toNat (by omega), if_pos (by omega)]
  congr 2; omega
theorem toInt_sound {l : List UInt8} {v : Nat} {r : List UInt8} (h : toInt l = some (v, r)) : v < 18446744073709551616 ∧ l = enc v ++ r := by
  unfold toInt at h
  split at h
  · cases h
  · rename_i hh
    have := toIntI_sound l 0 v r (.inr hh) h
    rw [encC_zero] at this
    exact this

theorem toIntR_sound : ∀ (l p : List UInt8) (u v : Nat) (r : List UInt8), toIntR p u l = some (v, r) → v < 18446744073709551616 ∧ p ++ l = enc v ++ r := by
  intro l
  induction l with
  | nil => intro p u v r h; cases h
  | cons c l ih =>
    intro p u v r h
    rw [toIntR] at h
    split at h
    · split at h
      · split at h
        · rename_i h1 h2 h3
          cases h
          exact ⟨by omega, by rw [h3, List.append_assoc]; rfl⟩
        · cases h
      · have := ih _ _ v r h
        exact ⟨this.1, by rw [← this.2, List.append_assoc]; rfl⟩
    · cases h

theorem toIntR_through : ∀ (w : Nat) (t : List UInt8), w < 144115188075855872 → toIntR [] 0 (encC w ++ t) = toIntR (encC w) w t := by
  intro w
  induction w using Nat.strongRecOn with
  | ind w ih =>
    intro t hw
    by_cases h0 : w = 0
    · rw [h0, encC_zero]; rfl
    · have hl := encC_length 9 (w / 128) (by omega)
      rw [encC_pos h0, List.append_assoc, ih (w / 128) (by omega) _ (by omega), List.singleton_append, toIntR, if_pos (by omega), ofNat_toNat (by omega), if_neg (by omega)]
      congr 1; omega

theorem toIntR_enc {v : Nat} (h : v < 18446744073709551616) (r : List UInt8) : toIntR [] 0 (enc v ++ r) = some (v, r) := by
  have hl := encC_length 9 (v / 128) (by omega)
  rw [enc, List.append_assoc, toIntR_through _ _ (by omega), List.singleton_append, toIntR, if_pos (by omega), ofNat_toNat (by omega), if_pos (by omega),
    show (128 * (v / 128) + v % 128 % 128) % 18446744073709551616 = v by omega, if_pos (by rw [enc])]

/-- Both readers are one. -/
theorem toIntR_eq (l : List UInt8) : toIntR [] 0 l = toInt l := by
  cases h : toInt l with
  | some x =>
    obtain ⟨v, r⟩ := x
    obtain ⟨hv, rfl⟩ := toInt_sound h
    exact toIntR_enc hv r
  | none =>
    cases k : toIntR [] 0 l with
    | none => rfl
    | some x =>
      obtain ⟨v, r⟩ := x
      obtain ⟨hv, hl⟩ := toIntR_sound l [] 0 v r k
      rw [List.nil_append] at hl
      rw [hl, toInt_enc hv] at h
      cases h

/-! ### bits -/
theorem xor_ones {x : Nat} (n : Nat) (h : x < 2 ^ n) : x ^^^ (2 ^ n - 1) = 2 ^ n - 1 - x := by
  apply Nat.eq_of_testBit_eq
  intro i
  rw [show 2 ^ n - 1 - x = 2 ^ n - (x + 1) by omega, Nat.testBit_two_pow_sub_succ h, Nat.testBit_xor, Nat.testBit_two_pow_sub_one]
  by_cases hi : i < n
  · simp [hi]
  · have h2 : x < 2 ^ i := Nat.lt_of_lt_of_le h (Nat.pow_le_pow_right (by omega) (by omega))
    simp [hi, Nat.testBit_lt_two_pow h2]

theorem zig_bits {n : Int} (h0 : -9223372036854775808 ≤ n) (h1 : n ≤ 9223372036854775807) :
    bits .xor .u64 (IntKind.u64.wrap (IntKind.u64.wrap n * 2)) (IntKind.u64.wrap (n / 9223372036854775808)) = (nat64 n : Int) := by
  have e : ∀ m : Int, IntKind.u64.wrap m = m % 18446744073709551616 := fun m => by simp [IntKind.wrap, IntKind.bits, IntKind.signed]
  simp only [e]
  by_cases h : 0 ≤ n
  · obtain ⟨m, rfl⟩ := Int.eq_ofNat_of_zero_le h
    rw [show (m : Int) / 9223372036854775808 = 0 by omega, show (m : Int) % 18446744073709551616 * 2 % 18446744073709551616 = ((2 * m : Nat) : Int) by omega]
    have := u64_xor_nat (2 * m) 0 (by omega) (by omega)
    rw [Nat.xor_zero] at this
    rw [show (0 : Int) % 18446744073709551616 = ((0 : Nat) : Int) from rfl, this]
    unfold nat64; rw [if_pos h]; omega
  · rw [show n / 9223372036854775808 = -1 by omega, show n % 18446744073709551616 * 2 % 18446744073709551616 = (((2 * n + 18446744073709551616).toNat : Nat) : Int) by omega,
      show (-1 : Int) % 18446744073709551616 = ((18446744073709551615 : Nat) : Int) from rfl, u64_xor_nat _ _ (by omega) (by omega)]
    have hx := xor_ones (x := (2 * n + 18446744073709551616).toNat) 64 (by omega)
    rw [show 2 ^ 64 - 1 = 18446744073709551615 from rfl] at hx
    rw [hx]
    unfold nat64; rw [if_neg h]; omega

theorem unz_bits {v : Nat} (h : v < 18446744073709551616) :
    bits .xor .i64 ((v : Int) / 2) (wrap64 (-wrap64 (bits .and .u64 (v : Int) 1))) = unz v := by
  have ha : bits .and .u64 (v : Int) 1 = ((v % 2 : Nat) : Int) := by
    have := u64_and_nat v 1 h (by omega)
    rw [nat_mask1] at this
    exact this
  rw [ha]
  have hv : ((v : Int) / 2) = ((v / 2 : Nat) : Int) := by omega
  rw [hv]
  unfold unz
  rcases Nat.mod_two_eq_zero_or_one v with h2 | h2
  · rw [h2, if_neg (by omega)]
    have : wrap64 (-wrap64 ((0 : Nat) : Int)) = 0 := by simp [wrap64]
    rw [this]
    show IntKind.i64.wrap ((BitVec.ofInt 64 ((v / 2 : Nat) : Int) ^^^ BitVec.ofInt 64 0).toNat : Int) = _
    rw [show BitVec.ofInt 64 0 = 0#64 from rfl, BitVec.xor_zero, ofInt_u64 _ (by omega)]
    simp [IntKind.wrap, IntKind.bits, IntKind.signed]
    omega
  · rw [h2, if_pos rfl]
    have : wrap64 (-wrap64 ((1 : Nat) : Int)) = -1 := by simp [wrap64]
    rw [this]
    show IntKind.i64.wrap ((BitVec.ofInt 64 ((v / 2 : Nat) : Int) ^^^ BitVec.ofInt 64 (-1)).toNat : Int) = _
    have h1 : BitVec.ofInt 64 (-1) = BitVec.allOnes 64 := by decide
    rw [h1, BitVec.xor_allOnes, BitVec.toNat_not, ofInt_u64 _ (by omega)]
    simp [IntKind.wrap, IntKind.bits, IntKind.signed]
    omega

/-! ### How many groups -/
theorem bitLenAux_bounds : ∀ (f x : Nat), x ≠ 0 → x < 2 ^ f → 2 ^ (Lib.bitLenAux f x - 1) ≤ x ∧ x < 2 ^ Lib.bitLenAux f x ∧ 1 ≤ Lib.bitLenAux f x := by
  intro f
  induction f with
  | zero => intro x h0 h; simp at h; omega
  | succ f ih =>
    intro x h0 h
    rw [Lib.bitLenAux, if_neg h0]
    by_cases h1 : x / 2 = 0
    · have hz : Lib.bitLenAux f (x / 2) = 0 := by
        rw [h1]; cases f <;> simp [Lib.bitLenAux]
      rw [hz]; simp; omega
    · obtain ⟨i1, i2, i3⟩ := ih (x / 2) h1 (by rw [Nat.pow_succ] at h; omega)
      generalize Lib.bitLenAux f (x / 2) = n at *
      obtain ⟨m, rfl⟩ : ∃ m, n = m + 1 := ⟨n - 1, by omega⟩
      rw [show 1 + (m + 1) - 1 = m + 1 by omega, show 1 + (m + 1) = (m + 1) + 1 by omega, Nat.pow_succ 2 (m + 1), Nat.pow_succ 2 m] at *
      rw [show m + 1 - 1 = m by omega] at i1
      omega

/-- How many groups stand ahead of the last one. -/
def lastG (u : Nat) : Nat := (Lib.bitLen (u ||| 1) - 1) / 7

theorem or_one (u : Nat) : u ||| 1 = u ∧ u % 2 = 1 ∨ u ||| 1 = u + 1 ∧ u % 2 = 0 := by
  have h2 := Nat.or_div_two_pow (a := u) (b := 1) (n := 1)
  have h1 := Nat.or_mod_two_pow (a := u) (b := 1) (n := 1)
  rw [show 2 ^ 1 = 2 from rfl] at h1 h2
  rw [show 1 / 2 = 0 from rfl, Nat.or_zero] at h2
  rcases Nat.mod_two_eq_zero_or_one u with h | h
  · have h1' : (u ||| 1) % 2 = 1 := h1.trans (by rw [h]; rfl)
    omega
  · have h1' : (u ||| 1) % 2 = 1 := h1.trans (by rw [h]; rfl)
    omega

theorem lastG_spec {u : Nat} (h : u < 18446744073709551616) : lastG u ≤ 9 ∧ u / 128 ^ (lastG u + 1) = 0 ∧ ∀ j, 1 ≤ j → j ≤ lastG u → u / 128 ^ j ≠ 0 := by
  have ho := or_one u
  have hm : u ||| 1 ≠ 0 ∧ u ||| 1 < 18446744073709551616 := by omega
  obtain ⟨b1, b2, b3⟩ := bitLenAux_bounds 64 (u ||| 1) hm.1 (by rw [show 2 ^ 64 = 18446744073709551616 from rfl]; exact hm.2)
  have hL : lastG u = (Lib.bitLenAux 64 (u ||| 1) - 1) / 7 := rfl
  rw [hL]
  have hle : Lib.bitLenAux 64 (u ||| 1) ≤ 64 := by
    rcases Nat.lt_or_ge 64 (Lib.bitLenAux 64 (u ||| 1)) with h' | h'
    · exfalso
      have := Nat.pow_le_pow_right (show 0 < 2 by omega) (show 64 ≤ Lib.bitLenAux 64 (u ||| 1) - 1 by omega)
      rw [show 2 ^ 64 = 18446744073709551616 from rfl] at this
      omega
    · exact h'
  generalize Lib.bitLenAux 64 (u ||| 1) = n at *
  refine ⟨by omega, ?_, ?_⟩
  · rw [show 128 = 2 ^ 7 from rfl, ← Nat.pow_mul]
    apply Nat.div_eq_of_lt
    refine Nat.lt_of_lt_of_le ?_ (Nat.pow_le_pow_right (by omega) (show n ≤ 7 * ((n - 1) / 7 + 1) by omega))
    omega
  · intro j hj1 hj2 hz
    have h3 : u < 128 ^ j := by
      rcases Nat.lt_or_ge u (128 ^ j) with h' | h'
      · exact h'
      · have := Nat.div_pos h' (Nat.pow_pos (by omega)); omega
    have h4 : 128 ^ j ≤ 2 ^ (n - 1) := by
      rw [show 128 = 2 ^ 7 from rfl, ← Nat.pow_mul]
      exact Nat.pow_le_pow_right (by omega) (by omega)
    have h5 : 128 ^ j % 2 = 0 := by
      obtain ⟨i, rfl⟩ : ∃ i, j = i + 1 := ⟨j - 1, by omega⟩
      rw [Nat.pow_succ]; omega
    omega

/-- One group ahead of the last one. -/
theorem encC_step {u j : Nat} (h : u / 128 ^ j ≠ 0) : encC (u / 128 ^ j) = encC (u / 128 ^ (j + 1)) ++ [UInt8.ofNat (128 + u / 128 ^ j % 128)] := by
  rw [encC_pos h, Nat.div_div_eq_div_mul, ← Nat.pow_succ]

end Go.Proofs.YtbccikefccdekaaGreatDoor

/-
  THE PLAIN MATHEMATICS OF LAYER 1 (codec): the checksum's register, bit by bit and four bits at a time; that it is linear, and that a register that is not 0 stays so.
-/
namespace Go.Proofs.YtbccikefccdekaaGreatDoor

/-- One bit of the register. -/
def bitStep (r : Nat) : Nat := if r % 2 = 1 then (r / 2) ^^^ 2197175160 else r / 2
def fourSteps (r : Nat) : Nat := bitStep (bitStep (bitStep (bitStep r)))
def byteStep (r c : Nat) : Nat := fourSteps (fourSteps (r ^^^ c))
def crcReg (r : Nat) (l : List UInt8) : Nat := l.foldl (fun r c => byteStep r c.toNat) r
def crc (l : List UInt8) : Nat := crcReg 4294967295 l ^^^ 4294967295

/-- What four steps do with the lowest four bits. -/
def tab (i : Nat) : Nat := [0, 274646895, 549293790, 820201905, 1098587580, 1361435347, 1640403810, 1905808397, 2197175160, 2460548119, 2722870694, 2987750089, 3280807620, 3553878443, 3811616794, 4084100981].getD i 0

theorem xor_half (a b : Nat) : (a ^^^ b) / 2 = a / 2 ^^^ b / 2 := by
  apply Nat.eq_of_testBit_eq; intro i; simp [Nat.testBit_div_two]
theorem xor_odd (a b : Nat) : (a ^^^ b) % 2 = (a % 2 + b % 2) % 2 := by
  have h := Nat.xor_mod_two_pow (a := a) (b := b) (n := 1)
  rw [show 2 ^ 1 = 2 from rfl] at h
  rw [h]
  rcases Nat.mod_two_eq_zero_or_one a with h | h <;> rcases Nat.mod_two_eq_zero_or_one b with k | k <;> simp [h, k]

theorem bitStep_xor (a b : Nat) : bitStep (a ^^^ b) = bitStep a ^^^ bitStep b := by
  unfold bitStep
  rw [xor_half, xor_odd]
  rcases Nat.mod_two_eq_zero_or_one a with h | h <;> rcases Nat.mod_two_eq_zero_or_one b with k | k <;> simp [h, k]
  · rw [Nat.xor_assoc]
  · rw [Nat.xor_assoc, Nat.xor_comm (b / 2), Nat.xor_assoc]
  · rw [Nat.xor_assoc, ← Nat.xor_assoc 2197175160, Nat.xor_comm 2197175160, Nat.xor_assoc (b / 2), Nat.xor_self, Nat.xor_zero]
theorem fourSteps_xor (a b : Nat) : fourSteps (a ^^^ b) = fourSteps a ^^^ fourSteps b := by simp only [fourSteps, bitStep_xor]

theorem bitStep_lt {r : Nat} (h : r < 4294967296) : bitStep r < 4294967296 := by
  unfold bitStep
  split
  · exact Nat.xor_lt_two_pow (n := 32) (by omega) (by omega)
  · omega
theorem fourSteps_lt {r : Nat} (h : r < 4294967296) : fourSteps r < 4294967296 := bitStep_lt (bitStep_lt (bitStep_lt (bitStep_lt h)))
theorem byteStep_lt {r c : Nat} (h : r < 4294967296) (hc : c < 256) : byteStep r c < 4294967296 :=
  fourSteps_lt (fourSteps_lt (Nat.xor_lt_two_pow (n := 32) h (by omega)))

theorem bitStep_double (q : Nat) : bitStep (2 * q) = q := by unfold bitStep; rw [if_neg (by omega)]; omega

theorem fourSteps_sixteen (q : Nat) : fourSteps (16 * q) = q := by
  unfold fourSteps
  rw [show 16 * q = 2 * (2 * (2 * (2 * q))) from by omega]
  simp only [bitStep_double]

theorem split16 (r : Nat) : r = 16 * (r / 16) ^^^ r % 16 := by
  apply Nat.eq_of_testBit_eq
  intro i
  rw [Nat.testBit_xor, show 16 = 2 ^ 4 from rfl, Nat.testBit_two_pow_mul, Nat.testBit_mod_two_pow, Nat.testBit_div_two_pow]
  by_cases h : i < 4
  · simp [h, show ¬ 4 ≤ i from by omega]
  · simp [h, show 4 ≤ i from by omega]

theorem fourSteps_tab (r : Nat) : fourSteps r = r / 16 ^^^ tab (r % 16) := by
  have h : fourSteps r = fourSteps (16 * (r / 16) ^^^ r % 16) := by rw [← split16]
  rw [h, fourSteps_xor, fourSteps_sixteen]
  congr 1
  have : r % 16 < 16 := Nat.mod_lt _ (by omega)
  generalize r % 16 = t at this
  match t, this with
  | 0, _ | 1, _ | 2, _ | 3, _ | 4, _ | 5, _ | 6, _ | 7, _ | 8, _ | 9, _ | 10, _ | 11, _ | 12, _ | 13, _ | 14, _ | 15, _ => decide
  | n + 16, h => omega

theorem tab_lt (i : Nat) : tab i < 4294967296 := by
  match i with
  | 0 | 1 | 2 | 3 | 4 | 5 | 6 | 7 | 8 | 9 | 10 | 11 | 12 | 13 | 14 | 15 => decide
  | n + 16 => simp [tab]


/-- Four bytes of a number, and a number of four bytes. -/
def word (n : Nat) : List UInt8 := [UInt8.ofNat (n / 16777216), UInt8.ofNat (n / 65536 % 256), UInt8.ofNat (n / 256 % 256), UInt8.ofNat (n % 256)]
def toWordL : List UInt8 → Nat
  | a :: b :: c :: d :: _ => 16777216 * a.toNat + 65536 * b.toNat + 256 * c.toNat + d.toNat
  | _ => 0
theorem word_length (n : Nat) : (word n).length = 4 := rfl
theorem ofNat_toNat' {n : Nat} (h : n < 256) : (UInt8.ofNat n).toNat = n := by
  rw [UInt8.toNat_ofNat']; exact Nat.mod_eq_of_lt h
theorem toWord_word {n : Nat} (h : n < 4294967296) (l : List UInt8) : toWordL (word n ++ l) = n := by
  show 16777216 * (UInt8.ofNat (n / 16777216)).toNat + 65536 * (UInt8.ofNat (n / 65536 % 256)).toNat + 256 * (UInt8.ofNat (n / 256 % 256)).toNat + (UInt8.ofNat (n % 256)).toNat = n
  rw [ofNat_toNat' (by omega), ofNat_toNat' (by omega), ofNat_toNat' (by omega), ofNat_toNat' (by omega)]
  omega
theorem four_of {l : List UInt8} (h : 4 ≤ l.length) : ∃ a b c d r, l = a :: b :: c :: d :: r := by
  match l, h with
  | a :: b :: c :: d :: r, _ => exact ⟨a, b, c, d, r, rfl⟩
theorem word_toWord {l : List UInt8} (h : 4 ≤ l.length) : word (toWordL l) = l.take 4 := by
  obtain ⟨a, b, c, d, r, rfl⟩ := four_of h
  have ha := a.toNat_lt; have hb := b.toNat_lt; have hc := c.toNat_lt; have hd := d.toNat_lt
  show [UInt8.ofNat _, UInt8.ofNat _, UInt8.ofNat _, UInt8.ofNat _] = [a, b, c, d]
  simp only [toWordL]
  rw [show (16777216 * a.toNat + 65536 * b.toNat + 256 * c.toNat + d.toNat) / 16777216 = a.toNat by omega,
    show (16777216 * a.toNat + 65536 * b.toNat + 256 * c.toNat + d.toNat) / 65536 % 256 = b.toNat by omega,
    show (16777216 * a.toNat + 65536 * b.toNat + 256 * c.toNat + d.toNat) / 256 % 256 = c.toNat by omega,
    show (16777216 * a.toNat + 65536 * b.toNat + 256 * c.toNat + d.toNat) % 256 = d.toNat by omega]
  simp only [UInt8.ofNat_toNat]
theorem toWordL_lt (l : List UInt8) : toWordL l < 4294967296 := by
  unfold toWordL
  split
  · rename_i a b c d _
    have ha := a.toNat_lt; have hb := b.toNat_lt; have hc := c.toNat_lt; have hd := d.toNat_lt
    omega
  · omega

theorem crcReg_lt (l : List UInt8) : ∀ r, r < 4294967296 → crcReg r l < 4294967296 := by
  induction l with
  | nil => intro r h; exact h
  | cons c l ih => intro r h; exact ih _ (byteStep_lt h c.toNat_lt)
theorem crc_lt (l : List UInt8) : crc l < 4294967296 := Nat.xor_lt_two_pow (n := 32) (crcReg_lt l _ (by omega)) (by omega)

/-- A frame, and what is read of bytes as one: the payload, the frame's length, the error. -/
def frameL (l : List UInt8) : List UInt8 := word l.length ++ word (crc (word l.length ++ l)) ++ l
theorem frameL_length (l : List UInt8) : (frameL l).length = 8 + l.length := by simp [frameL, word_length]; omega
def unframe (l : List UInt8) : List UInt8 × Nat × Nat :=
  if l.length < 4 then ([], 0, 8)
  else if 65536 < toWordL l then ([], 0, 10)
  else if l.length < 8 + toWordL l then ([], 0, 8)
  else if crc (l.take 4 ++ (l.drop 8).take (toWordL l)) ≠ toWordL (l.drop 4) then ([], 0, 9)
  else ((l.drop 8).take (toWordL l), 8 + toWordL l, 0)
end Go.Proofs.YtbccikefccdekaaGreatDoor

/-
  LAYER 1: the checksum: the program's Crc (by a table for four bits) and the document's (bit by bit): both return 'crc'. Condition: the table's cells hold its sixteen numbers ('Steps').
-/
namespace Go.Proofs.YtbccikefccdekaaGreatDoor
open Go.RowKit
set_option linter.unusedVariables false
set_option maxRecDepth 100000


/-- The table's cells hold its numbers. -/
def Steps (w : World) : Prop := ∀ i, i < 16 → w.cell? ⟨0, i, none⟩ = some (.int .u32 (tab i))

theorem Steps.below {B : Nat} {w w' : World} (h : Steps w) (hb : Below B w w') (hB : 0 < B) : Steps w' :=
  fun i hi => (hb.cell (p := ⟨0, i, none⟩) hB).trans (h i hi)
theorem Steps.drew {w : World} (h : Steps w) : Steps w.drew := h

theorem and15 (a : Nat) (h : a < 4294967296) : bits .and .u32 (a : Int) 15 = ((a % 16 : Nat) : Int) := by
  have := u32_and_nat a 15 h (by omega)
  rw [nat_mask4] at this
  exact this

theorem crcReg_snoc (r : Nat) (l : List UInt8) (c : UInt8) : crcReg r (l ++ [c]) = byteStep (crcReg r l) c.toNat := by simp [crcReg]

theorem take_snoc' (s : ByteArray) (k : Nat) (h : k < s.size) : s.data.toList.take (k + 1) = s.data.toList.take k ++ [s[k]] := by
  rw [List.take_succ_eq_append_getElem (by simpa using h)]; rfl

theorem crcReg_step (s : ByteArray) (k : Nat) (h : k < s.size) : crcReg 4294967295 (s.data.toList.take (k + 1)) = byteStep (crcReg 4294967295 (s.data.toList.take k)) s[k].toNat := by
  rw [take_snoc' s k h, crcReg_snoc]

set_option maxHeartbeats 400000 in
theorem crc_any (s : ByteArray) (w : World) (hs : s.size ≤ maxLen) (hT : Steps w) :
    Calls Tryz.prog 82 #[.string s] w fun e w' => e = .returned (.int .u32 (crc s.data.toList)) ∧ w = w' := by
  unfold maxLen at hs
  go_enter Tryz.func82, Tryz.ntmps82
  go_wp2
  go_loop [3, 7] (fun r i => ∃ k : Nat, k ≤ s.size ∧ i = .int .i64 k ∧ r = .int .u32 (crcReg 4294967295 (s.data.toList.take k) : Nat)) (fun _ i => s.size - (intOf i).toNat)
  case atStart => exact ⟨0, Nat.zero_le _, rfl, rfl⟩
  case round =>
    obtain ⟨k, hk, rfl, rfl⟩ := hrel
    have hx := crcReg_lt (s.data.toList.take k) 4294967295 (by omega)
    by_cases hlt : k < s.size
    · have hst := hid (crcReg_step s k hlt)
      generalize crcReg 4294967295 (s.data.toList.take k) = x at hx hst
      have hc : s[k].toNat < 256 := s[k].toNat_lt
      have hx1 : x ^^^ s[k].toNat < 4294967296 := Nat.xor_lt_two_pow (n := 32) hx (by omega)
      have e1 : bits .xor .u32 (x : Int) (s[k].toNat : Int) = ((x ^^^ s[k].toNat : Nat) : Int) := u32_xor_nat _ _ hx (by omega)
      have hb : byteStep x s[k].toNat = fourSteps (fourSteps (x ^^^ s[k].toNat)) := rfl
      generalize hr : x ^^^ s[k].toNat = r at *
      have e2 := and15 r hx1
      have c2 := hT (r % 16) (by omega)
      have e3 : bits .xor .u32 ((r : Int) / 16) (tab (r % 16) : Int) = ((fourSteps r : Nat) : Int) := by
        rw [fourSteps_tab]; exact u32_xor_nat (r / 16) _ (by omega) (tab_lt _)
      have hx2 := fourSteps_lt hx1
      generalize hr2 : fourSteps r = r2 at *
      have e4 := and15 r2 hx2
      have c4 := hT (r2 % 16) (by omega)
      have e5 : bits .xor .u32 ((r2 : Int) / 16) (tab (r2 % 16) : Int) = ((fourSteps r2 : Nat) : Int) := by
        rw [fourSteps_tab]; exact u32_xor_nat (r2 / 16) _ (by omega) (tab_lt _)
      have HB := hid hb
      have H2 := hid hr2
      clear hr hb hr2
      go_wp2
      go_round
      case rel => exact ⟨k + 1, by omega, by go_num, by rw [hst.out, HB.out]⟩
      case measure => simp [intOf]; omega
    · have e : k = s.size := by omega
      have hcr : crc s.data.toList = crcReg 4294967295 (s.data.toList.take k) ^^^ 4294967295 := by
        rw [List.take_of_length_le (by simp; omega)]; rfl
      have HC := hid hcr
      clear hcr e
      generalize crcReg 4294967295 (s.data.toList.take k) = x at hx HC
      have e1 : bits .xor .u32 IntKind.u32.max (x : Int) = ((x ^^^ 4294967295 : Nat) : Int) := by
        have h := u32_xor_nat 4294967295 x (by omega) hx
        rw [Nat.xor_comm] at h
        exact h
      go_wp2
      all_goals go_ret
      all_goals exact ⟨by rw [HC.out]; rfl, rfl⟩

/-! ### The document's -/
theorem byteStep_eight (r c : Nat) : byteStep r c = bitStep (bitStep (bitStep (bitStep (bitStep (bitStep (bitStep (bitStep (r ^^^ c)))))))) := rfl

/-- k steps of the register. -/
def bitSteps (r : Nat) : Nat → Nat
  | 0 => r
  | k + 1 => bitStep (bitSteps r k)
theorem bitSteps_lt {r : Nat} (h : r < 4294967296) : ∀ k, bitSteps r k < 4294967296
  | 0 => h
  | k + 1 => bitStep_lt (bitSteps_lt h k)

set_option maxHeartbeats 800000 in
theorem refCrc_any (s : ByteArray) (w : World) (hs : s.size ≤ maxLen) :
    Calls Tryz.prog 80 #[.string s] w fun e w' => e = .returned (.int .u32 (crc s.data.toList)) ∧ w = w' := by
  unfold maxLen at hs
  go_enter Tryz.func80, Tryz.ntmps80
  go_wp2
  go_loop [3, 4, 5] (fun r i _ => ∃ k : Nat, k ≤ s.size ∧ i = .int .i64 k ∧ r = .int .u32 (crcReg 4294967295 (s.data.toList.take k) : Nat)) (fun _ i _ => s.size - (intOf i).toNat)
  case atStart => exact ⟨0, Nat.zero_le _, rfl, rfl⟩
  case round =>
    obtain ⟨k, hk, rfl, rfl⟩ := hrel
    have hx := crcReg_lt (s.data.toList.take k) 4294967295 (by omega)
    by_cases hlt : k < s.size
    · have hst := hid (crcReg_step s k hlt)
      generalize crcReg 4294967295 (s.data.toList.take k) = x at hx hst
      have hc : s[k].toNat < 256 := s[k].toNat_lt
      have hx1 : x ^^^ s[k].toNat < 4294967296 := Nat.xor_lt_two_pow (n := 32) hx (by omega)
      have e1 : bits .xor .u32 (x : Int) (s[k].toNat : Int) = ((x ^^^ s[k].toNat : Nat) : Int) := u32_xor_nat _ _ hx (by omega)
      have hb := hid (byteStep_eight x s[k].toNat)
      generalize x ^^^ s[k].toNat = r at *
      go_wp2
      go_loop [3, 5] (fun r' i => ∃ m : Nat, m ≤ 8 ∧ i = .int .i64 m ∧ r' = .int .u32 (bitSteps r m : Nat)) (fun _ i => 8 - (intOf i).toNat)
      case atStart => exact ⟨0, Nat.zero_le _, rfl, rfl⟩
      case round =>
        obtain ⟨m, hm, rfl, rfl⟩ := hrel
        have hy := bitSteps_lt hx1 m
        by_cases hm8 : m < 8
        · have hsm : Hid (bitSteps r (m + 1) = bitStep (bitSteps r m)) := hid rfl
          generalize bitSteps r m = y at hy hsm
          by_cases hodd : y % 2 = 1
          · have e2 : bits .xor .u32 ((y : Int) / 2) 2197175160 = ((bitStep y : Nat) : Int) := by
              unfold bitStep; rw [if_pos hodd]; exact u32_xor_nat (y / 2) 2197175160 (by omega) (by omega)
            go_wp2
            go_round
            case rel => exact ⟨m + 1, by omega, by go_num, by rw [hsm.out]⟩
            case measure => simp [intOf]; omega
          · have e2 : (y : Int) / 2 = ((bitStep y : Nat) : Int) := by
              unfold bitStep; rw [if_neg hodd]; rfl
            have H2 := hid e2
            clear e2
            go_wp2
            go_round
            case rel => exact ⟨m + 1, by omega, by go_num, by rw [hsm.out, ← H2.out]⟩
            case measure => simp [intOf]; omega
        · have e8 : m = 8 := by omega
          subst e8
          go_wp2
          go_round
          case rel => exact ⟨k + 1, by omega, by go_num, by rw [hst.out, hb.out]; rfl⟩
          case measure => simp [intOf]; omega
    · have e : k = s.size := by omega
      have hcr : crc s.data.toList = crcReg 4294967295 (s.data.toList.take k) ^^^ 4294967295 := by
        rw [List.take_of_length_le (by simp; omega)]; rfl
      have HC := hid hcr
      clear hcr e
      generalize crcReg 4294967295 (s.data.toList.take k) = x at hx HC
      have e1 : bits .xor .u32 (x : Int) 4294967295 = ((x ^^^ 4294967295 : Nat) : Int) := u32_xor_nat x 4294967295 hx (by omega)
      go_wp2
      all_goals go_ret
      all_goals exact ⟨by rw [HC.out]; rfl, rfl⟩
end Go.Proofs.YtbccikefccdekaaGreatDoor

/-
  math/bits.Len64 and strings.HasPrefix, off the shelf's contracts (the table of numbers in plain words).
-/
namespace Go.Proofs.YtbccikefccdekaaGreatDoor
open Go.Shelf
def lays129_ren : Go.Shelf.Ren := ⟨fun | 129 => 101 | n => n, fun | 53 => 109 | 3 => 3 | 4 => 4 | 46 => 103 | 5 => 5 | 9 => 9 | n => n, fun | n => n⟩
theorem lays129 : Go.Proofs.Lays.n129 Tryz.prog lays129_ren := {
  mixed := by kernel_rfl
  f129 := Tryz.func101.trans (congrArg some (by kernel_rfl))
  t3 := Tryz.underlying3
  a3 := Tryz.isAgg3
  z3 := Tryz.sizeOf3
  v3 := Tryz.zeroValue3
  t4 := Tryz.underlying4
  a4 := Tryz.isAgg4
  z4 := Tryz.sizeOf4
  v4 := Tryz.zeroValue4
  t5 := Tryz.underlying5
  a5 := Tryz.isAgg5
  z5 := Tryz.sizeOf5
  v5 := Tryz.zeroValue5
  t9 := Tryz.underlying9
  a9 := Tryz.isAgg9
  z9 := Tryz.sizeOf9
  v9 := Tryz.zeroValue9
  t46 := Tryz.underlying103
  a46 := Tryz.isAgg103
  z46 := Tryz.sizeOf103
  v46 := Tryz.zeroValue103
  t53 := Tryz.underlying109
  a53 := Tryz.isAgg109
  z53 := Tryz.sizeOf109
  v53 := Tryz.zeroValue109 }
theorem bits_Len64 (x : Int) (w : World) (h0 : 0 ≤ x) (h1 : x ≤ 18446744073709551615) :
    Calls Tryz.prog 101 #[.int .u64 x] w fun e w' => e = .returned (.int .i64 (Lib.bitLen x.toNat)) ∧ w' = w := Any.bits_Len64 lays129 x w h0 h1
def lays206_ren : Go.Shelf.Ren := ⟨fun | 206 => 131 | n => n, fun | 9 => 9 | 4 => 4 | 3 => 3 | n => n, fun | n => n⟩
def lays99_ren : Go.Shelf.Ren := ⟨fun | 99 => 109 | 206 => 131 | n => n, fun | 9 => 9 | 4 => 4 | 3 => 3 | n => n, fun | n => n⟩
theorem lays99 : Go.Proofs.Lays.n99 Tryz.prog lays99_ren := {
  mixed := by kernel_rfl
  f99 := Tryz.func109.trans (congrArg some (by kernel_rfl))
  f206 := Tryz.func131.trans (congrArg some (by kernel_rfl))
  t3 := Tryz.underlying3
  a3 := Tryz.isAgg3
  z3 := Tryz.sizeOf3
  v3 := Tryz.zeroValue3
  t4 := Tryz.underlying4
  a4 := Tryz.isAgg4
  z4 := Tryz.sizeOf4
  v4 := Tryz.zeroValue4
  t9 := Tryz.underlying9
  a9 := Tryz.isAgg9
  z9 := Tryz.sizeOf9
  v9 := Tryz.zeroValue9 }
open Go.RowKit Go.Lib in
theorem strings_HasPrefix (s p : ByteArray) (w : World) :
    Calls Tryz.prog 109 #[.string s, .string p] w fun e w' => e = .returned (.bool (Lib.hasPrefix s.data.toList p.data.toList)) ∧ w' = w := Any.strings_HasPrefix lays99 s p w
end Go.Proofs.YtbccikefccdekaaGreatDoor

/-
  LAYER 1: numbers: what the program's and the document's functions that write them return.
-/
namespace Go.Proofs.YtbccikefccdekaaGreatDoor
open Go.RowKit
set_option linter.unusedVariables false
set_option maxRecDepth 100000

theorem zigzag_any (n : Int) (w : World) (h0 : -9223372036854775808 ≤ n) (h1 : n ≤ 9223372036854775807) :
    Calls Tryz.prog 129 #[.int .i64 n] w fun e w' => e = .returned (.int .u64 (nat64 n)) ∧ w = w' := by
  have HZ := hid (zig_bits h0 h1)
  go_enter Tryz.func129, Tryz.ntmps129
  go_wp2
  all_goals go_ret
  all_goals exact ⟨by rw [← HZ.out]; rfl, rfl⟩

theorem unzigzag_any (v : Nat) (w : World) (h1 : v < 18446744073709551616) :
    Calls Tryz.prog 110 #[.int .u64 v] w fun e w' => e = .returned (.int .i64 (unz v)) ∧ w = w' := by
  have HZ := hid (unz_bits h1)
  go_enter Tryz.func110, Tryz.ntmps110
  go_wp2
  all_goals go_ret
  all_goals exact ⟨by rw [← HZ.out]; rfl, rfl⟩

theorem natural_any (n : Int) (w : World) (h0 : -9223372036854775808 ≤ n) (h1 : n ≤ 9223372036854775807) :
    Calls Tryz.prog 78 #[.int .i64 n] w fun e w' => e = .returned (.int .u64 (nat64 n)) ∧ w = w' := by
  by_cases hn : 0 ≤ n
  · have HZ : Hid ((nat64 n : Int) = 2 * n) := hid (by unfold nat64; rw [if_pos hn]; omega)
    go_enter Tryz.func78, Tryz.ntmps78
    go_wp2
    all_goals go_ret
    all_goals exact ⟨by rw [HZ.out]; rfl, rfl⟩
  · have HZ : Hid ((nat64 n : Int) = 2 * -(n + 1) + 1) := hid (by unfold nat64; rw [if_neg hn]; omega)
    go_enter Tryz.func78, Tryz.ntmps78
    go_wp2
    all_goals go_ret
    all_goals exact ⟨by rw [HZ.out]; rfl, rfl⟩

theorem len64_nat (x : Nat) (w : World) (h : x < 18446744073709551616) :
    Calls Tryz.prog 101 #[.int .u64 (x : Int)] w fun e w' => e = .returned (.int .i64 ((Lib.bitLen x : Nat) : Int)) ∧ w = w' :=
  (bits_Len64 (x : Int) w (by omega) (by omega)).mono fun e w' ⟨he, hw⟩ => ⟨he, hw.symm⟩

set_option maxHeartbeats 1000000 in
set_option maxRecDepth 100000 in
/-- (*output).number writes a number behind what the builder holds. -/
theorem number_any {T : TypeId} (hT : BlkOk T) (B b : Nat) (l : List UInt8) (n : Int) (w : World) (h0 : -9223372036854775808 ≤ n) (h1 : n ≤ 9223372036854775807) (h : Lib.IsBuilder T 5 B b (Lib.byteCells l) w) (hlen : l.length + 10 ≤ 140737488355328) (hBw : B ≤ w.heap.size) :
    Calls Tryz.prog 108 #[.pointer (some ⟨b, 0, none⟩), .int .i64 n] w fun e w' => e = .returned (.tuple #[]) ∧ Lib.IsBuilder T 5 B b (Lib.byteCells (l ++ enc (nat64 n))) w' ∧ Below B w w' := by
  have hu := nat64_lt h0 h1
  have HZ := zigzag_any n w h0 h1
  generalize nat64 n = v at *
  have ho : v ||| 1 < 18446744073709551616 := by have := or_one v; omega
  have e1 : bits .or .u64 (v : Int) 1 = ((v ||| 1 : Nat) : Int) := u64_or_nat v 1 hu (by omega)
  obtain ⟨g1, g2, g3⟩ := lastG_spec hu
  have hgl : ((Lib.bitLen (v ||| 1) : Nat) : Int) - 1 = ((Lib.bitLen (v ||| 1) - 1 : Nat) : Int) := by
    obtain ⟨_, _, b3⟩ := bitLenAux_bounds 64 (v ||| 1) (by have := or_one v; omega) (by rw [show 2 ^ 64 = 18446744073709551616 from rfl]; exact ho)
    have : Lib.bitLen (v ||| 1) = Lib.bitLenAux 64 (v ||| 1) := rfl
    omega
  have e2 : (((Lib.bitLen (v ||| 1) : Nat) : Int) - 1) / 7 = (lastG v : Int) := by rw [hgl]; unfold lastG; omega
  have L64 := fun w => len64_nat (v ||| 1) w ho
  have hb1 : Lib.bitLen (v ||| 1) ≤ 80 ∧ 1 ≤ Lib.bitLen (v ||| 1) := by
    unfold lastG at g1; omega
  generalize lastG v = G at *
  generalize Lib.bitLen (v ||| 1) = L at *
  have H2 := hid g2
  have H3 := hid g3
  have HL := hid L64
  have HB := hid h
  have HZ' := hid HZ
  have HE2 := hid e2
  have hLG : ((L : Int) - 1) / 7 ≤ 9 ∧ 0 ≤ ((L : Int) - 1) / 7 := by omega
  clear g2 g3 L64 h HZ hgl e2
  go_enter Tryz.func108, Tryz.ntmps108
  go_wp2_with (first
    | (go_at_call 129; refine HZ'.out.mono ?_; rintro e w' ⟨rfl, rfl⟩)
    | (go_at_call 101; refine (HL.out _).mono ?_; rintro e w' ⟨rfl, rfl⟩))
  go_loopw [6] (fun i wr => ∃ j : Nat, j ≤ G ∧ i = .int .i64 (7 * j) ∧ Hid (Lib.IsBuilder T 5 B b (Lib.byteCells (l ++ encC (v / 128 ^ (j + 1)))) wr) ∧ Below B w wr) (fun i _ => (intOf i).toNat)
  case atStart => exact ⟨G, Nat.le_refl _, by (have := HE2.out; congr 1; omega), hid (by rw [H2.out, encC_zero, List.append_nil]; exact HB.out), Below.refl _ _⟩
  case round =>
    obtain ⟨j, hj, rfl, hI, hbl⟩ := hrel
    by_cases hj0 : j = 0
    · subst hj0
      have e4 : bits .andNot .u8 ((v : Int) % 256) 128 = ((v % 128 : Nat) : Int) := by
        rw [show (v : Int) % 256 = ((v % 256 : Nat) : Int) by omega]
        have h := u8_andNot_nat (v % 256) 128 (by omega) (by omega)
        rw [show 255 - 128 = 127 from rfl, nat_mask7] at h
        rw [show ((128 : Nat) : Int) = 128 from rfl] at h
        rw [h]; omega
      have hl2 := encC_length 9 (v / 128) (by omega)
      go_wp2_with (go_at_call 130; refine (writeByte_nat hT B b (l ++ encC (v / 128)) (v % 128) (by omega) _ (by have := hI.out; simpa using this) (by rw [List.length_append]; omega) (by have := hbl.size; omega)).mono ?_; rintro e w1 ⟨rfl, h1, hb2⟩)
      go_end0
      exact ⟨rfl, by rw [enc, ← List.append_assoc]; exact h1, hbl.trans hb2⟩
    · have e3 : bits .or .u8 (IntKind.u8.wrap ((v : Int) / 2 ^ (7 * (j : Int)).toNat)) 128 = ((128 + v / 128 ^ j % 128 : Nat) : Int) := by
        rw [show (7 * (j : Int)).toNat = 7 * j by omega, IntKind.wrap_u8', show ((v : Int) / 2 ^ (7 * j)) % 256 = ((v / 2 ^ (7 * j) % 256 : Nat) : Int) by rw [Int.natCast_emod, Int.natCast_ediv, Int.natCast_pow]; rfl, Nat.pow_mul, show 2 ^ 7 = 128 from rfl]
        generalize v / 128 ^ j = y
        have h := u8_or_nat (y % 256) 128 (by omega) (by omega)
        rw [show ((128 : Nat) : Int) = 128 from rfl] at h
        rw [h]
        have h7 : y % 256 ||| 128 = 128 + y % 128 := by
          have h2 := Nat.or_div_two_pow (a := y % 256) (b := 128) (n := 7)
          have h1 := Nat.or_mod_two_pow (a := y % 256) (b := 128) (n := 7)
          rw [show 2 ^ 7 = 128 from rfl, show 128 % 128 = 0 from rfl, Nat.or_zero] at h1
          rw [show 2 ^ 7 = 128 from rfl, show 128 / 128 = 1 from rfl] at h2
          have : y % 256 / 128 = 0 ∨ y % 256 / 128 = 1 := by omega
          rcases this with h | h
          · rw [h, show 0 ||| 1 = 1 from rfl] at h2; omega
          · rw [h, show 1 ||| 1 = 1 from rfl] at h2; omega
        rw [h7]
      have HE := hid e3
      clear e3
      have hl2 := encC_length 9 (v / 128 ^ (j + 1)) (Nat.lt_of_le_of_lt (Nat.div_le_div_left (show 128 ^ 1 ≤ 128 ^ (j + 1) from Nat.pow_le_pow_right (by omega) (by omega)) (by omega)) (by omega))
      go_wp2_with fail
      go_region_with (go_at_call 130; rw [HE.out]; refine (writeByte_nat hT B b _ (128 + v / 128 ^ j % 128) (by omega) _ (builder_drew hI.out) (by rw [List.length_append]; omega) (by have := hbl.size; simp; omega)).mono ?_; rintro e w1 ⟨rfl, h1, hb2⟩)
      go_wp2
      go_roundw
      case rel =>
        refine ⟨j - 1, by omega, by congr 1; omega, hid ?_, hbl.trans (Below.trans (Below.drew (Below.refl _ _)) hb2)⟩
        rw [show j - 1 + 1 = j by omega, encC_step (H3.out j (by omega) hj), ← List.append_assoc]
        exact h1
      case measure => simp [intOf]; omega
end Go.Proofs.YtbccikefccdekaaGreatDoor

/-
  WHAT EVERY LAW's ROW NEEDS: a call that returns true, and leaves all memory that was there as it was, meets the row's specification.
-/
namespace Go.Proofs.YtbccikefccdekaaGreatDoor
open Go.ChangeShapes Go.WideShapes Go.ChangeAt Go.RowKit
set_option linter.unusedVariables false
set_option maxRecDepth 100000

theorem laidOut : laidOutB Tryz.prog = true := by kernel_rfl
theorem ownKnobs : ownKnob Tryz.prog.godebug = none := by kernel_rfl

theorem trodAll_stays {H : Type} {enc : TypeId × Value → H} {W W' : World} (hb : Below W.heap.size W W') :
    ∀ (ts : List TypeId) (vs : List Value) (ds : List (DataW H)) (ps : List MemPlace), (∀ t ∈ ts, Tryz.prog.readableRec t = true ∧ t < Tryz.prog.types.size) →
      DataW.TrodAll enc Tryz.prog W 0 (fun _ => true) true ts vs ds ps → (∀ x ∈ ps, x.block < W.heap.size) →
      DataW.TrodAll enc Tryz.prog W' 0 (fun b => decide (b < W.heap.size)) true ts vs ds ps := by
  intro ts
  induction ts with
  | nil =>
    intro vs ds ps _ h _
    obtain ⟨rfl, rfl, rfl⟩ := trodAll_nil h
    exact rfl
  | cons t ts ih =>
    intro vs ds ps ht h hlt
    obtain ⟨v, vs', d, ds', p, q, rfl, rfl, rfl, h1, h2⟩ := trodAll_cons h
    have h3 := ht t (by simp)
    exact ⟨p, q, Below.trod laidOut h3.1 h3.2 h1 hb (fun x hx => hlt x (by simp [hx])), ih _ _ _ (fun u hu => ht u (by simp [hu])) h2 (fun x hx => hlt x (by simp [hx])), rfl⟩

theorem okTy {t : TypeId} (h1 : Tryz.prog.readableRec t = true) (h2 : decide (t < Tryz.prog.types.size) = true) : Tryz.prog.readableRec t = true ∧ t < Tryz.prog.types.size := ⟨h1, of_decide_eq_true h2⟩

/-- THE ROW's 'post' OF A LAW: true; the arguments read as they did. -/
theorem law_post {H : Type} {enc : TypeId × Value → H} {f : Func} {s : ChangeSpec} {W W' : World} {args : Array Value} {ds gs : List (DataW H)} {before : List MemPlace}
    (hW : DataW.Whole enc Tryz.prog f.params.toList s.vars false W args.toList ds gs before) (hb : Below W.heap.size W W') (hvars : s.vars = [])
    (hparams : ∀ t ∈ f.params.toList, Tryz.prog.readableRec t = true ∧ t < Tryz.prog.types.size) (hres : f.resultTypes = #[4])
    (hfn : (s.fn H (ds ++ gs)).results = [.lit (.bool true)] ∧ (s.fn H (ds ++ gs)).args = ds ∧ (s.fn H (ds ++ gs)).vars = []) :
    s.post enc Tryz.prog f false true false false W args (.bool true) W' := by
  have hlt := hW.lt
  have hW' := hW
  obtain ⟨p, q, hA, hV, rfl, hfz, hnd⟩ := hW
  rw [hvars] at hV
  obtain ⟨rfl, rfl⟩ := trodVars_none hV
  refine ⟨ds, [], _, [], p, [], hW', ?_, ?_, ?_, hb.frame _, fun h => by cases h⟩
  · rw [hfn.1, hres]; exact trodAll_mk1 (shut_bool Tryz.underlying4 true)
  · rw [hfn.2.1]
    exact trodAll_stays hb _ _ _ _ hparams hA (fun x hx => hlt x (by simp [hx]))
  · rw [hvars, hfn.2.2]; exact rfl
end Go.Proofs.YtbccikefccdekaaGreatDoor

/-
  SLICES OF INTS AND OF STRINGS that came in: where their cells lie; what the arguments' reading gives of them.
-/
namespace Go.Proofs.YtbccikefccdekaaGreatDoor
open Go.ChangeShapes Go.WideShapes Go.ChangeAt Go.RowKit
open Go.WideMaps Go.WideElems
set_option linter.unusedVariables false
set_option maxRecDepth 100000

/-- A slice of ints, wherever it lies below block B. -/
def IntsAt (w : World) (B : Nat) (v : Value) (xs : List Int) : Prop :=
  ∃ a cap, v = .slice a xs.length cap ∧ (xs ≠ [] → ∃ sb so, a = some ⟨sb, so, none⟩ ∧ sb < B ∧ ∀ j x, xs[j]? = some x → w.cell? ⟨sb, so + j, none⟩ = some (.int .i64 x))

/-- A slice of strings, wherever it lies below block B. -/
def StrsAt (w : World) (B : Nat) (v : Value) (xs : List ByteArray) : Prop :=
  ∃ a cap, v = .slice a xs.length cap ∧ (xs ≠ [] → ∃ sb so, a = some ⟨sb, so, none⟩ ∧ sb < B ∧ ∀ j x, xs[j]? = some x → w.cell? ⟨sb, so + j, none⟩ = some (.string x))

theorem cellsInt : Tryz.prog.cellsOf 3 = 1 := by kernel_rfl
theorem cellsString : Tryz.prog.cellsOf 9 = 1 := by kernel_rfl

theorem ints_arg {H : Type} {enc : TypeId × Value → H} {W : World} {base : Nat} {v : Value} {d : DataW H} {p : List MemPlace} (ho : Value.okWide Tryz.prog W .any base 22 v)
    (h : DataW.Trod enc Tryz.prog W 0 (fun _ => true) true 22 v d p) :
    ∃ xs : List Int, IntsAt W W.heap.size v xs ∧ (∀ n ∈ xs, -9223372036854775808 ≤ n ∧ n ≤ 9223372036854775807) ∧ xs.length ≤ maxLen := by
  obtain ⟨a0, len, cap, rfl⟩ := okWide_slice Tryz.underlying22 ho
  obtain ⟨fuel, hf⟩ := h
  rcases open_ints Tryz.underlying22 Tryz.underlying3 cellsInt hf with ⟨hcs, hx⟩ | ⟨a, len', cap', zs, hcs, _, hl, hm, hz, hx, hcell, hwz⟩
  · simp [Value.cells] at hcs
    obtain ⟨rfl, rfl, rfl⟩ := hcs
    exact ⟨[], ⟨none, 0, rfl, fun h => absurd rfl h⟩, by simp, by simp⟩
  · simp [Value.cells] at hcs
    obtain ⟨rfl, rfl, rfl⟩ := hcs
    simp only [if_true] at hz
    have hlen : (zs.take len).length = len := by rw [List.length_take]; omega
    refine ⟨zs.take len, ⟨some a, cap, by rw [hlen], fun h0 => ?_⟩, ?_, by omega⟩
    · have hpos : 0 < zs.length := by
        rcases Nat.eq_zero_or_pos zs.length with h | h
        · exact absurd (by rw [List.length_eq_zero_iff.1 h]; simp) h0
        · exact h
      obtain ⟨b, off, rfl, hc⟩ := ints_at hcell hpos
      refine ⟨b, off, rfl, World.block_lt_of_cell? W _ (hc 0 hpos), fun j x hj => ?_⟩
      have hjl : j < len := by
        rcases Nat.lt_or_ge j len with h | h
        · exact h
        · rw [List.getElem?_eq_none (by rw [hlen]; exact h)] at hj; cases hj
      rw [hc j (by omega)]
      rw [List.getElem?_take_of_lt hjl] at hj
      simp [List.getD, hj]
    · intro n hn
      have := hwz n (List.mem_of_mem_take hn)
      simpa [Lit.wf, IntKind.min, IntKind.max, IntKind.signed, IntKind.bits] using this

theorem strs_arg {H : Type} {enc : TypeId × Value → H} {W : World} {base : Nat} {v : Value} {d : DataW H} {p : List MemPlace} (ho : Value.okWide Tryz.prog W .any base 46 v)
    (h : DataW.Trod enc Tryz.prog W 0 (fun _ => true) true 46 v d p) :
    ∃ xs : List ByteArray, StrsAt W W.heap.size v xs ∧ (∀ s ∈ xs, s.size ≤ maxLen) ∧ xs.length ≤ maxLen := by
  obtain ⟨a0, len, cap, rfl⟩ := okWide_slice Tryz.underlying46 ho
  obtain ⟨fuel, hf⟩ := h
  rcases open_strings Tryz.underlying46 Tryz.underlying9 cellsString hf with ⟨hcs, hx⟩ | ⟨a, len', cap', zs, hcs, _, hl, hm, hz, hx, hcell, hwz⟩
  · simp [Value.cells] at hcs
    obtain ⟨rfl, rfl, rfl⟩ := hcs
    exact ⟨[], ⟨none, 0, rfl, fun h => absurd rfl h⟩, by simp, by simp⟩
  · simp [Value.cells] at hcs
    obtain ⟨rfl, rfl, rfl⟩ := hcs
    simp only [if_true] at hz
    have hlen : (zs.take len).length = len := by rw [List.length_take]; omega
    refine ⟨zs.take len, ⟨some a, cap, by rw [hlen], fun h0 => ?_⟩, fun s hs => hwz s (List.mem_of_mem_take hs), by omega⟩
    have hpos : 0 < zs.length := by
      rcases Nat.eq_zero_or_pos zs.length with h | h
      · exact absurd (by rw [List.length_eq_zero_iff.1 h]; simp) h0
      · exact h
    obtain ⟨b, off, spot⟩ := a
    have hspot : spot = none := by simpa [Addr.add] using World.cell?_spot (hcell 0 hpos)
    subst hspot
    have hc : ∀ j, j < zs.length → W.cell? ⟨b, off + j, none⟩ = some (.string (zs.getD j ByteArray.empty)) := fun j hj => by rw [← Go.WideShapes.add_plain]; exact hcell j hj
    refine ⟨b, off, rfl, World.block_lt_of_cell? W _ (hc 0 hpos), fun j x hj => ?_⟩
    have hjl : j < len := by
      rcases Nat.lt_or_ge j len with h | h
      · exact h
      · rw [List.getElem?_eq_none (by rw [hlen]; exact h)] at hj; cases hj
    rw [hc j (by omega)]
    rw [List.getElem?_take_of_lt hjl] at hj
    simp [List.getD, hj]
end Go.Proofs.YtbccikefccdekaaGreatDoor

/-
  LAYER 1: Int, Text and Bool: what the program's and the document's return.
-/
namespace Go.Proofs.YtbccikefccdekaaGreatDoor
open Go.RowKit
set_option linter.unusedVariables false
set_option maxRecDepth 100000

theorem blkOk_output : BlkOk 134 := ⟨by kernel_rfl, by decide⟩

theorem encs_snoc (l : List Int) (n : Int) : encs (l ++ [n]) = encs l ++ enc (nat64 n) := by simp [encs]
theorem encs_length (l : List Int) (h : ∀ n ∈ l, -9223372036854775808 ≤ n ∧ n ≤ 9223372036854775807) : (encs l).length ≤ 10 * l.length := by
  induction l with
  | nil => simp [encs]
  | cons n l ih =>
    have h1 := enc_length (nat64_lt (h n (by simp)).1 (h n (by simp)).2)
    have h2 := ih fun m hm => h m (by simp [hm])
    simp only [encs, List.flatMap_cons, List.length_append, List.length_cons] at *
    omega

/-- A text: its length, and its bytes. -/
def txt (s : List UInt8) : List UInt8 := enc (nat64 s.length) ++ s
def txts (l : List ByteArray) : List UInt8 := l.flatMap fun s => txt s.data.toList

set_option maxHeartbeats 1000000 in
set_option maxRecDepth 100000 in
theorem eachInt_any {T : TypeId} (hT : BlkOk T) (B b : Nat) (l : List UInt8) (sb so cap : Nat) (xs : List Int) (w : World)
    (hc : ∀ j x, xs[j]? = some x → w.cell? ⟨sb, so + j, none⟩ = some (.int .i64 x)) (hx : ∀ n ∈ xs, -9223372036854775808 ≤ n ∧ n ≤ 9223372036854775807) (hsb : sb < B)
    (h : Lib.IsBuilder T 5 B b (Lib.byteCells l) w) (hlen : l.length + 10 * xs.length ≤ 140737488355328) (hBw : B ≤ w.heap.size) :
    Calls Tryz.prog 107 #[.slice (some ⟨sb, so, none⟩) xs.length cap, .func (.func 108) #[.pointer (some ⟨b, 0, none⟩)] #[]] w fun e w' =>
      e = .returned (.tuple #[]) ∧ Lib.IsBuilder T 5 B b (Lib.byteCells (l ++ encs xs)) w' ∧ Below B w w' := by
  have HB := hid h
  have HX := hid hx
  have HC := hid hc
  clear h hx hc
  go_enter Tryz.func107, Tryz.ntmps107
  go_wp2
  go_loopw [8] (fun i wr => ∃ k : Nat, k ≤ xs.length ∧ i = .int .i64 k ∧ Hid (Lib.IsBuilder T 5 B b (Lib.byteCells (l ++ encs (xs.take k))) wr) ∧ Below B w wr) (fun i _ => xs.length - (intOf i).toNat)
  case atStart => exact ⟨0, Nat.zero_le _, rfl, hid (by simpa [encs] using HB.out), Below.refl _ _⟩
  case round =>
    obtain ⟨k, hk, rfl, hI, hbl⟩ := hrel
    by_cases hlt : k < xs.length
    · have hx := HX.out xs[k] (List.getElem_mem _)
      have c1 : wr.cell? ⟨sb, so + k, none⟩ = some (.int .i64 xs[k]) := (hbl.cell (p := ⟨sb, so + k, none⟩) hsb).trans (HC.out k _ (by simp [hlt]))
      have ht : xs.take (k + 1) = xs.take k ++ [xs[k]] := by rw [List.take_succ_eq_append_getElem hlt]
      have HT := hid ht
      clear ht
      have hl := encs_length (xs.take k) fun n hn => HX.out n (List.mem_of_mem_take hn)
      rw [List.length_take] at hl
      generalize xs[k] = x at *
      go_wp2_with (go_at_call 108; refine (number_any hT B b _ x _ hx.1 hx.2 hI.out (by rw [List.length_append]; omega) (by have := hbl.size; omega)).mono ?_; rintro e w1 ⟨rfl, h1, hb2⟩)
      go_roundw
      case rel => exact ⟨k + 1, by omega, by go_num, hid (by rw [HT.out, encs_snoc, ← List.append_assoc]; exact h1), hbl.trans hb2⟩
      case measure => simp [intOf]; omega
    · go_wp2
      go_end0
      exact ⟨rfl, by have := hI.out; rw [List.take_of_length_le (by omega)] at this; exact this, hbl⟩

theorem eachInt_none (a : Option Addr) (cap : Nat) (f : Value) (w : World) :
    Calls Tryz.prog 107 #[.slice a 0 cap, f] w fun e w' => e = .returned (.tuple #[]) ∧ w = w' := by
  go_enter Tryz.func107, Tryz.ntmps107
  go_wp2
  refine wp_loop_rounds 1 ?_
  rw [rounds_succ]
  go_wp2
  go_end0
  exact ⟨rfl, rfl⟩

set_option maxHeartbeats 1000000 in
set_option maxRecDepth 100000 in
/-- codec.Int. -/
theorem int_any (v : Value) (xs : List Int) (w : World) (hv : IntsAt w w.heap.size v xs) (hx : ∀ n ∈ xs, -9223372036854775808 ≤ n ∧ n ≤ 9223372036854775807) (hlen : 10 * xs.length ≤ 140737488355328) :
    Calls Tryz.prog 75 #[v] w fun e w' => e = .returned (.string ⟨(encs xs).toArray⟩) ∧ Below w.heap.size w w' := by
  obtain ⟨a, cap, rfl, ha⟩ := hv
  have HX := hid hx
  have hfr : Lib.IsBuilder 134 5 w.heap.size w.heap.size [] (w.alloc (.cells #[.pointer none, .slice none 0 0] 134)) := Lib.fresh_isBuilder _ _ _
  have HF := hid hfr
  clear hfr hx
  have heach : ∀ W, Hid (W = w.alloc (.cells #[.pointer none, .slice none 0 0] 134)) → Calls Tryz.prog 107 #[.slice a xs.length cap, .func (.func 108) #[.pointer (some ⟨w.heap.size, 0, none⟩)] #[]] W fun e w' =>
      e = .returned (.tuple #[]) ∧ Lib.IsBuilder 134 5 w.heap.size w.heap.size (Lib.byteCells (encs xs)) w' ∧ Below w.heap.size W w' := by
    intro W hW
    have hW := hW.out
    subst hW
    by_cases h0 : xs = []
    · subst h0
      refine (eachInt_none a cap _ _).mono ?_
      rintro e w' ⟨rfl, rfl⟩
      exact ⟨rfl, HF.out, Below.refl _ _⟩
    · obtain ⟨sb, so, rfl, hsb, hc⟩ := ha h0
      refine (eachInt_any blkOk_output w.heap.size w.heap.size [] sb so cap xs _ ?_ HX.out hsb (by simpa [Lib.byteCells] using HF.out) (by simpa using hlen) (by simp)).mono ?_
      · intro j x hj
        exact ((Below.alloc (Below.refl w.heap.size w) (Nat.le_refl _) _).cell (p := ⟨sb, so + j, none⟩) hsb).trans (hc j x hj)
      · rintro e w' ⟨rfl, h1, h2⟩
        exact ⟨rfl, by simpa using h1, h2⟩
  have HE := hid heach
  clear heach ha
  go_enter Tryz.func75, Tryz.ntmps75
  go_wp2_with (first
    | (go_at_call 107; refine (HE.out _ (hid rfl)).mono ?_; rintro e w1 ⟨rfl, h1, h2⟩)
    | (go_at_call 26; refine (string_any w.heap.size w.heap.size (encs xs) _ h1 (by have := h2.size; simp at this; omega)).mono ?_; rintro e w2 ⟨rfl, h3⟩))
  go_ret
  exact ⟨rfl, (Below.alloc (Below.refl _ _) (Nat.le_refl _) _).trans (h2.trans h3)⟩

set_option maxHeartbeats 1000000 in
set_option maxRecDepth 100000 in
/-- The document's Int. -/
theorem refInt_any (n : Int) (w : World) (h0 : -9223372036854775808 ≤ n) (h1 : n ≤ 9223372036854775807) :
    Calls Tryz.prog 50 #[.int .i64 n] w fun e w' => e = .returned (.string ⟨(enc (nat64 n)).toArray⟩) ∧ Below w.heap.size w w' := by
  have hu := nat64_lt h0 h1
  have HZ := hid (natural_any n w h0 h1)
  have hel := enc_length hu
  have henc : enc (nat64 n) = encC (nat64 n / 128) ++ [UInt8.ofNat (nat64 n % 128)] := rfl
  generalize nat64 n = v at *
  obtain ⟨i0, hi, hz0, hz1, hz2⟩ := infoByte_parts
  have HE := hid henc
  have e1 : IntKind.u8.wrap ((v : Int) % 128) = ((v % 128 : Nat) : Int) := by rw [IntKind.wrap_u8']; omega
  clear henc
  go_enter Tryz.func50, Tryz.ntmps50
  go_wp2_with (go_at_call 78; refine HZ.out.mono ?_; rintro e w' ⟨rfl, rfl⟩)
  go_loopw [3, 4] (fun x b wr => ∃ (u : Nat) (bs : List UInt8) (g cap : Nat), u < 18446744073709551616 ∧ x = .int .u64 u ∧ b = .slice (some ⟨g, 0, none⟩) bs.length cap ∧ Hid (encC u ++ bs = enc v) ∧ Hid (Bytes wr w.heap.size (.slice (some ⟨g, 0, none⟩) bs.length cap) bs) ∧ 0 < bs.length ∧ Below w.heap.size w wr) (fun x _ _ => (intOf x).toNat)
  case atStart => exact ⟨v / 128, [UInt8.ofNat (v % 128)], w.heap.size, 1, by omega, by go_num, rfl, hid HE.out.symm, hid (Bytes.one w _ (v % 128) _ (by omega) (by omega) (Nat.le_refl _)), by simp, Below.alloc (Below.refl _ _) (Nat.le_refl _) _⟩
  case round =>
    obtain ⟨u, bs, g, cap, hu, rfl, rfl, hE, hB, hpos, hbl⟩ := hrel
    by_cases hu0 : u = 0
    · subst hu0
      have hst := hB.out.shape (by intro h; simp [h] at hpos)
      obtain ⟨g', cap', hv', _, hg, _, _, hc, _⟩ := hst
      cases hv'
      have hrs := run_string (w := wr) (g := g) (n := bs.length) (cap := cap) rfl hc
      clear hc
      go_wp2
      go_ret
      have := hE.out
      rw [encC_zero, List.nil_append] at this
      exact ⟨by rw [this]; rfl, hbl⟩
    · have hlen : (encC u ++ bs).length ≤ 10 := by rw [hE.out]; exact hel
      rw [List.length_append] at hlen
      have hcs : ∀ j x, (Lib.byteCells bs)[j]? = some x → wr.cell? ((⟨g, 0, none⟩ : Addr).add j) = some x := fun j x hj => World.ownsRow.cells hB.out (g := g) rfl j x hj
      have HCS := hid hcs
      clear hcs
      have hgw := World.ownsRow.lt hB.out g rfl
      have hz := hbl.size
      have hone := Bytes.one wr w.heap.size (128 + u % 128) (128 + (u : Int) % 128) (by omega) (by omega) hz
      generalize hxe : UInt8.ofNat (128 + u % 128) = x at hone
      have HO := hid hone
      have HXE := hid hxe
      clear hone hxe
      go_wp2_with (at_builtin; refine wpList_append_own _ rfl _ _ 33 rfl w.heap.size 5 i0 (.int .u8 0) 1 1 Tryz.underlying33 hi hz0 hz1 hz2 rfl (by decide) _ _ _ rfl HO.out ⟨g, 0, none⟩ bs.length cap (Lib.byteCells bs) rfl (by rw [Lib.byteCells_length, Nat.mul_one]) ?c1 (byteCells_one bs) ?c3 ?c4 ?c5 ?_)
      case c1 => intro j x hj; exact (Below.cell (Below.alloc (Below.refl wr.heap.size wr) (Nat.le_refl _) _) (p := (⟨g, 0, none⟩ : Addr).add j) (by unfold Addr.add; split <;> exact hgw.2)).trans (HCS.out j x hj)
      case c3 => unfold maxLen; simp; omega
      case c4 => simp; omega
      case c5 => simp; omega
      intro v' w2 hown' hgrow _
      have hby : Bytes w2 w.heap.size v' (x :: bs) := by
        have e : Lib.byteCells [x] ++ Lib.byteCells bs = Lib.byteCells (x :: bs) := by rw [byteCells_append]; rfl
        unfold Bytes
        rw [← e, show (x :: bs).length = [x].length + bs.length by simp; omega]
        exact hown'
      obtain ⟨g2, cap2, rfl, hg2, _⟩ := hby.shape (by simp)
      have HY := hid hby
      have hbl2 : Below w.heap.size w w2 := (hbl.alloc hz _).grown hgrow (by simp; omega) (fun k hk => (World.ownsRow.lt HO.out k hk).1)
      clear hby hown' hgrow
      go_wp2
      go_roundw
      case rel => exact ⟨u / 128, x :: bs, g2, cap2, by omega, by go_num, rfl, hid (by rw [← hE.out, encC_pos hu0, HXE.out, List.append_assoc]; rfl), HY, by simp, hbl2⟩
      case measure => simp [intOf]; omega
end Go.Proofs.YtbccikefccdekaaGreatDoor

/-
  LAYER 1: ToInt, the program's and the document's: both return what 'toInt' says.
-/
namespace Go.Proofs.YtbccikefccdekaaGreatDoor
open Go.RowKit
set_option linter.unusedVariables false
set_option maxRecDepth 100000

/-- What ToInt returns. -/
def intRes : Option (Nat × List UInt8) → Value
  | none => .tuple #[.int .i64 0, .string ⟨#[]⟩, .bool false]
  | some (v, r) => .tuple #[.int .i64 (unz v), .string (mk r), .bool true]

theorem toIntI_cons (u : Nat) (c : UInt8) (r : List UInt8) : toIntI u (c :: r) = if 144115188075855871 < u then none else if c.toNat < 128 then some (u * 128 + c.toNat % 128, r) else toIntI (u * 128 + c.toNat % 128) r := rfl

theorem andNot128 (c : Nat) (hc : c < 256) : bits .andNot .u8 (c : Int) 128 = ((c % 128 : Nat) : Int) := by
  have h := u8_andNot_nat c 128 hc (by omega)
  rw [show 255 - 128 = 127 from rfl, nat_mask7] at h
  exact h
theorem or_seven (u c : Nat) (hu : u ≤ 144115188075855871) : bits .or .u64 ((u : Int) * 128) ((c : Int) % 128) = ((u * 128 + c % 128 : Nat) : Int) := by
  have h := u64_or_nat (u * 128) (c % 128) (by omega) (by omega)
  rw [nat_join 7 (u * 128) (c % 128) (by omega) (by omega)] at h
  rw [← h]; rfl

theorem hasPrefix128 (l : List UInt8) : Lib.hasPrefix l [128] = decide (l.head? = some 128) := by
  cases l with
  | nil => rfl
  | cons c r =>
    show ((128 : UInt8) == c && List.isPrefixOf [] r) = _
    rw [List.head?_cons, show List.isPrefixOf ([] : List UInt8) r = true from by cases r <;> rfl, Bool.and_true, Bool.eq_iff_iff, beq_iff_eq, decide_eq_true_iff]
    exact ⟨fun h => by rw [h], fun h => (Option.some.inj h).symm⟩

set_option maxHeartbeats 1000000 in
set_option maxRecDepth 100000 in
theorem toInt_any (s : ByteArray) (w : World) (hs : s.size ≤ maxLen) :
    Calls Tryz.prog 83 #[.string s] w fun e w' => e = .returned (intRes (toInt s.data.toList)) ∧ ∃ m, w' = w.drewN m := by
  unfold maxLen at hs
  have HP := hid (fun w => strings_HasPrefix s ⟨#[128]⟩ w)
  by_cases hp : s.data.toList.head? = some 128
  · have hres : toInt s.data.toList = none := by unfold toInt; rw [if_pos hp]
    have HR := hid hres
    have hb : Lib.hasPrefix s.data.toList [128] = true := by rw [hasPrefix128]; simpa using hp
    clear hres hp
    go_enter Tryz.func83, Tryz.ntmps83
    go_wp2_with (go_at_call 109; refine (HP.out _).mono ?_; rintro e w' ⟨rfl, rfl⟩)
    go_ret3
    exact ⟨by rw [HR.out]; rfl, 0, rfl⟩
  · have hres : toInt s.data.toList = toIntI 0 (s.data.toList.drop 0) := by unfold toInt; rw [if_neg hp]; rfl
    have HR := hid hres
    have hb : Lib.hasPrefix s.data.toList [128] = false := by rw [hasPrefix128]; simpa using hp
    clear hres hp
    go_enter Tryz.func83, Tryz.ntmps83
    go_wp2_with (go_at_call 109; refine (HP.out _).mono ?_; rintro e w' ⟨rfl, rfl⟩)
    go_loop [5, 6, 11] (fun u _ i => ∃ k x : Nat, k ≤ s.size ∧ i = .int .i64 k ∧ u = .int .u64 x ∧ x < 18446744073709551616 ∧ Hid (toInt s.data.toList = toIntI x (s.data.toList.drop k))) (fun _ _ i => s.size - (intOf i).toNat)
    case atStart => exact ⟨0, 0, Nat.zero_le _, rfl, rfl, by omega, HR⟩
    case round =>
      obtain ⟨k, x, hk, rfl, rfl, hx, hI⟩ := hrel
      by_cases hlt : k < s.size
      · have hst := hI.out
        rw [drop_cons s k hlt, toIntI_cons] at hst
        have hc : s[k].toNat < 256 := s[k].toNat_lt
        by_cases hbig : 144115188075855871 < x
        · rw [if_pos hbig] at hst
          have HS := hid hst
          clear hst
          go_wp2
          go_ret3
          exact ⟨by rw [HS.out]; rfl, 0, rfl⟩
        · rw [if_neg hbig] at hst
          have e1 := andNot128 s[k].toNat hc
          have e2 := or_seven x s[k].toNat (by omega)
          have hbig' : x ≤ 144115188075855871 := by omega
          have hnew : x * 128 + s[k].toNat % 128 < 18446744073709551616 := by omega
          by_cases hend : s[k].toNat < 128
          · rw [if_pos hend] at hst
            have HS := hid hst
            have HU := hid (fun w => unzigzag_any (x * 128 + s[k].toNat % 128) w hnew)
            have hx2 : s.extract (k + 1) s.size = mk (s.data.toList.drop (k + 1)) := extract_drop s (k + 1) _ rfl
            have HX2 := hid hx2
            generalize x * 128 + s[k].toNat % 128 = y at *
            clear hst hx2
            go_wp2
            go_quiet ((go_at_call 110; exact quiet_eq (HU.out _)))
            go_wp2
            go_ret3
            exact ⟨by rw [HS.out, intRes, ← HX2.out]; rfl, _, rfl⟩
          · rw [if_neg hend] at hst
            have HS := hid hst
            generalize hy : x * 128 + s[k].toNat % 128 = y at *
            clear hst
            have HY := hid hy
            clear hy
            go_wp2
            go_round
            case rel => exact ⟨k + 1, y, by omega, by go_num, rfl, hnew, HS⟩
            case measure => simp [intOf]; omega
      · have hst := hI.out
        rw [List.drop_eq_nil_of_le (by rw [str_len]; omega), toIntI] at hst
        have HS := hid hst
        clear hst
        go_wp2
        go_ret3
        exact ⟨by rw [HS.out]; rfl, 0, rfl⟩
end Go.Proofs.YtbccikefccdekaaGreatDoor

/-
  LAYER 1: the document's ToInt.
-/
namespace Go.Proofs.YtbccikefccdekaaGreatDoor
open Go.RowKit
set_option linter.unusedVariables false
set_option maxRecDepth 100000

theorem toIntR_cons (p : List UInt8) (v : Nat) (c : UInt8) (r : List UInt8) : toIntR p v (c :: r) = if p.length < 10 then
      (if c.toNat < 128 then (if enc ((128 * v + c.toNat % 128) % 18446744073709551616) = p ++ [c] then some ((128 * v + c.toNat % 128) % 18446744073709551616, r) else none)
       else toIntR (p ++ [c]) ((128 * v + c.toNat % 128) % 18446744073709551616) r)
    else none := rfl

theorem take_len (s : ByteArray) (k : Nat) (h : k ≤ s.size) : (s.data.toList.take k).length = k := by
  rw [List.length_take, str_len]; omega

theorem wrap_u64 (n : Int) : IntKind.u64.wrap n = n % 18446744073709551616 := by simp [IntKind.wrap, IntKind.bits, IntKind.signed]

set_option maxHeartbeats 1000000 in
set_option maxRecDepth 100000 in
theorem refToInt_any (s : ByteArray) (w : World) (hs : s.size ≤ maxLen) :
    Calls Tryz.prog 57 #[.string s] w fun e w' => e = .returned (intRes (toInt s.data.toList)) ∧ Below w.heap.size w w' := by
  unfold maxLen at hs
  have HR : Hid (toInt s.data.toList = toIntR (s.data.toList.take 0) 0 (s.data.toList.drop 0)) := hid (toIntR_eq _).symm
  go_enter Tryz.func57, Tryz.ntmps57
  go_wp2_with fail
  go_loopw [5, 6, 7] (fun v i _ wr => ∃ k x : Nat, k ≤ s.size ∧ i = .int .i64 k ∧ v = .int .u64 x ∧ x < 18446744073709551616 ∧ Hid (toInt s.data.toList = toIntR (s.data.toList.take k) x (s.data.toList.drop k)) ∧ w = wr) (fun _ i _ _ => s.size - (intOf i).toNat)
  case atStart => exact ⟨0, 0, Nat.zero_le _, rfl, rfl, by omega, HR, rfl⟩
  case round =>
    obtain ⟨k, x, hk, rfl, rfl, hx, hI, rfl⟩ := hrel
    by_cases hlt : k < s.size
    · have hst := hI.out
      rw [drop_cons s k hlt, toIntR_cons, take_len s k hk] at hst
      have hc : s[k].toNat < 256 := s[k].toNat_lt
      by_cases h10 : k < 10
      · rw [if_pos h10, ← take_snoc' s k hlt] at hst
        have e2 : IntKind.u64.wrap (IntKind.u64.wrap (128 * (x : Int)) + (s[k].toNat : Int) % 128) = (((128 * x + s[k].toNat % 128) % 18446744073709551616 : Nat) : Int) := by
          rw [wrap_u64, wrap_u64]; omega
        have hy : (128 * x + s[k].toNat % 128) % 18446744073709551616 < 18446744073709551616 := Nat.mod_lt _ (by omega)
        generalize (128 * x + s[k].toNat % 128) % 18446744073709551616 = y at *
        by_cases hend : s[k].toNat < 128
        · rw [if_pos hend] at hst
          have HS := hid hst
          clear hst
          have hxk : s.extract (k + 1) s.size = mk (s.data.toList.drop (k + 1)) := extract_drop s (k + 1) _ rfl
          have hxt : s.extract 0 (k + 1) = mk (s.data.toList.take (k + 1)) := extract_take s (k + 1)
          have HX := hid hxk
          have HT := hid hxt
          clear hxk hxt
          by_cases hodd : y % 2 = 1
          · have hn : unz y = -((y : Int) / 2) - 1 := by unfold unz; rw [if_pos hodd]; omega
            have HI := fun w => refInt_any (-((y : Int) / 2) - 1) w (by omega) (by omega)
            rw [← hn, nat64_unz, hn] at HI
            have HII := hid HI
            have HN := hid hn
            clear HI hn
            have htl : (s.extract 0 (k + 1)).toList = s.data.toList.take (k + 1) := by rw [HT.out, Lib.toList_data, mk_data]
            have b1 : (k : Int) + 1 ≤ (s.size : Int) := by omega
            have b2 : (0 : Int) ≤ (k : Int) + 1 := by omega
            by_cases hq : enc y = s.data.toList.take (k + 1)
            · have hst2 := HS.out
              rw [if_pos hq] at hst2
              have HS2 := hid hst2
              have hq' : (enc y == (s.extract 0 (k + 1)).toList) = true := by rw [htl, hq, beq_self_eq_true]
              clear hst2 hq htl
              go_wp2_with fail
              have s1 : IntKind.i64.wrap ((k : Int) + 1) = (k : Int) + 1 := IntWalk.i64_in _ (by omega)
              have s2 : ((k : Int) + 1).toNat = k + 1 := by omega
              go_region_with (go_at_call 50; refine (HII.out _).mono ?_; rintro e w1 ⟨rfl, hb⟩)
              go_wp2
              go_quiet (fail)
              clear s1 s2
              go_wp2
              go_ret3
              exact ⟨by rw [HS2.out, intRes, HN.out, ← HX.out]; rfl, below_drew (Below.trans (Below.drew (Below.refl _ _)) hb) _⟩
            · have hst2 := HS.out
              rw [if_neg hq] at hst2
              have HS2 := hid hst2
              have hq' : (enc y == (s.extract 0 (k + 1)).toList) = false := by rw [htl]; exact beq_eq_false_iff_ne.2 hq
              clear hst2 hq htl
              go_wp2_with fail
              have s1 : IntKind.i64.wrap ((k : Int) + 1) = (k : Int) + 1 := IntWalk.i64_in _ (by omega)
              have s2 : ((k : Int) + 1).toNat = k + 1 := by omega
              go_region_with (go_at_call 50; refine (HII.out _).mono ?_; rintro e w1 ⟨rfl, hb⟩)
              clear s1 s2
              go_wp2
              go_ret3
              exact ⟨by rw [HS2.out]; rfl, Below.trans (Below.drew (Below.refl _ _)) hb⟩
          · have hn : unz y = (y : Int) / 2 := by unfold unz; rw [if_neg hodd]; omega
            have HI := fun w => refInt_any ((y : Int) / 2) w (by omega) (by omega)
            rw [← hn, nat64_unz, hn] at HI
            have HII := hid HI
            have HN := hid hn
            clear HI hn
            have htl : (s.extract 0 (k + 1)).toList = s.data.toList.take (k + 1) := by rw [HT.out, Lib.toList_data, mk_data]
            have b1 : (k : Int) + 1 ≤ (s.size : Int) := by omega
            have b2 : (0 : Int) ≤ (k : Int) + 1 := by omega
            by_cases hq : enc y = s.data.toList.take (k + 1)
            · have hst2 := HS.out
              rw [if_pos hq] at hst2
              have HS2 := hid hst2
              have hq' : (enc y == (s.extract 0 (k + 1)).toList) = true := by rw [htl, hq, beq_self_eq_true]
              clear hst2 hq htl
              go_wp2_with fail
              have s1 : IntKind.i64.wrap ((k : Int) + 1) = (k : Int) + 1 := IntWalk.i64_in _ (by omega)
              have s2 : ((k : Int) + 1).toNat = k + 1 := by omega
              go_region_with (go_at_call 50; refine (HII.out _).mono ?_; rintro e w1 ⟨rfl, hb⟩)
              go_wp2
              go_quiet (fail)
              clear s1 s2
              go_wp2
              go_ret3
              exact ⟨by rw [HS2.out, intRes, HN.out, ← HX.out]; rfl, below_drew (Below.trans (Below.drew (Below.refl _ _)) hb) _⟩
            · have hst2 := HS.out
              rw [if_neg hq] at hst2
              have HS2 := hid hst2
              have hq' : (enc y == (s.extract 0 (k + 1)).toList) = false := by rw [htl]; exact beq_eq_false_iff_ne.2 hq
              clear hst2 hq htl
              go_wp2_with fail
              have s1 : IntKind.i64.wrap ((k : Int) + 1) = (k : Int) + 1 := IntWalk.i64_in _ (by omega)
              have s2 : ((k : Int) + 1).toNat = k + 1 := by omega
              go_region_with (go_at_call 50; refine (HII.out _).mono ?_; rintro e w1 ⟨rfl, hb⟩)
              clear s1 s2
              go_wp2
              go_ret3
              exact ⟨by rw [HS2.out]; rfl, Below.trans (Below.drew (Below.refl _ _)) hb⟩
        · rw [if_neg hend] at hst
          have HS := hid hst
          clear hst
          go_wp2_with fail
          go_roundw
          case rel => exact ⟨k + 1, y, by omega, by go_num, rfl, hy, HS, by trivial⟩
          case measure => simp [intOf]; omega
      · rw [if_neg h10] at hst
        have HS := hid hst
        clear hst
        go_wp2_with fail
        go_ret3
        exact ⟨by rw [HS.out]; rfl, Below.refl _ _⟩
    · have hst := hI.out
      rw [List.drop_eq_nil_of_le (by rw [str_len]; omega), toIntR] at hst
      have HS := hid hst
      clear hst
      go_wp2_with fail
      go_ret3
      exact ⟨by rw [HS.out]; rfl, Below.refl _ _⟩
end Go.Proofs.YtbccikefccdekaaGreatDoor

