import Derived.Test.YtjoeamlidmmioaaGreatDoorProg
import Derived.WalkKit
import Derived.KernelRfl
import Derived.Lib.Builder
import Derived.Lib.Strings
import Derived.Lib.UnsafeStr
import Derived.Laws.BytesArg
import Derived.Laws.OwnMore
import Derived.Lib.ConvBytes
import Derived.Deep.QuietTactic
import Derived.BigQuiet
import Derived.Deep.RegionWith
import Derived.Lib.Slices
import Derived.Lib.AppendStr
import Derived.Laws.Externs
import Derived.BigRegion
import Derived.Maps.RangeWalk
import Derived.Deep.AppendLies
import Derived.Maps.OwnSet
import Derived.WalkMore
import Derived.Lib.SliceRun
import Derived.Lib.Hide
/-
  SMALL LAWS THAT EVERY LAYER USES: rows of bytes that the call has made itself; strings cut and joined; what stays below a block.
-/
namespace Go.Proofs.YtjoeamlidmmioaaGreatDoor
open Go.RowKit
set_option linter.unusedVariables false
set_option maxRecDepth 100000

theorem hid {p : Prop} (h : p) : Hid p := h

theorem infoByte : (Tryz.prog.info? 5).map (fun i => (i.zero, i.size, i.bytes)) = some (some (.int .u8 0), 1, 1) := by kernel_rfl
theorem infoByte_parts : ∃ i, Tryz.prog.info? 5 = some i ∧ i.zero = some (.int .u8 0) ∧ i.size = 1 ∧ i.bytes = 1 := by
  obtain ⟨i, hi, hz⟩ := Option.map_eq_some_iff.1 infoByte
  simp only [Prod.mk.injEq] at hz
  exact ⟨i, hi, hz.1, hz.2.1, hz.2.2⟩
theorem cellsByte : Tryz.prog.cellsOf 5 = 1 := by kernel_rfl

/-- A row of bytes that the call has made itself (from block B on). -/
def Bytes (w : World) (B : Nat) (v : Value) (l : List UInt8) : Prop := w.ownsRow B 5 1 v l.length (Lib.byteCells l)

theorem byteCells_getElem? (l : List UInt8) (j : Nat) (u : Value) (h : (Lib.byteCells l)[j]? = some u) : ∃ c, l[j]? = some c ∧ u = .int .u8 c.toNat := by
  simp only [Lib.byteCells, List.getElem?_map, Option.map_eq_some_iff] at h
  obtain ⟨c, hc, rfl⟩ := h
  exact ⟨c, hc, rfl⟩
theorem byteCells_one (l : List UInt8) : ∀ u ∈ Lib.byteCells l, u.oneCell' = true := by
  intro u hu
  simp only [Lib.byteCells, List.mem_map] at hu
  obtain ⟨c, _, rfl⟩ := hu
  rfl

/-- Its shape, where it holds a byte. -/
theorem Bytes.shape {w : World} {B : Nat} {v : Value} {l : List UInt8} (h : Bytes w B v l) (h0 : l ≠ []) :
    ∃ g cap, v = .slice (some ⟨g, 0, none⟩) l.length cap ∧ B ≤ g ∧ g < w.heap.size ∧ l.length ≤ cap ∧ cap ≤ maxLen ∧ (∀ j c, l[j]? = some c → w.cell? ⟨g, j, none⟩ = some (.int .u8 c.toNat)) ∧ ∀ j, w.frozen? ⟨g, j, none⟩ = false := by
  have hlen : l.length ≠ 0 := by simpa using h0
  have hcs := fun g hg => World.ownsRow.cells h (g := g) hg
  have hlt := World.ownsRow.lt h
  rcases h.2 with ⟨_, hz⟩ | ⟨g, cap, cur, rfl, hB, hg, hnc, hcm, hcs', htake⟩
  · exact absurd hz hlen
  · refine ⟨g, cap, rfl, hB, (hlt g rfl).2, hnc, hcm, ?_, fun j => Lib.frozen_of_heap hg j⟩
    intro j c hj
    have := hcs g rfl j (.int .u8 c.toNat) (by simp [Lib.byteCells, hj])
    have hadd : (⟨g, 0, none⟩ : Addr).add j = ⟨g, j, none⟩ := by unfold Addr.add; split <;> simp_all
    rw [hadd] at this
    exact this

theorem ownsRow_below {w w' : World} {B B' : Nat} {e : TypeId} {size : Nat} {v : Value} {n : Nat} {xs : List Value} (h : w.ownsRow B e size v n xs) (hb : Below B' w w') (hB : w.heap.size ≤ B') : w'.ownsRow B e size v n xs := by
  refine h.kept (row := none) ⟨hb.os, hb.tape, hb.output, hb.size, fun k hk _ => hb.block k (by omega)⟩ ?_
  cases hv : v.ownBlock <;> simp

/-- One that holds just one byte, laid by '[]byte{c}'. -/
theorem Bytes.one (w : World) (B : Nat) (c : Nat) (n : Int) (hn : n = (c : Int)) (hc : c < 256) (hB : B ≤ w.heap.size) : Bytes (w.alloc (.cells #[.int .u8 n] 5)) B (.slice (some ⟨w.heap.size, 0, none⟩) 1 1) [UInt8.ofNat c] := by
  subst hn
  have : (UInt8.ofNat c).toNat = c := by rw [UInt8.toNat_ofNat']; exact Nat.mod_eq_of_lt hc
  refine ⟨by simp [Lib.byteCells], .inr ⟨w.heap.size, 1, #[.int .u8 (c : Int)], rfl, hB, heap_alloc_new w _, Nat.le_refl _, by unfold maxLen; omega, by simp, by simp [Lib.byteCells, this]⟩⟩

theorem getD_of {l : List Int} {i : Nat} (h : i < l.length) : l.getD i 0 = l[i] := by simp [List.getD, h]

set_option maxRecDepth 100000 in
/-- string(b). -/
theorem run_string {w : World} {g n cap : Nat} {l : List UInt8} (hn : n = l.length) (hc : ∀ j c, l[j]? = some c → w.cell? ⟨g, j, none⟩ = some (.int .u8 c.toNat)) :
    (convert 70 9 (.slice (some ⟨g, 0, none⟩) n cap)).run Tryz.prog w = .ok (.string ⟨l.toArray⟩) w := by
  have h := run_convert_bytes_arg (P := Tryz.prog) w 70 5 Tryz.underlying70 Tryz.underlying5 g 0 n cap (l.map fun c => (c.toNat : Int)) (by simp [hn]) (fun i hi => by
    have hil : i < l.length := by omega
    rw [Nat.zero_add, hc i l[i] (by simp [hil]), getD_of (by simpa using hil)]
    simp) 9 Tryz.underlying9
  rw [h]
  congr 2
  simp [strOfNums, List.map_map]
  congr 1
  apply List.ext_getElem
  · simp
  · intro i h1 h2; simp


/-- A string out of a list of bytes. -/
def mk (l : List UInt8) : ByteArray := ⟨l.toArray⟩
theorem mk_size (l : List UInt8) : (mk l).size = l.length := by simp [mk, ByteArray.size]
theorem mk_data (l : List UInt8) : (mk l).data.toList = l := rfl
theorem mk_of (s : ByteArray) : mk s.data.toList = s := rfl
theorem str_ext {s t : ByteArray} (h : s.data.toList = t.data.toList) : s = t := by
  obtain ⟨⟨l⟩⟩ := s; obtain ⟨⟨m⟩⟩ := t; simp at h; rw [h]
theorem str_len (s : ByteArray) : s.data.toList.length = s.size := rfl
theorem extract_drop (s : ByteArray) (a n : Nat) (h : n = s.size) : s.extract a n = mk (s.data.toList.drop a) := by
  apply str_ext
  rw [Lib.extract_data, mk_data, h, List.take_of_length_le]
  rw [List.length_drop, str_len]; exact Nat.le_refl _
theorem extract_take (s : ByteArray) (b : Nat) : s.extract 0 b = mk (s.data.toList.take b) := by
  apply str_ext; rw [Lib.extract_data, mk_data]; simp
theorem append_data (s t : ByteArray) : (s ++ t).data.toList = s.data.toList ++ t.data.toList := by rw [ByteArray.data_append, Array.toList_append]
theorem mk_append (l m : List UInt8) : mk l ++ mk m = mk (l ++ m) := str_ext (by rw [append_data]; rfl)
theorem drop_cons (s : ByteArray) (k : Nat) (h : k < s.size) : s.data.toList.drop k = s[k] :: s.data.toList.drop (k + 1) := by
  rw [List.drop_eq_getElem_cons (by simpa using h)]; rfl

/-- A contract that leaves the world, inside a region that draws its order. -/
theorem quiet_eq {P : Program} {f : FuncId} {args : Array Value} {w : World} {n : Nat} {v : Value}
    (h : Calls P f args (w.drewN n) fun e w' => e = .returned v ∧ w.drewN n = w') : Calls P f args (w.drewN n) fun e w'' => e = .returned v ∧ ∃ m, w'' = w.drewN m :=
  h.mono fun _ _ ⟨he, hm⟩ => ⟨he, n, hm.symm⟩
theorem drewN_zero (w : World) : w = w.drewN 0 := rfl
theorem below_drew {B : Nat} {a w : World} (h : Below B a w) (n : Nat) : Below B a (w.drewN n) := h.trans ⟨rfl, rfl, rfl, Nat.le_refl _, fun _ _ => rfl⟩

/-- s[lo:hi], s[lo:], s[:hi] of a string, as a list of bytes. -/
theorem slice_lh {s : ByteArray} {lo hi : Int} {l : List UInt8} (h0 : 0 ≤ lo) (h1 : lo ≤ hi) (h2 : hi ≤ s.size) (hl : (s.data.toList.drop lo.toNat).take (hi.toNat - lo.toNat) = l) (wx : World) :
    (Instr.slice 9 (.string s) (some (.int .i64 lo)) (some (.int .i64 hi)) none).run Tryz.prog wx = .ok (.string (mk l)) wx := by
  rw [run_slice_string (P := Tryz.prog) wx 9 s .i64 .i64 lo hi Tryz.underlying9 h0 h1 h2]
  congr 2
  apply str_ext; rw [Lib.extract_data, mk_data, hl]
theorem slice_l {s : ByteArray} {lo : Int} {l : List UInt8} (h0 : 0 ≤ lo) (h1 : lo ≤ s.size) (hl : s.data.toList.drop lo.toNat = l) (wx : World) :
    (Instr.slice 9 (.string s) (some (.int .i64 lo)) none none).run Tryz.prog wx = .ok (.string (mk l)) wx := by
  rw [run_slice_string_from_if (P := Tryz.prog) wx 9 s .i64 lo Tryz.underlying9, if_pos ⟨h0, h1⟩, extract_drop s _ _ rfl, hl]
theorem slice_h {s : ByteArray} {hi : Int} {l : List UInt8} (h0 : 0 ≤ hi) (h1 : hi ≤ s.size) (hl : s.data.toList.take hi.toNat = l) (wx : World) :
    (Instr.slice 9 (.string s) none (some (.int .i64 hi)) none).run Tryz.prog wx = .ok (.string (mk l)) wx := by
  rw [run_slice_string_to_if (P := Tryz.prog) wx 9 s .i64 hi Tryz.underlying9, if_pos ⟨h0, h1⟩, extract_take, hl]

/-- make([]byte, n): a row of noughts of the call's own. -/
theorem make_bytes (w : World) (B n : Nat) (hB : B ≤ w.heap.size) (hn : n ≤ 140737488355328) :
    ∃ w', (Instr.makeSlice 70 (.int .i64 (n : Int)) (.int .i64 (n : Int))).run Tryz.prog w = .ok (.slice (some ⟨w.heap.size, 0, none⟩) n n) w' ∧ Bytes w' B (.slice (some ⟨w.heap.size, 0, none⟩) n n) (List.replicate n 0) ∧ Below w.heap.size w w' ∧ w'.heap.size = w.heap.size + 1 := by
  obtain ⟨i0, hi, hz0, hz1, hz2⟩ := infoByte_parts
  have h := run_make (P := Tryz.prog) w 70 5 i0 (.int .u8 0) Tryz.underlying70 hi hz0 .i64 .i64 (n : Int) (n : Int) (by omega) (Int.le_refl _) (by rw [hz2]; omega) (by omega)
  rw [hz1, Int.toNat_natCast] at h
  refine ⟨_, h, ?_, Below.alloc (Below.refl _ _) (Nat.le_refl _) _, by simp⟩
  have hc : madeCells (Value.cells (.int .u8 0)) (n * 1) = (List.replicate n (Value.int .u8 0)).toArray :=
    Array.ext' (by rw [show Value.cells (.int .u8 0) = #[.int .u8 0] from rfl, Nat.mul_one, toList_madeCells_one])
  rw [hc]
  refine ⟨by simp [Lib.byteCells], .inr ⟨w.heap.size, n, _, by simp, hB, heap_alloc_new w _, by simp, by unfold maxLen; omega, by simp, by simp [Lib.byteCells]⟩⟩

/-- A store into it. -/
theorem Bytes.set {w : World} {B g cap : Nat} {l : List UInt8} (h : Bytes w B (.slice (some ⟨g, 0, none⟩) l.length cap) l) (k : Nat) (hk : k < l.length) (c : UInt8) (n : Int) (hn : n = (c.toNat : Int)) :
    Bytes (w.setCell ⟨g, k, none⟩ (.int .u8 n)) B (.slice (some ⟨g, 0, none⟩) l.length cap) (l.set k c) := by
  subst hn
  rcases h.2 with ⟨hv, _⟩ | ⟨g', cap', cur, hv, hB, hg, hnc, hcm, hcs, htake⟩
  · cases hv
  · cases hv
    refine ⟨by simp [Lib.byteCells], .inr ⟨g, cap, cur.setIfInBounds k (.int .u8 c.toNat), by rw [List.length_set], hB, ?_, by rw [List.length_set]; exact hnc, hcm, by simpa using hcs, ?_⟩⟩
    · simp [World.setCell, Array.getElem?_modify, hg]
    · rw [Array.toList_setIfInBounds, List.length_set, List.take_set, htake]
      simp [Lib.byteCells, List.map_set]

/-! ### A row of bytes whose block may bear a mark behind its end (what []byte(s) makes) -/
def RowAt (w : World) (B g : Nat) (l : List UInt8) : Prop :=
  B ≤ g ∧ (∀ j c, l[j]? = some c → w.cell? ⟨g, j, none⟩ = some (.int .u8 c.toNat)) ∧ ∀ j, j < l.length → w.frozen? ⟨g, j, none⟩ = false

theorem setCell_cell {w : World} {g k j : Nat} {v u : Value} (hk : w.cell? ⟨g, k, none⟩ = some u) : (w.setCell ⟨g, k, none⟩ v).cell? ⟨g, j, none⟩ = if j = k then some v else w.cell? ⟨g, j, none⟩ := by
  unfold World.cell? at hk
  cases hg : w.heap[g]? with
  | none => simp [hg] at hk
  | some o =>
    cases o with
    | cells cs t fr =>
      simp [hg] at hk
      have hlt : k < cs.size := by
        rcases Nat.lt_or_ge k cs.size with h | h
        · exact h
        · simp [Array.getElem?_eq_none h] at hk
      simp only [World.cell?, World.setCell, Array.getElem?_modify, hg]
      by_cases h : j = k
      · subst h; simp [hlt]
      · simp [h, Ne.symm h]
    | _ => simp [hg] at hk
theorem setCell_frozen (w : World) (g k : Nat) (v : Value) (a : Addr) : (w.setCell ⟨g, k, none⟩ v).frozen? a = w.frozen? a := by
  simp only [World.frozen?, World.setCell, Array.getElem?_modify]
  by_cases h : g = a.block
  · rw [if_pos h]
    cases hg : w.heap[a.block]? with
    | none => rfl
    | some o => cases o <;> rfl
  · rw [if_neg h]

theorem RowAt.set {w : World} {B g : Nat} {l : List UInt8} (h : RowAt w B g l) (k : Nat) (hk : k < l.length) (c : UInt8) (n : Int) (hn : n = (c.toNat : Int)) :
    RowAt (w.setCell ⟨g, k, none⟩ (.int .u8 n)) B g (l.set k c) := by
  subst hn
  obtain ⟨h1, h2, h3⟩ := h
  refine ⟨h1, fun j d hj => ?_, fun j hj => ?_⟩
  · rw [setCell_cell (h2 k l[k] (by simp [hk]))]
    by_cases hjk : j = k
    · subst hjk
      rw [List.getElem?_set_self hk] at hj
      cases hj; rw [if_pos rfl]
    · rw [if_neg hjk]
      rw [List.getElem?_set_ne (Ne.symm hjk)] at hj
      exact h2 j d hj
  · rw [setCell_frozen]; exact h3 j (by simpa using hj)

/-- []byte(s). -/
theorem run_bytes (w : World) (s : ByteArray) :
    ∃ cap w', (convert 9 70 (.string s)).run Tryz.prog w = .ok (.slice (some ⟨w.heap.size, 0, none⟩) s.size cap) w' ∧ RowAt w' w.heap.size w.heap.size s.data.toList ∧ Below w.heap.size w w' ∧ s.size ≤ cap ∧ w'.heap.size = w.heap.size + 1 := by
  refine ⟨_, _, Lib.run_convert_string_bytes (P := Tryz.prog) w 9 70 5 s Tryz.underlying9 Tryz.underlying70 Tryz.underlying5, ⟨Nat.le_refl _, fun j c hj => ?_, fun j hj => ?_⟩, ⟨rfl, rfl, rfl, by rw [Lib.bytesWorld_size]; omega, fun k hk => Lib.bytesWorld_at_old w _ s k hk⟩, ?_, Lib.bytesWorld_size _ _ _⟩
  · have hlt : j < s.size := by
      rcases Nat.lt_or_ge j s.size with h | h
      · exact h
      · rw [List.getElem?_eq_none (by rw [str_len]; exact h)] at hj; cases hj
    rw [Lib.bytesWorld_cell w _ s j hlt]
    simp [List.getD, hj]
  · have hh := Lib.bytesWorld_at_new w 5 s
    simp only [World.frozen?, hh]
    rw [str_len] at hj
    have : s.size ≤ (Lib.bytesCells w 5 s).size := by
      unfold Lib.bytesCells
      rw [Array.size_append, Array.size_map]
      exact Nat.le_add_right _ _
    simp; omega
  · exact grownCap_ge _ _ _ _
end Go.Proofs.YtjoeamlidmmioaaGreatDoor

/-
  WHAT strings.Builder DOES IN A BLOCK OF THE CALL's OWN: contracts of copyCheck, WriteByte, WriteString and String, over a block of whatever type T at whose head a Builder lies (condition: 'BlkOk T': two cells, no row of bytes).
-/
namespace Go.Proofs.YtjoeamlidmmioaaGreatDoor
open Go.RowKit
set_option linter.unusedVariables false
set_option maxRecDepth 100000

/-- A block of type T bears a Builder at its head. -/
def BlkOk (T : TypeId) : Prop := liesAt Tryz.prog Tryz.prog.depth T (2 / Tryz.prog.cellsOf T) 0 72 1 = true ∧ T ≠ 5

theorem sizeBuilder : (Tryz.prog.info? 72).map (·.size) = some 2 := by kernel_rfl
theorem copyCheck_used (b : Nat) (w : World) (h0 : w.cell? ⟨b, 0, none⟩ = some (.pointer (some ⟨b, 0, none⟩))) :
    Calls Tryz.prog 65 #[.pointer (some ⟨b, 0, none⟩)] w fun e w' => e = .returned (.tuple #[]) ∧ w' = w := by
  obtain ⟨j, hj, hjs⟩ := Option.map_eq_some_iff.1 sizeBuilder
  go_enter Tryz.func65, Tryz.ntmps65
  go_wp2
  rw [Lib.run_neq_ptr_same w _ Tryz.underlying69 hj]
  go_wp2
  go_end0
  exact ⟨rfl, rfl⟩

theorem copyCheck_fresh {T : TypeId} (hT : BlkOk T) (b : Nat) (w : World) (h0 : w.cell? ⟨b, 0, none⟩ = some (.pointer none)) (hsh : w.shape? b = some (T, 2)) (hfz : w.frozen? ⟨b, 0, none⟩ = false) :
    Calls Tryz.prog 65 #[.pointer (some ⟨b, 0, none⟩)] w fun e w' => e = .returned (.tuple #[]) ∧ w' = w.setCell ⟨b, 0, none⟩ (.pointer (some ⟨b, 0, none⟩)) := by
  obtain ⟨j, hj, hjs⟩ := Option.map_eq_some_iff.1 sizeBuilder
  go_enter Tryz.func65, Tryz.ntmps65
  go_wp2
  rw [Lib.run_to_unsafe w ⟨b, 0, none⟩ Tryz.underlying69 Tryz.underlying135 hj (by rw [hjs]; decide) hsh (Nat.zero_lt_succ 1)]
  simp only [Result.andThen]
  rw [Oper.upon_value]
  go_wp2
  rw [run_callFunc_extern Tryz.func93 (by kernel_rfl) (by kernel_rfl) (by kernel_rfl) (e := Extern.AbiNoEscape.same) (by kernel_rfl)]
  rw [Lib.run_noEscape]
  simp only [Result.andThen]
  rw [Oper.upon_value]
  go_wp2
  rw [Lib.run_from_unsafe w ⟨b, 0, none⟩ Tryz.underlying135 Tryz.underlying69 hj hsh hT.1]
  simp only [Result.andThen]
  rw [Oper.upon_value]
  go_wp2
  go_end0
  exact ⟨rfl, rfl⟩

theorem copyCheck_any {T : TypeId} (hT : BlkOk T) (B b : Nat) (bs : List Value) (w : World) (h : Lib.IsBuilder T 5 B b bs w) :
    Calls Tryz.prog 65 #[.pointer (some ⟨b, 0, none⟩)] w fun e w' => e = .returned (.tuple #[]) ∧ (Lib.BuilderAt T 5 B b (.pointer (some ⟨b, 0, none⟩)) bs w' ∧ Below B w w') := by
  rcases h with h | h
  · refine (copyCheck_fresh hT b w h.cell0 h.shape h.frozen0).mono ?_
    rintro e w' ⟨rfl, rfl⟩
    exact ⟨rfl, h.used _, (Below.refl B w).setCell (p := ⟨b, 0, none⟩) h.1 _⟩
  · refine (copyCheck_used b w h.cell0).mono ?_
    rintro e w' ⟨rfl, rfl⟩
    exact ⟨rfl, h, Below.refl B _⟩

set_option maxHeartbeats 2000000 in
set_option maxRecDepth 100000 in
theorem writeString_any {T : TypeId} (hT : BlkOk T) (B b : Nat) (bs : List Value) (s : ByteArray) (w : World) (h : Lib.IsBuilder T 5 B b bs w) (hlen : bs.length + s.size ≤ 140737488355328) (hBw : B ≤ w.heap.size) :
    Calls Tryz.prog 39 #[.pointer (some ⟨b, 0, none⟩), .string s] w fun e w' => e = .returned (.tuple #[.int .i64 s.size, .nilIface]) ∧ (Lib.BuilderAt T 5 B b (.pointer (some ⟨b, 0, none⟩)) (bs ++ Lib.strCells s) w' ∧ Below B w w') := by
  obtain ⟨i0, hi, hz0, hz1, hz2⟩ := infoByte_parts
  go_enter Tryz.func39, Tryz.ntmps39
  go_wp2_with (go_at_call 65; refine (copyCheck_any hT B b bs _ h).mono ?_)
  rintro e w1 ⟨rfl, h1, hb1⟩
  obtain ⟨hB, v, hbk, hown, hne⟩ := h1
  have c0 : w1.cell? ⟨b, 0, none⟩ = some (.pointer (some ⟨b, 0, none⟩)) := by rw [Lib.cell_of_heap hbk]; rfl
  have c1 : w1.cell? ⟨b, 1, none⟩ = some v := by rw [Lib.cell_of_heap hbk]; rfl
  go_wp2_with (at_builtin; refine Lib.wpList_append_own_string _ rfl _ _ 70 9 rfl B 5 i0 Tryz.underlying70 Tryz.underlying9 hi hz0 hz1 hz2 _ _ _ rfl hown s rfl ?c3 ?c4 ?c5 ?_)
  case c3 => unfold maxLen; omega
  case c4 => omega
  case c5 => have := hb1.size; omega
  intro v' w2 hown' hgrow _
  have hlt : b < w1.heap.size := by
    rcases Nat.lt_or_ge b w1.heap.size with h' | h'
    · exact h'
    · simp [Array.getElem?_eq_none h'] at hbk
  have hb2 : w2.heap[b]? = some (.cells #[.pointer (some ⟨b, 0, none⟩), v] T (0, 0)) := by
    rw [hgrow.block b hlt (fun e => hne e.symm)]
    exact hbk
  have d0 : w2.cell? ⟨b, 0, none⟩ = some (.pointer (some ⟨b, 0, none⟩)) := by rw [Lib.cell_of_heap hb2]; rfl
  have d1 : w2.cell? ⟨b, 1, none⟩ = some v := by rw [Lib.cell_of_heap hb2]; rfl
  have f1 : w2.frozen? ⟨b, 1, none⟩ = false := Lib.frozen_of_heap hb2 1
  obtain ⟨ao, n', cap, rfl⟩ : ∃ ao n' cap, v' = .slice ao n' cap := by
    rcases hown'.2 with ⟨hv, _⟩ | ⟨g, cap, cur, hv, _⟩
    · exact ⟨_, _, _, hv⟩
    · exact ⟨_, _, _, hv⟩
  go_wp2
  go_ret2
  refine ⟨rfl, ?_, ?_⟩
  · exact Lib.BuilderAt.put (T := T) (e := 5) hB hb2 (bs' := bs ++ Lib.strCells s) (by rw [List.length_append, Lib.strCells_length]; exact hown') hT.2
  · exact (hb1.grown hgrow (by have := hb1.size; omega) (fun k hk => (World.ownsRow.lt hown k hk).1)).setCell (p := ⟨b, 1, none⟩) hB _

set_option maxHeartbeats 2000000 in
set_option maxRecDepth 100000 in
theorem string_some {T : TypeId} (B b : Nat) (l : List UInt8) (w : World) (h : Lib.IsBuilder T 5 B b (Lib.byteCells l) w) (h0 : l ≠ []) :
    Calls Tryz.prog 40 #[.pointer (some ⟨b, 0, none⟩)] w fun e w' => e = .returned (.string ⟨l.toArray⟩) ∧ Below B w w' := by
  obtain ⟨p, hB, v, hbk, hown, hne⟩ : ∃ p, Lib.BuilderAt T 5 B b p (Lib.byteCells l) w := by
    rcases h with h | h
    · exact ⟨_, h⟩
    · exact ⟨_, h⟩
  have hl0 : l.length ≠ 0 := by simpa using h0
  rw [Lib.byteCells_length] at hown
  obtain ⟨g, cap, cur, rfl, hbg, hg, hnc, hcm, hcs, htake⟩ : ∃ g cap cur, v = .slice (some ⟨g, 0, none⟩) l.length cap ∧ B ≤ g ∧ w.heap[g]? = some (.cells cur 5 (0, 0)) ∧ l.length ≤ cap ∧ cap ≤ maxLen ∧ cur.size = cap * 1 ∧ cur.toList.take (l.length * 1) = Lib.byteCells l := by
    rcases hown.2 with ⟨_, hz⟩ | ⟨g, cap, cur, hv, r⟩
    · exact absurd hz hl0
    · exact ⟨g, cap, cur, hv, r⟩
  have c1 : w.drew.cell? ⟨b, 1, none⟩ = some (.slice (some ⟨g, 0, none⟩) l.length cap) := by
    have : w.drew.heap[b]? = some (.cells #[p, .slice (some ⟨g, 0, none⟩) l.length cap] T (0, 0)) := hbk
    rw [Lib.cell_of_heap this]; rfl
  have hSD : (Builtin.unsafeSliceData_ #[70] 117 #[.slice (some ⟨g, 0, none⟩) l.length cap]).run Tryz.prog w.drew = .ok (.pointer (some ⟨g, 0, none⟩)) w.drew :=
    Lib.run_unsafeSliceData_row _ _ _ _ _ _ (by omega)
  have hUS : (Builtin.unsafeString_ #[117, 3] 9 #[.pointer (some ⟨g, 0, none⟩), .int .i64 l.length]).run Tryz.prog w.drew = .ok (.string ⟨l.toArray⟩) (w.drew.freeze ⟨g, 0, none⟩ l.length) := by
    refine Lib.run_unsafeString_row w.drew 117 3 9 5 Tryz.underlying117 cellsByte g cur.size (by have hg' : w.drew.heap[g]? = some (.cells cur 5 (0, 0)) := hg; simp [World.shape?, hg']) l h0 (by omega) (by unfold maxLen at hcm; omega) ?_
    intro j x hx
    have := hown.cells (g := g) rfl j (.int .u8 x.toNat) (by simp [Lib.byteCells, hx])
    exact this
  go_enter Tryz.func40, Tryz.ntmps40
  go_wp2
  go_region
  all_goals (go_wp2; go_ret; exact ⟨rfl, Lib.below_freeze (Below.drew (Below.refl B w)) (p := ⟨g, 0, none⟩) hbg _⟩)

set_option maxHeartbeats 2000000 in
set_option maxRecDepth 100000 in
theorem string_nil {T : TypeId} (B b : Nat) (p : Value) (w : World) (hbk : w.heap[b]? = some (.cells #[p, .slice none 0 0] T (0, 0))) :
    Calls Tryz.prog 40 #[.pointer (some ⟨b, 0, none⟩)] w fun e w' => e = .returned (.string ⟨#[]⟩) ∧ Below B w w' := by
  have hUS : ∀ (W : World) (q : Option Addr), (Builtin.unsafeString_ #[117, 3] 9 #[.pointer q, .int .i64 0]).run Tryz.prog W = .ok (.string .empty) W := fun W q => Lib.run_unsafeString_none W _ _ _ q
  have c1 : w.drew.cell? ⟨b, 1, none⟩ = some (.slice none 0 0) := by
    have : w.drew.heap[b]? = some (.cells #[p, .slice none 0 0] T (0, 0)) := hbk
    rw [Lib.cell_of_heap this]; rfl
  have hSD : (Builtin.unsafeSliceData_ #[70] 117 #[.slice none 0 0]).run Tryz.prog w.drew = .ok (.pointer none) w.drew := rfl
  go_enter Tryz.func40, Tryz.ntmps40
  go_wp2
  go_region
  all_goals (go_wp2; go_ret; exact ⟨rfl, Below.drew (Below.refl B w)⟩)

set_option maxHeartbeats 2000000 in
set_option maxRecDepth 100000 in
theorem string_noroom {T : TypeId} (B b g : Nat) (p : Value) (cur : Array Value) (w : World) (hBw : B ≤ w.heap.size) (hbk : w.heap[b]? = some (.cells #[p, .slice (some ⟨g, 0, none⟩) 0 0] T (0, 0))) (hg : w.heap[g]? = some (.cells cur 5 (0, 0))) :
    Calls Tryz.prog 40 #[.pointer (some ⟨b, 0, none⟩)] w fun e w' => e = .returned (.string ⟨#[]⟩) ∧ Below B w w' := by
  have hUS : ∀ (W : World) (q : Option Addr), (Builtin.unsafeString_ #[117, 3] 9 #[.pointer q, .int .i64 0]).run Tryz.prog W = .ok (.string .empty) W := fun W q => Lib.run_unsafeString_none W _ _ _ q
  have hlt : b < w.heap.size := by
    rcases Nat.lt_or_ge b w.heap.size with h' | h'
    · exact h'
    · simp [Array.getElem?_eq_none h'] at hbk
  have c1 : w.drew.cell? ⟨b, 1, none⟩ = some (.slice (some ⟨g, 0, none⟩) 0 0) := by
    have : w.drew.heap[b]? = some (.cells #[p, .slice (some ⟨g, 0, none⟩) 0 0] T (0, 0)) := hbk
    rw [Lib.cell_of_heap this]; rfl
  have hSD : (Builtin.unsafeSliceData_ #[70] 117 #[.slice (some ⟨g, 0, none⟩) 0 0]).run Tryz.prog w.drew = .ok (.pointer (some ⟨w.drew.heap.size, 0, none⟩)) (w.drew.alloc (.view ⟨g, 0, none⟩ 5)) :=
    Lib.run_unsafeSliceData_zero w.drew _ _ 5 Tryz.underlying117 ⟨g, 0, none⟩ 0 (5, cur.size) (by have hg' : w.drew.heap[g]? = some (.cells cur 5 (0, 0)) := hg; simp [World.shape?, hg'])
  have c2 : (w.drew.alloc (.view ⟨g, 0, none⟩ 5)).cell? ⟨b, 1, none⟩ = some (.slice (some ⟨g, 0, none⟩) 0 0) := by
    have : (w.drew.alloc (.view ⟨g, 0, none⟩ 5)).heap[b]? = _ := (Lib.alloc_old w.drew _ b hlt).trans hbk
    rw [Lib.cell_of_heap this]; rfl
  have c3 : (w.alloc (.view ⟨g, 0, none⟩ 5)).drew.cell? ⟨b, 1, none⟩ = some (.slice (some ⟨g, 0, none⟩) 0 0) := c2
  have c0 : w.cell? ⟨b, 1, none⟩ = some (.slice (some ⟨g, 0, none⟩) 0 0) := c1
  go_enter Tryz.func40, Tryz.ntmps40
  go_wp2
  go_region
  all_goals (go_wp2; go_ret; exact ⟨rfl, (Below.drew (Below.refl B w)).alloc hBw _⟩)

set_option maxHeartbeats 2000000 in
set_option maxRecDepth 100000 in
theorem string_room {T : TypeId} (B b g cap : Nat) (p : Value) (w : World) (hc0 : cap ≠ 0) (hbk : w.heap[b]? = some (.cells #[p, .slice (some ⟨g, 0, none⟩) 0 cap] T (0, 0))) :
    Calls Tryz.prog 40 #[.pointer (some ⟨b, 0, none⟩)] w fun e w' => e = .returned (.string ⟨#[]⟩) ∧ Below B w w' := by
  have hUS : ∀ (W : World) (q : Option Addr), (Builtin.unsafeString_ #[117, 3] 9 #[.pointer q, .int .i64 0]).run Tryz.prog W = .ok (.string .empty) W := fun W q => Lib.run_unsafeString_none W _ _ _ q
  have c1 : w.drew.cell? ⟨b, 1, none⟩ = some (.slice (some ⟨g, 0, none⟩) 0 cap) := by
    have : w.drew.heap[b]? = some (.cells #[p, .slice (some ⟨g, 0, none⟩) 0 cap] T (0, 0)) := hbk
    rw [Lib.cell_of_heap this]; rfl
  have hSD : (Builtin.unsafeSliceData_ #[70] 117 #[.slice (some ⟨g, 0, none⟩) 0 cap]).run Tryz.prog w.drew = .ok (.pointer (some ⟨g, 0, none⟩)) w.drew :=
    Lib.run_unsafeSliceData_row _ _ _ _ _ _ hc0
  clear hc0
  go_enter Tryz.func40, Tryz.ntmps40
  go_wp2
  go_region
  all_goals (go_wp2; go_ret; exact ⟨rfl, Below.drew (Below.refl B w)⟩)

/-- String, whatever the builder holds. -/
theorem string_any {T : TypeId} (B b : Nat) (l : List UInt8) (w : World) (h : Lib.IsBuilder T 5 B b (Lib.byteCells l) w) (hBw : B ≤ w.heap.size) :
    Calls Tryz.prog 40 #[.pointer (some ⟨b, 0, none⟩)] w fun e w' => e = .returned (.string ⟨l.toArray⟩) ∧ Below B w w' := by
  cases l with
  | cons x r => exact string_some B b (x :: r) w h (by simp)
  | nil =>
    obtain ⟨p, hB, v, hbk, hown, hne⟩ : ∃ p, Lib.BuilderAt T 5 B b p [] w := by
      rcases h with h | h
      · exact ⟨_, h⟩
      · exact ⟨_, h⟩
    rcases hown.2 with ⟨rfl, _⟩ | ⟨g, cap, cur, rfl, hbg, hg, _, _, _, _⟩
    · exact string_nil B b p w hbk
    · by_cases hc0 : cap = 0
      · subst hc0
        exact string_noroom B b g p cur w hBw hbk hg
      · exact string_room B b g cap p w hc0 hbk

/-! ### The same over lists of bytes -/
theorem byteCells_snoc (l : List UInt8) (c : Nat) (hc : c < 256) : Lib.byteCells l ++ [.int .u8 (c : Int)] = Lib.byteCells (l ++ [UInt8.ofNat c]) := by
  have : (UInt8.ofNat c).toNat = c := by rw [UInt8.toNat_ofNat']; exact Nat.mod_eq_of_lt hc
  simp [Lib.byteCells, this]
theorem byteCells_append (l m : List UInt8) : Lib.byteCells l ++ Lib.byteCells m = Lib.byteCells (l ++ m) := by simp [Lib.byteCells]

theorem writeString_list {T : TypeId} (hT : BlkOk T) (B b : Nat) (l : List UInt8) (s : ByteArray) (w : World) (h : Lib.IsBuilder T 5 B b (Lib.byteCells l) w) (hlen : l.length + s.size ≤ 140737488355328) (hBw : B ≤ w.heap.size) :
    Calls Tryz.prog 39 #[.pointer (some ⟨b, 0, none⟩), .string s] w fun e w' => e = .returned (.tuple #[.int .i64 s.size, .nilIface]) ∧ Lib.IsBuilder T 5 B b (Lib.byteCells (l ++ s.data.toList)) w' ∧ Below B w w' :=
  (writeString_any hT B b (Lib.byteCells l) s w h (by rw [Lib.byteCells_length]; exact hlen) hBw).mono fun e w' ⟨he, h1, h2⟩ =>
    ⟨he, Or.inr (by rw [Lib.strCells_eq, byteCells_append] at h1; exact h1), h2⟩

/-- A draw leaves a builder as it is. -/
theorem builder_drew {T e : TypeId} {B b : Nat} {bs : List Value} {w : World} (h : Lib.IsBuilder T e B b bs w) : Lib.IsBuilder T e B b bs w.drew := h
end Go.Proofs.YtjoeamlidmmioaaGreatDoor


/-
  SMALL LAWS THAT EVERY LAYER WITH OBJECTS USES: what a call may turn ('Chg S w w'': the blocks of S, and new ones); a block known whole ('own').
-/
namespace Go.Proofs.YtjoeamlidmmioaaGreatDoor
open Go.RowKit
set_option linter.unusedVariables false
set_option maxRecDepth 100000

/-- Of what was there, only blocks of S have turned. -/
structure Chg (S : Nat → Prop) (w w' : World) : Prop where
  os : w'.os = w.os
  tape : w'.tape = w.tape
  output : w'.output = w.output
  size : w.heap.size ≤ w'.heap.size
  block : ∀ b, b < w.heap.size → ¬ S b → w'.heap[b]? = w.heap[b]?
/-- S, and what has been laid since. -/
def grow (S : Nat → Prop) (w w' : World) : Nat → Prop := fun b => S b ∨ (w.heap.size ≤ b ∧ b < w'.heap.size)

theorem Chg.refl (S : Nat → Prop) (w : World) : Chg S w w := ⟨rfl, rfl, rfl, Nat.le_refl _, fun _ _ _ => rfl⟩
theorem Chg.trans {S T : Nat → Prop} {a b c : World} (h : Chg S a b) (k : Chg T b c) (hT : ∀ x, T x → S x ∨ a.heap.size ≤ x) : Chg S a c :=
  ⟨k.os.trans h.os, k.tape.trans h.tape, k.output.trans h.output, Nat.le_trans h.size k.size, fun x hx hs =>
    (k.block x (Nat.lt_of_lt_of_le hx h.size) (fun ht => by rcases hT x ht with h1 | h1; exact hs h1; omega)).trans (h.block x hx hs)⟩
theorem Chg.mono {S T : Nat → Prop} {w w' : World} (h : Chg S w w') (hs : ∀ x, S x → T x) : Chg T w w' := ⟨h.os, h.tape, h.output, h.size, fun b hb ht => h.block b hb (fun k => ht (hs b k))⟩
theorem Chg.of_below {S : Nat → Prop} {w w' : World} (h : Below w.heap.size w w') : Chg S w w' := ⟨h.os, h.tape, h.output, h.size, fun b hb _ => h.block b hb⟩
theorem Chg.below {S : Nat → Prop} {w w' : World} {B : Nat} (h : Chg S w w') (hB : B ≤ w.heap.size) (hS : ∀ b, S b → B ≤ b) : Below B w w' :=
  ⟨h.os, h.tape, h.output, h.size, fun b hb => h.block b (by omega) (fun k => by have := hS b k; omega)⟩
theorem Chg.of_grown {w w' : World} {row : Option Nat} (h : w.grownBy w' row) : Chg (fun b => row = some b) w w' := ⟨h.os, h.tape, h.output, h.size, fun b hb hn => h.block b hb (fun e => hn e.symm)⟩
theorem Chg.setCell (w : World) (p : Addr) (u : Value) : Chg (fun b => b = p.block) w (w.setCell p u) := ⟨rfl, rfl, rfl, by simp [World.setCell], fun b hb hn => Below.heap_setCell _ _ _ _ hn⟩
theorem Chg.alloc (S : Nat → Prop) (w : World) (o : Obj) : Chg S w (w.alloc o) := ⟨rfl, rfl, rfl, by simp, fun b hb _ => Below.heap_alloc _ _ _ hb⟩
theorem Chg.drewN {S : Nat → Prop} {a w : World} (h : Chg S a w) (n : Nat) : Chg S a (w.drewN n) := ⟨h.os, h.tape, h.output, h.size, h.block⟩
theorem setCell_size (w : World) (p : Addr) (u : Value) : (w.setCell p u).heap.size = w.heap.size := by simp [World.setCell]
theorem Chg.keep {S T : Nat → Prop} {w w' : World} (h : Chg S w w') (hT : ∀ b, T b → b < w.heap.size ∧ ¬ S b) : ∀ b, T b → w'.heap[b]? = w.heap[b]? := fun b hb => h.block b (hT b hb).1 (hT b hb).2
theorem grow_mono {S : Nat → Prop} {w w' : World} : ∀ b, S b → grow S w w' b := fun b h => .inl h
theorem grow_lt {S : Nat → Prop} {w w' : World} (hS : ∀ b, S b → b < w.heap.size) (hs : w.heap.size ≤ w'.heap.size) : ∀ b, grow S w w' b → b < w'.heap.size := fun b h => by
  rcases h with h | h
  · have := hS b h; omega
  · exact h.2
theorem grow_ge {S : Nat → Prop} {w w' : World} {B : Nat} (hS : ∀ b, S b → B ≤ b) (hB : B ≤ w.heap.size) : ∀ b, grow S w w' b → B ≤ b := fun b h => by
  rcases h with h | h
  · exact hS b h
  · omega

/-- A block of cells, known whole. -/
def own (w : World) (b : Nat) (cs : Array Value) (T : TypeId) : Prop := w.heap[b]? = some (.cells cs T (0, 0))
theorem own.cell {w : World} {b : Nat} {cs : Array Value} {T : TypeId} (h : own w b cs T) (k : Nat) : w.cell? ⟨b, k, none⟩ = cs[k]? := Lib.cell_of_heap h k
theorem own.frozen {w : World} {b : Nat} {cs : Array Value} {T : TypeId} (h : own w b cs T) (k : Nat) : w.frozen? ⟨b, k, none⟩ = false := Lib.frozen_of_heap h k
theorem own.lt {w : World} {b : Nat} {cs : Array Value} {T : TypeId} (h : own w b cs T) : b < w.heap.size := (Array.getElem?_eq_some_iff.1 h).1
theorem own.set {w : World} {b : Nat} {cs : Array Value} {T : TypeId} (h : own w b cs T) (k : Nat) (v : Value) : own (w.setCell ⟨b, k, none⟩ v) b (cs.setIfInBounds k v) T := by
  unfold own at *
  simp [World.setCell, Array.getElem?_modify, h]
theorem own.other {w : World} {b : Nat} {cs : Array Value} {T : TypeId} (h : own w b cs T) {p : Addr} (hp : b ≠ p.block) (v : Value) : own (w.setCell p v) b cs T := by
  unfold own at *
  rw [Below.heap_setCell _ _ _ _ hp]; exact h
theorem own.new (w : World) (cs : Array Value) (T : TypeId) : own (w.alloc (.cells cs T)) w.heap.size cs T := heap_alloc_new w _
theorem own.chg {w w' : World} {S : Nat → Prop} {b : Nat} {cs : Array Value} {T : TypeId} (h : own w b cs T) (hc : Chg S w w') (hb : ¬ S b) : own w' b cs T := by
  unfold own at *
  rw [hc.block b (Array.getElem?_eq_some_iff.1 h).1 hb]; exact h
theorem own.same {w w' : World} {b : Nat} {cs : Array Value} {T : TypeId} (h : own w b cs T) (hb : w'.heap[b]? = w.heap[b]?) : own w' b cs T := by
  unfold own at *
  rw [hb]; exact h

theorem ownsRow_same {w w' : World} {B : Nat} {e : TypeId} {size : Nat} {v : Value} {n : Nat} {xs : List Value} (h : w.ownsRow B e size v n xs) (hs : ∀ b, v.ownBlock = some b → w'.heap[b]? = w.heap[b]?) : w'.ownsRow B e size v n xs := by
  obtain ⟨h1, h2⟩ := h
  refine ⟨h1, ?_⟩
  rcases h2 with h2 | ⟨g, cap, cur, hv, hB, hg, h3⟩
  · exact .inl h2
  · exact .inr ⟨g, cap, cur, hv, hB, by rw [hs g (by rw [hv]; rfl)]; exact hg, h3⟩
theorem ownsMap_same {H : Type} {w w' : World} {P : Program} {k : TypeId} {R : Value → Option (DataW H × List MemPlace)} {b n : Nat} {D : DataW H} (h : w.ownsMap P k R b n D) (hs : w'.heap[b]? = w.heap[b]?) : w'.ownsMap P k R b n D := by
  obtain ⟨es, clock, hb, r⟩ := h
  exact ⟨es, clock, by rw [hs]; exact hb, r⟩
theorem ownsMap_tight {H : Type} {w : World} {P : Program} {k : TypeId} {R : Value → Option (DataW H × List MemPlace)} {b n : Nat} {D : DataW H} (h : w.ownsMap P k R b n D) : w.ownsMap P k R b (Maps.size D) D := by
  obtain ⟨es, clock, hb, F, _, rfl⟩ := h
  exact ⟨es, clock, hb, F, by simp [Maps.size, length_sorted], rfl⟩
theorem mapTurned_chg {w w' : World} {b : Nat} (h : w.mapTurned w' b) : Chg (fun x => x = b) w w' := (Chg.of_grown h.grown).mono (fun x e => by cases e; rfl)
theorem mapTurned_size {w w' : World} {b : Nat} (h : w.mapTurned w' b) : w'.heap.size = w.heap.size := by
  obtain ⟨es, clock, es', clock', hb, rfl⟩ := h
  simp [ChangeMaps.setBlock]

/-- One segment of a row of numbers exchanged for another. -/
theorem nodup_swap {A X Y B : List Nat} {N : Nat} (h : (A ++ (X ++ B)).Nodup) (hY : Y.Nodup) (hlt : ∀ b ∈ A ++ (X ++ B), b < N) (hsub : ∀ b ∈ Y, b ∈ X ∨ N ≤ b) : (A ++ (Y ++ B)).Nodup := by
  rw [List.nodup_append] at h ⊢
  obtain ⟨hA, hXB, hd⟩ := h
  rw [List.nodup_append] at hXB ⊢
  obtain ⟨hX, hB, hd2⟩ := hXB
  refine ⟨hA, ⟨hY, hB, fun b hb c hc e => ?_⟩, fun b hb c hc e => ?_⟩
  · subst e
    rcases hsub b hb with h1 | h1
    · exact hd2 b h1 b hc rfl
    · have := hlt b (by simp [hc]); omega
  · subst e
    rcases List.mem_append.1 hc with hc | hc
    · rcases hsub b hc with h1 | h1
      · exact hd b hb b (by simp [h1]) rfl
      · have := hlt b (by simp [hb]); omega
    · exact hd b hb b (by simp [hc]) rfl
end Go.Proofs.YtjoeamlidmmioaaGreatDoor

/-
  GENERAL, for a seat that holds the codec (stages 3, 4, 7 ..): what G0 says stands in Base and Chg there: this text only imports.
-/

/-
  GENERAL: rows of things, each of so many cells (structs of one-cell fields, ints, texts): rows that the call has made (ROwn) and rows that lie anywhere (RAt); cut, put behind one another, one cell turned.
-/
namespace Go.Proofs.YtjoeamlidmmioaaGreatDoor
open Go.RowKit
set_option linter.unusedVariables false
set_option maxRecDepth 100000

/-- How a thing lies in a row: the slice's type, its element's, how many cells, how many bytes, the cells, the zero. -/
structure RowTy (α : Type) where
  st : TypeId
  el : TypeId
  n : Nat
  bytes : Nat
  cs : α → List Value
  zero : Value
structure RowTy.Ok {α : Type} (R : RowTy α) : Prop where
  len : ∀ x, (R.cs x).length = R.n
  one : ∀ x, ∀ u ∈ R.cs x, u.oneCell' = true
  pos : 0 < R.n
  under : Tryz.prog.underlying R.st = some (.slice R.el)
  info : (Tryz.prog.info? R.el).map (fun i => (i.zero, i.size, i.bytes)) = some (some R.zero, R.n, R.bytes)
  elem : Tryz.prog.elem R.st = R.el
  zs : R.zero.cells.size = R.n
  small : R.bytes ≤ 1000
section
variable {α : Type} {R : RowTy α}
theorem RowTy.Ok.parts (o : R.Ok) : ∃ i, Tryz.prog.info? R.el = some i ∧ i.zero = some R.zero ∧ i.size = R.n ∧ i.bytes = R.bytes := by
  obtain ⟨i, hi, hz⟩ := Option.map_eq_some_iff.1 o.info
  simp only [Prod.mk.injEq] at hz
  exact ⟨i, hi, hz.1, hz.2.1, hz.2.2⟩
def RowTy.flat (R : RowTy α) (L : List α) : List Value := L.flatMap R.cs
theorem flat_nil : R.flat [] = [] := rfl
theorem flat_cons (x : α) (r : List α) : R.flat (x :: r) = R.cs x ++ R.flat r := rfl
theorem flat_append (A C : List α) : R.flat (A ++ C) = R.flat A ++ R.flat C := by simp [RowTy.flat]
theorem flat_length (o : R.Ok) (L : List α) : (R.flat L).length = L.length * R.n := by
  induction L with
  | nil => simp [RowTy.flat]
  | cons x r ih => rw [flat_cons, List.length_append, ih, o.len, List.length_cons, Nat.add_mul, Nat.one_mul, Nat.add_comm]
theorem flat_one (o : R.Ok) (L : List α) : ∀ u ∈ R.flat L, u.oneCell' = true := by
  intro u hu
  obtain ⟨x, _, hx⟩ := List.mem_flatMap.1 hu
  exact o.one x u hx
theorem flat_get (o : R.Ok) : ∀ {L : List α} {i j : Nat} {x : α} {u : Value}, L[i]? = some x → (R.cs x)[j]? = some u → (R.flat L)[i * R.n + j]? = some u
  | [], i, j, x, u, hi, hj => by simp at hi
  | y :: r, 0, j, x, u, hi, hj => by
    simp at hi; subst hi
    have hlt : j < (R.cs y).length := (List.getElem?_eq_some_iff.1 hj).1
    rw [flat_cons, Nat.zero_mul, Nat.zero_add, List.getElem?_append_left hlt]
    exact hj
  | y :: r, i + 1, j, x, u, hi, hj => by
    rw [flat_cons, List.getElem?_append_right (by rw [o.len, Nat.add_mul]; omega), o.len]
    have : (i + 1) * R.n + j - R.n = i * R.n + j := by rw [Nat.add_mul]; omega
    rw [this]
    exact flat_get o (by simpa using hi) hj
theorem flat_take (o : R.Ok) (L : List α) : ∀ k, R.flat (L.take k) = (R.flat L).take (k * R.n)
  | 0 => by simp [RowTy.flat]
  | k + 1 => by
    cases L with
    | nil => simp [RowTy.flat]
    | cons e r =>
      rw [List.take_succ_cons, flat_cons, flat_cons, flat_take o r k, show (k + 1) * R.n = (R.cs e).length + k * R.n by rw [o.len, Nat.add_mul]; omega, List.take_length_add_append]
theorem flat_drop (o : R.Ok) (L : List α) : ∀ k, R.flat (L.drop k) = (R.flat L).drop (k * R.n)
  | 0 => by simp
  | k + 1 => by
    cases L with
    | nil => simp [RowTy.flat]
    | cons e r =>
      rw [List.drop_succ_cons, flat_cons, flat_drop o r k, show (k + 1) * R.n = (R.cs e).length + k * R.n by rw [o.len, Nat.add_mul]; omega, ← List.drop_drop, List.drop_left]
theorem flat_put (o : R.Ok) : ∀ {L : List α} {i j : Nat} {x x' : α} {u : Value}, L[i]? = some x → j < R.n → R.cs x' = (R.cs x).set j u → R.flat (L.set i x') = (R.flat L).set (i * R.n + j) u
  | [], i, j, x, x', u, hi, hj, hx => by simp at hi
  | y :: r, 0, j, x, x', u, hi, hj, hx => by
    simp at hi; subst hi
    rw [List.set_cons_zero, flat_cons, flat_cons, hx, Nat.zero_mul, Nat.zero_add, List.set_append, if_pos (by rw [o.len]; exact hj)]
  | y :: r, i + 1, j, x, x', u, hi, hj, hx => by
    rw [List.set_cons_succ, flat_cons, flat_cons, flat_put o (by simpa using hi) hj hx, List.set_append, if_neg (by rw [o.len, Nat.add_mul]; omega), o.len]
    congr 2
    rw [Nat.add_mul]; omega

/-- A row that lies somewhere, and is read. -/
def RAt (R : RowTy α) (w : World) (v : Value) (L : List α) : Prop :=
  ∃ a cap, v = .slice a L.length cap ∧ L.length ≤ cap ∧ (a = none → cap = 0) ∧ cap ≤ maxLen ∧ (L ≠ [] → ∃ sb so, a = some ⟨sb, so, none⟩ ∧ sb < w.heap.size ∧ ∀ j u, (R.flat L)[j]? = some u → w.cell? ⟨sb, so + j, none⟩ = some u)
theorem RAt.same {w w' : World} {v : Value} {L : List α} (h : RAt R w v L) (hs : ∀ b, v.ownBlock = some b → b < w.heap.size → w'.heap[b]? = w.heap[b]?) (hz : w.heap.size ≤ w'.heap.size) : RAt R w' v L := by
  obtain ⟨a, cap, rfl, h1, h2, h3, h4⟩ := h
  refine ⟨a, cap, rfl, h1, h2, h3, fun hne => ?_⟩
  obtain ⟨sb, so, rfl, hlt, hc⟩ := h4 hne
  refine ⟨sb, so, rfl, by omega, fun j u hj => ?_⟩
  have := hc j u hj
  unfold World.cell? at *
  rw [hs sb rfl hlt]
  exact this
theorem RAt.below {w w' : World} {v : Value} {L : List α} (h : RAt R w v L) (hb : Below w.heap.size w w') : RAt R w' v L := h.same (fun b _ hl => hb.block b hl) hb.size
theorem RAt.drewN {w : World} {v : Value} {L : List α} (h : RAt R w v L) (n : Nat) : RAt R (w.drewN n) v L := h
/-- Its shape, and the cells of each of its things (the address as the walk spells it, but for 'R.n'). -/
theorem RAt.at (o : R.Ok) {w : World} {v : Value} {L : List α} (h : RAt R w v L) : ∃ a cap, v = .slice a L.length cap ∧ L.length ≤ cap ∧ (a = none → cap = 0) ∧ ∀ (k : Nat) x, L[k]? = some x → ∃ sb so, a = some ⟨sb, so, none⟩ ∧ sb < w.heap.size ∧ ∀ j u, (R.cs x)[j]? = some u → w.cell? ⟨sb, so + k * R.n + j, none⟩ = some u := by
  obtain ⟨a, cap, rfl, h1, h2, h3, h4⟩ := h
  refine ⟨a, cap, rfl, h1, h2, fun k x hk => ?_⟩
  obtain ⟨sb, so, rfl, hlt, hc⟩ := h4 (by intro e; simp [e] at hk)
  exact ⟨sb, so, rfl, hlt, fun j u hj => by rw [Nat.add_assoc]; exact hc _ _ (flat_get o hk hj)⟩
theorem rAt_nil (w : World) : RAt R w (.slice none 0 0) [] := ⟨none, 0, rfl, Nat.le_refl _, (fun _ => rfl), Nat.zero_le _, fun h => absurd rfl h⟩
theorem rAt_own (o : R.Ok) {w : World} {b : Nat} {L : List α} {T : TypeId} {cs : Array Value} (h : own w b cs T) (hc : cs.toList = R.flat L) (n : Nat) (hn : n = L.length) (hm : n ≤ maxLen) : RAt R w (.slice (some ⟨b, 0, none⟩) n n) L := by
  subst hn
  refine ⟨some ⟨b, 0, none⟩, L.length, rfl, Nat.le_refl _, (fun e => by cases e), hm, fun _ => ⟨b, 0, rfl, h.lt, fun j u hj => ?_⟩⟩
  rw [Nat.zero_add, h.cell j, ← hj, ← hc]
  simp
theorem rAt_box (o : R.Ok) {w : World} {b : Nat} {x : α} {T : TypeId} {cs : Array Value} (h : own w b cs T) (hc : cs.toList = R.cs x) : RAt R w (.slice (some ⟨b, 0, none⟩) 1 1) [x] :=
  rAt_own o h (by rw [hc]; simp [RowTy.flat]) 1 rfl (by unfold maxLen; omega)
theorem RAt.take (o : R.Ok) {w : World} {ao : Option Addr} {n cap : Nat} {M : List α} (h : RAt R w (.slice ao n cap) M) {k : Nat} (hk : k ≤ M.length) : RAt R w (.slice ao k cap) (M.take k) := by
  obtain ⟨a, c, e, h1, h2, h3, h4⟩ := h
  cases e
  have hl : (M.take k).length = k := by rw [List.length_take]; omega
  refine ⟨ao, cap, by rw [hl], by rw [hl]; omega, h2, h3, fun hne => ?_⟩
  obtain ⟨sb, so, rfl, hlt, hc⟩ := h4 (fun e => hne (by rw [e]; simp))
  refine ⟨sb, so, rfl, hlt, fun j u hj => hc j u ?_⟩
  rw [flat_take o, List.getElem?_take] at hj
  split at hj
  · exact hj
  · cases hj
/-- What s[i:] is. -/
def RowTy.from (R : RowTy α) (ao : Option Addr) (L cap i : Nat) : Value := .slice (if cap = i then ao else ao.map (·.add (i * R.n))) (L - i) (cap - i)
theorem RAt.drop (o : R.Ok) {w : World} {ao : Option Addr} {n cap : Nat} {M : List α} (h : RAt R w (.slice ao n cap) M) {k : Nat} (hk : k ≤ M.length) : RAt R w (R.from ao n cap k) (M.drop k) ∧ ∀ b, (R.from ao n cap k).ownBlock = some b → (Value.slice ao n cap).ownBlock = some b := by
  obtain ⟨a, c, e, h1, h2, h3, h4⟩ := h
  cases e
  have hl : (M.drop k).length = M.length - k := List.length_drop
  unfold RowTy.from
  constructor
  · refine ⟨_, cap - k, by rw [hl], by rw [hl]; omega, fun e => ?_, by omega, fun hne => ?_⟩
    · by_cases hc : cap = k
      · omega
      · rw [if_neg hc] at e
        have := h2 (by simpa using e)
        omega
    · have hlt : k < M.length := by
        rcases Nat.lt_or_ge k M.length with h | h
        · exact h
        · exact absurd (List.drop_eq_nil_of_le h) hne
      obtain ⟨sb, so, rfl, hsb, hc⟩ := h4 (fun e => hne (by rw [e]; simp))
      rw [if_neg (by omega)]
      refine ⟨sb, so + k * R.n, ?_, hsb, fun j u hj => ?_⟩
      · rw [Option.map_some, Go.WideShapes.add_plain]
      · rw [flat_drop o, List.getElem?_drop] at hj
        rw [Nat.add_assoc]
        exact hc _ u hj
  · intro b hb
    split at hb
    · cases ao <;> exact hb
    · cases ao with
      | none => simp [Value.ownBlock] at hb
      | some ad =>
        simp only [Option.map_some, Value.ownBlock] at hb ⊢
        rw [← hb]
        congr 1
        unfold Addr.add
        split <;> rfl
theorem run_to (o : R.Ok) (wx : World) (ao : Option Addr) (L cap i : Nat) (hi : i ≤ cap) (hao : ao = none → cap = 0) : (Instr.slice R.st (.slice ao L cap) none (some (.int .i64 (i : Int))) none).run Tryz.prog wx = .ok (.slice ao i cap) wx := by
  obtain ⟨i0, hi0, _⟩ := o.parts
  cases ao with
  | none =>
    obtain rfl := hao rfl
    obtain rfl : i = 0 := by omega
    simp [go_sem, Instr.slice, run_underlying o.under, sizeOf, typeInfo, hi0, Result.andThen]
  | some q => simp [go_sem, Instr.slice, run_underlying o.under, hi, sizeOf, typeInfo, hi0, Result.andThen]
theorem run_from (o : R.Ok) (wx : World) (ao : Option Addr) (L cap i : Nat) (hi : i ≤ L) (hL : L ≤ cap) : (Instr.slice R.st (.slice ao L cap) (some (.int .i64 (i : Int))) none none).run Tryz.prog wx = .ok (R.from ao L cap i) wx := by
  obtain ⟨i0, hi0, _, hz1, _⟩ := o.parts
  have h := run_slice_l (P := Tryz.prog) wx R.st ao L cap (by rw [o.elem]; exact o.under) .i64 (i : Int) (by omega) (by omega)
  rw [h, o.elem]
  simp [RowTy.from, sizeOf, typeInfo, hi0, hz1, sliced, Result.andThen]

/-- A row that the call has made. -/
def ROwn (R : RowTy α) (w : World) (v : Value) (L : List α) : Prop := w.ownsRow 0 R.el R.n v L.length (R.flat L)
theorem ROwn.slice {w : World} {v : Value} {L : List α} (h : ROwn R w v L) : ∃ ao cap, v = .slice ao L.length cap ∧ L.length ≤ cap ∧ (ao = none → cap = 0) ∧ cap ≤ maxLen := by
  rcases h.2 with ⟨hv, hz⟩ | ⟨g, cap, cur, rfl, _, _, hnc, hcm, _⟩
  · exact ⟨none, 0, by rw [hv, hz], by omega, fun _ => rfl, Nat.zero_le _⟩
  · exact ⟨_, cap, rfl, hnc, fun e => (by cases e), hcm⟩
theorem ROwn.same {w w' : World} {v : Value} {L : List α} (h : ROwn R w v L) (hs : ∀ b, v.ownBlock = some b → w'.heap[b]? = w.heap[b]?) : ROwn R w' v L := ownsRow_same h hs
theorem ROwn.lt {w : World} {v : Value} {L : List α} (h : ROwn R w v L) : ∀ b, v.ownBlock = some b → b < w.heap.size := fun b hb => (World.ownsRow.lt h b hb).2
theorem ROwn.below {w w' : World} {v : Value} {L : List α} (h : ROwn R w v L) (hb : Below w.heap.size w w') : ROwn R w' v L := h.same (fun b e => hb.block b (h.lt b e))
theorem rOwn_nil (w : World) : ROwn R w (.slice none 0 0) [] := ⟨by simp [RowTy.flat], .inl ⟨rfl, rfl⟩⟩
theorem rOwn_empty {w : World} {g : Nat} (hg : own w g #[] R.el) : ROwn R w (.slice (some ⟨g, 0, none⟩) 0 0) [] :=
  ⟨by simp [RowTy.flat], .inr ⟨g, 0, #[], rfl, Nat.zero_le _, hg, Nat.le_refl _, Nat.zero_le _, by simp, by simp [RowTy.flat]⟩⟩
theorem rOwn_made (o : R.Ok) {w : World} {g : Nat} {L : List α} {cs : Array Value} (hg : own w g cs R.el) (hc : cs.toList = R.flat L) (n : Nat) (hn : n = L.length) (hm : n ≤ maxLen) : ROwn R w (.slice (some ⟨g, 0, none⟩) n n) L := by
  subst hn
  have hs : cs.size = L.length * R.n := by rw [← Array.length_toList, hc, flat_length o]
  exact ⟨flat_length o L, .inr ⟨g, L.length, cs, rfl, Nat.zero_le _, hg, Nat.le_refl _, hm, hs, by rw [hc, List.take_of_length_le (by rw [flat_length o]; exact Nat.le_refl _)]⟩⟩
theorem ROwn.rAt {w : World} {v : Value} {L : List α} (h : ROwn R w v L) : RAt R w v L := by
  have hlt := h.lt
  obtain ⟨ao, cap, rfl, h1, h2, h3⟩ := h.slice
  refine ⟨ao, cap, rfl, h1, h2, h3, fun hne => ?_⟩
  rcases h.2 with ⟨hv, hz⟩ | ⟨g, cap', cur, hv, _, hg, _⟩
  · exact absurd (List.length_eq_zero_iff.1 hz) hne
  · simp only [Value.slice.injEq] at hv
    obtain ⟨rfl, _, _⟩ := hv
    refine ⟨g, 0, rfl, hlt g rfl, fun j u hj => ?_⟩
    have := World.ownsRow.cells h (g := g) rfl j u hj
    rwa [Go.WideShapes.add_plain] at this
theorem ROwn.cut (o : R.Ok) {w : World} {ao : Option Addr} {n cap : Nat} {L : List α} (h : ROwn R w (.slice ao n cap) L) {k : Nat} (hk : k ≤ L.length) : ROwn R w (.slice ao k cap) (L.take k) := by
  have hl : (L.take k).length = k := by rw [List.length_take]; omega
  rcases h.2 with ⟨hv, hz⟩ | ⟨g, cap', cur, hv, hB, hg, hnc, hcm, hcs, htake⟩
  · cases hv
    have hk0 : k = 0 := by omega
    subst hk0
    exact ⟨by simp [RowTy.flat], .inl ⟨rfl, by simp⟩⟩
  · cases hv
    refine ⟨by rw [flat_length o, hl], .inr ⟨g, cap, cur, by rw [hl], hB, hg, by rw [hl]; omega, hcm, hcs, ?_⟩⟩
    rw [hl, flat_take o, ← htake, List.take_take]
    congr 1
    rw [Nat.min_eq_left (Nat.mul_le_mul_right _ hk)]
/-- Where its cells lie, and that they may be written. -/
theorem ROwn.at (o : R.Ok) {w : World} {ao : Option Addr} {n cap : Nat} {L : List α} (h : ROwn R w (.slice ao n cap) L) (h0 : 0 < L.length) : ∃ g, ao = some ⟨g, 0, none⟩ ∧ g < w.heap.size ∧
    (∀ (k : Nat) x, L[k]? = some x → ∀ j u, (R.cs x)[j]? = some u → w.cell? ⟨g, k * R.n + j, none⟩ = some u) ∧ ∀ j, w.frozen? ⟨g, j, none⟩ = false := by
  have hlt := World.ownsRow.lt h
  have hcs := fun g hg => World.ownsRow.cells h (g := g) hg
  rcases h.2 with ⟨hv, hz⟩ | ⟨g, cap', cur, hv, _, hg, _⟩
  · omega
  · simp only [Value.slice.injEq] at hv
    obtain ⟨rfl, _, _⟩ := hv
    refine ⟨g, rfl, (hlt g rfl).2, fun k x hk j u hj => ?_, fun j => Lib.frozen_of_heap hg j⟩
    have := hcs g rfl _ _ (flat_get o hk hj)
    rwa [Go.WideShapes.add_plain, Nat.zero_add] at this
/-- One cell turned. -/
theorem ROwn.put (o : R.Ok) {w : World} {g n cap : Nat} {L : List α} (h : ROwn R w (.slice (some ⟨g, 0, none⟩) n cap) L) {k j : Nat} {x x' : α} {u : Value} (hk : L[k]? = some x) (hj : j < R.n) (hx : R.cs x' = (R.cs x).set j u) :
    ROwn R (w.setCell ⟨g, k * R.n + j, none⟩ u) (.slice (some ⟨g, 0, none⟩) n cap) (L.set k x') := by
  rcases h.2 with ⟨hv, _⟩ | ⟨g', cap', cur, hv, hB, hg, hnc, hcm, hcs, htake⟩
  · cases hv
  · simp only [Value.slice.injEq, Option.some.injEq, Addr.mk.injEq] at hv
    obtain ⟨⟨rfl, _⟩, rfl, rfl⟩ := hv
    refine ⟨by rw [flat_length o], .inr ⟨g, cap, cur.setIfInBounds (k * R.n + j) u, by rw [List.length_set], hB, ?_, by rw [List.length_set]; exact hnc, hcm, by simpa using hcs, ?_⟩⟩
    · simp [World.setCell, Array.getElem?_modify, hg]
    · rw [Array.toList_setIfInBounds, List.length_set, List.take_set, htake, flat_put o hk hj hx]
/-- append(v, u..). -/
theorem run_app (o : R.Ok) (w : World) (ty : TypeId) (v u : Value) (L M : List α) (hown : ROwn R w v L) (hu : RAt R w u M) (hb : L.length + M.length ≤ 10000000) :
    ∃ ao cap w', (Builtin.append_ #[R.st, R.st] ty #[v, u]).run Tryz.prog w = .ok (.slice ao (L.length + M.length) cap) w' ∧ ROwn R w' (.slice ao (L.length + M.length) cap) (L ++ M) ∧ w.grownBy w' v.ownBlock ∧ ((Value.slice ao (L.length + M.length) cap).ownBlock = v.ownBlock ∨ (Value.slice ao (L.length + M.length) cap).ownBlock = some w.heap.size) := by
  obtain ⟨a, c, rfl, _, hn, _, hc⟩ := hu
  obtain ⟨i0, hi, hz0, hz1, hz2⟩ := o.parts
  cases a with
  | some ad =>
    have hcells : ∀ j x, (R.flat M)[j]? = some x → w.cell? (ad.add j) = some x := by
      intro j x hx
      obtain ⟨sb, so, e, _, hxs⟩ := hc (by intro e; subst e; simp [RowTy.flat] at hx)
      cases e
      rw [Go.WideShapes.add_plain]
      exact hxs j x hx
    have hby : (L.length + M.length) * R.bytes ≤ 140737488355328 := Nat.le_trans (Nat.mul_le_mul hb o.small) (by omega)
    obtain ⟨v', w', hrun, h2, h3, _, h5⟩ := run_append_own_at (P := Tryz.prog) w 0 R.st ty R.el i0 R.zero R.n R.bytes o.under hi hz0 hz1 hz2 o.zs o.pos v L.length (R.flat L) hown ad M.length c (R.flat M) (flat_length o M) hcells (flat_one o M) (by unfold maxLen; omega) hby (Nat.zero_le _)
    have hrow : ROwn R w' v' (L ++ M) := by
      unfold ROwn
      rw [List.length_append, flat_append]
      exact h2
    obtain ⟨ao, cap, rfl, _, _⟩ := hrow.slice
    rw [List.length_append] at hrun hrow h5
    exact ⟨ao, cap, w', hrun, hrow, h3, h5⟩
  | none =>
    have hM : M = [] := by
      by_cases h : M = []
      · exact h
      · obtain ⟨_, _, e, _⟩ := hc h
        cases e
    subst hM
    obtain ⟨ao, cap, hv, hnc', _⟩ := hown.slice
    subst hv
    refine ⟨ao, cap, w, ?_, by simpa using hown, World.grownBy.refl w _, .inl rfl⟩
    rcases hown.2 with ⟨hv, h0⟩ | ⟨g, cap', cur, hv, _, _, hnc, _⟩
    · simp only [Value.slice.injEq] at hv
      obtain ⟨rfl, e1, rfl⟩ := hv
      simp [e1, Builtin.append_, run_underlying o.under, sizeOf, typeInfo, hi, Builtin.lenOf, Builtin.firstCells]
    · simp only [Value.slice.injEq] at hv
      obtain ⟨rfl, _, rfl⟩ := hv
      simp [Builtin.append_, run_underlying o.under, sizeOf, typeInfo, hi, Builtin.lenOf, Builtin.firstCells, hnc, storeCells]
/-- A row that was made since w. -/
structure RMid (R : RowTy α) (w wr : World) (v : Value) (L : List α) : Prop where
  row : ROwn R wr v L
  new : ∀ b, v.ownBlock = some b → w.heap.size ≤ b
  below : Below w.heap.size w wr
theorem rMid_nil (w : World) : RMid R w w (.slice none 0 0) [] := ⟨rOwn_nil w, fun b e => by simp [Value.ownBlock] at e, Below.refl _ _⟩
theorem RMid.later {w wr wy : World} {v : Value} {L : List α} (h : RMid R w wr v L) (hb : Below wr.heap.size wr wy) : RMid R w wy v L := ⟨h.row.below hb, h.new, h.below.trans (hb.mono h.below.size)⟩
theorem rMid_empty {w wx : World} {g : Nat} (hb : Below w.heap.size w wx) (hg : own wx g #[] R.el) (h : w.heap.size ≤ g) : RMid R w wx (.slice (some ⟨g, 0, none⟩) 0 0) [] := ⟨rOwn_empty hg, fun b e => by cases e; exact h, hb⟩
theorem RMid.app (o : R.Ok) {w wx : World} {v u : Value} {L M : List α} (ty : TypeId) (h : RMid R w wx v L) (hu : RAt R wx u M) (hl : L.length + M.length ≤ 10000000) :
    ∃ ao cap w5, (Builtin.append_ #[R.st, R.st] ty #[v, u]).run Tryz.prog wx = .ok (.slice ao (L.length + M.length) cap) w5 ∧ RMid R w w5 (.slice ao (L.length + M.length) cap) (L ++ M) ∧ (∀ b, b < wx.heap.size → v.ownBlock ≠ some b → w5.heap[b]? = wx.heap[b]?) := by
  have hw := h.below.size
  obtain ⟨ao, cap, w5, hr, hrow, hg, hat⟩ := run_app o wx ty v u L M h.row hu hl
  refine ⟨ao, cap, w5, hr, ⟨hrow, fun b e => ?_, h.below.grown hg hw h.new⟩, fun b hb hne => (Chg.of_grown hg).block b hb hne⟩
  rcases hat with k | k
  · exact h.new b (by rw [← k]; exact e)
  · rw [k] at e; cases e; omega
/-- One thing put behind: its box has just been laid. -/
theorem RMid.push (o : R.Ok) {w wr : World} {v : Value} {L : List α} (h : RMid R w wr v L) (ty T : TypeId) (x : α) (cs : Array Value) (hc : cs.toList = R.cs x) (hl : L.length ≤ 1000000) :
    ∃ ao cap w5, (Builtin.append_ #[R.st, R.st] ty #[v, .slice (some ⟨wr.heap.size, 0, none⟩) 1 1]).run Tryz.prog (wr.alloc (.cells cs T)) = .ok (.slice ao (L.length + 1) cap) w5 ∧ RMid R w w5 (.slice ao (L.length + 1) cap) (L ++ [x]) := by
  have hb : Below wr.heap.size wr (wr.alloc (.cells cs T)) := (Below.refl _ _).alloc (Nat.le_refl _) _
  obtain ⟨ao, cap, w5, hr, hm, _⟩ := (h.later hb).app o ty (rAt_box o (own.new wr cs T) hc) (by simp; omega)
  exact ⟨ao, cap, w5, hr, hm⟩
end

/-- A call of append at the operation (no drawn region), by an equation on its run; the world and what is read as equations of their own. -/
theorem wpList_append_at {w wx w' : World} {ops : Array Oper} {rest : List Oper} {o : Oper} {a : Act} {Q : Exit → Act → World → Prop} {t u ty : TypeId} {v s v' : Value} (hr : (Builtin.append_ #[t, u] ty #[v, s]).run Tryz.prog wx = .ok v' w')
    (hw : w = wx) (hgd : o.guard = none) (sl x : Operand) (ho : o.op = .call { callee := .builtin .append, args := #[sl, x], argTypes := #[t, u] }) (hty : o.type = ty) (hs : a.eval sl = v) (hx : a.eval x = s)
    (h : wpList Tryz.prog ops Q rest (a.put o.dst v') w') : wpList Tryz.prog ops Q (o :: rest) a w := by
  subst hw hty
  refine wpList_plain hgd fun K hK => ?_
  unfold Oper.wp execOp
  simp only [ho, resolve, invoke, builtin, Sem.run_bind, Sem.run_pure, Result.andThen_ok, List.map_toArray, List.map_cons, List.map_nil, hs, hx, hr]
  exact hK _ _ h
/-- .. in a drawn region. -/
theorem step_append_at {ops : Array Oper} {o : Oper} {a : Act} {w wx w' : World} {K : Act → World → Prop} {Q : Exit → Act → World → Prop} {E : Prop} {t u ty : TypeId} {v y v' : Value} (hr : (Builtin.append_ #[t, u] ty #[v, y]).run Tryz.prog wx = .ok v' w')
    (hw : w = wx) (hg : o.guard = none) (s x : Operand) (hop : o.op = Op.call { callee := Callee.builtin Builtin.append, args := #[s, x], argTypes := #[t, u] }) (hty : o.type = ty)
    (hs : a.eval s = v) (hx : a.eval x = y) (hK : K (a.put o.dst v') w') :
    if Region.wanted o (yielded ops a.tmps) = true then Oper.wp Tryz.prog o a w K Q else E := by
  subst hw hty
  have hw : Region.wanted o (yielded ops a.tmps) = true := by simp [Region.wanted, hg]
  rw [if_pos hw]
  unfold Oper.wp
  simp [execOp, hop, resolve, invoke, builtin, hs, hx, hr, Result.andThen]
  exact hK
end Go.Proofs.YtjoeamlidmmioaaGreatDoor

