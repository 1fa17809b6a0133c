/-
  LAYER 7 (msg), THE PROGRAM: the methods that put a decoded value into its cell.
-/
import Derived.Test.YtppjojjejabaeaaMsRdI
import Derived.Test.YtppjojjejabaeaaMq1
namespace Go.Proofs.Ytppjojjejabaeaa
open Go.RowKit
set_option linter.unusedVariables false
set_option maxRecDepth 100000

theorem getCell {cs : Array Value} {k : Nat} (hk : k < cs.size) : ∃ v, cs[k]? = some v := ⟨cs[k], Array.getElem?_eq_getElem hk⟩
theorem own_any (s : ByteArray) (w : World) (hs : s.size ≤ 140737488355328) : Calls Try.prog 94 #[.string s] w fun e w' => e = .returned (.string s) ∧ Below w.heap.size w w' := by
  have HC := hid (clone_any s w hs)
  go_enter Try.func94, Try.ntmps94
  go_wp2_with (go_at_call 103; (with_reducible refine HC.out.mono ?_); rintro e w1 ⟨rfl, hb1⟩)
  go_ret
  exact ⟨rfl, hb1⟩
theorem set_m_kind {mb : Nat} {w : World} {cs : Array Value} (h : own w mb cs 93) (hk : 0 < cs.size) (x : Int) :
    Calls Try.prog 60 #[.pointer (some ⟨mb, 0, none⟩), .int .i64 x] w fun e w' => e = .returned (.tuple #[]) ∧ w' = w.setCell ⟨mb, 0, none⟩ (.int .i64 x) := by
  obtain ⟨v0, hv0⟩ := getCell hk
  have c0 : w.cell? ⟨mb, 0, none⟩ = some v0 := (h.cell 0).trans hv0
  have f0 := h.frozen 0
  clear hv0
  go_enter Try.func60, Try.ntmps60
  go_wp2
  go_end0
  exact ⟨rfl, rfl⟩
theorem en_m_kind : Enters 60 := enters_of Try.func60 (by kernel_rfl) rfl
theorem set_m_from {mb : Nat} {w : World} {cs : Array Value} (h : own w mb cs 93) (hk : 1 < cs.size) (x : Int) :
    Calls Try.prog 61 #[.pointer (some ⟨mb, 0, none⟩), .int .i64 x] w fun e w' => e = .returned (.tuple #[]) ∧ w' = w.setCell ⟨mb, 1, none⟩ (.int .i64 x) := by
  obtain ⟨v0, hv0⟩ := getCell hk
  have c0 : w.cell? ⟨mb, 1, none⟩ = some v0 := (h.cell 1).trans hv0
  have f0 := h.frozen 1
  clear hv0
  go_enter Try.func61, Try.ntmps61
  go_wp2
  go_end0
  exact ⟨rfl, rfl⟩
theorem en_m_from : Enters 61 := enters_of Try.func61 (by kernel_rfl) rfl
theorem set_m_to {mb : Nat} {w : World} {cs : Array Value} (h : own w mb cs 93) (hk : 2 < cs.size) (x : Int) :
    Calls Try.prog 62 #[.pointer (some ⟨mb, 0, none⟩), .int .i64 x] w fun e w' => e = .returned (.tuple #[]) ∧ w' = w.setCell ⟨mb, 2, none⟩ (.int .i64 x) := by
  obtain ⟨v0, hv0⟩ := getCell hk
  have c0 : w.cell? ⟨mb, 2, none⟩ = some v0 := (h.cell 2).trans hv0
  have f0 := h.frozen 2
  clear hv0
  go_enter Try.func62, Try.ntmps62
  go_wp2
  go_end0
  exact ⟨rfl, rfl⟩
theorem en_m_to : Enters 62 := enters_of Try.func62 (by kernel_rfl) rfl
theorem set_m_term {mb : Nat} {w : World} {cs : Array Value} (h : own w mb cs 93) (hk : 3 < cs.size) (x : Int) :
    Calls Try.prog 63 #[.pointer (some ⟨mb, 0, none⟩), .int .i64 x] w fun e w' => e = .returned (.tuple #[]) ∧ w' = w.setCell ⟨mb, 3, none⟩ (.int .i64 x) := by
  obtain ⟨v0, hv0⟩ := getCell hk
  have c0 : w.cell? ⟨mb, 3, none⟩ = some v0 := (h.cell 3).trans hv0
  have f0 := h.frozen 3
  clear hv0
  go_enter Try.func63, Try.ntmps63
  go_wp2
  go_end0
  exact ⟨rfl, rfl⟩
theorem en_m_term : Enters 63 := enters_of Try.func63 (by kernel_rfl) rfl
theorem set_m_index {mb : Nat} {w : World} {cs : Array Value} (h : own w mb cs 93) (hk : 4 < cs.size) (x : Int) :
    Calls Try.prog 64 #[.pointer (some ⟨mb, 0, none⟩), .int .i64 x] w fun e w' => e = .returned (.tuple #[]) ∧ w' = w.setCell ⟨mb, 4, none⟩ (.int .i64 x) := by
  obtain ⟨v0, hv0⟩ := getCell hk
  have c0 : w.cell? ⟨mb, 4, none⟩ = some v0 := (h.cell 4).trans hv0
  have f0 := h.frozen 4
  clear hv0
  go_enter Try.func64, Try.ntmps64
  go_wp2
  go_end0
  exact ⟨rfl, rfl⟩
theorem en_m_index : Enters 64 := enters_of Try.func64 (by kernel_rfl) rfl
theorem set_m_logTerm {mb : Nat} {w : World} {cs : Array Value} (h : own w mb cs 93) (hk : 5 < cs.size) (x : Int) :
    Calls Try.prog 65 #[.pointer (some ⟨mb, 0, none⟩), .int .i64 x] w fun e w' => e = .returned (.tuple #[]) ∧ w' = w.setCell ⟨mb, 5, none⟩ (.int .i64 x) := by
  obtain ⟨v0, hv0⟩ := getCell hk
  have c0 : w.cell? ⟨mb, 5, none⟩ = some v0 := (h.cell 5).trans hv0
  have f0 := h.frozen 5
  clear hv0
  go_enter Try.func65, Try.ntmps65
  go_wp2
  go_end0
  exact ⟨rfl, rfl⟩
theorem en_m_logTerm : Enters 65 := enters_of Try.func65 (by kernel_rfl) rfl
theorem set_m_commit {mb : Nat} {w : World} {cs : Array Value} (h : own w mb cs 93) (hk : 6 < cs.size) (x : Int) :
    Calls Try.prog 66 #[.pointer (some ⟨mb, 0, none⟩), .int .i64 x] w fun e w' => e = .returned (.tuple #[]) ∧ w' = w.setCell ⟨mb, 6, none⟩ (.int .i64 x) := by
  obtain ⟨v0, hv0⟩ := getCell hk
  have c0 : w.cell? ⟨mb, 6, none⟩ = some v0 := (h.cell 6).trans hv0
  have f0 := h.frozen 6
  clear hv0
  go_enter Try.func66, Try.ntmps66
  go_wp2
  go_end0
  exact ⟨rfl, rfl⟩
theorem en_m_commit : Enters 66 := enters_of Try.func66 (by kernel_rfl) rfl
theorem set_m_ok {mb : Nat} {w : World} {cs : Array Value} (h : own w mb cs 93) (hk : 7 < cs.size) (x : Bool) :
    Calls Try.prog 69 #[.pointer (some ⟨mb, 0, none⟩), .bool x] w fun e w' => e = .returned (.tuple #[]) ∧ w' = w.setCell ⟨mb, 7, none⟩ (.bool x) := by
  obtain ⟨v0, hv0⟩ := getCell hk
  have c0 : w.cell? ⟨mb, 7, none⟩ = some v0 := (h.cell 7).trans hv0
  have f0 := h.frozen 7
  clear hv0
  go_enter Try.func69, Try.ntmps69
  go_wp2
  go_end0
  exact ⟨rfl, rfl⟩
theorem en_m_ok : Enters 69 := enters_of Try.func69 (by kernel_rfl) rfl
theorem set_m_entries {mb : Nat} {w : World} {cs : Array Value} (h : own w mb cs 93) (hk : 8 < cs.size) (x : Option Addr) (y z : Nat) :
    Calls Try.prog 72 #[.pointer (some ⟨mb, 0, none⟩), .slice x y z] w fun e w' => e = .returned (.tuple #[]) ∧ w' = w.setCell ⟨mb, 8, none⟩ (.slice x y z) := by
  obtain ⟨v0, hv0⟩ := getCell hk
  have c0 : w.cell? ⟨mb, 8, none⟩ = some v0 := (h.cell 8).trans hv0
  have f0 := h.frozen 8
  clear hv0
  go_enter Try.func72, Try.ntmps72
  go_wp2
  go_end0
  exact ⟨rfl, rfl⟩
theorem en_m_entries : Enters 72 := enters_of Try.func72 (by kernel_rfl) rfl
theorem set_m_data {mb : Nat} {w : World} {cs : Array Value} (h : own w mb cs 93) (hk : 13 < cs.size) (s : ByteArray) (hs : s.size ≤ 140737488355328) :
    Calls Try.prog 78 #[.pointer (some ⟨mb, 0, none⟩), .string s] w fun e w' => e = .returned (.tuple #[]) ∧ ∃ w1, Below w.heap.size w w1 ∧ w' = w1.setCell ⟨mb, 13, none⟩ (.string s) := by
  obtain ⟨v0, hv0⟩ := getCell hk
  have HC := hid (own_any s w hs)
  have HO : Hid (∀ w1, Below w.heap.size w w1 → w1.cell? ⟨mb, 13, none⟩ = some v0 ∧ w1.frozen? ⟨mb, 13, none⟩ = false) := hid (fun w1 hb => by
    have o := h.same (hb.block _ h.lt)
    exact ⟨(o.cell 13).trans hv0, o.frozen 13⟩)
  clear hv0
  go_enter Try.func78, Try.ntmps78
  go_wp2_with (go_at_call 94; (with_reducible refine HC.out.mono ?_); rintro e w1 ⟨rfl, hb1⟩; obtain ⟨c0, f0⟩ := HO.out _ hb1; have HB1 := hid hb1; clear hb1)
  go_end0
  exact ⟨rfl, w1, HB1.out, rfl⟩
theorem en_m_data : Enters 78 := enters_of Try.func78 (by kernel_rfl) rfl
theorem set_e_index {mb : Nat} {w : World} {cs : Array Value} (h : own w mb cs 135) (hk : 0 < cs.size) (x : Int) :
    Calls Try.prog 99 #[.pointer (some ⟨mb, 0, none⟩), .int .i64 x] w fun e w' => e = .returned (.tuple #[]) ∧ w' = w.setCell ⟨mb, 0, none⟩ (.int .i64 x) := by
  obtain ⟨v0, hv0⟩ := getCell hk
  have c0 : w.cell? ⟨mb, 0, none⟩ = some v0 := (h.cell 0).trans hv0
  have f0 := h.frozen 0
  clear hv0
  go_enter Try.func99, Try.ntmps99
  go_wp2
  go_end0
  exact ⟨rfl, rfl⟩
theorem en_e_index : Enters 99 := enters_of Try.func99 (by kernel_rfl) rfl
theorem set_e_term {mb : Nat} {w : World} {cs : Array Value} (h : own w mb cs 135) (hk : 1 < cs.size) (x : Int) :
    Calls Try.prog 100 #[.pointer (some ⟨mb, 0, none⟩), .int .i64 x] w fun e w' => e = .returned (.tuple #[]) ∧ w' = w.setCell ⟨mb, 1, none⟩ (.int .i64 x) := by
  obtain ⟨v0, hv0⟩ := getCell hk
  have c0 : w.cell? ⟨mb, 1, none⟩ = some v0 := (h.cell 1).trans hv0
  have f0 := h.frozen 1
  clear hv0
  go_enter Try.func100, Try.ntmps100
  go_wp2
  go_end0
  exact ⟨rfl, rfl⟩
theorem en_e_term : Enters 100 := enters_of Try.func100 (by kernel_rfl) rfl
theorem set_e_kind {mb : Nat} {w : World} {cs : Array Value} (h : own w mb cs 135) (hk : 2 < cs.size) (x : Int) :
    Calls Try.prog 101 #[.pointer (some ⟨mb, 0, none⟩), .int .i64 x] w fun e w' => e = .returned (.tuple #[]) ∧ w' = w.setCell ⟨mb, 2, none⟩ (.int .i64 x) := by
  obtain ⟨v0, hv0⟩ := getCell hk
  have c0 : w.cell? ⟨mb, 2, none⟩ = some v0 := (h.cell 2).trans hv0
  have f0 := h.frozen 2
  clear hv0
  go_enter Try.func101, Try.ntmps101
  go_wp2
  go_end0
  exact ⟨rfl, rfl⟩
theorem en_e_kind : Enters 101 := enters_of Try.func101 (by kernel_rfl) rfl
theorem set_e_data {mb : Nat} {w : World} {cs : Array Value} (h : own w mb cs 135) (hk : 3 < cs.size) (s : ByteArray) (hs : s.size ≤ 140737488355328) :
    Calls Try.prog 102 #[.pointer (some ⟨mb, 0, none⟩), .string s] w fun e w' => e = .returned (.tuple #[]) ∧ ∃ w1, Below w.heap.size w w1 ∧ w' = w1.setCell ⟨mb, 3, none⟩ (.string s) := by
  obtain ⟨v0, hv0⟩ := getCell hk
  have HC := hid (own_any s w hs)
  have HO : Hid (∀ w1, Below w.heap.size w w1 → w1.cell? ⟨mb, 3, none⟩ = some v0 ∧ w1.frozen? ⟨mb, 3, none⟩ = false) := hid (fun w1 hb => by
    have o := h.same (hb.block _ h.lt)
    exact ⟨(o.cell 3).trans hv0, o.frozen 3⟩)
  clear hv0
  go_enter Try.func102, Try.ntmps102
  go_wp2_with (go_at_call 94; (with_reducible refine HC.out.mono ?_); rintro e w1 ⟨rfl, hb1⟩; obtain ⟨c0, f0⟩ := HO.out _ hb1; have HB1 := hid hb1; clear hb1)
  go_end0
  exact ⟨rfl, w1, HB1.out, rfl⟩
theorem en_e_data : Enters 102 := enters_of Try.func102 (by kernel_rfl) rfl
theorem set_s_index {mb : Nat} {w : World} {cs : Array Value} (h : own w mb cs 125) (hk : 0 < cs.size) (x : Int) :
    Calls Try.prog 89 #[.pointer (some ⟨mb, 0, none⟩), .int .i64 x] w fun e w' => e = .returned (.tuple #[]) ∧ w' = w.setCell ⟨mb, 0, none⟩ (.int .i64 x) := by
  obtain ⟨v0, hv0⟩ := getCell hk
  have c0 : w.cell? ⟨mb, 0, none⟩ = some v0 := (h.cell 0).trans hv0
  have f0 := h.frozen 0
  clear hv0
  go_enter Try.func89, Try.ntmps89
  go_wp2
  go_end0
  exact ⟨rfl, rfl⟩
theorem en_s_index : Enters 89 := enters_of Try.func89 (by kernel_rfl) rfl
theorem set_s_term {mb : Nat} {w : World} {cs : Array Value} (h : own w mb cs 125) (hk : 1 < cs.size) (x : Int) :
    Calls Try.prog 90 #[.pointer (some ⟨mb, 0, none⟩), .int .i64 x] w fun e w' => e = .returned (.tuple #[]) ∧ w' = w.setCell ⟨mb, 1, none⟩ (.int .i64 x) := by
  obtain ⟨v0, hv0⟩ := getCell hk
  have c0 : w.cell? ⟨mb, 1, none⟩ = some v0 := (h.cell 1).trans hv0
  have f0 := h.frozen 1
  clear hv0
  go_enter Try.func90, Try.ntmps90
  go_wp2
  go_end0
  exact ⟨rfl, rfl⟩
theorem en_s_term : Enters 90 := enters_of Try.func90 (by kernel_rfl) rfl
theorem set_s_voters {mb : Nat} {w : World} {cs : Array Value} (h : own w mb cs 125) (hk : 2 < cs.size) (x : Option Addr) (y z : Nat) :
    Calls Try.prog 92 #[.pointer (some ⟨mb, 0, none⟩), .slice x y z] w fun e w' => e = .returned (.tuple #[]) ∧ w' = w.setCell ⟨mb, 2, none⟩ (.slice x y z) := by
  obtain ⟨v0, hv0⟩ := getCell hk
  have c0 : w.cell? ⟨mb, 2, none⟩ = some v0 := (h.cell 2).trans hv0
  have f0 := h.frozen 2
  clear hv0
  go_enter Try.func92, Try.ntmps92
  go_wp2
  go_end0
  exact ⟨rfl, rfl⟩
theorem en_s_voters : Enters 92 := enters_of Try.func92 (by kernel_rfl) rfl
theorem set_s_data {mb : Nat} {w : World} {cs : Array Value} (h : own w mb cs 125) (hk : 3 < cs.size) (s : ByteArray) (hs : s.size ≤ 140737488355328) :
    Calls Try.prog 93 #[.pointer (some ⟨mb, 0, none⟩), .string s] w fun e w' => e = .returned (.tuple #[]) ∧ ∃ w1, Below w.heap.size w w1 ∧ w' = w1.setCell ⟨mb, 3, none⟩ (.string s) := by
  obtain ⟨v0, hv0⟩ := getCell hk
  have HC := hid (own_any s w hs)
  have HO : Hid (∀ w1, Below w.heap.size w w1 → w1.cell? ⟨mb, 3, none⟩ = some v0 ∧ w1.frozen? ⟨mb, 3, none⟩ = false) := hid (fun w1 hb => by
    have o := h.same (hb.block _ h.lt)
    exact ⟨(o.cell 3).trans hv0, o.frozen 3⟩)
  clear hv0
  go_enter Try.func93, Try.ntmps93
  go_wp2_with (go_at_call 94; (with_reducible refine HC.out.mono ?_); rintro e w1 ⟨rfl, hb1⟩; obtain ⟨c0, f0⟩ := HO.out _ hb1; have HB1 := hid hb1; clear hb1)
  go_end0
  exact ⟨rfl, w1, HB1.out, rfl⟩
theorem en_s_data : Enters 93 := enters_of Try.func93 (by kernel_rfl) rfl
end Go.Proofs.Ytppjojjejabaeaa
