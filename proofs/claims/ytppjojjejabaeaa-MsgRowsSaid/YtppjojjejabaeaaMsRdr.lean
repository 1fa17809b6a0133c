/-
  LAYER 7 (msg), THE DOCUMENT's Unpack: its reader's int and text; ToBool.
-/
import Derived.Test.YtppjojjejabaeaaMq0
import Derived.Test.YtppjojjejabaeaaMsRefQ
namespace Go.Proofs.Ytppjojjejabaeaa
open Go.RowKit
set_option linter.unusedVariables false
set_option maxRecDepth 100000

abbrev rdCells (s : RS) : Array Value := #[.string (mk s.1), .bool s.2]
def RdPost (w : World) (g : Nat) (v : Value) (s : RS) (e : Ending) (w' : World) : Prop := e = .returned v ∧ own w' g (rdCells s) 87 ∧ Chg (fun b => b = g) w w' ∧ s.1.length ≤ maxLen
theorem rdInt_any {w : World} {g : Nat} (s : RS) (h : own w g (rdCells s) 87) (hl : s.1.length ≤ maxLen) :
    Calls Try.prog 55 #[.pointer (some ⟨g, 0, none⟩)] w (RdPost w g (.int .i64 (rdI s).1) (rdI s).2) := by
  obtain ⟨l, b⟩ := s
  have c0 : w.cell? ⟨g, 0, none⟩ = some (.string (mk l)) := (h.cell 0).trans rfl
  have hg := h.lt
  unfold rdI
  simp only at hl ⊢
  cases hd : dI l with
  | none =>
    have HI := hid (rI_no hd hl w)
    have HF : Hid (∀ w1, Below w.heap.size w w1 → w1.cell? ⟨g, 1, none⟩ = some (.bool b) ∧ w1.frozen? ⟨g, 1, none⟩ = false ∧ Hid (RdPost w g (.int .i64 0) (l, false) (.returned (.int .i64 0)) (w1.setCell ⟨g, 1, none⟩ (.bool false)))) := hid (fun w1 hb => by
      have h1 := h.same (hb.block _ hg)
      exact ⟨(h1.cell 1).trans rfl, h1.frozen 1, hid ⟨rfl, h1.set 1 _, (Chg.of_below hb).trans (Chg.setCell w1 ⟨g, 1, none⟩ _) (fun x e => .inl e), hl⟩⟩)
    clear hd h
    simp only
    go_enter Try.func55, Try.ntmps55
    go_wp2_with (go_at_call 58; (with_reducible refine HI.out.mono ?_); rintro e w1 ⟨rfl, hb⟩; obtain ⟨c1, f1, HP⟩ := HF.out _ hb; clear hb)
    go_ret
    exact HP.out
  | some p =>
    obtain ⟨n, r⟩ := p
    have HI := hid (rI_yes hd hl w)
    have hs := dI_shorter hd
    have HF : Hid (∀ w1, Below w.heap.size w w1 → w1.cell? ⟨g, 0, none⟩ = some (.string (mk l)) ∧ w1.frozen? ⟨g, 0, none⟩ = false ∧ Hid (RdPost w g (.int .i64 n) (r, b) (.returned (.int .i64 n)) (w1.setCell ⟨g, 0, none⟩ (.string (mk r))))) := hid (fun w1 hb => by
      have h1 := h.same (hb.block _ hg)
      exact ⟨(h1.cell 0).trans rfl, h1.frozen 0, hid ⟨rfl, h1.set 0 _, (Chg.of_below hb).trans (Chg.setCell w1 ⟨g, 0, none⟩ _) (fun x e => .inl e), by show r.length ≤ maxLen; omega⟩⟩)
    clear hd h hs
    simp only
    generalize mk r = t at *
    go_enter Try.func55, Try.ntmps55
    go_wp2_with (go_at_call 58; (with_reducible refine HI.out.mono ?_); rintro e w1 ⟨rfl, hb⟩; obtain ⟨c1, f1, HP⟩ := HF.out _ hb; clear hb)
    go_ret
    exact HP.out
theorem dT_shorter {l r : List UInt8} {t : ByteArray} (h : dT l = some (t, r)) : r.length ≤ l.length := by
  rw [dT_sound h, List.length_append]
  omega
theorem rT_no {l : List UInt8} (h : dT l = none) (hl : l.length ≤ maxLen) (w : World) : Calls Try.prog 86 #[.string (mk l)] w fun e w' => e = .returned (.tuple #[.string ⟨#[]⟩, .string ⟨#[]⟩, .bool false]) ∧ Below w.heap.size w w' := by
  have := refToText_any (mk l) w (by rw [mk_size]; exact hl)
  unfold dT at h
  rw [Option.map_eq_none_iff] at h
  rw [mk_data, h] at this
  exact this
theorem rT_yes {l r : List UInt8} {t : ByteArray} (h : dT l = some (t, r)) (hl : l.length ≤ maxLen) (w : World) : Calls Try.prog 86 #[.string (mk l)] w fun e w' => e = .returned (.tuple #[.string t, .string (mk r), .bool true]) ∧ Below w.heap.size w w' := by
  have := refToText_any (mk l) w (by rw [mk_size]; exact hl)
  unfold dT at h
  obtain ⟨⟨a, r'⟩, h1, h2⟩ := Option.map_eq_some_iff.1 h
  simp only [Prod.mk.injEq] at h2
  obtain ⟨rfl, rfl⟩ := h2
  rw [mk_data, h1] at this
  exact this
theorem rdText_any {w : World} {g : Nat} (s : RS) (h : own w g (rdCells s) 87) (hl : s.1.length ≤ maxLen) :
    Calls Try.prog 57 #[.pointer (some ⟨g, 0, none⟩)] w (RdPost w g (.string (rdT s).1) (rdT s).2) := by
  obtain ⟨l, b⟩ := s
  have c0 : w.cell? ⟨g, 0, none⟩ = some (.string (mk l)) := (h.cell 0).trans rfl
  have hg := h.lt
  unfold rdT
  simp only at hl ⊢
  cases hd : dT l with
  | none =>
    have HI := hid (rT_no hd hl w)
    have HF : Hid (∀ w1, Below w.heap.size w w1 → w1.cell? ⟨g, 1, none⟩ = some (.bool b) ∧ w1.frozen? ⟨g, 1, none⟩ = false ∧ Hid (RdPost w g (.string ⟨#[]⟩) (l, false) (.returned (.string ⟨#[]⟩)) (w1.setCell ⟨g, 1, none⟩ (.bool false)))) := hid (fun w1 hb => by
      have h1 := h.same (hb.block _ hg)
      exact ⟨(h1.cell 1).trans rfl, h1.frozen 1, hid ⟨rfl, h1.set 1 _, (Chg.of_below hb).trans (Chg.setCell w1 ⟨g, 1, none⟩ _) (fun x e => .inl e), hl⟩⟩)
    clear hd h
    simp only
    go_enter Try.func57, Try.ntmps57
    go_wp2_with (go_at_call 86; (with_reducible refine HI.out.mono ?_); rintro e w1 ⟨rfl, hb⟩; obtain ⟨c1, f1, HP⟩ := HF.out _ hb; clear hb)
    go_ret
    exact HP.out
  | some p =>
    obtain ⟨n, r⟩ := p
    have HI := hid (rT_yes hd hl w)
    have hs := dT_shorter hd
    have HF : Hid (∀ w1, Below w.heap.size w w1 → w1.cell? ⟨g, 0, none⟩ = some (.string (mk l)) ∧ w1.frozen? ⟨g, 0, none⟩ = false ∧ Hid (RdPost w g (.string n) (r, b) (.returned (.string n)) (w1.setCell ⟨g, 0, none⟩ (.string (mk r))))) := hid (fun w1 hb => by
      have h1 := h.same (hb.block _ hg)
      exact ⟨(h1.cell 0).trans rfl, h1.frozen 0, hid ⟨rfl, h1.set 0 _, (Chg.of_below hb).trans (Chg.setCell w1 ⟨g, 0, none⟩ _) (fun x e => .inl e), by show r.length ≤ maxLen; omega⟩⟩)
    clear hd h hs
    simp only
    generalize mk r = t at *
    go_enter Try.func57, Try.ntmps57
    go_wp2_with (go_at_call 86; (with_reducible refine HI.out.mono ?_); rintro e w1 ⟨rfl, hb⟩; obtain ⟨c1, f1, HP⟩ := HF.out _ hb; clear hb)
    go_ret
    exact HP.out
theorem rB_no {l : List UInt8} (h : dB l = none) (hl : l.length ≤ maxLen) (w : World) : Calls Try.prog 56 #[.string (mk l)] w fun e w' => e = .returned (.tuple #[.bool false, .string ⟨#[]⟩, .bool false]) ∧ Below w.heap.size w w' := by
  have := refToBool_any (mk l) w (by rw [mk_size]; exact hl)
  rw [mk_data] at this
  cases l with
  | nil => exact this
  | cons c r =>
    change (if 1 < c.toNat then none else some (decide (c.toNat = 1), r)) = none at h
    rw [show boolRes (c :: r) = (if 1 < c.toNat then .tuple #[.bool false, .string ⟨#[]⟩, .bool false] else .tuple #[.bool (decide (c.toNat = 1)), .string (mk r), .bool true]) from rfl] at this
    split at h
    · rename_i hc
      rw [if_pos hc] at this
      exact this
    · cases h
theorem rB_yes {l r : List UInt8} {b : Bool} (h : dB l = some (b, r)) (hl : l.length ≤ maxLen) (w : World) : Calls Try.prog 56 #[.string (mk l)] w fun e w' => e = .returned (.tuple #[.bool b, .string (mk r), .bool true]) ∧ Below w.heap.size w w' := by
  have := refToBool_any (mk l) w (by rw [mk_size]; exact hl)
  rw [mk_data] at this
  cases l with
  | nil => cases h
  | cons c t =>
    change (if 1 < c.toNat then none else some (decide (c.toNat = 1), t)) = some (b, r) at h
    rw [show boolRes (c :: t) = (if 1 < c.toNat then .tuple #[.bool false, .string ⟨#[]⟩, .bool false] else .tuple #[.bool (decide (c.toNat = 1)), .string (mk t), .bool true]) from rfl] at this
    split at h
    · cases h
    · rename_i hc
      simp only [Option.some.injEq, Prod.mk.injEq] at h
      obtain ⟨rfl, rfl⟩ := h
      rw [if_neg hc] at this
      exact this
end Go.Proofs.Ytppjojjejabaeaa
