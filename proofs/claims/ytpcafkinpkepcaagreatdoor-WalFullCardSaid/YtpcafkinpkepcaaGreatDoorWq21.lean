import Derived.Test.YtpcafkinpkepcaaGreatDoorWq20
import Derived.Test.YtpcafkinpkepcaaGreatDoorWq5
import Derived.Laws.BitsAllLaws
/-
  Wq21: DkH, in one text.
-/
/-
  LAYER 2 (disk): a crash of one file.
-/
namespace Go.Proofs.YtpcafkinpkepcaaGreatDoor
open Go.RowKit Go.Maps
set_option linter.unusedVariables false
set_option maxRecDepth 100000

theorem getD_at {xs : List Int} {j : Nat} (h : j < xs.length) : xs[j]? = some (xs.getD j 0) := by simp [List.getD, h]
theorem ret_int {a b : Int} (h : a = b) : Ending.returned (.int .i64 a) = .returned (.int .i64 b) := by rw [h]
theorem at_any (v : Value) (xs : List Int) (w : World) {B : Nat} (hv : IntsAt w B v xs) (hx : xs.length ≤ 1000) (k : Nat) (hk : k ≤ 1000) :
    Calls Tryz.prog 92 #[v, .int .i64 (k : Int)] w fun e w' => e = .returned (.int .i64 (xs.getD k 0)) ∧ w = w' := by
  obtain ⟨a, cap, rfl, hc⟩ := hv
  by_cases h : k < xs.length
  · have hne : xs ≠ [] := fun e => by rw [e] at h; simp at h
    obtain ⟨sb, so, rfl, _, hcell⟩ := hc hne
    have c0 := hcell k _ (getD_at h)
    have hq : decide (k < xs.length) = true := by simpa using h
    have h1 : (k : Int) < (xs.length : Int) := by omega
    generalize xs.getD k 0 = z at *
    clear hcell hc hne
    go_enter Tryz.func92, Tryz.ntmps92
    go_wp2
    go_ret
    exact ⟨rfl, rfl⟩
  · have hz : xs.getD k 0 = 0 := by simp [List.getD, List.getElem?_eq_none (Nat.le_of_not_lt h)]
    have hq : decide (k < xs.length) = false := by simpa using h
    rw [hz]
    clear hc hz
    go_enter Tryz.func92, Tryz.ntmps92
    go_wp2
    go_ret
    exact ⟨rfl, rfl⟩

theorem hasTail_any {w : World} {x : Fl} (h : FileOk w x) (hl : x.data.length ≤ 10000000) (hs : x.synced ≤ x.data.length) :
    Calls Tryz.prog 90 #[.pointer (some ⟨x.g, 0, none⟩)] w fun e w' => e = .returned (.bool (decide (x.synced < x.data.length))) ∧ Below w.heap.size w w' := by
  obtain ⟨ao, cap, hv⟩ := h.slice
  have hb := h.blk
  rw [hv] at hb
  have c0 := hb.cell 0
  have c1 := hb.cell 1
  simp at c0 c1
  have hq : decide ((x.synced : Int) < (x.data.length : Int)) = decide (x.synced < x.data.length) := by rw [Bool.eq_iff_iff]; simp
  clear hb hv h
  generalize x.data.length = L at *
  generalize x.synced = M at *
  go_enter Tryz.func90, Tryz.ntmps90
  go_wp2
  go_quiet (fail)
  go_wp2
  go_ret
  exact ⟨by first | rfl | (rw [← hq]), below_drew (Below.refl _ _) _⟩

theorem noise_wrap (n : Int) : IntKind.u8.wrap n = ((noiseByte n).toNat : Int) := by
  unfold noiseByte
  simp only [IntKind.wrap, IntKind.bits, IntKind.signed]
  rw [UInt8.toNat_ofNat']
  simp
  omega
theorem byte_xor (c : UInt8) (n : Int) : bits .xor .u8 (c.toNat : Int) (IntKind.u8.wrap n) = ((c ^^^ noiseByte n).toNat : Int) := by
  rw [noise_wrap]
  generalize noiseByte n = d
  have h1 := UInt8.toNat_lt c
  have h2 := UInt8.toNat_lt d
  rw [UInt8.toNat_xor]
  exact u8_xor_nat _ _ h1 h2

section
variable {w w' : World} {S : Nat → Prop} {a mb : Nat} {F : List Fl} {s : Dk}

theorem crF_name' (k z : Int) (f : AF) : (crF f k z).name = f.name := rfl
theorem Ok_crF (h : s.Ok) (n : List UInt8) (k z : Int) : ({ s with L := updK AF.key n (fun f => crF f k z) s.L } : Dk).Ok := by
  refine Ok_upd h 0 (fun _ => rfl) (fun f hf => ?_) (fun f => ?_) (by have := h.room; omega)
  · have := crF_len f k z hf; omega
  · unfold crF
    simp only
    split <;> simp <;> omega

def setB (i : Nat) (b : UInt8) (f : AF) : AF := { f with data := f.data.set i b }
def cutB (k : Nat) (f : AF) : AF := { f with data := f.data.take k, synced := (f.data.take k).length }
/-- What a crash of one file leaves. -/
def CrashTail (w : World) (S : Nat → Prop) (a : Nat) (s : Dk) (e : Ending) (w' : World) : Prop := e = .returned (.tuple #[]) ∧ DiskIs w' (grow S w w') a s ∧ Chg S w w'
theorem CrashTail.drew {e : Ending} (h : CrashTail w S a s e w') : CrashTail w S a s e w'.drew :=
  ⟨h.1, h.2.1.same (Nat.le_refl _) (fun _ _ => rfl), h.2.2.drewN 1⟩

theorem row_cap {w : World} {x : Fl} (hf : FileOk w x) {ao : Option Addr} {cap : Nat} (hv : x.v = .slice ao x.data.length cap) : x.data.length ≤ cap ∧ (ao = none → cap = 0) := by
  rcases hf.row.2 with ⟨h2, h0⟩ | ⟨g, cap', cur, h2, _, _, hnc, _⟩
  · rw [hv] at h2; simp at h2; exact ⟨by omega, fun _ => h2.2.2⟩
  · rw [hv] at h2; simp at h2; rw [h2.2]; exact ⟨hnc, fun e => by rw [e] at h2; simp at h2⟩
theorem updK_congr {n : List UInt8} {H H' : AF → AF} {L : List AF} (h : ∀ f ∈ L, AF.key f = n → H f = H' f) : updK AF.key n H L = updK AF.key n H' L := by
  unfold updK
  apply List.map_congr_left
  intro f hf
  by_cases hk : AF.key f = n
  · rw [if_pos hk, if_pos hk, h f hf hk]
  · rw [if_neg hk, if_neg hk]
theorem updK_twice {n : List UInt8} {H H' : AF → AF} (hH : ∀ f, (H f).name = f.name) (L : List AF) : updK AF.key n H' (updK AF.key n H L) = updK AF.key n (fun f => H' (H f)) L := by
  unfold updK
  rw [List.map_map]
  apply List.map_congr_left
  intro f _
  simp only [Function.comp_apply]
  by_cases hk : AF.key f = n
  · rw [if_pos hk, if_pos hk, if_pos (show AF.key (H f) = n from (hH f).trans hk)]
  · rw [if_neg hk, if_neg hk, if_neg hk]
theorem DiskRep.only (h : DiskRep w S a mb F s) {n : List UInt8} {x : Fl} (hx : fndK Fl.key n F = some x) {f : AF} (hf : f ∈ s.L) (hk : AF.key f = n) : f = x.abs := by
  have hA : fndK AF.key n s.L = some x.abs := by rw [h.fnd, hx]; rfl
  have h1 := fndK_some hA
  exact rise_inj h.ok.rise hf h1.1 (hk.trans h1.2.symm)

set_option maxHeartbeats 2000000 in
theorem fileCrash_none (h : DiskRep w S a mb F s) {n : List UInt8} {x : Fl} (hx : fndK Fl.key n F = some x) (k z : Int) (hk : min (max k 0) ((x.data.length : Int) - (x.synced : Int)) = 0) (hk0 : -9223372036854775808 ≤ k ∧ k ≤ 9223372036854775807) :
    Calls Tryz.prog 91 #[.pointer (some ⟨x.g, 0, none⟩), .int .i64 k, .int .i64 z] w (CrashTail w S a { s with L := updK AF.key n (fun f => crF f k z) s.L }) := by
  obtain ⟨hl1, hl2⟩ := file_len h hx
  have hf := h.files x (fndK_some hx).1
  obtain ⟨ao, cap, hv⟩ := hf.slice
  have hcap := row_cap hf hv
  have hb : own w x.g #[.slice ao x.data.length cap, .int .i64 x.synced] 123 := by have := hf.blk; rw [hv] at this; exact this
  have hcr : crF x.abs k z = ⟨x.name, x.data.take x.synced, x.synced⟩ := by
    unfold crF
    have : min (max k 0).toNat (x.abs.data.length - x.abs.synced) = 0 := by
      show min (max k 0).toNat (x.data.length - x.synced) = 0
      omega
    rw [this]
    simp [Fl.abs]
  have hb1 := hb.set 0 (.slice ao x.synced cap)
  have hset := hb1.set 1 (.int .i64 (x.synced : Int))
  have ht := cells_tail h hx (fun f => crF f k z) (fun _ => rfl) hv hl2 hcr (Ok_crF h.ok n k z) _ (by simpa using hset) ((Chg.setCell w ⟨x.g, 0, none⟩ _).trans (Chg.setCell _ ⟨x.g, 1, none⟩ _) (fun b hb => .inl hb))
  have HF := hid (CrashTail.drew ⟨rfl, ht⟩)
  have c0 := hb.cell 0
  have c1 := hb.cell 1
  have f0 := hb.frozen 0
  have d1 := hb1.cell 1
  have f1 := hb1.frozen 1
  simp at c0 c1 d1
  have hsl := fun wx => run_slice_to wx ao x.data.length cap x.synced (by omega) hcap.2
  have hle : (x.synced : Int) ≤ (x.data.length : Int) := by omega
  clear ht hset hb1 hcr hb hv hcap hf h hx hl2
  generalize ({ s with L := updK AF.key n (fun f => crF f k z) s.L } : Dk) = sd at *
  generalize x.data.length = L at *
  generalize x.synced = M at *
  have hW : IntKind.i64.wrap ((L : Int) - (M : Int)) = (L : Int) - (M : Int) := IntWalk.i64_in _ (by omega)
  go_enter Tryz.func91, Tryz.ntmps91
  go_wp2
  go_region
  all_goals
    go_wp2
    go_end0
    exact HF.out

set_option maxHeartbeats 2000000 in
theorem fileCrash_some (h : DiskRep w S a mb F s) {n : List UInt8} {x : Fl} (hx : fndK Fl.key n F = some x) (k z : Int) (i : Nat) (K : Int) (hk : min (max k 0) ((x.data.length : Int) - (x.synced : Int)) = K) (hK : 0 < K) (hi : (x.synced : Int) + K = (i : Int) + 1) (hk0 : -9223372036854775808 ≤ k ∧ k ≤ 9223372036854775807) :
    Calls Tryz.prog 91 #[.pointer (some ⟨x.g, 0, none⟩), .int .i64 k, .int .i64 z] w (CrashTail w S a { s with L := updK AF.key n (fun f => crF f k z) s.L }) := by
  obtain ⟨hl1, hl2⟩ := file_len h hx
  have hxm := (fndK_some hx).1
  have hf := h.files x hxm
  have hiL : i < x.data.length := by omega
  have hne : x.data ≠ [] := fun e => by rw [e] at hiL; simp at hiL
  obtain ⟨g, cap, hv, _, hglt, hLc, hcm, hcell, hfz⟩ := hf.row.shape hne
  have hb : own w x.g #[.slice (some ⟨g, 0, none⟩) x.data.length cap, .int .i64 x.synced] 123 := by have := hf.blk; rw [hv] at this; exact this
  have hgx : g ≠ x.g := fun e => hf.apart (by rw [hv, e]; rfl)
  -- the byte is turned
  have hD1 : ∃ F', DiskRep (w.setCell ⟨g, i, none⟩ (.int .u8 ((x.data[i] ^^^ noiseByte z).toNat : Int))) (grow S w (w.setCell ⟨g, i, none⟩ (.int .u8 ((x.data[i] ^^^ noiseByte z).toNat : Int)))) a mb F' { s with L := updK AF.key n (setB i (x.data[i] ^^^ noiseByte z)) s.L } ∧ fndK Fl.key n F' = some { x with data := x.data.set i (x.data[i] ^^^ noiseByte z) } := by
    refine h.set (x' := { x with data := x.data.set i (x.data[i] ^^^ noiseByte z) }) hx rfl rfl rfl (fun _ => rfl) ⟨?_, ?_, hf.apart⟩ ((Chg.setCell w ⟨g, i, none⟩ _).mono (fun b e => by rw [e]; simp [Fl.foot, hv, Value.ownBlock])) (fun b hb => .inl hb) ?_
    · exact hf.blk.other (fun e => hgx e.symm) _
    · have h1 := hf.row
      rw [hv] at h1
      have := h1.set i hiL (x.data[i] ^^^ noiseByte z) _ rfl
      show Bytes _ 0 x.v (x.data.set i (x.data[i] ^^^ noiseByte z))
      rw [hv]; exact this
    · exact Ok_upd h.ok 0 (fun _ => rfl) (fun f hf => by simpa [setB] using hf) (fun f => by simp [setB]) (by have := h.ok.room; omega)
  obtain ⟨F1, hD1, hx1⟩ := hD1
  have hcB := Chg.setCell w ⟨g, i, none⟩ (.int .u8 ((x.data[i] ^^^ noiseByte z).toNat : Int))
  have hb1 : own (w.setCell ⟨g, i, none⟩ (.int .u8 ((x.data[i] ^^^ noiseByte z).toNat : Int))) x.g #[.slice (some ⟨g, 0, none⟩) x.data.length cap, .int .i64 x.synced] 123 := hb.other (fun e => hgx e.symm) _
  have hx5 : x.data[i]? = some x.data[i] := List.getElem?_eq_getElem hiL
  have cB := hcell i _ hx5
  have fB := hfz i
  have hcr : crF x.abs k z = ⟨x.name, (x.data.set i (x.data[i] ^^^ noiseByte z)).take (i + 1), i + 1⟩ := by
    unfold crF
    have : min (max k 0).toNat (x.abs.data.length - x.abs.synced) = i + 1 - x.synced := by
      show min (max k 0).toNat (x.data.length - x.synced) = _
      omega
    rw [this]
    have h2 : x.abs.synced + (i + 1 - x.synced) = i + 1 := by show x.synced + _ = _; omega
    simp only [h2]
    rw [if_neg (by omega)]
    have h3 : x.abs.data.getD i 0 = x.data[i] := by show x.data.getD i 0 = _; simp [List.getD, hx5]
    simp only [Nat.add_sub_cancel, h3]
    rw [List.take_set]
    rfl
  have hwxor := byte_xor x.data[i] z
  rw [show IntKind.u8.wrap z = z % 256 by simp [IntKind.wrap, IntKind.bits, IntKind.signed]] at hwxor
  have hL : updK AF.key n (cutB (i + 1)) (updK AF.key n (setB i (x.data[i] ^^^ noiseByte z)) s.L) = updK AF.key n (fun f => crF f k z) s.L := by
    rw [updK_twice (H := setB i (x.data[i] ^^^ noiseByte z)) (fun _ => rfl)]
    refine updK_congr (fun f hf hkey => ?_)
    obtain rfl := h.only hx hf hkey
    rw [hcr]
    simp only [cutB, setB, Fl.abs, AF.mk.injEq, true_and]
    rw [List.length_take, List.length_set]; omega
  generalize (x.data[i] ^^^ noiseByte z) = nb at *
  generalize x.data[i] = ob at *
  have hb2 := hb1.set 0 (.slice (some ⟨g, 0, none⟩) (i + 1) cap)
  have hset := hb2.set 1 (.int .i64 ((i + 1 : Nat) : Int))
  have ht := cells_tail (w3 := ((w.setCell ⟨g, i, none⟩ (.int .u8 (nb.toNat : Int))).setCell ⟨x.g, 0, none⟩ (.slice (some ⟨g, 0, none⟩) (i + 1) cap)).setCell ⟨x.g, 1, none⟩ (.int .i64 ((i + 1 : Nat) : Int))) hD1 hx1 (cutB (i + 1)) (fun _ => rfl) (k := i + 1) (m := i + 1) (ao := some ⟨g, 0, none⟩) (cap := cap) (by simp [hv]) (by simp; omega) (by
      simp only [cutB, Fl.abs, AF.mk.injEq, true_and]
      rw [List.length_take, List.length_set]; omega) (by
    exact Ok_upd hD1.ok 0 (fun _ => rfl) (fun f hf => by simp [cutB]) (fun f => by simp [cutB]; omega) (by have := hD1.ok.room; omega)) (by simpa using hset) ((Chg.setCell _ ⟨x.g, 0, none⟩ _).trans (Chg.setCell _ ⟨x.g, 1, none⟩ _) (fun b hb => .inl hb))
  have hS1 : Chg S w (w.setCell ⟨g, i, none⟩ (.int .u8 (nb.toNat : Int))) := hcB.mono (fun b e => by rw [e]; exact h.inS _ (by simp only [List.mem_cons, List.mem_flatMap]; exact .inr (.inr ⟨x, hxm, by simp [Fl.foot, hv, Value.ownBlock]⟩)))
  obtain ⟨⟨mb', F', h1⟩, h2⟩ := ht
  have h3 : DiskIs (((w.setCell ⟨g, i, none⟩ (.int .u8 (nb.toNat : Int))).setCell ⟨x.g, 0, none⟩ (.slice (some ⟨g, 0, none⟩) (i + 1) cap)).setCell ⟨x.g, 1, none⟩ (.int .i64 ((i + 1 : Nat) : Int))) (grow S w (((w.setCell ⟨g, i, none⟩ (.int .u8 (nb.toNat : Int))).setCell ⟨x.g, 0, none⟩ (.slice (some ⟨g, 0, none⟩) (i + 1) cap)).setCell ⟨x.g, 1, none⟩ (.int .i64 ((i + 1 : Nat) : Int)))) a { s with L := updK AF.key n (fun f => crF f k z) s.L } := by
    have h4 := h1.after (w := w) (S := S) (fun b hb => hb) h.lt hcB.size h2.size
    refine ⟨mb', F', ?_⟩
    have e : ({ s with L := updK AF.key n (fun f => crF f k z) s.L } : Dk) = { s with L := updK AF.key n (cutB (i + 1)) (updK AF.key n (setB i nb) s.L) } := by rw [hL]
    rw [e]; exact h4
  have HF := hid (CrashTail.drew ⟨rfl, h3, hS1.after (fun b hb => hb) h2⟩)
  have c0 := hb.cell 0
  have c1 := hb.cell 1
  have e0 := hb1.cell 0
  have f0 := hb1.frozen 0
  have d1 := hb2.cell 1
  have f1 := hb2.frozen 1
  simp at c0 c1 d1 e0
  have hsl := fun wx => run_slice_to wx (some ⟨g, 0, none⟩) x.data.length cap (i + 1) (by omega) (fun e => by cases e)
  have hle : (x.synced : Int) + K ≤ (x.data.length : Int) := by omega
  have hi0 : (i : Int) < (x.data.length : Int) := by omega
  have HI := hid hi
  clear h3 hS1 h1 h2 hset hb2 hb1 hcr hb hv hf h hx hl2 hL hx5 hfz hcell hne hx1 hD1 hcB hxm hi
  generalize ({ s with L := updK AF.key n (fun f => crF f k z) s.L } : Dk) = sd at *
  generalize x.data.length = L at *
  generalize x.synced = M at *
  have hi := HI.out
  have hWW : IntKind.i64.wrap ((i : Int) + 1) = (i : Int) + 1 := IntWalk.i64_in _ (by omega)
  have hW : IntKind.i64.wrap ((L : Int) - (M : Int)) = (L : Int) - (M : Int) := IntWalk.i64_in _ (by omega)
  go_enter Tryz.func91, Tryz.ntmps91
  go_wp2
  go_region
  all_goals
    go_wp2
    go_end0
    exact HF.out
end
end Go.Proofs.YtpcafkinpkepcaaGreatDoor

