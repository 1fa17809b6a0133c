import Derived.Test.YtjoeamlidmmioaaGreatDoorTrRgJ
import Derived.Test.YtjoeamlidmmioaaGreatDoorTrTkJ
import Derived.Test.YtjoeamlidmmioaaGreatDoorTrShownJ
import Derived.Test.YtjoeamlidmmioaaGreatDoorTrOkTJ
import Derived.Test.YtjoeamlidmmioaaGreatDoorTrSam2J
import Derived.Test.YtjoeamlidmmioaaGreatDoorXmWmJ
/-
  LAYER 12, the law TreeBuilds: its walk.
-/
namespace Go.Proofs.YtjoeamlidmmioaaGreatDoor
open Go.RowKit
set_option linter.unusedVariables false
set_option maxRecDepth 100000

theorem sumT_le : ∀ L : List TkX, (∀ t ∈ L, TkOk t) → sumT L ≤ (writeX L).length
  | [], _ => by simp [sumT]
  | t :: r, h => by
    have h1 := sumT_le r (fun x hx => h x (List.mem_cons_of_mem t hx))
    have h2 : t.t.length ≤ (wTk t).length := by
      rcases h t (List.mem_cons_self ..) with ⟨_, _, _, q⟩ | ⟨_, _, _, q⟩ | ⟨k, _, _, _⟩
      · rw [q]; simp
      · rw [q]; simp
      · rw [wTk_3 k]; exact escX_ge t.t
    rw [write_cons, List.length_append]
    have h3 : sumT (t :: r) = t.t.length + sumT r := by simp [sumT]
    omega
theorem sumT_few {m : Nat} : ∀ L : List TkX, (∀ t ∈ L, t.t.length ≤ m) → sumT L ≤ L.length * m
  | [], _ => by simp [sumT]
  | t :: r, h => by
    have h1 := sumT_few r (fun x hx => h x (List.mem_cons_of_mem t hx))
    have h2 := h t (List.mem_cons_self ..)
    have h3 : sumT (t :: r) = t.t.length + sumT r := by simp [sumT]
    rw [h3, List.length_cons, Nat.succ_mul]
    omega
theorem mem_sumT {t : TkX} : ∀ {L : List TkX}, t ∈ L → t.t.length ≤ sumT L
  | x :: r, h => by
    have h3 : sumT (x :: r) = x.t.length + sumT r := by simp [sumT]
    rcases List.mem_cons.1 h with e | e
    · subst e; omega
    · have := mem_sumT e; omega
theorem treeR_small (s : List UInt8) (h : s.length ≤ 4000) : (readR s).1.length ≤ 100000 ∧ (∀ t ∈ (readR s).1, t.t.length ≤ 100000) ∧ okF bdX0 (readR s).1 := by
  rcases readR_cases (l := s) (by omega) with ⟨L, n, h1, h2⟩ | ⟨n, h1, h2⟩
  · rw [h2]
    have w1 := read_wl h1
    have w2 := read_few' h1
    have w3 := sumT_le L (read_ok h1).1
    exact ⟨by simp only; omega, fun t ht => by have ht2 : t ∈ L := ht; have := mem_sumT ht2; omega, okF_few L (by omega) (fun t ht => by have := read_ats h1 ht; omega) (by omega)⟩
  · rw [h2]
    exact ⟨by simp, fun t h => by simp at h, okF_few [] (by simp) (fun t h => by simp at h) (by simp [sumT])⟩
theorem bx_cells {w : World} {b : Nat} {x : NdV} {T : TypeId} (h : own w b #[.string (mk x.n), .slice x.a x.am x.ac, .string (mk x.t), .slice x.k x.km x.kc] T) {w' : World} (hb : Below w.heap.size w w') :
    own w' b #[.string (mk x.n), .slice x.a x.am x.ac, .string (mk x.t), .slice x.k x.km x.kc] T ∧ w'.cell? ⟨b, 0, none⟩ = some (.string (mk x.n)) ∧ w'.cell? ⟨b, 1, none⟩ = some (.slice x.a x.am x.ac) ∧ w'.cell? ⟨b, 2, none⟩ = some (.string (mk x.t)) ∧ w'.cell? ⟨b, 3, none⟩ = some (.slice x.k x.km x.kc) := by
  have o := h.same (hb.block _ h.lt)
  exact ⟨o, by rw [o.cell]; rfl, by rw [o.cell]; rfl, by rw [o.cell]; rfl, by rw [o.cell]; rfl⟩
theorem bx_step {w w' : World} {o : Obj} (hb : Below (w.alloc o).heap.size (w.alloc o) w') : Below w.heap.size w w' := ((Below.refl w.heap.size w).alloc (Nat.le_refl _) o).trans (hb.mono ((Below.refl w.heap.size w).alloc (Nat.le_refl _) o).size)
theorem al (w : World) (o : Obj) : Below w.heap.size w (w.alloc o) := (Below.refl _ _).alloc (Nat.le_refl _) _
set_option maxHeartbeats 16000000 in
theorem treeBuilds_any (HBd : ∀ (w : World) (v : Value) (L : List TkX), RokAt w v L → L.length ≤ 100000 → (∀ t ∈ L, t.t.length ≤ 100000) → Calls Tryz.prog 7 #[v] w (RbPost w (buildX L))) {w : World} (hG : Gb w.heap.size w) {v : Value} {L : List TkX} (hT : TokAt w v L) (s : ByteArray) : Calls Tryz.prog 3 #[v, .string s] w fun e w' => e = .returned (.bool true) ∧ Below w.heap.size w w' := by
  obtain ⟨a0, c0, rfl, -⟩ := tks_at hT
  have HS := hid (trShown_any hG)
  have HTk := hid (fun w1 (hb : Below w.heap.size w w1) => tokens_any (hT.below hb))
  have HT := hid hT
  have HG := hid hG
  have hsl : s.data.toList.length = s.size := str_len s
  clear hG hT
  go_enter Tryz.func3, Tryz.ntmps3
  go_wp2_with (first
    | (go_at_call 4; (with_reducible refine HS.out.mono ?_); rintro e w1 ⟨rfl, hb1⟩)
    | (go_at_call 5; (with_reducible refine (HTk.out w1 hb1).mono ?_)))
  rintro e w2 ⟨hb2, rfl | ⟨a2, c2, rfl, k2, l2, m2⟩⟩
  · go_wp2
    go_ret
    exact ⟨rfl, hb1.trans (hb2.mono hb1.size)⟩
  have hbw2 := hb1.trans (hb2.mono hb1.size)
  by_cases hl : 4000 < s.size
  · have hlI : (4000 : Int) < (s.size : Int) := by omega
    clear k2 m2
    go_wp2
    go_ret
    exact ⟨rfl, hbw2⟩
  have hlI : ¬ (4000 : Int) < (s.size : Int) := by omega
  have HBA := hid (build_any (HT.out.below hbw2) (okF_few L (by omega) (fun t ht => by have := (m2 t ht).1; omega) (by have := sumT_few L (fun t ht => (m2 t ht).2); omega)) (by omega))
  have HBB := hid (fun (w' : World) (hb : Below w2.heap.size w2 w') => HBd w' _ L (k2.below hb) (by omega) (fun t ht => by have := (m2 t ht).2; omega))
  obtain ⟨s1, s2, s3⟩ := treeR_small s.data.toList (by omega)
  have HBC := hid (fun (w' : World) (hb : Below w.heap.size w w') => parse_any (gb_at HG.out hb) s (by omega) _ rfl (fun _ => s3) (by omega))
  have HBD := hid (fun (w' : World) => refParse_any HBd s.data.toList (by omega) w' _ rfl s1 s2)
  rw [mk_of] at HBD
  generalize hRR : readR s.data.toList = R at *
  clear s1 s2 s3 hRR k2 m2 HBd
  unfold BuildPost at HBA
  unfold RbPost at HBB HBD
  unfold ParsePost at HBC
  generalize hBX : buildX L = BX at *
  generalize hPX : parseX R = PX at *
  clear hBX hPX
  obtain ⟨bt, be⟩ := BX
  obtain ⟨pt, pe⟩ := PX
  unfold ndV at HBA
  simp only at HBA HBB HBC HBD
  have q1 : (be == be) = true := beq_self_eq_true _
  have q2 : (pe == pe) = true := beq_self_eq_true _
  go_wp2_with (first
    | (go_at_call 6; (with_reducible refine HBA.out.mono ?_); rintro e w3 ⟨x, rfl, hN3, hb3⟩)
    | (go_at_call 7; (with_reducible refine (HBB.out _ (hb3.trans ((al w3 _).mono hb3.size))).mono ?_); rintro e w4 ⟨y, rfl, hN4, hb4⟩)
    | (go_at_call 8; (with_reducible refine (HBC.out _ (hbw2.trans ((hb3.trans ((al w3 _).mono hb3.size)).trans ((hb4.trans ((al w4 _).mono hb4.size)).mono ((hb3.trans ((al w3 _).mono hb3.size)).size)) |>.mono hbw2.size))).mono ?_); rintro e w5 ⟨z, rfl, hN5, hb5⟩)
    | (go_at_call 9; (with_reducible refine (HBD.out _).mono ?_); rintro e w6 ⟨u, rfl, hN6, hb6⟩; (have o8 := (bx_cells (bx_cells (bx_cells (bx_cells (bx_cells (own.new w3 _ _) hb4).1 (al w4 _)).1 hb5).1 (al w5 _)).1 hb6).1); (have o10 := (bx_cells (bx_cells (bx_cells (own.new w4 _ _) hb5).1 (al w5 _)).1 hb6).1); (have o12 := (bx_cells (own.new w5 _ _) hb6).1); (have e80 := fun o => (bx_cells o8 (al w6 o)).2.1); (have e81 := fun o => (bx_cells o8 (al w6 o)).2.2.1); (have e82 := fun o => (bx_cells o8 (al w6 o)).2.2.2.1); (have e83 := fun o => (bx_cells o8 (al w6 o)).2.2.2.2); (have e100 := fun o => (bx_cells o10 (al w6 o)).2.1); (have e101 := fun o => (bx_cells o10 (al w6 o)).2.2.1); (have e102 := fun o => (bx_cells o10 (al w6 o)).2.2.2.1); (have e103 := fun o => (bx_cells o10 (al w6 o)).2.2.2.2); (have B34 := bx_step hb4); (have B45 := bx_step hb5); (have B56 := bx_step hb6); (have B35 := B34.trans (B45.mono B34.size)); (have B36 := B35.trans (B56.mono B35.size)); (have B46 := B45.trans (B56.mono B45.size)); (have HS1 := hid (fun o => same_any _ (Nat.le_refl _) (trunc_same bt) (ndIn_any (ndIn_below hN3 (B36.trans ((al w6 o).mono B36.size)))) (ndIn_any (ndIn_below hN4 (B46.trans ((al w6 o).mono B46.size))))))))
  have HX12 := hid o12
  clear e80 e81 e82 e83 e100 e101 e102 e103
  go_wp2_with (go_at_call 10; first
    | ((with_reducible refine (HS1.out _).mono ?_); rintro e w7 ⟨r, rfl, hr, hb7⟩; (obtain rfl : r = true := hr.2 rfl); (have hb67 := bx_step hb7); (obtain ⟨-, f0, f1, f2, f3⟩ := bx_cells HX12.out hb67); (obtain ⟨-, g0, g1, g2, g3⟩ := bx_cells (own.new w6 _ _) hb7); (have B57 := B56.trans (hb67.mono B56.size)); (have HS2 := hid (same_any _ (Nat.le_refl _) (trunc_same pt) (ndIn_any (ndIn_below hN5 B57)) (ndIn_any (ndIn_below hN6 hb67)))))
    | ((with_reducible refine HS2.out.mono ?_); rintro e w8 ⟨r, rfl, hr2, hb8⟩; (obtain rfl : r = true := hr2.2 rfl)))
  go_ret
  have B26 := hb3.trans (B36.mono hb3.size)
  have B27 := B26.trans (hb67.mono B26.size)
  have B28 := B27.trans (hb8.mono B27.size)
  exact ⟨rfl, hbw2.trans (B28.mono hbw2.size)⟩
end Go.Proofs.YtjoeamlidmmioaaGreatDoor

