/-
  LAYER 11 (xml), THE PROGRAM: attribute.
-/
import Derived.Test.YtbiiaepmemdlgaaDoorXmMi
namespace Go.Proofs.YtbiiaepmemdlgaaDoor
open Go.RowKit
set_option linter.unusedVariables false
set_option maxRecDepth 100000

section
variable {B : Nat} {F : Nat → Prop} {w w1 w2 w3 : World} {b : Nat} {s s' : RSt}
theorem rGo_lift2 {P : Program} {f : FuncId} {args : Array Value} {Q : Ending → World → Prop} (c : ∀ F1, RIs w1 F1 b s → Gb B w1 → B ≤ w1.heap.size → (∀ x, F1 x → B ≤ x) → Calls P f args w1 fun e w2 => ∃ s', Q e w2 ∧ RTo F1 w1 w2 b s') (k : RGo B F w w1 b s) :
    Calls P f args w1 fun e w2 => ∃ s', Q e w2 ∧ RGo B F w w2 b s' := by
  obtain ⟨F1, i, G, hB, hF, c1, g1⟩ := k
  have hz := c1.size
  refine (c F1 i G (Nat.le_trans hB hz) hF).mono fun e w2 ⟨s', q, F2, i2, c2, g2⟩ => ?_
  refine ⟨s', q, F2, i2, G.below (c2.below (Nat.le_trans hB hz) hF), hB, fun x hx => ?_, c1.trans c2 g1, fun x hx => ?_⟩
  · rcases g2 x hx with e | e
    · exact hF x e
    · omega
  · rcases g2 x hx with e | e
    · exact g1 x e
    · right; omega
theorem rGo_own (k : RGo B F w w2 b s) {g : Nat} {cs : Array Value} {T : TypeId} (h : own w g cs T) (hg : ¬ F g) : own w2 g cs T := by
  obtain ⟨F1, i, G, hB, hF, c1, g1⟩ := k
  exact h.chg c1 hg
/-- Boxes laid ahead of the calls, and turned behind them. -/
theorem rTo_of {S : Nat → Prop} (hb : Below w.heap.size w w1) (hS : ∀ x, S x → w.heap.size ≤ x ∧ x < w1.heap.size) (hF : ∀ x, F x → x < w.heap.size) (k : RGo B F w1 w2 b s') (hc : Chg S w2 w3) : RTo F w w3 b s' := by
  obtain ⟨F1, i, G, hB, _, c1, g1⟩ := k
  have hz := hb.size
  have hn : ∀ x, F1 x → ¬ S x := fun x hx hs => by
    obtain ⟨a1, a2⟩ := hS x hs
    rcases g1 x hx with e | e
    · have := hF x e; omega
    · omega
  refine ⟨F1, rIs_same i hc.size (fun x hx => hc.block x (i.lt x hx) (hn x hx)), ?_, fun x hx => ?_⟩
  · refine ((Chg.of_below (S := F) hb).trans c1 (fun x e => .inl e)).trans hc (fun x hs => ?_)
    right; exact (hS x hs).1
  · rcases g1 x hx with e | e
    · exact .inl e
    · right; omega
def atV (x y : ByteArray) (o : Bool) : Value := .tuple #[.agg #[.string x, .string y], .bool o]
def GAttr (o : Option (AtX × List UInt8)) (rest : List UInt8) (s' : RSt) (s : RSt) (e : Ending) : Prop :=
  (∀ x, o = some x → e = .returned (atV (mk x.1.n) (mk x.1.v) true) ∧ s' = { s with rest := x.2 }) ∧ (o = none → ∃ x y, e = .returned (atV x y false))
theorem gAttr_no {e : Ending} {o : Option (AtX × List UInt8)} {x y : ByteArray} (ho : o = none) (he : e = .returned (atV x y false)) : GAttr o s.rest s' s e := ⟨fun z hz => (by rw [ho] at hz; cases hz), fun _ => ⟨x, y, he⟩⟩
theorem box_two (w : World) (g : Nat) (x y : ByteArray) (T : TypeId) (u v : Value) (h : own w g #[u, v] T) : own ((w.setCell ⟨g, 0, none⟩ (.string x)).setCell ⟨g, 1, none⟩ (.string y)) g #[.string x, .string y] T := by
  have h1 := (h.set 0 (.string x)).set 1 (.string y)
  simpa using h1
theorem chg_two (w : World) (g : Nat) (x y : Value) : Chg (fun z => z = g) w ((w.setCell ⟨g, 0, none⟩ x).setCell ⟨g, 1, none⟩ y) := (Chg.setCell w ⟨g, 0, none⟩ x).trans (Chg.setCell _ ⟨g, 1, none⟩ y) (fun z e => .inl e)
set_option maxHeartbeats 4000000 in
theorem rAttr_to (h : RIs w F b s) (hG : Gb B w) (hB : B ≤ w.heap.size) (hF : ∀ x, F x → B ≤ x) (hl : s.rest.length ≤ 100000) :
    Calls Tryd.prog 38 #[.pointer (some ⟨b, 0, none⟩)] w fun e w' => ∃ s', GAttr (attrX s.rest) s.rest s' s e ∧ RTo F w w' b s' := by
  have hb0 : Below w.heap.size w (w.alloc (.cells #[.string ⟨#[]⟩, .string ⟨#[]⟩] 38)) := (Below.refl _ _).alloc (Nat.le_refl _) _
  have hz0 : (w.alloc (.cells #[.string ⟨#[]⟩, .string ⟨#[]⟩] 38)).heap.size = w.heap.size + 1 := by simp
  have ho0 : own (w.alloc (.cells #[.string ⟨#[]⟩, .string ⟨#[]⟩] 38)) w.heap.size #[.string ⟨#[]⟩, .string ⟨#[]⟩] 38 := own.new w _ _
  have hlt := h.lt
  have hng : ¬ F w.heap.size := fun e => by have := hlt _ e; omega
  have k0 : RGo B F (w.alloc (.cells #[.string ⟨#[]⟩, .string ⟨#[]⟩] 38)) (w.alloc (.cells #[.string ⟨#[]⟩, .string ⟨#[]⟩] 38)) b s :=
    rGo_start (rIs_same h hb0.size (fun x hx => hb0.block x (hlt x hx))) (hG.below (hb0.mono hB)) (by omega) hF
  generalize hW : w.alloc (.cells #[.string ⟨#[]⟩, .string ⟨#[]⟩] 38) = W at *
  have HK := hid (fun (w2 : World) (s2 : RSt) (k : RGo B F W w2 b s2) => rGo_own k ho0 hng)
  have HE := hid (fun (w2 w3 : World) (s2 : RSt) (k : RGo B F W w2 b s2) (hc : Chg (fun x => x = w.heap.size) w2 w3) => rTo_of hb0 (fun x e => ⟨by omega, by omega⟩) hlt k hc)
  have HN := hid (gName k0 hl)
  have hnl := nameX_len s.rest
  have ha := attrX_val s.rest
  have HS := hid (fun (w2 : World) (k : RGo B F W w2 b { s with rest := (nameX s.rest).2 }) => gSpace k)
  have hdl := dropW_len spcX (nameX s.rest).2
  have HNL : Hid ((nameX s.rest).2.length ≤ s.rest.length) := hid (by omega)
  clear k0 h ho0 hng hb0 hz0 hlt hG hB hF hnl
  by_cases hn : (nameX s.rest).1 = []
  · rw [if_pos hn] at ha
    have hd : decide ((nameX s.rest).1 ≠ []) = false := by simp [hn]
    rw [hd] at HN
    have HA := hid ha
    clear ha hn hd hdl
    go_enter Tryd.func38, Tryd.ntmps38
    go_wp2_with (first
      | (go_at_call 35; (with_reducible refine HN.out.mono ?_); rintro e w2 ⟨rfl, k2⟩)
      | (go_at_call 36; (with_reducible refine (HS.out _ k2).mono ?_); rintro e w3 ⟨rfl, k3⟩; have o3 := HK.out _ _ k3; have d0 : w3.cell? ⟨w.heap.size, 0, none⟩ = some (.string ⟨#[]⟩) := (by rw [o3.cell]; rfl); have d1 : w3.cell? ⟨w.heap.size, 1, none⟩ = some (.string ⟨#[]⟩) := (by rw [o3.cell]; rfl); have g0 := o3.frozen 0; have g1 := o3.frozen 1))
    have hbx := box_two w3 w.heap.size ⟨#[]⟩ ⟨#[]⟩ _ _ _ o3
    have e0 := hbx.cell 0
    have e1 := hbx.cell 1
    simp at e0 e1
    exact bodyPost_ret (v := atV ⟨#[]⟩ ⟨#[]⟩ false) (by simp [results, Tryd.results38, go_sem, atV, e0, e1]) rfl ⟨_, gAttr_no HA.out rfl, HE.out _ _ _ k3 (chg_two _ _ _ _)⟩
  · rw [if_neg hn] at ha
    have hd : decide ((nameX s.rest).1 ≠ []) = true := by simp [hn]
    rw [hd] at HN
    clear hd hn
    generalize hnm : (nameX s.rest).1 = nm at *
    clear hnm
    cases hp : past [61] ((nameX s.rest).2.dropWhile spcX) with
    | none =>
      rw [hp] at ha
      have HA := hid ha
      have HP := hid (fun (w2 : World) (k : RGo B F W w2 b { s with rest := (nameX s.rest).2.dropWhile spcX }) => gPast_no k ⟨#[61]⟩ hp)
      clear ha hdl hp
      go_enter Tryd.func38, Tryd.ntmps38
      go_wp2_with (first
        | (go_at_call 35; (with_reducible refine HN.out.mono ?_); rintro e w2 ⟨rfl, k2⟩)
        | (go_at_call 36; (with_reducible refine (HS.out _ k2).mono ?_); rintro e w3 ⟨rfl, k3⟩)
        | (go_at_call 18; (with_reducible refine (HP.out _ k3).mono ?_); rintro e w4 ⟨rfl, k4⟩; have o3 := HK.out _ _ k4; have d0 : w4.cell? ⟨w.heap.size, 0, none⟩ = some (.string ⟨#[]⟩) := (by rw [o3.cell]; rfl); have d1 : w4.cell? ⟨w.heap.size, 1, none⟩ = some (.string ⟨#[]⟩) := (by rw [o3.cell]; rfl); have g0 := o3.frozen 0; have g1 := o3.frozen 1))
      have hbx := box_two w4 w.heap.size ⟨#[]⟩ ⟨#[]⟩ _ _ _ o3
      have e0 := hbx.cell 0
      have e1 := hbx.cell 1
      simp at e0 e1
      exact bodyPost_ret (v := atV ⟨#[]⟩ ⟨#[]⟩ false) (by simp [results, Tryd.results38, go_sem, atV, e0, e1]) rfl ⟨_, gAttr_no HA.out rfl, HE.out _ _ _ k4 (chg_two _ _ _ _)⟩
    | some r2 =>
      rw [hp] at ha
      have hpl := (past_lt hp).2
      have HA : Hid (attrX s.rest = (valX (r2.dropWhile spcX)).map fun x => (⟨nm, x.1⟩, x.2)) := hid ha
      have HP := hid (fun (w2 : World) (k : RGo B F W w2 b { s with rest := (nameX s.rest).2.dropWhile spcX }) => gPast_yes k ⟨#[61]⟩ hp)
      have HS2 := hid (fun (w2 : World) (k : RGo B F W w2 b { s with rest := r2 }) => gSpace k)
      have hd2 := dropW_len spcX r2
      have HV := hid (fun (w2 : World) (k : RGo B F W w2 b { s with rest := r2.dropWhile spcX }) => gValue k (by show (r2.dropWhile spcX).length ≤ _; have := HNL.out; omega))
      clear ha hdl hp hpl hd2
      cases hv : valX (r2.dropWhile spcX) with
      | none =>
        have HV2 : Hid (∀ w2, RGo B F W w2 b { s with rest := r2.dropWhile spcX } → Calls Tryd.prog 52 #[.pointer (some ⟨b, 0, none⟩)] w2 fun e w3 => e = .returned (.tuple #[.string ⟨#[]⟩, .bool false]) ∧ ∃ l, RGo B F W w3 b { s with rest := l }) := hid (fun w2 k => (HV.out w2 k).mono fun e w3 ⟨_, h2⟩ => by
          obtain ⟨he, l, _, k3⟩ := h2 hv
          exact ⟨he, l, k3⟩)
        rw [hv] at HA
        clear HV hv
        go_enter Tryd.func38, Tryd.ntmps38
        go_wp2_with (first
          | (go_at_call 35; (with_reducible refine HN.out.mono ?_); rintro e w2 ⟨rfl, k2⟩)
          | (go_at_call 36; (with_reducible refine (HS.out _ k2).mono ?_); rintro e w3 ⟨rfl, k3⟩)
          | (go_at_call 18; (with_reducible refine (HP.out _ k3).mono ?_); rintro e w4 ⟨rfl, k4⟩)
          | (go_at_call 36; (with_reducible refine (HS2.out _ k4).mono ?_); rintro e w5 ⟨rfl, k5⟩)
          | (go_at_call 52; (with_reducible refine (HV2.out _ k5).mono ?_); rintro e w6 ⟨rfl, l6, k6⟩; have o3 := HK.out _ _ k6; have d0 : w6.cell? ⟨w.heap.size, 0, none⟩ = some (.string ⟨#[]⟩) := (by rw [o3.cell]; rfl); have d1 : w6.cell? ⟨w.heap.size, 1, none⟩ = some (.string ⟨#[]⟩) := (by rw [o3.cell]; rfl); have g0 := o3.frozen 0; have g1 := o3.frozen 1))
        have hbx := box_two w6 w.heap.size (mk nm) ⟨#[]⟩ _ _ _ o3
        have e0 := hbx.cell 0
        have e1 := hbx.cell 1
        simp at e0 e1
        exact bodyPost_ret (v := atV (mk nm) ⟨#[]⟩ false) (by simp [results, Tryd.results38, go_sem, atV, e0, e1]) rfl ⟨_, gAttr_no HA.out rfl, HE.out _ _ _ k6 (chg_two _ _ _ _)⟩
      | some x =>
        have HV2 : Hid (∀ w2, RGo B F W w2 b { s with rest := r2.dropWhile spcX } → Calls Tryd.prog 52 #[.pointer (some ⟨b, 0, none⟩)] w2 fun e w3 => e = .returned (.tuple #[.string (mk x.1), .bool true]) ∧ RGo B F W w3 b { s with rest := x.2 }) := hid (fun w2 k => (HV.out w2 k).mono fun e w3 ⟨h1, _⟩ => h1 x hv)
        rw [hv] at HA
        clear HV hv
        go_enter Tryd.func38, Tryd.ntmps38
        go_wp2_with (first
          | (go_at_call 35; (with_reducible refine HN.out.mono ?_); rintro e w2 ⟨rfl, k2⟩)
          | (go_at_call 36; (with_reducible refine (HS.out _ k2).mono ?_); rintro e w3 ⟨rfl, k3⟩)
          | (go_at_call 18; (with_reducible refine (HP.out _ k3).mono ?_); rintro e w4 ⟨rfl, k4⟩)
          | (go_at_call 36; (with_reducible refine (HS2.out _ k4).mono ?_); rintro e w5 ⟨rfl, k5⟩)
          | (go_at_call 52; (with_reducible refine (HV2.out _ k5).mono ?_); rintro e w6 ⟨rfl, k6⟩; have o3 := HK.out _ _ k6; have d0 : w6.cell? ⟨w.heap.size, 0, none⟩ = some (.string ⟨#[]⟩) := (by rw [o3.cell]; rfl); have d1 : w6.cell? ⟨w.heap.size, 1, none⟩ = some (.string ⟨#[]⟩) := (by rw [o3.cell]; rfl); have g0 := o3.frozen 0; have g1 := o3.frozen 1))
        have hbx := box_two w6 w.heap.size (mk nm) (mk x.1) _ _ _ o3
        have e0 := hbx.cell 0
        have e1 := hbx.cell 1
        simp at e0 e1
        exact bodyPost_ret (v := atV (mk nm) (mk x.1) true) (by simp [results, Tryd.results38, go_sem, atV, e0, e1]) rfl ⟨_, ⟨fun z hz => (by rw [HA.out] at hz; cases hz; exact ⟨rfl, rfl⟩), fun hz => (by rw [HA.out] at hz; cases hz)⟩, HE.out _ _ _ k6 (chg_two _ _ _ _)⟩
end
end Go.Proofs.YtbiiaepmemdlgaaDoor
