import Derived.Test.YtbidglefddmjhaaGreatDoorMq5J
import Derived.Test.YtbidglefddmjhaaGreatDoorWlActMJ
import Derived.BigRegion
import Derived.Test.YtbidglefddmjhaaGreatDoorMq1J
/-
  LAYER 3 (wal), the laws' own helpers: pick, entry, hard, entries.
-/
namespace Go.Proofs.YtbidglefddmjhaaGreatDoor
open Go.RowKit Go.Maps
set_option linter.unusedVariables false
set_option maxRecDepth 100000

theorem pick3_any (c n : Int) (w : World) (hn : 0 < n) (hn2 : n ≤ 1000000) (hc : I64 c) :
    Calls Tryz.prog 14 #[.int .i64 c, .int .i64 n] w fun e w' => e = .returned (.int .i64 (pickZ c n)) ∧ w = w' := by
  obtain ⟨h0, h1⟩ := hc
  unfold pickZ
  by_cases h : c < 0
  · rw [if_pos h]
    have hc : 0 ≤ -(c + 1) := by omega
    have hc2 : -(c + 1) ≤ 9223372036854775807 := by omega
    go_enter Tryz.func14, Tryz.ntmps14
    go_wp2
    go_ret
    refine ⟨?_, rfl⟩
    show Ending.returned (.int .i64 _) = _
    congr 2
    first | rfl | (rw [← Int.tmod_eq_emod_of_nonneg hc]; simp [Int.neg_tmod])
  · rw [if_neg h]
    have hc : 0 ≤ c := by omega
    go_enter Tryz.func14, Tryz.ntmps14
    go_wp2
    go_ret
    exact ⟨by first | rfl | (congr 2; exact Int.tmod_eq_emod_of_nonneg hc), rfl⟩
theorem entry3_any (i t : Int) (d : ByteArray) (w : World) :
    Calls Tryz.prog 49 #[.int .i64 i, .int .i64 t, .string d] w fun e w' => e = .returned (.agg #[.int .i64 i, .int .i64 t, .int .i64 2, .string d]) ∧ Below w.heap.size w w' := by
  go_enter Tryz.func49, Tryz.ntmps49
  go_wp2
  exact bodyPost_ret (v := .agg #[.int .i64 i, .int .i64 t, .int .i64 2, .string d]) (by simp [results, Tryz.results49, go_sem]) rfl ⟨rfl, (Below.refl _ _).alloc (Nat.le_refl _) _⟩
/-- An act as a value. -/
def waV (a : Wa) (kv nv : Value) : Value := .agg #[.int .i64 a.op, .int .i64 a.term, .int .i64 a.vote, .int .i64 a.idx, .int .i64 a.n, .string a.data, kv, nv]
set_option maxHeartbeats 4000000 in
theorem hardA_any (a : Wa) (h : WaOk a) (kv nv : Value) (hk : ∃ x n c, kv = .slice x n c) (hn : ∃ x n c, nv = .slice x n c) (w : World) :
    Calls Tryz.prog 33 #[waV a kv nv] w fun e w' => e = .returned (.agg #[.int .i64 (hdA a).term, .int .i64 (hdA a).vote]) ∧ Below w.heap.size w w' := by
  obtain ⟨ka, kn, kc, rfl⟩ := hk
  obtain ⟨na, nn, nc, rfl⟩ := hn
  have HP1 := hid (fun wx => pick3_any a.term 20 wx (by omega) (by omega) h.term)
  have HP2 := hid (fun wx => pick3_any a.vote 4 wx (by omega) (by omega) h.vote)
  have hb0 : Below w.heap.size w (w.alloc (.cells #[.int .i64 a.op, .int .i64 a.term, .int .i64 a.vote, .int .i64 a.idx, .int .i64 a.n, .string a.data, .slice ka kn kc, .slice na nn nc] 34)) := (Below.refl _ _).alloc (Nat.le_refl _) _
  have hr1 := pkRange a.term 20 (by omega)
  have hr2 := pkRange a.vote 4 (by omega)
  have htm := h.term
  have hvt := h.vote
  unfold I64 at htm hvt
  unfold waV hdA oddH
  generalize a.op = x0 at *
  generalize hx1 : a.term = x1 at *
  generalize hx2 : a.vote = x2 at *
  generalize a.idx = x3 at *
  generalize a.n = x4 at *
  generalize a.data = x5 at *
  generalize pickZ x1 20 = q1 at *
  generalize pickZ x2 4 = q2 at *
  clear hx1 hx2 h
  by_cases h1 : Int.tmod x1 41 = 0 ∧ x1 ≠ 0
  · rw [show decide (Int.tmod x1 41 = 0 ∧ x1 ≠ 0) = true by simpa using h1]
    simp only [if_true]
    have e1 : (Int.tmod x1 41 == 0) = true := by simpa using h1.1
    have e2 : (x1 != 0) = true := by simpa using h1.2
    clear h1
    go_enter Tryz.func33, Tryz.ntmps33
    go_wp2
    exact bodyPost_ret (v := .agg #[.int .i64 x1, .int .i64 x2]) (by simp [results, Tryz.results33, go_sem]) rfl ⟨rfl, (((Below.refl _ _).alloc (Nat.le_refl _) _).alloc (by simp) _)⟩
  · rw [show decide (Int.tmod x1 41 = 0 ∧ x1 ≠ 0) = false by simpa using h1]
    simp only [Bool.false_eq_true, if_false]
    have e1 : (Int.tmod x1 41 == 0) = false ∨ ((Int.tmod x1 41 == 0) = true ∧ (x1 != 0) = false) := by
      by_cases h2 : Int.tmod x1 41 = 0
      · right
        exact ⟨by simpa using h2, by simpa using fun e => h1 ⟨h2, e⟩⟩
      · left; simpa using h2
    clear h1
    rcases e1 with e1 | ⟨e1, e2⟩
    all_goals
      go_enter Tryz.func33, Tryz.ntmps33
      go_wp2
      go_region_with (go_at_call 14; first | ((with_reducible refine (HP1.out _).mono ?_); rintro e w1 ⟨rfl, rfl⟩) | ((with_reducible refine (HP2.out _).mono ?_); rintro e w1 ⟨rfl, rfl⟩))
      all_goals
        go_wp2
        exact bodyPost_ret (v := .agg #[.int .i64 q1, .int .i64 q2]) (by simp [results, Tryz.results33, go_sem]) rfl ⟨rfl, (((Below.refl _ _).alloc (Nat.le_refl _) _).alloc (by simp) _).drew⟩
end Go.Proofs.YtbidglefddmjhaaGreatDoor

/-
  LAYER 3 (wal), the laws' own helpers: the entries of an act.
-/
namespace Go.Proofs.YtbidglefddmjhaaGreatDoor
open Go.RowKit Go.Maps
set_option linter.unusedVariables false
set_option maxRecDepth 100000

theorem EntRow.mono {w : World} {B B' : Nat} {v : Value} {L : List En} (h : EntRow w B v L) (hB : B' ≤ B) : EntRow w B' v L := by
  obtain ⟨h1, h2⟩ := h
  refine ⟨h1, ?_⟩
  rcases h2 with h2 | ⟨g, cap, cur, hv, hBg, r⟩
  · exact .inl h2
  · exact .inr ⟨g, cap, cur, hv, by omega, r⟩
/-- An entry put behind a row, at the operation. -/
theorem wpList_append_ent {w : World} {ops : Array Oper} {rest : List Oper} {o : Oper} {a : Act} {Q : Exit → Act → World → Prop} {B : Nat} {L : List En} {e : En} {gb n : Nat} {cs : Array Value} (hgd : o.guard = none) (sl x : Operand)
    (ho : o.op = .call { callee := .builtin .append, args := #[sl, x], argTypes := #[52, 52] }) (v : Value) (hs : a.eval sl = v) (hx : a.eval x = .slice (some ⟨gb, 0, none⟩) 1 1)
    (hown : EntRow w B v L) (hr : own w gb cs 95) (hcs : cs = (ecells e).toArray) (hn : L.length = n) (hb : n ≤ 100000) (hB : B ≤ w.heap.size)
    (h : ∀ ao cap w', EntRow w' B (.slice ao (n + 1) cap) (L ++ [e]) → w.grownBy w' v.ownBlock → wpList Tryz.prog ops Q rest (a.put o.dst (.slice ao (n + 1) cap)) w') : wpList Tryz.prog ops Q (o :: rest) a w := by
  subst hcs hn
  obtain ⟨ao, cap, w', hrun, h1, h2, _⟩ := run_entry w B o.type v L e gb hown hr hb hB
  exact wpList_append_run hgd sl x _ _ ho v _ hs hx _ w' hrun (h ao cap w' h1 h2)
theorem zeroBox {wr w3 : World} {cs : Array Value} {T : TypeId} (hb : Below (wr.alloc (.cells cs T)).drew.heap.size (wr.alloc (.cells cs T)).drew w3) : own w3 wr.heap.size cs T :=
  (own_drew (own_new (w := wr) (cs := cs) (T := T) rfl)).same (hb.block _ (by simp))
def EntsPost (w : World) (a : Wa) (e : Ending) (w' : World) : Prop := ∃ v, e = .returned v ∧ EntRow w' w.heap.size v (entA a) ∧ Below w.heap.size w w'
def EntsRel (w : World) (a : Wa) (m : Nat) (kv nv : Value) (u1 u2 : Value) (wr : World) : Prop :=
  ∃ k : Nat, k ≤ m ∧ u2 = .int .i64 k ∧ EntRow wr (w.heap.size + 1) u1 ((entA a).take k) ∧ Below w.heap.size w wr ∧ own wr w.heap.size #[.int .i64 a.op, .int .i64 a.term, .int .i64 a.vote, .int .i64 a.idx, .int .i64 a.n, .string a.data, kv, nv] 34
set_option maxHeartbeats 8000000 in
/-- The entries of an act. -/
theorem entriesA_any (a : Wa) (h : WaOk a) (kv nv : Value) (hk : ∃ x n c, kv = .slice x n c) (hn : ∃ x n c, nv = .slice x n c) (w : World) :
    Calls Tryz.prog 32 #[waV a kv nv] w (EntsPost w a) := by
  obtain ⟨ka, kn, kc, rfl⟩ := hk
  obtain ⟨na, nn, nc, rfl⟩ := hn
  have HP1 := hid (fun wx => pick3_any a.n 5 wx (by omega) (by omega) h.n)
  have HP2 := hid (fun wx => pick3_any a.idx 30 wx (by omega) (by omega) h.idx)
  have HP3 := hid (fun wx => pick3_any a.term 20 wx (by omega) (by omega) h.term)
  have hr1 := pkRange a.n 5 (by omega)
  obtain ⟨m, hm⟩ : ∃ m : Nat, pickZ a.n 5 = (m : Int) := ⟨(pickZ a.n 5).toNat, by omega⟩
  rw [hm] at HP1 hr1
  have hr2 := pkRange a.idx 30 (by omega)
  have hx1 := h.term
  have hx3 := h.idx
  have hx4 := h.n
  have hStart : Hid (EntsRel w a m (.slice ka kn kc) (.slice na nn nc) (.slice none 0 0) (.int .i64 0) (w.alloc (.cells #[.int .i64 a.op, .int .i64 a.term, .int .i64 a.vote, .int .i64 a.idx, .int .i64 a.n, .string a.data, .slice ka kn kc, .slice na nn nc] 34))) := hid (
    ⟨0, Nat.zero_le _, rfl, EntRow.none _ _, (Below.refl _ _).alloc (Nat.le_refl _) _, own.new w _ _⟩)
  have HDef : Hid (∀ k : Nat, Hid (entI a k = if oddA a then ⟨a.idx, pickZ a.term 20, a.n, a.data.data.toList⟩ else ⟨1 + pickZ a.idx 30 + k, pickZ a.term 20, 2, a.data.data.toList⟩)) := hid (fun k => hid rfl)
  have HOdd : Hid (oddA a = decide (Int.tmod a.idx 37 = 0 ∧ a.idx ≠ 0)) := hid rfl
  have hlen : (entA a).length = m := by unfold entA; rw [List.length_map, List.length_range, hm, Int.toNat_natCast]
  have HGet : Hid (∀ k (hk : k < m), (entA a).take (k + 1) = (entA a).take k ++ [entI a k]) := hid (fun k hk => by
    rw [List.take_succ_eq_append_getElem (by rw [hlen]; exact hk)]
    congr 2
    simp [entA])
  have HLen := hid hlen
  have HFin : Hid (∀ u wr, EntsRel w a m (.slice ka kn kc) (.slice na nn nc) u (.int .i64 (m : Int)) wr → EntsPost w a (.returned u) wr) := hid (fun u wr hq => by
    obtain ⟨k, hk, he, h1, h2, _⟩ := hq
    obtain rfl : k = m := by cases he; omega
    rw [List.take_of_length_le (by rw [hlen]; exact Nat.le_refl _)] at h1
    exact ⟨u, rfl, h1.mono (by omega), h2⟩)
  clear hlen h hm
  unfold waV
  go_enter Tryz.func32, Tryz.ntmps32
  go_wp2
  go_loopw [3, 4] (EntsRel w a m (.slice ka kn kc) (.slice na nn nc)) (fun _ i _ => m - (intOf i).toNat)
  case atStart => exact hStart.out
  case round =>
    obtain ⟨k, hk, rfl, hrow, hb, hbx⟩ := hrel
    have hlk : ((entA a).take k).length = k := by rw [List.length_take, HLen.out]; omega
    obtain ⟨aoR, capR, hvR, -, -⟩ := hrow.slice
    rw [hlk] at hvR
    subst hvR
    have HRow := hid hrow
    have HLk := hid hlk
    clear hrow hlk
    have c1 := (hbx.cell 1).trans rfl
    have c3 := (hbx.cell 3).trans rfl
    have c4 := (hbx.cell 4).trans rfl
    have c5 := (hbx.cell 5).trans rfl
    by_cases hlt : k < m
    · have HRowB := hid (fun wx (hx : Below wr.heap.size wr wx) => (HRow.out.same (fun b hb' => hx.block b (World.ownsRow.lt HRow.out b hb').2) : EntRow wx (w.heap.size + 1) (.slice aoR k capR) ((entA a).take k)))
      have HEn := hid (fun i t d wx => entry3_any i t d wx)
      have hz := hb.size
      have hX := hbx.lt
      have HK := hid (fun wx (hx : Below wr.heap.size wr wx) => (show (wx.cell? ⟨w.heap.size, 1, none⟩ = some (.int .i64 a.term) ∧ wx.cell? ⟨w.heap.size, 3, none⟩ = some (.int .i64 a.idx) ∧ wx.cell? ⟨w.heap.size, 4, none⟩ = some (.int .i64 a.n) ∧ wx.cell? ⟨w.heap.size, 5, none⟩ = some (.string a.data)) ∧ Below wr.heap.size wr wx from by
        have h := hbx.same (hx.block _ hX)
        exact ⟨⟨(h.cell 1).trans rfl, (h.cell 3).trans rfl, (h.cell 4).trans rfl, (h.cell 5).trans rfl⟩, hx⟩))
      have hkI : (k : Int) < (m : Int) := by omega
      have hsum1 : IntKind.i64.wrap (1 + pickZ a.idx 30) = 1 + pickZ a.idx 30 := IntWalk.i64_in _ (by omega)
      have hsum2 : IntKind.i64.wrap (1 + pickZ a.idx 30 + (k : Int)) = 1 + pickZ a.idx 30 + (k : Int) := IntWalk.i64_in _ (by omega)
      have HDk : Hid (entI a k = if oddA a then ⟨a.idx, pickZ a.term 20, a.n, a.data.data.toList⟩ else ⟨1 + pickZ a.idx 30 + k, pickZ a.term 20, 2, a.data.data.toList⟩) := HDef.out k
      have HStep := hid (fun wc ao cap w' (hc : Below wr.heap.size wr wc) (hg : wc.grownBy w' (Value.slice aoR k capR).ownBlock) (hr : EntRow w' (w.heap.size + 1) (.slice ao (k + 1) cap) ((entA a).take k ++ [entI a k])) => (show EntsRel w a m (.slice ka kn kc) (.slice na nn nc) (.slice ao (k + 1) cap) (.int .i64 ((k + 1 : Nat) : Int)) w' from by
        have hlo := fun b hb' => (World.ownsRow.lt HRow.out b hb').1
        refine ⟨k + 1, by omega, rfl, by rw [HGet.out k hlt]; exact hr, (hb.trans (hc.mono hz)).grown hg (by have := hc.size; omega) (fun b hb' => by have := hlo b hb'; omega), (hbx.same (hc.block _ hX)).same (hg.block _ (by have := hc.size; omega) (fun e => by have := hlo _ e.symm; omega))⟩))
      clear hbx HDef
      generalize a.op = x0 at *
      generalize hx1 : a.term = x1 at *
      generalize a.vote = x2 at *
      generalize hx3 : a.idx = x3 at *
      generalize hx4 : a.n = x4 at *
      generalize hx5 : a.data = x5 at *
      generalize hq2 : pickZ x3 30 = q2 at *
      generalize hq3 : pickZ x1 20 = q3 at *
      clear hx1 hx3 hx4 hx5 hq2 hq3
      have HMk : Hid (mk x5.data.toList = x5) := hid (mk_of x5)
      go_wp2_with (go_at_call 14; (with_reducible refine (HP1.out _).mono ?_); rintro e w1 ⟨rfl, rfl⟩)
      go_region_held3 (fun wx => (wx.cell? ⟨w.heap.size, 1, none⟩ = some (.int .i64 x1) ∧ wx.cell? ⟨w.heap.size, 3, none⟩ = some (.int .i64 x3) ∧ wx.cell? ⟨w.heap.size, 4, none⟩ = some (.int .i64 x4) ∧ wx.cell? ⟨w.heap.size, 5, none⟩ = some (.string x5)) ∧ Below wr.heap.size wr wx)
        (first | (with_reducible exact HK.out _ (Below.drew (Below.refl _ _))) | (with_reducible exact HK.out _ hbk) | (with_reducible exact HK.out _ hbS) | (with_reducible exact HK.out _ (Below.alloc hbk (Below.size hbk) _)) | (with_reducible exact HK.out _ (Below.drew (Below.alloc (Below.refl _ _) (Nat.le_refl _) _))) | (with_reducible assumption))
        (first
          | (go_at_call 14; first | ((with_reducible refine (HP2.out _).mono ?_); rintro e w2 ⟨rfl, rfl⟩) | ((with_reducible refine (HP3.out _).mono ?_); rintro e w2 ⟨rfl, rfl⟩))
          | (go_at_call 49; (with_reducible refine (HEn.out _ _ _ _).mono ?_); rintro e w3 ⟨rfl, hb3⟩; have hbk : Below wr.heap.size wr w3 := Below.trans (And.right (by assumption)) (hb3.mono (Below.size (And.right (by assumption)))); first | ((with_reducible have ho := zeroBox hb3); have o1 := ho.set 0 (.int .i64 (1 + q2 + (k : Int))); have o2 := o1.set 1 (.int .i64 q3); have o3 := o2.set 2 (.int .i64 2); have o4 := o3.set 3 (.string x5); have r0 := ho.cell 0; have r1 := o1.cell 1; have r2 := o2.cell 2; have r3 := o3.cell 3; simp at r0 r1 r2 r3; have s0 := ho.frozen 0; have s1 := o1.frozen 1; have s2 := o2.frozen 2; have s3 := o3.frozen 3; have HO4 := hid o4; have hbS := ((((hbk.setCell (p := ⟨wr.heap.size, 0, none⟩) (Nat.le_refl _) (.int .i64 (1 + q2 + (k : Int)))).setCell (p := ⟨wr.heap.size, 1, none⟩) (Nat.le_refl _) (.int .i64 q3)).setCell (p := ⟨wr.heap.size, 2, none⟩) (Nat.le_refl _) (.int .i64 2)).setCell (p := ⟨wr.heap.size, 3, none⟩) (Nat.le_refl _) (.string x5)); clear ho o1 o2 o3 o4) | skip))
      all_goals
        clear hb3
        first
          | (have hE0 := HO4.out; have hBE := hbS; have hge := Nat.le_refl wr.heap.size; clear HO4 hbS r0 r1 r2 r3 s0 s1 s2 s3 hbk; generalize (((w3.setCell ⟨wr.heap.size, 0, none⟩ (.int .i64 (1 + q2 + (k : Int)))).setCell ⟨wr.heap.size, 1, none⟩ (.int .i64 q3)).setCell ⟨wr.heap.size, 2, none⟩ (.int .i64 2)).setCell ⟨wr.heap.size, 3, none⟩ (.string x5) = wE at hE0 hBE ⊢; have hE : own wE wr.heap.size #[.int .i64 (1 + q2 + (k : Int)), .int .i64 q3, .int .i64 2, .string x5] 95 := (by simpa using hE0); clear hE0)
          | (have hE := own.new w3 #[.int .i64 (1 + q2 + (k : Int)), .int .i64 q3, .int .i64 2, .string x5] 95; have hBE := hbk.alloc hbk.size (.cells #[.int .i64 (1 + q2 + (k : Int)), .int .i64 q3, .int .i64 2, .string x5] 95); have hge := hbk.size; generalize w3.alloc (.cells #[.int .i64 (1 + q2 + (k : Int)), .int .i64 q3, .int .i64 2, .string x5] 95) = wE at hE hBE ⊢; generalize w3.heap.size = E at hE hge ⊢)
        obtain ⟨⟨z1, z3, z4, z5⟩, -⟩ := HK.out _ hBE
        by_cases hodd : Int.tmod x3 37 = 0 ∧ x3 ≠ 0
        · have Hen : Hid (entI a k = ⟨x3, q3, x4, x5.data.toList⟩) := hid (by rw [HDk.out, HOdd.out, decide_eq_true hodd]; rfl)
          have e1 : (Int.tmod x3 37 == 0) = true := by simpa using hodd.1
          have e2 : (x3 != 0) = true := by simpa using hodd.2
          have o1 := hE.set 0 (.int .i64 x3)
          have o2 := o1.set 2 (.int .i64 x4)
          have p0 := (hE.cell 0).trans rfl
          have f0 := hE.frozen 0
          have p2 := o1.cell 2
          have f2 := o1.frozen 2
          have t0 := o2.cell 0
          have t1 := o2.cell 1
          have t2 := o2.cell 2
          have t3 := o2.cell 3
          simp at p2 t0 t1 t2 t3
          have hB2 := (hBE.setCell (p := ⟨_, 0, none⟩) hge (.int .i64 x3)).setCell (p := ⟨_, 2, none⟩) hge (.int .i64 x4)
          obtain ⟨⟨-, -, z4', -⟩, -⟩ := HK.out _ (hBE.setCell (p := ⟨_, 0, none⟩) hge (.int .i64 x3))
          clear hodd hE o1 o2
          go_wp2_with (at_builtin; refine wpList_append_ent (B := w.heap.size + 1) (L := (entA a).take k) (e := entI a k) (n := k) rfl _ _ rfl _ rfl rfl (HRowB.out _ (Below.alloc hB2 (Below.size hB2) _)) (own_new (by rw [setCell_size, setCell_size])) (by rw [Hen.out]; unfold ecells; simp only [HMk.out]) HLk.out (by omega) (by have := Below.size hB2; rw [setCell_size, setCell_size] at this; simp only [World.size_alloc, setCell_size]; omega) ?_; intro ao cap w' hrow hgr; have HEnd := hid (HStep.out _ ao cap w' (Below.alloc hB2 (Below.size hB2) _) hgr hrow); clear hrow hgr)
          go_roundw
          case rel => exact HEnd.out
          case measure => simp [intOf]; omega
        · have Hen : Hid (entI a k = ⟨1 + q2 + (k : Int), q3, 2, x5.data.toList⟩) := hid (by rw [HDk.out, HOdd.out, decide_eq_false hodd]; rfl)
          have e1 : (Int.tmod x3 37 == 0) = false ∨ ((Int.tmod x3 37 == 0) = true ∧ (x3 != 0) = false) := by
            by_cases h2 : Int.tmod x3 37 = 0
            · right
              exact ⟨by simpa using h2, by simpa using fun e => hodd ⟨h2, e⟩⟩
            · left; simpa using h2
          have p0 := (hE.cell 0).trans rfl
          have p1 := (hE.cell 1).trans rfl
          have p2 := (hE.cell 2).trans rfl
          have p3 := (hE.cell 3).trans rfl
          clear hodd hE
          rcases e1 with e1 | ⟨e1, e2⟩
          all_goals
            go_wp2_with (at_builtin; refine wpList_append_ent (B := w.heap.size + 1) (L := (entA a).take k) (e := entI a k) (n := k) rfl _ _ rfl _ rfl rfl (HRowB.out _ (Below.alloc hBE (Below.size hBE) _)) (own_new rfl) (by rw [Hen.out]; unfold ecells; simp only [HMk.out]) HLk.out (by omega) (by have := Below.size hBE; simp; omega) ?_; intro ao cap w' hrow hgr; have HEnd := hid (HStep.out _ ao cap w' (Below.alloc hBE (Below.size hBE) _) hgr hrow); clear hrow hgr)
            go_roundw
            case rel => exact HEnd.out
            case measure => simp [intOf]; omega
    · obtain rfl : k = m := by omega
      have HF := hid (HFin.out _ _ ⟨k, Nat.le_refl _, rfl, HRow.out, hb, hbx⟩)
      clear hbx
      go_wp2_with (go_at_call 14; (with_reducible refine (HP1.out _).mono ?_); rintro e w1 ⟨rfl, rfl⟩)
      go_ret
      exact HF.out
end Go.Proofs.YtbidglefddmjhaaGreatDoor

