import Derived.Test.YtbidglefddmjhaaGreatDoorWlRefPutJ
import Derived.Test.YtbidglefddmjhaaGreatDoorMq9J
import Derived.Deep.RegionHeldLaw
/-
  LAYER 3 (wal), the document's log: an entry put in a row, behind some that stay.
-/
namespace Go.Proofs.YtbidglefddmjhaaGreatDoor.Gr
open Go.RowKit Go.Maps
set_option linter.unusedVariables false
set_option maxRecDepth 100000

def wenTy : RowTy En := ⟨52, 95, 4, 40, ecells, .agg #[.int .i64 0, .int .i64 0, .int .i64 0, .string ⟨#[]⟩]⟩
theorem wenTy_ok : wenTy.Ok := ⟨fun _ => rfl, fun x u hu => by simp [wenTy, ecells] at hu; rcases hu with rfl | rfl | rfl | rfl <;> rfl, by decide, Tryz.underlying52, by kernel_rfl, by kernel_rfl, rfl, by decide⟩
theorem wen_flat (L : List En) : wenTy.flat L = flatE L := by
  induction L with
  | nil => rfl
  | cons x r ih => rw [flat_cons, ih]; rfl
theorem EntRow.own {w : World} {B : Nat} {v : Value} {L : List En} (h : EntRow w B v L) : ROwn wenTy w v L := by
  unfold ROwn
  rw [wen_flat]
  refine ⟨h.1, ?_⟩
  rcases h.2 with h | ⟨g, cap, cur, h1, _, h3⟩
  · exact .inl h
  · exact .inr ⟨g, cap, cur, h1, Nat.zero_le _, h3⟩
theorem entRow_mid {w wx : World} {v : Value} {L : List En} (h : RMid wenTy w wx v L) : EntRow wx w.heap.size v L := by
  have h1 := h.row
  unfold ROwn at h1
  rw [wen_flat] at h1
  refine ⟨h1.1, ?_⟩
  rcases h1.2 with h2 | ⟨g, cap, cur, h2, _, h3⟩
  · exact .inl h2
  · exact .inr ⟨g, cap, cur, h2, h.new g (by rw [h2]; rfl), h3⟩
/-- All that the walk needs of 'append(append([]Entry{}, l[:k]..), x)' in one order. -/
structure EPut (w : World) (x : En) (cs : Array Value) (ao : Option Addr) (cap k : Nat) (M : List En) (W0 : World) (g0 gF : Nat) (a1 : Option Addr) (b1 : Nat) (w1 w1' : World) (a2 : Option Addr) (b2 : Nat) (w2 : World) : Prop where
  e1 : Hid ((Builtin.append_ #[52, 52] 52 #[.slice (some ⟨g0, 0, none⟩) 0 0, .slice ao k cap]).run Tryz.prog W0 = .ok (.slice a1 k b1) w1)
  e2 : Hid ((Builtin.append_ #[52, 52] 52 #[.slice a1 k b1, .slice (some ⟨gF, 0, none⟩) 1 1]).run Tryz.prog w1' = .ok (.slice a2 (k + 1) b2) w2)
  b1w : Below w.heap.size w w1
  b2w : Below w.heap.size w w2
  row : Hid (EntRow w2 w.heap.size (.slice a2 (k + 1) b2) M)
theorem eput_of {w : World} {L : List En} {x : En} {ao : Option Addr} {cap k : Nat} {W : World} {g0 gF : Nat} {lay : Bool} {a1 : Option Addr} {b1 : Nat} {w1 : World} {a2 : Option Addr} {b2 : Nat} {w2 : World} {cs : Array Value} (hk : L.length = k) (P : GPut wenTy w (.slice ao k cap) L x cs W g0 gF lay a1 b1 w1 a2 b2 w2) : EPut w x cs ao cap k (L ++ [x]) W g0 (if lay then w1.heap.size else gF) a1 b1 w1 (if lay then w1.alloc (.cells cs 95) else w1) a2 b2 w2 := by
  have e1 := P.e1
  have e2 := P.e2
  have e3 := P.row
  rw [hk] at e1 e2
  rw [hk] at e3
  exact ⟨hid e1, hid e2, P.b1w, e3.below, hid (entRow_mid e3)⟩
set_option maxHeartbeats 8000000 in
theorem refPut_behind {B : Nat} (v : Value) (L : List En) (x : En) (w : World) (hv : EntRow w B v L) (hL : L.length ≤ 10000) (hc : Consec L) (hin : ∀ e ∈ L, e.In) (hx : x.In) (h0 : L ≠ []) (h1 : ¬ IntKind.i64.wrap (lastI L + 1) < x.idx) (h2 : ¬ x.idx < firstI L) :
    Calls Tryz.prog 89 #[v, enV x] w (PutsPost w (putE L x)) := by
  obtain ⟨ao, cap, rfl, hcap, hnone⟩ := hv.slice
  unfold enV
  obtain ⟨W, hW⟩ : ∃ W, w.alloc (.cells #[.int .i64 x.idx, .int .i64 x.term, .int .i64 x.kind, .string (mk x.data)] 95) = W := ⟨_, rfl⟩
  have hbW : Below w.heap.size w W := by rw [← hW]; exact Below.alloc (Below.refl _ _) (Nat.le_refl _) _
  have hWz : W.heap.size = w.heap.size + 1 := by rw [← hW]; simp
  have hoW : own W w.heap.size #[.int .i64 x.idx, .int .i64 x.term, .int .i64 x.kind, .string (mk x.data)] 95 := by rw [← hW]; exact own.new _ _ _
  have HBW := hid hbW
  obtain ⟨m, hm⟩ : ∃ m, L.length = m + 1 := ⟨L.length - 1, by have := List.length_pos_iff.2 h0; omega⟩
  have HRow := hid hv
  have hv0 := hv
  obtain ⟨g1, rfl, _, hg1, hcell, _⟩ := hv.at (i := 0) (by omega)
  have a0 := (hcell 0 (by omega)).1
  have am := (hcell m (by omega)).1
  have hf : (L[0]'(by omega)).idx = firstI L := by have := hc 0 (by omega); omega
  have hl : (L[m]'(by omega)).idx = lastI L := by rw [lastI_get h0]; congr 2; omega
  rw [hf] at a0
  rw [hl] at am
  rw [Nat.zero_mul] at a0
  have hfI : I64 (firstI L) := by rw [← hf]; exact (hin _ (List.getElem_mem _)).idx
  have hlI : I64 (lastI L) := by rw [← hl]; exact (hin _ (List.getElem_mem _)).idx
  have hxI := hx.idx
  have hlast := hc.last h0
  -- how many stay
  obtain ⟨q1, q2⟩ := aheadE_le hc hin x.idx
  obtain ⟨k, hk⟩ : ∃ k, aheadE L x.idx = k := ⟨_, rfl⟩
  have hkE : IntKind.i64.wrap (x.idx - firstI L) = (k : Int) := by
    rw [← hk]
    unfold aheadE
    rw [if_neg (by rintro (e | e | e); exact h0 e; exact h1 e; exact h2 e)]
    have hw : IntKind.i64.wrap (lastI L + 1) = lastI L + 1 ∨ lastI L = 9223372036854775807 := by
      rcases Int.lt_or_le (lastI L) 9223372036854775807 with e | e
      · left; exact IntWalk.i64_in _ (by unfold I64 at hlI; omega)
      · right; unfold I64 at hlI; omega
    unfold I64 at *
    have : 0 ≤ x.idx - firstI L ∧ x.idx - firstI L ≤ 10000 := by
      rcases hw with e | e
      · rw [e] at h1; omega
      · omega
    rw [IntWalk.i64_in _ (by omega)]
    omega
  rw [hk] at q1
  have htl : (L.take k).length = k := by rw [List.length_take]; omega
  have hkc : k ≤ cap := by omega
  have hput : putE L x = L.take k ++ [x] := by unfold putE; rw [hk]
  -- the world behind the guards
  have HRowT : Hid (∀ Z, Below W.heap.size W Z → RAt wenTy Z (.slice (some ⟨g1, 0, none⟩) k cap) (L.take k)) := hid (fun Z hb => ((EntRow.own hv0).rAt.below (hbW.trans (hb.mono hbW.size))).take wenTy_ok q1)
  have HCs : Hid (∀ wx, Below W.heap.size W wx → wx.cell? ⟨w.heap.size, 0, none⟩ = some (.int .i64 x.idx) ∧ wx.cell? ⟨w.heap.size, 1, none⟩ = some (.int .i64 x.term) ∧ wx.cell? ⟨w.heap.size, 2, none⟩ = some (.int .i64 x.kind) ∧ wx.cell? ⟨w.heap.size, 3, none⟩ = some (.string (mk x.data)) ∧ wx.cell? ⟨g1, 0, none⟩ = some (.int .i64 (firstI L))) := hid (by
    intro wx hwx
    have hlt : w.heap.size < W.heap.size := by rw [hWz]; omega
    have e1 := fun j => (hwx.cell (p := ⟨w.heap.size, j, none⟩) hlt)
    exact ⟨(e1 0).trans ((hoW.cell 0).trans rfl), (e1 1).trans ((hoW.cell 1).trans rfl), (e1 2).trans ((hoW.cell 2).trans rfl), (e1 3).trans ((hoW.cell 3).trans rfl), ((HBW.out.trans (hwx.mono HBW.out.size)).cell (p := ⟨g1, 0, none⟩) hg1).trans a0⟩)
  have HFin : Hid (∀ Z wx v, Below W.heap.size W Z → Below Z.heap.size Z wx → EntRow wx Z.heap.size v (L.take k ++ [x]) → PutsPost w (putE L x) (.returned v) wx) := hid (fun Z wx v hz hb hr => by
    have h1 := HBW.out.size
    have h2 := hz.size
    exact ⟨v, rfl, by rw [hput]; exact hr.mono (by omega), HBW.out.trans ((hz.trans (hb.mono hz.size)).mono HBW.out.size)⟩)
  have HX : Hid ((#[.int .i64 x.idx, .int .i64 x.term, .int .i64 x.kind, .string (mk x.data)] : Array Value).toList = wenTy.cs x) := hid rfl
  have b0 := (hoW.cell 0).trans rfl
  have c0 := (hbW.cell (p := ⟨g1, 0, none⟩) hg1).trans a0
  have cm := (hbW.cell (p := ⟨g1, m * 4, none⟩) hg1).trans am
  have hto : ∀ wx, (Instr.slice 52 (.slice (some ⟨g1, 0, none⟩) (m + 1) cap) none (some (.int .i64 (k : Int))) none).run Tryz.prog wx = .ok (.slice (some ⟨g1, 0, none⟩) k cap) wx := fun wx => run_to wenTy_ok wx (some ⟨g1, 0, none⟩) (m + 1) cap k hkc (fun e => by cases e)
  have hmI : (m : Int) ≤ 10000 := by omega
  have hm0 : (0 : Int) ≤ (m : Int) := by omega
  have hW1 : IntKind.i64.wrap ((m : Int) + 1 - 1) = (m : Int) := by rw [show (m : Int) + 1 - 1 = m by omega]; exact IntWalk.i64_in _ (by omega)
  have hW2 : IntKind.i64.wrap (m : Int) = (m : Int) := IntWalk.i64_in _ (by omega)
  have hmlt : (m : Int) < (m : Int) + 1 := by omega
  have hmlt0 : (0 : Int) < (m : Int) + 1 := by omega
  have hmltN : m < m + 1 := by omega
  have hmlt0N : 0 < m + 1 := by omega
  have hd1 : decide ((m : Int) < (m : Int) + 1) = true := decide_eq_true hmlt
  have hd2 : decide ((0 : Int) < (m : Int) + 1) = true := decide_eq_true hmlt0
  have hq0 : ((m : Int) + 1 == 0) = false := beq_false_of_ne (by omega)
  clear hv hv0 hc hin hx hcell a0 am hf hl hlast hbW hoW hput q2 HRow
  rw [hm] at *
  generalize putE L x = M at *
  generalize firstI L = f0 at *
  generalize lastI L = l0 at *
  generalize x.idx = x0 at *
  generalize x.term = x1 at *
  generalize x.kind = x2 at *
  generalize mk x.data = x3 at *
  go_enter Tryz.func89, Tryz.ntmps89
  go_wp2
  go_quiet (fail)
  go_upto_region 3 with (fail)
  have hbZ : Below W.heap.size W (W.drewN nq) := below_drew (Below.refl _ _) _
  generalize W.drewN nq = Z at *
  have hzz := hbZ.size
  obtain ⟨⟨aA, bA, wA, aA2, bA2, wA2, PA⟩, ⟨aB, bB, wB, aB2, bB2, wB2, PB⟩, ⟨aC, bC, wC, aC2, bC2, wC2, PC⟩⟩ := gput_runs wenTy_ok (HRowT.out Z hbZ) (by rw [htl]; omega) x #[.int .i64 x0, .int .i64 x1, .int .i64 x2, .string x3] HX.out
  have QA := eput_of htl PA
  have QB := eput_of htl PB
  have QC := eput_of htl PC
  simp only [if_true, if_false, Bool.false_eq_true] at QA QB QC
  have hcs : ∀ wx, Below Z.heap.size Z wx → wx.cell? ⟨w.heap.size, 0, none⟩ = some (.int .i64 x0) ∧ wx.cell? ⟨w.heap.size, 1, none⟩ = some (.int .i64 x1) ∧ wx.cell? ⟨w.heap.size, 2, none⟩ = some (.int .i64 x2) ∧ wx.cell? ⟨w.heap.size, 3, none⟩ = some (.string x3) ∧ wx.cell? ⟨g1, 0, none⟩ = some (.int .i64 f0) := fun wx hb => HCs.out wx (hbZ.trans (hb.mono hbZ.size))
  have B0 : Below Z.heap.size Z (Z.alloc (.cells #[] 95)).drew := (Below.alloc (Below.refl _ _) (Nat.le_refl _) _).drew
  have B1 : Below Z.heap.size Z (Z.alloc (.cells #[.int .i64 x0, .int .i64 x1, .int .i64 x2, .string x3] 95)).drew := (Below.alloc (Below.refl _ _) (Nat.le_refl _) _).drew
  have B01 : Below Z.heap.size Z ((Z.alloc (.cells #[] 95)).alloc (.cells #[.int .i64 x0, .int .i64 x1, .int .i64 x2, .string x3] 95)).drew := (Below.alloc (Below.alloc (Below.refl _ _) (Nat.le_refl _) _) (by simp) _).drew
  have B10 : Below Z.heap.size Z ((Z.alloc (.cells #[.int .i64 x0, .int .i64 x1, .int .i64 x2, .string x3] 95)).alloc (.cells #[] 95)).drew := (Below.alloc (Below.alloc (Below.refl _ _) (Nat.le_refl _) _) (by simp) _).drew
  have BC : Below Z.heap.size Z (wC.alloc (.cells #[.int .i64 x0, .int .i64 x1, .int .i64 x2, .string x3] 95)) := Below.alloc QC.b1w QC.b1w.size _
  have s0 := hid (hcs _ (Below.refl _ Z))
  have s00 := hid (hcs _ (Below.refl _ Z).drew)
  have s1 := hid (hcs _ B0)
  have s2 := hid (hcs _ B1)
  have s3 := hid (hcs _ B01)
  have s4 := hid (hcs _ B10)
  have s5 := hid (hcs _ QA.b1w)
  have s6 := hid (hcs _ QB.b1w)
  have s7 := hid (hcs _ QC.b1w)
  have s8 := hid (hcs _ BC)
  have s9 := hid (hcs _ QA.b2w)
  have s10 := hid (hcs _ QB.b2w)
  have s11 := hid (hcs _ QC.b2w)
  have eA := QA.e1
  have fA := QA.e2
  have eB := QB.e1
  have fB := QB.e2
  have eC := QC.e1
  have fC := QC.e2
  have FA := hid (HFin.out _ _ _ hbZ QA.b2w QA.row.out)
  have FB := hid (HFin.out _ _ _ hbZ QB.b2w QB.row.out)
  have FC := hid (HFin.out _ _ _ hbZ QC.b2w QC.row.out)
  dsimp only [wenTy] at eA eB eC fA fB fC
  clear PA PB PC QA QB QC hcs HCs B0 B1 B01 B10 BC HRowT HFin HX hbZ hzz c0 cm b0
  go_region_held_law (fun wx => wx.cell? ⟨w.heap.size, 0, none⟩ = some (.int .i64 x0) ∧ wx.cell? ⟨w.heap.size, 1, none⟩ = some (.int .i64 x1) ∧ wx.cell? ⟨w.heap.size, 2, none⟩ = some (.int .i64 x2) ∧ wx.cell? ⟨w.heap.size, 3, none⟩ = some (.string x3) ∧ wx.cell? ⟨g1, 0, none⟩ = some (.int .i64 f0)) (first | exact s0.out | exact s00.out | exact s1.out | exact s2.out | exact s3.out | exact s4.out | exact s5.out | exact s6.out | exact s7.out | exact s8.out | exact s9.out | exact s10.out | exact s11.out) (first
    | (refine step_append_at eA.out (by with_reducible rfl) rfl _ _ rfl rfl rfl rfl ?_)
    | (refine step_append_at fA.out (by with_reducible rfl) rfl _ _ rfl rfl rfl rfl ?_)
    | (refine step_append_at eB.out (by with_reducible rfl) rfl _ _ rfl rfl rfl rfl ?_)
    | (refine step_append_at fB.out (by with_reducible rfl) rfl _ _ rfl rfl rfl rfl ?_)
    | (refine step_append_at eC.out (by with_reducible rfl) rfl _ _ rfl rfl rfl rfl ?_)
    | (refine step_append_at fC.out (by with_reducible rfl) rfl _ _ rfl rfl rfl rfl ?_))
  all_goals
    go_wp2
    go_ret
    first
      | (rename_i hq
         exact absurd (show (some 45 : Option Nat) = none from hq) (by simp))
      | (rename_i dd hq
         obtain rfl : 45 = dd := Option.some.inj (show (some 45 : Option Nat) = some dd from hq)
         first | exact FA.out | exact FB.out | exact FC.out)
end Go.Proofs.YtbidglefddmjhaaGreatDoor.Gr
namespace Go.Proofs.YtbidglefddmjhaaGreatDoor
theorem refPut_any {B : Nat} (v : Value) (L : List En) (x : En) (w : World) (hv : EntRow w B v L) (hL : L.length ≤ 10000) (hc : Consec L) (hin : ∀ e ∈ L, e.In) (hx : x.In) :
    Calls Tryz.prog 89 #[v, enV x] w (PutsPost w (putE L x)) := by
  by_cases h0 : L = []
  · exact refPut_alone v L x w hv hL hc hin hx (.inl h0)
  · by_cases h1 : IntKind.i64.wrap (lastI L + 1) < x.idx
    · exact refPut_alone v L x w hv hL hc hin hx (.inr (.inl h1))
    · by_cases h2 : x.idx < firstI L
      · exact refPut_alone v L x w hv hL hc hin hx (.inr (.inr h2))
      · exact Gr.refPut_behind v L x w hv hL hc hin hx h0 h1 h2
end Go.Proofs.YtbidglefddmjhaaGreatDoor

