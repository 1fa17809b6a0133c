import Derived.Test.YtpcafkinpkepcaaGreatDoorWq36
import Derived.StillTailTactics
/-
  Wq37: RkL, in one text.
-/
/-
  LAYER 2 (disk), THE DOCUMENT's ANSWER: Crash.
-/
namespace Go.Proofs.YtpcafkinpkepcaaGreatDoor
open Go.RowKit Go.Maps
set_option linter.unusedVariables false
set_option maxRecDepth 100000
section
variable {w w' : World} {S : Nat → Prop} {r : Nat} {v : Value} {s : Dk}

theorem set_take_drop {L : List AF} {i : Nat} (hi : i < L.length) (x : AF) : L.set i x = L.take i ++ x :: L.drop (i + 1) := by
  rw [List.set_eq_take_append_cons_drop, if_pos hi]
/-- One file crashed where it stands. -/
theorem Ok_setCr {M : List AF} (h : ({ s with L := M } : Dk).Ok) {i : Nat} (hi : i < M.length) (k z : Int) : ({ s with L := M.set i (crF M[i] k z) } : Dk).Ok := by
  have h1 := Ok_crF h M[i].name k z
  rw [show ({ s with L := M } : Dk).L = M from rfl, updK_set h.rise hi, ← set_take_drop hi] at h1
  exact h1
/-- What the document's loop makes of one file. -/
theorem crF_eq (f : AF) (k z : Int) (m : Nat) (hs : f.synced ≤ f.data.length) (hm : (m : Int) = f.synced + max 0 (min k ((f.data.length : Int) - f.synced))) :
    m ≤ f.data.length ∧ (m = f.synced → crF f k z = ⟨f.name, f.data.take m, m⟩) ∧ (f.synced < m → ∃ hl : m - 1 < f.data.length, crF f k z = ⟨f.name, (f.data.take m).set (m - 1) ((f.data[m - 1]'hl) ^^^ noiseByte z), m⟩) := by
  have hk : f.synced + min (max k 0).toNat (f.data.length - f.synced) = m := by omega
  refine ⟨by omega, fun h => ?_, fun h => ⟨by omega, ?_⟩⟩
  · unfold crF
    have h0 : min (max k 0).toNat (f.data.length - f.synced) = 0 := by omega
    simp only [h0, if_true]
    rw [show f.synced + 0 = m by omega]
  · unfold crF
    have h0 : min (max k 0).toNat (f.data.length - f.synced) ≠ 0 := by omega
    simp only [hk, if_neg h0]
    have hg : f.data.getD (m - 1) 0 = f.data[m - 1]'(by omega) := by simp [List.getD, show m - 1 < f.data.length by omega]
    rw [hg]

/-- The three cells of a file stored anew. -/
theorem rep_put3 {wr w1 : World} {g n cap i : Nat} {M : List AF} (h : RefRep wr S r (.slice (some ⟨g, 0, none⟩) n cap) { s with L := M }) (hb : Below wr.heap.size wr w1) (hi : i < M.length) {d' : List UInt8} {m : Nat} (f' : AF) (hf : f' = ⟨M[i].name, d', m⟩) (hok : ({ s with L := M.set i f' } : Dk).Ok) :
    RefRep (((w1.setCell ⟨g, i * 3, none⟩ (.string (mk M[i].name))).setCell ⟨g, i * 3 + 1, none⟩ (.string (mk d'))).setCell ⟨g, i * 3 + 2, none⟩ (.int .i64 (m : Int))) S r (.slice (some ⟨g, 0, none⟩) n cap) { s with L := M.set i f' } := by
  subst hf
  have h1 := h.below hb
  have hgr : r ≠ g := fun e => h1.apart (by rw [e]; rfl)
  have r1 := RefRow.putRow (w := w1) h1.row hi (k := 0) (by omega) (.string (mk M[i].name)) M[i] (by simp [fcells])
  have hi2 : i < (M.set i M[i]).length := by simpa using hi
  have r2 := r1.putRow hi2 (k := 1) (by omega) (.string (mk d')) ⟨M[i].name, d', M[i].synced⟩ (by simp [fcells])
  have hi3 : i < ((M.set i M[i]).set i ⟨M[i].name, d', M[i].synced⟩).length := by simpa using hi
  have r3 := r2.putRow hi3 (k := 2) (by omega) (.int .i64 (m : Int)) ⟨M[i].name, d', m⟩ (by simp [fcells])
  rw [List.set_set, List.set_set, Nat.add_zero] at r3
  refine ⟨?_, r3, h1.apart, h1.inS, fun b hb' => ?_, hok⟩
  · exact ((h1.head.other (p := ⟨g, i * 3, none⟩) hgr _).other (p := ⟨g, i * 3 + 1, none⟩) hgr _).other (p := ⟨g, i * 3 + 2, none⟩) hgr _
  · have := h1.lt b hb'
    simpa only [setCell_size] using this
theorem chg_put3 {w wr w1 : World} {g i : Nat} (hc : Chg S w wr) (hb : Below wr.heap.size wr w1) (hg : S g) (a b c : Value) : Chg S w (((w1.setCell ⟨g, i * 3, none⟩ a).setCell ⟨g, i * 3 + 1, none⟩ b).setCell ⟨g, i * 3 + 2, none⟩ c) := by
  have h1 : Chg S w w1 := hc.trans (T := fun _ => False) (Chg.of_below hb) (fun _ e => e.elim)
  refine ((h1.trans (Chg.setCell _ ⟨g, i * 3, none⟩ _) (fun b e => .inl (by rw [e]; exact hg))).trans (Chg.setCell _ ⟨g, i * 3 + 1, none⟩ _) (fun b e => .inl (by rw [e]; exact hg))).trans (Chg.setCell _ ⟨g, i * 3 + 2, none⟩ _) (fun b e => .inl (by rw [e]; exact hg))
theorem RefRep.drewN {w : World} (h : RefRep w S r v s) (n : Nat) : RefRep (w.drewN n) S r v s := h.same (Nat.le_refl _) (fun _ _ => rfl)

def RCrRel (w : World) (S : Nat → Prop) (r : Nat) (v : Value) (s : Dk) (ks ns : List Int) (u6 u7 : Value) (wr : World) : Prop :=
  ∃ (i k : Nat) (P : List AF), i ≤ s.L.length ∧ u6 = .int .i64 k ∧ u7 = .int .i64 i ∧ CrAt s.L ks ns i k P ∧ RefRep wr S r v { s with L := P ++ s.L.drop i } ∧ Chg S w wr

set_option maxHeartbeats 8000000 in
theorem refCrash_any (h : RefRep w S r v s) {B : Nat} (hB : B ≤ w.heap.size) (hSB : ∀ b, S b → B ≤ b) {kv nv : Value} {ks ns : List Int} (hkv : IntsAt w B kv ks) (hnv : IntsAt w B nv ns) (hkl : ks.length ≤ 1000) (hnl : ns.length ≤ 1000)
    (hk64 : ∀ n ∈ ks, -9223372036854775808 ≤ n ∧ n ≤ 9223372036854775807) :
    Calls Tryz.prog 60 #[.pointer (some ⟨r, 0, none⟩), kv, nv] w (RefTail w S r (crash s ks ns)) := by
  obtain ⟨ao, cap, rfl, hcap, -⟩ := h.row.slice
  have HH := hid h
  have hmany := h.ok.many
  have HK := hid hkv
  have HN := hid hnv
  have Hlt := hid h.lt
  obtain ⟨ka, kc, rfl, _⟩ := hkv
  obtain ⟨na, nc, rfl, _⟩ := hnv
  clear h
  go_enter Tryz.func60, Tryz.ntmps60
  go_wp2
  go_loopw [6, 7] (RCrRel w S r (.slice ao s.L.length cap) s ks ns) (fun _ i _ => s.L.length - (intOf i).toNat)
  case atStart => exact ⟨0, 0, [], Nat.zero_le _, rfl, rfl, CrAt.start _ _ _, by simpa using HH.out, Chg.refl _ _⟩
  case round =>
    obtain ⟨i, k, P, hil, rfl, rfl, hC, hR, hc⟩ := hrel
    have c0 := hR.head.cell 0
    simp at c0
    by_cases hi : i < s.L.length
    · obtain ⟨hiM, hMi⟩ := hC.get hi
      have hlenM : (P ++ s.L.drop i).length = s.L.length := by rw [List.length_append, hC.len, List.length_drop]; omega
      have hrow := hR.row
      rw [← hlenM] at hrow
      obtain ⟨g, rfl, hg, hcells, hfz⟩ := hrow.at hiM
      obtain ⟨q0, q1, q2⟩ := hcells i hiM
      rw [hMi] at q0 q1 q2
      have f0 := hfz (i * 3)
      have f1 := hfz (i * 3 + 1)
      have f2 := hfz (i * 3 + 2)
      have hfm : s.L[i]'hi ∈ s.L := List.getElem_mem hi
      have hsy := HH.out.ok.sync _ hfm
      have hdl : (s.L[i]'hi).data.length ≤ 10000000 := by
        have := HH.out.ok.room; have := HH.out.ok.most; have := sz_mem hfm; omega
      have hiI : (i : Int) < (s.L.length : Int) := by omega
      have hmI : (s.L.length : Int) ≤ 40 := by omega
      have hkI : (k : Int) ≤ (i : Int) := by have := hC.used; omega
      have hrl := hR.head.lt
      by_cases hf : (s.L[i]'hi).synced < (s.L[i]'hi).data.length
      · have hkr : -9223372036854775808 ≤ ks.getD k 0 ∧ ks.getD k 0 ≤ 9223372036854775807 := by
          by_cases hkk : k < ks.length
          · have : ks.getD k 0 ∈ ks := by rw [show ks.getD k 0 = ks[k] by simp [List.getD, hkk]]; exact List.getElem_mem hkk
            exact hk64 _ this
          · rw [show ks.getD k 0 = 0 by simp [List.getD, List.getElem?_eq_none (Nat.le_of_not_lt hkk)]]; omega
        obtain ⟨m, hm⟩ : ∃ m : Nat, (m : Int) = (s.L[i]'hi).synced + max 0 (min (ks.getD k 0) (((s.L[i]'hi).data.length : Int) - (s.L[i]'hi).synced)) := ⟨((s.L[i]'hi).synced + max 0 (min (ks.getD k 0) (((s.L[i]'hi).data.length : Int) - (s.L[i]'hi).synced))).toNat, by omega⟩
        obtain ⟨hm1, hmA, hmB⟩ := crF_eq (s.L[i]'hi) (ks.getD k 0) (ns.getD k 0) m hsy hm
        have hok := Ok_setCr hR.ok hiM (ks.getD k 0) (ns.getD k 0)
        rw [hMi] at hok
        have hput : ∀ wx, Below wr.heap.size wr wx → ∀ d', crF (s.L[i]'hi) (ks.getD k 0) (ns.getD k 0) = ⟨(s.L[i]'hi).name, d', m⟩ → ∀ q, RCrRel w S r (.slice (some ⟨g, 0, none⟩) s.L.length cap) s ks ns (.int .i64 ((k + 1 : Nat) : Int)) (.int .i64 ((i + 1 : Nat) : Int))
            ((((wx.setCell ⟨g, i * 3, none⟩ (.string (mk (s.L[i]'hi).name))).setCell ⟨g, i * 3 + 1, none⟩ (.string (mk d'))).setCell ⟨g, i * 3 + 2, none⟩ (.int .i64 (m : Int))).drewN q) := by
          intro wx hb d' hd q
          have h3 := rep_put3 hR hb hiM (d' := d') (m := m) (crF (s.L[i]'hi) (ks.getD k 0) (ns.getD k 0)) (by rw [hMi]; exact hd) hok
          rw [hMi, hC.set hi] at h3
          exact ⟨i + 1, k + 1, P ++ [crF (s.L[i]'hi) (ks.getD k 0) (ns.getD k 0)], hi, rfl, rfl, hC.turn hi hf, h3.drewN q, (chg_put3 hc hb (hR.inS.2 g rfl) _ _ _).drewN q⟩
        have HPut := hid hput
        have hHA : ∀ (v : Value) (xs : List Int), IntsAt w B v xs → xs.length ≤ 1000 → ∀ wx, Below wr.heap.size wr wx → Calls Tryz.prog 120 #[v, .int .i64 (k : Int)] wx fun e w' => e = .returned (.int .i64 (xs.getD k 0)) ∧ wx = w' := fun v xs hv hx wx hb =>
          refAt_any v xs wx (hv.same (fun b hbB => by
            have h1 := hc.block b (by omega) (fun hS => by have := hSB b hS; omega)
            rw [hb.block b (by have := hc.size; omega), h1])) hx k (by omega)
        have HA1 := hid (hHA _ _ HK.out hkl)
        have HA2 := hid (hHA _ _ HN.out hnl)
        have hd2 : (mk (s.L[i]'hi).data).size ≤ 10000000 := by rw [mk_size]; exact hdl
        have hmd : (m : Int) ≤ (mk (s.L[i]'hi).data).size := by rw [mk_size]; omega
        have hq0 : (((mk (s.L[i]'hi).data).size : Int) - ((s.L[i]'hi).synced : Int) == 0) = false := by rw [mk_size]; exact beq_eq_false_iff_ne.2 (by omega)
        rw [← mk_size (s.L[i]'hi).data] at hm
        have l1 := fun wx => slice_h (s := mk (s.L[i]'hi).data) (hi := (m : Int)) (l := (s.L[i]'hi).data.take m) (by omega) hmd (by rw [mk_data]; rfl) wx
        have hsI : ((s.L[i]'hi).synced : Int) ≤ (mk (s.L[i]'hi).data).size := by rw [mk_size]; omega
        have hW1 : IntKind.i64.wrap (((mk (s.L[i]'hi).data).size : Int) - ((s.L[i]'hi).synced : Int)) = ((mk (s.L[i]'hi).data).size : Int) - ((s.L[i]'hi).synced : Int) := IntWalk.i64_in _ (by omega)
        have hms : ((s.L[i]'hi).synced : Int) ≤ (m : Int) := by omega
        obtain ⟨K, hK⟩ : ∃ K, max 0 (min (ks.getD k 0) (((mk (s.L[i]'hi).data).size : Int) - ((s.L[i]'hi).synced : Int))) = K := ⟨_, rfl⟩
        rw [hK] at hm
        have hmore : ∀ w5, Below wr.heap.size wr w5 → w5.heap[wr.heap.size]? = some (.cells #[.string (mk (s.L[i]'hi).name), .string (mk (s.L[i]'hi).data), .int .i64 ((s.L[i]'hi).synced : Int)] 108 (0, 0)) →
            (w5.cell? ⟨r, 0, none⟩ = some (.slice (some ⟨g, 0, none⟩) s.L.length cap) ∧ w5.cell? ⟨wr.heap.size, 0, none⟩ = some (.string (mk (s.L[i]'hi).name)) ∧ w5.cell? ⟨wr.heap.size, 1, none⟩ = some (.string (mk (s.L[i]'hi).data)) ∧ w5.cell? ⟨wr.heap.size, 2, none⟩ = some (.int .i64 ((s.L[i]'hi).synced : Int))) ∧
            (w5.cell? ⟨g, i * 3, none⟩ = some (.string (mk (s.L[i]'hi).name)) ∧ w5.cell? ⟨g, i * 3 + 1, none⟩ = some (.string (mk (s.L[i]'hi).data)) ∧ w5.cell? ⟨g, i * 3 + 2, none⟩ = some (.int .i64 ((s.L[i]'hi).synced : Int))) ∧
            (w5.frozen? ⟨g, i * 3, none⟩ = false ∧ w5.frozen? ⟨g, i * 3 + 1, none⟩ = false ∧ w5.frozen? ⟨g, i * 3 + 2, none⟩ = false) := fun w5 hb hx =>
          ⟨⟨(hb.cell (p := ⟨r, 0, none⟩) hrl).trans c0, (own.cell hx 0).trans rfl, (own.cell hx 1).trans rfl, (own.cell hx 2).trans rfl⟩, ⟨(hb.cell (p := ⟨g, i * 3, none⟩) hg).trans q0, (hb.cell (p := ⟨g, i * 3 + 1, none⟩) hg).trans q1, (hb.cell (p := ⟨g, i * 3 + 2, none⟩) hg).trans q2⟩,
            ⟨(hb.frozen (p := ⟨g, i * 3, none⟩) hg).trans f0, (hb.frozen (p := ⟨g, i * 3 + 1, none⟩) hg).trans f1, (hb.frozen (p := ⟨g, i * 3 + 2, none⟩) hg).trans f2⟩⟩
        have HM := hid hmore
        have HB := hid (fun (q : Nat) => (⟨below_drew (Below.alloc (Below.refl wr.heap.size wr) (Nat.le_refl _) _) q, own.new wr #[.string (mk (s.L[i]'hi).name), .string (mk (s.L[i]'hi).data), .int .i64 ((s.L[i]'hi).synced : Int)] 108⟩ : Below wr.heap.size wr ((wr.alloc (.cells #[.string (mk (s.L[i]'hi).name), .string (mk (s.L[i]'hi).data), .int .i64 ((s.L[i]'hi).synced : Int)] 108)).drewN q) ∧ own (wr.alloc (.cells #[.string (mk (s.L[i]'hi).name), .string (mk (s.L[i]'hi).data), .int .i64 ((s.L[i]'hi).synced : Int)] 108)) wr.heap.size #[.string (mk (s.L[i]'hi).name), .string (mk (s.L[i]'hi).data), .int .i64 ((s.L[i]'hi).synced : Int)] 108))
        clear hput hcells hfz hrow hMi hfm hsy hdl hf hR hC hc hlenM hiM hok hHA hkr hm1 hmore
        have hlt0 : wr.heap.size < wr.heap.size + 1 := Nat.lt_succ_self _
        by_cases hme : m = (s.L[i]'hi).synced
        · have hd := hmA hme
          have hsum : ((s.L[i]'hi).synced : Int) + K = ((s.L[i]'hi).synced : Int) := by omega
          have hW2 : IntKind.i64.wrap (((s.L[i]'hi).synced : Int) + K) = ((s.L[i]'hi).synced : Int) := by rw [hsum]; exact IntWalk.i64_in _ (by omega)
          rw [hme] at l1 hd HPut
          have HPu := hid (fun wx hb => HPut.out wx hb _ hd)
          clear hm hmA hmB hms hme hmd HPut hd
          generalize mk (s.L[i]'hi).data = db at *
          generalize mk (s.L[i]'hi).name = nb at *
          generalize (s.L[i]'hi).data.take (s.L[i]'hi).synced = d' at *
          generalize (s.L[i]'hi).synced = sy at *
          generalize ks.getD k 0 = kk at *
          generalize ns.getD k 0 = zz at *
          go_wp2
          go_quiet ((go_at_call 120; exact quiet_eq (HA1.out _ (below_drew (Below.alloc (Below.refl _ _) (Nat.le_refl _) _) _))))
          go_wp2
          obtain ⟨cap2, w5, hrun, hrow5, hb5, hcap5, hsz5⟩ := run_bytes ((wr.alloc (.cells #[.string nb, .string db, .int .i64 (sy : Int)] 108)).drewN nq) (mk d')
          rw [hrun]
          simp only [Result.andThen]
          rw [Oper.upon_value]
          obtain ⟨hbA, hoA⟩ := HB.out nq
          have hb6 : Below wr.heap.size wr w5 := hbA.trans (hb5.mono hbA.size)
          obtain ⟨⟨x0, x1, x2, x3⟩, ⟨y0, y1, y2⟩, z0, z1, z2⟩ := HM.out w5 hb6 ((hb5.block _ (own.lt hoA)).trans hoA)
          have hrs := run_string (w := w5.drew) (n := (mk d').size) (cap := cap2) (mk_size d') hrow5.2.1
          have HB6 := hid hb6
          clear hrow5 hb5 hcap5 hsz5 hbA hoA hrun hb6
          generalize ((wr.alloc (.cells #[.string nb, .string db, .int .i64 (sy : Int)] 108)).drewN nq).heap.size = gB at *
          go_wp2
          go_still_tail 12, (by kernel_rfl)
          change wpList _ _ _ _ _ w5.drew
          go_wp2
          go_roundw
          case rel => exact HPu.out _ HB6.out.drew 0
          case measure => simp [intOf]; omega
        · have hlt1 : (s.L[i]'hi).synced < m := by omega
          obtain ⟨hl1, hd0⟩ := hmB hlt1
          obtain ⟨j, rfl⟩ : ∃ j, m = j + 1 := ⟨m - 1, by omega⟩
          have hj : j < (s.L[i]'hi).data.length := by omega
          have hd : crF (s.L[i]'hi) (ks.getD k 0) (ns.getD k 0) = ⟨(s.L[i]'hi).name, ((s.L[i]'hi).data.take (j + 1)).set j ((s.L[i]'hi).data[j]'hj ^^^ noiseByte (ns.getD k 0)), j + 1⟩ := hd0
          have hsum : ((s.L[i]'hi).synced : Int) + K = (j : Int) + 1 := by omega
          have hW2 : IntKind.i64.wrap (((s.L[i]'hi).synced : Int) + K) = (j : Int) + 1 := by rw [hsum]; exact IntWalk.i64_in _ (by omega)
          have hsj : ((s.L[i]'hi).synced : Int) < (j : Int) + 1 := by omega
          have l1 : ∀ wx, (Instr.slice 9 (.string (mk (s.L[i]'hi).data)) none (some (.int .i64 ((j : Int) + 1))) none).run Tryz.prog wx = .ok (.string (mk ((s.L[i]'hi).data.take (j + 1)))) wx := fun wx => l1 wx
          have hjd : (j : Int) + 1 ≤ (mk (s.L[i]'hi).data).size := by omega
          have HPu := hid (fun wx hb => HPut.out wx hb _ hd)
          have hget : ((s.L[i]'hi).data.take (j + 1))[j]? = some ((s.L[i]'hi).data[j]'hj) := by rw [List.getElem?_take_of_lt (by omega), List.getElem?_eq_getElem hj]
          have hxor := byte_xor ((s.L[i]'hi).data[j]'hj) (ns.getD k 0)
          have HX := hid hxor
          clear hxor
          have hlen : j < ((s.L[i]'hi).data.take (j + 1)).length := by rw [List.length_take]; omega
          clear hm hmA hmB hms hme hmd HPut hd hd0 hlt1 hl1
          generalize ((s.L[i]'hi).data[j]'hj ^^^ noiseByte (ns.getD k 0)) = nu at *
          generalize (s.L[i]'hi).data[j]'hj = old at *
          clear hj
          generalize mk (s.L[i]'hi).data = db at *
          generalize mk (s.L[i]'hi).name = nb at *
          generalize (s.L[i]'hi).data.take (j + 1) = d' at *
          generalize (s.L[i]'hi).synced = sy at *
          generalize ks.getD k 0 = kk at *
          generalize ns.getD k 0 = zz at *
          go_wp2
          go_quiet ((go_at_call 120; exact quiet_eq (HA1.out _ (below_drew (Below.alloc (Below.refl _ _) (Nat.le_refl _) _) _))))
          go_wp2
          obtain ⟨cap2, w5, hrun, hrow5, hb5, hcap5, hsz5⟩ := run_bytes ((wr.alloc (.cells #[.string nb, .string db, .int .i64 (sy : Int)] 108)).drewN nq) (mk d')
          rw [hrun]
          simp only [Result.andThen]
          rw [Oper.upon_value]
          obtain ⟨hbA, hoA⟩ := HB.out nq
          have hb6 : Below wr.heap.size wr w5 := hbA.trans (hb5.mono hbA.size)
          have hgB : wr.heap.size + 1 = ((wr.alloc (.cells #[.string nb, .string db, .int .i64 (sy : Int)] 108)).drewN nq).heap.size := by simp [World.drewN]
          have hx5 := (hb5.block _ (own.lt hoA)).trans hoA
          obtain ⟨⟨x0, x1, x2, x3⟩, ⟨y0, y1, y2⟩, z0, z1, z2⟩ := HM.out w5 hb6 hx5
          rw [mk_data] at hrow5
          have c5 := hrow5.2.1 j old hget
          have g5 := hrow5.2.2 j hlen
          have HRow := hid hrow5
          have HB6 := hid hb6
          have HX5 := hid hx5
          have HGB := hid hgB
          have hdz : (j : Int) < ((mk d').size : Int) := by rw [mk_size]; omega
          clear hrow5 hb5 hcap5 hsz5 hbA hoA hrun hb6 hx5 hgB hget
          generalize ((wr.alloc (.cells #[.string nb, .string db, .int .i64 (sy : Int)] 108)).drewN nq).heap.size = gB at *
          have hW3 : IntKind.i64.wrap ((j : Int) + 1 - 1) = (j : Int) := by rw [show (j : Int) + 1 - 1 = j by omega]; exact IntWalk.i64_in _ (by omega)
          go_wp2
          have hb6d : Below wr.heap.size wr w5.drew := HB6.out.drew
          have hW4 : IntKind.i64.wrap (j : Int) = (j : Int) := IntWalk.i64_in _ (by omega)
          go_region_with (go_at_call 120; (with_reducible refine (HA2.out _ hb6d).mono ?_); rintro e w6 ⟨rfl, rfl⟩)
          all_goals
            have hrow6 := HRow.out.set j hlen nu _ HX.out
            have hb7 : Below wr.heap.size wr (w5.setCell ⟨gB, j, none⟩ (.int .u8 (bits .xor .u8 (old.toNat : Int) (IntKind.u8.wrap zz)))).drew := (HB6.out.setCell (p := ⟨gB, j, none⟩) (by have := HGB.out; show wr.heap.size ≤ gB; omega) _).drew
            have hx7 : (w5.setCell ⟨gB, j, none⟩ (.int .u8 (bits .xor .u8 (old.toNat : Int) (IntKind.u8.wrap zz)))).drew.heap[wr.heap.size]? = some (.cells #[.string nb, .string db, .int .i64 (sy : Int)] 108 (0, 0)) :=
              (Below.heap_setCell w5 ⟨gB, j, none⟩ _ _ (by have := HGB.out; show wr.heap.size ≠ gB; omega)).trans HX5.out
            obtain ⟨⟨x0, x1, x2, x3⟩, ⟨y0, y1, y2⟩, z0, z1, z2⟩ := HM.out _ hb7 hx7
            have hrow7 : RowAt (w5.setCell ⟨gB, j, none⟩ (.int .u8 (bits .xor .u8 (old.toNat : Int) (IntKind.u8.wrap zz)))).drew gB gB (d'.set j nu) := hrow6
            have hrs := run_string (w := (w5.setCell ⟨gB, j, none⟩ (.int .u8 (bits .xor .u8 (old.toNat : Int) (IntKind.u8.wrap zz)))).drew.drew) (g := gB) (n := (mk d').size) (cap := cap2) (by rw [mk_size, List.length_set]) hrow7.2.1
            have HB7 := hid hb7
            clear hrow6 hrow7 hb7 hx7 hb6d
            generalize (w5.setCell ⟨gB, j, none⟩ (.int .u8 (bits .xor .u8 (old.toNat : Int) (IntKind.u8.wrap zz)))).drew = w7 at *
            go_wp2
            go_still_tail 12, (by kernel_rfl)
            change wpList _ _ _ _ _ w7.drew
            go_wp2
            go_roundw
            case rel => exact HPu.out _ HB7.out.drew 0
            case measure => simp [intOf]; omega
      · have hs : (s.L[i]'hi).synced = (mk (s.L[i]'hi).data).size := by rw [mk_size]; omega
        rw [hs] at q2
        have hrel : ∀ wx, Below wr.heap.size wr wx → RCrRel w S r (.slice (some ⟨g, 0, none⟩) s.L.length cap) s ks ns (.int .i64 k) (.int .i64 ((i + 1 : Nat) : Int)) wx := fun wx hb => by
          refine ⟨i + 1, k, P ++ [s.L[i]'hi], hi, rfl, rfl, hC.keep hi hf, ?_, hc.trans (T := fun _ => False) (Chg.of_below hb) (fun _ e => e.elim)⟩
          rw [← hC.same hi]
          exact hR.below hb
        have HR := hid hrel
        have hd2 : (mk (s.L[i]'hi).data).size ≤ 10000000 := by rw [mk_size]; exact hdl
        clear hrel hcells hfz hrow hMi hfm hsy hdl hf hs hR hC hc hlenM hiM
        generalize mk (s.L[i]'hi).data = db at *
        generalize mk (s.L[i]'hi).name = nb at *
        go_wp2
        go_roundw
        case rel => exact HR.out _ (Below.alloc (Below.refl _ _) (Nat.le_refl _) _)
        case measure => simp [intOf]; omega
    · obtain rfl : i = s.L.length := by omega
      have hd := hC.done rfl
      have hRe := hR
      have hL : P ++ s.L.drop s.L.length = crL s.L ks ns := by rw [List.drop_length, List.append_nil, hd]
      have e2 := hR.head.cell 2
      have e3 := hR.head.cell 3
      have g2 := hR.head.frozen 2
      have g3 := hR.head.frozen 3
      have hw1 := hR.head.set 2 (.int .i64 (-1))
      have hw2 := hw1.set 3 (.bool false)
      have e3' := hw1.cell 3
      have g3' := hw1.frozen 3
      simp at e2 e3 e3'
      have hcr : Chg (fun b => b = r) wr ((wr.setCell ⟨r, 2, none⟩ (.int .i64 (-1))).setCell ⟨r, 3, none⟩ (.bool false)) := (Chg.setCell wr ⟨r, 2, none⟩ _).trans (Chg.setCell _ ⟨r, 3, none⟩ _) (fun b hb => .inl hb)
      have hT := hR.turn (fu := -1) (dd := false) (by simpa using hw2) hcr (by omega)
      have hcw : Chg S w ((wr.setCell ⟨r, 2, none⟩ (.int .i64 (-1))).setCell ⟨r, 3, none⟩ (.bool false)) := hc.trans hcr (fun b e => .inl (by rw [e]; exact hR.inS.1))
      have hfin : RefTail w S r (crash s ks ns) (.returned (.tuple #[])) ((wr.setCell ⟨r, 2, none⟩ (.int .i64 (-1))).setCell ⟨r, 3, none⟩ (.bool false)) := by
        refine ⟨rfl, ⟨.slice ao s.L.length cap, ?_⟩, hcw⟩
        have h5 := hT.widen (T := grow S w ((wr.setCell ⟨r, 2, none⟩ (.int .i64 (-1))).setCell ⟨r, 3, none⟩ (.bool false))) grow_mono (grow_lt Hlt.out hcw.size)
        have : ({ ({ s with L := P ++ s.L.drop s.L.length } : Dk) with fuse := -1, dead := false } : Dk) = crash s ks ns := by unfold crash; rw [hL]
        rw [this] at h5
        exact h5
      have HF := hid hfin
      clear hfin hcw hT hcr hw1 hw2 hR hRe hC hc hd hL
      go_wp2
      go_end0
      exact HF.out
end
end Go.Proofs.YtpcafkinpkepcaaGreatDoor

