import Derived.Test.YtbidglefddmjhaaGreatDoorMqbJ
import Derived.BigQuiet
/-
  LAYER 3 (wal): Save.
-/
namespace Go.Proofs.YtbidglefddmjhaaGreatDoor
open Go.RowKit Go.Maps
set_option linter.unusedVariables false
set_option maxRecDepth 100000

def SavePost (w : World) (T : Nat → Prop) (p a : Nat) (r : Dk × Lg × Int) (e : Ending) (w' : World) : Prop := e = .returned (.int .i64 r.2.2) ∧ LgRun w T p a r.1 r.2.1 w'
/-- What Save finds ahead of the write. -/
structure SaveAt (w : World) (T : Nat → Prop) (p a : Nat) (s : Dk) (g : Lg) (hh : Hd) (B0 : Nat) (wx : World) : Prop where
  log : LogAt wx T p a s g
  from_ : Below w.heap.size w wx
  box : own wx w.heap.size #[.int .i64 hh.term, .int .i64 hh.vote] 50
  glob : Glob wx B0
  size : B0 ≤ wx.heap.size
theorem SaveAt.cells {w : World} {T : Nat → Prop} {p a : Nat} {s : Dk} {g : Lg} {hh : Hd} {B0 : Nat} {wx : World} (h : SaveAt w T p a s g hh B0 wx) : wx.cell? ⟨w.heap.size, 0, none⟩ = some (.int .i64 hh.term) ∧ wx.cell? ⟨w.heap.size, 1, none⟩ = some (.int .i64 hh.vote) ∧ wx.cell? ⟨p, 1, none⟩ = some (.int .i64 g.hd.term) ∧ wx.cell? ⟨p, 2, none⟩ = some (.int .i64 g.hd.vote) := by
  obtain ⟨_, k1, k2, _⟩ := h.log.cells
  exact ⟨(h.box.cell 0).trans rfl, (h.box.cell 1).trans rfl, k1, k2⟩
theorem SaveAt.below {w : World} {T : Nat → Prop} {p a : Nat} {s : Dk} {g : Lg} {hh : Hd} {B0 : Nat} {wx wy : World} (h : SaveAt w T p a s g hh B0 wx) (hb : Below wx.heap.size wx wy) : SaveAt w T p a s g hh B0 wy := by
  have hz := hb.size
  exact ⟨h.log.below hb, h.from_.trans (hb.mono h.from_.size), h.box.same (hb.block _ h.box.lt), h.glob.below hb h.size, by have := h.size; omega⟩
/-- Where Save ends without a write. -/
theorem SaveAt.post {w : World} {T : Nat → Prop} {p a : Nat} {s : Dk} {g : Lg} {hh : Hd} {B0 : Nat} {wx : World} (h : SaveAt w T p a s g hh B0 wx) (hT : ∀ b, T b → b < w.heap.size) (k : Int) : SavePost w T p a (s, g, k) (.returned (.int .i64 k)) wx := ⟨rfl, h.log.run.rebase h.from_ hT⟩
theorem drewN_below (w : World) (n : Nat) : Below w.heap.size w (w.drewN n) := below_drew (Below.refl _ _) n
/-- Behind the write: how far the entries have been put in. -/
def PutRel (w : World) (T : Nat → Prop) (p a : Nat) (s s' : Dk) (g : Lg) (hh : Hd) (B0 : Nat) (l : List En) (i : Value) (wr : World) : Prop :=
  ∃ wb, ∃ k : Nat, k ≤ l.length ∧ i = .int .i64 k ∧ SaveAt w T p a s g hh B0 wb ∧ LgRun wb T p a s' ⟨hh, putEs g.L (l.take k)⟩ wr
theorem putEs_snoc (L l : List En) (e : En) : putEs L (l ++ [e]) = putE (putEs L l) e := by simp [putEs]
theorem putEs_le : ∀ (l L : List En), (putEs L l).length ≤ L.length + l.length
  | [], L => Nat.le_refl _
  | e :: l, L => by
    have h1 := putEs_le l (putE L e)
    have h2 : (putE L e).length ≤ L.length + 1 := by
      unfold putE
      rw [List.length_append, List.length_take, List.length_singleton]; omega
    show (putEs (putE L e) l).length ≤ _
    simp only [List.length_cons]
    omega
set_option maxHeartbeats 8000000 in
theorem save_any {w : World} {T : Nat → Prop} {p a : Nat} {s : Dk} {g : Lg} {B0 : Nat} (h : LogAt w T p a s g) (hg : Glob w B0) (hB0 : B0 ≤ w.heap.size) (hh : Hd) (ht : I64 hh.term) (hvt : I64 hh.vote) (v : Value) (l : List En)
    (hv : EntsAt w v l) (hvT : ∀ g0 o n c, v = .slice (some ⟨g0, o, none⟩) n c → ¬ T g0) (hin : ∀ e ∈ l, e.In ∧ e.data.length ≤ 60000) (hlen : l.length ≤ 1000) (hgl : g.L.length + l.length ≤ 100000) :
    Calls Tryz.prog 48 #[.pointer (some ⟨p, 0, none⟩), .agg #[.int .i64 hh.term, .int .i64 hh.vote], v] w (SavePost w T p a (saveL s g hh l)) := by
  have hb0 : Below w.heap.size w (w.alloc (.cells #[.int .i64 hh.term, .int .i64 hh.vote] 50)) := Below.alloc (Below.refl _ _) (Nat.le_refl _) _
  have hbox := own.new w #[.int .i64 hh.term, .int .i64 hh.vote] 50
  have hS0 : SaveAt w T p a s g hh B0 (w.alloc (.cells #[.int .i64 hh.term, .int .i64 hh.vote] 50)) := ⟨h.below hb0, hb0, hbox, hg.below hb0 hB0, by have := hb0.size; omega⟩
  have HRec := hid (entryRecords_any v l _ hS0.glob hS0.size (hv.below hb0) hin hlen)
  have HS0 := hid hS0
  have HFit := hid (fun wx => hardFits_any hh wx)
  have HDead := hid (fun wx (hx : SaveAt w T p a s g hh B0 wx) => (hx.log.run.reads fun S h1 h2 => walDead_any h1 h2 : Calls Tryz.prog 108 #[.pointer (some ⟨p, 0, none⟩)] wx fun e w' => e = .returned (.bool s.dead) ∧ wx = w'))
  have HRoom := hid (fun wx (hx : SaveAt w T p a s g hh B0 wx) => (hx.log.run.reads fun S h1 h2 => room_any h1 h2 hx.glob hx.size : Calls Tryz.prog 109 #[.pointer (some ⟨p, 0, none⟩)] wx (LastPost wx (roomL s))))
  have HHr := hid (fun wx (hx : SaveAt w T p a s g hh B0 wx) => hardRec_any hh wx hx.glob hx.size ht hvt)
  obtain ⟨ao, cap, rfl, -⟩ := id hv
  have HV := hid hv
  have HT := hid h.lt
  have HIn := hid hin
  have hdisk : s.Ok := h.run.disk
  clear hbox hS0 hb0 hv hin
  cases hall : l.all entB with
  | false =>
    have hres : saveL s g hh l = (s, g, 1) := by unfold saveL; rw [if_pos (.inl hall)]
    rw [hres]
    have HR1 : Hid (∀ (e : Ending) w', RecsPost (w.alloc (.cells #[.int .i64 hh.term, .int .i64 hh.vote] 50)) l e w' → e = .returned (.tuple #[.string (mk []), .bool false]) ∧ SaveAt w T p a s g hh B0 w') := hid (fun e w' hq => ⟨by rw [hq.1, hall]; rfl, HS0.out.below hq.2⟩)
    clear hres hall
    go_enter Tryz.func48, Tryz.ntmps48
    go_wp2_with (go_at_call 106; (with_reducible refine HRec.out.mono ?_); intro e w1 hq; obtain ⟨rfl, hs1⟩ := HR1.out _ _ hq; have HS1 := hid hs1; clear hs1 hq)
    go_ret
    exact HS1.out.post HT.out _
  | true =>
    have HR1 : Hid (∀ (e : Ending) w', RecsPost (w.alloc (.cells #[.int .i64 hh.term, .int .i64 hh.vote] 50)) l e w' → e = .returned (.tuple #[.string (mk (entRecs l)), .bool true]) ∧ SaveAt w T p a s g hh B0 w') := hid (fun e w' hq => ⟨by rw [hq.1, hall]; rfl, HS0.out.below hq.2⟩)
    have hrl : (mk (entRecs l)).size ≤ 65544000 := by rw [mk_size]; have := entRecs_len HIn.out; unfold entRecs; omega
    cases hfit : hdB hh with
    | false =>
      have hres : saveL s g hh l = (s, g, 1) := by unfold saveL; rw [if_pos (.inr hfit)]
      rw [hres]
      rw [hfit] at HFit
      clear hres hall hfit
      go_enter Tryz.func48, Tryz.ntmps48
      go_wp2_with (first
        | (go_at_call 106; (with_reducible refine HRec.out.mono ?_); intro e w1 hq; obtain ⟨rfl, hs1⟩ := HR1.out _ _ hq; have HS1 := hid hs1; obtain ⟨x0, x1, -, -⟩ := hs1.cells; clear hs1 hq)
        | (go_at_call 107; (with_reducible refine (HFit.out _).mono ?_); rintro e w2 ⟨rfl, hb2⟩))
      go_ret
      exact (HS1.out.below hb2).post HT.out _
    | true =>
      rw [hfit] at HFit
      -- what the log's hard state is, against the new one
      obtain ⟨t2, v2, HE, hcase⟩ : ∃ t2 v2 : Int, Hid (g.hd.term = t2 ∧ g.hd.vote = v2) ∧ ((t2 = hh.term ∧ v2 = hh.vote ∧ Hid (hh = g.hd)) ∨ (¬ hh.term = t2 ∧ Hid (hh ≠ g.hd)) ∨ (t2 = hh.term ∧ ¬ hh.vote = v2 ∧ Hid (hh ≠ g.hd))) := by
        refine ⟨g.hd.term, g.hd.vote, hid ⟨rfl, rfl⟩, ?_⟩
        by_cases e1 : g.hd.term = hh.term
        · by_cases e2 : g.hd.vote = hh.vote
          · exact .inl ⟨e1, e2, hid (by obtain ⟨a, b⟩ := hh; cases hg' : g.hd; rw [hg'] at e1 e2; simp only at e1 e2; rw [e1, e2])⟩
          · exact .inr (.inr ⟨e1, fun e => e2 e.symm, hid (fun e => e2 (by rw [e]))⟩)
        · exact .inr (.inl ⟨fun e => e1 e.symm, hid (fun e => e1 (by rw [e]))⟩)
      have HC := hid (fun wx (hx : SaveAt w T p a s g hh B0 wx) => (show wx.cell? ⟨w.heap.size, 0, none⟩ = some (.int .i64 hh.term) ∧ wx.cell? ⟨w.heap.size, 1, none⟩ = some (.int .i64 hh.vote) ∧ wx.cell? ⟨p, 1, none⟩ = some (.int .i64 t2) ∧ wx.cell? ⟨p, 2, none⟩ = some (.int .i64 v2) from by
        obtain ⟨k0, k1, k2, k3⟩ := hx.cells
        rw [HE.out.1] at k2
        rw [HE.out.2] at k3
        exact ⟨k0, k1, k2, k3⟩))
      by_cases hsame : l = [] ∧ hh = g.hd
      · have hres : saveL s g hh l = (s, g, 0) := by
          unfold saveL; rw [if_neg (by rw [hall, hfit]; simp), if_pos hsame]
        rw [hres]
        have hl0 : ((l.length : Int) == 0) = true := by rw [hsame.1]; rfl
        rcases hcase with ⟨rfl, rfl, -⟩ | ⟨-, hne⟩ | ⟨-, -, hne⟩
        · clear hres hall hfit hsame HE
          go_enter Tryz.func48, Tryz.ntmps48
          go_wp2_with (first
            | (go_at_call 106; (with_reducible refine HRec.out.mono ?_); intro e w1 hq; obtain ⟨rfl, hs1⟩ := HR1.out _ _ hq; have HS1 := hid hs1; obtain ⟨x0, x1, -, -⟩ := HC.out _ hs1; clear hs1 hq)
            | (go_at_call 107; (with_reducible refine (HFit.out _).mono ?_); rintro e w2 ⟨rfl, hb2⟩; have hs2 := HS1.out.below hb2; obtain ⟨y0, y1, y2, y3⟩ := HC.out _ hs2; have HS2 := hid hs2; clear hs2))
          go_quiet (fail)
          go_wp2
          go_ret
          exact (HS2.out.below (drewN_below _ _)).post HT.out _
        · exact absurd hsame.2 hne.out
        · exact absurd hsame.2 hne.out
      · have hsv : saveL s g hh l = if s.dead then (s, g, 7) else if (roomL s).2.2 ≠ 0 then (s, g, (roomL s).2.2) else laid s g ⟨hh, putEs g.L l⟩ (roomL s).1 (hdRec s (roomL s).2.1 g hh ++ entRecs l) := by
          unfold saveL; rw [if_neg (by rw [hall, hfit]; simp), if_neg hsame]
        have hgd : ((l.length : Int) == 0) = false ∨ (((l.length : Int) == 0) = true ∧ ¬ hh = g.hd) := by
          by_cases hl0 : l = []
          · right
            exact ⟨by rw [hl0]; rfl, fun e => hsame ⟨hl0, e⟩⟩
          · left
            have := List.length_pos_iff.2 hl0
            exact beq_eq_false_iff_ne.2 (by omega)
        have HSv := hid hsv
        clear hsv hsame
        generalize saveL s g hh l = r at *
        cases hdead : s.dead with
        | true =>
          have hr : r = (s, g, 7) := by rw [HSv.out, if_pos hdead]
          subst hr
          rw [hdead] at HDead
          clear HSv hdead hall hfit HE
          rcases hgd with hq1 | ⟨hq1, hnn⟩
          rotate_left
          rcases hcase with ⟨rfl, rfl, he⟩ | ⟨hc1, -⟩ | ⟨rfl, hc2, -⟩
          · exact absurd he.out hnn
          all_goals
            try clear hnn
            try clear hcase
            go_enter Tryz.func48, Tryz.ntmps48
            go_wp2_with (first
              | (go_at_call 106; (with_reducible refine HRec.out.mono ?_); intro e w1 hq; obtain ⟨rfl, hs1⟩ := HR1.out _ _ hq; have HS1 := hid hs1; obtain ⟨x0, x1, -, -⟩ := HC.out _ hs1; clear hs1 hq)
              | (go_at_call 107; (with_reducible refine (HFit.out _).mono ?_); rintro e w2 ⟨rfl, hb2⟩; have hs2 := HS1.out.below hb2; obtain ⟨y0, y1, y2, y3⟩ := HC.out _ hs2; have HS2 := hid hs2; clear hs2))
            go_quiet (fail)
            have hs3 := HS2.out.below (drewN_below _ nq)
            have HS3 := hid hs3
            clear hs3
            go_wp2_with (go_at_call 108; (with_reducible refine (HDead.out _ HS3.out).mono ?_); rintro e w4 ⟨rfl, rfl⟩)
            go_ret
            exact HS3.out.post HT.out _
        | false =>
          rw [hdead] at HDead
          rw [hdead, if_neg (by simp)] at HSv
          have hlast := lastL_len hdisk
          have hrn : (roomL s).1.length ≤ 24 := by
            unfold roomL
            split
            · exact hlast.1
            · have := segV_le (lastL s).1
              have := Lib.itoa_length_le ((segV (lastL s).1 + 1 : Nat) : Int) (by omega) (by omega)
              show (segN _).length ≤ 24
              unfold segN
              simp only [List.length_cons]
              omega
          clear hdead hlast
          generalize hrm : roomL s = rm at *
          obtain ⟨n, z, k⟩ := rm
          simp only at HSv hrn
          unfold LastPost at HRoom
          simp only at HRoom
          by_cases hk : k = 0
          · subst hk
            rw [if_neg (by simp)] at HSv
            -- the bytes that are laid
            have hdl : (mk (hdRec s z g hh ++ entRecs l)).size ≤ 70000000 := by
              rw [mk_size, List.length_append]
              have h1 : (hdRec s z g hh).length ≤ 100 := by
                unfold hdRec
                split
                · have := encs_length [1, hh.term, hh.vote] (by intro m hm; simp at hm; rcases hm with rfl | rfl | rfl; exact ⟨by omega, by omega⟩; exact ht; exact hvt)
                  show (rcL (.hard hh)).length ≤ 100
                  unfold rcL
                  rw [frameL_length]
                  simp only [payL]
                  simp at this
                  omega
                · simp
              rw [mk_size] at hrl
              omega
            have HWr := hid (fun wx (hx : SaveAt w T p a s g hh B0 wx) => hx.log.run.write (fun b hb => by have := HT.out b hb; have := hx.from_.size; omega) (mk n) (mk (hdRec s z g hh ++ entRecs l)) (by rw [mk_size]; unfold maxLen; omega) (by omega))
            rw [mk_data, mk_data] at HWr
            unfold laid at HSv
            generalize hD : hdRec s z g hh ++ entRecs l = D at *
            generalize wrL s n D = rw_ at *
            obtain ⟨s', kw⟩ := rw_
            simp only at HSv HWr
            have HHard : Hid ((z = 0 ∨ hh ≠ g.hd) → mk (rcL (.hard hh)) ++ mk (entRecs l) = mk D) := hid (fun h => by rw [mk_append, ← hD]; unfold hdRec; rw [if_pos h])
            have HNo : Hid (¬ z = 0 → hh = g.hd → mk (entRecs l) = mk D) := hid (fun h1 h2 => by rw [← hD]; unfold hdRec; rw [if_neg (fun e => e.elim h1 (fun e => e h2))]; rfl)
            have hs1 : (mk (rcL (.hard hh))).size ≤ 100 := by
              rw [mk_size]
              have := encs_length [1, hh.term, hh.vote] (by intro m hm; simp at hm; rcases hm with rfl | rfl | rfl; exact ⟨by omega, by omega⟩; exact ht; exact hvt)
              unfold rcL
              rw [frameL_length]
              simp only [payL]
              simp at this
              omega
            have HFitB := hid hfit
            have HAllB := hid hall
            clear hD hrm hall hfit hrn
            by_cases hkw : kw = 0
            · subst hkw
              rw [if_pos rfl] at HSv
              have hr := HSv.out
              subst hr
              clear HSv
              -- the stores behind the write
              have HStore := hid (fun wx wy (hx : SaveAt w T p a s g hh B0 wx) (hq : LgRun wx T p a s' g wy) => (show wy.cell? ⟨w.heap.size, 0, none⟩ = some (.int .i64 hh.term) ∧ wy.cell? ⟨w.heap.size, 1, none⟩ = some (.int .i64 hh.vote) ∧ wy.cell? ⟨p, 1, none⟩ = some (.int .i64 g.hd.term) ∧ (wy.setCell ⟨p, 1, none⟩ (.int .i64 hh.term)).cell? ⟨p, 2, none⟩ = some (.int .i64 g.hd.vote) ∧ wy.frozen? ⟨p, 1, none⟩ = false ∧ (wy.setCell ⟨p, 1, none⟩ (.int .i64 hh.term)).frozen? ⟨p, 2, none⟩ = false from by
                have hbx : own wy w.heap.size _ _ := hx.box.same (hq.2.block _ hx.box.lt (fun e => by have := HT.out _ e; omega))
                obtain ⟨_, k1, k2, kf⟩ := hq.1.cells
                refine ⟨(hbx.cell 0).trans rfl, (hbx.cell 1).trans rfl, k1, ?_, kf 1, ?_⟩
                · rw [setCell_cell k1]; exact k2
                · rw [setCell_frozen]; exact kf 2))
              have HLoop := hid (fun wx wy (hx : SaveAt w T p a s g hh B0 wx) (hq : LgRun wx T p a s' g wy) => (show PutRel w T p a s s' g hh B0 l (.int .i64 0) ((wy.setCell ⟨p, 1, none⟩ (.int .i64 hh.term)).setCell ⟨p, 2, none⟩ (.int .i64 hh.vote)) from
                ⟨wx, 0, Nat.zero_le _, rfl, hx, hq.hard (fun b hb => by have := HT.out b hb; have := hx.from_.size; omega) HFitB.out ht hvt⟩))
              have HDone := hid (fun wx wr (hx : SaveAt w T p a s g hh B0 wx) (hq : LgRun wx T p a s' ⟨hh, putEs g.L (l.take l.length)⟩ wr) => (show SavePost w T p a (s', ⟨hh, putEs g.L l⟩, 0) (.returned (.int .i64 0)) wr from by
                rw [List.take_length] at hq
                exact ⟨rfl, hq.rebase hx.from_ HT.out⟩))
              have HRound := hid (fun wx wr k (hlt : k < l.length) (hx : SaveAt w T p a s g hh B0 wx) (hq : LgRun wx T p a s' ⟨hh, putEs g.L (l.take k)⟩ wr) => (show ∃ g0 o0, ao = some ⟨g0, o0, none⟩ ∧ wr.cell? ⟨g0, o0 + k * 4, none⟩ = some (.int .i64 l[k].idx) ∧ wr.cell? ⟨g0, o0 + k * 4 + 1, none⟩ = some (.int .i64 l[k].term) ∧ wr.cell? ⟨g0, o0 + k * 4 + 2, none⟩ = some (.int .i64 l[k].kind) ∧ wr.cell? ⟨g0, o0 + k * 4 + 3, none⟩ = some (.string (mk l[k].data)) ∧
                  ∀ wy, Below wr.heap.size wr wy → Calls Tryz.prog 110 #[.pointer (some ⟨p, 1, none⟩), .agg #[.int .i64 l[k].idx, .int .i64 l[k].term, .int .i64 l[k].kind, .string (mk l[k].data)]] wy (fun e wz => e = .returned (.tuple #[]) ∧ PutRel w T p a s s' g hh B0 l (.int .i64 ((k + 1 : Nat) : Int)) wz) from by
                obtain ⟨ao', cap', hv', hcc⟩ := HV.out
                simp only [Value.slice.injEq] at hv'
                obtain ⟨rfl, -, rfl⟩ := hv'
                obtain ⟨g0, o0, rfl, hgl, hcell⟩ := hcc (fun e => by rw [e] at hlt; simp at hlt)
                have hgT := hvT g0 o0 l.length cap rfl
                have hz := hx.from_.size
                have hsm : ∀ j, wr.cell? ⟨g0, j, none⟩ = w.cell? ⟨g0, j, none⟩ := fun j => (World.cell?_of_block (hq.2.block g0 (by omega) hgT)).trans (World.cell?_of_block (hx.from_.block g0 hgl))
                obtain ⟨c0, c1, c2, c3⟩ := hcell k hlt
                refine ⟨g0, o0, rfl, (hsm _).trans c0, (hsm _).trans c1, (hsm _).trans c2, (hsm _).trans c3, fun wy hb => ?_⟩
                have hI := HIn.out l[k] (List.getElem_mem hlt)
                have hE : entB l[k] = true := by have := HAllB.out; rw [List.all_eq_true] at this; exact this _ (List.getElem_mem hlt)
                have hl1 := putEs_le (l.take k) g.L
                have hl2 : (l.take k).length ≤ k := List.length_take_le _ _
                refine ((hq.below hb).put (fun b hb' => by have := HT.out b hb'; omega) l[k] hE hI.1 (by omega) (by show (putEs g.L (l.take k)).length + 1 ≤ 100000; omega)).mono ?_
                rintro e wz ⟨he, hr⟩
                refine ⟨he, wx, k + 1, by omega, rfl, hx, ?_⟩
                rw [List.take_succ_eq_append_getElem hlt, putEs_snoc]
                exact hr))
              by_cases hz : z = 0
              · have hz1 : ((z : Int) == 0) = true := by rw [hz]; rfl
                have happ := HHard.out (.inl hz)
                rcases hgd with hq1 | ⟨hq1, hnn⟩
                rotate_left
                rcases hcase with ⟨rfl, rfl, he⟩ | ⟨hc1, -⟩ | ⟨rfl, hc2, -⟩
                · exact absurd he.out hnn
                all_goals
                  try clear hnn
                  try clear hcase
                  clear hz HE HHard HNo
                  generalize mk (rcL (.hard hh)) = HB at *
                  generalize mk (entRecs l) = EB at *
                  generalize mk D = DB at *
                  go_enter Tryz.func48, Tryz.ntmps48
                  go_wp2_with (first
                    | (go_at_call 106; (with_reducible refine HRec.out.mono ?_); intro e w1 hq; obtain ⟨rfl, hs1⟩ := HR1.out _ _ hq; have HS1 := hid hs1; obtain ⟨x0, x1, -, -⟩ := HC.out _ hs1; clear hs1 hq)
                    | (go_at_call 107; (with_reducible refine (HFit.out _).mono ?_); rintro e w2 ⟨rfl, hb2⟩; have hs2 := HS1.out.below hb2; obtain ⟨y0, y1, y2, y3⟩ := HC.out _ hs2; have HS2 := hid hs2; clear hs2))
                  go_quiet (fail)
                  have hs3 := HS2.out.below (drewN_below _ nq)
                  have HS3 := hid hs3
                  clear hs3
                  go_wp2_with (first
                    | (go_at_call 108; (with_reducible refine (HDead.out _ HS3.out).mono ?_); rintro e w4 ⟨rfl, rfl⟩)
                    | (go_at_call 109; (with_reducible refine (HRoom.out _ HS3.out).mono ?_); rintro e w5 ⟨rfl, hb5⟩; have hs5 := HS3.out.below hb5; obtain ⟨z0, z1, z2, z3⟩ := HC.out _ hs5; have HS5 := hid hs5; clear hs5))
                  go_quiet (fail)
                  have hs6 := HS5.out.below (drewN_below _ nq)
                  have HS6 := hid hs6
                  clear hs6
                  go_wp2_with (first
                    | (go_at_call 76; (with_reducible refine (HHr.out _ HS6.out).mono ?_); rintro e w7 ⟨rfl, hb7⟩; have hs7 := HS6.out.below hb7; obtain ⟨t0, t1, t2_, t3⟩ := HC.out _ hs7; have HS6 := hid hs7; clear hs7)
                    | (go_at_call 74; (with_reducible refine (HWr.out _ HS6.out).mono ?_); rintro e w8 ⟨rfl, hq8⟩; have HQ8 := hid hq8; clear hq8; obtain ⟨f0, f1, f2, f3, f4, f5⟩ := HStore.out _ _ HS6.out HQ8.out))
                  go_loopw [79] (PutRel w T p a s s' g hh B0 l) (fun i _ => l.length - (intOf i).toNat)
                  case atStart => exact HLoop.out _ _ HS6.out HQ8.out
                  case round =>
                    obtain ⟨wb, k, hk, rfl, hsb, hrun⟩ := hrel
                    have HSb := hid hsb
                    have HRun := hid hrun
                    clear hrun hsb
                    by_cases hlt : k < l.length
                    · obtain ⟨g0, o0, rfl, d0, d1, d2, d3, hput⟩ := HRound.out wb wr k hlt HSb.out HRun.out
                      have HPut := hid hput
                      clear hput
                      generalize l[k].idx = y0 at *
                      generalize l[k].term = y1 at *
                      generalize l[k].kind = y2 at *
                      generalize mk l[k].data = y3 at *
                      have hb := own.new wr #[.int .i64 y0, .int .i64 y1, .int .i64 y2, .string y3] 95
                      have e0 := (hb.cell 0).trans rfl
                      have e1 := (hb.cell 1).trans rfl
                      have e2 := (hb.cell 2).trans rfl
                      have e3 := (hb.cell 3).trans rfl
                      clear hb
                      have hbd : Below wr.heap.size wr (wr.alloc (.cells #[.int .i64 y0, .int .i64 y1, .int .i64 y2, .string y3] 95)).drew := ((Below.refl _ wr).alloc (Nat.le_refl _) _).drew
                      have HP9 := hid (HPut.out _ hbd)
                      clear hbd
                      go_wp2
                      go_region_with (go_at_call 110; (with_reducible refine HP9.out.mono ?_); rintro e w9 ⟨rfl, hr9⟩; have HR9 := hid hr9; clear hr9)
                      all_goals
                        go_wp2
                        go_roundw
                        case rel => exact HR9.out
                        case measure => simp [intOf]; omega
                    · obtain rfl : k = l.length := by omega
                      have HEnd := hid (HDone.out wb wr HSb.out HRun.out)
                      go_wp2
                      go_ret
                      exact HEnd.out
              · have hz1 : ((z : Int) == 0) = false := beq_eq_false_iff_ne.2 (by omega)
                rcases hcase with ⟨rfl, rfl, he⟩ | ⟨hc1, hne⟩ | ⟨rfl, hc2, hne⟩
                · rcases hgd with hq1 | ⟨-, hnn⟩
                  rotate_left
                  · exact absurd he.out hnn
                  have hno := HNo.out hz he.out
                  rw [← hno] at HWr
                  clear hno he HE HHard HNo hz
                  generalize mk (entRecs l) = EB at *
                  go_enter Tryz.func48, Tryz.ntmps48
                  go_wp2_with (first
                    | (go_at_call 106; (with_reducible refine HRec.out.mono ?_); intro e w1 hq; obtain ⟨rfl, hs1⟩ := HR1.out _ _ hq; have HS1 := hid hs1; obtain ⟨x0, x1, -, -⟩ := HC.out _ hs1; clear hs1 hq)
                    | (go_at_call 107; (with_reducible refine (HFit.out _).mono ?_); rintro e w2 ⟨rfl, hb2⟩; have hs2 := HS1.out.below hb2; obtain ⟨y0, y1, y2, y3⟩ := HC.out _ hs2; have HS2 := hid hs2; clear hs2))
                  go_quiet (fail)
                  have hs3 := HS2.out.below (drewN_below _ nq)
                  have HS3 := hid hs3
                  clear hs3
                  go_wp2_with (first
                    | (go_at_call 108; (with_reducible refine (HDead.out _ HS3.out).mono ?_); rintro e w4 ⟨rfl, rfl⟩)
                    | (go_at_call 109; (with_reducible refine (HRoom.out _ HS3.out).mono ?_); rintro e w5 ⟨rfl, hb5⟩; have hs5 := HS3.out.below hb5; obtain ⟨z0, z1, z2, z3⟩ := HC.out _ hs5; have HS5 := hid hs5; clear hs5))
                  go_quiet (fail)
                  have hs6 := HS5.out.below (drewN_below _ nq)
                  have HS6 := hid hs6
                  clear hs6
                  go_wp2_with (first
                    | (go_at_call 76; (with_reducible refine (HHr.out _ HS6.out).mono ?_); rintro e w7 ⟨rfl, hb7⟩; have hs7 := HS6.out.below hb7; obtain ⟨t0, t1, t2_, t3⟩ := HC.out _ hs7; have HS6 := hid hs7; clear hs7)
                    | (go_at_call 74; (with_reducible refine (HWr.out _ HS6.out).mono ?_); rintro e w8 ⟨rfl, hq8⟩; have HQ8 := hid hq8; clear hq8; obtain ⟨f0, f1, f2, f3, f4, f5⟩ := HStore.out _ _ HS6.out HQ8.out))
                  go_loopw [79] (PutRel w T p a s s' g hh B0 l) (fun i _ => l.length - (intOf i).toNat)
                  case atStart => exact HLoop.out _ _ HS6.out HQ8.out
                  case round =>
                    obtain ⟨wb, k, hk, rfl, hsb, hrun⟩ := hrel
                    have HSb := hid hsb
                    have HRun := hid hrun
                    clear hrun hsb
                    by_cases hlt : k < l.length
                    · obtain ⟨g0, o0, rfl, d0, d1, d2, d3, hput⟩ := HRound.out wb wr k hlt HSb.out HRun.out
                      have HPut := hid hput
                      clear hput
                      generalize l[k].idx = y0 at *
                      generalize l[k].term = y1 at *
                      generalize l[k].kind = y2 at *
                      generalize mk l[k].data = y3 at *
                      have hb := own.new wr #[.int .i64 y0, .int .i64 y1, .int .i64 y2, .string y3] 95
                      have e0 := (hb.cell 0).trans rfl
                      have e1 := (hb.cell 1).trans rfl
                      have e2 := (hb.cell 2).trans rfl
                      have e3 := (hb.cell 3).trans rfl
                      clear hb
                      have hbd : Below wr.heap.size wr (wr.alloc (.cells #[.int .i64 y0, .int .i64 y1, .int .i64 y2, .string y3] 95)).drew := ((Below.refl _ wr).alloc (Nat.le_refl _) _).drew
                      have HP9 := hid (HPut.out _ hbd)
                      clear hbd
                      go_wp2
                      go_region_with (go_at_call 110; (with_reducible refine HP9.out.mono ?_); rintro e w9 ⟨rfl, hr9⟩; have HR9 := hid hr9; clear hr9)
                      all_goals
                        go_wp2
                        go_roundw
                        case rel => exact HR9.out
                        case measure => simp [intOf]; omega
                    · obtain rfl : k = l.length := by omega
                      have HEnd := hid (HDone.out wb wr HSb.out HRun.out)
                      go_wp2
                      go_ret
                      exact HEnd.out
                all_goals
                  have happ := HHard.out (.inr hne.out)
                  clear hz hne HE HHard HNo
                  generalize mk (rcL (.hard hh)) = HB at *
                  generalize mk (entRecs l) = EB at *
                  generalize mk D = DB at *
                  rcases hgd with hq1 | ⟨hq1, -⟩
                  all_goals
                    go_enter Tryz.func48, Tryz.ntmps48
                    go_wp2_with (first
                      | (go_at_call 106; (with_reducible refine HRec.out.mono ?_); intro e w1 hq; obtain ⟨rfl, hs1⟩ := HR1.out _ _ hq; have HS1 := hid hs1; obtain ⟨x0, x1, -, -⟩ := HC.out _ hs1; clear hs1 hq)
                      | (go_at_call 107; (with_reducible refine (HFit.out _).mono ?_); rintro e w2 ⟨rfl, hb2⟩; have hs2 := HS1.out.below hb2; obtain ⟨y0, y1, y2, y3⟩ := HC.out _ hs2; have HS2 := hid hs2; clear hs2))
                    go_quiet (fail)
                    have hs3 := HS2.out.below (drewN_below _ nq)
                    have HS3 := hid hs3
                    clear hs3
                    go_wp2_with (first
                      | (go_at_call 108; (with_reducible refine (HDead.out _ HS3.out).mono ?_); rintro e w4 ⟨rfl, rfl⟩)
                      | (go_at_call 109; (with_reducible refine (HRoom.out _ HS3.out).mono ?_); rintro e w5 ⟨rfl, hb5⟩; have hs5 := HS3.out.below hb5; obtain ⟨z0, z1, z2, z3⟩ := HC.out _ hs5; have HS5 := hid hs5; clear hs5))
                    go_quiet (fail)
                    have hs6 := HS5.out.below (drewN_below _ nq)
                    have HS6 := hid hs6
                    clear hs6
                    go_wp2_with (first
                      | (go_at_call 76; (with_reducible refine (HHr.out _ HS6.out).mono ?_); rintro e w7 ⟨rfl, hb7⟩; have hs7 := HS6.out.below hb7; obtain ⟨t0, t1, t2_, t3⟩ := HC.out _ hs7; have HS6 := hid hs7; clear hs7)
                      | (go_at_call 74; (with_reducible refine (HWr.out _ HS6.out).mono ?_); rintro e w8 ⟨rfl, hq8⟩; have HQ8 := hid hq8; clear hq8; obtain ⟨f0, f1, f2, f3, f4, f5⟩ := HStore.out _ _ HS6.out HQ8.out))
                    go_loopw [79] (PutRel w T p a s s' g hh B0 l) (fun i _ => l.length - (intOf i).toNat)
                    case atStart => exact HLoop.out _ _ HS6.out HQ8.out
                    case round =>
                      obtain ⟨wb, k, hk, rfl, hsb, hrun⟩ := hrel
                      have HSb := hid hsb
                      have HRun := hid hrun
                      clear hrun hsb
                      by_cases hlt : k < l.length
                      · obtain ⟨g0, o0, rfl, d0, d1, d2, d3, hput⟩ := HRound.out wb wr k hlt HSb.out HRun.out
                        have HPut := hid hput
                        clear hput
                        generalize l[k].idx = y0 at *
                        generalize l[k].term = y1 at *
                        generalize l[k].kind = y2 at *
                        generalize mk l[k].data = y3 at *
                        have hb := own.new wr #[.int .i64 y0, .int .i64 y1, .int .i64 y2, .string y3] 95
                        have e0 := (hb.cell 0).trans rfl
                        have e1 := (hb.cell 1).trans rfl
                        have e2 := (hb.cell 2).trans rfl
                        have e3 := (hb.cell 3).trans rfl
                        clear hb
                        have hbd : Below wr.heap.size wr (wr.alloc (.cells #[.int .i64 y0, .int .i64 y1, .int .i64 y2, .string y3] 95)).drew := ((Below.refl _ wr).alloc (Nat.le_refl _) _).drew
                        have HP9 := hid (HPut.out _ hbd)
                        clear hbd
                        go_wp2
                        go_region_with (go_at_call 110; (with_reducible refine HP9.out.mono ?_); rintro e w9 ⟨rfl, hr9⟩; have HR9 := hid hr9; clear hr9)
                        all_goals
                          go_wp2
                          go_roundw
                          case rel => exact HR9.out
                          case measure => simp [intOf]; omega
                      · obtain rfl : k = l.length := by omega
                        have HEnd := hid (HDone.out wb wr HSb.out HRun.out)
                        go_wp2
                        go_ret
                        exact HEnd.out
            · rw [if_neg hkw] at HSv
              have hr := HSv.out
              subst hr
              have HFin := hid (fun wx wy (hx : SaveAt w T p a s g hh B0 wx) (hq : LgRun wx T p a s' g wy) => (show SavePost w T p a (s', g, kw) (.returned (.int .i64 kw)) wy from ⟨rfl, hq.rebase hx.from_ HT.out⟩))
              clear HSv
              by_cases hz : z = 0
              · have hz1 : ((z : Int) == 0) = true := by rw [hz]; rfl
                have happ := HHard.out (.inl hz)
                rcases hgd with hq1 | ⟨hq1, hnn⟩
                rotate_left
                rcases hcase with ⟨rfl, rfl, he⟩ | ⟨hc1, -⟩ | ⟨rfl, hc2, -⟩
                · exact absurd he.out hnn
                all_goals
                  try clear hnn
                  try clear hcase
                  clear hz HE HHard HNo
                  generalize mk (rcL (.hard hh)) = HB at *
                  generalize mk (entRecs l) = EB at *
                  generalize mk D = DB at *
                  go_enter Tryz.func48, Tryz.ntmps48
                  go_wp2_with (first
                    | (go_at_call 106; (with_reducible refine HRec.out.mono ?_); intro e w1 hq; obtain ⟨rfl, hs1⟩ := HR1.out _ _ hq; have HS1 := hid hs1; obtain ⟨x0, x1, -, -⟩ := HC.out _ hs1; clear hs1 hq)
                    | (go_at_call 107; (with_reducible refine (HFit.out _).mono ?_); rintro e w2 ⟨rfl, hb2⟩; have hs2 := HS1.out.below hb2; obtain ⟨y0, y1, y2, y3⟩ := HC.out _ hs2; have HS2 := hid hs2; clear hs2))
                  go_quiet (fail)
                  have hs3 := HS2.out.below (drewN_below _ nq)
                  have HS3 := hid hs3
                  clear hs3
                  go_wp2_with (first
                    | (go_at_call 108; (with_reducible refine (HDead.out _ HS3.out).mono ?_); rintro e w4 ⟨rfl, rfl⟩)
                    | (go_at_call 109; (with_reducible refine (HRoom.out _ HS3.out).mono ?_); rintro e w5 ⟨rfl, hb5⟩; have hs5 := HS3.out.below hb5; obtain ⟨z0, z1, z2, z3⟩ := HC.out _ hs5; have HS5 := hid hs5; clear hs5))
                  go_quiet (fail)
                  have hs6 := HS5.out.below (drewN_below _ nq)
                  have HS6 := hid hs6
                  clear hs6
                  go_wp2_with (first
                    | (go_at_call 76; (with_reducible refine (HHr.out _ HS6.out).mono ?_); rintro e w7 ⟨rfl, hb7⟩; have hs7 := HS6.out.below hb7; obtain ⟨t0, t1, t2_, t3⟩ := HC.out _ hs7; have HS6 := hid hs7; clear hs7)
                    | (go_at_call 74; (with_reducible refine (HWr.out _ HS6.out).mono ?_); rintro e w8 ⟨rfl, hq8⟩; have HQ8 := hid hq8; clear hq8; have HF8 := hid (HFin.out _ _ HS6.out HQ8.out)))
                  go_ret
                  exact HF8.out
              · have hz1 : ((z : Int) == 0) = false := beq_eq_false_iff_ne.2 (by omega)
                rcases hcase with ⟨rfl, rfl, he⟩ | ⟨hc1, hne⟩ | ⟨rfl, hc2, hne⟩
                · rcases hgd with hq1 | ⟨-, hnn⟩
                  rotate_left
                  · exact absurd he.out hnn
                  have hno := HNo.out hz he.out
                  rw [← hno] at HWr
                  clear hno he HE HHard HNo hz
                  generalize mk (entRecs l) = EB at *
                  go_enter Tryz.func48, Tryz.ntmps48
                  go_wp2_with (first
                    | (go_at_call 106; (with_reducible refine HRec.out.mono ?_); intro e w1 hq; obtain ⟨rfl, hs1⟩ := HR1.out _ _ hq; have HS1 := hid hs1; obtain ⟨x0, x1, -, -⟩ := HC.out _ hs1; clear hs1 hq)
                    | (go_at_call 107; (with_reducible refine (HFit.out _).mono ?_); rintro e w2 ⟨rfl, hb2⟩; have hs2 := HS1.out.below hb2; obtain ⟨y0, y1, y2, y3⟩ := HC.out _ hs2; have HS2 := hid hs2; clear hs2))
                  go_quiet (fail)
                  have hs3 := HS2.out.below (drewN_below _ nq)
                  have HS3 := hid hs3
                  clear hs3
                  go_wp2_with (first
                    | (go_at_call 108; (with_reducible refine (HDead.out _ HS3.out).mono ?_); rintro e w4 ⟨rfl, rfl⟩)
                    | (go_at_call 109; (with_reducible refine (HRoom.out _ HS3.out).mono ?_); rintro e w5 ⟨rfl, hb5⟩; have hs5 := HS3.out.below hb5; obtain ⟨z0, z1, z2, z3⟩ := HC.out _ hs5; have HS5 := hid hs5; clear hs5))
                  go_quiet (fail)
                  have hs6 := HS5.out.below (drewN_below _ nq)
                  have HS6 := hid hs6
                  clear hs6
                  go_wp2_with (first
                    | (go_at_call 76; (with_reducible refine (HHr.out _ HS6.out).mono ?_); rintro e w7 ⟨rfl, hb7⟩; have hs7 := HS6.out.below hb7; obtain ⟨t0, t1, t2_, t3⟩ := HC.out _ hs7; have HS6 := hid hs7; clear hs7)
                    | (go_at_call 74; (with_reducible refine (HWr.out _ HS6.out).mono ?_); rintro e w8 ⟨rfl, hq8⟩; have HQ8 := hid hq8; clear hq8; have HF8 := hid (HFin.out _ _ HS6.out HQ8.out)))
                  go_ret
                  exact HF8.out
                all_goals
                  have happ := HHard.out (.inr hne.out)
                  clear hz hne HE HHard HNo
                  generalize mk (rcL (.hard hh)) = HB at *
                  generalize mk (entRecs l) = EB at *
                  generalize mk D = DB at *
                  rcases hgd with hq1 | ⟨hq1, -⟩
                  all_goals
                    go_enter Tryz.func48, Tryz.ntmps48
                    go_wp2_with (first
                      | (go_at_call 106; (with_reducible refine HRec.out.mono ?_); intro e w1 hq; obtain ⟨rfl, hs1⟩ := HR1.out _ _ hq; have HS1 := hid hs1; obtain ⟨x0, x1, -, -⟩ := HC.out _ hs1; clear hs1 hq)
                      | (go_at_call 107; (with_reducible refine (HFit.out _).mono ?_); rintro e w2 ⟨rfl, hb2⟩; have hs2 := HS1.out.below hb2; obtain ⟨y0, y1, y2, y3⟩ := HC.out _ hs2; have HS2 := hid hs2; clear hs2))
                    go_quiet (fail)
                    have hs3 := HS2.out.below (drewN_below _ nq)
                    have HS3 := hid hs3
                    clear hs3
                    go_wp2_with (first
                      | (go_at_call 108; (with_reducible refine (HDead.out _ HS3.out).mono ?_); rintro e w4 ⟨rfl, rfl⟩)
                      | (go_at_call 109; (with_reducible refine (HRoom.out _ HS3.out).mono ?_); rintro e w5 ⟨rfl, hb5⟩; have hs5 := HS3.out.below hb5; obtain ⟨z0, z1, z2, z3⟩ := HC.out _ hs5; have HS5 := hid hs5; clear hs5))
                    go_quiet (fail)
                    have hs6 := HS5.out.below (drewN_below _ nq)
                    have HS6 := hid hs6
                    clear hs6
                    go_wp2_with (first
                      | (go_at_call 76; (with_reducible refine (HHr.out _ HS6.out).mono ?_); rintro e w7 ⟨rfl, hb7⟩; have hs7 := HS6.out.below hb7; obtain ⟨t0, t1, t2_, t3⟩ := HC.out _ hs7; have HS6 := hid hs7; clear hs7)
                      | (go_at_call 74; (with_reducible refine (HWr.out _ HS6.out).mono ?_); rintro e w8 ⟨rfl, hq8⟩; have HQ8 := hid hq8; clear hq8; have HF8 := hid (HFin.out _ _ HS6.out HQ8.out)))
                    go_ret
                    exact HF8.out
          · have hr : r = (s, g, k) := by rw [HSv.out, if_pos hk]
            subst hr
            clear HSv hall hfit HE hrm
            rcases hgd with hq1 | ⟨hq1, hnn⟩
            rotate_left
            rcases hcase with ⟨rfl, rfl, he⟩ | ⟨hc1, -⟩ | ⟨rfl, hc2, -⟩
            · exact absurd he.out hnn
            all_goals
              try clear hnn
              try clear hcase
              go_enter Tryz.func48, Tryz.ntmps48
              go_wp2_with (first
                | (go_at_call 106; (with_reducible refine HRec.out.mono ?_); intro e w1 hq; obtain ⟨rfl, hs1⟩ := HR1.out _ _ hq; have HS1 := hid hs1; obtain ⟨x0, x1, -, -⟩ := HC.out _ hs1; clear hs1 hq)
                | (go_at_call 107; (with_reducible refine (HFit.out _).mono ?_); rintro e w2 ⟨rfl, hb2⟩; have hs2 := HS1.out.below hb2; obtain ⟨y0, y1, y2, y3⟩ := HC.out _ hs2; have HS2 := hid hs2; clear hs2))
              go_quiet (fail)
              have hs3 := HS2.out.below (drewN_below _ nq)
              have HS3 := hid hs3
              clear hs3
              go_wp2_with (first
                | (go_at_call 108; (with_reducible refine (HDead.out _ HS3.out).mono ?_); rintro e w4 ⟨rfl, rfl⟩)
                | (go_at_call 109; (with_reducible refine (HRoom.out _ HS3.out).mono ?_); rintro e w5 ⟨rfl, hb5⟩; have hs5 := HS3.out.below hb5; obtain ⟨z0, z1, z2, z3⟩ := HC.out _ hs5; have HS5 := hid hs5; clear hs5))
              go_ret
              exact HS5.out.post HT.out _
end Go.Proofs.YtbidglefddmjhaaGreatDoor

