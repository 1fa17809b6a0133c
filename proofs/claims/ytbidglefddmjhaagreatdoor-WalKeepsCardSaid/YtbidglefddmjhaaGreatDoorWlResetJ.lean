import Derived.Test.YtbidglefddmjhaaGreatDoorWlSaveJ
import Derived.Test.YtbidglefddmjhaaGreatDoorMq1J
/-
  LAYER 3 (wal): Hard, Entries, Reset.
-/
namespace Go.Proofs.YtbidglefddmjhaaGreatDoor
open Go.RowKit Go.Maps
set_option linter.unusedVariables false
set_option maxRecDepth 100000

def CloneEPost (w : World) (L : List En) (e : Ending) (w' : World) : Prop := ∃ v', e = .returned v' ∧ EntRow w' w.heap.size v' L ∧ Below w.heap.size w w'
set_option maxHeartbeats 4000000 in
theorem cloneE_any {w : World} {B : Nat} {v : Value} {L : List En} (h : EntRow w B v L) (hL : L.length ≤ 100000) :
    Calls Tryz.prog 63 #[v] w (CloneEPost w L) := by
  have h' := h
  rcases h.2 with ⟨hv, hz⟩ | ⟨g, cap, cur, rfl, hB, hg, hnc, hcm, hcs, htake⟩
  · have hl0 : L = [] := List.length_eq_zero_iff.1 hz
    subst hv hl0
    have hfin : CloneEPost w [] (.returned (.slice none 0 0)) w := ⟨_, rfl, EntRow.none _ _, Below.refl _ _⟩
    have HF := hid hfin
    clear hfin h h' hz
    go_enter Tryz.func63, Tryz.ntmps63
    have hq : ∀ wx, Sem.run Tryz.prog (binOp .eql 52 (.slice none 0 0) (.slice none 0 0)) wx = .ok (.bool true) wx := fun wx => by rfl
    go_wp2
    go_ret
    exact HF.out
  · obtain ⟨i0, hi, hz0, hz1, hz2⟩ := infoEntry_parts
    have hglt := (Array.getElem?_eq_some_iff.1 hg).1
    have hnew : (w.alloc (.cells #[] 95)).ownsRow w.heap.size 95 4 (.slice (some ⟨w.heap.size, 0, none⟩) 0 0) 0 [] :=
      ⟨rfl, .inr ⟨w.heap.size, 0, #[], rfl, Nat.le_refl _, heap_alloc_new w _, Nat.le_refl _, Nat.zero_le _, rfl, rfl⟩⟩
    have hcells : ∀ j u, (flatE L)[j]? = some u → (w.alloc (.cells #[] 95)).cell? ((⟨g, 0, none⟩ : Addr).add j) = some u := fun j u hj => by
      have h1 := World.ownsRow.cells h' (g := g) rfl j u hj
      exact (Below.cell (Below.alloc (Below.refl w.heap.size w) (Nat.le_refl _) _) (p := (⟨g, 0, none⟩ : Addr).add j) (by unfold Addr.add; split <;> exact hglt)).trans h1
    obtain ⟨v', w', hrun, hrow, hgr, _, hat⟩ := run_append_own_at (P := Tryz.prog) (w.alloc (.cells #[] 95)) w.heap.size 52 52 95 i0 _ 4 40 Tryz.underlying52 hi hz0 hz1 hz2 rfl (by omega) _ 0 [] hnew ⟨g, 0, none⟩ L.length cap (flatE L) (by rw [flatE_length]) hcells (flatE_one L) (by unfold maxLen; omega) (by omega) (by simp)
    have hE : EntRow w' w.heap.size v' L := by
      have := hrow
      simp only [Nat.zero_add, List.nil_append] at this
      exact this
    have hb : Below w.heap.size w w' := ((Below.refl _ w).alloc (Nat.le_refl _) _).grown hgr (by simp) (fun k hk => by cases hk; exact Nat.le_refl _)
    have hfin : CloneEPost w L (.returned v') w' := ⟨v', rfl, hE, hb⟩
    obtain ⟨ao', cap', rfl, -, -⟩ := hE.slice
    have HF := hid hfin
    clear hfin h h' hnew hcells hE hb hrow hgr hat htake hcs hnc hB hg hcm
    have hq : ∀ wx, Sem.run Tryz.prog (binOp .eql 52 (.slice (some ⟨g, 0, none⟩) L.length cap) (.slice none 0 0)) wx = .ok (.bool false) wx := fun wx => by rfl
    go_enter Tryz.func63, Tryz.ntmps63
    go_wp2_with (at_builtin; refine wpList_append_run rfl _ _ 52 52 rfl _ _ rfl rfl _ w' hrun ?_)
    go_ret
    exact HF.out

def HardPost (w : World) (g : Lg) (e : Ending) (w' : World) : Prop := e = .returned (.agg #[.int .i64 g.hd.term, .int .i64 g.hd.vote]) ∧ Below w.heap.size w w'
theorem hard_any {w : World} {T : Nat → Prop} {p a : Nat} {s : Dk} {g : Lg} (h : LogAt w T p a s g) : Calls Tryz.prog 20 #[.pointer (some ⟨p, 0, none⟩)] w (HardPost w g) := by
  obtain ⟨_, c1, c2, _⟩ := h.cells
  have hfin : ∀ w', Below w.heap.size w w' → HardPost w g (.returned (.agg #[.int .i64 g.hd.term, .int .i64 g.hd.vote])) w' := fun w' hb => ⟨rfl, hb⟩
  have HF := hid hfin
  have hp := h.ptr
  have hb : ∀ o, Below w.heap.size w (w.alloc o) := fun o => (Below.refl _ _).alloc (Nat.le_refl _) _
  have d1 : ∀ o, (w.alloc o).cell? ⟨p, 1, none⟩ = some (.int .i64 g.hd.term) := fun o => ((hb o).cell (p := ⟨p, 1, none⟩) hp).trans c1
  have d2 : ∀ o, (w.alloc o).cell? ⟨p, 2, none⟩ = some (.int .i64 g.hd.vote) := fun o => ((hb o).cell (p := ⟨p, 2, none⟩) hp).trans c2
  clear hfin h hb
  generalize g.hd.term = t at *
  generalize g.hd.vote = v at *
  go_enter Tryz.func20, Tryz.ntmps20
  go_wp2
  exact bodyPost_ret (v := .agg #[.int .i64 t, .int .i64 v]) (by simp [results, Tryz.results20, go_sem]) rfl (HF.out _ ((Below.refl _ _).alloc (Nat.le_refl _) _))
theorem entries_any {w : World} {T : Nat → Prop} {p a : Nat} {s : Dk} {g : Lg} (h : LogAt w T p a s g) : Calls Tryz.prog 22 #[.pointer (some ⟨p, 0, none⟩)] w (CloneEPost w g.L) := by
  have hl := h.len
  obtain ⟨⟨S, v, h1, h2, h3⟩, _⟩ := h
  have c3 := h2.head.cell 3
  simp at c3
  have HC := hid (cloneE_any h2.row hl)
  obtain ⟨ao, cap, rfl, -, -⟩ := h2.row.slice
  clear h1 h2 h3
  go_enter Tryz.func22, Tryz.ntmps22
  go_wp2_with (go_at_call 63; (with_reducible refine HC.out.mono ?_); rintro e w1 ⟨v1, rfl, hv1, hb1⟩; have HV1 := hid (show CloneEPost w g.L (.returned v1) w1 from ⟨v1, rfl, hv1, hb1⟩); obtain ⟨ao1, cap1, rfl, -, -⟩ := hv1.slice; clear hv1)
  go_ret
  exact HV1.out

/-- What Reset finds ahead of the write. -/
structure RsAt (w : World) (T : Nat → Prop) (p a : Nat) (s : Dk) (g : Lg) (B0 : Nat) (wx : World) : Prop where
  log : LogAt wx T p a s g
  from_ : Below w.heap.size w wx
  glob : Glob wx B0
  size : B0 ≤ wx.heap.size
theorem RsAt.below {w : World} {T : Nat → Prop} {p a : Nat} {s : Dk} {g : Lg} {B0 : Nat} {wx wy : World} (h : RsAt w T p a s g B0 wx) (hb : Below wx.heap.size wx wy) : RsAt w T p a s g B0 wy := by
  have hz := hb.size
  exact ⟨h.log.below hb, h.from_.trans (hb.mono h.from_.size), h.glob.below hb h.size, by have := h.size; omega⟩
theorem RsAt.post {w : World} {T : Nat → Prop} {p a : Nat} {s : Dk} {g : Lg} {B0 : Nat} {wx : World} (h : RsAt w T p a s g B0 wx) (hT : ∀ b, T b → b < w.heap.size) (k : Int) : SavePost w T p a (s, g, k) (.returned (.int .i64 k)) wx := ⟨rfl, h.log.run.rebase h.from_ hT⟩
set_option maxHeartbeats 8000000 in
theorem reset_any {w : World} {T : Nat → Prop} {p a : Nat} {s : Dk} {g : Lg} {B0 : Nat} (h : LogAt w T p a s g) (hg : Glob w B0) (hB0 : B0 ≤ w.heap.size) :
    Calls Tryz.prog 50 #[.pointer (some ⟨p, 0, none⟩)] w (SavePost w T p a (resetL s g)) := by
  have hR0 : RsAt w T p a s g B0 w := ⟨h, Below.refl _ _, hg, hB0⟩
  have HR0 := hid hR0
  have HDead := hid (fun wx (hx : RsAt w T p a s g B0 wx) => (hx.log.run.reads fun S h1 h2 => walDead_any h1 h2 : Calls Tryz.prog 108 #[.pointer (some ⟨p, 0, none⟩)] wx fun e w' => e = .returned (.bool s.dead) ∧ wx = w'))
  have HLast := hid (fun wx (hx : RsAt w T p a s g B0 wx) => (hx.log.run.reads fun S h1 h2 => last_any h1 h2 hx.glob hx.size : Calls Tryz.prog 111 #[.pointer (some ⟨p, 0, none⟩)] wx (LastPost wx (lastL s))))
  have HHr := hid (fun wx (hx : RsAt w T p a s g B0 wx) => hardRec_any g.hd wx hx.glob hx.size h.ok.hd.2.1 h.ok.hd.2.2)
  have HRr := hid (fun wx (hx : RsAt w T p a s g B0 wx) => resetRec_any wx hx.glob hx.size)
  have HC := hid (fun wx (hx : RsAt w T p a s g B0 wx) => (show wx.cell? ⟨p, 1, none⟩ = some (.int .i64 g.hd.term) ∧ wx.cell? ⟨p, 2, none⟩ = some (.int .i64 g.hd.vote) from ⟨hx.log.cells.2.1, hx.log.cells.2.2.1⟩))
  have HT := hid h.lt
  have hrn := lastL_len h.run.disk
  have hs1 : (mk (rcL (.hard g.hd))).size ≤ 100 := by
    rw [mk_size]
    have := encs_length [1, g.hd.term, g.hd.vote] (by intro m hm; simp at hm; rcases hm with rfl | rfl | rfl; exact ⟨by omega, by omega⟩; exact h.ok.hd.2.1; exact h.ok.hd.2.2)
    unfold rcL
    rw [frameL_length]
    simp only [payL]
    simp at this
    omega
  have hs2 : (mk (rcL .reset)).size ≤ 100 := by
    rw [mk_size]
    have := encs_length [3] (by intro m hm; simp at hm; subst hm; exact ⟨by omega, by omega⟩)
    unfold rcL
    rw [frameL_length]
    simp only [payL]
    simp at this
    omega
  have hsv : resetL s g = if s.dead then (s, g, 7) else if (lastL s).2.2 ≠ 0 then (s, g, (lastL s).2.2) else laid s g ⟨g.hd, []⟩ (lastL s).1 ((if (lastL s).2.1 = 0 then rcL (.hard g.hd) else []) ++ rcL .reset) := rfl
  have HSv := hid hsv
  clear hsv hR0 h hg
  generalize resetL s g = r at *
  cases hdead : s.dead with
  | true =>
    have hr : r = (s, g, 7) := by rw [HSv.out, if_pos hdead]
    subst hr
    rw [hdead] at HDead
    clear HSv hdead
    go_enter Tryz.func50, Tryz.ntmps50
    go_wp2_with (go_at_call 108; (with_reducible refine (HDead.out _ HR0.out).mono ?_); rintro e w4 ⟨rfl, rfl⟩)
    go_ret
    exact HR0.out.post HT.out _
  | false =>
    rw [hdead] at HDead
    rw [hdead, if_neg (by simp)] at HSv
    clear hdead
    generalize lastL s = rm at *
    obtain ⟨n, z, k⟩ := rm
    simp only at HSv hrn
    unfold LastPost at HLast
    simp only at HLast
    by_cases hk : k = 0
    · subst hk
      rw [if_neg (by simp)] at HSv
      have hdl : (mk ((if z = 0 then rcL (.hard g.hd) else []) ++ rcL .reset)).size ≤ 1000 := by
        rw [← mk_append, ByteArray.size_append]
        split
        · omega
        · rw [mk_size]; simp; omega
      have HWr := hid (fun wx (hx : RsAt w T p a s g B0 wx) => hx.log.run.write (fun b hb => by have := HT.out b hb; have := hx.from_.size; omega) (mk n) (mk ((if z = 0 then rcL (.hard g.hd) else []) ++ rcL .reset)) (by rw [mk_size]; unfold maxLen; omega) (by omega))
      rw [mk_data, mk_data] at HWr
      unfold laid at HSv
      have HHard : Hid (z = 0 → mk (rcL (.hard g.hd)) ++ mk (rcL .reset) = mk ((if z = 0 then rcL (.hard g.hd) else []) ++ rcL .reset)) := hid (fun h => by rw [mk_append, if_pos h])
      have HNo : Hid (¬ z = 0 → mk (rcL .reset) = mk ((if z = 0 then rcL (.hard g.hd) else []) ++ rcL .reset)) := hid (fun h => by rw [if_neg h]; rfl)
      generalize ((if z = 0 then rcL (.hard g.hd) else []) ++ rcL .reset) = D at *
      generalize wrL s n D = rw_ at *
      obtain ⟨s', kw⟩ := rw_
      simp only at HSv HWr
      have HEmp := hid (fun wx wy (hx : RsAt w T p a s g B0 wx) (hq : LgRun wx T p a s' g wy) => (show wy.cell? ⟨p, 3, none⟩ ≠ none ∧ wy.frozen? ⟨p, 3, none⟩ = false ∧ SavePost w T p a (s', ⟨g.hd, []⟩, 0) (.returned (.int .i64 0)) (wy.setCell ⟨p, 3, none⟩ (.slice none 0 0)) from by
        refine ⟨?_, (hq.1.cells.2.2.2) 3, rfl, (hq.empty (fun b hb => by have := HT.out b hb; have := hx.from_.size; omega)).rebase hx.from_ HT.out⟩
        obtain ⟨⟨S, v, h1, h2, _⟩, _⟩ := hq.1
        rw [h2.head.cell 3]
        simp))
      by_cases hkw : kw = 0
      · subst hkw
        rw [if_pos rfl] at HSv
        have hr := HSv.out
        subst hr
        clear HSv
        by_cases hz : z = 0
        · have hz1 : ((z : Int) == 0) = true := by rw [hz]; rfl
          have happ := HHard.out hz
          clear HHard HNo hz
          generalize mk (rcL (.hard g.hd)) = HB at *
          generalize mk (rcL .reset) = RB at *
          generalize mk D = DB at *
          go_enter Tryz.func50, Tryz.ntmps50
          go_wp2_with (first
            | (go_at_call 108; (with_reducible refine (HDead.out _ HR0.out).mono ?_); rintro e w4 ⟨rfl, rfl⟩)
            | (go_at_call 111; (with_reducible refine (HLast.out _ HR0.out).mono ?_); rintro e w5 ⟨rfl, hb5⟩; have HS5 := hid (HR0.out.below hb5))
            | (go_at_call 112; (with_reducible refine (HRr.out _ HS5.out).mono ?_); rintro e w6 ⟨rfl, hb6⟩; have HS6 := hid (HS5.out.below hb6); obtain ⟨x1, x2⟩ := HC.out _ HS6.out)
            | (go_at_call 76; (with_reducible refine (HHr.out _ HS6.out).mono ?_); rintro e w7 ⟨rfl, hb7⟩; have HS7 := hid (HS6.out.below hb7))
            | (go_at_call 74; (with_reducible refine (HWr.out _ HS7.out).mono ?_); rintro e w8 ⟨rfl, hq8⟩; obtain ⟨hc8, hf8, hp8⟩ := HEmp.out _ _ HS7.out hq8; have HP8 := hid hp8; clear hq8 hp8; obtain ⟨v8, hv8⟩ := Option.ne_none_iff_exists'.1 hc8; clear hc8))
          go_ret
          exact HP8.out
        · have hz1 : ((z : Int) == 0) = false := beq_eq_false_iff_ne.2 (by omega)
          have hno := HNo.out hz
          rw [← hno] at HWr
          clear HHard HNo hz hno
          generalize mk (rcL .reset) = RB at *
          go_enter Tryz.func50, Tryz.ntmps50
          go_wp2_with (first
            | (go_at_call 108; (with_reducible refine (HDead.out _ HR0.out).mono ?_); rintro e w4 ⟨rfl, rfl⟩)
            | (go_at_call 111; (with_reducible refine (HLast.out _ HR0.out).mono ?_); rintro e w5 ⟨rfl, hb5⟩; have HS5 := hid (HR0.out.below hb5))
            | (go_at_call 112; (with_reducible refine (HRr.out _ HS5.out).mono ?_); rintro e w6 ⟨rfl, hb6⟩; have HS6 := hid (HS5.out.below hb6); obtain ⟨x1, x2⟩ := HC.out _ HS6.out)
            | (go_at_call 74; (with_reducible refine (HWr.out _ HS6.out).mono ?_); rintro e w8 ⟨rfl, hq8⟩; obtain ⟨hc8, hf8, hp8⟩ := HEmp.out _ _ HS6.out hq8; have HP8 := hid hp8; clear hq8 hp8; obtain ⟨v8, hv8⟩ := Option.ne_none_iff_exists'.1 hc8; clear hc8))
          go_ret
          exact HP8.out
      · rw [if_neg hkw] at HSv
        have hr := HSv.out
        subst hr
        have HFin := hid (fun wx wy (hx : RsAt w T p a s g B0 wx) (hq : LgRun wx T p a s' g wy) => (show SavePost w T p a (s', g, kw) (.returned (.int .i64 kw)) wy from ⟨rfl, hq.rebase hx.from_ HT.out⟩))
        clear HSv
        by_cases hz : z = 0
        · have hz1 : ((z : Int) == 0) = true := by rw [hz]; rfl
          have happ := HHard.out hz
          clear HHard HNo hz
          generalize mk (rcL (.hard g.hd)) = HB at *
          generalize mk (rcL .reset) = RB at *
          generalize mk D = DB at *
          go_enter Tryz.func50, Tryz.ntmps50
          go_wp2_with (first
            | (go_at_call 108; (with_reducible refine (HDead.out _ HR0.out).mono ?_); rintro e w4 ⟨rfl, rfl⟩)
            | (go_at_call 111; (with_reducible refine (HLast.out _ HR0.out).mono ?_); rintro e w5 ⟨rfl, hb5⟩; have HS5 := hid (HR0.out.below hb5))
            | (go_at_call 112; (with_reducible refine (HRr.out _ HS5.out).mono ?_); rintro e w6 ⟨rfl, hb6⟩; have HS6 := hid (HS5.out.below hb6); obtain ⟨x1, x2⟩ := HC.out _ HS6.out)
            | (go_at_call 76; (with_reducible refine (HHr.out _ HS6.out).mono ?_); rintro e w7 ⟨rfl, hb7⟩; have HS7 := hid (HS6.out.below hb7))
            | (go_at_call 74; (with_reducible refine (HWr.out _ HS7.out).mono ?_); rintro e w8 ⟨rfl, hq8⟩; have HP8 := hid (HFin.out _ _ HS7.out hq8); clear hq8))
          go_ret
          exact HP8.out
        · have hz1 : ((z : Int) == 0) = false := beq_eq_false_iff_ne.2 (by omega)
          have hno := HNo.out hz
          rw [← hno] at HWr
          clear HHard HNo hz hno
          generalize mk (rcL .reset) = RB at *
          go_enter Tryz.func50, Tryz.ntmps50
          go_wp2_with (first
            | (go_at_call 108; (with_reducible refine (HDead.out _ HR0.out).mono ?_); rintro e w4 ⟨rfl, rfl⟩)
            | (go_at_call 111; (with_reducible refine (HLast.out _ HR0.out).mono ?_); rintro e w5 ⟨rfl, hb5⟩; have HS5 := hid (HR0.out.below hb5))
            | (go_at_call 112; (with_reducible refine (HRr.out _ HS5.out).mono ?_); rintro e w6 ⟨rfl, hb6⟩; have HS6 := hid (HS5.out.below hb6); obtain ⟨x1, x2⟩ := HC.out _ HS6.out)
            | (go_at_call 74; (with_reducible refine (HWr.out _ HS6.out).mono ?_); rintro e w8 ⟨rfl, hq8⟩; have HP8 := hid (HFin.out _ _ HS6.out hq8); clear hq8))
          go_ret
          exact HP8.out
    · have hr : r = (s, g, k) := by rw [HSv.out, if_pos hk]
      subst hr
      clear HSv
      go_enter Tryz.func50, Tryz.ntmps50
      go_wp2_with (first
        | (go_at_call 108; (with_reducible refine (HDead.out _ HR0.out).mono ?_); rintro e w4 ⟨rfl, rfl⟩)
        | (go_at_call 111; (with_reducible refine (HLast.out _ HR0.out).mono ?_); rintro e w5 ⟨rfl, hb5⟩; have HS5 := hid (HR0.out.below hb5)))
      go_ret
      exact HS5.out.post HT.out _
end Go.Proofs.YtbidglefddmjhaaGreatDoor

