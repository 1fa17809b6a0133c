import Derived.Test.YtgchdlfoehlomaaGreatDoorWlAgMJ
import Derived.Test.YtgchdlfoehlomaaGreatDoorWlNeedJ
import Derived.Test.YtgchdlfoehlomaaGreatDoorWlLoadJ
import Derived.Test.YtgchdlfoehlomaaGreatDoorWlNeededJ
import Derived.Test.YtgchdlfoehlomaaGreatDoorWlLogJ
import Derived.Test.YtgchdlfoehlomaaGreatDoorWlSameJ
import Derived.Test.YtgchdlfoehlomaaGreatDoorWlAgainAJ
/-
  LAYER 3 (wal), plain mathematics: what a log is, once its first segments are gone.
-/
namespace Go.Proofs.YtgchdlfoehlomaaGreatDoor
open Go.RowKit
set_option linter.unusedVariables false
set_option maxRecDepth 100000

/-- Of the entries X, those of Y are the end; the others have an index of at most i. -/
def TailE (i : Int) (X Y : List En) : Prop := ∃ A, X = A ++ Y ∧ ∀ e ∈ A, e.idx ≤ i
theorem TailE.put {i : Int} {X Y : List En} (h : TailE i X Y) (hc : Consec X) (e : En) : TailE i (putE X e) (putE Y e) := by
  obtain ⟨A, rfl, hA⟩ := h
  by_cases hY : Y = []
  · subst hY
    refine ⟨(A ++ []).take (aheadE (A ++ []) e.idx), ?_, fun x hx => hA x (by have := List.mem_of_mem_take hx; simpa using this)⟩
    unfold putE
    rw [List.take_nil, List.nil_append]
  · have hX : A ++ Y ≠ [] := by simp [hY]
    have hlast : lastI (A ++ Y) = lastI Y := by
      obtain ⟨y, hy⟩ : ∃ y, Y.getLast? = some y := by
        cases hq : Y.getLast? with
        | none => exact absurd (List.getLast?_eq_none_iff.1 hq) hY
        | some y => exact ⟨y, rfl⟩
      unfold lastI
      rw [List.getLast?_append, hy]
      rfl
    have hpos := List.length_pos_iff.2 hY
    have hfirst : firstI Y = firstI (A ++ Y) + (A.length : Int) := by
      have h1 := hc A.length (by rw [List.length_append]; omega)
      rw [List.getElem_append_right (Nat.le_refl _)] at h1
      simp only [Nat.sub_self] at h1
      rw [← h1]
      cases Y with
      | nil => exact absurd rfl hY
      | cons y r => rfl
    by_cases c1 : IntKind.i64.wrap (lastI Y + 1) < e.idx
    · have k1 : aheadE (A ++ Y) e.idx = 0 := by unfold aheadE; exact if_pos (.inr (.inl (by rw [hlast]; exact c1)))
      have k2 : aheadE Y e.idx = 0 := by unfold aheadE; exact if_pos (.inr (.inl c1))
      refine ⟨[], ?_, by simp⟩
      unfold putE
      rw [k1, k2]
      rfl
    · by_cases c2 : e.idx < firstI Y
      · have k2 : aheadE Y e.idx = 0 := by unfold aheadE; exact if_pos (.inr (.inr c2))
        have hle : aheadE (A ++ Y) e.idx ≤ A.length := by unfold aheadE; split <;> omega
        refine ⟨(A ++ Y).take (aheadE (A ++ Y) e.idx), ?_, fun x hx => ?_⟩
        · unfold putE
          rw [k2]
          rfl
        · rw [List.take_append_of_le_length hle] at hx
          exact hA x (List.mem_of_mem_take hx)
      · have hx : aheadE (A ++ Y) e.idx = A.length + aheadE Y e.idx := by
          unfold aheadE
          rw [if_neg (by rw [hlast]; rintro (h | h | h); exact hX h; exact c1 h; omega), if_neg (by rintro (h | h | h); exact hY h; exact c1 h; exact c2 h)]
          omega
        refine ⟨A, ?_, hA⟩
        unfold putE
        have ht : (A ++ Y).take (A.length + aheadE Y e.idx) = A ++ Y.take (aheadE Y e.idx) := by
          rw [List.take_append, List.take_of_length_le (by omega), Nat.add_sub_cancel_left]
        rw [hx, ht, List.append_assoc]
theorem TailE.run {i : Int} : ∀ (R : List Rc) (x y : Lg), TailE i x.L y.L → x.Ok → (∀ r ∈ R, r.Fits) → TailE i (takeRs x R).L (takeRs y R).L
  | [], _, _, h, _, _ => h
  | r :: R, x, y, h, ho, hf => by
    show TailE i (takeRs (takeR x r) R).L (takeRs (takeR y r) R).L
    refine TailE.run R _ _ ?_ (takeR_ok ho (hf r (by simp))) (fun q hq => hf q (by simp [hq]))
    cases r with
    | hard h' => exact h
    | entry e => exact h.put ho.row e
    | reset => exact ⟨[], rfl, by simp⟩
theorem TailE.keeps {i : Int} {X Y : List En} (h : TailE i X Y) {e : En} (he : e ∈ X) (hi : i < e.idx) : e ∈ Y := by
  obtain ⟨A, rfl, hA⟩ := h
  rcases List.mem_append.1 he with he | he
  · have := hA e he; omega
  · exact he
theorem TailE.sub {i : Int} {X Y : List En} (h : TailE i X Y) {e : En} (he : e ∈ Y) : e ∈ X := by
  obtain ⟨A, rfl, _⟩ := h
  exact List.mem_append.2 (.inr he)
theorem takeRs_small {i : Int} : ∀ (R : List Rc) (x : Lg), (∀ e ∈ x.L, e.idx ≤ i) → (∀ r ∈ R, isBig i r = false) → ∀ e ∈ (takeRs x R).L, e.idx ≤ i
  | [], _, h, _ => h
  | r :: R, x, h, hr => by
    show ∀ e ∈ (takeRs (takeR x r) R).L, e.idx ≤ i
    refine takeRs_small R _ (fun e he => ?_) (fun q hq => hr q (by simp [hq]))
    have hb := hr r (by simp)
    cases r with
    | hard h' => exact h e he
    | entry e' =>
      rcases putE_mem he with he | rfl
      · exact h e he
      · simpa [isBig] using hb
    | reset => simp [takeR] at he
theorem takeRs_hd : ∀ (R : List Rc) (x y : Lg), x.hd = y.hd → (takeRs x R).hd = (takeRs y R).hd
  | [], _, _, h => h
  | r :: R, x, y, h => by
    show (takeRs (takeR x r) R).hd = (takeRs (takeR y r) R).hd
    refine takeRs_hd R _ _ ?_
    cases r with
    | hard h' => rfl
    | entry e => exact h
    | reset => exact h
theorem cut_tail {i : Int} {P Q : List Rc} (hf : ∀ r ∈ P ++ Q, r.Fits) (hP : ∀ r ∈ P, isBig i r = false) : TailE i (takeRs g0 (P ++ Q)).L (takeRs g0 Q).L := by
  rw [takeRs_append]
  exact TailE.run Q _ _ ⟨(takeRs g0 P).L, by simp [g0], takeRs_small P g0 (by simp [g0]) hP⟩ (takeRs_ok g0_ok (fun r hr => hf r (by simp [hr]))) (fun r hr => hf r (by simp [hr]))
theorem cut_hd {P Q : List Rc} (hQ : ∃ h R, Q = .hard h :: R) : (takeRs g0 (P ++ Q)).hd = (takeRs g0 Q).hd := by
  obtain ⟨h, R, rfl⟩ := hQ
  rw [takeRs_append]
  exact takeRs_hd R _ _ rfl
/-- Each segment begins with a hard state. -/
def HeadInv (s : Dk) : Prop := ∀ n ∈ segsL s.L, ∃ h R, recs s n = .hard h :: R
theorem HeadInv.write {s : Dk} {g : Lg} (h : Good s) (hR : RecInv s g) (hH : HeadInv s) {n : List UInt8} (hn : isSeg n = true) {R : List Rc} (hf : ∀ r ∈ R, r.Fits ∧ (payL r).length ≤ 65536) (hnew : n ∉ segsL s.L → ∃ h R', R = .hard h :: R') (h0 : (wrL s n (rcsL R)).2 = 0) (hg' : Good (wrL s n (rcsL R)).1) : HeadInv (wrL s n (rcsL R)).1 := by
  have hwr := h.wr hn (rcsL R) h0
  obtain ⟨s', hs'⟩ : ∃ s', (wrL s n (rcsL R)).1 = s' := ⟨_, rfl⟩
  rw [hs'] at hwr hg' ⊢
  intro m hm
  have hmm := mem_segsL.1 hm
  rw [mem_fnd hg'.ok.rise, hwr] at hmm
  by_cases e : m = n
  · subst e
    have hdn : dat s' m = dat s m ++ rcsL R := by unfold dat; rw [hwr, if_pos rfl]; rfl
    by_cases hin : m ∈ segsL s.L
    · obtain ⟨a1, _⟩ := scanL_app (hR.whole m hin) hf
      obtain ⟨hh, R', hr⟩ := hH m hin
      refine ⟨hh, R' ++ R, ?_⟩
      unfold recs at hr ⊢
      rw [hdn, a1, hr]
      rfl
    · have hdat : dat s m = [] := by
        unfold dat
        cases hf : fndK AF.key m s.L with
        | none => rfl
        | some f =>
          exfalso
          refine hin (mem_segsL.2 ⟨hn, (mem_fnd h.ok.rise).2 ?_⟩)
          rw [hf]; rfl
      have hsc := scanL_app (a := []) (by rw [scanL_nil]) hf
      rw [List.nil_append, scanL_nil, List.nil_append] at hsc
      obtain ⟨hh, R', hr⟩ := hnew hin
      refine ⟨hh, R', ?_⟩
      unfold recs
      rw [hdn, hdat, List.nil_append, hsc.1, hr]
  · rw [if_neg e] at hmm
    have hin : m ∈ segsL s.L := mem_segsL.2 ⟨hmm.1, (mem_fnd h.ok.rise).2 hmm.2⟩
    obtain ⟨hh, R', hr⟩ := hH m hin
    refine ⟨hh, R', ?_⟩
    unfold recs dat at hr ⊢
    rw [hwr, if_neg e]
    exact hr
theorem last_in {s : Dk} (hs : segsL s.L ≠ []) : (lastL s).1 ∈ segsL s.L := List.mem_of_getLast? (lastL_some hs)
theorem room_new {s : Dk} (hs : segsL s.L ≠ []) (h : (roomL s).1 ∉ segsL s.L) : (roomL s).2.1 = 0 := by
  unfold roomL at h ⊢
  by_cases hf : fullL s
  · rw [if_pos hf] at h; exact absurd (last_in hs) h
  · rw [if_neg hf]
theorem HeadInv.save {s : Dk} {g : Lg} (h : Good s) (hR : RecInv s g) (hH : HeadInv s) (hg : g.Ok) (hd : Hd) (l : List En) (h1 : I64 hd.term ∧ I64 hd.vote) (h2 : ∀ e ∈ l, e.In ∧ e.data.length ≤ 60000) : HeadInv (saveL s g hd l).1 := by
  rcases h.save g hd l with ⟨e, _⟩ | ⟨e, _⟩ | ⟨e, _⟩ | ⟨e, hg', h3, h4, _, _⟩
  · rw [e]; exact hH
  · rw [e]; exact hH
  · rw [e]; exact hH
  · have e2 : (saveL s g hd l).2.2 = 0 := by rw [e]
    obtain ⟨r1, r2, r3⟩ := h.room
    by_cases hemp : l = [] ∧ hd = g.hd
    · have : saveL s g hd l = (s, g, 0) := by
        unfold saveL
        rw [if_neg (by rw [h3, h4]; simp), if_pos hemp]
      rw [this]
      exact hH
    have hsv : saveL s g hd l = laid s g ⟨hd, putEs g.L l⟩ (roomL s).1 (hdRec s (roomL s).2.1 g hd ++ entRecs l) := by
      unfold saveL
      rw [if_neg (by rw [h3, h4]; simp), if_neg hemp, h.alive, if_neg (by simp), if_neg (by simp [r1])]
    rw [hsv] at e2 hg' ⊢
    unfold laid at e2 hg' ⊢
    simp only at e2 hg' ⊢
    have hrc : hdRec s (roomL s).2.1 g hd ++ entRecs l = rcsL ((if (roomL s).2.1 = 0 ∨ hd ≠ g.hd then [.hard hd] else []) ++ l.map .entry) := by
      unfold hdRec entRecs
      by_cases hz : (roomL s).2.1 = 0 ∨ hd ≠ g.hd
      · rw [if_pos hz, if_pos hz]; simp [rcsL]
      · rw [if_neg hz, if_neg hz]; simp
    rw [hrc] at e2 hg' ⊢
    refine HeadInv.write h hR hH r2 (fun r hr => ?_) (fun hnew => ?_) e2 hg'
    · rcases List.mem_append.1 hr with hr | hr
      · by_cases hz : (roomL s).2.1 = 0 ∨ hd ≠ g.hd
        · rw [if_pos hz] at hr; simp at hr; subst hr; exact ⟨⟨h4, h1.1, h1.2⟩, hard_short hd h1.1 h1.2⟩
        · rw [if_neg hz] at hr; simp at hr
      · obtain ⟨e, he, rfl⟩ := List.mem_map.1 hr
        obtain ⟨q1, q2⟩ := h2 e he
        exact ⟨⟨all_entB h3 e he, q1, by omega⟩, (entRec_len q1 q2).1⟩
    · rw [if_pos (.inl (room_new hR.ne0 hnew))]
      exact ⟨hd, _, rfl⟩
theorem HeadInv.reset {s : Dk} {g : Lg} (h : Good s) (hR : RecInv s g) (hH : HeadInv s) (hg : g.Ok) : HeadInv (resetL s g).1 := by
  rcases h.reset g with ⟨e, _⟩ | ⟨e, hg', _⟩
  · rw [e]; exact hH
  · have e2 : (resetL s g).2.2 = 0 := by rw [e]
    obtain ⟨r1, r2, r3⟩ := h.last
    have hsv : resetL s g = laid s g ⟨g.hd, []⟩ (lastL s).1 ((if (lastL s).2.1 = 0 then rcL (.hard g.hd) else []) ++ rcL .reset) := by
      unfold resetL
      rw [h.alive, if_neg (by simp), if_neg (by simp [r1])]
    rw [hsv] at e2 hg' ⊢
    unfold laid at e2 hg' ⊢
    simp only at e2 hg' ⊢
    have hrc : (if (lastL s).2.1 = 0 then rcL (.hard g.hd) else []) ++ rcL .reset = rcsL ((if (lastL s).2.1 = 0 then [.hard g.hd] else []) ++ [.reset]) := by
      by_cases hz : (lastL s).2.1 = 0
      · rw [if_pos hz, if_pos hz]; simp [rcsL]
      · rw [if_neg hz, if_neg hz]; simp [rcsL]
    rw [hrc] at e2 hg' ⊢
    refine HeadInv.write h hR hH r2 (fun r hr => ?_) (fun hnew => absurd (last_in hR.ne0) hnew) e2 hg'
    rcases List.mem_append.1 hr with hr | hr
    · by_cases hz : (lastL s).2.1 = 0
      · rw [if_pos hz] at hr; simp at hr; subst hr; exact ⟨⟨hg.hd.1, hg.hd.2.1, hg.hd.2.2⟩, hard_short _ hg.hd.2.1 hg.hd.2.2⟩
      · rw [if_neg hz] at hr; simp at hr
    · simp at hr; subst hr; exact ⟨trivial, reset_short⟩
theorem HeadInv.act {s : Dk} {g : Lg} (h : Good s) (hR : RecInv s g) (hH : HeadInv s) (hg : g.Ok) {a : Wa} (ha : WaOk a) : HeadInv (actW s g a).1 := by
  unfold actW
  split
  · exact hH.reset h hR hg
  · exact hH.save h hR hg _ _ (hdA_in ha) (fun e he => by have := entA_in ha e he; exact ⟨this.1, by omega⟩)
theorem headInv_begin {m : Int} (h0 : 100 ≤ m) (h1 : m ≤ 10000000) : HeadInv (open0 (newD m)).1 := by
  obtain ⟨k1, k2, _⟩ := open0_good h0 h1
  have hnew : Good (newD m) := good_new (by omega) h1
  have hn : isSeg (segN 1) = true := isSeg_segN (n := 1) (by omega) (by omega)
  have hrc : rcL (.hard ⟨0, 0⟩) = rcsL [.hard ⟨0, 0⟩] := by simp [rcsL]
  unfold open0 at k1 k2 ⊢
  have hwr := hnew.wr hn (rcL (.hard ⟨0, 0⟩)) k1
  obtain ⟨s', hs'⟩ : ∃ s', (wrL (newD m) (segN 1) (rcL (.hard ⟨0, 0⟩))).1 = s' := ⟨_, rfl⟩
  rw [hs'] at hwr k2 ⊢
  have hf : ∀ r ∈ [Rc.hard ⟨0, 0⟩], r.Fits ∧ (payL r).length ≤ 65536 := fun r hr => by
    simp at hr
    subst hr
    exact ⟨⟨by decide, ⟨by show _ ≤ (0 : Int); omega, by show (0 : Int) ≤ _; omega⟩, ⟨by show _ ≤ (0 : Int); omega, by show (0 : Int) ≤ _; omega⟩⟩, hard_short _ ⟨by show _ ≤ (0 : Int); omega, by show (0 : Int) ≤ _; omega⟩ ⟨by show _ ≤ (0 : Int); omega, by show (0 : Int) ≤ _; omega⟩⟩
  have hsc := scanL_app (a := []) (by rw [scanL_nil]) hf
  rw [List.nil_append, scanL_nil, List.nil_append, ← hrc] at hsc
  intro n hm
  have hmm := mem_segsL.1 hm
  rw [mem_fnd k2.ok.rise, hwr] at hmm
  by_cases e : n = segN 1
  · subst e
    refine ⟨⟨0, 0⟩, [], ?_⟩
    unfold recs dat
    rw [hwr, if_pos rfl]
    show (scanL (dat (newD m) (segN 1) ++ _)).1 = _
    rw [show dat (newD m) (segN 1) = [] from rfl, List.nil_append, hsc.1]
  · rw [if_neg e] at hmm
    exact absurd hmm.2 (by simp [newD, fndK])
/-! ### a segment deleted -/
theorem Good.dele {s : Dk} (h : Good s) {n : List UInt8} (hn : n ∈ s.L.map AF.name) : dele s n = ({ s with L := delK AF.key n s.L }, 0) ∧ Good { s with L := delK AF.key n s.L } := by
  obtain ⟨f, hf, _⟩ := rd_in h.alive h.ok hn
  have hsub : ∀ x ∈ delK AF.key n s.L, x ∈ s.L := fun x hx => (delK_mem.1 hx).1
  have hlen : (delK AF.key n s.L).length ≤ s.L.length := List.length_filter_le _ _
  refine ⟨?_, h.alive, h.fuse, ⟨delK_rise h.ok.rise, fun f hf => h.ok.names f (hsub f hf), fun f hf => h.ok.sync f (hsub f hf), by have := h.ok.many; show (delK AF.key n s.L).length ≤ 40; omega, by have := sz_del n s.L; have := h.ok.room; show (sz (delK AF.key n s.L) : Int) ≤ s.most; omega, h.ok.most, h.ok.fuse⟩, fun f hf => h.segs f (hsub f hf), by have := h.few; show (delK AF.key n s.L).length ≤ 20; omega⟩
  unfold Go.Proofs.YtgchdlfoehlomaaGreatDoor.dele need
  rw [if_neg (by rw [h.alive]; simp), hf]
  exact spends_full h.fuse _
theorem segs_dele {s : Dk} (h : Good s) {n : List UInt8} {l : List (List UInt8)} (hs : segsL s.L = n :: l) : segsL (delK AF.key n s.L) = l := by
  have hst := segsL_strict h.ok.rise
  rw [hs] at hst
  obtain ⟨h1, h2⟩ := List.pairwise_cons.1 hst
  have hr' : RiseK AF.key (delK AF.key n s.L) := delK_rise h.ok.rise
  refine strict_eq segV (segsL_strict hr') h2 (fun x => ?_)
  rw [mem_segsL, mem_fnd hr', fndK_del]
  have hx : x ∈ segsL s.L ↔ x = n ∨ x ∈ l := by rw [hs]; simp
  rw [mem_segsL, mem_fnd h.ok.rise] at hx
  by_cases e : x = n
  · rw [if_pos e]
    refine ⟨fun hh => absurd hh.2 (by simp), fun hh => ?_⟩
    have := h1 x hh
    rw [e] at this
    omega
  · rw [if_neg e]
    exact ⟨fun hh => (hx.1 hh).resolve_left e, fun hh => hx.2 (.inr hh)⟩
theorem dat_dele {s : Dk} {n m : List UInt8} (h : m ≠ n) : dat { s with L := delK AF.key n s.L } m = dat s m := by
  unfold dat
  show (((fndK AF.key m (delK AF.key n s.L)).map AF.data).getD []) = _
  rw [fndK_del, if_neg h]
/-- How a disk stands, of whose segments the first j are gone, all of them with no entry behind index i. -/
structure CutSt (i : Int) (s : Dk) (j : Nat) (s' : Dk) : Prop where
  good : Good s'
  most : s'.most = s.most
  segs : segsL s'.L = (segsL s.L).drop j
  dat : ∀ n ∈ (segsL s.L).drop j, dat s' n = dat s n
  small : ∀ r ∈ ((segsL s.L).take j).flatMap (recs s), isBig i r = false
  lt : j < (segsL s.L).length
theorem CutSt.start {i : Int} {s : Dk} (h : Good s) (hs : segsL s.L ≠ []) : CutSt i s 0 s := ⟨h, rfl, by simp, fun _ _ => rfl, by simp, List.length_pos_iff.2 hs⟩
theorem CutSt.next {i : Int} {s s' : Dk} {j : Nat} (hg : Good s) (h : CutSt i s j s') (hj : j + 1 < (segsL s.L).length) (hb : (recs s ((segsL s.L)[j]'h.lt)).any (isBig i) = false) :
    dele s' ((segsL s.L)[j]'h.lt) = ({ s' with L := delK AF.key ((segsL s.L)[j]'h.lt) s'.L }, 0) ∧ CutSt i s (j + 1) { s' with L := delK AF.key ((segsL s.L)[j]'h.lt) s'.L } := by
  have hlt := h.lt
  have hdrop : (segsL s.L).drop j = (segsL s.L)[j]'hlt :: (segsL s.L).drop (j + 1) := List.drop_eq_getElem_cons hlt
  have hsg := h.segs
  rw [hdrop] at hsg
  have hin : (segsL s.L)[j]'hlt ∈ segsL s'.L := by rw [hsg]; exact List.mem_cons_self
  obtain ⟨k1, k2⟩ := h.good.dele ((mem_segsL.1 hin).2)
  have hst := segsL_strict h.good.ok.rise
  rw [hsg] at hst
  refine ⟨k1, k2, h.most, segs_dele h.good hsg, fun n hn => ?_, fun r hr => ?_, hj⟩
  · rw [dat_dele (fun e => by have := (List.pairwise_cons.1 hst).1 n hn; rw [e] at this; omega)]
    exact h.dat n (by rw [hdrop]; exact List.mem_cons_of_mem _ hn)
  · rw [List.take_add_one, List.getElem?_eq_getElem hlt, List.flatMap_append] at hr
    rcases List.mem_append.1 hr with hr | hr
    · exact h.small r hr
    · have hr : r ∈ recs s ((segsL s.L)[j]'hlt) := by simpa using hr
      have := List.any_eq_false.1 hb r hr
      simpa using this
/-- What a log is, opened behind a cut. -/
structure CutLg (i : Int) (g g' : Lg) : Prop where
  hd : g'.hd = g.hd
  tail : TailE i g.L g'.L
theorem CutSt.log {i : Int} {s s' : Dk} {j : Nat} {g : Lg} (hg : Good s) (hR : RecInv s g) (hH : HeadInv s) (h : CutSt i s j s') : RecInv s' (takeRs g0 (((segsL s.L).drop j).flatMap (recs s))) ∧ CutLg i g (takeRs g0 (((segsL s.L).drop j).flatMap (recs s))) := by
  have hlt := h.lt
  have hdrop : (segsL s.L).drop j = (segsL s.L)[j]'hlt :: (segsL s.L).drop (j + 1) := List.drop_eq_getElem_cons hlt
  have hmem : ∀ n ∈ (segsL s.L).drop j, n ∈ segsL s.L := fun n hn => List.mem_of_mem_drop hn
  have hflat : (segsL s.L).flatMap (recs s) = ((segsL s.L).take j).flatMap (recs s) ++ ((segsL s.L).drop j).flatMap (recs s) := by
    rw [← List.flatMap_append, List.take_append_drop]
  have hfit : ∀ r ∈ (segsL s.L).flatMap (recs s), r.Fits := fun r hr => by
    obtain ⟨n, _, hn⟩ := List.mem_flatMap.1 hr
    exact (scanL_le (Go.Proofs.YtgchdlfoehlomaaGreatDoor.dat s n).length (Go.Proofs.YtgchdlfoehlomaaGreatDoor.dat s n) (Nat.le_refl _)).2.2.1 r hn
  have heq := hR.eq
  refine ⟨⟨fun n hn => ?_, ?_, by rw [h.segs, hdrop]; exact List.cons_ne_nil _ _⟩, ?_, ?_⟩
  · rw [h.segs] at hn
    rw [h.dat n hn]
    exact hR.whole n (hmem n hn)
  · rw [h.segs]
    exact congrArg (takeRs g0) (by rw [List.flatMap_def, List.flatMap_def, List.map_congr_left (g := recs s) (fun n hn => by unfold recs; rw [h.dat n hn])])
  · rw [← heq, hflat]
    refine (cut_hd ?_).symm
    obtain ⟨hh, R, hr⟩ := hH ((segsL s.L)[j]'hlt) (List.getElem_mem hlt)
    refine ⟨hh, R ++ ((segsL s.L).drop (j + 1)).flatMap (recs s), ?_⟩
    rw [hdrop, List.flatMap_cons, hr]
    rfl
  · rw [← heq, hflat]
    exact cut_tail (by rw [← hflat]; exact hfit) h.small
end Go.Proofs.YtgchdlfoehlomaaGreatDoor

/-
  LAYER 3 (wal): Cut.
-/
namespace Go.Proofs.YtgchdlfoehlomaaGreatDoor
open Go.RowKit Go.Maps
set_option linter.unusedVariables false
set_option maxRecDepth 100000

/-- A run that began behind calls that only make memory. -/
theorem LgRun.early {w w1 wx : World} {T : Nat → Prop} {p a : Nat} {s : Dk} {g : Lg} (hT : ∀ b, T b → b < w.heap.size) (hb : Below w.heap.size w w1) (h : LgRun w1 T p a s g wx) : LgRun w T p a s g wx := by
  obtain ⟨h1, h2⟩ := h
  have hz := hb.size
  have hz2 := h2.size
  refine ⟨h1.widen (fun b hx => ?_) (fun b hx => ?_), (Chg.of_below (S := T) hb).trans h2 (fun b hb => .inl hb)⟩
  · rcases hx with hx | hx
    · exact .inl hx
    · exact .inr ⟨by omega, hx.2⟩
  · rcases hx with hx | hx
    · have := hT b hx; omega
    · exact hx.2
/-- How it stands while segments are deleted. -/
structure CuI (w1 : World) (T : Nat → Prop) (p a : Nat) (s : Dk) (g : Lg) (i : Int) (j : Nat) (wx : World) : Prop where
  ex : ∃ s', LgRun w1 T p a s' g wx ∧ CutSt i s j s'
def CuRel (w1 : World) (T : Nat → Prop) (p a gn : Nat) (s : Dk) (g : Lg) (i : Int) (n : Nat) (u : Value) (wr : World) : Prop := ∃ j N C : Nat, u = .slice (some ⟨gn, j, none⟩) N C ∧ N + j = n ∧ N ≤ C ∧ Hid (CuI w1 T p a s g i j wr)
theorem cuI_needs {w1 wx : World} {T : Nat → Prop} {p a B0 j : Nat} {s : Dk} {g : Lg} {i : Int} (hG : Good s) (hgl : Glob w1 B0) (hB0 : ∀ b, T b → B0 ≤ b) (hB1 : B0 ≤ w1.heap.size) (h : CuI w1 T p a s g i j wx) (hj : j < (segsL s.L).length) :
    Calls Tryz.prog 40 #[.pointer (some ⟨p, 0, none⟩), .string (mk ((segsL s.L)[j]'hj)), .int .i64 i] wx fun e wy => e = .returned (.tuple #[.bool ((recs s ((segsL s.L)[j]'hj)).any (isBig i)), .int .i64 0]) ∧ CuI w1 T p a s g i j wy := by
  obtain ⟨s', hr, hc⟩ := h
  obtain ⟨q1, q2, q3⟩ := (segsL_in hG.ok).2 _ (List.getElem_mem hj)
  have hdrop : (segsL s.L).drop j = (segsL s.L)[j]'hj :: (segsL s.L).drop (j + 1) := List.drop_eq_getElem_cons hj
  have hin : (segsL s.L)[j]'hj ∈ segsL s'.L := by rw [hc.segs, hdrop]; exact List.mem_cons_self
  have hrd := rd_dat hc.good (mem_segsL.1 hin).2
  rw [hc.dat _ (by rw [hdrop]; exact List.mem_cons_self)] at hrd
  refine hr.reads fun S hd hp => ?_
  have hz := hr.2.size
  have := needed_any hd hp (hgl.chg hr.2 hB1 hB0) (by omega) (mk ((segsL s.L)[j]'hj)) (by rw [mk_size]; unfold maxLen; omega) i
  rw [mk_data, hrd] at this
  refine this.mono ?_
  rintro e wy ⟨he, hb⟩
  exact ⟨he, s', hr.below hb, hc⟩
theorem cuI_deletes {w1 wx : World} {T : Nat → Prop} {p a j : Nat} {s : Dk} {g : Lg} {i : Int} (hG : Good s) (hT : ∀ b, T b → b < w1.heap.size) (h : CuI w1 T p a s g i j wx) (hj : j + 1 < (segsL s.L).length) (hb : (recs s ((segsL s.L)[j]'(by omega))).any (isBig i) = false) :
    Calls Tryz.prog 41 #[.pointer (some ⟨a, 0, none⟩), .string (mk ((segsL s.L)[j]'(by omega)))] wx fun e wy => e = .returned (.int .i64 0) ∧ CuI w1 T p a s g i (j + 1) wy := by
  obtain ⟨s', hr, hc⟩ := h
  obtain ⟨q1, q2, q3⟩ := (segsL_in hG.ok).2 _ (List.getElem_mem hc.lt)
  obtain ⟨k1, k2⟩ := hc.next hG hj hb
  refine (hr.op hT (r := dele s' ((segsL s.L)[j]'hc.lt)) (fun S hd hp => ?_)).mono ?_
  · have := dele_any hd (mk ((segsL s.L)[j]'hc.lt)) (by rw [mk_size]; unfold maxLen; omega)
    rw [mk_data] at this
    exact this
  · rintro e wy ⟨he, hr2⟩
    rw [k1] at he hr2
    exact ⟨he, _, hr2, k2⟩
theorem cuI_ptr {w1 wx : World} {T : Nat → Prop} {p a j : Nat} {s : Dk} {g : Lg} {i : Int} (h : CuI w1 T p a s g i j wx) : wx.cell? ⟨p, 0, none⟩ = some (.pointer (some ⟨a, 0, none⟩)) := by
  obtain ⟨s', hr, hc⟩ := h
  exact hr.1.cells.1
theorem cuI_keeps {w1 wx : World} {T : Nat → Prop} {p a j : Nat} {s : Dk} {g : Lg} {i : Int} (h : CuI w1 T p a s g i j wx) {b : Nat} (h1 : b < w1.heap.size) (h2 : ¬ T b) : wx.heap[b]? = w1.heap[b]? := by
  obtain ⟨s', hr, hc⟩ := h
  exact hr.2.block b h1 h2
theorem cuI_later {w1 wx wy : World} {T : Nat → Prop} {p a j : Nat} {s : Dk} {g : Lg} {i : Int} (h : CuI w1 T p a s g i j wx) (hb : Below wx.heap.size wx wy) : CuI w1 T p a s g i j wy := by
  obtain ⟨s', hr, hc⟩ := h
  exact ⟨s', hr.below hb, hc⟩
def lenOf : Value → Nat
  | .slice _ n _ => n
  | _ => 0
set_option maxHeartbeats 8000000 in
theorem cut_any {w : World} {T : Nat → Prop} {p a B0 : Nat} {s : Dk} {g : Lg} (h : LogAt w T p a s g) (hG : Good s) (hgl : Glob w B0) (hB0 : ∀ b, T b → B0 ≤ b) (hB1 : B0 ≤ w.heap.size) (hs : segsL s.L ≠ []) (i : Int) :
    Calls Tryz.prog 20 #[.pointer (some ⟨p, 0, none⟩), .int .i64 i] w fun e w' => e = .returned (.int .i64 0) ∧ ∃ j s', CutSt i s j s' ∧ LgRun w T p a s' g w' := by
  have hT := h.lt
  have HDd := hid (h.run.reads fun S hd hp => walDead_any hd hp : Calls Tryz.prog 39 #[.pointer (some ⟨p, 0, none⟩)] w fun e w' => e = .returned (.bool s.dead) ∧ w = w')
  rw [hG.alive] at HDd
  obtain ⟨names, hnames⟩ : ∃ l, segsL s.L = l := ⟨_, rfl⟩
  have HSeg := hid (h.segs hgl hB1 hnames)
  have hl40 : names.length ≤ 40 := by rw [← hnames]; exact (segsL_in hG.ok).1
  have hpos : 0 < names.length := by rw [← hnames]; exact List.length_pos_iff.2 hs
  have HI0 := hid (fun w1 (hb : Below w.heap.size w w1) => (⟨s, (h.below hb).run, CutSt.start hG hs⟩ : CuI w1 T p a s g i 0 w1))
  have HEnd := hid (fun w1 wx j (hb : Below w.heap.size w w1) (hI : CuI w1 T p a s g i j wx) => (by obtain ⟨s', hr, hc⟩ := hI; exact ⟨rfl, j, s', hc, hr.early hT hb⟩ : (Ending.returned (.int .i64 0)) = .returned (.int .i64 0) ∧ ∃ j s', CutSt i s j s' ∧ LgRun w T p a s' g wx))
  have HNd := hid (fun w1 wx j (hb : Below w.heap.size w w1) (hI : CuI w1 T p a s g i j wx) (hj : j < (segsL s.L).length) => cuI_needs hG (hgl.below hb hB1) hB0 (by have := hb.size; omega) hI hj)
  have HDl := hid (fun w1 wx j (hb : Below w.heap.size w w1) (hI : CuI w1 T p a s g i j wx) (hj : j + 1 < (segsL s.L).length) hbg => cuI_deletes hG (fun b hx => by have := hT b hx; have := hb.size; omega) hI hj hbg)
  have HT := hid hT
  have HNl := hid (show names.length = (segsL s.L).length by rw [hnames])
  have HNg := hid (fun j (hj : j < names.length) (hj2 : j < (segsL s.L).length) => (by subst hnames; rfl : (segsL s.L)[j]'hj2 = names[j]'hj))
  clear h hG hgl hB0 hB1 hs hT hnames
  go_enter Tryz.func20, Tryz.ntmps20
  go_wp2_with (first
    | (go_at_call 39; (with_reducible refine HDd.out.mono ?_); rintro e w0 ⟨rfl, rfl⟩)
    | (go_at_call 21; (with_reducible refine HSeg.out.mono ?_); rintro e w1 ⟨v1, rfl, hv1, hb1⟩; have HV := hid hv1; have HB1 := hid hb1; have HI1 := hid (HI0.out _ hb1); obtain ⟨a1, cap1, rfl⟩ := names_slice hv1; clear hv1 hb1))
  obtain ⟨gn, rfl⟩ := names_some HV.out (List.length_pos_iff.1 hpos)
  have hgn := names_lt HV.out
  have hcap := (names_len HV.out).2
  have hTg : ¬ T gn := fun e => by have := HT.out _ e; omega
  go_wp2
  go_loopw [5] (CuRel w1 T p a gn s g i names.length) (fun u _ => lenOf u)
  case atStart => exact ⟨0, names.length, cap1, rfl, rfl, hcap, HI1⟩
  case round =>
    obtain ⟨j, N, C, rfl, hN, hC, hI⟩ := hrel
    by_cases hgt : 1 < N
    · have hgtI : (1 : Int) < (N : Int) := by omega
      have hNI : (N : Int) ≤ 40 := by omega
      have hNp : (0 : Int) < (N : Int) := by omega
      have hN1 : (1 : Int) ≤ (N : Int) := by omega
      have hCI : (N : Int) ≤ (C : Int) := by omega
      have hN0 : 0 < N := by omega
      have hNne : ¬ N = 0 := by omega
      have hdec : decide ((0 : Int) < (N : Int)) = true := decide_eq_true hNp
      have hj : j + 1 < (segsL s.L).length := by rw [← HNl.out]; omega
      have hjn : j < names.length := by omega
      have c0 := cuI_ptr hI.out
      have d0 := names_at (names_same HV.out (w' := wr) (cuI_keeps hI.out hgn.2 hTg)) hjn
      have C1 := hid (HNd.out w1 wr j HB1.out hI.out (by omega))
      have C2 := hid (fun wx hIx => HDl.out w1 wx j HB1.out hIx hj)
      rw [HNg.out j hjn] at C1 C2
      have HC := hid (fun j' wx (hI : CuI w1 T p a s g i j' wx) => (show wx.cell? ⟨p, 0, none⟩ = some (.pointer (some ⟨a, 0, none⟩)) ∧ wx.cell? ⟨gn, j, none⟩ = some (.string (mk names[j])) from ⟨cuI_ptr hI, names_at (names_same HV.out (cuI_keeps hI hgn.2 hTg)) hjn⟩))
      generalize mk names[j] = nb at *
      cases hbg : (recs s names[j]).any (isBig i) with
      | true =>
        rw [hbg] at C1
        go_wp2_with (go_at_call 40; (with_reducible refine C1.out.mono ?_); rintro e w2 ⟨rfl, hI2⟩; have HI2 := hid hI2; clear hI2)
        go_ret
        exact ⟨rfl, (HEnd.out _ _ _ HB1.out HI2.out).2⟩
      | false =>
        rw [hbg] at C1
        have C2 := hid (fun wx hIx => C2.out wx hIx hbg)
        go_upto_region 8 with (go_at_call 40; (with_reducible refine C1.out.mono ?_); rintro e w2 ⟨rfl, hI2⟩; have HI2 := hid hI2; clear hI2)
        have hI2d : CuI w1 T p a s g i j w2.drew := cuI_later HI2.out (Below.drew (Below.refl _ _))
        obtain ⟨y0, y1⟩ := HC.out _ _ HI2.out
        clear c0 d0
        go_region_held3 (fun wx => wx.cell? ⟨p, 0, none⟩ = some (.pointer (some ⟨a, 0, none⟩)) ∧ wx.cell? ⟨gn, j, none⟩ = some (.string nb))
          (first | (with_reducible exact HC.out _ _ hI2d) | (with_reducible exact hC3))
          (first | (go_at_call 41; (with_reducible refine (C2.out _ hI2d).mono ?_); rintro e w3 ⟨rfl, hI3⟩; have HI3 := hid hI3; have hC3 := HC.out _ _ HI3.out; clear hI3))
        all_goals
          go_wp2
          go_roundw
          case rel => exact ⟨j + 1, N - 1, C - 1, rfl, by omega, by omega, HI3⟩
          case measure => simp [lenOf]; omega
    · have hgtI : (N : Int) ≤ 1 := by omega
      go_wp2
      go_ret
      exact ⟨rfl, (HEnd.out _ _ _ HB1.out hI.out).2⟩
end Go.Proofs.YtgchdlfoehlomaaGreatDoor

/-
  LAYER 3 (wal), the laws' own helpers: whether an entry is there.
-/
namespace Go.Proofs.YtgchdlfoehlomaaGreatDoor
open Go.RowKit Go.Maps
set_option linter.unusedVariables false
set_option maxRecDepth 100000

def enV (x : En) : Value := .agg #[.int .i64 x.idx, .int .i64 x.term, .int .i64 x.kind, .string (mk x.data)]
def HasRel (w : World) (L : List En) (x : En) (i : Value) (wr : World) : Prop := ∃ k : Nat, k ≤ L.length ∧ i = .int .i64 k ∧ Below w.heap.size w wr ∧ ∀ y ∈ L.take k, y ≠ x
def HasPost (w : World) (L : List En) (x : En) (e : Ending) (w' : World) : Prop := ∃ b, e = .returned (.bool b) ∧ (b = true ↔ x ∈ L) ∧ Below w.heap.size w w'
set_option maxHeartbeats 4000000 in
theorem has_any (u : Value) (L : List En) (x : En) (w : World) (hu : EntsAt w u L) (hL : L.length ≤ 100000) :
    Calls Tryz.prog 22 #[u, enV x] w (HasPost w L x) := by
  obtain ⟨ao, cap, rfl, hc⟩ := hu
  have HC := hid hc
  unfold enV
  clear hc
  obtain ⟨W, hW⟩ : ∃ W, w.alloc (.cells #[.int .i64 x.idx, .int .i64 x.term, .int .i64 x.kind, .string (mk x.data)] 57) = W := ⟨_, rfl⟩
  have hbW : Below w.heap.size w W := by rw [← hW]; exact Below.alloc (Below.refl _ _) (Nat.le_refl _) _
  have hoW : own W w.heap.size #[.int .i64 x.idx, .int .i64 x.term, .int .i64 x.kind, .string (mk x.data)] 57 := by rw [← hW]; exact own.new _ _ _
  have HBW := hid hbW
  have HOW := hid hoW
  clear hbW hoW
  go_enter Tryz.func22, Tryz.ntmps22
  go_wp2
  go_loopw [5] (HasRel W L x) (fun i _ => L.length - (intOf i).toNat)
  case atStart => exact ⟨0, Nat.zero_le _, rfl, Below.refl _ _, by simp⟩
  case round =>
    obtain ⟨k, hk, rfl, hb, hsm⟩ := hrel
    have HSm := hid hsm
    clear hsm
    by_cases hlt : k < L.length
    · obtain ⟨g1, o1, rfl, hg1, hc1⟩ := HC.out (fun e => by rw [e] at hlt; simp at hlt)
      obtain ⟨a0, a1, a2, a3⟩ := hc1 k hlt
      have c0 := (hb.cell (p := ⟨g1, o1 + k * 4, none⟩) (show g1 < W.heap.size by have := HBW.out.size; omega)).trans ((HBW.out.cell (p := ⟨g1, o1 + k * 4, none⟩) hg1).trans a0)
      have c1 := (hb.cell (p := ⟨g1, o1 + k * 4 + 1, none⟩) (show g1 < W.heap.size by have := HBW.out.size; omega)).trans ((HBW.out.cell (p := ⟨g1, o1 + k * 4 + 1, none⟩) hg1).trans a1)
      have c2 := (hb.cell (p := ⟨g1, o1 + k * 4 + 2, none⟩) (show g1 < W.heap.size by have := HBW.out.size; omega)).trans ((HBW.out.cell (p := ⟨g1, o1 + k * 4 + 2, none⟩) hg1).trans a2)
      have c3 := (hb.cell (p := ⟨g1, o1 + k * 4 + 3, none⟩) (show g1 < W.heap.size by have := HBW.out.size; omega)).trans ((HBW.out.cell (p := ⟨g1, o1 + k * 4 + 3, none⟩) hg1).trans a3)
      have ho := HOW.out.same (hb.block _ HOW.out.lt)
      have b0 := (ho.cell 0).trans rfl
      have b1 := (ho.cell 1).trans rfl
      have b2 := (ho.cell 2).trans rfl
      have b3 := (ho.cell 3).trans rfl
      clear a0 a1 a2 a3 hc1 ho
      have hkI : (k : Int) < (L.length : Int) := by omega
      by_cases heq : L[k]'hlt = x
      · have HP := hid (fun wx (hx : Below W.heap.size W wx) => (⟨true, rfl, ⟨fun _ => by rw [← heq]; exact List.getElem_mem hlt, fun _ => rfl⟩, HBW.out.trans (hx.mono HBW.out.size)⟩ : HasPost w L x (.returned (.bool true)) wx))
        rw [heq] at c0 c1 c2 c3
        clear heq
        generalize mk x.data = db at *
        go_wp2
        go_quiet (fail)
        go_wp2
        go_ret
        exact HP.out _ (below_drew hb _)
      · have HE := hid (show ∀ y ∈ L.take (k + 1), y ≠ x from fun y hy => by
          rw [List.take_succ_eq_append_getElem hlt] at hy
          rcases List.mem_append.1 hy with hy | hy
          · exact HSm.out y hy
          · rw [List.mem_singleton.1 hy]; exact heq)
        have hne : (¬ (L[k]'hlt).idx = x.idx) ∨ (x.idx = (L[k]'hlt).idx ∧ ¬ (L[k]'hlt).term = x.term) ∨ (x.idx = (L[k]'hlt).idx ∧ x.term = (L[k]'hlt).term ∧ ¬ (L[k]'hlt).kind = x.kind) ∨ (x.idx = (L[k]'hlt).idx ∧ x.term = (L[k]'hlt).term ∧ x.kind = (L[k]'hlt).kind ∧ ¬ mk (L[k]'hlt).data = mk x.data) := by
          by_cases e0 : x.idx = (L[k]'hlt).idx
          · by_cases e1 : x.term = (L[k]'hlt).term
            · by_cases e2 : x.kind = (L[k]'hlt).kind
              · refine .inr (.inr (.inr ⟨e0, e1, e2, fun e => heq ?_⟩))
                have e3 : (L[k]'hlt).data = x.data := by have := congrArg (fun b : ByteArray => b.data.toList) e; exact this
                cases hx : (L[k]'hlt)
                cases x
                rw [hx] at e0 e1 e2 e3
                simp only at e0 e1 e2 e3
                rw [e0, e1, e2, e3]
              · exact .inr (.inr (.inl ⟨e0, e1, fun e => e2 e.symm⟩))
            · exact .inr (.inl ⟨e0, fun e => e1 e.symm⟩)
          · exact .inl (fun e => e0 e.symm)
        clear heq
        generalize (L[k]'hlt).idx = x0 at *
        generalize (L[k]'hlt).term = x1 at *
        generalize (L[k]'hlt).kind = x2 at *
        generalize mk (L[k]'hlt).data = x3 at *
        generalize x.idx = y0 at *
        generalize x.term = y1 at *
        generalize x.kind = y2 at *
        generalize mk x.data = y3 at *
        rcases hne with h0 | ⟨rfl, h1⟩ | ⟨rfl, rfl, h2⟩ | ⟨rfl, rfl, rfl, h3⟩
        · go_wp2
          go_quiet (fail)
          go_wp2
          go_roundw
          case rel => exact ⟨k + 1, by omega, by go_num, below_drew hb _, HE.out⟩
          case measure => simp [intOf]; omega
        · go_wp2
          go_quiet (fail)
          go_wp2
          go_roundw
          case rel => exact ⟨k + 1, by omega, by go_num, below_drew hb _, HE.out⟩
          case measure => simp [intOf]; omega
        · go_wp2
          go_quiet (fail)
          go_wp2
          go_roundw
          case rel => exact ⟨k + 1, by omega, by go_num, below_drew hb _, HE.out⟩
          case measure => simp [intOf]; omega
        · have h4 : ¬ x3.toList = y3.toList := fun e => h3 (by apply str_ext; rw [Lib.toList_data, Lib.toList_data] at e; exact e)
          go_wp2
          go_quiet (fail)
          go_wp2
          go_roundw
          case rel => exact ⟨k + 1, by omega, by go_num, below_drew hb _, HE.out⟩
          case measure => simp [intOf]; omega
    · obtain rfl : k = L.length := by omega
      have HP := hid (show HasPost w L x (.returned (.bool false)) wr from ⟨false, rfl, ⟨fun e => by simp at e, fun e => absurd rfl (HSm.out x (by rw [List.take_length]; exact e))⟩, HBW.out.trans (hb.mono HBW.out.size)⟩)
      go_wp2
      go_ret
      exact HP.out
end Go.Proofs.YtgchdlfoehlomaaGreatDoor

/-
  LAYER 3 (wal), the law WalCuts: how it stands before and behind its Cut.
-/
namespace Go.Proofs.YtgchdlfoehlomaaGreatDoor
open Go.RowKit Go.Maps
set_option linter.unusedVariables false
set_option maxRecDepth 100000

structure Fc (W wx : World) (T : Nat → Prop) (q p a B0 k : Nat) (s : Dk) (g : Lg) : Prop where
  fa : Fa W wx T q p a B0 k s g
  head : HeadInv s
theorem Fc.later {W wx wy : World} {T : Nat → Prop} {q p a B0 k : Nat} {s : Dk} {g : Lg} (h : Fc W wx T q p a B0 k s g) (hb : Below wx.heap.size wx wy) : Fc W wy T q p a B0 k s g := ⟨h.fa.later hb, h.head⟩
def FcRel (W : World) (q p a B0 n : Nat) (i : Value) (wr : World) : Prop := ∃ k T s g, k ≤ n ∧ i = .int .i64 (k : Int) ∧ Fc W wr T q p a B0 k s g
theorem Fc.does {W wx : World} {T : Nat → Prop} {q p a B0 k n : Nat} {s : Dk} {g : Lg} (h : Fc W wx T q p a B0 k s g) (hk : k < n) (hn : n ≤ 40) (ac : Wa) (hac : WaOk ac) (hop : pickZ ac.op 10 < 7) (kv nv : Value) (hkv : ∃ x n c, kv = .slice x n c) (hnv : ∃ x n c, nv = .slice x n c) :
    Calls Tryz.prog 15 #[.pointer (some ⟨q, 0, none⟩), waV ac kv nv] wx fun e wy => ∃ r, e = .returned (.int .i64 r) ∧ FcRel W q p a B0 n (.int .i64 ((k + 1 : Nat) : Int)) wy := by
  have hl := h.fa.fu.lgin.len
  refine (does_any3 h.fa.fu.log h.fa.fu.pair h.fa.fu.tq h.fa.fu.glob (by have := h.fa.fu.b0; have := h.fa.fu.below.size; omega) ac hac hop (by omega) kv nv hkv hnv).mono ?_
  rintro e wy ⟨he, hr⟩
  obtain ⟨a1, a2, a3⟩ := actW_in h.fa.fu.good h.fa.fu.lgin hac
  exact ⟨_, he, k + 1, _, _, _, by omega, rfl, ⟨h.fa.fu.run hr a1 a2, h.fa.lie.act h.fa.fu.good h.fa.fu.lgin.ok hac, by rw [a3]; exact h.fa.most⟩, h.head.act h.fa.fu.good h.fa.lie h.fa.fu.lgin.ok hac⟩
theorem fc_begun {W w w' : World} {q a p mq r ql : Nat} {T S : Nat → Prop} {B0 n : Nat} (hb : Below W.heap.size W w) (hg : Glob w B0) (hB0 : B0 ≤ W.heap.size) (h : Begun w w' q a p mq r ql T S (open0 (newD 100000)).1 (open0 (newD 100000)).1) : FcRel W q p a B0 n (.int .i64 0) w' := by
  obtain ⟨_, k2, k3⟩ := open0_good (m := 100000) (by omega) (by omega)
  have hz := hb.size
  refine ⟨0, T, _, _, Nat.zero_le _, rfl, ⟨⟨h.log, h.pair, h.tq, k2, ⟨g0_ok, fun e he => by simp [g0] at he, by simp [g0], fun e he => by simp [g0] at he⟩, fun b hT => by have := h.ge.1 b hT; omega, by have := h.ge.2.2.1; omega, hg.below h.below (by omega), hB0, hb.trans (h.below.mono hz)⟩, recInv_begin (by omega) (by omega), k3⟩, headInv_begin (by omega) (by omega)⟩
/-- Behind the Cut. -/
structure CuSt (i : Int) (W wy : World) (q p a H Bv B0 : Nat) (s' : Dk) (g g' : Lg) (v2 : Value) : Prop where
  log : ∃ T, LogAt wy T p a s' g
  pair : PairAt wy q a p
  box : own wy H #[.int .i64 g.hd.term, .int .i64 g.hd.vote] 37
  was : EntRow wy Bv v2 g.L
  good : Good s'
  lie : RecInv s' g'
  cut : CutLg i g g'
  most : s'.most = 100000
  glob : Glob wy B0
  b0 : B0 ≤ W.heap.size
  below : Below W.heap.size W wy
section
variable {i : Int} {W wx wy wz : World} {q p a H Bv B0 p5 : Nat} {s' : Dk} {g g' : Lg} {v2 : Value}
theorem CuSt.later (h : CuSt i W wy q p a H Bv B0 s' g g' v2) (hb : Below wy.heap.size wy wz) : CuSt i W wz q p a H Bv B0 s' g g' v2 := by
  obtain ⟨T, h1⟩ := h.log
  exact ⟨⟨T, h1.below hb⟩, own.same h.pair (hb.block _ (own.lt h.pair)), h.box.same (hb.block _ h.box.lt), h.was.same (fun b hb' => hb.block b (World.ownsRow.lt h.was b hb').2), h.good, h.lie, h.cut, h.most, h.glob.below hb (by have := h.b0; have := h.below.size; omega), h.b0, h.below.trans (hb.mono h.below.size)⟩
theorem CuSt.cells (h : CuSt i W wy q p a H Bv B0 s' g g' v2) :
    wy.cell? ⟨q, 0, none⟩ = some (.pointer (some ⟨a, 0, none⟩)) ∧ wy.cell? ⟨q, 1, none⟩ = some (.pointer (some ⟨p, 0, none⟩)) ∧ wy.cell? ⟨H, 0, none⟩ = some (.int .i64 g.hd.term) ∧ wy.cell? ⟨H, 1, none⟩ = some (.int .i64 g.hd.vote) :=
  ⟨(own.cell h.pair 0).trans rfl, (own.cell h.pair 1).trans rfl, (h.box.cell 0).trans rfl, (h.box.cell 1).trans rfl⟩
structure Cu5 (i : Int) (W wy : World) (q p a p5 H Bv B0 : Nat) (s' : Dk) (g g' : Lg) (v2 : Value) : Prop where
  st : CuSt i W wy q p a H Bv B0 s' g g' v2
  new : ∃ T, LogAt wy T p5 a s' g'
theorem Cu5.later (h : Cu5 i W wy q p a p5 H Bv B0 s' g g' v2) (hb : Below wy.heap.size wy wz) : Cu5 i W wz q p a p5 H Bv B0 s' g g' v2 := by
  obtain ⟨T, h1⟩ := h.new
  exact ⟨h.st.later hb, T, h1.below hb⟩
theorem CuSt.opens (h : CuSt i W wx q p a H Bv B0 s' g g' v2) :
    Calls Tryz.prog 17 #[.pointer (some ⟨a, 0, none⟩)] wx fun e wy => ∃ p5, e = .returned (.tuple #[.pointer (some ⟨p5, 0, none⟩), .int .i64 0]) ∧ Cu5 i W wy q p a p5 H Bv B0 s' g g' v2 := by
  obtain ⟨T, ⟨⟨S, v, hd, _⟩, _⟩⟩ := h.log
  refine (open_good hd h.good h.glob (by have := h.b0; have := h.below.size; omega) h.lie (by rw [h.most]; omega)).mono ?_
  rintro e wy ⟨p5, T5, rfl, hL5, _, hb, _⟩
  exact ⟨p5, rfl, h.later hb, T5, hL5⟩
end
theorem Fc.cuts {W w6 : World} {T : Nat → Prop} {q p a B0 k H Bv : Nat} {s : Dk} {g : Lg} {v2 : Value} (h : Fc W w6 T q p a B0 k s g) (hend : FuEnd W w6 T q p a H Bv s g g v2) (hH : ¬ T H) (hBv : ∀ b, T b → b < Bv) (i : Int) (wk : World) (hb : Below w6.heap.size w6 wk) :
    Calls Tryz.prog 20 #[.pointer (some ⟨p, 0, none⟩), .int .i64 i] wk fun e wy => e = .returned (.int .i64 0) ∧
      (wy.cell? ⟨q, 0, none⟩ = some (.pointer (some ⟨a, 0, none⟩)) ∧ wy.cell? ⟨q, 1, none⟩ = some (.pointer (some ⟨p, 0, none⟩)) ∧ wy.cell? ⟨H, 0, none⟩ = some (.int .i64 g.hd.term) ∧ wy.cell? ⟨H, 1, none⟩ = some (.int .i64 g.hd.vote)) ∧ ∃ s' g', CuSt i W wy q p a H Bv B0 s' g g' v2 := by
  have h2 := h.later hb
  have e2 := hend.later hb
  have hf := h2.fa.fu
  have hsz := hf.below.size
  refine (cut_any hf.log hf.good hf.glob (fun b hT => by have := hf.ge b hT; have := hf.b0; omega) (by have := hf.b0; omega) h2.fa.lie.ne0 i).mono ?_
  rintro e wy ⟨he, j, s', hc, hr⟩
  obtain ⟨r1, r2⟩ := hc.log hf.good h2.fa.lie h2.head
  have hz := hr.2.size
  have hst : CuSt i W wy q p a H Bv B0 s' g _ v2 :=
    ⟨⟨_, hr.1⟩, own.same e2.pair (hr.2.block _ (own.lt e2.pair) hf.tq), e2.box.same (hr.2.block _ e2.box.lt hH), e2.was.same (fun b hb' => hr.2.block b (World.ownsRow.lt e2.was b hb').2 (fun hT => by have h1 := hBv b hT; have h2 := (World.ownsRow.lt e2.was b hb').1; omega)), hc.good, r1, r2, by rw [hc.most]; exact h2.fa.most, hf.glob.chg hr.2 (by have := hf.b0; omega) (fun b hT => by have := hf.ge b hT; have := hf.b0; omega), hf.b0, e2.below.trans (hr.2.below e2.below.size hf.ge)⟩
  exact ⟨he, hst.cells, s', _, hst⟩
end Go.Proofs.YtgchdlfoehlomaaGreatDoor

