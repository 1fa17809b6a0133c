import Derived.Test.YtgchdlfoehlomaaGreatDoorWlBeginJ
import Derived.Test.YtgchdlfoehlomaaGreatDoorWlActMJ
/-
  LAYER 3 (wal), plain mathematics: what lies in the segments is what the log is, whatever is saved and reset.
-/
namespace Go.Proofs.YtgchdlfoehlomaaGreatDoor
open Go.RowKit
set_option linter.unusedVariables false
set_option maxRecDepth 100000

theorem strict_eq {α : Type} (f : α → Nat) : ∀ {l m : List α}, l.Pairwise (fun a b => f a < f b) → m.Pairwise (fun a b => f a < f b) → (∀ x, x ∈ l ↔ x ∈ m) → l = m
  | [], [], _, _, _ => rfl
  | [], y :: m, _, _, h => absurd ((h y).2 (by simp)) (by simp)
  | x :: l, [], _, _, h => absurd ((h x).1 (by simp)) (by simp)
  | x :: l, y :: m, hl, hm, h => by
    obtain ⟨l1, l2⟩ := List.pairwise_cons.1 hl
    obtain ⟨m1, m2⟩ := List.pairwise_cons.1 hm
    have hxy : x = y := by
      rcases List.mem_cons.1 ((h x).1 (by simp)) with e | e
      · exact e
      · rcases List.mem_cons.1 ((h y).2 (by simp)) with e2 | e2
        · exact e2.symm
        · have := m1 x e; have := l1 y e2; omega
    subst hxy
    congr 1
    refine strict_eq f l2 m2 (fun z => ⟨fun hz => ?_, fun hz => ?_⟩)
    · rcases List.mem_cons.1 ((h z).1 (by simp [hz])) with e | e
      · have := l1 z hz; rw [e] at this; omega
      · exact e
    · rcases List.mem_cons.1 ((h z).2 (by simp [hz])) with e | e
      · have := m1 z hz; rw [e] at this; omega
      · exact e
theorem mem_segsL {L : List AF} {x : List UInt8} : x ∈ segsL L ↔ isSeg x = true ∧ x ∈ L.map AF.name := by
  rw [(segsL_perm L).mem_iff, List.mem_filter]
  exact ⟨fun h => ⟨h.2, h.1⟩, fun h => ⟨h.2, h.1⟩⟩
theorem segsL_strict {L : List AF} (hr : RiseK AF.key L) : (segsL L).Pairwise (fun a b => segV a < segV b) := by
  have h1 : (segsL L).Pairwise (fun a b => segLe a b = true) := List.pairwise_mergeSort (fun a b c h1 h2 => by unfold segLe at *; simp at *; omega) (fun a b => by unfold segLe; simp; omega) _
  have h2 : (segsL L).Nodup := by
    refine (segsL_perm L).nodup_iff.2 ?_
    refine List.Pairwise.sublist List.filter_sublist ?_
    have : (L.map AF.name).Pairwise (· < ·) := List.pairwise_map.2 hr
    exact this.imp (fun h => blt_ne h)
  refine (h1.and h2).imp_of_mem (fun {a b} ha hb hab => ?_)
  obtain ⟨h3, h4⟩ := hab
  unfold segLe at h3
  simp only [decide_eq_true_eq] at h3
  rcases Nat.lt_or_ge (segV a) (segV b) with h | h
  · exact h
  · exact absurd (seg_inj (mem_segsL.1 ha).1 (mem_segsL.1 hb).1 (by omega)) h4
/-- What lies in a file, none if it is not there. -/
def dat (s : Dk) (n : List UInt8) : List UInt8 := ((fndK AF.key n s.L).map AF.data).getD []
def recs (s : Dk) (n : List UInt8) : List Rc := (scanL (dat s n)).1
theorem mem_fnd {L : List AF} (hr : RiseK AF.key L) {m : List UInt8} : m ∈ L.map AF.name ↔ (fndK AF.key m L).isSome = true := by
  constructor
  · intro h
    obtain ⟨f, hf, rfl⟩ := List.mem_map.1 h
    rw [show f.name = AF.key f from rfl, fndK_of_mem hr hf]; rfl
  · intro h
    obtain ⟨f, hf⟩ := Option.isSome_iff_exists.1 h
    obtain ⟨h1, h2⟩ := fndK_some hf
    exact List.mem_map.2 ⟨f, h1, h2⟩
theorem rd_dat {s : Dk} (h : Good s) {n : List UInt8} (hn : n ∈ s.L.map AF.name) : rd s n = (dat s n, 0) := by
  obtain ⟨f, hf, hr⟩ := rd_in h.alive h.ok hn
  unfold dat
  rw [hr, hf]; rfl
/-- Where bytes were laid. -/
theorem Good.wr {s : Dk} (h : Good s) {n : List UInt8} (hn : isSeg n = true) (d : List UInt8) (h0 : (wrL s n d).2 = 0) (m : List UInt8) :
    fndK AF.key m (wrL s n d).1.L = if m = n then some ⟨n, dat s n ++ d, (dat s n ++ d).length⟩ else fndK AF.key m s.L := by
  have hnm := seg_isName hn
  have key : ∀ L' f, app s n d = ({ s with L := L' }, 0) → fndK AF.key n L' = some f → wrL s n d = ({ s with L := updK AF.key n syncF L' }, 0) := fun L' f happ hf => by
    unfold wrL
    rw [happ]
    simp only [if_true]
    have hd' : ({ s with L := L' } : Dk).dead = false := h.alive
    unfold syn need
    rw [if_neg (by rw [hd']; simp)]
    show (match fndK AF.key n L' with | none => _ | some f => _) = _
    rw [hf]
    exact spends_full (s := { s with L := L' }) h.fuse _
  cases hf : fndK AF.key n s.L with
  | none =>
    have hne : ∀ x ∈ s.L, AF.key x ≠ n := fndK_none hf
    have hdat : dat s n = [] := by unfold dat; rw [hf]; rfl
    have happ : app s n d = (s, 11) ∨ app s n d = (s, 6) ∨ app s n d = ({ s with L := insK AF.key (newF n d) s.L }, 0) := by
      unfold app
      rw [if_neg (by rw [h.alive]; simp), if_neg (by simp [hnm]), hf]
      simp only
      split
      · exact .inl rfl
      · split
        · exact .inr (.inl rfl)
        · rw [spends_full h.fuse]
          exact .inr (.inr rfl)
    rcases happ with e | e | e
    · unfold wrL at h0; rw [e] at h0; simp at h0
    · unfold wrL at h0; rw [e] at h0; simp at h0
    · have hins : ∀ q, fndK AF.key q (insK AF.key (newF n d) s.L) = if q = n then some (newF n d) else fndK AF.key q s.L := fun q => fndK_ins (f := newF n d) hne
      rw [key _ (newF n d) e (by rw [hins, if_pos rfl])]
      show fndK AF.key m (updK AF.key n syncF (insK AF.key (newF n d) s.L)) = _
      rw [fndK_upd (key := AF.key) (g := syncF) (fun _ => rfl), hins, hins, if_pos rfl, hdat]
      by_cases hm : m = n
      · rw [if_pos hm, if_pos hm]; rfl
      · rw [if_neg hm, if_neg hm, if_neg hm]
  | some f =>
    have hfn : f.name = n := (fndK_some hf).2
    have hdat : dat s n = f.data := by unfold dat; rw [hf]; rfl
    have happ : app s n d = (s, 6) ∨ app s n d = ({ s with L := updK AF.key n (addF d) s.L }, 0) := by
      unfold app
      rw [if_neg (by rw [h.alive]; simp), if_neg (by simp [hnm]), hf]
      simp only
      split
      · exact .inl rfl
      · rw [spends_full h.fuse]
        exact .inr rfl
    rcases happ with e | e
    · unfold wrL at h0; rw [e] at h0; simp at h0
    · have hupd : ∀ q, fndK AF.key q (updK AF.key n (addF d) s.L) = if q = n then some (addF d f) else fndK AF.key q s.L := fun q => by
        rw [fndK_upd (key := AF.key) (g := addF d) (fun _ => rfl), hf]; rfl
      rw [key _ (addF d f) e (by rw [hupd, if_pos rfl])]
      show fndK AF.key m (updK AF.key n syncF (updK AF.key n (addF d) s.L)) = _
      rw [fndK_upd (key := AF.key) (g := syncF) (fun _ => rfl), hupd, hupd, if_pos rfl, hdat]
      by_cases hm : m = n
      · rw [if_pos hm, if_pos hm]
        show some (syncF (addF d f)) = _
        unfold syncF addF
        simp only [hfn]
      · rw [if_neg hm, if_neg hm, if_neg hm]
theorem scanL_short : ∀ (n : Nat) (l : List UInt8), l.length ≤ n → ∀ r ∈ (scanL l).1, (payL r).length ≤ 65536
  | 0, l, h, r, hr => by
    have : l = [] := List.length_eq_zero_iff.1 (by omega)
    subst this
    rw [scanL_nil] at hr; simp at hr
  | n + 1, l, h, r, hr => by
    by_cases h0 : l = []
    · subst h0; rw [scanL_nil] at hr; simp at hr
    · by_cases h9 : (unframe l).2.2 = 9
      · rw [scanL_sum h0 h9] at hr; simp at hr
      · cases hd : decR (unframe l).1 with
        | none => rw [scanL_none h0 h9 hd] at hr; simp at hr
        | some q =>
          obtain ⟨p, _, _, _, hp, _, hl⟩ := decR_frame hd
          obtain ⟨m, _, h8, hm, _, hf, _, hs⟩ := scanL_some hd
          rw [hs] at hr
          have hlen : (l.drop m).length = l.length - m := List.length_drop
          rcases List.mem_cons.1 hr with rfl | hr
          · rw [← hp]; exact hl
          · exact scanL_short n (l.drop m) (by omega) r hr
theorem scanL_app {a : List UInt8} (h : (scanL a).2.2 = 0) {R : List Rc} (hR : ∀ r ∈ R, r.Fits ∧ (payL r).length ≤ 65536) : (scanL (a ++ rcsL R)).1 = (scanL a).1 ++ R ∧ (scanL (a ++ rcsL R)).2.2 = 0 := by
  obtain ⟨i1, i2, i3, i4, _⟩ := scanL_le a.length a (Nat.le_refl _)
  have ha : rcsL (scanL a).1 = a := by rw [i2, i4 h, List.take_length]
  have h1 := scanL_rcs (scanL a).1 (rcsL R ++ []) (fun r hr => ⟨i3 r hr, scanL_short _ a (Nat.le_refl _) r hr⟩)
  rw [scanL_rcs R [] hR, scanL_nil, List.append_nil, ha] at h1
  rw [h1]
  simp
theorem takeRs_append (g : Lg) (A B : List Rc) : takeRs g (A ++ B) = takeRs (takeRs g A) B := by unfold takeRs; rw [List.foldl_append]
/-- What lies in the segments is what the log is. -/
structure RecInv (s : Dk) (g : Lg) : Prop where
  whole : ∀ n ∈ segsL s.L, (scanL (dat s n)).2.2 = 0
  eq : takeRs g0 ((segsL s.L).flatMap (recs s)) = g
  ne0 : segsL s.L ≠ []
theorem RecInv.write {s : Dk} {g : Lg} (h : Good s) (hR : RecInv s g) {n : List UInt8} (hn : isSeg n = true) (hmax : (segsL s.L).getLast? = some n ∨ ∀ x ∈ segsL s.L, segV x < segV n) {R : List Rc} (hf : ∀ r ∈ R, r.Fits ∧ (payL r).length ≤ 65536) (h0 : (wrL s n (rcsL R)).2 = 0) (hg' : Good (wrL s n (rcsL R)).1) : RecInv (wrL s n (rcsL R)).1 (takeRs g R) := by
  have hwr := h.wr hn (rcsL R) h0
  obtain ⟨s', hs'⟩ : ∃ s', (wrL s n (rcsL R)).1 = s' := ⟨_, rfl⟩
  rw [hs'] at hwr hg' ⊢
  have hst := segsL_strict h.ok.rise
  have hst' := segsL_strict hg'.ok.rise
  have hmem : ∀ m, m ∈ segsL s'.L ↔ m ∈ segsL s.L ∨ m = n := fun m => by
    rw [mem_segsL, mem_segsL, mem_fnd hg'.ok.rise, mem_fnd h.ok.rise, hwr]
    by_cases hm : m = n
    · subst hm; rw [if_pos rfl]; simp [hn]
    · rw [if_neg hm]; simp [hm]
  have hdn : dat s' n = dat s n ++ rcsL R := by unfold dat; rw [hwr, if_pos rfl]; rfl
  have hdo : ∀ m, m ≠ n → dat s' m = dat s m := fun m hm => by unfold dat; rw [hwr, if_neg hm]
  have hro : ∀ m, m ≠ n → recs s' m = recs s m := fun m hm => by unfold recs; rw [hdo m hm]
  rcases hmax with hl | hl
  · -- the last one
    obtain ⟨P, hP⟩ : ∃ P, segsL s.L = P ++ [n] := List.getLast?_eq_some_iff.1 hl
    have hnm : n ∈ segsL s.L := by rw [hP]; simp
    have hsame : segsL s'.L = segsL s.L := strict_eq segV hst' hst (fun x => by
      rw [hmem]
      exact ⟨fun e => e.elim id (fun e => by rw [e]; exact hnm), .inl⟩)
    have hPn : ∀ m ∈ P, m ≠ n := fun m hm e => by
      rw [hP] at hst
      have := (List.pairwise_append.1 hst).2.2 m hm n (by simp)
      rw [e] at this; omega
    have hw := hR.whole n hnm
    obtain ⟨a1, a2⟩ := scanL_app hw hf
    refine ⟨fun m hm => ?_, ?_, by rw [hsame]; exact hR.ne0⟩
    · by_cases e : m = n
      · rw [e, hdn]; exact a2
      · rw [hdo m e]; rw [hsame] at hm; exact hR.whole m hm
    · have h1 := hR.eq
      rw [hP, List.flatMap_append] at h1
      rw [hsame, hP, List.flatMap_append]
      have e1 : P.flatMap (recs s') = P.flatMap (recs s) := by
        rw [List.flatMap_def, List.flatMap_def, List.map_congr_left (fun m hm => hro m (hPn m hm))]
      have e2 : recs s' n = recs s n ++ R := by unfold recs; rw [hdn]; exact a1
      rw [e1, show [n].flatMap (recs s') = recs s' n from by simp, e2, ← List.append_assoc, takeRs_append, ← h1, show [n].flatMap (recs s) = recs s n from by simp]
  · -- a new one, behind them
    have hnm : n ∉ segsL s.L := fun e => by have := hl n e; omega
    have hdat : dat s n = [] := by
      unfold dat
      cases hf : fndK AF.key n s.L with
      | none => rfl
      | some f =>
        exfalso
        refine hnm (mem_segsL.2 ⟨hn, (mem_fnd h.ok.rise).2 ?_⟩)
        rw [hf]; rfl
    have hnew : segsL s'.L = segsL s.L ++ [n] := strict_eq segV hst' (List.pairwise_append.2 ⟨hst, by simp, fun a ha b hb => by simp at hb; subst hb; exact hl a ha⟩) (fun x => by
      rw [hmem]; simp)
    have hPn : ∀ m ∈ segsL s.L, m ≠ n := fun m hm e => hnm (by rw [← e]; exact hm)
    have hsc := scanL_app (a := []) (by rw [scanL_nil]) hf
    rw [List.nil_append, scanL_nil, List.nil_append] at hsc
    rw [hdat, List.nil_append] at hdn
    refine ⟨fun m hm => ?_, ?_, by rw [hnew]; simp⟩
    · by_cases e : m = n
      · rw [e, hdn]; exact hsc.2
      · rw [hdo m e]
        rcases (hmem m).1 hm with hm | hm
        · exact hR.whole m hm
        · exact absurd hm e
    · rw [hnew, List.flatMap_append]
      have e1 : (segsL s.L).flatMap (recs s') = (segsL s.L).flatMap (recs s) := by
        rw [List.flatMap_def, List.flatMap_def, List.map_congr_left (fun m hm => hro m (hPn m hm))]
      have e2 : recs s' n = R := by unfold recs; rw [hdn]; exact hsc.1
      rw [e1, show [n].flatMap (recs s') = recs s' n from by simp, e2, takeRs_append, hR.eq]
theorem lastL_some {s : Dk} (h : segsL s.L ≠ []) : (segsL s.L).getLast? = some (lastL s).1 := by
  unfold lastL
  cases hl : (segsL s.L).getLast? with
  | none => exact absurd (List.getLast?_eq_none_iff.1 hl) h
  | some n => rfl
theorem le_last {s : Dk} (hok : s.Ok) {n : List UInt8} (hl : (segsL s.L).getLast? = some n) : ∀ x ∈ segsL s.L, segV x ≤ segV n := by
  intro x hx
  have hst := segsL_strict hok.rise
  obtain ⟨P, hP⟩ := List.getLast?_eq_some_iff.1 hl
  rw [hP] at hst hx
  rcases List.mem_append.1 hx with hx | hx
  · exact Nat.le_of_lt ((List.pairwise_append.1 hst).2.2 x hx n (by simp))
  · simp at hx; subst hx; exact Nat.le_refl _
theorem room_max {s : Dk} (h : Good s) (hs : segsL s.L ≠ []) : (segsL s.L).getLast? = some (roomL s).1 ∨ ∀ x ∈ segsL s.L, segV x < segV (roomL s).1 := by
  have hl := lastL_some hs
  unfold roomL
  by_cases hf : fullL s
  · rw [if_pos hf]; exact .inl hl
  · rw [if_neg hf]
    right
    intro x hx
    have h1 := le_last h.ok hl x hx
    have hne : ¬ segV (lastL s).1 = 999999 := fun e => hf (.inr (.inr (.inl e)))
    have hle := segV_le (lastL s).1
    show segV x < segV (segN (segV (lastL s).1 + 1 : Nat))
    rw [segV_segN (by omega) (by omega)]
    omega
theorem takeRs_entries : ∀ (l : List En) (g : Lg), takeRs g (l.map .entry) = { g with L := putEs g.L l }
  | [], g => rfl
  | e :: r, g => by
    have := takeRs_entries r (takeR g (.entry e))
    unfold takeRs at this ⊢
    rw [List.map_cons, List.foldl_cons, this]
    rfl
theorem hard_short (h : Hd) (h1 : I64 h.term) (h2 : I64 h.vote) : (payL (.hard h)).length ≤ 65536 := by
  have := encs_length [1, h.term, h.vote] (by intro m hm; simp at hm; rcases hm with rfl | rfl | rfl; exact ⟨by omega, by omega⟩; exact h1; exact h2)
  show (encs [1, h.term, h.vote]).length ≤ 65536
  simp at this
  omega
theorem reset_short : (payL .reset).length ≤ 65536 := by
  have := encs_length [3] (by intro m hm; simp at hm; subst hm; exact ⟨by omega, by omega⟩)
  show (encs [3]).length ≤ 65536
  simp at this
  omega
theorem RecInv.save {s : Dk} {g : Lg} (h : Good s) (hR : RecInv s g) (hg : g.Ok) (hd : Hd) (l : List En) (h1 : I64 hd.term ∧ I64 hd.vote) (h2 : ∀ e ∈ l, e.In ∧ e.data.length ≤ 60000) : RecInv (saveL s g hd l).1 (saveL s g hd l).2.1 := by
  rcases h.save g hd l with ⟨e, _⟩ | ⟨e, _⟩ | ⟨e, _⟩ | ⟨e, hg', h3, h4, _, _⟩
  · rw [e]; exact hR
  · rw [e]; exact hR
  · rw [e]; exact hR
  · have e1 : (saveL s g hd l).2.1 = ⟨hd, putEs g.L l⟩ := by rw [e]
    have e2 : (saveL s g hd l).2.2 = 0 := by rw [e]
    rw [e1]
    obtain ⟨r1, r2, r3⟩ := h.room
    have hmax := room_max h hR.ne0
    by_cases hemp : l = [] ∧ hd = g.hd
    · have : saveL s g hd l = (s, g, 0) := by
        unfold saveL
        rw [if_neg (by rw [h3, h4]; simp), if_pos hemp]
      rw [this]
      obtain ⟨rfl, rfl⟩ := hemp
      exact hR
    have hsv : saveL s g hd l = laid s g ⟨hd, putEs g.L l⟩ (roomL s).1 (hdRec s (roomL s).2.1 g hd ++ entRecs l) := by
      unfold saveL
      rw [if_neg (by rw [h3, h4]; simp), if_neg hemp, h.alive, if_neg (by simp), if_neg (by simp [r1])]
    rw [hsv] at e2 hg' ⊢
    unfold laid at e2 hg' ⊢
    simp only at e2 hg' ⊢
    have hrc : hdRec s (roomL s).2.1 g hd ++ entRecs l = rcsL ((if (roomL s).2.1 = 0 ∨ hd ≠ g.hd then [.hard hd] else []) ++ l.map .entry) := by
      unfold hdRec entRecs
      by_cases hz : (roomL s).2.1 = 0 ∨ hd ≠ g.hd
      · rw [if_pos hz, if_pos hz]; simp [rcsL]
      · rw [if_neg hz, if_neg hz]; simp
    rw [hrc] at e2 hg' ⊢
    have hst : takeRs g ((if (roomL s).2.1 = 0 ∨ hd ≠ g.hd then [.hard hd] else []) ++ l.map .entry) = ⟨hd, putEs g.L l⟩ := by
      rw [takeRs_append, takeRs_entries]
      by_cases hz : (roomL s).2.1 = 0 ∨ hd ≠ g.hd
      · rw [if_pos hz]; rfl
      · rw [if_neg hz]
        have : hd = g.hd := by
          by_cases e : hd = g.hd
          · exact e
          · exact absurd (.inr e) hz
        rw [this]; rfl
    rw [← hst]
    refine RecInv.write h hR r2 hmax (fun r hr => ?_) e2 hg'
    rcases List.mem_append.1 hr with hr | hr
    · by_cases hz : (roomL s).2.1 = 0 ∨ hd ≠ g.hd
      · rw [if_pos hz] at hr; simp at hr; subst hr; exact ⟨⟨h4, h1.1, h1.2⟩, hard_short hd h1.1 h1.2⟩
      · rw [if_neg hz] at hr; simp at hr
    · obtain ⟨e, he, rfl⟩ := List.mem_map.1 hr
      obtain ⟨q1, q2⟩ := h2 e he
      exact ⟨⟨all_entB h3 e he, q1, by omega⟩, (entRec_len q1 q2).1⟩
theorem RecInv.reset {s : Dk} {g : Lg} (h : Good s) (hR : RecInv s g) (hg : g.Ok) : RecInv (resetL s g).1 (resetL s g).2.1 := by
  rcases h.reset g with ⟨e, _⟩ | ⟨e, hg', _⟩
  · rw [e]; exact hR
  · have e1 : (resetL s g).2.1 = ⟨g.hd, []⟩ := by rw [e]
    have e2 : (resetL s g).2.2 = 0 := by rw [e]
    rw [e1]
    obtain ⟨r1, r2, r3⟩ := h.last
    have hsv : resetL s g = laid s g ⟨g.hd, []⟩ (lastL s).1 ((if (lastL s).2.1 = 0 then rcL (.hard g.hd) else []) ++ rcL .reset) := by
      unfold resetL
      rw [h.alive, if_neg (by simp), if_neg (by simp [r1])]
    rw [hsv] at e2 hg' ⊢
    unfold laid at e2 hg' ⊢
    simp only at e2 hg' ⊢
    have hrc : (if (lastL s).2.1 = 0 then rcL (.hard g.hd) else []) ++ rcL .reset = rcsL ((if (lastL s).2.1 = 0 then [.hard g.hd] else []) ++ [.reset]) := by
      by_cases hz : (lastL s).2.1 = 0
      · rw [if_pos hz, if_pos hz]; simp [rcsL]
      · rw [if_neg hz, if_neg hz]; simp [rcsL]
    rw [hrc] at e2 hg' ⊢
    have hst : takeRs g ((if (lastL s).2.1 = 0 then [.hard g.hd] else []) ++ [.reset]) = ⟨g.hd, []⟩ := by
      rw [takeRs_append]
      by_cases hz : (lastL s).2.1 = 0
      · rw [if_pos hz]; rfl
      · rw [if_neg hz]; rfl
    rw [← hst]
    refine RecInv.write h hR r2 (.inl (lastL_some hR.ne0)) (fun r hr => ?_) e2 hg'
    rcases List.mem_append.1 hr with hr | hr
    · by_cases hz : (lastL s).2.1 = 0
      · rw [if_pos hz] at hr; simp at hr; subst hr; exact ⟨⟨hg.hd.1, hg.hd.2.1, hg.hd.2.2⟩, hard_short _ hg.hd.2.1 hg.hd.2.2⟩
      · rw [if_neg hz] at hr; simp at hr
    · simp at hr; subst hr; exact ⟨trivial, reset_short⟩
theorem RecInv.act {s : Dk} {g : Lg} (h : Good s) (hR : RecInv s g) (hg : g.Ok) {a : Wa} (ha : WaOk a) : RecInv (actW s g a).1 (actW s g a).2.1 := by
  unfold actW
  split
  · exact hR.reset h hg
  · exact hR.save h hg _ _ (hdA_in ha) (fun e he => by have := entA_in ha e he; exact ⟨this.1, by omega⟩)
theorem recInv_begin {m : Int} (h0 : 100 ≤ m) (h1 : m ≤ 10000000) : RecInv (open0 (newD m)).1 g0 := by
  obtain ⟨k1, k2, _⟩ := open0_good h0 h1
  have hnew : Good (newD m) := good_new (by omega) h1
  have hn : isSeg (segN 1) = true := isSeg_segN (n := 1) (by omega) (by omega)
  have hrc : rcL (.hard ⟨0, 0⟩) = rcsL [.hard ⟨0, 0⟩] := by simp [rcsL]
  unfold open0 at k1 k2 ⊢
  have hwr := hnew.wr hn (rcL (.hard ⟨0, 0⟩)) k1
  obtain ⟨s', hs'⟩ : ∃ s', (wrL (newD m) (segN 1) (rcL (.hard ⟨0, 0⟩))).1 = s' := ⟨_, rfl⟩
  rw [hs'] at hwr k2 ⊢
  have hseg : segsL s'.L = [segN 1] := strict_eq segV (segsL_strict k2.ok.rise) (by simp) (fun x => by
    rw [mem_segsL, mem_fnd k2.ok.rise, hwr]
    by_cases hx : x = segN 1
    · subst hx; rw [if_pos rfl]; simp [hn]
    · rw [if_neg hx]; simp [newD, fndK, hx])
  have hf : ∀ r ∈ [Rc.hard ⟨0, 0⟩], r.Fits ∧ (payL r).length ≤ 65536 := fun r hr => by
    simp at hr
    subst hr
    exact ⟨⟨by decide, ⟨by show _ ≤ (0 : Int); omega, by show (0 : Int) ≤ _; omega⟩, ⟨by show _ ≤ (0 : Int); omega, by show (0 : Int) ≤ _; omega⟩⟩, hard_short _ ⟨by show _ ≤ (0 : Int); omega, by show (0 : Int) ≤ _; omega⟩ ⟨by show _ ≤ (0 : Int); omega, by show (0 : Int) ≤ _; omega⟩⟩
  have hsc := scanL_app (a := []) (by rw [scanL_nil]) hf
  rw [List.nil_append, scanL_nil, List.nil_append, ← hrc] at hsc
  have hdn : dat s' (segN 1) = rcL (.hard ⟨0, 0⟩) := by
    unfold dat
    rw [hwr, if_pos rfl]
    show dat (newD m) (segN 1) ++ _ = _
    rw [show dat (newD m) (segN 1) = [] from rfl, List.nil_append]
  refine ⟨fun n hn => ?_, ?_, by rw [hseg]; simp⟩
  · rw [hseg] at hn; simp at hn; subst hn; rw [hdn]; exact hsc.2
  · rw [hseg, show [segN 1].flatMap (recs s') = recs s' (segN 1) from by simp]
    unfold recs
    rw [hdn, hsc.1]
    rfl
/-! ### how many records there are -/
theorem rcsL_length : ∀ R : List Rc, 8 * R.length ≤ (rcsL R).length
  | [] => by simp [rcsL]
  | r :: R => by
    have h1 := rcL_pos r
    have h2 := rcsL_length R
    have : rcsL (r :: R) = rcL r ++ rcsL R := by simp [rcsL]
    rw [this, List.length_append, List.length_cons]
    omega
theorem recs_len (s : Dk) (n : List UInt8) : 8 * (recs s n).length ≤ (dat s n).length := by
  obtain ⟨i1, i2, _⟩ := scanL_le (dat s n).length (dat s n) (Nat.le_refl _)
  have h := rcsL_length (recs s n)
  unfold recs at h ⊢
  rw [i2] at h
  have := List.length_take_le (scanL (dat s n)).2.1 (dat s n)
  omega
theorem flat_len {s : Dk} : ∀ l : List (List UInt8), 8 * (l.flatMap (recs s)).length ≤ (l.map fun n => (dat s n).length).sum
  | [] => by simp
  | n :: l => by
    have h1 := recs_len s n
    have h2 := flat_len (s := s) l
    rw [List.flatMap_cons, List.length_append, List.map_cons, List.sum_cons]
    omega
theorem segs_sz {s : Dk} (h : Good s) : ((segsL s.L).map fun n => (dat s n).length).sum = sz s.L := by
  rw [((segsL_perm s.L).map _).sum_nat, h.names, List.map_map]
  unfold sz
  congr 1
  refine List.map_congr_left (fun f hf => ?_)
  show (dat s f.name).length = f.data.length
  unfold dat
  rw [show f.name = AF.key f from rfl, fndK_of_mem h.ok.rise hf]
  rfl
theorem RecInv.few {s : Dk} {g : Lg} (h : Good s) (hR : RecInv s g) : 8 * ((segsL s.L).flatMap (recs s)).length ≤ sz s.L := by
  have := flat_len (s := s) (segsL s.L)
  rw [segs_sz h] at this
  exact this
theorem takeR_len (g : Lg) (r : Rc) : (takeR g r).L.length ≤ g.L.length + 1 := by
  cases r with
  | hard h => show g.L.length ≤ _; omega
  | entry e => exact putE_len g.L e
  | reset => show 0 ≤ _; omega
theorem takeRs_len : ∀ (R : List Rc) (g : Lg), (takeRs g R).L.length ≤ g.L.length + R.length
  | [], g => Nat.le_refl _
  | r :: R, g => by
    have h1 := takeR_len g r
    have h2 := takeRs_len R (takeR g r)
    have : takeRs g (r :: R) = takeRs (takeR g r) R := rfl
    rw [this, List.length_cons]
    omega
end Go.Proofs.YtgchdlfoehlomaaGreatDoor

