import Derived.Test.YtbidglefddmjhaaGreatDoorWlBeginJ
import Derived.Test.YtbidglefddmjhaaGreatDoorWlActMJ
import Derived.Test.YtbidglefddmjhaaGreatDoorMq0J
/-
  LAYER 3 (wal), plain mathematics: what lies in the segments is what the log is, whatever is saved and reset.
-/
namespace Go.Proofs.YtbidglefddmjhaaGreatDoor
open Go.RowKit
set_option linter.unusedVariables false
set_option maxRecDepth 100000

theorem strict_eq {α : Type} (f : α → Nat) : ∀ {l m : List α}, l.Pairwise (fun a b => f a < f b) → m.Pairwise (fun a b => f a < f b) → (∀ x, x ∈ l ↔ x ∈ m) → l = m
  | [], [], _, _, _ => rfl
  | [], y :: m, _, _, h => absurd ((h y).2 (by simp)) (by simp)
  | x :: l, [], _, _, h => absurd ((h x).1 (by simp)) (by simp)
  | x :: l, y :: m, hl, hm, h => by
    obtain ⟨l1, l2⟩ := List.pairwise_cons.1 hl
    obtain ⟨m1, m2⟩ := List.pairwise_cons.1 hm
    have hxy : x = y := by
      rcases List.mem_cons.1 ((h x).1 (by simp)) with e | e
      · exact e
      · rcases List.mem_cons.1 ((h y).2 (by simp)) with e2 | e2
        · exact e2.symm
        · have := m1 x e; have := l1 y e2; omega
    subst hxy
    congr 1
    refine strict_eq f l2 m2 (fun z => ⟨fun hz => ?_, fun hz => ?_⟩)
    · rcases List.mem_cons.1 ((h z).1 (by simp [hz])) with e | e
      · have := l1 z hz; rw [e] at this; omega
      · exact e
    · rcases List.mem_cons.1 ((h z).2 (by simp [hz])) with e | e
      · have := m1 z hz; rw [e] at this; omega
      · exact e
theorem mem_segsL {L : List AF} {x : List UInt8} : x ∈ segsL L ↔ isSeg x = true ∧ x ∈ L.map AF.name := by
  rw [(segsL_perm L).mem_iff, List.mem_filter]
  exact ⟨fun h => ⟨h.2, h.1⟩, fun h => ⟨h.2, h.1⟩⟩
theorem segsL_strict {L : List AF} (hr : RiseK AF.key L) : (segsL L).Pairwise (fun a b => segV a < segV b) := by
  have h1 : (segsL L).Pairwise (fun a b => segLe a b = true) := List.pairwise_mergeSort (fun a b c h1 h2 => by unfold segLe at *; simp at *; omega) (fun a b => by unfold segLe; simp; omega) _
  have h2 : (segsL L).Nodup := by
    refine (segsL_perm L).nodup_iff.2 ?_
    refine List.Pairwise.sublist List.filter_sublist ?_
    have : (L.map AF.name).Pairwise (· < ·) := List.pairwise_map.2 hr
    exact this.imp (fun h => blt_ne h)
  refine (h1.and h2).imp_of_mem (fun {a b} ha hb hab => ?_)
  obtain ⟨h3, h4⟩ := hab
  unfold segLe at h3
  simp only [decide_eq_true_eq] at h3
  rcases Nat.lt_or_ge (segV a) (segV b) with h | h
  · exact h
  · exact absurd (seg_inj (mem_segsL.1 ha).1 (mem_segsL.1 hb).1 (by omega)) h4
/-- What lies in a file, none if it is not there. -/
def dat (s : Dk) (n : List UInt8) : List UInt8 := ((fndK AF.key n s.L).map AF.data).getD []
def recs (s : Dk) (n : List UInt8) : List Rc := (scanL (dat s n)).1
theorem mem_fnd {L : List AF} (hr : RiseK AF.key L) {m : List UInt8} : m ∈ L.map AF.name ↔ (fndK AF.key m L).isSome = true := by
  constructor
  · intro h
    obtain ⟨f, hf, rfl⟩ := List.mem_map.1 h
    rw [show f.name = AF.key f from rfl, fndK_of_mem hr hf]; rfl
  · intro h
    obtain ⟨f, hf⟩ := Option.isSome_iff_exists.1 h
    obtain ⟨h1, h2⟩ := fndK_some hf
    exact List.mem_map.2 ⟨f, h1, h2⟩
theorem rd_dat {s : Dk} (h : Good s) {n : List UInt8} (hn : n ∈ s.L.map AF.name) : rd s n = (dat s n, 0) := by
  obtain ⟨f, hf, hr⟩ := rd_in h.alive h.ok hn
  unfold dat
  rw [hr, hf]; rfl
/-- Where bytes were laid. -/
theorem Good.wr {s : Dk} (h : Good s) {n : List UInt8} (hn : isSeg n = true) (d : List UInt8) (h0 : (wrL s n d).2 = 0) (m : List UInt8) :
    fndK AF.key m (wrL s n d).1.L = if m = n then some ⟨n, dat s n ++ d, (dat s n ++ d).length⟩ else fndK AF.key m s.L := by
  have hnm := seg_isName hn
  have key : ∀ L' f, app s n d = ({ s with L := L' }, 0) → fndK AF.key n L' = some f → wrL s n d = ({ s with L := updK AF.key n syncF L' }, 0) := fun L' f happ hf => by
    unfold wrL
    rw [happ]
    simp only [if_true]
    have hd' : ({ s with L := L' } : Dk).dead = false := h.alive
    unfold syn need
    rw [if_neg (by rw [hd']; simp)]
    show (match fndK AF.key n L' with | none => _ | some f => _) = _
    rw [hf]
    exact spends_full (s := { s with L := L' }) h.fuse _
  cases hf : fndK AF.key n s.L with
  | none =>
    have hne : ∀ x ∈ s.L, AF.key x ≠ n := fndK_none hf
    have hdat : dat s n = [] := by unfold dat; rw [hf]; rfl
    have happ : app s n d = (s, 11) ∨ app s n d = (s, 6) ∨ app s n d = ({ s with L := insK AF.key (newF n d) s.L }, 0) := by
      unfold app
      rw [if_neg (by rw [h.alive]; simp), if_neg (by simp [hnm]), hf]
      simp only
      split
      · exact .inl rfl
      · split
        · exact .inr (.inl rfl)
        · rw [spends_full h.fuse]
          exact .inr (.inr rfl)
    rcases happ with e | e | e
    · unfold wrL at h0; rw [e] at h0; simp at h0
    · unfold wrL at h0; rw [e] at h0; simp at h0
    · have hins : ∀ q, fndK AF.key q (insK AF.key (newF n d) s.L) = if q = n then some (newF n d) else fndK AF.key q s.L := fun q => fndK_ins (f := newF n d) hne
      rw [key _ (newF n d) e (by rw [hins, if_pos rfl])]
      show fndK AF.key m (updK AF.key n syncF (insK AF.key (newF n d) s.L)) = _
      rw [fndK_upd (key := AF.key) (g := syncF) (fun _ => rfl), hins, hins, if_pos rfl, hdat]
      by_cases hm : m = n
      · rw [if_pos hm, if_pos hm]; rfl
      · rw [if_neg hm, if_neg hm, if_neg hm]
  | some f =>
    have hfn : f.name = n := (fndK_some hf).2
    have hdat : dat s n = f.data := by unfold dat; rw [hf]; rfl
    have happ : app s n d = (s, 6) ∨ app s n d = ({ s with L := updK AF.key n (addF d) s.L }, 0) := by
      unfold app
      rw [if_neg (by rw [h.alive]; simp), if_neg (by simp [hnm]), hf]
      simp only
      split
      · exact .inl rfl
      · rw [spends_full h.fuse]
        exact .inr rfl
    rcases happ with e | e
    · unfold wrL at h0; rw [e] at h0; simp at h0
    · have hupd : ∀ q, fndK AF.key q (updK AF.key n (addF d) s.L) = if q = n then some (addF d f) else fndK AF.key q s.L := fun q => by
        rw [fndK_upd (key := AF.key) (g := addF d) (fun _ => rfl), hf]; rfl
      rw [key _ (addF d f) e (by rw [hupd, if_pos rfl])]
      show fndK AF.key m (updK AF.key n syncF (updK AF.key n (addF d) s.L)) = _
      rw [fndK_upd (key := AF.key) (g := syncF) (fun _ => rfl), hupd, hupd, if_pos rfl, hdat]
      by_cases hm : m = n
      · rw [if_pos hm, if_pos hm]
        show some (syncF (addF d f)) = _
        unfold syncF addF
        simp only [hfn]
      · rw [if_neg hm, if_neg hm, if_neg hm]
theorem scanL_short : ∀ (n : Nat) (l : List UInt8), l.length ≤ n → ∀ r ∈ (scanL l).1, (payL r).length ≤ 65536
  | 0, l, h, r, hr => by
    have : l = [] := List.length_eq_zero_iff.1 (by omega)
    subst this
    rw [scanL_nil] at hr; simp at hr
  | n + 1, l, h, r, hr => by
    by_cases h0 : l = []
    · subst h0; rw [scanL_nil] at hr; simp at hr
    · by_cases h9 : (unframe l).2.2 = 9
      · rw [scanL_sum h0 h9] at hr; simp at hr
      · cases hd : decR (unframe l).1 with
        | none => rw [scanL_none h0 h9 hd] at hr; simp at hr
        | some q =>
          obtain ⟨p, _, _, _, hp, _, hl⟩ := decR_frame hd
          obtain ⟨m, _, h8, hm, _, hf, _, hs⟩ := scanL_some hd
          rw [hs] at hr
          have hlen : (l.drop m).length = l.length - m := List.length_drop
          rcases List.mem_cons.1 hr with rfl | hr
          · rw [← hp]; exact hl
          · exact scanL_short n (l.drop m) (by omega) r hr
theorem scanL_app {a : List UInt8} (h : (scanL a).2.2 = 0) {R : List Rc} (hR : ∀ r ∈ R, r.Fits ∧ (payL r).length ≤ 65536) : (scanL (a ++ rcsL R)).1 = (scanL a).1 ++ R ∧ (scanL (a ++ rcsL R)).2.2 = 0 := by
  obtain ⟨i1, i2, i3, i4, _⟩ := scanL_le a.length a (Nat.le_refl _)
  have ha : rcsL (scanL a).1 = a := by rw [i2, i4 h, List.take_length]
  have h1 := scanL_rcs (scanL a).1 (rcsL R ++ []) (fun r hr => ⟨i3 r hr, scanL_short _ a (Nat.le_refl _) r hr⟩)
  rw [scanL_rcs R [] hR, scanL_nil, List.append_nil, ha] at h1
  rw [h1]
  simp
theorem takeRs_append (g : Lg) (A B : List Rc) : takeRs g (A ++ B) = takeRs (takeRs g A) B := by unfold takeRs; rw [List.foldl_append]
/-- What lies in the segments is what the log is. -/
structure RecInv (s : Dk) (g : Lg) : Prop where
  whole : ∀ n ∈ segsL s.L, (scanL (dat s n)).2.2 = 0
  eq : takeRs g0 ((segsL s.L).flatMap (recs s)) = g
  ne0 : segsL s.L ≠ []
theorem RecInv.write {s : Dk} {g : Lg} (h : Good s) (hR : RecInv s g) {n : List UInt8} (hn : isSeg n = true) (hmax : (segsL s.L).getLast? = some n ∨ ∀ x ∈ segsL s.L, segV x < segV n) {R : List Rc} (hf : ∀ r ∈ R, r.Fits ∧ (payL r).length ≤ 65536) (h0 : (wrL s n (rcsL R)).2 = 0) (hg' : Good (wrL s n (rcsL R)).1) : RecInv (wrL s n (rcsL R)).1 (takeRs g R) := by
  have hwr := h.wr hn (rcsL R) h0
  obtain ⟨s', hs'⟩ : ∃ s', (wrL s n (rcsL R)).1 = s' := ⟨_, rfl⟩
  rw [hs'] at hwr hg' ⊢
  have hst := segsL_strict h.ok.rise
  have hst' := segsL_strict hg'.ok.rise
  have hmem : ∀ m, m ∈ segsL s'.L ↔ m ∈ segsL s.L ∨ m = n := fun m => by
    rw [mem_segsL, mem_segsL, mem_fnd hg'.ok.rise, mem_fnd h.ok.rise, hwr]
    by_cases hm : m = n
    · subst hm; rw [if_pos rfl]; simp [hn]
    · rw [if_neg hm]; simp [hm]
  have hdn : dat s' n = dat s n ++ rcsL R := by unfold dat; rw [hwr, if_pos rfl]; rfl
  have hdo : ∀ m, m ≠ n → dat s' m = dat s m := fun m hm => by unfold dat; rw [hwr, if_neg hm]
  have hro : ∀ m, m ≠ n → recs s' m = recs s m := fun m hm => by unfold recs; rw [hdo m hm]
  rcases hmax with hl | hl
  · -- the last one
    obtain ⟨P, hP⟩ : ∃ P, segsL s.L = P ++ [n] := List.getLast?_eq_some_iff.1 hl
    have hnm : n ∈ segsL s.L := by rw [hP]; simp
    have hsame : segsL s'.L = segsL s.L := strict_eq segV hst' hst (fun x => by
      rw [hmem]
      exact ⟨fun e => e.elim id (fun e => by rw [e]; exact hnm), .inl⟩)
    have hPn : ∀ m ∈ P, m ≠ n := fun m hm e => by
      rw [hP] at hst
      have := (List.pairwise_append.1 hst).2.2 m hm n (by simp)
      rw [e] at this; omega
    have hw := hR.whole n hnm
    obtain ⟨a1, a2⟩ := scanL_app hw hf
    refine ⟨fun m hm => ?_, ?_, by rw [hsame]; exact hR.ne0⟩
    · by_cases e : m = n
      · rw [e, hdn]; exact a2
      · rw [hdo m e]; rw [hsame] at hm; exact hR.whole m hm
    · have h1 := hR.eq
      rw [hP, List.flatMap_append] at h1
      rw [hsame, hP, List.flatMap_append]
      have e1 : P.flatMap (recs s') = P.flatMap (recs s) := by
        rw [List.flatMap_def, List.flatMap_def, List.map_congr_left (fun m hm => hro m (hPn m hm))]
      have e2 : recs s' n = recs s n ++ R := by unfold recs; rw [hdn]; exact a1
      rw [e1, show [n].flatMap (recs s') = recs s' n from by simp, e2, ← List.append_assoc, takeRs_append, ← h1, show [n].flatMap (recs s) = recs s n from by simp]
  · -- a new one, behind them
    have hnm : n ∉ segsL s.L := fun e => by have := hl n e; omega
    have hdat : dat s n = [] := by
      unfold dat
      cases hf : fndK AF.key n s.L with
      | none => rfl
      | some f =>
        exfalso
        refine hnm (mem_segsL.2 ⟨hn, (mem_fnd h.ok.rise).2 ?_⟩)
        rw [hf]; rfl
    have hnew : segsL s'.L = segsL s.L ++ [n] := strict_eq segV hst' (List.pairwise_append.2 ⟨hst, by simp, fun a ha b hb => by simp at hb; subst hb; exact hl a ha⟩) (fun x => by
      rw [hmem]; simp)
    have hPn : ∀ m ∈ segsL s.L, m ≠ n := fun m hm e => hnm (by rw [← e]; exact hm)
    have hsc := scanL_app (a := []) (by rw [scanL_nil]) hf
    rw [List.nil_append, scanL_nil, List.nil_append] at hsc
    rw [hdat, List.nil_append] at hdn
    refine ⟨fun m hm => ?_, ?_, by rw [hnew]; simp⟩
    · by_cases e : m = n
      · rw [e, hdn]; exact hsc.2
      · rw [hdo m e]
        rcases (hmem m).1 hm with hm | hm
        · exact hR.whole m hm
        · exact absurd hm e
    · rw [hnew, List.flatMap_append]
      have e1 : (segsL s.L).flatMap (recs s') = (segsL s.L).flatMap (recs s) := by
        rw [List.flatMap_def, List.flatMap_def, List.map_congr_left (fun m hm => hro m (hPn m hm))]
      have e2 : recs s' n = R := by unfold recs; rw [hdn]; exact hsc.1
      rw [e1, show [n].flatMap (recs s') = recs s' n from by simp, e2, takeRs_append, hR.eq]
theorem lastL_some {s : Dk} (h : segsL s.L ≠ []) : (segsL s.L).getLast? = some (lastL s).1 := by
  unfold lastL
  cases hl : (segsL s.L).getLast? with
  | none => exact absurd (List.getLast?_eq_none_iff.1 hl) h
  | some n => rfl
theorem le_last {s : Dk} (hok : s.Ok) {n : List UInt8} (hl : (segsL s.L).getLast? = some n) : ∀ x ∈ segsL s.L, segV x ≤ segV n := by
  intro x hx
  have hst := segsL_strict hok.rise
  obtain ⟨P, hP⟩ := List.getLast?_eq_some_iff.1 hl
  rw [hP] at hst hx
  rcases List.mem_append.1 hx with hx | hx
  · exact Nat.le_of_lt ((List.pairwise_append.1 hst).2.2 x hx n (by simp))
  · simp at hx; subst hx; exact Nat.le_refl _
theorem room_max {s : Dk} (h : Good s) (hs : segsL s.L ≠ []) : (segsL s.L).getLast? = some (roomL s).1 ∨ ∀ x ∈ segsL s.L, segV x < segV (roomL s).1 := by
  have hl := lastL_some hs
  unfold roomL
  by_cases hf : fullL s
  · rw [if_pos hf]; exact .inl hl
  · rw [if_neg hf]
    right
    intro x hx
    have h1 := le_last h.ok hl x hx
    have hne : ¬ segV (lastL s).1 = 999999 := fun e => hf (.inr (.inr (.inl e)))
    have hle := segV_le (lastL s).1
    show segV x < segV (segN (segV (lastL s).1 + 1 : Nat))
    rw [segV_segN (by omega) (by omega)]
    omega
theorem takeRs_entries : ∀ (l : List En) (g : Lg), takeRs g (l.map .entry) = { g with L := putEs g.L l }
  | [], g => rfl
  | e :: r, g => by
    have := takeRs_entries r (takeR g (.entry e))
    unfold takeRs at this ⊢
    rw [List.map_cons, List.foldl_cons, this]
    rfl
theorem hard_short (h : Hd) (h1 : I64 h.term) (h2 : I64 h.vote) : (payL (.hard h)).length ≤ 65536 := by
  have := encs_length [1, h.term, h.vote] (by intro m hm; simp at hm; rcases hm with rfl | rfl | rfl; exact ⟨by omega, by omega⟩; exact h1; exact h2)
  show (encs [1, h.term, h.vote]).length ≤ 65536
  simp at this
  omega
theorem reset_short : (payL .reset).length ≤ 65536 := by
  have := encs_length [3] (by intro m hm; simp at hm; subst hm; exact ⟨by omega, by omega⟩)
  show (encs [3]).length ≤ 65536
  simp at this
  omega
theorem RecInv.save {s : Dk} {g : Lg} (h : Good s) (hR : RecInv s g) (hg : g.Ok) (hd : Hd) (l : List En) (h1 : I64 hd.term ∧ I64 hd.vote) (h2 : ∀ e ∈ l, e.In ∧ e.data.length ≤ 60000) : RecInv (saveL s g hd l).1 (saveL s g hd l).2.1 := by
  rcases h.save g hd l with ⟨e, _⟩ | ⟨e, _⟩ | ⟨e, _⟩ | ⟨e, hg', h3, h4, _, _⟩
  · rw [e]; exact hR
  · rw [e]; exact hR
  · rw [e]; exact hR
  · have e1 : (saveL s g hd l).2.1 = ⟨hd, putEs g.L l⟩ := by rw [e]
    have e2 : (saveL s g hd l).2.2 = 0 := by rw [e]
    rw [e1]
    obtain ⟨r1, r2, r3⟩ := h.room
    have hmax := room_max h hR.ne0
    by_cases hemp : l = [] ∧ hd = g.hd
    · have : saveL s g hd l = (s, g, 0) := by
        unfold saveL
        rw [if_neg (by rw [h3, h4]; simp), if_pos hemp]
      rw [this]
      obtain ⟨rfl, rfl⟩ := hemp
      exact hR
    have hsv : saveL s g hd l = laid s g ⟨hd, putEs g.L l⟩ (roomL s).1 (hdRec s (roomL s).2.1 g hd ++ entRecs l) := by
      unfold saveL
      rw [if_neg (by rw [h3, h4]; simp), if_neg hemp, h.alive, if_neg (by simp), if_neg (by simp [r1])]
    rw [hsv] at e2 hg' ⊢
    unfold laid at e2 hg' ⊢
    simp only at e2 hg' ⊢
    have hrc : hdRec s (roomL s).2.1 g hd ++ entRecs l = rcsL ((if (roomL s).2.1 = 0 ∨ hd ≠ g.hd then [.hard hd] else []) ++ l.map .entry) := by
      unfold hdRec entRecs
      by_cases hz : (roomL s).2.1 = 0 ∨ hd ≠ g.hd
      · rw [if_pos hz, if_pos hz]; simp [rcsL]
      · rw [if_neg hz, if_neg hz]; simp
    rw [hrc] at e2 hg' ⊢
    have hst : takeRs g ((if (roomL s).2.1 = 0 ∨ hd ≠ g.hd then [.hard hd] else []) ++ l.map .entry) = ⟨hd, putEs g.L l⟩ := by
      rw [takeRs_append, takeRs_entries]
      by_cases hz : (roomL s).2.1 = 0 ∨ hd ≠ g.hd
      · rw [if_pos hz]; rfl
      · rw [if_neg hz]
        have : hd = g.hd := by
          by_cases e : hd = g.hd
          · exact e
          · exact absurd (.inr e) hz
        rw [this]; rfl
    rw [← hst]
    refine RecInv.write h hR r2 hmax (fun r hr => ?_) e2 hg'
    rcases List.mem_append.1 hr with hr | hr
    · by_cases hz : (roomL s).2.1 = 0 ∨ hd ≠ g.hd
      · rw [if_pos hz] at hr; simp at hr; subst hr; exact ⟨⟨h4, h1.1, h1.2⟩, hard_short hd h1.1 h1.2⟩
      · rw [if_neg hz] at hr; simp at hr
    · obtain ⟨e, he, rfl⟩ := List.mem_map.1 hr
      obtain ⟨q1, q2⟩ := h2 e he
      exact ⟨⟨all_entB h3 e he, q1, by omega⟩, (entRec_len q1 q2).1⟩
theorem RecInv.reset {s : Dk} {g : Lg} (h : Good s) (hR : RecInv s g) (hg : g.Ok) : RecInv (resetL s g).1 (resetL s g).2.1 := by
  rcases h.reset g with ⟨e, _⟩ | ⟨e, hg', _⟩
  · rw [e]; exact hR
  · have e1 : (resetL s g).2.1 = ⟨g.hd, []⟩ := by rw [e]
    have e2 : (resetL s g).2.2 = 0 := by rw [e]
    rw [e1]
    obtain ⟨r1, r2, r3⟩ := h.last
    have hsv : resetL s g = laid s g ⟨g.hd, []⟩ (lastL s).1 ((if (lastL s).2.1 = 0 then rcL (.hard g.hd) else []) ++ rcL .reset) := by
      unfold resetL
      rw [h.alive, if_neg (by simp), if_neg (by simp [r1])]
    rw [hsv] at e2 hg' ⊢
    unfold laid at e2 hg' ⊢
    simp only at e2 hg' ⊢
    have hrc : (if (lastL s).2.1 = 0 then rcL (.hard g.hd) else []) ++ rcL .reset = rcsL ((if (lastL s).2.1 = 0 then [.hard g.hd] else []) ++ [.reset]) := by
      by_cases hz : (lastL s).2.1 = 0
      · rw [if_pos hz, if_pos hz]; simp [rcsL]
      · rw [if_neg hz, if_neg hz]; simp [rcsL]
    rw [hrc] at e2 hg' ⊢
    have hst : takeRs g ((if (lastL s).2.1 = 0 then [.hard g.hd] else []) ++ [.reset]) = ⟨g.hd, []⟩ := by
      rw [takeRs_append]
      by_cases hz : (lastL s).2.1 = 0
      · rw [if_pos hz]; rfl
      · rw [if_neg hz]; rfl
    rw [← hst]
    refine RecInv.write h hR r2 (.inl (lastL_some hR.ne0)) (fun r hr => ?_) e2 hg'
    rcases List.mem_append.1 hr with hr | hr
    · by_cases hz : (lastL s).2.1 = 0
      · rw [if_pos hz] at hr; simp at hr; subst hr; exact ⟨⟨hg.hd.1, hg.hd.2.1, hg.hd.2.2⟩, hard_short _ hg.hd.2.1 hg.hd.2.2⟩
      · rw [if_neg hz] at hr; simp at hr
    · simp at hr; subst hr; exact ⟨trivial, reset_short⟩
theorem RecInv.act {s : Dk} {g : Lg} (h : Good s) (hR : RecInv s g) (hg : g.Ok) {a : Wa} (ha : WaOk a) : RecInv (actW s g a).1 (actW s g a).2.1 := by
  unfold actW
  split
  · exact hR.reset h hg
  · exact hR.save h hg _ _ (hdA_in ha) (fun e he => by have := entA_in ha e he; exact ⟨this.1, by omega⟩)
theorem recInv_begin {m : Int} (h0 : 100 ≤ m) (h1 : m ≤ 10000000) : RecInv (open0 (newD m)).1 g0 := by
  obtain ⟨k1, k2, _⟩ := open0_good h0 h1
  have hnew : Good (newD m) := good_new (by omega) h1
  have hn : isSeg (segN 1) = true := isSeg_segN (n := 1) (by omega) (by omega)
  have hrc : rcL (.hard ⟨0, 0⟩) = rcsL [.hard ⟨0, 0⟩] := by simp [rcsL]
  unfold open0 at k1 k2 ⊢
  have hwr := hnew.wr hn (rcL (.hard ⟨0, 0⟩)) k1
  obtain ⟨s', hs'⟩ : ∃ s', (wrL (newD m) (segN 1) (rcL (.hard ⟨0, 0⟩))).1 = s' := ⟨_, rfl⟩
  rw [hs'] at hwr k2 ⊢
  have hseg : segsL s'.L = [segN 1] := strict_eq segV (segsL_strict k2.ok.rise) (by simp) (fun x => by
    rw [mem_segsL, mem_fnd k2.ok.rise, hwr]
    by_cases hx : x = segN 1
    · subst hx; rw [if_pos rfl]; simp [hn]
    · rw [if_neg hx]; simp [newD, fndK, hx])
  have hf : ∀ r ∈ [Rc.hard ⟨0, 0⟩], r.Fits ∧ (payL r).length ≤ 65536 := fun r hr => by
    simp at hr
    subst hr
    exact ⟨⟨by decide, ⟨by show _ ≤ (0 : Int); omega, by show (0 : Int) ≤ _; omega⟩, ⟨by show _ ≤ (0 : Int); omega, by show (0 : Int) ≤ _; omega⟩⟩, hard_short _ ⟨by show _ ≤ (0 : Int); omega, by show (0 : Int) ≤ _; omega⟩ ⟨by show _ ≤ (0 : Int); omega, by show (0 : Int) ≤ _; omega⟩⟩
  have hsc := scanL_app (a := []) (by rw [scanL_nil]) hf
  rw [List.nil_append, scanL_nil, List.nil_append, ← hrc] at hsc
  have hdn : dat s' (segN 1) = rcL (.hard ⟨0, 0⟩) := by
    unfold dat
    rw [hwr, if_pos rfl]
    show dat (newD m) (segN 1) ++ _ = _
    rw [show dat (newD m) (segN 1) = [] from rfl, List.nil_append]
  refine ⟨fun n hn => ?_, ?_, by rw [hseg]; simp⟩
  · rw [hseg] at hn; simp at hn; subst hn; rw [hdn]; exact hsc.2
  · rw [hseg, show [segN 1].flatMap (recs s') = recs s' (segN 1) from by simp]
    unfold recs
    rw [hdn, hsc.1]
    rfl
/-! ### how many records there are -/
theorem rcsL_length : ∀ R : List Rc, 8 * R.length ≤ (rcsL R).length
  | [] => by simp [rcsL]
  | r :: R => by
    have h1 := rcL_pos r
    have h2 := rcsL_length R
    have : rcsL (r :: R) = rcL r ++ rcsL R := by simp [rcsL]
    rw [this, List.length_append, List.length_cons]
    omega
theorem recs_len (s : Dk) (n : List UInt8) : 8 * (recs s n).length ≤ (dat s n).length := by
  obtain ⟨i1, i2, _⟩ := scanL_le (dat s n).length (dat s n) (Nat.le_refl _)
  have h := rcsL_length (recs s n)
  unfold recs at h ⊢
  rw [i2] at h
  have := List.length_take_le (scanL (dat s n)).2.1 (dat s n)
  omega
theorem flat_len {s : Dk} : ∀ l : List (List UInt8), 8 * (l.flatMap (recs s)).length ≤ (l.map fun n => (dat s n).length).sum
  | [] => by simp
  | n :: l => by
    have h1 := recs_len s n
    have h2 := flat_len (s := s) l
    rw [List.flatMap_cons, List.length_append, List.map_cons, List.sum_cons]
    omega
theorem segs_sz {s : Dk} (h : Good s) : ((segsL s.L).map fun n => (dat s n).length).sum = sz s.L := by
  rw [((segsL_perm s.L).map _).sum_nat, h.names, List.map_map]
  unfold sz
  congr 1
  refine List.map_congr_left (fun f hf => ?_)
  show (dat s f.name).length = f.data.length
  unfold dat
  rw [show f.name = AF.key f from rfl, fndK_of_mem h.ok.rise hf]
  rfl
theorem RecInv.few {s : Dk} {g : Lg} (h : Good s) (hR : RecInv s g) : 8 * ((segsL s.L).flatMap (recs s)).length ≤ sz s.L := by
  have := flat_len (s := s) (segsL s.L)
  rw [segs_sz h] at this
  exact this
theorem takeR_len (g : Lg) (r : Rc) : (takeR g r).L.length ≤ g.L.length + 1 := by
  cases r with
  | hard h => show g.L.length ≤ _; omega
  | entry e => exact putE_len g.L e
  | reset => show 0 ≤ _; omega
theorem takeRs_len : ∀ (R : List Rc) (g : Lg), (takeRs g R).L.length ≤ g.L.length + R.length
  | [], g => Nat.le_refl _
  | r :: R, g => by
    have h1 := takeR_len g r
    have h2 := takeRs_len R (takeR g r)
    have : takeRs g (r :: R) = takeRs (takeR g r) R := rfl
    rw [this, List.length_cons]
    omega
end Go.Proofs.YtbidglefddmjhaaGreatDoor

/-
  LAYER 3 (wal), plain mathematics: a write on a disk whose power may go.
-/
namespace Go.Proofs.YtbidglefddmjhaaGreatDoor
open Go.RowKit
set_option linter.unusedVariables false
set_option maxRecDepth 100000

/-- The disk, its fuse aside. -/
def cool (s : Dk) : Dk := { s with fuse := -1 }
/-- All that is there is synced. -/
def AllS (s : Dk) : Prop := ∀ f ∈ s.L, f.synced = f.data.length
theorem app_fuse {s : Dk} (hG : Good (cool s)) (hS : AllS s) {n : List UInt8} (hn : isSeg n = true) (hl : n ∈ s.L.map AF.name ∨ s.L.length < 20) (d : List UInt8) :
    (∀ x, app { s with fuse := x } n d = ({ s with fuse := x }, 6)) ∨
    ∃ L1, (∀ x, app { s with fuse := x } n d = spends { s with fuse := x } fun s => { s with L := L1 }) ∧ (∀ m, fndK AF.key m L1 = if m = n then some ⟨n, dat s n ++ d, (dat s n).length⟩ else fndK AF.key m s.L) := by
  have hnm := seg_isName hn
  have halive : s.dead = false := hG.alive
  by_cases hroom : s.most - sz s.L < (d.length : Int)
  · left
    intro x
    unfold app
    rw [if_neg (by show ¬ s.dead = true; rw [halive]; simp), if_neg (by simp [hnm])]
    show (match fndK AF.key n s.L with | none => _ | some f => _) = _
    cases hf : fndK AF.key n s.L with
    | none =>
      simp only
      rw [if_neg, if_pos hroom]
      rcases hl with hl | hl
      · obtain ⟨f, hf2, _⟩ := rd_in (s := cool s) hG.alive hG.ok hl
        rw [show (cool s).L = s.L from rfl, hf] at hf2
        cases hf2
      · show ¬ 40 ≤ s.L.length
        omega
    | some f => simp only; rw [if_pos hroom]
  · right
    cases hf : fndK AF.key n s.L with
    | none =>
      have hne : ∀ x ∈ s.L, AF.key x ≠ n := fndK_none hf
      have hdat : dat s n = [] := by unfold dat; rw [hf]; rfl
      refine ⟨insK AF.key (newF n d) s.L, fun x => ?_, fun m => ?_⟩
      · unfold app
        rw [if_neg (by show ¬ s.dead = true; rw [halive]; simp), if_neg (by simp [hnm])]
        show (match fndK AF.key n s.L with | none => _ | some f => _) = _
        rw [hf]
        simp only
        have hmany : ¬ 40 ≤ s.L.length := by
          rcases hl with hl | hl
          · obtain ⟨f, hf2, _⟩ := rd_in (s := cool s) hG.alive hG.ok hl
            rw [show (cool s).L = s.L from rfl, hf] at hf2
            cases hf2
          · omega
        rw [if_neg hmany, if_neg hroom]
        unfold spends
        rfl
      · rw [fndK_ins (f := newF n d) hne, hdat]
        rfl
    | some f =>
      have hfn : f.name = n := (fndK_some hf).2
      have hfm : f ∈ s.L := (fndK_some hf).1
      have hdat : dat s n = f.data := by unfold dat; rw [hf]; rfl
      refine ⟨updK AF.key n (addF d) s.L, fun x => ?_, fun m => ?_⟩
      · unfold app
        rw [if_neg (by show ¬ s.dead = true; rw [halive]; simp), if_neg (by simp [hnm])]
        show (match fndK AF.key n s.L with | none => _ | some f => _) = _
        rw [hf]
        simp only
        rw [if_neg hroom]
        unfold spends
        rfl
      · rw [fndK_upd (key := AF.key) (g := addF d) (fun _ => rfl), hdat]
        by_cases hm : m = n
        · rw [if_pos hm, if_pos hm, hf]
          show some (addF d f) = _
          unfold addF
          rw [hfn, hS f hfm]
        · rw [if_neg hm, if_neg hm]
/-- How a write ends: as on a disk without a fuse; or dead ahead of it; or dead with the bytes laid but not synced. -/
theorem wr_fuse {s : Dk} (hG : Good (cool s)) (hS : AllS s) (hf : -1 ≤ s.fuse) {n : List UInt8} (hn : isSeg n = true) (hl : n ∈ s.L.map AF.name ∨ s.L.length < 20) (d : List UInt8) :
    (∃ f, -1 ≤ f ∧ f ≤ s.fuse ∧ wrL s n d = ({ (wrL (cool s) n d).1 with fuse := f }, (wrL (cool s) n d).2)) ∨
    wrL s n d = ({ s with dead := true }, 7) ∨
    ∃ L1, wrL s n d = ({ s with L := L1, fuse := 0, dead := true }, 7) ∧ ∀ m, fndK AF.key m L1 = if m = n then some ⟨n, dat s n ++ d, (dat s n).length⟩ else fndK AF.key m s.L := by
  have halive : s.dead = false := hG.alive
  rcases app_fuse hG hS hn hl d with h6 | ⟨L1, ha, hfnd⟩
  · refine .inl ⟨s.fuse, hf, Int.le_refl _, ?_⟩
    have h1 := h6 s.fuse
    have h2 := h6 (-1)
    have e1 : wrL s n d = (s, 6) := by unfold wrL; rw [show s = { s with fuse := s.fuse } from rfl, h1]; rfl
    have e2 : wrL (cool s) n d = (cool s, 6) := by unfold wrL; rw [show cool s = { s with fuse := -1 } from rfl, h2]; rfl
    rw [e1, e2]
    rfl
  · have hn1 : fndK AF.key n L1 = some ⟨n, dat s n ++ d, (dat s n).length⟩ := by rw [hfnd, if_pos rfl]
    have hsyn : ∀ x : Int, syn { s with fuse := x, L := L1 } n = spends { s with fuse := x, L := L1 } fun s => { s with L := updK AF.key n syncF s.L } := fun x => by
      unfold syn need
      rw [if_neg (by show ¬ s.dead = true; rw [halive]; simp)]
      show (match fndK AF.key n L1 with | none => _ | some f => _) = _
      rw [hn1]
    have hcool : wrL (cool s) n d = ({ s with fuse := -1, L := updK AF.key n syncF L1 }, 0) := by
      have h1 := ha (-1)
      unfold spends at h1
      rw [if_neg (by show ¬ ((-1 : Int) = 0); decide), if_neg (by show ¬ ((0 : Int) < -1); decide)] at h1
      have h2 := hsyn (-1)
      unfold spends at h2
      rw [if_neg (by show ¬ ((-1 : Int) = 0); decide), if_neg (by show ¬ ((0 : Int) < -1); decide)] at h2
      unfold wrL
      rw [show cool s = { s with fuse := -1 } from rfl, h1, if_pos rfl]
      exact h2
    by_cases h0 : s.fuse = 0
    · refine .inr (.inl ?_)
      have h1 := ha s.fuse
      unfold spends at h1
      rw [if_pos h0] at h1
      unfold wrL
      rw [show s = { s with fuse := s.fuse } from rfl, h1]
      rfl
    · by_cases hneg : s.fuse < 0
      · refine .inl ⟨-1, Int.le_refl _, hf, ?_⟩
        have hs1 : s.fuse = -1 := by omega
        have : cool s = s := by unfold cool; rw [← hs1]
        rw [this] at hcool ⊢
        rw [hcool]
      · have h1 := ha s.fuse
        unfold spends at h1
        rw [if_neg h0, if_pos (by show 0 < s.fuse; omega)] at h1
        have e1 : wrL s n d = syn { s with fuse := s.fuse - 1, L := L1 } n := by
          unfold wrL
          rw [show s = { s with fuse := s.fuse } from rfl, h1]
          rfl
        have h2 := hsyn (s.fuse - 1)
        by_cases h10 : s.fuse - 1 = 0
        · refine .inr (.inr ⟨L1, ?_, hfnd⟩)
          rw [e1, h2]
          unfold spends
          rw [if_pos h10]
          show ({ s with fuse := s.fuse - 1, L := L1, dead := true }, (7 : Int)) = _
          rw [h10]
        · refine .inl ⟨s.fuse - 1 - 1, by omega, by omega, ?_⟩
          rw [e1, h2, hcool]
          unfold spends
          rw [if_neg h10, if_pos (by show 0 < s.fuse - 1; omega)]
end Go.Proofs.YtbidglefddmjhaaGreatDoor

/-
  LAYER 3 (wal), plain mathematics: what a scan makes of a write that a crash tore.
-/
namespace Go.Proofs.YtbidglefddmjhaaGreatDoor
open Go.RowKit
set_option linter.unusedVariables false
set_option maxRecDepth 100000

/-- Of the bytes d the first k, the last of them turned. -/
def tornL (d : List UInt8) (k : Nat) (e : UInt8) : List UInt8 := if k = 0 then [] else (d.take k).set (k - 1) (d.getD (k - 1) 0 ^^^ e)
theorem torn_len {d : List UInt8} {k : Nat} (hk : k ≤ d.length) (e : UInt8) : (tornL d k e).length = k := by
  unfold tornL
  split
  · rename_i h; rw [h]; rfl
  · rw [List.length_set, List.length_take]; omega
theorem torn_left {a b : List UInt8} {k : Nat} (hk : k ≤ a.length) (e : UInt8) : tornL (a ++ b) k e = tornL a k e := by
  unfold tornL
  split
  · rfl
  · rename_i h0
    rw [List.take_append_of_le_length hk, List.getD_eq_getElem?_getD, List.getD_eq_getElem?_getD, List.getElem?_append_left (by omega)]
theorem torn_right {a b : List UInt8} {k : Nat} (hk : a.length < k) (e : UInt8) : tornL (a ++ b) k e = a ++ tornL b (k - a.length) e := by
  unfold tornL
  rw [if_neg (by omega), if_neg (by omega), List.take_append, List.take_of_length_le (by omega), List.set_append_right _ _ (by omega), List.getD_eq_getElem?_getD, List.getD_eq_getElem?_getD, List.getElem?_append_right (by omega), show k - 1 - a.length = k - a.length - 1 from by omega]
theorem torn_zero (d : List UInt8) (e : UInt8) : tornL d 0 e = [] := by unfold tornL; rw [if_pos rfl]
theorem torn_whole (d : List UInt8) : tornL d d.length 0 = d := by
  unfold tornL
  split
  · rename_i h; exact (List.length_eq_zero_iff.1 h).symm
  · rename_i h
    rw [List.take_length, UInt8.xor_zero]
    refine List.ext_getElem? fun i => ?_
    rw [List.getElem?_set]
    split
    · rename_i hi
      subst hi
      rw [if_pos (by omega), List.getD_eq_getElem?_getD, List.getElem?_eq_getElem (by omega)]
      rfl
    · rfl
theorem unframe_short {t : List UInt8} (h : t.length < 8 + toWordL t) : (unframe t).1 = [] ∧ (unframe t).2.2 ≠ 9 := by
  unfold unframe
  by_cases h1 : t.length < 4
  · rw [if_pos h1]; exact ⟨rfl, by decide⟩
  · rw [if_neg h1]
    by_cases h2 : 65536 < toWordL t
    · rw [if_pos h2]; exact ⟨rfl, by decide⟩
    · rw [if_neg h2, if_pos h]; exact ⟨rfl, by decide⟩
theorem torn_short {l : List UInt8} (hl : l.length ≤ 65536) {k : Nat} (h0 : 0 < k) (hk : k < 8 + l.length) (e : UInt8) : (tornL (frameL l) k e).length < 8 + toWordL (tornL (frameL l) k e) := by
  have hlen := torn_len (d := frameL l) (k := k) (by rw [frameL_length]; omega) e
  by_cases h4 : k ≤ 4
  · omega
  · have ht4 : (tornL (frameL l) k e).take 4 = word l.length := by
      unfold tornL
      rw [if_neg (by omega), List.take_set_of_le (by omega), List.take_take, show min 4 k = 4 from by omega]
      unfold frameL
      rw [List.append_assoc]
      rfl
    have htw : toWordL (tornL (frameL l) k e) = l.length := by
      have h1 : tornL (frameL l) k e = word l.length ++ (tornL (frameL l) k e).drop 4 := by rw [← ht4, List.take_append_drop]
      rw [h1]
      exact toWord_word (by omega) _
    rw [htw]
    omega
/-- A torn row of records is read as its beginning. -/
theorem scan_torn : ∀ (R : List Rc) (k : Nat) (e : UInt8), (∀ r ∈ R, r.Fits ∧ (payL r).length ≤ 65536) → k ≤ (rcsL R).length → ∃ j, j ≤ R.length ∧ (scanL (tornL (rcsL R) k e)).1 = R.take j
  | [], k, e, _, hk => by
    have hk0 : k = 0 := by simpa [rcsL] using hk
    subst hk0
    exact ⟨0, Nat.zero_le _, by rw [torn_zero, scanL_nil]; rfl⟩
  | r :: R, k, e, hf, hk => by
    obtain ⟨f1, f2⟩ := hf r (by simp)
    have hcat : rcsL (r :: R) = rcL r ++ rcsL R := by simp [rcsL]
    have hrl : (rcL r).length = 8 + (payL r).length := frameL_length _
    rw [hcat] at hk ⊢
    by_cases h0 : k = 0
    · subst h0
      exact ⟨0, Nat.zero_le _, by rw [torn_zero, scanL_nil]; rfl⟩
    by_cases hlt : (rcL r).length < k
    · rw [torn_right hlt]
      rw [List.length_append] at hk
      obtain ⟨j, hj, hs⟩ := scan_torn R (k - (rcL r).length) e (fun q hq => hf q (by simp [hq])) (by omega)
      refine ⟨j + 1, by simp; omega, ?_⟩
      rw [scanL_rc f1 f2, hs]
      rfl
    · rw [torn_left (by omega)]
      have hlen := torn_len (d := rcL r) (k := k) (by omega) e
      have hne : tornL (rcL r) k e ≠ [] := fun h => by rw [h] at hlen; exact h0 hlen.symm
      by_cases heq : k = (rcL r).length
      · by_cases he : e = 0
        · subst he heq
          refine ⟨1, by simp, ?_⟩
          rw [torn_whole]
          have := scanL_rc f1 f2 []
          rw [List.append_nil, scanL_nil] at this
          rw [this]
          rfl
        · refine ⟨0, Nat.zero_le _, ?_⟩
          obtain ⟨c, hc⟩ : ∃ c, (frameL (payL r))[k - 1]? = some c := ⟨_, List.getElem?_eq_getElem (by rw [frameL_length]; omega)⟩
          have ht := unframe_turn (payL r) f2 (k - 1) (by omega) (by omega) c e hc he
          have htn : tornL (rcL r) k e = (frameL (payL r)).set (k - 1) (c ^^^ e) := by
            unfold tornL
            rw [if_neg h0, heq, List.take_length, ← heq, show rcL r = frameL (payL r) from rfl, List.getD_eq_getElem?_getD, hc]
            rfl
          rw [scanL_sum hne (by rw [htn, ht])]
          rfl
      · refine ⟨0, Nat.zero_le _, ?_⟩
        obtain ⟨u1, u2⟩ := unframe_short (torn_short (l := payL r) f2 (k := k) (by omega) (by omega) e)
        rw [scanL_none hne u2 (by show decR (unframe (tornL (frameL (payL r)) k e)).1 = none; rw [u1, decR_nil])]
        rfl
end Go.Proofs.YtbidglefddmjhaaGreatDoor

/-
  LAYER 3 (wal), plain mathematics: a call in whose midst the power goes; what a crash leaves of it.
-/
namespace Go.Proofs.YtbidglefddmjhaaGreatDoor
open Go.RowKit
set_option linter.unusedVariables false
set_option maxRecDepth 100000

/-- A disk that died in the midst of a write of the records R to the segment n. -/
structure Died (s s' : Dk) (n : List UInt8) (R : List Rc) : Prop where
  dead : s'.dead = true
  most : s'.most = s.most
  how : s'.L = s.L ∨ ∀ m, fndK AF.key m s'.L = if m = n then some ⟨n, dat s n ++ rcsL R, (dat s n).length⟩ else fndK AF.key m s.L
theorem laid_fuse {s : Dk} (hG : Good (cool s)) (hS : AllS s) (hf : -1 ≤ s.fuse) {n : List UInt8} (hn : isSeg n = true) (hl : n ∈ s.L.map AF.name ∨ s.L.length < 20) (g g' : Lg) (R : List Rc) :
    (∃ f, -1 ≤ f ∧ f ≤ s.fuse ∧ laid s g g' n (rcsL R) = ({ (laid (cool s) g g' n (rcsL R)).1 with fuse := f }, (laid (cool s) g g' n (rcsL R)).2)) ∨
    ((laid s g g' n (rcsL R)).2 = (g, 7) ∧ Died s (laid s g g' n (rcsL R)).1 n R) := by
  unfold laid
  rcases wr_fuse hG hS hf hn hl (rcsL R) with ⟨f, h1, h2, h3⟩ | h3 | ⟨L1, h3, h4⟩
  · refine .inl ⟨f, h1, h2, ?_⟩
    rw [h3]
  · refine .inr ⟨?_, ?_⟩
    · rw [h3]; rfl
    · rw [h3]; exact ⟨rfl, rfl, .inl rfl⟩
  · refine .inr ⟨?_, ?_⟩
    · rw [h3]; rfl
    · rw [h3]; exact ⟨rfl, rfl, .inr h4⟩
/-- The records that Save lays. -/
def saveR (s : Dk) (g : Lg) (hd : Hd) (l : List En) : List Rc := (if (roomL s).2.1 = 0 ∨ hd ≠ g.hd then [.hard hd] else []) ++ l.map .entry
def resetR (s : Dk) (g : Lg) : List Rc := (if (lastL s).2.1 = 0 then [.hard g.hd] else []) ++ [.reset]
theorem saveR_bytes (s : Dk) (g : Lg) (hd : Hd) (l : List En) : hdRec s (roomL s).2.1 g hd ++ entRecs l = rcsL (saveR s g hd l) := by
  unfold hdRec entRecs saveR
  by_cases hz : (roomL s).2.1 = 0 ∨ hd ≠ g.hd
  · rw [if_pos hz, if_pos hz]; simp [rcsL]
  · rw [if_neg hz, if_neg hz]; simp
theorem resetR_bytes (s : Dk) (g : Lg) : (if (lastL s).2.1 = 0 then rcL (.hard g.hd) else []) ++ rcL .reset = rcsL (resetR s g) := by
  unfold resetR
  by_cases hz : (lastL s).2.1 = 0
  · rw [if_pos hz, if_pos hz]; simp [rcsL]
  · rw [if_neg hz, if_neg hz]; simp [rcsL]
theorem save_fuse {s : Dk} (hG : Good (cool s)) (hS : AllS s) (hf : -1 ≤ s.fuse) (g : Lg) (hd : Hd) (l : List En) :
    (∃ f, -1 ≤ f ∧ f ≤ s.fuse ∧ saveL s g hd l = ({ (saveL (cool s) g hd l).1 with fuse := f }, (saveL (cool s) g hd l).2)) ∨
    ((saveL s g hd l).2 = (g, 7) ∧ l.all entB = true ∧ hdB hd = true ∧ Died s (saveL s g hd l).1 (roomL s).1 (saveR s g hd l)) := by
  have halive : s.dead = false := hG.alive
  by_cases h1 : l.all entB = false ∨ hdB hd = false
  · refine .inl ⟨s.fuse, hf, Int.le_refl _, ?_⟩
    unfold saveL
    rw [if_pos h1, if_pos h1]
    rfl
  · by_cases h2 : l = [] ∧ hd = g.hd
    · refine .inl ⟨s.fuse, hf, Int.le_refl _, ?_⟩
      unfold saveL
      rw [if_neg h1, if_neg h1, if_pos h2, if_pos h2]
      rfl
    · obtain ⟨r1, r2, r3⟩ := hG.room
      have e1 : saveL s g hd l = laid s g ⟨hd, putEs g.L l⟩ (roomL s).1 (rcsL (saveR s g hd l)) := by
        rw [← saveR_bytes]
        unfold saveL
        rw [if_neg h1, if_neg h2, halive, if_neg (by simp), if_neg (by rw [show (roomL s).2.2 = (roomL (cool s)).2.2 from rfl, r1]; simp)]
      have e2 : saveL (cool s) g hd l = laid (cool s) g ⟨hd, putEs g.L l⟩ (roomL s).1 (rcsL (saveR s g hd l)) := by
        rw [← saveR_bytes]
        unfold saveL
        rw [if_neg h1, if_neg h2, show (cool s).dead = false from halive, if_neg (by simp), if_neg (by rw [r1]; simp)]
        rfl
      rw [e1, e2]
      rcases laid_fuse hG hS hf r2 r3 g ⟨hd, putEs g.L l⟩ (saveR s g hd l) with h | ⟨h3, h4⟩
      · exact .inl h
      · refine .inr ⟨h3, ?_, ?_, h4⟩
        · cases hh : l.all entB with
          | true => rfl
          | false => exact absurd (.inl hh) h1
        · cases hh : hdB hd with
          | true => rfl
          | false => exact absurd (.inr hh) h1
theorem reset_fuse {s : Dk} (hG : Good (cool s)) (hS : AllS s) (hf : -1 ≤ s.fuse) (g : Lg) :
    (∃ f, -1 ≤ f ∧ f ≤ s.fuse ∧ resetL s g = ({ (resetL (cool s) g).1 with fuse := f }, (resetL (cool s) g).2)) ∨
    ((resetL s g).2 = (g, 7) ∧ Died s (resetL s g).1 (lastL s).1 (resetR s g)) := by
  have halive : s.dead = false := hG.alive
  obtain ⟨r1, r2, r3⟩ := hG.last
  have e1 : resetL s g = laid s g ⟨g.hd, []⟩ (lastL s).1 (rcsL (resetR s g)) := by
    rw [← resetR_bytes]
    unfold resetL
    rw [halive, if_neg (by simp), if_neg (by rw [show (lastL s).2.2 = (lastL (cool s)).2.2 from rfl, r1]; simp)]
  have e2 : resetL (cool s) g = laid (cool s) g ⟨g.hd, []⟩ (lastL s).1 (rcsL (resetR s g)) := by
    rw [← resetR_bytes]
    unfold resetL
    rw [show (cool s).dead = false from halive, if_neg (by simp), if_neg (by rw [r1]; simp)]
    rfl
  rw [e1, e2]
  exact laid_fuse hG hS hf r2 (r3.imp id (fun e => by show s.L.length < 20; rw [show s.L = (cool s).L from rfl, e]; simp)) g ⟨g.hd, []⟩ (resetR s g)
/-! ### the crash -/
theorem crL_full : ∀ (L : List AF) (ks ns : List Int), (∀ f ∈ L, f.synced = f.data.length) → crL L ks ns = L
  | [], _, _, _ => rfl
  | x :: r, ks, ns, h => by
    have hx := h x (by simp)
    rw [crL, if_neg (by omega), crL_full r ks ns (fun f hf => h f (by simp [hf]))]
def crOne (k z : Int) (f : AF) : AF := if f.synced < f.data.length then crF f k z else f
theorem crOne_name (k z : Int) (f : AF) : (crOne k z f).name = f.name := by
  unfold crOne
  split
  · rfl
  · rfl
theorem updK_out {n : List UInt8} {H : AF → AF} {L : List AF} (h : ∀ f ∈ L, f.name ≠ n) : updK AF.key n H L = L := by
  unfold updK
  conv => rhs; rw [← List.map_id L]
  exact List.map_congr_left (fun f hf => by rw [if_neg (h f hf)]; rfl)
theorem crL_one {n : List UInt8} : ∀ (L : List AF) (ks ns : List Int), RiseK AF.key L → (∀ f ∈ L, f.name ≠ n → f.synced = f.data.length) → crL L ks ns = updK AF.key n (crOne (ks.headD 0) (ns.headD 0)) L
  | [], _, _, _, _ => rfl
  | x :: r, ks, ns, hr, h => by
    obtain ⟨h1, h2⟩ := List.pairwise_cons.1 hr
    have hcons : updK AF.key n (crOne (ks.headD 0) (ns.headD 0)) (x :: r) = (if AF.key x = n then crOne (ks.headD 0) (ns.headD 0) x else x) :: updK AF.key n (crOne (ks.headD 0) (ns.headD 0)) r := rfl
    rw [hcons]
    by_cases hx : x.synced < x.data.length
    · have hxn : x.name = n := by
        by_cases e : x.name = n
        · exact e
        · have := h x (by simp) e; omega
      have hout : ∀ f ∈ r, f.name ≠ n := fun f hf e => by
        have := h1 f hf
        rw [show AF.key x = x.name from rfl, show AF.key f = f.name from rfl, hxn, e] at this
        exact blt_irrefl _ this
      rw [crL, if_pos hx, if_pos hxn, updK_out hout, crL_full r _ _ (fun f hf => h f (by simp [hf]) (hout f hf))]
      unfold crOne
      rw [if_pos hx]
    · rw [crL, if_neg hx, crL_one r ks ns h2 (fun f hf => h f (by simp [hf]))]
      congr 1
      split
      · unfold crOne; rw [if_neg hx]
      · rfl
/-- What a crash leaves: all as it was, or the segment with a beginning of what was laid, its last byte turned. -/
theorem crash_died {s s' : Dk} {n : List UInt8} {R : List Rc} (hr : RiseK AF.key s.L) (hr' : RiseK AF.key s'.L) (hS : AllS s) (hD : Died s s' n R) (ks ns : List Int) :
    (crash s' ks ns).L = s.L ∨ ∃ k e, k ≤ (rcsL R).length ∧ ∀ m, fndK AF.key m (crash s' ks ns).L = if m = n then some ⟨n, dat s n ++ tornL (rcsL R) k e, (dat s n ++ tornL (rcsL R) k e).length⟩ else fndK AF.key m s.L := by
  rcases hD.how with h | h
  · left
    show crL s'.L ks ns = s.L
    rw [h]
    exact crL_full _ _ _ hS
  · right
    have hone := crL_one (n := n) s'.L ks ns hr' (fun f hf hne => by
      have h1 := fndK_of_mem hr' hf
      rw [show AF.key f = f.name from rfl, h, if_neg hne] at h1
      exact hS f (fndK_some h1).1)
    have hn := h n
    rw [if_pos rfl] at hn
    have hfn : ∀ m, fndK AF.key m (crash s' ks ns).L = if m = n then some (crOne (ks.headD 0) (ns.headD 0) ⟨n, dat s n ++ rcsL R, (dat s n).length⟩) else fndK AF.key m s.L := fun m => by
      show fndK AF.key m (crL s'.L ks ns) = _
      rw [hone, fndK_upd (key := AF.key) (g := crOne (ks.headD 0) (ns.headD 0)) (fun f => crOne_name _ _ f)]
      by_cases hm : m = n
      · rw [if_pos hm, if_pos hm, hn]; rfl
      · rw [if_neg hm, if_neg hm, h, if_neg hm]
    generalize ks.headD 0 = k0 at hfn
    generalize ns.headD 0 = z0 at hfn
    generalize rcsL R = d at hfn ⊢
    generalize dat s n = old at hfn ⊢
    by_cases hd : old.length < (old ++ d).length
    · have hkl : min (max k0 0).toNat d.length ≤ d.length := Nat.min_le_right _ _
      refine ⟨min (max k0 0).toNat d.length, noiseByte z0, hkl, fun m => ?_⟩
      rw [hfn]
      have hlen := torn_len hkl (noiseByte z0)
      have hce : crOne k0 z0 ⟨n, old ++ d, old.length⟩ = ⟨n, old ++ tornL d (min (max k0 0).toNat d.length) (noiseByte z0), (old ++ tornL d (min (max k0 0).toNat d.length) (noiseByte z0)).length⟩ := by
        unfold crOne crF
        simp only
        rw [if_pos hd, show (old ++ d).length - old.length = d.length from by rw [List.length_append]; omega]
        generalize min (max k0 0).toNat d.length = k at hkl hlen ⊢
        have hx : (if k = 0 then (old ++ d).take (old.length + k) else ((old ++ d).take (old.length + k)).set (old.length + k - 1) ((old ++ d).getD (old.length + k - 1) 0 ^^^ noiseByte z0)) = old ++ tornL d k (noiseByte z0) := by
          by_cases h0 : k = 0
          · subst h0
            rw [if_pos rfl, torn_zero, List.append_nil, Nat.add_zero, List.take_left]
          · have ht := torn_right (a := old) (b := d) (k := old.length + k) (by omega) (noiseByte z0)
            rw [Nat.add_sub_cancel_left] at ht
            rw [← ht]
            unfold tornL
            rw [if_neg h0, if_neg (by omega)]
        rw [hx, List.length_append, hlen]
      rw [hce]
    · have hd0 : d = [] := List.length_eq_zero_iff.1 (by rw [List.length_append] at hd; omega)
      subst hd0
      refine ⟨0, 0, Nat.zero_le _, fun m => ?_⟩
      rw [hfn, torn_zero]
      have hce : crOne k0 z0 ⟨n, old ++ [], old.length⟩ = ⟨n, old ++ [], (old ++ ([] : List UInt8)).length⟩ := by
        unfold crOne
        rw [if_neg hd, List.append_nil]
      rw [hce]
end Go.Proofs.YtbidglefddmjhaaGreatDoor

/-
  LAYER 3 (wal), plain mathematics: what may be read behind a crash.
-/
namespace Go.Proofs.YtbidglefddmjhaaGreatDoor
open Go.RowKit
set_option linter.unusedVariables false
set_option maxRecDepth 100000

theorem scanL_join {a : List UInt8} (h : (scanL a).2.2 = 0) (t : List UInt8) : (scanL (a ++ t)).1 = (scanL a).1 ++ (scanL t).1 ∧ (scanL (a ++ t)).2.2 = (scanL t).2.2 := by
  obtain ⟨i1, i2, i3, i4, _⟩ := scanL_le a.length a (Nat.le_refl _)
  have ha : rcsL (scanL a).1 = a := by rw [i2, i4 h, List.take_length]
  have h1 := scanL_rcs (scanL a).1 t (fun r hr => ⟨i3 r hr, scanL_short _ a (Nat.le_refl _) r hr⟩)
  rw [ha] at h1
  rw [h1]
  exact ⟨rfl, rfl⟩
theorem allS_wr {s : Dk} (h : Good s) (hS : AllS s) {n : List UInt8} (hn : isSeg n = true) (d : List UInt8) (h0 : (wrL s n d).2 = 0) (hg' : Good (wrL s n d).1) : AllS (wrL s n d).1 := by
  have hwr := h.wr hn d h0
  intro f hf
  have h1 := fndK_of_mem hg'.ok.rise hf
  rw [show AF.key f = f.name from rfl, hwr] at h1
  by_cases e : f.name = n
  · rw [if_pos e] at h1
    rw [← Option.some.inj h1]
  · rw [if_neg e] at h1
    exact hS f (fndK_some h1).1
theorem allS_save {s : Dk} (h : Good s) (hS : AllS s) (g : Lg) (hd : Hd) (l : List En) : AllS (saveL s g hd l).1 := by
  rcases h.save g hd l with ⟨e, _⟩ | ⟨e, _⟩ | ⟨e, _⟩ | ⟨e, hg', h3, h4, _, _⟩
  · rw [e]; exact hS
  · rw [e]; exact hS
  · rw [e]; exact hS
  · have e2 : (saveL s g hd l).2.2 = 0 := by rw [e]
    obtain ⟨r1, r2, r3⟩ := h.room
    by_cases hemp : l = [] ∧ hd = g.hd
    · have : saveL s g hd l = (s, g, 0) := by
        unfold saveL
        rw [if_neg (by rw [h3, h4]; simp), if_pos hemp]
      rw [this]
      exact hS
    have hsv : saveL s g hd l = laid s g ⟨hd, putEs g.L l⟩ (roomL s).1 (hdRec s (roomL s).2.1 g hd ++ entRecs l) := by
      unfold saveL
      rw [if_neg (by rw [h3, h4]; simp), if_neg hemp, h.alive, if_neg (by simp), if_neg (by simp [r1])]
    rw [hsv] at e2 hg' ⊢
    unfold laid at e2 hg' ⊢
    exact allS_wr h hS r2 _ e2 hg'
theorem allS_reset {s : Dk} (h : Good s) (hS : AllS s) (g : Lg) : AllS (resetL s g).1 := by
  rcases h.reset g with ⟨e, _⟩ | ⟨e, hg', _⟩
  · rw [e]; exact hS
  · have e2 : (resetL s g).2.2 = 0 := by rw [e]
    obtain ⟨r1, r2, r3⟩ := h.last
    have hsv : resetL s g = laid s g ⟨g.hd, []⟩ (lastL s).1 ((if (lastL s).2.1 = 0 then rcL (.hard g.hd) else []) ++ rcL .reset) := by
      unfold resetL
      rw [h.alive, if_neg (by simp), if_neg (by simp [r1])]
    rw [hsv] at e2 hg' ⊢
    unfold laid at e2 hg' ⊢
    exact allS_wr h hS r2 _ e2 hg'
/-- A log on a disk that may die: how it stands between two calls. -/
structure Kp (s : Dk) (g : Lg) : Prop where
  good : Good (cool s)
  full : AllS s
  fuse : -1 ≤ s.fuse
  lie : RecInv s g
/-- The records that a call lays, and where. -/
def actR (s : Dk) (g : Lg) (a : Wa) : List Rc := if pickZ a.op 10 = 6 then resetR s g else saveR s g (hdA a) (entA a)
def actN (s : Dk) (a : Wa) : List UInt8 := if pickZ a.op 10 = 6 then (lastL s).1 else (roomL s).1
theorem Kp.warm {s : Dk} {f : Int} {g : Lg} (h1 : Good s) (h2 : AllS s) (h3 : RecInv s g) (hf : -1 ≤ f) : Kp { s with fuse := f } g := by
  have hc : cool { s with fuse := f } = { s with fuse := -1 } := rfl
  refine ⟨?_, h2, hf, ⟨h3.whole, h3.eq, h3.ne0⟩⟩
  rw [hc]
  exact ⟨h1.alive, by show (-1 : Int) < 0; omega, ⟨h1.ok.rise, h1.ok.names, h1.ok.sync, h1.ok.many, h1.ok.room, h1.ok.most, by show (-1 : Int) ≤ -1; omega, by show (-1 : Int) ≤ _; omega⟩, h1.segs, h1.few⟩
theorem Kp.act {s : Dk} {g : Lg} (h : Kp s g) {k : Nat} (hg : LgIn k g) {a : Wa} (ha : WaOk a) :
    (Kp (actW s g a).1 (actW s g a).2.1 ∧ LgIn (k + 1) (actW s g a).2.1 ∧ (actW s g a).1.most = s.most ∧ (actW s g a).1.fuse ≤ s.fuse ∧ (actW s g a).2.2 ≠ 7) ∨
    ((actW s g a).2 = (g, 7) ∧ (pickZ a.op 10 ≠ 6 → (entA a).all entB = true ∧ hdB (hdA a) = true) ∧ Died s (actW s g a).1 (actN s a) (actR s g a)) := by
  have hlie : RecInv (cool s) g := ⟨h.lie.whole, h.lie.eq, h.lie.ne0⟩
  obtain ⟨a1, a2, a3⟩ := actW_in h.good hg ha
  have a4 := hlie.act h.good hg.ok ha
  unfold actN actR
  unfold actW at a1 a2 a3 a4 ⊢
  by_cases h6 : pickZ a.op 10 = 6
  · simp only [if_pos h6] at a1 a2 a3 a4 ⊢
    have a5 := allS_reset h.good h.full g
    rcases reset_fuse h.good h.full h.fuse g with ⟨f, f1, f2, e⟩ | ⟨e1, e2⟩
    · left
      rw [e]
      refine ⟨Kp.warm a1 a5 a4 f1, a2, a3, f2, ?_⟩
      rcases h.good.reset g with ⟨q, _⟩ | ⟨q, _⟩
      · rw [q]; show (6 : Int) ≠ 7; decide
      · show (resetL (cool s) g).2.2 ≠ 7; rw [q]; show (0 : Int) ≠ 7; decide
    · exact .inr ⟨e1, fun h => absurd h6 h, e2⟩
  · simp only [if_neg h6] at a1 a2 a3 a4 ⊢
    have a5 := allS_save h.good h.full g (hdA a) (entA a)
    rcases save_fuse h.good h.full h.fuse g (hdA a) (entA a) with ⟨f, f1, f2, e⟩ | ⟨e1, b1, b2, e2⟩
    · left
      rw [e]
      refine ⟨Kp.warm a1 a5 a4 f1, a2, a3, f2, ?_⟩
      rcases h.good.save g (hdA a) (entA a) with ⟨q, _⟩ | ⟨q, _⟩ | ⟨q, _⟩ | ⟨q, _⟩
      · rw [q]; show (1 : Int) ≠ 7; decide
      · rw [q]; show (0 : Int) ≠ 7; decide
      · rw [q]; show (6 : Int) ≠ 7; decide
      · show (saveL (cool s) g (hdA a) (entA a)).2.2 ≠ 7; rw [q]; show (0 : Int) ≠ 7; decide
    · exact .inr ⟨e1, fun _ => ⟨b1, b2⟩, e2⟩
/-! ### what the beginning of a call's records makes of a log -/
theorem took_save (s : Dk) (g : Lg) (hd : Hd) (l : List En) (j : Nat) : takeRs g ((saveR s g hd l).take j) = g ∨ ∃ i, i ≤ l.length ∧ takeRs g ((saveR s g hd l).take j) = ⟨hd, putEs g.L (l.take i)⟩ := by
  have hent : ∀ (g : Lg) i, takeRs g ((l.map Rc.entry).take i) = { g with L := putEs g.L (l.take i) } := fun g i => by
    rw [← List.map_take]
    exact takeRs_entries _ _
  have htk : ∀ i, l.take i = l.take (min i l.length) := fun i => by rw [List.take_eq_take_iff]; omega
  unfold saveR
  by_cases hz : (roomL s).2.1 = 0 ∨ hd ≠ g.hd
  · rw [if_pos hz]
    cases j with
    | zero => exact .inl rfl
    | succ j =>
      right
      refine ⟨min j l.length, Nat.min_le_right _ _, ?_⟩
      show takeRs (takeR g (.hard hd)) ((l.map Rc.entry).take j) = _
      rw [hent, htk]
      rfl
  · rw [if_neg hz, List.nil_append]
    right
    have hhd : hd = g.hd := by
      by_cases e : hd = g.hd
      · exact e
      · exact absurd (.inr e) hz
    refine ⟨min j l.length, Nat.min_le_right _ _, ?_⟩
    rw [hent, htk, hhd]
theorem took_reset (s : Dk) (g : Lg) (j : Nat) : takeRs g ((resetR s g).take j) = g ∨ takeRs g ((resetR s g).take j) = ⟨g.hd, []⟩ := by
  unfold resetR
  by_cases hz : (lastL s).2.1 = 0
  · rw [if_pos hz]
    match j with
    | 0 => exact .inl rfl
    | 1 => exact .inl rfl
    | j + 2 => right; simp [takeRs, takeR]
  · rw [if_neg hz]
    match j with
    | 0 => exact .inl rfl
    | j + 1 => right; simp [takeRs, takeR]
/-! ### behind the crash -/
/-- The segments are whole, but for the last one: it may have a torn end. -/
structure RecT (s : Dk) (g : Lg) : Prop where
  whole : ∀ n ∈ segsL s.L, (segsL s.L).getLast? ≠ some n → (scanL (dat s n)).2.2 = 0
  eq : takeRs g0 ((segsL s.L).flatMap (recs s)) = g
  ne0 : segsL s.L ≠ []
theorem RecInv.torn {s : Dk} {g : Lg} (h : RecInv s g) : RecT s g := ⟨fun n hn _ => h.whole n hn, h.eq, h.ne0⟩
theorem crash_rec {s c : Dk} {g : Lg} (h : Good (cool s)) (hR : RecInv s g) (hc : RiseK AF.key c.L) {n : List UInt8} (hn : isSeg n = true) (hmax : (segsL s.L).getLast? = some n ∨ ∀ x ∈ segsL s.L, segV x < segV n) {R : List Rc} (hf : ∀ r ∈ R, r.Fits ∧ (payL r).length ≤ 65536)
    (hcr : c.L = s.L ∨ ∃ k e, k ≤ (rcsL R).length ∧ ∀ m, fndK AF.key m c.L = if m = n then some ⟨n, dat s n ++ tornL (rcsL R) k e, (dat s n ++ tornL (rcsL R) k e).length⟩ else fndK AF.key m s.L) : ∃ j, RecT c (takeRs g (R.take j)) := by
  have hrise : RiseK AF.key s.L := h.ok.rise
  rcases hcr with hcr | ⟨k, e, hk, hwr⟩
  · refine ⟨0, ?_⟩
    have hd : ∀ m, dat c m = dat s m := fun m => by unfold dat; rw [hcr]
    have hrc : recs c = recs s := by funext m; unfold recs; rw [hd]
    refine ⟨fun m hm _ => ?_, ?_, by rw [hcr]; exact hR.ne0⟩
    · rw [hcr] at hm
      rw [hd]; exact hR.whole m hm
    · rw [hcr, hrc]; exact hR.eq
  · obtain ⟨j, hj, hsc⟩ := scan_torn R k e hf hk
    refine ⟨j, ?_⟩
    have hst := segsL_strict hrise
    have hst' := segsL_strict hc
    have hmem : ∀ m, m ∈ segsL c.L ↔ m ∈ segsL s.L ∨ m = n := fun m => by
      rw [mem_segsL, mem_segsL, mem_fnd hc, mem_fnd hrise, hwr]
      by_cases hm : m = n
      · subst hm; rw [if_pos rfl]; simp [hn]
      · rw [if_neg hm]; simp [hm]
    have hdn : dat c n = dat s n ++ tornL (rcsL R) k e := by unfold dat; rw [hwr, if_pos rfl]; rfl
    have hdo : ∀ m, m ≠ n → dat c m = dat s m := fun m hm => by unfold dat; rw [hwr, if_neg hm]
    have hro : ∀ m, m ≠ n → recs c m = recs s m := fun m hm => by unfold recs; rw [hdo m hm]
    rcases hmax with hl | hl
    · obtain ⟨P, hP⟩ : ∃ P, segsL s.L = P ++ [n] := List.getLast?_eq_some_iff.1 hl
      have hnm : n ∈ segsL s.L := by rw [hP]; simp
      have hsame : segsL c.L = segsL s.L := strict_eq segV hst' hst (fun x => by
        rw [hmem]
        exact ⟨fun e => e.elim id (fun e => by rw [e]; exact hnm), .inl⟩)
      have hPn : ∀ m ∈ P, m ≠ n := fun m hm e => by
        rw [hP] at hst
        have := (List.pairwise_append.1 hst).2.2 m hm n (by simp)
        rw [e] at this; omega
      obtain ⟨a1, a2⟩ := scanL_join (hR.whole n hnm) (tornL (rcsL R) k e)
      rw [hsc] at a1
      refine ⟨fun m hm hlast => ?_, ?_, by rw [hsame]; exact hR.ne0⟩
      · have hmn : m ≠ n := fun e => hlast (by rw [hsame, hl, e])
        rw [hdo m hmn]; rw [hsame] at hm; exact hR.whole m hm
      · have h1 := hR.eq
        rw [hP, List.flatMap_append] at h1
        rw [hsame, hP, List.flatMap_append]
        have e1 : P.flatMap (recs c) = P.flatMap (recs s) := by
          rw [List.flatMap_def, List.flatMap_def, List.map_congr_left (fun m hm => hro m (hPn m hm))]
        have e2 : recs c n = recs s n ++ R.take j := by unfold recs; rw [hdn]; exact a1
        rw [e1, show [n].flatMap (recs c) = recs c n from by simp, e2, ← List.append_assoc, takeRs_append, ← h1, show [n].flatMap (recs s) = recs s n from by simp]
    · have hnm : n ∉ segsL s.L := fun e => by have := hl n e; omega
      have hdat : dat s n = [] := by
        unfold dat
        cases hf : fndK AF.key n s.L with
        | none => rfl
        | some f =>
          exfalso
          refine hnm (mem_segsL.2 ⟨hn, (mem_fnd hrise).2 ?_⟩)
          rw [hf]; rfl
      have hnew : segsL c.L = segsL s.L ++ [n] := strict_eq segV hst' (List.pairwise_append.2 ⟨hst, by simp, fun a ha b hb => by simp at hb; subst hb; exact hl a ha⟩) (fun x => by
        rw [hmem]; simp)
      have hPn : ∀ m ∈ segsL s.L, m ≠ n := fun m hm e => hnm (by rw [← e]; exact hm)
      rw [hdat, List.nil_append] at hdn
      refine ⟨fun m hm hlast => ?_, ?_, by rw [hnew]; simp⟩
      · have hmn : m ≠ n := fun e => hlast (by rw [hnew, e]; simp)
        rw [hdo m hmn]
        exact hR.whole m (((hmem m).1 hm).resolve_right hmn)
      · rw [hnew, List.flatMap_append]
        have e1 : (segsL s.L).flatMap (recs c) = (segsL s.L).flatMap (recs s) := by
          rw [List.flatMap_def, List.flatMap_def, List.map_congr_left (fun m hm => hro m (hPn m hm))]
        have e2 : recs c n = R.take j := by unfold recs; rw [hdn]; exact hsc
        rw [e1, show [n].flatMap (recs c) = recs c n from by simp, e2, takeRs_append, hR.eq]
end Go.Proofs.YtbidglefddmjhaaGreatDoor

/-
  LAYER 3 (wal), plain mathematics: the disk behind a crash; a torn segment trimmed.
-/
namespace Go.Proofs.YtbidglefddmjhaaGreatDoor
open Go.RowKit
set_option linter.unusedVariables false
set_option maxRecDepth 100000

/-- What a disk is, of whose segments one alone may have turned. -/
structure OneOff (s c : Dk) (n : List UInt8) (d : List UInt8) : Prop where
  fnd : ∀ m, fndK AF.key m c.L = if m = n then some ⟨n, d, d.length⟩ else fndK AF.key m s.L
theorem OneOff.mem {s c : Dk} {n d : List UInt8} (h : OneOff s c n d) (hr : RiseK AF.key s.L) (hc : RiseK AF.key c.L) (hn : isSeg n = true) (m : List UInt8) : m ∈ segsL c.L ↔ m ∈ segsL s.L ∨ m = n := by
  rw [mem_segsL, mem_segsL, mem_fnd hc, mem_fnd hr, h.fnd]
  by_cases hm : m = n
  · subst hm; rw [if_pos rfl]; simp [hn]
  · rw [if_neg hm]; simp [hm]
theorem OneOff.segs {s c : Dk} {n d : List UInt8} (h : OneOff s c n d) (hr : RiseK AF.key s.L) (hc : RiseK AF.key c.L) (hn : isSeg n = true) (hmax : (segsL s.L).getLast? = some n ∨ ∀ x ∈ segsL s.L, segV x < segV n) :
    segsL c.L = segsL s.L ∧ n ∈ segsL s.L ∨ segsL c.L = segsL s.L ++ [n] ∧ n ∉ segsL s.L := by
  have hmem := h.mem hr hc hn
  have hst := segsL_strict hr
  have hst' := segsL_strict hc
  rcases hmax with hl | hl
  · left
    have hnm : n ∈ segsL s.L := List.mem_of_getLast? hl
    exact ⟨strict_eq segV hst' hst (fun x => by
      rw [hmem]
      exact ⟨fun e => e.elim id (fun e => by rw [e]; exact hnm), .inl⟩), hnm⟩
  · right
    exact ⟨strict_eq segV hst' (List.pairwise_append.2 ⟨hst, by simp, fun a ha b hb => by simp at hb; subst hb; exact hl a ha⟩) (fun x => by
      rw [hmem]; simp), fun e => by have := hl n e; omega⟩
theorem OneOff.full {s c : Dk} {n d : List UInt8} (h : OneOff s c n d) (hc : RiseK AF.key c.L) (hS : AllS s) : AllS c := by
  intro f hf
  have h1 := fndK_of_mem hc hf
  rw [show AF.key f = f.name from rfl, h.fnd] at h1
  by_cases e : f.name = n
  · rw [if_pos e] at h1
    rw [← Option.some.inj h1]
  · rw [if_neg e] at h1
    exact hS f (fndK_some h1).1
theorem OneOff.good {s c : Dk} {n d : List UInt8} (h : OneOff s c n d) (hG : Good (cool s)) (hc : c.Ok) (ha : c.dead = false) (hn : isSeg n = true) (hmax : (segsL s.L).getLast? = some n ∨ ∀ x ∈ segsL s.L, segV x < segV n) (hl : n ∈ s.L.map AF.name ∨ s.L.length < 20) : Good (cool c) := by
  have hseg : ∀ f ∈ c.L, isSeg f.name = true := fun f hf => by
    have h1 := fndK_of_mem hc.rise hf
    rw [show AF.key f = f.name from rfl, h.fnd] at h1
    by_cases e : f.name = n
    · rw [e]; exact hn
    · rw [if_neg e] at h1
      exact hG.segs f (fndK_some h1).1
  refine ⟨ha, by show (-1 : Int) < 0; omega, ⟨hc.rise, hc.names, hc.sync, hc.many, hc.room, hc.most, by show (-1 : Int) ≤ -1; omega, by show (-1 : Int) ≤ _; omega⟩, hseg, ?_⟩
  have hlen : (segsL c.L).length = c.L.length := by
    rw [(segsL_perm c.L).length_eq, List.filter_eq_self.2 (fun x hx => by obtain ⟨f, hf, rfl⟩ := List.mem_map.1 hx; exact hseg f hf), List.length_map]
  have hlen2 := hG.len
  have hfew := hG.few
  have e1 : (cool s).L = s.L := rfl
  rw [e1] at hlen2 hfew
  show c.L.length ≤ 20
  rw [← hlen]
  rcases h.segs hG.ok.rise hc.rise hn hmax with ⟨hs, _⟩ | ⟨hs, hno⟩
  · rw [hs]; omega
  · have hno2 : ¬ n ∈ s.L.map AF.name := fun e => hno (mem_segsL.2 ⟨hn, e⟩)
    have := hl.resolve_left hno2
    rw [hs, List.length_append, List.length_singleton]
    omega
/-- A disk with nothing unsynced is behind a crash what it was. -/
theorem crash_full {s : Dk} (hS : AllS s) (ks ns : List Int) : crash s ks ns = { s with fuse := -1, dead := false } := by
  unfold crash
  rw [crL_full _ _ _ hS]
/-! ### a torn segment trimmed -/
theorem trunc_at {s : Dk} (ha : s.dead = false) {n : List UInt8} {f : AF} (hf : fndK AF.key n s.L = some f) {k : Nat} (hk : k ≤ f.data.length) : trunc s n (k : Int) = spends s fun s => { s with L := updK AF.key n (cutF k) s.L } := by
  unfold trunc need
  rw [if_neg (by rw [ha]; simp), hf]
  simp only
  rw [if_neg (by omega), Int.toNat_natCast]
/-- How a trim ends: done; or dead ahead of it; or dead behind it. -/
theorem tr_fuse {s : Dk} (hG : Good (cool s)) (hS : AllS s) (hf : -1 ≤ s.fuse) {n : List UInt8} (hnm : n ∈ s.L.map AF.name) {k : Nat} (hk : k ≤ (dat s n).length) :
    (trL s n (k : Int) = ({ s with dead := true }, 7)) ∨
    ∃ L1 f d e, trL s n (k : Int) = (({ s with L := L1, fuse := f, dead := d } : Dk), e) ∧ -1 ≤ f ∧ (e = 0 ∧ d = false ∨ e = 7 ∧ d = true) ∧ ∀ m, fndK AF.key m L1 = if m = n then some ⟨n, (dat s n).take k, ((dat s n).take k).length⟩ else fndK AF.key m s.L := by
  have ha : s.dead = false := hG.alive
  obtain ⟨f0, hf0, _⟩ := rd_in (s := cool s) hG.alive hG.ok hnm
  have hf0 : fndK AF.key n s.L = some f0 := hf0
  have hfn : f0.name = n := (fndK_some hf0).2
  have hfm : f0 ∈ s.L := (fndK_some hf0).1
  have hdat : dat s n = f0.data := by unfold dat; rw [hf0]; rfl
  have hfs := hS f0 hfm
  rw [hdat] at hk ⊢
  have htr := trunc_at ha hf0 hk
  have hcut : cutF k f0 = ⟨n, f0.data.take k, (f0.data.take k).length⟩ := by
    unfold cutF
    rw [hfn, hfs, List.length_take, Nat.min_comm]
  have hL1 : ∀ m, fndK AF.key m (updK AF.key n (cutF k) s.L) = if m = n then some ⟨n, f0.data.take k, (f0.data.take k).length⟩ else fndK AF.key m s.L := fun m => by
    rw [fndK_upd (key := AF.key) (g := cutF k) (fun _ => rfl)]
    by_cases hm : m = n
    · rw [if_pos hm, if_pos hm, hf0, ← hcut]; rfl
    · rw [if_neg hm, if_neg hm]
  have hL2 : ∀ m, fndK AF.key m (updK AF.key n syncF (updK AF.key n (cutF k) s.L)) = if m = n then some ⟨n, f0.data.take k, (f0.data.take k).length⟩ else fndK AF.key m s.L := fun m => by
    rw [fndK_upd (key := AF.key) (g := syncF) (fun _ => rfl), hL1, hL1, if_pos rfl]
    by_cases hm : m = n
    · rw [if_pos hm, if_pos hm]; rfl
    · rw [if_neg hm, if_neg hm]
  have hsyn : ∀ (x : Int), syn { s with fuse := x, L := updK AF.key n (cutF k) s.L } n = spends { s with fuse := x, L := updK AF.key n (cutF k) s.L } fun s => { s with L := updK AF.key n syncF s.L } := fun x => by
    unfold syn need
    rw [if_neg (by show ¬ s.dead = true; rw [ha]; simp)]
    show (match fndK AF.key n (updK AF.key n (cutF k) s.L) with | none => _ | some f => _) = _
    rw [hL1, if_pos rfl]
  unfold trL
  rw [htr]
  by_cases h0 : s.fuse = 0
  · left
    unfold spends
    rw [if_pos h0]
    rfl
  · right
    have h1 : (spends s fun s => { s with L := updK AF.key n (cutF k) s.L }) = ({ s with fuse := if 0 < s.fuse then s.fuse - 1 else s.fuse, L := updK AF.key n (cutF k) s.L }, 0) := by
      unfold spends
      rw [if_neg h0]
    rw [h1, if_pos rfl]
    show ∃ L1 f d e, syn { s with fuse := if 0 < s.fuse then s.fuse - 1 else s.fuse, L := updK AF.key n (cutF k) s.L } n = _ ∧ _
    have hx : -1 ≤ (if 0 < s.fuse then s.fuse - 1 else s.fuse) := by split <;> omega
    generalize (if 0 < s.fuse then s.fuse - 1 else s.fuse) = x at hx ⊢
    rw [hsyn]
    by_cases hx0 : x = 0
    · refine ⟨updK AF.key n (cutF k) s.L, x, true, 7, ?_, hx, .inr ⟨rfl, rfl⟩, hL1⟩
      unfold spends
      rw [if_pos hx0]
    · refine ⟨updK AF.key n syncF (updK AF.key n (cutF k) s.L), if 0 < x then x - 1 else x, false, 0, ?_, by split <;> omega, .inl ⟨rfl, rfl⟩, hL2⟩
      unfold spends
      rw [if_neg hx0]
      show ({ s with fuse := if 0 < x then x - 1 else x, L := updK AF.key n syncF (updK AF.key n (cutF k) s.L) }, (0 : Int)) = _
      rw [← ha]
/-- A torn last segment, cut to what can be read of it: the same log, whole. -/
theorem RecT.trimmed {s c : Dk} {g : Lg} (hr : RiseK AF.key s.L) (hc : RiseK AF.key c.L) (hT : RecT s g) {n : List UInt8} (hl : (segsL s.L).getLast? = some n) (h : OneOff s c n ((dat s n).take (scanL (dat s n)).2.1)) : RecInv c g := by
  have hnm : n ∈ segsL s.L := List.mem_of_getLast? hl
  have hn := (mem_segsL.1 hnm).1
  have hsame : segsL c.L = segsL s.L := by
    rcases h.segs hr hc hn (.inl hl) with ⟨e, _⟩ | ⟨_, e⟩
    · exact e
    · exact absurd hnm e
  obtain ⟨i1, i2, i3, i4, _⟩ := scanL_le (dat s n).length (dat s n) (Nat.le_refl _)
  have hdn : dat c n = rcsL (recs s n) := by
    have h1 := h.fnd n
    rw [if_pos rfl] at h1
    unfold dat
    rw [h1]
    exact i2.symm
  have hdo : ∀ m, m ≠ n → dat c m = dat s m := fun m hm => by unfold dat; rw [h.fnd, if_neg hm]
  have hsc := scanL_rcs (recs s n) [] (fun r hr => ⟨i3 r hr, scanL_short _ (dat s n) (Nat.le_refl _) r hr⟩)
  rw [List.append_nil, scanL_nil, List.append_nil] at hsc
  have hrc : ∀ m, recs c m = recs s m := fun m => by
    by_cases hm : m = n
    · subst hm
      unfold recs at hdn ⊢
      rw [hdn]
      unfold recs at hsc
      rw [hsc]
    · unfold recs; rw [hdo m hm]
  refine ⟨fun m hm => ?_, ?_, by rw [hsame]; exact hT.ne0⟩
  · rw [hsame] at hm
    by_cases e : m = n
    · rw [e, hdn, hsc]
    · rw [hdo m e]
      exact hT.whole m hm (fun h => e (by rw [hl] at h; exact (Option.some.inj h).symm))
  · rw [hsame, show recs c = recs s from funext hrc]
    exact hT.eq
end Go.Proofs.YtbidglefddmjhaaGreatDoor

/-
  LAYER 3 (wal), plain mathematics: a call that died, and the crash behind it: what is read then.
-/
namespace Go.Proofs.YtbidglefddmjhaaGreatDoor
open Go.RowKit
set_option linter.unusedVariables false
set_option maxRecDepth 100000

theorem saveR_fits {s : Dk} {g : Lg} {hd : Hd} {l : List En} (h0 : hdB hd = true) (h1 : I64 hd.term ∧ I64 hd.vote) (h3 : l.all entB = true) (h2 : ∀ e ∈ l, e.In ∧ e.data.length ≤ 60000) : ∀ r ∈ saveR s g hd l, r.Fits ∧ (payL r).length ≤ 65536 := by
  intro r hr
  unfold saveR at hr
  rcases List.mem_append.1 hr with hr | hr
  · by_cases hz : (roomL s).2.1 = 0 ∨ hd ≠ g.hd
    · rw [if_pos hz] at hr; simp at hr; subst hr; exact ⟨⟨h0, h1.1, h1.2⟩, hard_short hd h1.1 h1.2⟩
    · rw [if_neg hz] at hr; simp at hr
  · obtain ⟨e, he, rfl⟩ := List.mem_map.1 hr
    obtain ⟨q1, q2⟩ := h2 e he
    exact ⟨⟨all_entB h3 e he, q1, by omega⟩, (entRec_len q1 q2).1⟩
theorem resetR_fits {s : Dk} {g : Lg} (hg : g.Ok) : ∀ r ∈ resetR s g, r.Fits ∧ (payL r).length ≤ 65536 := by
  intro r hr
  unfold resetR at hr
  rcases List.mem_append.1 hr with hr | hr
  · by_cases hz : (lastL s).2.1 = 0
    · rw [if_pos hz] at hr; simp at hr; subst hr; exact ⟨⟨hg.hd.1, hg.hd.2.1, hg.hd.2.2⟩, hard_short _ hg.hd.2.1 hg.hd.2.2⟩
    · rw [if_neg hz] at hr; simp at hr
  · simp at hr; subst hr; exact ⟨trivial, reset_short⟩
/-- What may be read behind a call in whose midst the power went: what was; or a beginning of what was to come. -/
def Begun3 (g : Lg) (a : Wa) (g' : Lg) : Prop := g' = g ∨ (pickZ a.op 10 = 6 ∧ g' = ⟨g.hd, []⟩) ∨ (pickZ a.op 10 ≠ 6 ∧ ∃ i, i ≤ (entA a).length ∧ g' = ⟨hdA a, putEs g.L ((entA a).take i)⟩)
/-- How a disk stands that Open may read. -/
structure Rd (s : Dk) (g : Lg) : Prop where
  good : Good (cool s)
  full : AllS s
  fuse : -1 ≤ s.fuse
  lie : RecT s g
theorem Kp.rd {s : Dk} {g : Lg} (h : Kp s g) : Rd s g := ⟨h.good, h.full, h.fuse, h.lie.torn⟩
theorem rd_crash {s : Dk} {g : Lg} (h : Rd s g) (ks ns : List Int) : Rd (crash s ks ns) g := by
  rw [crash_full h.full]
  have hc : cool { s with fuse := -1, dead := false } = cool s := by
    have := h.good.alive
    unfold cool at *
    simp only at this ⊢
    rw [this]
  refine ⟨by rw [hc]; exact h.good, h.full, by show (-1 : Int) ≤ -1; omega, ⟨h.lie.whole, h.lie.eq, h.lie.ne0⟩⟩
theorem rd_fuse {s : Dk} {g : Lg} (h : Rd s g) (n : Int) : Rd (setFuse s n) g := ⟨h.good, h.full, by show -1 ≤ max n (-1); omega, ⟨h.lie.whole, h.lie.eq, h.lie.ne0⟩⟩
theorem died_read {s s' : Dk} {g : Lg} (h : Kp s g) {k : Nat} (hg : LgIn k g) {a : Wa} (ha : WaOk a) (hsave : pickZ a.op 10 ≠ 6 → (entA a).all entB = true ∧ hdB (hdA a) = true) (hok : s'.Ok) (hD : Died s s' (actN s a) (actR s g a)) (ks ns : List Int) : ∃ g', Rd (crash s' ks ns) g' ∧ Begun3 g a g' := by
  have hlie : RecInv (cool s) g := ⟨h.lie.whole, h.lie.eq, h.lie.ne0⟩
  have hrise : RiseK AF.key s.L := h.good.ok.rise
  have hcok := Ok_crash hok ks ns
  obtain ⟨r1, r2, r3⟩ := h.good.room
  obtain ⟨l1, l2, l3⟩ := h.good.last
  have hrm := room_max h.good hlie.ne0
  have hlm := lastL_some (s := s) h.lie.ne0
  have hn : isSeg (actN s a) = true := by unfold actN; split; exact l2; exact r2
  have hmax : (segsL s.L).getLast? = some (actN s a) ∨ ∀ x ∈ segsL s.L, segV x < segV (actN s a) := by
    unfold actN; split
    · exact .inl hlm
    · exact hrm
  have hl : actN s a ∈ s.L.map AF.name ∨ s.L.length < 20 := by
    unfold actN; split
    · exact .inl (mem_segsL.1 (List.mem_of_getLast? hlm)).2
    · exact r3
  have hf : ∀ r ∈ actR s g a, r.Fits ∧ (payL r).length ≤ 65536 := by
    unfold actR; split
    · exact resetR_fits hg.ok
    · rename_i h6
      obtain ⟨q1, q2⟩ := hsave h6
      exact saveR_fits q2 (hdA_in ha) q1 (fun e he => by have := entA_in ha e he; exact ⟨this.1, by omega⟩)
  have hcr := crash_died hrise hok.rise h.full hD ks ns
  obtain ⟨j, hT⟩ := crash_rec h.good h.lie hcok.rise hn hmax hf (hcr.imp id (fun ⟨k, e, h1, h2⟩ => ⟨k, e, h1, h2⟩))
  refine ⟨_, ⟨?_, ?_, by show (-1 : Int) ≤ -1; omega, hT⟩, ?_⟩
  · rcases hcr with hcr | ⟨k, e, h1, h2⟩
    · have hG := h.good
      refine ⟨rfl, by show (-1 : Int) < 0; omega, ⟨hcok.rise, hcok.names, hcok.sync, hcok.many, hcok.room, hcok.most, by show (-1 : Int) ≤ -1; omega, by show (-1 : Int) ≤ _; omega⟩, fun f hf => hG.segs f ?_, ?_⟩
      · rw [show (cool (crash s' ks ns)).L = s.L from hcr] at hf; exact hf
      · rw [show (cool (crash s' ks ns)).L = s.L from hcr]; exact hG.few
    · exact (OneOff.mk (s := s) (c := crash s' ks ns) (n := actN s a) (d := dat s (actN s a) ++ tornL (rcsL (actR s g a)) k e) h2).good h.good hcok rfl hn hmax hl
  · rcases hcr with hcr | ⟨k, e, h1, h2⟩
    · intro f hf
      rw [hcr] at hf
      exact h.full f hf
    · exact (OneOff.mk (s := s) (c := crash s' ks ns) (n := actN s a) (d := dat s (actN s a) ++ tornL (rcsL (actR s g a)) k e) h2).full hcok.rise h.full
  · unfold actR Begun3
    by_cases h6 : pickZ a.op 10 = 6
    · rw [if_pos h6]
      rcases took_reset s g j with e | e
      · exact .inl e
      · exact .inr (.inl ⟨h6, e⟩)
    · rw [if_neg h6]
      rcases took_save s g (hdA a) (entA a) j with e | ⟨i, hi, e⟩
      · exact .inl e
      · exact .inr (.inr ⟨h6, i, hi, e⟩)
end Go.Proofs.YtbidglefddmjhaaGreatDoor

