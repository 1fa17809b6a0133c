/-
  LAYER 2 (disk), more of the plain mathematics: a disk behind a crash; one file with a tail on it.
-/
import Derived.Test.YtcinegkikahchaaDkMath
namespace Go.Proofs.Ytcinegkikahchaa
set_option linter.unusedVariables false

/-- A disk without a fuse, of which all files but that of name n are synced. -/
structure Calm (n : List UInt8) (s : Dk) : Prop where
  ok : s.Ok
  dead : s.dead = false
  fuse : s.fuse = -1
  full : ∀ g ∈ s.L, g.name ≠ n → g.synced = g.data.length
theorem calm_crash {s : Dk} (h : s.Ok) (n : List UInt8) (ks ns : List Int) : Calm n (crash s ks ns) :=
  ⟨Ok_crash h ks ns, rfl, rfl, fun g hg _ => crL_synced s.L ks ns h.sync g hg⟩
theorem calm_fuse {n : List UInt8} {s : Dk} (h : Calm n s) : Calm n (setFuse s (-1)) := ⟨Ok_fuse h.ok (-1) (by omega), h.dead, by show max (-1 : Int) (-1) = -1; omega, h.full⟩
theorem calm_spends {n : List UInt8} {s : Dk} (h : Calm n s) (k : Dk → Dk) : spends s k = (k s, 0) := by
  unfold spends
  rw [if_neg (by rw [h.fuse]; decide), if_neg (by rw [h.fuse]; decide)]
theorem calm_need {n m : List UInt8} {s : Dk} (h : Calm n s) (k : AF → Dk × Int) : need s m k = match fndK AF.key m s.L with | none => (s, 4) | some f => k f := by
  unfold need
  rw [if_neg (by rw [h.dead]; simp)]
  cases fndK AF.key m s.L <;> rfl
theorem calm_dele {n m : List UInt8} {s : Dk} (h : Calm n s) : (dele s m).1 = { s with L := delK AF.key m s.L } ∧ Calm n { s with L := delK AF.key m s.L } := by
  constructor
  · unfold dele
    rw [calm_need h]
    cases hf : fndK AF.key m s.L with
    | none => rw [delK_none hf]
    | some f => simp only; rw [calm_spends h]
  · exact ⟨Ok_del h.ok m, h.dead, h.fuse, fun g hg hn => h.full g (delK_mem.1 hg).1 hn⟩
theorem calm_app_new {n d : List UInt8} {s : Dk} (h : Calm n s) (hn : isName n = true) (hno : fndK AF.key n s.L = none) :
    app s n d = (s, 11) ∨ app s n d = (s, 6) ∨ (app s n d = ({ s with L := insK AF.key (newF n d) s.L }, 0) ∧ Calm n { s with L := insK AF.key (newF n d) s.L } ∧ fndK AF.key n (insK AF.key (newF n d) s.L) = some ⟨n, d, 0⟩) := by
  have hok := Ok_app h.ok n d
  unfold app at hok ⊢
  rw [if_neg (by rw [h.dead]; simp), if_neg (by rw [hn]; simp), hno] at hok ⊢
  simp only at hok ⊢
  by_cases h1 : 40 ≤ s.L.length
  · rw [if_pos h1]; exact .inl rfl
  · rw [if_neg h1] at hok ⊢
    by_cases h2 : s.most - (sz s.L : Int) < d.length
    · rw [if_pos h2]; exact .inr (.inl rfl)
    · rw [if_neg h2, calm_spends h] at hok ⊢
      refine .inr (.inr ⟨rfl, ⟨hok, h.dead, h.fuse, fun g hg hne => ?_⟩, ?_⟩)
      · rcases insK_mem.1 hg with rfl | hg
        · exact absurd rfl hne
        · exact h.full g hg hne
      · rw [fndK_ins (fndK_none hno), if_pos (show n = AF.key (newF n d) from rfl)]; rfl
theorem calm_upd {n : List UInt8} {s : Dk} (h : Calm n s) {H : AF → AF} (hH : ∀ f, (H f).name = f.name) (hok : ({ s with L := updK AF.key n H s.L } : Dk).Ok) : Calm n { s with L := updK AF.key n H s.L } := by
  refine ⟨hok, h.dead, h.fuse, fun g hg hne => ?_⟩
  obtain ⟨x, hx, rfl⟩ := List.mem_map.1 (show g ∈ s.L.map (fun x => if AF.key x = n then H x else x) from hg)
  by_cases hk : AF.key x = n
  · rw [if_pos hk] at hne
    exact absurd ((hH x).trans hk) hne
  · rw [if_neg hk] at hne ⊢
    exact h.full x hx hne
theorem calm_fnd {n : List UInt8} {s : Dk} {H : AF → AF} (hH : ∀ f, (H f).name = f.name) {f : AF} (hf : fndK AF.key n s.L = some f) : fndK AF.key n (updK AF.key n H s.L) = some (H f) := by
  rw [fndK_upd (key := AF.key) hH, if_pos rfl, hf]; rfl
theorem calm_syn {n : List UInt8} {s : Dk} (h : Calm n s) {f : AF} (hf : fndK AF.key n s.L = some f) :
    syn s n = ({ s with L := updK AF.key n syncF s.L }, 0) ∧ Calm n { s with L := updK AF.key n syncF s.L } ∧ fndK AF.key n (updK AF.key n syncF s.L) = some (syncF f) := by
  have hr : syn s n = ({ s with L := updK AF.key n syncF s.L }, 0) := by
    unfold syn
    rw [calm_need h, hf]
    simp only
    rw [calm_spends h]
  have hok := Ok_syn h.ok n
  rw [hr] at hok
  exact ⟨hr, calm_upd h (fun _ => rfl) hok, calm_fnd (H := syncF) (fun _ => rfl) hf⟩
theorem calm_app_old {n d : List UInt8} {s : Dk} (h : Calm n s) (hn : isName n = true) {f : AF} (hf : fndK AF.key n s.L = some f) :
    app s n d = (s, 6) ∨ (app s n d = ({ s with L := updK AF.key n (addF d) s.L }, 0) ∧ Calm n { s with L := updK AF.key n (addF d) s.L } ∧ fndK AF.key n (updK AF.key n (addF d) s.L) = some (addF d f)) := by
  have hok := Ok_app h.ok n d
  unfold app at hok ⊢
  rw [if_neg (by rw [h.dead]; simp), if_neg (by rw [hn]; simp), hf] at hok ⊢
  simp only at hok ⊢
  by_cases h2 : s.most - (sz s.L : Int) < d.length
  · rw [if_pos h2]; exact .inl rfl
  · rw [if_neg h2, calm_spends h] at hok ⊢
    exact .inr ⟨rfl, calm_upd h (fun _ => rfl) hok, calm_fnd (H := addF d) (fun _ => rfl) hf⟩

theorem crF_full {f : AF} (h : f.synced = f.data.length) (k z : Int) : crF f k z = f := by
  unfold crF
  have h0 : min (max k 0).toNat (f.data.length - f.synced) = 0 := by omega
  rw [h0]
  simp only [Nat.add_zero, if_true]
  rw [h, List.take_of_length_le (Nat.le_refl _)]
  obtain ⟨n, d, s⟩ := f
  simp at h ⊢
  exact h.symm
theorem crL_full : ∀ {L : List AF} (ks ns : List Int), (∀ g ∈ L, g.synced = g.data.length) → crL L ks ns = L
  | [], _, _, _ => rfl
  | f :: r, ks, ns, h => by
    have h1 := h f (by simp)
    rw [crL, if_neg (by omega), crL_full ks ns (fun g hg => h g (by simp [hg]))]
theorem crL_one {n : List UInt8} : ∀ {L : List AF} (ks ns : List Int), RiseK AF.key L → (∀ g ∈ L, g.synced ≤ g.data.length) → (∀ g ∈ L, g.name ≠ n → g.synced = g.data.length) → crL L ks ns = updK AF.key n (fun f => crF f (ks.headD 0) (ns.headD 0)) L
  | [], _, _, _, _, _ => rfl
  | f :: r, ks, ns, hr, hs, h => by
    obtain ⟨h1, h2⟩ := List.pairwise_cons.1 hr
    by_cases hf : f.name = n
    · have hall : ∀ g ∈ r, g.name ≠ n := fun g hg e => by
        have := h1 g hg
        rw [show AF.key f = n from hf, show AF.key g = n from e] at this
        exact blt_irrefl _ this
      have hrest : updK AF.key n (fun f => crF f (ks.headD 0) (ns.headD 0)) r = r := by
        unfold updK
        conv => rhs; rw [← List.map_id r]
        apply List.map_congr_left
        intro g hg
        rw [if_neg (hall g hg)]; rfl
      have hfull : ∀ g ∈ r, g.synced = g.data.length := fun g hg => h g (by simp [hg]) (hall g hg)
      have hu : updK AF.key n (fun f => crF f (ks.headD 0) (ns.headD 0)) (f :: r) = crF f (ks.headD 0) (ns.headD 0) :: r := by
        show (if AF.key f = n then _ else f) :: updK AF.key n _ r = _
        rw [if_pos hf, hrest]
      rw [hu]
      have hsf := hs f (by simp)
      by_cases ht : f.synced < f.data.length
      · rw [crL, if_pos ht, crL_full _ _ hfull]
      · rw [crL, if_neg ht, crL_full _ _ hfull, crF_full (by omega)]
    · have hff := h f (by simp) hf
      have hu : updK AF.key n (fun f => crF f (ks.headD 0) (ns.headD 0)) (f :: r) = f :: updK AF.key n (fun f => crF f (ks.headD 0) (ns.headD 0)) r := by
        show (if AF.key f = n then _ else f) :: _ = _
        rw [if_neg hf]; rfl
      rw [hu, crL, if_neg (by omega), crL_one ks ns h2 (fun g hg => hs g (by simp [hg])) (fun g hg => h g (by simp [hg]))]
theorem calm_read {n : List UInt8} {s : Dk} (h : Calm n s) {f : AF} (hf : fndK AF.key n s.L = some f) (ks ns : List Int) : rd (crash s ks ns) n = ((crF f (ks.headD 0) (ns.headD 0)).data, 0) := by
  have h1 := crL_one ks ns h.ok.rise h.ok.sync h.full
  unfold rd crash
  simp only [Bool.false_eq_true, if_false]
  rw [h1, calm_fnd (s := s) (H := fun f => crF f (ks.headD 0) (ns.headD 0)) (fun _ => rfl) hf]

/-- What a crash leaves of a file of synced bytes s and a tail t. -/
def leftT (t : List UInt8) (K : Nat) (z : Int) : List UInt8 := if K = 0 then [] else (t.take K).set (K - 1) (t.getD (K - 1) 0 ^^^ noiseByte z)
theorem crF_data (n s t : List UInt8) (k z : Int) : (crF ⟨n, s ++ t, s.length⟩ k z).data = s ++ leftT t (min (max k 0).toNat t.length) z := by
  unfold crF leftT
  have h1 : (s ++ t).length - s.length = t.length := by simp
  simp only [h1]
  generalize hK : min (max k 0).toNat t.length = K
  have hKt : K ≤ t.length := by omega
  by_cases h0 : K = 0
  · rw [if_pos h0, if_pos h0, h0]; simp
  · rw [if_neg h0, if_neg h0]
    have e1 : (s ++ t).take (s.length + K) = s ++ t.take K := by rw [List.take_append, List.take_of_length_le (by omega), show s.length + K - s.length = K by omega]
    have e2 : (s ++ t).getD (s.length + K - 1) 0 = t.getD (K - 1) 0 := by
      unfold List.getD
      rw [List.getElem?_append_right (by omega), show s.length + K - 1 - s.length = K - 1 by omega]
    rw [e1, e2, List.set_append, if_neg (by omega)]
    congr 2; omega
theorem leftT_length (t : List UInt8) {K : Nat} (h : K ≤ t.length) (z : Int) : (leftT t K z).length = K := by
  unfold leftT
  split
  · simp; omega
  · simp; omega
theorem leftT_take (t : List UInt8) {j : Nat} (h : j + 1 ≤ t.length) (z : Int) : (leftT t (j + 1) z).take j = t.take j := by
  unfold leftT
  rw [if_neg (by omega), List.take_set, List.take_take, Nat.min_eq_left (by omega)]
  rw [List.set_eq_of_length_le (by rw [List.length_take]; omega)]
theorem leftT_last (t : List UInt8) {j : Nat} (h : j + 1 ≤ t.length) (z : Int) : (leftT t (j + 1) z)[j]? = some (t[j] ^^^ noiseByte z) := by
  unfold leftT
  rw [if_neg (by omega), show j + 1 - 1 = j by omega, List.getElem?_set_self (by rw [List.length_take]; omega)]
  simp [List.getD, show j < t.length by omega]

theorem calm_ren {n m : List UInt8} {s : Dk} (h : Calm n s) (hm : isName m = true) (hne : n ≠ m) {f : AF} (hf : fndK AF.key n s.L = some f) :
    ∃ s', ren s n m = (s', 0) ∧ Calm m s' ∧ fndK AF.key m s'.L = some { f with name := m } ∧ fndK AF.key n s'.L = none := by
  have hr : ren s n m = ({ s with L := insK AF.key { f with name := m } (delK AF.key m (delK AF.key n s.L)) }, 0) := by
    unfold ren
    rw [calm_need h, hf]
    simp only
    rw [if_neg (by rw [hm]; simp), calm_spends h]
  have hok := Ok_ren h.ok n m
  rw [hr] at hok
  have hno : ∀ x ∈ delK AF.key m (delK AF.key n s.L), AF.key x ≠ AF.key { f with name := m } := fun x hx => (delK_mem.1 hx).2
  refine ⟨_, hr, ⟨hok, h.dead, h.fuse, fun g hg hgm => ?_⟩, ?_, ?_⟩
  · rcases insK_mem.1 hg with rfl | hg
    · exact absurd rfl hgm
    · have h1 := delK_mem.1 hg
      have h2 := delK_mem.1 h1.1
      exact h.full g h2.1 h2.2
  · show fndK AF.key m (insK AF.key { f with name := m } (delK AF.key m (delK AF.key n s.L))) = _
    rw [fndK_ins hno, if_pos (show m = AF.key { f with name := m } from rfl)]
  · show fndK AF.key n (insK AF.key { f with name := m } (delK AF.key m (delK AF.key n s.L))) = _
    rw [fndK_ins hno, if_neg (show ¬ n = AF.key { f with name := m } from hne), fndK_del, if_neg hne, fndK_del, if_pos rfl]
theorem rd_calm {n m : List UInt8} {s : Dk} (h : Calm n s) : rd s m = match fndK AF.key m s.L with | none => ([], 4) | some f => (f.data, 0) := by
  unfold rd
  rw [if_neg (by rw [h.dead]; simp)]
  cases fndK AF.key m s.L <;> rfl
theorem leftT_zero (t : List UInt8) {K : Nat} (h : K ≤ t.length) : leftT t K 0 = t.take K := by
  unfold leftT
  by_cases h0 : K = 0
  · rw [if_pos h0, h0]; simp
  · rw [if_neg h0]
    have : noiseByte 0 = 0 := by decide
    rw [this, UInt8.xor_zero]
    apply List.ext_getElem
    · simp
    · intro i h1 h2
      rw [List.getElem_set]
      split
      · rename_i he
        subst he
        simp [List.getD, show K - 1 < t.length by omega]
      · rfl
end Go.Proofs.Ytcinegkikahchaa
