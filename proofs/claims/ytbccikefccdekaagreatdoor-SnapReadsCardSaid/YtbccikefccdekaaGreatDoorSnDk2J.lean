import Derived.Test.YtbccikefccdekaaGreatDoorSnDkJ
/-
  LAYER 4 (snap), plain mathematics: Save as a whole; what Load finds behind a crash.
-/
namespace Go.Proofs.YtbccikefccdekaaGreatDoor
set_option linter.unusedVariables false
set_option maxRecDepth 100000

theorem files_held (b : Bs) (hb : rightS b = true) : filesL [snF b] = [nameS b] := by
  unfold filesL
  simp [snF, (nameS_is hb).2.1]
theorem files_two (a b : Bs) (ha : rightS a = true) (hb : rightS b = true) : filesL [snF a, snF b] = [nameS a, nameS b] := by
  unfold filesL
  simp [snF, (nameS_is hb).2.1, (nameS_is ha).2.1]
theorem dele_one {s : Dk} {f : AF} {n : List UInt8} (hd : s.dead = false) (hf : fndK AF.key n s.L = some f) :
    ((dele s n).2 = 7 ∧ s.fuse ≠ -1 ∧ (dele s n).1.dead = true ∧ (dele s n).1.L = s.L) ∨ ((dele s n).2 = 0 ∧ (dele s n).1.dead = false ∧ (dele s n).1.L = delK AF.key n s.L ∧ (dele s n).1.most = s.most ∧ (s.fuse = -1 → (dele s n).1.fuse = -1)) := by
  have e : dele s n = spends s fun s => { s with L := delK AF.key n s.L } := by
    unfold dele need
    rw [hd, hf]
    rfl
  rcases spends_cases s (fun s => { s with L := delK AF.key n s.L }) with ⟨hf, h1⟩ | ⟨hf, h1⟩
  · rw [h1] at e
    rw [e]
    exact .inl ⟨rfl, by omega, rfl, rfl⟩
  · rw [h1] at e
    rw [e]
    exact .inr ⟨rfl, hd, rfl, rfl, fun e => by show tick s.fuse = -1; rw [e]; rfl⟩
/-- The old one goes. -/
theorem others_t {s : Dk} {o : Option Bs} {b : Bs} (ho : oRight o) (hb : rightS b = true) (hok : s.Ok) (hd : s.dead = false) (hL : s.L = bothL o b) :
    ((dropOthersS s (nameS b)).2 = 7 ∧ s.fuse ≠ -1 ∧ (dropOthersS s (nameS b)).1.Ok ∧ (dropOthersS s (nameS b)).1.dead = true ∧ (dropOthersS s (nameS b)).1.L = bothL o b) ∨
    ((dropOthersS s (nameS b)).2 = 0 ∧ Hs (dropOthersS s (nameS b)).1 (some b) none ∧ (dropOthersS s (nameS b)).1.most = s.most ∧ (s.fuse = -1 → (dropOthersS s (nameS b)).1.fuse = -1)) := by
  unfold dropOthersS
  rcases both_cases o ho hb with h | ⟨a, rfl, hne, h⟩
  · right
    have e : dropEach (nameS b) s (filesL s.L) = (s, 0) := by rw [hL, h, files_held b hb]; simp [dropEach]
    rw [e]
    exact ⟨rfl, ⟨hok, hd, by rw [hL, h]; rfl⟩, rfl, fun e => e⟩
  · have ha := ho a rfl
    have hna : nameS a ≠ nameS b := fun e => hne ((nameS_eq ha hb).1 e)
    have hf : fndK AF.key (nameS a) s.L = some (snF a) := by
      rcases h with h | h
      · rw [hL, h]; unfold fndK; simp [snF, AF.key, hna.symm]
      · rw [hL, h]; unfold fndK; simp [snF, AF.key]
    have hdel : delK AF.key (nameS a) s.L = [snF b] := by
      rcases h with h | h
      · rw [hL, h]; unfold delK; simp [snF, AF.key, hna.symm]
      · rw [hL, h]; unfold delK; simp [snF, AF.key, hna.symm]
    have hokd := Ok_dele hok (nameS a)
    have e : dropEach (nameS b) s (filesL s.L) = if (dele s (nameS a)).2 = 0 then ((dele s (nameS a)).1, 0) else dele s (nameS a) := by
      rcases h with h | h
      · rw [hL, h, files_two b a hb ha]; simp [dropEach, hna]
      · rw [hL, h, files_two a b ha hb]; simp [dropEach, hna]
    rw [e]
    rcases dele_one hd hf with ⟨k1, k2, k3, k4⟩ | ⟨k1, k2, k3, k4, k5⟩
    · rw [if_neg (by omega)]
      exact .inl ⟨k1, k2, hokd, k3, by rw [k4, hL]⟩
    · rw [if_pos k1]
      exact .inr ⟨rfl, ⟨hokd, k2, by show (dele s (nameS a)).1.L = _; rw [k3, hdel]; rfl⟩, k4, k5⟩
/-- SAVE: it is OK and the new one is there alone; or the power has gone: over the old one, or with both there. -/
theorem save_cases {s : Dk} {o : Option Bs} {b : Bs} (h : Hs s o none) (ho : oRight o) (hb : rightS b = true) (hr : (oLen o + (packS b).length : Int) ≤ s.most) :
    ((saveS s b).2 = 7 ∧ s.fuse ≠ -1 ∧ (Dies (saveS s b).1 o ∨ ((saveS s b).1.Ok ∧ (saveS s b).1.dead = true ∧ (saveS s b).1.L = bothL o b))) ∨
    ((saveS s b).2 = 0 ∧ Hs (saveS s b).1 (some b) none ∧ (saveS s b).1.most = s.most ∧ (s.fuse = -1 → (saveS s b).1.fuse = -1)) := by
  have key : ((replaceS s b).2 = 7 ∧ s.fuse ≠ -1 ∧ (Dies (replaceS s b).1 o ∨ ((replaceS s b).1.Ok ∧ (replaceS s b).1.dead = true ∧ (replaceS s b).1.L = bothL o b))) ∨
      ((replaceS s b).2 = 0 ∧ Hs (replaceS s b).1 (some b) none ∧ (replaceS s b).1.most = s.most ∧ (s.fuse = -1 → (replaceS s b).1.fuse = -1)) := by
    unfold replaceS
    rw [drop_none h]
    simp only [thenS, if_true]
    rcases apps_first h b hr with ⟨a1, a2, a3⟩ | ⟨a1, a2, a3, a4⟩
    · rw [if_neg (by omega)]; exact .inl ⟨a1, a2, .inl a3⟩
    · rw [if_pos a1]
      rcases syn_t a2 with ⟨b1, b2, b3⟩ | ⟨b1, b2, b3, b4⟩
      · rw [if_neg (by omega)]; exact .inl ⟨b1, fun e => b2 (a4 e), .inl b3⟩
      · rw [if_pos b1]
        rcases ren_t hb b2 with ⟨c1, c2, c3⟩ | ⟨c1, c2, c3, c4, c5, c6⟩
        · have hc : (ren (syn (appsS s (framesS b)).1 draftN).1 draftN (Sn.segN b.ix)).2 = 7 := c1
          rw [if_neg (by omega)]; exact .inl ⟨c1, fun e => c2 (b4 (a4 e)), .inl c3⟩
        · have hc : (ren (syn (appsS s (framesS b)).1 draftN).1 draftN (Sn.segN b.ix)).2 = 0 := c1
          rw [if_pos hc]
          rcases others_t ho hb c2 c3 c4 with ⟨d1, d2, d3⟩ | ⟨d1, d2, d3, d4⟩
          · exact .inl ⟨d1, fun e => d2 (c6 (b4 (a4 e))), .inr d3⟩
          · exact .inr ⟨d1, d2, by rw [← a3, ← b3, ← c5]; exact d3, fun e => d4 (c6 (b4 (a4 e)))⟩
  unfold saveS
  rw [if_neg (by rw [hb]; simp)]
  rcases key with k | k
  · rw [if_pos (.inr k.1)]; exact .inl k
  · rw [if_pos (.inl k.1)]; exact .inr k
theorem save_bad {s : Dk} {b : Bs} (h : rightS b = false) : saveS s b = (s, 1) := by unfold saveS; rw [if_pos h]

/-! ### loading -/
theorem read_one {s : Dk} {b : Bs} (hb : rightS b = true) (hd : s.dead = false) (hf : fndK AF.key (nameS b) s.L = some (snF b)) : readS s (nameS b) = some b := by
  have e : rd s (nameS b) = (packS b, 0) := by unfold rd; rw [hd, hf]; rfl
  unfold readS
  rw [e, unpack_pack hb]
  exact if_pos ⟨rfl, rfl⟩
theorem files_t (L : List AF) (d : List UInt8) (y : Nat) : filesL (L ++ [tF d y]) = filesL L := by
  unfold filesL
  rw [List.map_append, List.filter_append]
  simp [tF, draft_not]
theorem load_held {s : Dk} {o : Option Bs} (ho : oRight o) (hd : s.dead = false) (hL : s.L = heldL o ∨ ∃ d y, s.L = heldL o ++ [tF d y]) : loadS s = o := by
  have hfl : filesL s.L = filesL (heldL o) := by
    rcases hL with h | ⟨d, y, h⟩
    · rw [h]
    · rw [h, files_t]
  unfold loadS
  rw [hfl]
  cases o with
  | none => simp [heldL, filesL, Sn.sortSeg]
  | some b =>
    have hb := ho b rfl
    have hf : fndK AF.key (nameS b) s.L = some (snF b) := by
      rcases hL with h | ⟨d, y, h⟩
      · rw [h]; unfold fndK; simp [heldL, snF, AF.key]
      · rw [h]; unfold fndK; simp [heldL, snF, AF.key]
    show (Sn.sortSeg (filesL [snF b])).findSome? (readS s) = some b
    rw [files_held b hb]
    simp [Sn.sortSeg, read_one hb hd hf]
theorem load_both {s : Dk} {o : Option Bs} {b : Bs} (ho : oRight o) (hb : rightS b = true) (hd : s.dead = false) (hL : s.L = bothL o b) : loadS s = o ∨ loadS s = some b := by
  rcases both_cases o ho hb with h | ⟨a, rfl, hne, h⟩
  · right
    exact load_held (o := some b) (fun c e => by cases e; exact hb) hd (.inl (by rw [hL, h]; rfl))
  · have ha := ho a rfl
    have hna : nameS a ≠ nameS b := fun e => hne ((nameS_eq ha hb).1 e)
    have fa : fndK AF.key (nameS a) s.L = some (snF a) := by
      rcases h with h | h
      · rw [hL, h]; unfold fndK; simp [snF, AF.key, hna.symm]
      · rw [hL, h]; unfold fndK; simp [snF, AF.key]
    have fb : fndK AF.key (nameS b) s.L = some (snF b) := by
      rcases h with h | h
      · rw [hL, h]; unfold fndK; simp [snF, AF.key]
      · rw [hL, h]; unfold fndK; simp [snF, AF.key, hna]
    have ra := read_one ha hd fa
    have rb := read_one hb hd fb
    unfold loadS
    have hp : (Sn.sortSeg (filesL s.L)).Perm [nameS a, nameS b] := by
      refine (List.mergeSort_perm _ _).trans ?_
      rcases h with h | h
      · rw [hL, h, files_two b a hb ha]; exact List.Perm.swap _ _ _
      · rw [hL, h, files_two a b ha hb]
    generalize Sn.sortSeg (filesL s.L) = l at hp
    cases l with
    | nil => have := hp.length_eq; simp at this
    | cons x r =>
      have hx : x = nameS a ∨ x = nameS b := by simpa using hp.mem_iff.1 (List.mem_cons_self (a := x) (l := r))
      rcases hx with rfl | rfl
      · left; simp [ra]
      · right; simp [rb]
theorem cr_same : ∀ (L : List AF) (ks ns : List Int), (∀ f ∈ L, f.synced = f.data.length) → crL L ks ns = L
  | [], _, _, _ => rfl
  | f :: r, ks, ns, h => by
    unfold crL
    rw [if_neg (by have := h f (by simp); omega), cr_same r ks ns (fun g hg => h g (by simp [hg]))]
theorem cr_app : ∀ (L M : List AF) (ks ns : List Int), (∀ f ∈ L, f.synced = f.data.length) → crL (L ++ M) ks ns = L ++ crL M ks ns
  | [], _, _, _, _ => rfl
  | f :: r, M, ks, ns, h => by
    rw [List.cons_append]
    conv => lhs; unfold crL
    rw [if_neg (by have := h f (by simp); omega), cr_app r M ks ns (fun g hg => h g (by simp [hg]))]
    rfl
theorem held_sync (o : Option Bs) : ∀ f ∈ heldL o, f.synced = f.data.length := by
  intro f hf
  cases o with
  | none => simp [heldL] at hf
  | some b => simp [heldL] at hf; subst hf; rfl
theorem cr_held (o : Option Bs) (d : List UInt8) (y : Nat) (ks ns : List Int) : ∃ d' y', crL (heldL o ++ [tF d y]) ks ns = heldL o ++ [tF d' y'] := by
  rw [cr_app _ _ _ _ (held_sync o)]
  unfold crL
  split
  · exact ⟨(crF (tF d y) (ks.headD 0) (ns.headD 0)).data, (crF (tF d y) (ks.headD 0) (ns.headD 0)).synced, rfl⟩
  · exact ⟨d, y, rfl⟩
theorem both_sync (o : Option Bs) (b : Bs) (ho : oRight o) (hb : rightS b = true) : ∀ f ∈ bothL o b, f.synced = f.data.length := by
  intro f hf
  rcases both_cases o ho hb with h | ⟨a, rfl, _, h | h⟩ <;> rw [h] at hf <;> simp at hf
  · subst hf; rfl
  · rcases hf with rfl | rfl <;> rfl
  · rcases hf with rfl | rfl <;> rfl
/-- Behind a crash: of a disk that died. -/
theorem died_load {s : Dk} {o : Option Bs} {b : Bs} (ho : oRight o) (hb : rightS b = true) (h : Dies s o ∨ (s.Ok ∧ s.dead = true ∧ s.L = bothL o b)) (ks ns : List Int) : loadS (crash s ks ns) = o ∨ loadS (crash s ks ns) = some b := by
  rcases h with ⟨_, _, h⟩ | ⟨_, _, h⟩
  · left
    refine load_held ho rfl ?_
    show crL s.L ks ns = _ ∨ ∃ d y, crL s.L ks ns = _
    rcases h with h | ⟨d, y, h⟩
    · left; rw [h, cr_same _ _ _ (held_sync o)]
    · right; rw [h]; exact cr_held o d y ks ns
  · refine load_both ho hb rfl ?_
    show crL s.L ks ns = _
    rw [h, cr_same _ _ _ (both_sync o b ho hb)]
/-- .. of one that lives. -/
theorem calm_load {s : Dk} {o : Option Bs} (ho : oRight o) (h : Hs s o none) (ks ns : List Int) : loadS (crash s ks ns) = o := by
  refine load_held ho rfl (.inl ?_)
  show crL s.L ks ns = _
  rw [h.L, List.append_nil, cr_same _ _ _ (held_sync o)]
end Go.Proofs.YtbccikefccdekaaGreatDoor

