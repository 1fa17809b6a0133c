import Derived.Test.YtjoeamlidmmioaaGreatDoorMq2J
import Derived.Test.YtjoeamlidmmioaaGreatDoorCards
import Derived.Test.YtjoeamlidmmioaaGreatDoorTie
import Derived.Deep.DeepHandedRow
import Derived.Deep.Strs
import Derived.OpenShut
import Derived.ChangeSame
import Derived.Lib.LaidTab
import Derived.Stop.LaidErr
import Derived.MakeChecks
import Derived.Lay
/-
  LAYER 11's rows list eight variables: what that list gives; a world that holds them.
-/
namespace Go.Proofs.YtjoeamlidmmioaaGreatDoor
open Go.ChangeShapes Go.WideShapes Go.ChangeAt Go.RowKit
set_option linter.unusedVariables false
set_option maxRecDepth 100000

theorem xNamed : Tryz.prog.globalNamed "kiosk/xml.named" = some 0 := by kernel_rfl
theorem xNamedType : (Tryz.prog.globals[0]?).map (·.type) = some 128 := by kernel_rfl
theorem xSyn : Tryz.prog.globalNamed "strconv.ErrSyntax" = some 4 := by kernel_rfl
theorem xSynType : (Tryz.prog.globals[4]?).map (·.type) = some 89 := by kernel_rfl
theorem xRng : Tryz.prog.globalNamed "strconv.ErrRange" = some 5 := by kernel_rfl
theorem xRngType : (Tryz.prog.globals[5]?).map (·.type) = some 89 := by kernel_rfl
theorem xcErr : Tryz.prog.cellsOf 164 = 1 := by kernel_rfl
theorem xcStr : Tryz.prog.cellsOf 9 = 1 := by kernel_rfl
theorem xcPair : Tryz.prog.cellsOf 127 = 2 := by kernel_rfl
theorem xcNamed : Tryz.prog.cellsOf 128 = 10 := by kernel_rfl
theorem xstar : "*" ++ "errors.errorString" = "*errors.errorString" := by decide
theorem xErr (u : TypeId) (h : Tryz.prog.typeName? 3 u = some "*errors.errorString") : u = 162 :=
  typeName_ptr_named (nm := "errors.errorString") (by rw [xstar]; kernel_rfl) (by kernel_rfl) (by decide) u (by rw [xstar]; exact h)
theorem ba_of {a : ByteArray} {l : Array UInt8} (h : a.data.toList = l.toList) : a = ⟨l⟩ := by
  obtain ⟨a⟩ := a
  simp only at h
  rw [Array.toList_inj.1 h]
theorem pair_of {H : Type} {enc : TypeId × Value → H} {W : World} {base : Nat} {sp : Nat → Bool} {held : Bool} {m : Nat} {x y : Value} {d : DataW H × List MemPlace}
    (h : DataW.trod enc Tryz.prog W base sp held m 127 [x, y] = some d) : ∃ a b : ByteArray, x = .string a ∧ y = .string b ∧ d.1 = .agg [.lit (.string a.data.toList), .lit (.string b.data.toList)] := by
  obtain ⟨y0, y1, n, rfl, _, h0, h1⟩ := trod_struct2 Tryz.underlying127 h
  simp only at h0 h1
  rw [xcStr] at h0 h1
  simp at h0 h1
  obtain ⟨a, e0, rfl, _⟩ := DataW.trod_string Tryz.underlying9 h0
  obtain ⟨b, e1, rfl, _⟩ := DataW.trod_string Tryz.underlying9 h1
  simp at e0 e1
  exact ⟨a, b, e0, e1, rfl⟩
set_option maxHeartbeats 2000000 in
theorem named_of {W : World} {rest : List (String × DataW Unit)} (h : laidMet Tryz.prog (("kiosk/xml.named", Rows.laid_kiosk_xml_named) :: rest) W) : W.var? Tryz.prog "kiosk/xml.named" = some namedCells.toArray := by
  obtain ⟨ps, ⟨g', t', cs, fuel, p, q, hg', ht', hvar, hd, _, _⟩, _⟩ := h
  obtain rfl := Option.some.inj (xNamed.symm.trans hg')
  obtain rfl := Option.some.inj (xNamedType.symm.trans ht')
  obtain ⟨xs, m, rfl, hx, hl, hlen, hf⟩ := DataW.trod_array Tryz.underlying128 hd
  rw [xcNamed] at hl
  rw [xcPair] at hf
  rw [hvar]
  obtain ⟨cs⟩ := cs
  simp only at hl hf
  match cs, hl with
  | [c0, c1, c2, c3, c4, c5, c6, c7, c8, c9], _ =>
    match xs, hlen with
    | [y0, y1, y2, y3, y4], _ =>
      obtain ⟨a0, b0, rfl, rfl, e0⟩ := pair_of (hf 0 (by decide))
      obtain ⟨a1, b1, rfl, rfl, e1⟩ := pair_of (hf 1 (by decide))
      obtain ⟨a2, b2, rfl, rfl, e2⟩ := pair_of (hf 2 (by decide))
      obtain ⟨a3, b3, rfl, rfl, e3⟩ := pair_of (hf 3 (by decide))
      obtain ⟨a4, b4, rfl, rfl, e4⟩ := pair_of (hf 4 (by decide))
      have hx1 := congrArg Prod.fst hx
      simp only [List.map_cons, List.map_nil, e0, e1, e2, e3, e4] at hx1
      simp only [Rows.laid_kiosk_xml_named, DataW.agg.injEq, List.cons.injEq, DataW.lit.injEq, Lit.string.injEq, and_true] at hx1
      obtain ⟨⟨k0, k1⟩, ⟨k2, k3⟩, ⟨k4, k5⟩, ⟨k6, k7⟩, k8, k9⟩ := hx1
      rw [ba_of (l := #[38]) k0.symm, ba_of (l := #[97, 109, 112]) k1.symm, ba_of (l := #[60]) k2.symm, ba_of (l := #[108, 116]) k3.symm, ba_of (l := #[62]) k4.symm, ba_of (l := #[103, 116]) k5.symm, ba_of (l := #[34]) k6.symm, ba_of (l := #[113, 117, 111, 116]) k7.symm, ba_of (l := #[39]) k8.symm, ba_of (l := #[97, 112, 111, 115]) k9.symm]
      rfl

theorem glob_of {W : World} (h : laidMetH Tryz.prog Rows.treeBuildsRow.laid W) (hS : W.ShapedOpen Tryz.prog) : Gb W.heap.size W := by
  rw [MakeChecks.laidMetH_plain _ _ _ (by kernel_rfl)] at h
  have h2 : laidMet Tryz.prog (("strconv.ErrRange", Rows.laid_strconv_ErrRange) :: ("strconv.ErrSyntax", Rows.laid_strconv_ErrSyntax) :: ("kiosk/xml.named", Rows.laid_kiosk_xml_named) :: ("unicode/utf8.first", Rows.laid_unicode_utf8_first) :: []) W := h.tail.tail.tail.tail
  obtain ⟨a1, s1, hv1, -, -, -⟩ := laid_sentinel h2 xRng xRngType Tryz.underlying89 xErr Tryz.underlying162 Tryz.underlying164 rfl rfl Tryz.underlying9 xcErr xcStr
  obtain ⟨a2, s2, hv2, -, -, -⟩ := laid_sentinel h2.tail xSyn xSynType Tryz.underlying89 xErr Tryz.underlying162 Tryz.underlying164 rfl rfl Tryz.underlying9 xcErr xcStr
  have hn := named_of h2.tail.tail
  have hnm : ∀ k v, namedCells[k]? = some v → W.cell? ⟨0, k, none⟩ = some v := by
    intro k v hk
    have := World.var?_cell xNamed hn k
    rw [this]
    simpa using hk
  have e1 : W.cell? ⟨5, 0, none⟩ = some (.iface 162 (.pointer (some a1))) := by simpa using World.var?_cell xRng hv1 0
  have e2 : W.cell? ⟨4, 0, none⟩ = some (.iface 162 (.pointer (some a2))) := by simpa using World.var?_cell xSyn hv2 0
  obtain ⟨m, hm⟩ := max_of hS
  exact ⟨hnm, ⟨m, hm⟩, ⟨_, e2, .inr ⟨_, _, rfl⟩⟩, ⟨_, e1, .inr ⟨_, _, rfl⟩⟩, World.block_lt_of_cell? W _ (hnm 0 _ rfl), World.block_lt_of_cell? W _ hm, World.block_lt_of_cell? W _ e2, World.block_lt_of_cell? W _ e1⟩

/-- A world for the witness. -/
noncomputable def laidWorld (os : Os) : World := World.laidAll Tryz.prog os Rows.treeBuildsRow.laid
theorem laidWorld_met (os : Os) (args : Array Value) : laidMet Tryz.prog Rows.treeBuildsRow.laid ((laidWorld os).forCall (fun _ _ => 0) ⟨#[], args, []⟩).memory :=
  laidMet_laidAll args (by kernel_rfl) (by kernel_rfl)
end Go.Proofs.YtjoeamlidmmioaaGreatDoor

