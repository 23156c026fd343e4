/- For every list of nodes, two texts and a number: a program's text, a quoted text, what is quoted and a kind's name are what the document says (SpellPrints, a tied card). -/
import Derived.Test.YtaildeglikhkaaaGreatDoorLawAll
import Derived.Test.YtaildeglikhkaaaGreatDoorLookAll
import Derived.Test.YtaildeglikhkaaaGreatDoorCheck
import Derived.Test.YtaildeglikhkaaaGreatDoorRows
import Derived.Test.YtaildeglikhkaaaGreatDoorKindAll
import Derived.Lib.LaidTab
import Derived.ProofKit
import Derived.Carry
import Derived.LaidMore
import Derived.OpenShut
import Derived.Test.YtaildeglikhkaaaGreatDoorCards
import Derived.Test.YtaildeglikhkaaaGreatDoorTie
import Derived.Test.YtaildeglikhkaaaGreatDoorOpenAll
import Derived.Lay
import Derived.Below
import Derived.Stop.Joined
import Derived.Stop.LaidErr
import Derived.Stop.LaidTwo
import Derived.SevenTiedAt
/-! The law SpellPrints. -/
namespace Go.Proofs.YtaildeglikhkaaaGreatDoor
open Go.RowKit

theorem prints_any (v : Value) (X : List Nd) (s t : ByteArray) (kind : Int) (W : World) (ea : Nat → Addr) (hE : Ers W ea) (hK : KnAt W) (hP : ∀ w', Below W.heap.size W w' → Pow w') (hN : NdAt W v X) (hl : X.length ≤ 140737488351232) (hX : ∀ x ∈ X, NdIn x) (hs1 : s.size < 4611686018427387904) (ht1 : t.size < 4611686018427387904) :
    Calls Tryz.prog 3 #[v, .string s, .string t, .int .i64 kind] W fun e w' => e = .returned (.bool true) ∧ Below W.heap.size W w' := by
  refine prints_of v X s t kind W ea hE hK hP hN hl (fun x hx => ⟨(hX x hx).s, (hX x hx).k.2⟩) (fun x hx => (hX x hx).n) hs1 ht1 (fun h2 W' hb => ?_)
  refine Calls.mono (refCheck_any v X W' (hN.below hb (Nat.le_refl _)) (by omega) hX) ?_
  rintro e w' ⟨c, ⟨fa, fn, fc, he⟩, hc, hb'⟩
  exact ⟨c, fa, fn, fc, he, fun h0 => fits_fine X (hc h0) (by omega), hb'⟩
end Go.Proofs.YtaildeglikhkaaaGreatDoor
/-! The errors' texts are others each. -/
namespace Go.Proofs.YtaildeglikhkaaaGreatDoor
open Go.RowKit

/-- The text of the error in a variable. -/
def textE : Nat → List UInt8
  | 0 => [116, 111, 111, 32, 109, 97, 110, 121]
  | 1 => [110, 111, 32, 112, 114, 111, 103, 114, 97, 109]
  | 2 => [110, 101, 115, 116, 101, 100, 32, 116, 111, 111, 32, 100, 101, 101, 112]
  | 3 => [116, 111, 111, 32, 108, 111, 110, 103]
  | 4 => [105, 116, 32, 101, 110, 100, 115, 32, 116, 111, 111, 32, 101, 97, 114, 108, 121]
  | 5 => [105, 116, 32, 100, 111, 101, 115, 32, 110, 111, 116, 32, 115, 116, 97, 110, 100, 32, 104, 101, 114, 101]
  | 6 => [97, 32, 113, 117, 111, 116, 101, 32, 116, 104, 97, 116, 32, 100, 111, 101, 115, 32, 110, 111, 116, 32, 101, 110, 100]
  | 7 => [97, 32, 98, 114, 97, 99, 107, 101, 116, 32, 116, 104, 97, 116, 32, 100, 111, 101, 115, 32, 110, 111, 116, 32, 101, 110, 100]
  | 8 => [97, 32, 98, 114, 97, 99, 101, 32, 116, 104, 97, 116, 32, 100, 111, 101, 115, 32, 110, 111, 116, 32, 101, 110, 100]
  | 9 => [110, 111, 32, 110, 97, 109, 101]
  | 10 => [110, 111, 32, 116, 111, 107, 101, 110]
  | 11 => [116, 111, 111, 32, 109, 97, 110, 121, 32, 115, 116, 101, 112, 115]
  | 12 => [99, 97, 108, 108, 101, 100, 32, 116, 111, 111, 32, 100, 101, 101, 112]
  | 13 => [116, 111, 111, 32, 98, 105, 103]
  | 14 => [105, 116, 32, 99, 97, 110, 110, 111, 116, 32, 98, 101, 32, 115, 97, 105, 100]
  | 15 => [110, 111, 32, 99, 111, 100, 101]
  | 16 => [110, 111, 32, 115, 117, 99, 104, 32, 110, 117, 109, 98, 101, 114]
  | _ => []
theorem textE_inj : ∀ i, i < 17 → ∀ j, j < 17 → textE i = textE j → i = j := by decide
theorem ers_of {W : World} {ea : Nat → Addr} (h : ∀ i, i < 17 → W.cell? ⟨i + 1, 0, none⟩ = some (errV (ea i)) ∧ (∃ s, W.cell? (ea i) = some (.string s) ∧ s.data.toList = textE i) ∧ ∃ c t, W.heap[(ea i).block]? = some (.cells c t (0, 0))) : Ers W ea := by
  refine ⟨fun i hi => (h i hi).1, fun i j hi hj e => ?_, fun i hi => (h i hi).2.2⟩
  obtain ⟨s, h1, h2⟩ := (h i hi).2.1
  obtain ⟨s', h3, h4⟩ := (h j hj).2.1
  rw [e, h3] at h1
  cases h1
  exact textE_inj i hi j hj (h2.symm.trans h4)
end Go.Proofs.YtaildeglikhkaaaGreatDoor
/-! The names of the kinds lie in the world, out of what the card lays. -/
namespace Go.Proofs.YtaildeglikhkaaaGreatDoor
open Go.RowKit Go.Lib
/-- A row's data: these texts. -/
def namesData {H : Type} (L : List (List UInt8)) : DataW H := .agg (L.map fun l => .lit (.string l))
theorem cells_of_names {H : Type} {enc : TypeId × Value → H} {P : Program} {w : World} {base : Nat} {sp : Nat → Bool} {held : Bool} {fuel : Nat} {t e : TypeId} {n : Nat} {cs : List Value} {zs : List (List UInt8)} {p : List MemPlace}
    (ht : P.underlying t = some (.array n e)) (he : P.underlying e = some .string) (hce : P.cellsOf e = 1) (hct : P.cellsOf t = n)
    (h : DataW.trod enc P w base sp held fuel t cs = some (namesData zs, p)) : cs = zs.map str := by
  cases fuel with
  | zero => simp [DataW.trod] at h
  | succ fuel =>
    simp only [DataW.trod, ht, hce, hct, Nat.mul_one] at h
    split at h
    · rename_i hl
      obtain ⟨xs, hm, hx⟩ := Option.map_eq_some_iff.1 h
      have hxs : xs.map (·.1) = zs.map fun z => (DataW.lit (.string z) : DataW H) := by
        have := congrArg Prod.fst hx
        simpa [namesData] using this
      have hxl : xs.length = n := by simpa using mapM_length hm
      have hzl : zs.length = n := by
        have := congrArg List.length hxs
        simp at this
        omega
      apply List.ext_getElem?
      intro i
      by_cases hi : i < n
      · obtain ⟨b, hb, hf⟩ := mapM_at hm i i (by simp [hi])
        obtain ⟨z, hc, hz, _⟩ := DataW.trod_string he hf
        have h1 : cs[i]? = some (.string z) := by
          have := congrArg (·[0]?) hc
          simpa [List.getElem?_take, List.getElem?_drop] using this
        have h2 : (xs.map (·.1))[i]? = some b.1 := by simp [hb]
        rw [hxs] at h2
        rw [hz] at h2
        simp only [List.getElem?_map, Option.map_eq_some_iff, DataW.lit.injEq, Lit.string.injEq] at h2
        obtain ⟨z', hz', e'⟩ := h2
        rw [h1, List.getElem?_map, hz', e']
        rfl
      · rw [List.getElem?_eq_none (by omega), List.getElem?_eq_none (by simp; omega)]
    · cases h
theorem gKn : Tryz.prog.globalNamed "patois/spell.kindNames" = some 0 := by kernel_rfl
theorem tKn : (Tryz.prog.globals[0]?).map (·.type) = some 60 := by kernel_rfl
theorem uKn : Tryz.prog.underlying 60 = some (.array 38 9) := by kernel_rfl
theorem uS : Tryz.prog.underlying 9 = some .string := by kernel_rfl
theorem cKn : Tryz.prog.cellsOf 60 = 38 := by kernel_rfl
theorem cS : Tryz.prog.cellsOf 9 = 1 := by kernel_rfl
theorem dKn : (Rows.laid_patois_spell_kindNames : DataW Unit) = namesData kindL := by kernel_rfl
theorem kn_of_head {W : World} {rest : List (String × DataW Unit)} (h : laidMet Tryz.prog (("patois/spell.kindNames", namesData kindL) :: rest) W) : KnAt W := by
  obtain ⟨ps, ⟨g', t', cs, fuel, p, q, hg', ht', hvar, hd, _, _⟩, _⟩ := h
  obtain rfl := Option.some.inj (gKn.symm.trans hg')
  obtain rfl := Option.some.inj (tKn.symm.trans ht')
  have hcs := cells_of_names uKn uS cS cKn hd
  unfold World.var? at hvar
  rw [gKn] at hvar
  simp only [Option.bind_some] at hvar
  cases hh : W.heap[0]? with
  | none => rw [hh] at hvar; cases hvar
  | some o =>
    rw [hh] at hvar
    cases o with
    | cells c t fr =>
      have e1 : c = cs := by simpa using hvar
      have e2 : cs = kindA := by
        apply Array.toList_inj.1
        rw [hcs, kindA_list]
      exact ⟨t, fr, by rw [hh, e1, e2]⟩
    | _ => cases hvar
end Go.Proofs.YtaildeglikhkaaaGreatDoor
namespace Go.Proofs.YtaildeglikhkaaaGreatDoor.cardSpellPrints
open Go.ChangeShapes Go.WideShapes Go.ChangeAt Go.WideMaps Go.WideElems Go.RowKit
open Go.ChangeMaps (open_string shut_string)

theorem own : ownKnob Tryz.prog.godebug = none := by kernel_rfl
theorem g3 : Tryz.prog.globalNamed (Rows.spellPrintsRow.named.getD 0 default) = some 4 := by kernel_rfl
theorem t3 : (Tryz.prog.globals[4]?).map (·.type) = some 36 := by kernel_rfl
theorem g2 : Tryz.prog.globalNamed (Rows.spellPrintsRow.named.getD 6 default) = some 3 := by kernel_rfl
theorem t2 : (Tryz.prog.globals[3]?).map (·.type) = some 36 := by kernel_rfl
theorem g6 : Tryz.prog.globalNamed (Rows.spellPrintsRow.named.getD 12 default) = some 7 := by kernel_rfl
theorem t6 : (Tryz.prog.globals[7]?).map (·.type) = some 36 := by kernel_rfl
theorem g7 : Tryz.prog.globalNamed (Rows.spellPrintsRow.named.getD 13 default) = some 8 := by kernel_rfl
theorem t7 : (Tryz.prog.globals[8]?).map (·.type) = some 36 := by kernel_rfl
theorem g8 : Tryz.prog.globalNamed (Rows.spellPrintsRow.named.getD 14 default) = some 9 := by kernel_rfl
theorem t8 : (Tryz.prog.globals[9]?).map (·.type) = some 36 := by kernel_rfl
theorem g9 : Tryz.prog.globalNamed (Rows.spellPrintsRow.named.getD 15 default) = some 10 := by kernel_rfl
theorem t9 : (Tryz.prog.globals[10]?).map (·.type) = some 36 := by kernel_rfl
theorem g10 : Tryz.prog.globalNamed (Rows.spellPrintsRow.named.getD 16 default) = some 11 := by kernel_rfl
theorem t10 : (Tryz.prog.globals[11]?).map (·.type) = some 36 := by kernel_rfl
theorem g5 : Tryz.prog.globalNamed (Rows.spellPrintsRow.named.getD 3 default) = some 6 := by kernel_rfl
theorem t5 : (Tryz.prog.globals[6]?).map (·.type) = some 36 := by kernel_rfl
theorem g4 : Tryz.prog.globalNamed (Rows.spellPrintsRow.named.getD 2 default) = some 5 := by kernel_rfl
theorem t4 : (Tryz.prog.globals[5]?).map (·.type) = some 36 := by kernel_rfl
theorem g1 : Tryz.prog.globalNamed (Rows.spellPrintsRow.named.getD 5 default) = some 2 := by kernel_rfl
theorem t1 : (Tryz.prog.globals[2]?).map (·.type) = some 36 := by kernel_rfl
theorem g0 : Tryz.prog.globalNamed (Rows.spellPrintsRow.named.getD 4 default) = some 1 := by kernel_rfl
theorem t0 : (Tryz.prog.globals[1]?).map (·.type) = some 36 := by kernel_rfl
theorem g11 : Tryz.prog.globalNamed (Rows.spellPrintsRow.named.getD 17 default) = some 12 := by kernel_rfl
theorem t11 : (Tryz.prog.globals[12]?).map (·.type) = some 36 := by kernel_rfl
theorem g12 : Tryz.prog.globalNamed (Rows.spellPrintsRow.named.getD 18 default) = some 13 := by kernel_rfl
theorem t12 : (Tryz.prog.globals[13]?).map (·.type) = some 36 := by kernel_rfl
theorem g13 : Tryz.prog.globalNamed (Rows.spellPrintsRow.named.getD 19 default) = some 14 := by kernel_rfl
theorem t13 : (Tryz.prog.globals[14]?).map (·.type) = some 36 := by kernel_rfl
theorem g14 : Tryz.prog.globalNamed (Rows.spellPrintsRow.named.getD 20 default) = some 15 := by kernel_rfl
theorem t14 : (Tryz.prog.globals[15]?).map (·.type) = some 36 := by kernel_rfl
theorem g15 : Tryz.prog.globalNamed (Rows.spellPrintsRow.named.getD 21 default) = some 16 := by kernel_rfl
theorem t15 : (Tryz.prog.globals[16]?).map (·.type) = some 36 := by kernel_rfl
theorem g16 : Tryz.prog.globalNamed (Rows.spellPrintsRow.named.getD 22 default) = some 17 := by kernel_rfl
theorem t16 : (Tryz.prog.globals[17]?).map (·.type) = some 36 := by kernel_rfl
theorem star : "*" ++ "errors.errorString" = "*errors.errorString" := by decide
theorem rowErr (u : TypeId) (h : Tryz.prog.typeName? 3 u = some "*errors.errorString") : u = 162 :=
  typeName_ptr_named (nm := "errors.errorString") (by rw [star]; kernel_rfl) (by kernel_rfl) (by decide) u (by rw [star]; exact h)
theorem c125 : Tryz.prog.cellsOf 176 = 1 := by kernel_rfl
theorem cell9 : Tryz.prog.cellsOf 9 = 1 := by kernel_rfl
/-- What the row's list gives: the sentinels are pointers, others each. -/
theorem err_of {W : World} (h : laidMetH Tryz.prog Rows.spellPrintsRow.laid W) : ∃ ea, Ers W ea := by
  rw [MakeChecks.laidMetH_plain _ _ _ (by kernel_rfl)] at h
  obtain ⟨a3, a2, s3, s2, c3, c2, u3, u2, v3, v2, x3, y3, _, x2, y2, _, _, z3, z2⟩ := laid_sentinels2 ((laidMet.tail (laidMet.tail (laidMet.tail (laidMet.tail h))))) g3 t3 g2 t2 Tryz.underlying36 rowErr Tryz.underlying162 Tryz.underlying176 rfl rfl Tryz.underlying9 c125 cell9
  obtain ⟨a6, a7, s6, s7, c6, c7, u6, u7, v6, v7, x6, y6, _, x7, y7, _, _, z6, z7⟩ := laid_sentinels2 ((laidMet.tail (laidMet.tail (laidMet.tail (laidMet.tail (laidMet.tail (laidMet.tail h))))))) g6 t6 g7 t7 Tryz.underlying36 rowErr Tryz.underlying162 Tryz.underlying176 rfl rfl Tryz.underlying9 c125 cell9
  obtain ⟨a8, a9, s8, s9, c8, c9, u8, u9, v8, v9, x8, y8, _, x9, y9, _, _, z8, z9⟩ := laid_sentinels2 ((laidMet.tail (laidMet.tail (laidMet.tail (laidMet.tail (laidMet.tail (laidMet.tail (laidMet.tail (laidMet.tail h))))))))) g8 t8 g9 t9 Tryz.underlying36 rowErr Tryz.underlying162 Tryz.underlying176 rfl rfl Tryz.underlying9 c125 cell9
  obtain ⟨a10, a5, s10, s5, c10, c5, u10, u5, v10, v5, x10, y10, _, x5, y5, _, _, z10, z5⟩ := laid_sentinels2 ((laidMet.tail (laidMet.tail (laidMet.tail (laidMet.tail (laidMet.tail (laidMet.tail (laidMet.tail (laidMet.tail (laidMet.tail (laidMet.tail h))))))))))) g10 t10 g5 t5 Tryz.underlying36 rowErr Tryz.underlying162 Tryz.underlying176 rfl rfl Tryz.underlying9 c125 cell9
  obtain ⟨a4, a1, s4, s1, c4, c1, u4, u1, v4, v1, x4, y4, _, x1, y1, _, _, z4, z1⟩ := laid_sentinels2 ((laidMet.tail (laidMet.tail (laidMet.tail (laidMet.tail (laidMet.tail (laidMet.tail (laidMet.tail (laidMet.tail (laidMet.tail (laidMet.tail (laidMet.tail (laidMet.tail h))))))))))))) g4 t4 g1 t1 Tryz.underlying36 rowErr Tryz.underlying162 Tryz.underlying176 rfl rfl Tryz.underlying9 c125 cell9
  obtain ⟨a0, a11, s0, s11, c0, c11, u0, u11, v0, v11, x0, y0, _, x11, y11, _, _, z0, z11⟩ := laid_sentinels2 ((laidMet.tail (laidMet.tail (laidMet.tail (laidMet.tail (laidMet.tail (laidMet.tail (laidMet.tail (laidMet.tail (laidMet.tail (laidMet.tail (laidMet.tail (laidMet.tail (laidMet.tail (laidMet.tail h))))))))))))))) g0 t0 g11 t11 Tryz.underlying36 rowErr Tryz.underlying162 Tryz.underlying176 rfl rfl Tryz.underlying9 c125 cell9
  obtain ⟨a12, a13, s12, s13, c12, c13, u12, u13, v12, v13, x12, y12, _, x13, y13, _, _, z12, z13⟩ := laid_sentinels2 ((laidMet.tail (laidMet.tail (laidMet.tail (laidMet.tail (laidMet.tail (laidMet.tail (laidMet.tail (laidMet.tail (laidMet.tail (laidMet.tail (laidMet.tail (laidMet.tail (laidMet.tail (laidMet.tail (laidMet.tail (laidMet.tail h))))))))))))))))) g12 t12 g13 t13 Tryz.underlying36 rowErr Tryz.underlying162 Tryz.underlying176 rfl rfl Tryz.underlying9 c125 cell9
  obtain ⟨a14, a15, s14, s15, c14, c15, u14, u15, v14, v15, x14, y14, _, x15, y15, _, _, z14, z15⟩ := laid_sentinels2 ((laidMet.tail (laidMet.tail (laidMet.tail (laidMet.tail (laidMet.tail (laidMet.tail (laidMet.tail (laidMet.tail (laidMet.tail (laidMet.tail (laidMet.tail (laidMet.tail (laidMet.tail (laidMet.tail (laidMet.tail (laidMet.tail (laidMet.tail (laidMet.tail h))))))))))))))))))) g14 t14 g15 t15 Tryz.underlying36 rowErr Tryz.underlying162 Tryz.underlying176 rfl rfl Tryz.underlying9 c125 cell9
  obtain ⟨_, a16, _, s16, _, c16, _, u16, _, v16, _, _, _, x16, y16, _, _, _, z16⟩ := laid_sentinels2 ((laidMet.tail (laidMet.tail (laidMet.tail (laidMet.tail (laidMet.tail (laidMet.tail (laidMet.tail (laidMet.tail (laidMet.tail (laidMet.tail (laidMet.tail (laidMet.tail (laidMet.tail (laidMet.tail (laidMet.tail (laidMet.tail (laidMet.tail (laidMet.tail (laidMet.tail h)))))))))))))))))))) g15 t15 g16 t16 Tryz.underlying36 rowErr Tryz.underlying162 Tryz.underlying176 rfl rfl Tryz.underlying9 c125 cell9
  refine ⟨fun i => match i with | 0 => a0 | 1 => a1 | 2 => a2 | 3 => a3 | 4 => a4 | 5 => a5 | 6 => a6 | 7 => a7 | 8 => a8 | 9 => a9 | 10 => a10 | 11 => a11 | 12 => a12 | 13 => a13 | 14 => a14 | 15 => a15 | _ => a16, ers_of fun i hi => ?_⟩
  match i, hi with
  | 0, _ => exact ⟨by simpa using World.var?_cell g0 v0 0, ⟨s0, x0, y0⟩, c0, u0, z0⟩
  | 1, _ => exact ⟨by simpa using World.var?_cell g1 v1 0, ⟨s1, x1, y1⟩, c1, u1, z1⟩
  | 2, _ => exact ⟨by simpa using World.var?_cell g2 v2 0, ⟨s2, x2, y2⟩, c2, u2, z2⟩
  | 3, _ => exact ⟨by simpa using World.var?_cell g3 v3 0, ⟨s3, x3, y3⟩, c3, u3, z3⟩
  | 4, _ => exact ⟨by simpa using World.var?_cell g4 v4 0, ⟨s4, x4, y4⟩, c4, u4, z4⟩
  | 5, _ => exact ⟨by simpa using World.var?_cell g5 v5 0, ⟨s5, x5, y5⟩, c5, u5, z5⟩
  | 6, _ => exact ⟨by simpa using World.var?_cell g6 v6 0, ⟨s6, x6, y6⟩, c6, u6, z6⟩
  | 7, _ => exact ⟨by simpa using World.var?_cell g7 v7 0, ⟨s7, x7, y7⟩, c7, u7, z7⟩
  | 8, _ => exact ⟨by simpa using World.var?_cell g8 v8 0, ⟨s8, x8, y8⟩, c8, u8, z8⟩
  | 9, _ => exact ⟨by simpa using World.var?_cell g9 v9 0, ⟨s9, x9, y9⟩, c9, u9, z9⟩
  | 10, _ => exact ⟨by simpa using World.var?_cell g10 v10 0, ⟨s10, x10, y10⟩, c10, u10, z10⟩
  | 11, _ => exact ⟨by simpa using World.var?_cell g11 v11 0, ⟨s11, x11, y11⟩, c11, u11, z11⟩
  | 12, _ => exact ⟨by simpa using World.var?_cell g12 v12 0, ⟨s12, x12, y12⟩, c12, u12, z12⟩
  | 13, _ => exact ⟨by simpa using World.var?_cell g13 v13 0, ⟨s13, x13, y13⟩, c13, u13, z13⟩
  | 14, _ => exact ⟨by simpa using World.var?_cell g14 v14 0, ⟨s14, x14, y14⟩, c14, u14, z14⟩
  | 15, _ => exact ⟨by simpa using World.var?_cell g15 v15 0, ⟨s15, x15, y15⟩, c15, u15, z15⟩
  | 16, _ => exact ⟨by simpa using World.var?_cell g16 v16 0, ⟨s16, x16, y16⟩, c16, u16, z16⟩
  | n + 17, h => exact absurd h (by omega)
theorem gPow : Tryz.prog.globalNamed "internal/strconv.uint64pow10" = some 18 := by kernel_rfl
theorem tPow : (Tryz.prog.globals[18]?).map (·.type) = some 148 := by kernel_rfl
theorem cPow : Tryz.prog.cellsOf 148 = 20 := by kernel_rfl
theorem cU : Tryz.prog.cellsOf 138 = 1 := by kernel_rfl
theorem dPow : (Rows.laid_internal_strconv_uint64pow10 : DataW Unit) = Lib.tabData .u64 Lib.pow10Tab := by kernel_rfl
/-- What the row's list gives: the table of powers lies in the world, and stays. -/
theorem pow_of {W : World} (h : laidMetH Tryz.prog Rows.spellPrintsRow.laid W) : ∀ W', Below W.heap.size W W' → Pow W' := by
  rw [MakeChecks.laidMetH_plain _ _ _ (by kernel_rfl)] at h
  have h2 := laidMet.tail (laidMet.tail h)
  rw [dPow] at h2
  have hp : Pow W := Lib.tabIs_of_head gPow tPow Tryz.underlying148 Tryz.underlying138 cU cPow h2
  have hc := Lib.TabIs.cell hp gPow 0 (by rw [Lib.pow10Tab_length]; omega)
  have h1 : 18 < W.heap.size := World.block_lt_of_cell? W _ hc
  exact fun W' hb => var?_below hb gPow h1 hp
/-- What the row's list gives: the kinds' names lie in the world. -/
theorem kn_of {W : World} (h : laidMetH Tryz.prog Rows.spellPrintsRow.laid W) : KnAt W := by
  rw [MakeChecks.laidMetH_plain _ _ _ (by kernel_rfl)] at h
  have h2 := (laidMet.tail (laidMet.tail (laidMet.tail (laidMet.tail (laidMet.tail (laidMet.tail (laidMet.tail (laidMet.tail (laidMet.tail (laidMet.tail (laidMet.tail (laidMet.tail (laidMet.tail (laidMet.tail (laidMet.tail (laidMet.tail (laidMet.tail (laidMet.tail (laidMet.tail (laidMet.tail (laidMet.tail h)))))))))))))))))))))
  rw [dKn] at h2
  exact kn_of_head h2


set_option maxRecDepth 100000 in
theorem lifted (os : Os) (started : os.Started) (H : Type) (enc : TypeId × Value → H) :
    ReturnsInHanded {} Tryz.checked os 3 .any (fun w args => (Rows.spellPrintsSpec.pre enc Tryz.prog Tryz.f3 [] false w args ∧ laidMetH Tryz.prog Rows.spellPrintsRow.laid w) ∧ sizedMet enc Tryz.prog Tryz.f3 (OpenSpec.ofChange Rows.spellPrintsSpec) false w args)
      (Rows.spellPrintsSpec.post enc Tryz.prog Tryz.f3 false true false false) := by
  refine returnsInHanded_of_change_and (C := Tryz.checked) (X := fun w _ => laidMetH Tryz.prog Rows.spellPrintsRow.laid w) (fun _ _ _ hh h => h.of_heap hh) own started (by kernel_rfl) Tryz.func3
    (ChangeSpec.witness_shaped (enc := enc) (C := Tryz.checked) (os := os) (X := fun w _ => laidMetH Tryz.prog Rows.spellPrintsRow.laid w) false (World.laidAll Tryz.prog os Rows.spellPrintsRow.laid) #[.slice none 0 0, .string ⟨#[]⟩, .string ⟨#[]⟩, .int .i64 0] 8 (World.laidAll_os _ _ _) (World.shaped_of_ZipB (by kernel_rfl) (by kernel_rfl)) (by kernel_rfl) (by kernel_rfl) (by kernel_rfl) (by rw [MakeChecks.laidMetH_plain _ _ _ (by kernel_rfl)]; exact laidMet_laidAll _ (by kernel_rfl) (by kernel_rfl))) ?_
  intro W base args ds gs before hval0 hW _ hsz0 hL _
  have hval : ∀ (j : Nat) t v, Tryz.f3.params[j]? = some t → args[j]? = some v → Value.okWide Tryz.prog W .any base t v := hval0
  have hsz : (DataW.weightsEach Tryz.prog (Tryz.f3.params.toList ++ Rows.spellPrintsSpec.plain.varTypes Tryz.prog) (ds ++ gs)).all (· ≤ reachBytes) = true := hsz0
  have hW' := hW
  obtain ⟨p, q, hA0, hV, rfl, hfz, hnd⟩ := hW
  have hA : DataW.TrodAll enc Tryz.prog W 0 (fun _ => true) true Tryz.f3.params.toList args.toList ds p := hA0
  rw [Tryz.params3] at hA hval hsz
  obtain ⟨v0, vs0, d0, ds0, p0, q0, hargs, rfl, rfl, h0, r0⟩ := trodAll_cons hA
  obtain ⟨v1, vs1, d1, ds1, p1, q1, rfl, rfl, rfl, h1, r1⟩ := trodAll_cons r0
  obtain ⟨v2, vs2, d2, ds2, p2, q2, rfl, rfl, rfl, h2, r2⟩ := trodAll_cons r1
  obtain ⟨v3, vs3, d3, ds3, p3, q3, rfl, rfl, rfl, h3, r3⟩ := trodAll_cons r2
  obtain ⟨rfl, rfl, rfl⟩ := trodAll_nil r3
  obtain rfl : args = #[v0, v1, v2, v3] := by cases args; simp_all
  obtain ⟨rfl, rfl⟩ := trodVars_none hV
  obtain ⟨a0, len0, cap0, rfl⟩ := okWide_slice Tryz.underlying22 (hval 0 22 v0 rfl rfl)
  have k0 := h0
  have lt0 : ∀ x ∈ p0, x.block < W.heap.size := by obtain ⟨m, hm⟩ := k0; exact DataW.trod_lt m _ _ _ hm
  obtain ⟨fuel0, hf0⟩ := h0
  obtain ⟨x0, t0, n0, z0⟩ := open_nd hf0 (fun n hn => by have := List.all_eq_true.1 hsz n (DataW.weights_mem_each (j := 0) rfl rfl n hn); simpa using this)
  obtain ⟨x1, rfl, rfl, rfl, w1⟩ := open_string Tryz.underlying9 (hval 1 9 v1 rfl rfl) h1
  obtain ⟨x2, rfl, rfl, rfl, w2⟩ := open_string Tryz.underlying9 (hval 2 9 v2 rfl rfl) h2
  obtain ⟨x3, rfl, rfl, rfl, w3⟩ := open_int Tryz.underlying3 (hval 3 3 v3 rfl rfl) h3
  clear hA0 hval0
  obtain ⟨ea, hE⟩ := err_of hL
  have hK := kn_of hL
  have hP := pow_of hL
  have hs1 : x1.size < 4611686018427387904 := by
    have h := of_decide_eq_true (List.all_eq_true.1 hsz x1.size (DataW.weights_mem_each (j := 1) rfl rfl _ (by simp [DataW.weights])))
    have hr : reachBytes = 140737488351232 := by decide
    omega
  have hs2 : x2.size < 4611686018427387904 := by
    have h := of_decide_eq_true (List.all_eq_true.1 hsz x2.size (DataW.weights_mem_each (j := 2) rfl rfl _ (by simp [DataW.weights])))
    have hr : reachBytes = 140737488351232 := by decide
    omega
  refine (prints_any _ x0 x1 x2 x3 W ea hE hK hP t0 z0 n0 hs1 hs2).mono fun e W' ⟨he, bel⟩ => ?_
  subst he
  exact ⟨_, rfl, _, _, _, [], _, [], hW', trodAll_mk1 (shut_bool Tryz.underlying4 _), (trodAll_cons_mk (Below.trod laidOut3 (by kernel_rfl) (of_decide_eq_true (by kernel_rfl)) k0 bel lt0) (trodAll_cons_mk (shut_string Tryz.underlying9 w1) (trodAll_cons_mk (shut_string Tryz.underlying9 w2) (trodAll_cons_mk (shut_int Tryz.underlying3 w3) trodAll_mk0)))), rfl, bel.frame _, fun h => by cases h⟩

theorem said : Rows.SpellPrintsSaid :=
  OpenClaim.holds_of_wide 3 Tryz.f3 rfl rfl rfl rfl rfl rfl rfl ⟨rfl, rfl, rfl, rfl, rfl⟩ rfl rfl rfl rfl rfl (by kernel_rfl) Tryz.func3 (by kernel_rfl)
    (of_decide_eq_true (by kernel_rfl)) (by unfold Func.isWrapper; first | (rw [if_pos (by decide +kernel)]; kernel_rfl) | (rw [if_neg (by decide +kernel)]; exact ⟨rfl, rfl⟩))
    (fun os started H enc _ => lifted os started H enc)

theorem plain (f : FuncId) (fn : Func) (hf : Tryz.pinned.checked.prog.funcNamed Rows.spellPrintsRow.func = some f) (hfn : Tryz.pinned.checked.prog.funcs[f]? = some fn) :
    true = Tryz.pinned.checked.prog.looks [] ∧ ∀ (j : Nat) t, fn.params[j]? = some t → Tryz.pinned.checked.prog.wantsStandIn t = false := by
  obtain rfl : f = 3 := Option.some.inj ((show Tryz.prog.funcNamed Rows.spellPrintsRow.func = some 3 by kernel_rfl).symm.trans hf) |>.symm
  obtain rfl : fn = Tryz.f3 := (Option.some.inj (Tryz.func3.symm.trans hfn)).symm
  refine ⟨by kernel_rfl, fun j t ht => ?_⟩
  rw [Tryz.params3] at ht
  have hm : t ∈ [22, 9, 9, 3] := by simpa using Array.mem_of_getElem? ht
  have hall : ([22, 9, 9, 3].all fun u => !Tryz.prog.wantsStandIn u) = true := by kernel_rfl
  exact (show Tryz.prog.wantsStandIn t = false by simpa using List.all_eq_true.1 hall t hm)

theorem proved : Rows.SpellPrintsCardSaid :=
  Claim7.holds_tied_plain_at .later [] _ _ _ _ said (fun _ h => by cases h) (by kernel_rfl) (fun _ h => by cases h) spellPrints_row_tie rfl ⟨rfl, rfl⟩ (by kernel_rfl) rfl plain (by kernel_rfl)
end Go.Proofs.YtaildeglikhkaaaGreatDoor.cardSpellPrints
namespace Go.Proofs.YtaildeglikhkaaaGreatDoor
theorem spellPrints_card : Rows.SpellPrintsCardSaid := cardSpellPrints.proved
#print axioms spellPrints_card
end Go.Proofs.YtaildeglikhkaaaGreatDoor
