/-
  DERIVED: THE SHELF's CONTRACTS AT THIS DUMP, IN PLAIN WORDS (tools/lay-plain.mjs out of 'YtfafhjglcaikoaaGreatDoorKShelf4.lean', which tools/lay-shelf.mjs wrote): THE SAME DECLARATIONS UNDER THE SAME NAMES: 'import', 'namespace', 'open', 'def', 'theorem' AND NOTHING ELSE: no command of the shelf's: FOR A HAND-IN. Each laying: the table of numbers ('.._ren') and one theorem, a field a fact of the dump's own or the kernel's comparison; each contract: ONE APPLICATION.
-/
import Derived.Test.YtfafhjglcaikoaaGreatDoorH3
import Derived.Test.YtfafhjglcaikoaaGreatDoorH4
import Derived.Shelf.SlicesE.IndexFunc
import Derived.Ground.SlgfProg
import Derived.Test.YtfafhjglcaikoaaGreatDoorProg
import Derived.Shelf.SlicesQ.IndexFunc
import Derived.Shelf.SlGeneric
/-! Files in memory, and whether they are the same. -/
namespace Go.Proofs.YtfafhjglcaikoaaGreatDoor
open Go.RowKit

abbrev flL (F : Fls) : List (List Value) := F.map fun p => [str p.1, str p.2]
/-- Files in memory, to be read. -/
def FlAt (W : World) (v : Value) (F : Fls) : Prop := RowAt W v 2 (flL F)
theorem FlAt.form {W : World} {v : Value} {F : Fls} (h : FlAt W v F) : ∃ ad cap, v = .slice ad F.length cap := by
  obtain ⟨ad, cap, hv⟩ := RowAt.form h
  exact ⟨ad, cap, by rw [hv]; simp⟩
theorem FlAt.below {W W' : World} {v : Value} {F : Fls} {B : Nat} (h : FlAt W v F) (hb : Below B W W') (hB : W.heap.size ≤ B) : FlAt W' v F := RowAt.below h hb hB
theorem FlAt.at {W : World} {v : Value} {F : Fls} (h : FlAt W v F) {j : Nat} {p : Txt × Txt} (hj : F[j]? = some p) : ∃ g o cap, v = .slice (some ⟨g, o, none⟩) F.length cap ∧ F.length ≤ cap ∧ g < W.heap.size ∧
    W.cell? ⟨g, o + j * 2, none⟩ = some (str p.1) ∧ W.cell? ⟨g, o + j * 2 + 1, none⟩ = some (str p.2) := by
  rcases h with ⟨h0, _⟩ | ⟨g, o, cap, h1, h2, h3, h4⟩
  · have : F = [] := by simpa using h0
    rw [this] at hj
    simp at hj
  · have hc := h4 j [str p.1, str p.2] (by rw [List.getElem?_map, hj]; rfl)
    exact ⟨g, o, cap, by simpa using h1, by simpa using h2, h3, hc 0 _ rfl, hc 1 _ rfl⟩

end Go.Proofs.YtfafhjglcaikoaaGreatDoor
/-! The files, by names. -/
namespace Go.Proofs.YtfafhjglcaikoaaGreatDoor
open Go.RowKit

variable {W : World} {K : Nat → Prop} {kb mb : Nat} {ev rv : Value} {F : Fls} {Y : List (Rw × Value)} {X : List (Ev × Value)}

def flCs (F : Fls) : List Value := F.flatMap fun p => [str p.1, str p.2]
theorem flL_flat (F : Fls) : (flL F).flatMap id = flCs F := by simp [flL, flCs, List.flatMap_map]
theorem flL_len (F : Fls) : ∀ cs ∈ flL F, cs.length = 2 := by
  intro cs hcs
  obtain ⟨p, _, rfl⟩ := List.mem_map.1 hcs
  rfl
theorem FlAt.owned {B : Nat} {v : Value} (h : W.ownsRow B 68 2 v F.length (flCs F)) : FlAt W v F :=
  RowAt.owned (e := 68) (B := B) (by rw [flL_flat, List.length_map]; exact h) (flL_len F)
theorem find_at : ∀ (F : Fls), (F.Pairwise fun p q => p.1 ≠ q.1) → ∀ (k : Nat) (p : Txt × Txt), F[k]? = some p → F.find? (fun q => q.1 == p.1) = some p
  | [], _, k, p, h => by simp at h
  | x :: F, hp, 0, p, h => by
    simp at h
    subst h
    simp
  | x :: F, hp, k + 1, p, h => by
    obtain ⟨h1, h2⟩ := List.pairwise_cons.1 hp
    have hm : p ∈ F := List.mem_of_getElem? (by simpa using h)
    rw [List.find?_cons_of_neg (by simpa using h1 p hm)]
    exact find_at F h2 k p (by simpa using h)
theorem Kern.apart (h : Kern W K kb mb ev rv F Y X) : F.Pairwise fun p q => p.1 ≠ q.1 := by
  obtain ⟨es, he, hp, _⟩ := h.fm.canon key9
  unfold dF at he
  cases he
  rw [List.pairwise_map] at hp
  refine hp.imp fun {a b} hab e => ?_
  have h2 : bytesBefore a.1 b.1 = true := hab
  rw [e, WideAt.bytes_irrefl] at h2
  cases h2
theorem info73 : (Tryz.prog.info? 68).map (fun i => (i.zero, i.size, i.bytes)) = some (some (.agg #[.string ⟨#[]⟩, .string ⟨#[]⟩]), 2, 32) := by kernel_rfl
theorem flC_one (p : Txt × Txt) : ∀ u ∈ [str p.1, str p.2], u.oneCell' = true := by
  intro u hu
  simp at hu
  rcases hu with rfl | rfl <;> rfl
theorem flCs_snoc (F : Fls) (p : Txt × Txt) : flCs (F ++ [p]) = flCs F ++ [str p.1, str p.2] := by simp [flCs]
theorem owns_below {B : Nat} {e k n : Nat} {v : Value} {xs : List Value} {W W' : World} (h : W.ownsRow B e k v n xs) (hb : Below W.heap.size W W') : W'.ownsRow B e k v n xs := owns_turn h (Turn.ofBelow (S := fun _ => False) hb) (fun _ _ h => h)
theorem grown_own {w w1 w' : World} {B e k n : Nat} {v : Value} {xs : List Value} (hB : B ≤ w1.heap.size) (hb : Below B w w1) (ho : w1.ownsRow B e k v n xs) (hg : w1.grownBy w' v.ownBlock) : Below B w w' :=
  hb.grown hg hB fun q ej => (ho.lt q ej).1

set_option maxRecDepth 100000 in
set_option maxHeartbeats 2000000 in
theorem files_any (h : Kern W K kb mb ev rv F Y X) (hF : F.length < 4294967296) (hN : ∀ p ∈ F, p.1.length < 4294967296) :
    Calls Tryz.prog 83 #[kP kb] W fun e w' => ∃ v', e = .returned v' ∧ w'.ownsRow W.heap.size 68 2 v' F.length (flCs F) ∧ Below W.heap.size W w' := by
  obtain ⟨i0, hi, hz0, hz1, hz2⟩ := info_parts info73
  have HNA : Hid _ := names_any h hF
  have HH : Hid (∀ W', Below W.heap.size W W' → Kern W' K kb mb ev rv F Y X) := fun W' hb => h.below hb
  have HAP : Hid (F.Pairwise fun p q => p.1 ≠ q.1) := h.apart
  have HN : Hid (∀ p ∈ F, p.1.length < 4294967296) := hN
  clear h hN
  go_enter Tryz.func83, Tryz.ntmps83
  go_wp2_with fail
  refine Calls.mono HNA.out ?_
  rintro e w1 ⟨v1, rfl, ho1, hb1⟩
  have HT : Hid (∀ W', Below w1.heap.size w1 W' → Tx W' v1 (F.map Prod.fst)) := fun W' hb => (Tx.owned ho1).below hb (Nat.le_refl _)
  obtain ⟨ad1, cap1, hv1⟩ := owns_slice ho1
  obtain rfl : v1 = .slice ad1 F.length cap1 := by rw [hv1, List.length_map]
  clear ho1 HNA hv1
  go_wp2_with fail
  go_loopw [3, 9] (fun v3 v9 wr => ∃ k : Nat, v9 = .int .i64 k ∧ k ≤ F.length ∧ Hid (wr.ownsRow w1.heap.size 68 2 v3 (F.take k).length (flCs (F.take k))) ∧ Below w1.heap.size w1 wr) (fun _ v9 _ => F.length - (intOf v9).toNat)
  case atStart => exact ⟨0, rfl, by omega, World.ownsRow_nil _ _ _ _, Below.refl _ _⟩
  case round =>
    obtain ⟨k, rfl, hk, HO, hbr⟩ := hrel
    have hb0 : Below W.heap.size W wr := hb1.trans (hbr.mono hb1.size)
    have HTL : Hid ((F.take k).length = k) := by unfold Hid; rw [List.length_take]; omega
    have ho := HO.out
    rw [HTL.out] at ho
    by_cases hkl : k < F.length
    · obtain ⟨p, hp⟩ : ∃ p, F[k]? = some p := ⟨_, List.getElem?_eq_getElem hkl⟩
      have HTK : Hid (F.take (k + 1) = F.take k ++ [p]) := by unfold Hid; rw [List.take_add_one, hp]; rfl
      obtain ⟨g, o, cap', hv, _, hg, hce⟩ := (HT.out _ hbr).inRow (fun e => by have := congrArg List.length e; simp at this; rw [this] at hkl; simp at hkl)
      rw [List.length_map] at hv
      cases hv
      have c0 := hce k p.1 (by rw [List.getElem?_map, hp]; rfl)
      have hpn := HN.out p (List.mem_of_getElem? hp)
      have hfd := find_at F HAP.out k p hp
      have e1 : namF F p.1 = p.1 := by unfold namF; rw [hfd]
      have e2 : datF F p.1 = p.2 := by unfold datF; rw [hfd]
      have hlk := look_no (HH.out _ hb0).fm p.1 hpn
      rw [e1, e2] at hlk
      have k1 := (HH.out _ hb0).kc.cell 1
      obtain ⟨pn, pd⟩ := p
      clear hce hp hfd e1 e2
      have hba : Below w1.heap.size w1 (wr.alloc (.cells #[str pn, str pd] 68)) := hbr.alloc hbr.size _
      have hoa := owns_below ho (below_new wr (.cells #[str pn, str pd] 68))
      have HBA : Hid _ := hba
      have HOA : Hid _ := hoa
      have hBs : w1.heap.size ≤ (wr.alloc (.cells #[str pn, str pd] 68)).heap.size := hba.size
      clear hba hoa
      go_wp2_with (at_builtin; refine wpList_append_own _ rfl _ _ 24 rfl w1.heap.size 68 i0 _ 2 32 Tryz.underlying24 hi hz0 hz1 hz2 rfl (by decide) _ _ _ rfl HOA.out ⟨wr.heap.size, 0, none⟩ 1 1 [str pn, str pd] rfl rfl (cells_new wr _ 68) (flC_one (pn, pd)) (by have := maxLen_big; omega) (by omega) hBs ?_; intro v4 w4 hown4 hgrow4 _)
      refine ⟨⟨k + 1, by simp, by omega, ?_, grown_own hBs HBA.out HOA.out hgrow4⟩, by simp [intOf]; omega⟩
      have e3 := HTK.out
      unfold Hid
      rw [e3, flCs_snoc, List.length_append, HTL.out]
      exact hown4
    · have hkz : k = F.length := by omega
      subst hkz
      rw [List.take_length] at HO
      clear ho
      go_wp2_with fail
      go_ret
      exact ⟨_, rfl, owns_lower HO.out hb1.size, hb0⟩
end Go.Proofs.YtfafhjglcaikoaaGreatDoor
/-! DERIVED: THE SHELF's CONTRACTS AT THIS DUMP, IN PLAIN WORDS (tools/lay-plain.mjs out of 'YtfafhjglcaikoaaGreatDoorKShelf2.lean', which tools/lay-shelf.mjs wrote): THE SAME DECLARATIONS UNDER THE SAME NAMES: 'import', 'namespace', 'open', 'def', 'theorem' AND NOTHING ELSE: no command of the shelf's: FOR A HAND-IN. Each laying: the table of numbers ('.._ren') and one theorem, a field a fact of the dump's own or the kernel's comparison; each contract: ONE APPLICATION. -/
namespace Go.Proofs
open Go.Shelf
def Tryz.laysSlH8_f144_ren : Go.Shelf.Ren := ⟨fun | 8 => 144 | 6 => 199 | n => n, fun | 22 => 23 | 23 => 9 | 25 => 71 | 4 => 4 | 3 => 3 | 0 => 0 | n => n, fun | n => n⟩
theorem Tryz.laysSlH8_f144 : Go.Proofs.SlLaysH.n8 Tryz.prog Tryz.laysSlH8_f144_ren := {
  mixed := by kernel_rfl
  f6 := ⟨Tryz.f199.name, by decide, Tryz.func199.trans (congrArg some (by kernel_rfl))⟩
  f8 := ⟨Tryz.f144.name, by decide, Tryz.func144.trans (congrArg some (by kernel_rfl))⟩
  t0 := Tryz.underlying0
  a0 := Tryz.isAgg0
  z0 := Tryz.sizeOf0
  v0 := Tryz.zeroValue0
  t3 := Tryz.underlying3
  a3 := Tryz.isAgg3
  z3 := Tryz.sizeOf3
  v3 := Tryz.zeroValue3
  t4 := Tryz.underlying4
  a4 := Tryz.isAgg4
  z4 := Tryz.sizeOf4
  v4 := Tryz.zeroValue4
  t22 := Tryz.underlying23
  a22 := Tryz.isAgg23
  z22 := Tryz.sizeOf23
  v22 := Tryz.zeroValue23
  a23 := Tryz.isAgg9
  z23 := Tryz.sizeOf9
  t25 := Tryz.underlying71
  a25 := Tryz.isAgg71
  z25 := Tryz.sizeOf71
  v25 := Tryz.zeroValue71 }
open Go.RowKit Go.Lib in
/-- slices.ContainsFunc: "ContainsFunc reports whether at least one element e of s satisfies f(e).": ITS CALLEE slices.IndexFunc IS MET BY ITS OWN CONTRACT. (LAID AT THE INSTANCE 'slices.ContainsFunc[[]string,string]': no walk: one application.) -/
theorem Tryz.slices_ContainsFunc {α : Type} [Inhabited α] (enc : α → Value) (p : α → Bool) (g : Nat) (lb : Array Value) (eg : ∀ args w, (callFunc g args).run Tryz.prog w = .ok (.enter g args) w) (b off n c : Nat) (zs : List α) (w : World) (hp : PredAt Tryz.prog g lb enc p w) (hz : n ≤ zs.length) (hbig : n ≤ 9223372036854775807) (hc : ∀ j, j < zs.length → w.cell? ⟨b, off + j, none⟩ = some (enc zs[j]!)) :
    Calls Tryz.prog 144 #[.slice (some ⟨b, off, none⟩) n c, .func (.func g) #[] lb] w fun e w' => e = .returned (.bool ((zs.take n).any p)) ∧ ∃ q, w' = w.drewN q := AnyE.slices_ContainsFunc Tryz.laysSlH8_f144 enc p g lb eg b off n c zs w hp hz hbig hc
open Go.RowKit Go.Lib in
/-- The same at a slice of length 0, a nil one too. (LAID AT THE INSTANCE 'slices.ContainsFunc[[]string,string]': no walk: one application.) -/
theorem Tryz.slices_ContainsFunc_empty {α : Type} [Inhabited α] (a : Option Addr) (c : Nat) (fv : Value) (w : World) :
    Calls Tryz.prog 144 #[.slice a 0 c, fv] w fun e w' => e = .returned (.bool false) ∧ w' = w := AnyE.slices_ContainsFunc_empty Tryz.laysSlH8_f144 a c fv w
end Go.Proofs
namespace Go.Proofs
open Go.Shelf
def Tryz.cf140_ren : Go.Shelf.Ren := ⟨fun | 8 => 140 | 6 => 194 | n => n, fun | 22 => 25 | 23 => 80 | 25 => 219 | 4 => 4 | 3 => 3 | 0 => 0 | n => n, fun | n => n⟩
theorem Tryz.cf140 : Go.Proofs.SlLaysH0.n8 Tryz.prog Tryz.cf140_ren := {
  mixed := by kernel_rfl
  f6 := ⟨Tryz.f194.name, by decide, Tryz.func194.trans (congrArg some (by kernel_rfl))⟩
  f8 := ⟨Tryz.f140.name, by decide, Tryz.func140.trans (congrArg some (by kernel_rfl))⟩
  t0 := Tryz.underlying0
  a0 := Tryz.isAgg0
  z0 := Tryz.sizeOf0
  v0 := Tryz.zeroValue0
  t3 := Tryz.underlying3
  a3 := Tryz.isAgg3
  z3 := Tryz.sizeOf3
  v3 := Tryz.zeroValue3
  t4 := Tryz.underlying4
  a4 := Tryz.isAgg4
  z4 := Tryz.sizeOf4
  v4 := Tryz.zeroValue4
  t22 := Tryz.underlying25
  a22 := Tryz.isAgg25
  z22 := Tryz.sizeOf25
  v22 := Tryz.zeroValue25
  t25 := Tryz.underlying219
  a25 := Tryz.isAgg219
  z25 := Tryz.sizeOf219
  v25 := Tryz.zeroValue219 }
def Tryz.cf197_ren : Go.Shelf.Ren := ⟨fun | 8 => 197 | 6 => 233 | n => n, fun | 22 => 24 | 23 => 68 | 25 => 263 | 4 => 4 | 3 => 3 | 0 => 0 | n => n, fun | n => n⟩
theorem Tryz.cf197 : Go.Proofs.SlLaysH0.n8 Tryz.prog Tryz.cf197_ren := {
  mixed := by kernel_rfl
  f6 := ⟨Tryz.f233.name, by decide, Tryz.func233.trans (congrArg some (by kernel_rfl))⟩
  f8 := ⟨Tryz.f197.name, by decide, Tryz.func197.trans (congrArg some (by kernel_rfl))⟩
  t0 := Tryz.underlying0
  a0 := Tryz.isAgg0
  z0 := Tryz.sizeOf0
  v0 := Tryz.zeroValue0
  t3 := Tryz.underlying3
  a3 := Tryz.isAgg3
  z3 := Tryz.sizeOf3
  v3 := Tryz.zeroValue3
  t4 := Tryz.underlying4
  a4 := Tryz.isAgg4
  z4 := Tryz.sizeOf4
  v4 := Tryz.zeroValue4
  t22 := Tryz.underlying24
  a22 := Tryz.isAgg24
  z22 := Tryz.sizeOf24
  v22 := Tryz.zeroValue24
  t25 := Tryz.underlying263
  a25 := Tryz.isAgg263
  z25 := Tryz.sizeOf263
  v25 := Tryz.zeroValue263 }
end Go.Proofs
