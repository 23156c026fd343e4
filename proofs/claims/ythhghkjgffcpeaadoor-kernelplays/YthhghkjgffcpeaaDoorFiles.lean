/- The files, by names. -/
import Derived.Test.YthhghkjgffcpeaaDoorNames
import Derived.Test.YthhghkjgffcpeaaDoorSameF
namespace Go.Proofs.YthhghkjgffcpeaaDoor
open Go.RowKit

variable {W : World} {K : Nat → Prop} {kb mb : Nat} {ev rv : Value} {F : Fls} {Y : List (Rw × Value)} {X : List (Ev × Value)}

def flCs (F : Fls) : List Value := F.flatMap fun p => [str p.1, str p.2]
theorem flL_flat (F : Fls) : (flL F).flatMap id = flCs F := by simp [flL, flCs, List.flatMap_map]
theorem flL_len (F : Fls) : ∀ cs ∈ flL F, cs.length = 2 := by
  intro cs hcs
  obtain ⟨p, _, rfl⟩ := List.mem_map.1 hcs
  rfl
theorem FlAt.owned {B : Nat} {v : Value} (h : W.ownsRow B 73 2 v F.length (flCs F)) : FlAt W v F :=
  RowAt.owned (e := 73) (B := B) (by rw [flL_flat, List.length_map]; exact h) (flL_len F)
theorem find_at : ∀ (F : Fls), (F.Pairwise fun p q => p.1 ≠ q.1) → ∀ (k : Nat) (p : Txt × Txt), F[k]? = some p → F.find? (fun q => q.1 == p.1) = some p
  | [], _, k, p, h => by simp at h
  | x :: F, hp, 0, p, h => by
    simp at h
    subst h
    simp
  | x :: F, hp, k + 1, p, h => by
    obtain ⟨h1, h2⟩ := List.pairwise_cons.1 hp
    have hm : p ∈ F := List.mem_of_getElem? (by simpa using h)
    rw [List.find?_cons_of_neg (by simpa using h1 p hm)]
    exact find_at F h2 k p (by simpa using h)
theorem Kern.apart (h : Kern W K kb mb ev rv F Y X) : F.Pairwise fun p q => p.1 ≠ q.1 := by
  obtain ⟨es, he, hp, _⟩ := h.fm.canon key9
  unfold dF at he
  cases he
  rw [List.pairwise_map] at hp
  refine hp.imp fun {a b} hab e => ?_
  have h2 : bytesBefore a.1 b.1 = true := hab
  rw [e, WideAt.bytes_irrefl] at h2
  cases h2
theorem info73 : (Tryd.prog.info? 73).map (fun i => (i.zero, i.size, i.bytes)) = some (some (.agg #[.string ⟨#[]⟩, .string ⟨#[]⟩]), 2, 32) := by kernel_rfl
theorem flC_one (p : Txt × Txt) : ∀ u ∈ [str p.1, str p.2], u.oneCell' = true := by
  intro u hu
  simp at hu
  rcases hu with rfl | rfl <;> rfl
theorem flCs_snoc (F : Fls) (p : Txt × Txt) : flCs (F ++ [p]) = flCs F ++ [str p.1, str p.2] := by simp [flCs]
theorem owns_below {B : Nat} {e k n : Nat} {v : Value} {xs : List Value} {W W' : World} (h : W.ownsRow B e k v n xs) (hb : Below W.heap.size W W') : W'.ownsRow B e k v n xs := owns_turn h (Turn.ofBelow (S := fun _ => False) hb) (fun _ _ h => h)
theorem grown_own {w w1 w' : World} {B e k n : Nat} {v : Value} {xs : List Value} (hB : B ≤ w1.heap.size) (hb : Below B w w1) (ho : w1.ownsRow B e k v n xs) (hg : w1.grownBy w' v.ownBlock) : Below B w w' :=
  hb.grown hg hB fun q ej => (ho.lt q ej).1

set_option maxRecDepth 100000 in
set_option maxHeartbeats 2000000 in
theorem files_any (h : Kern W K kb mb ev rv F Y X) (hF : F.length < 4294967296) (hN : ∀ p ∈ F, p.1.length < 4294967296) :
    Calls Tryd.prog 30 #[kP kb] W fun e w' => ∃ v', e = .returned v' ∧ w'.ownsRow W.heap.size 73 2 v' F.length (flCs F) ∧ Below W.heap.size W w' := by
  obtain ⟨i0, hi, hz0, hz1, hz2⟩ := info_parts info73
  have HNA : Hid _ := names_any h hF
  have HH : Hid (∀ W', Below W.heap.size W W' → Kern W' K kb mb ev rv F Y X) := fun W' hb => h.below hb
  have HAP : Hid (F.Pairwise fun p q => p.1 ≠ q.1) := h.apart
  have HN : Hid (∀ p ∈ F, p.1.length < 4294967296) := hN
  clear h hN
  go_enter Tryd.func30, Tryd.ntmps30
  go_wp2_with fail
  refine Calls.mono HNA.out ?_
  rintro e w1 ⟨v1, rfl, ho1, hb1⟩
  have HT : Hid (∀ W', Below w1.heap.size w1 W' → Tx W' v1 (F.map Prod.fst)) := fun W' hb => (Tx.owned ho1).below hb (Nat.le_refl _)
  obtain ⟨ad1, cap1, hv1⟩ := owns_slice ho1
  obtain rfl : v1 = .slice ad1 F.length cap1 := by rw [hv1, List.length_map]
  clear ho1 HNA hv1
  go_wp2_with fail
  go_loopw [3, 9] (fun v3 v9 wr => ∃ k : Nat, v9 = .int .i64 k ∧ k ≤ F.length ∧ Hid (wr.ownsRow w1.heap.size 73 2 v3 (F.take k).length (flCs (F.take k))) ∧ Below w1.heap.size w1 wr) (fun _ v9 _ => F.length - (intOf v9).toNat)
  case atStart => exact ⟨0, rfl, by omega, World.ownsRow_nil _ _ _ _, Below.refl _ _⟩
  case round =>
    obtain ⟨k, rfl, hk, HO, hbr⟩ := hrel
    have hb0 : Below W.heap.size W wr := hb1.trans (hbr.mono hb1.size)
    have HTL : Hid ((F.take k).length = k) := by unfold Hid; rw [List.length_take]; omega
    have ho := HO.out
    rw [HTL.out] at ho
    by_cases hkl : k < F.length
    · obtain ⟨p, hp⟩ : ∃ p, F[k]? = some p := ⟨_, List.getElem?_eq_getElem hkl⟩
      have HTK : Hid (F.take (k + 1) = F.take k ++ [p]) := by unfold Hid; rw [List.take_add_one, hp]; rfl
      obtain ⟨g, o, cap', hv, _, hg, hce⟩ := (HT.out _ hbr).inRow (fun e => by have := congrArg List.length e; simp at this; rw [this] at hkl; simp at hkl)
      rw [List.length_map] at hv
      cases hv
      have c0 := hce k p.1 (by rw [List.getElem?_map, hp]; rfl)
      have hpn := HN.out p (List.mem_of_getElem? hp)
      have hfd := find_at F HAP.out k p hp
      have e1 : namF F p.1 = p.1 := by unfold namF; rw [hfd]
      have e2 : datF F p.1 = p.2 := by unfold datF; rw [hfd]
      have hlk := look_no (HH.out _ hb0).fm p.1 hpn
      rw [e1, e2] at hlk
      have k1 := (HH.out _ hb0).kc.cell 1
      obtain ⟨pn, pd⟩ := p
      clear hce hp hfd e1 e2
      have hba : Below w1.heap.size w1 (wr.alloc (.cells #[str pn, str pd] 73)) := hbr.alloc hbr.size _
      have hoa := owns_below ho (below_new wr (.cells #[str pn, str pd] 73))
      have HBA : Hid _ := hba
      have HOA : Hid _ := hoa
      have hBs : w1.heap.size ≤ (wr.alloc (.cells #[str pn, str pd] 73)).heap.size := hba.size
      clear hba hoa
      go_wp2_with (at_builtin; refine wpList_append_own _ rfl _ _ 22 rfl w1.heap.size 73 i0 _ 2 32 Tryd.underlying22 hi hz0 hz1 hz2 rfl (by decide) _ _ _ rfl HOA.out ⟨wr.heap.size, 0, none⟩ 1 1 [str pn, str pd] rfl rfl (cells_new wr _ 73) (flC_one (pn, pd)) (by have := maxLen_big; omega) (by omega) hBs ?_; intro v4 w4 hown4 hgrow4 _)
      refine ⟨⟨k + 1, by simp, by omega, ?_, grown_own hBs HBA.out HOA.out hgrow4⟩, by simp [intOf]; omega⟩
      have e3 := HTK.out
      unfold Hid
      rw [e3, flCs_snoc, List.length_append, HTL.out]
      exact hown4
    · have hkz : k = F.length := by omega
      subst hkz
      rw [List.take_length] at HO
      clear ho
      go_wp2_with fail
      go_ret
      exact ⟨_, rfl, owns_lower HO.out hb1.size, hb0⟩
end Go.Proofs.YthhghkjgffcpeaaDoor
