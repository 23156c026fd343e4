/- Esc, Plain, Split, Flat of lists. -/
import Derived.Test.YtdajacodfnidfaaDoorGroup
import Derived.Test.YtdajacodfnidfaaDoorFlatPlain
import Derived.Test.YtdajacodfnidfaaDoorShelf4
namespace Go.Proofs.YtdajacodfnidfaaDoor
open Go.RowKit Go.Shelf

set_option maxHeartbeats 1000000 in
theorem alone_any (g : Nat) (w : World) :
    Calls Tryd.prog 31 #[.func (.func g) #[] #[]] w fun e w' => e = .returned (.func (.func 44) #[] #[.pointer (some ⟨w.heap.size, 0, none⟩)]) ∧ w' = w.alloc (.cells #[.func (.func g) #[] #[]] 47) := by
  go_enter Tryd.func31, Tryd.ntmps31
  go_wp2_with fail
  go_ret
  exact ⟨rfl, rfl⟩

set_option maxRecDepth 100000 in
set_option maxHeartbeats 1000000 in
theorem alone_makes (g : Nat) (f : List UInt8 → List UInt8) (l : List (List UInt8)) (b : Nat) (w : World) (hb : b < w.heap.size) (hc : w.cell? ⟨b, 0, none⟩ = some (.func (.func g) #[] #[]))
    (eg : ∀ args w, (callFunc g args).run Tryd.prog w = .ok (.enter g args) w)
    (hg : ∀ x ∈ l, ∀ W, Calls Tryd.prog g #[.string ⟨x.toArray⟩] W fun e w' => e = .returned (.string ⟨(f x).toArray⟩) ∧ Below W.heap.size W w') :
    Makes 44 #[.pointer (some ⟨b, 0, none⟩)] (fun x => [f x]) l w := by
  intro W x hx hbW
  have c0 := (hbW.cell (p := ⟨b, 0, none⟩) hb).trans hc
  have hcall := hg x hx W
  show Calls Tryd.prog 44 #[.string ⟨x.toArray⟩, .pointer (some ⟨b, 0, none⟩)] W _
  clear hg hc hx
  go_enter Tryd.func44, Tryd.ntmps44
  go_wp2_with (go_at_fn g; refine hcall.mono ?_; rintro e w1 ⟨rfl, hb1⟩)
  go_ret
  exact ⟨_, rfl, Tx.one w1 (f x), hb1.alloc hb1.size _⟩

set_option maxRecDepth 100000 in
set_option maxHeartbeats 1000000 in
theorem esc_all (v : Value) (l : List (List UInt8)) (w : World) (a : Addr) (h : Tx w v l) (hl : Ok l) (hE : Eb w a) :
    Calls Tryd.prog 14 #[v] w fun e w' => GotL w.heap.size a (bound (l.map escL)) e w' ∧ Below w.heap.size w w' := by
  have hba : Below w.heap.size w (w.alloc (.cells #[.func (.func 32) #[] #[]] 47)) := below_new w _
  have HG : Hid _ := gatherS_any v l 44 #[.pointer (some ⟨w.heap.size, 0, none⟩)] (fun x => [escL x]) (w.alloc (.cells #[.func (.func 32) #[] #[]] 47)) a (enters_of Tryd.func44 (by kernel_rfl) rfl) (h.below hba (Nat.le_refl _)) hl.1
    (alone_makes 32 escL l w.heap.size _ (by simp) ((Cel.new w 47 #[.func (.func 32) #[] #[]]).cell 0) (enters_of Tryd.func32 (by kernel_rfl) rfl)
      (fun x hx W => by have := escape_any ⟨x.toArray⟩ (by rw [str_size']; have := hl.2 x hx; omega) W; rw [str_data'] at this; exact this)) (fun x _ => by simp) (hE.below hba hE.pos)
  rw [gat_single] at HG
  obtain ⟨ad, cap, rfl⟩ := h.form
  clear h hE
  cases hb : bound (l.map escL) with
  | none =>
    rw [hb] at HG
    go_enter Tryd.func14, Tryd.ntmps14
    go_wp2_with fail
    refine (alone_any 32 _).mono ?_
    rintro e w1 ⟨rfl, hw1⟩
    subst hw1
    go_wp2_with fail
    refine Calls.mono HG.out ?_
    rintro e w2 ⟨rfl, hb2⟩
    go_wp2_with fail
    go_ret2
    exact ⟨rfl, hba.trans (hb2.mono hba.size)⟩
  | some m =>
    rw [hb] at HG
    go_enter Tryd.func14, Tryd.ntmps14
    go_wp2_with fail
    refine (alone_any 32 _).mono ?_
    rintro e w1 ⟨rfl, hw1⟩
    subst hw1
    go_wp2_with fail
    refine Calls.mono HG.out ?_
    rintro e w2 ⟨⟨v2, rfl, ho⟩, hb2⟩
    have HO : Hid _ := ho
    clear ho
    go_wp2_with fail
    go_ret2
    exact ⟨⟨_, rfl, owns_lower HO.out hba.size⟩, hba.trans (hb2.mono hba.size)⟩
/-- Its bytes. -/
def plainL (x : List UInt8) : List UInt8 := (letts x).map Prod.fst
set_option maxRecDepth 100000 in
set_option maxHeartbeats 1000000 in
theorem plain_all (v : Value) (l : List (List UInt8)) (w : World) (a : Addr) (h : Tx w v l) (hl : Ok l) (hE : Eb w a) :
    Calls Tryd.prog 17 #[v] w fun e w' => GotL w.heap.size a (bound (l.map plainL)) e w' ∧ Below w.heap.size w w' := by
  have hba : Below w.heap.size w (w.alloc (.cells #[.func (.func 35) #[] #[]] 47)) := below_new w _
  have HG : Hid _ := gatherS_any v l 44 #[.pointer (some ⟨w.heap.size, 0, none⟩)] (fun x => [plainL x]) (w.alloc (.cells #[.func (.func 35) #[] #[]] 47)) a (enters_of Tryd.func44 (by kernel_rfl) rfl) (h.below hba (Nat.le_refl _)) hl.1
    (alone_makes 35 plainL l w.heap.size _ (by simp) ((Cel.new w 47 #[.func (.func 35) #[] #[]]).cell 0) (enters_of Tryd.func35 (by kernel_rfl) rfl)
      (fun x hx W => by have := plain_any ⟨x.toArray⟩ (by rw [str_size']; have := hl.2 x hx; omega) W; rw [str_data'] at this; exact this)) (fun x _ => by simp) (hE.below hba hE.pos)
  rw [gat_single] at HG
  obtain ⟨ad, cap, rfl⟩ := h.form
  clear h hE
  cases hb : bound (l.map plainL) with
  | none =>
    rw [hb] at HG
    go_enter Tryd.func17, Tryd.ntmps17
    go_wp2_with fail
    refine (alone_any 35 _).mono ?_
    rintro e w1 ⟨rfl, hw1⟩
    subst hw1
    go_wp2_with fail
    refine Calls.mono HG.out ?_
    rintro e w2 ⟨rfl, hb2⟩
    go_wp2_with fail
    go_ret2
    exact ⟨rfl, hba.trans (hb2.mono hba.size)⟩
  | some m =>
    rw [hb] at HG
    go_enter Tryd.func17, Tryd.ntmps17
    go_wp2_with fail
    refine (alone_any 35 _).mono ?_
    rintro e w1 ⟨rfl, hw1⟩
    subst hw1
    go_wp2_with fail
    refine Calls.mono HG.out ?_
    rintro e w2 ⟨⟨v2, rfl, ho⟩, hb2⟩
    have HO : Hid _ := ho
    clear ho
    go_wp2_with fail
    go_ret2
    exact ⟨⟨_, rfl, owns_lower HO.out hba.size⟩, hba.trans (hb2.mono hba.size)⟩

set_option maxRecDepth 100000 in
set_option maxHeartbeats 1000000 in
theorem split_all (v : Value) (l : List (List UInt8)) (w : World) (a : Addr) (h : Tx w v l) (hl : Ok l) (hl2 : ∀ s ∈ l, s.length < 4294967295) (hE : Eb w a) :
    Calls Tryd.prog 16 #[v] w fun e w' => GotL w.heap.size a (bound (gatAll splitL l)) e w' ∧ Below w.heap.size w w' := by
  have hM : Makes 34 #[] splitL l w := fun W x hx hbW => by
    have := split_any ⟨x.toArray⟩ (by rw [str_size']; exact hl.2 x hx) W
    rw [str_data'] at this
    exact this.mono fun e w' ⟨v', h1, h2, h3⟩ => ⟨v', h1, Tx.owned h2, h3⟩
  have HG : Hid _ := gatherS_any v l 34 #[] splitL w a (enters_of Tryd.func34 (by kernel_rfl) rfl) h hl.1 hM (fun x hx => by have h1 := splitL_length x; have h2 := hl2 x hx; omega) hE
  obtain ⟨ad, cap, rfl⟩ := h.form
  clear h hE hM
  cases hb : bound (gatAll splitL l) with
  | none =>
    rw [hb] at HG
    go_enter Tryd.func16, Tryd.ntmps16
    go_wp2_with fail
    refine Calls.mono HG.out ?_
    rintro e w2 ⟨rfl, hb2⟩
    go_wp2_with fail
    go_ret2
    exact ⟨rfl, hb2⟩
  | some m =>
    rw [hb] at HG
    go_enter Tryd.func16, Tryd.ntmps16
    go_wp2_with fail
    refine Calls.mono HG.out ?_
    rintro e w2 ⟨⟨v2, rfl, ho⟩, hb2⟩
    have HO : Hid _ := ho
    clear ho
    go_wp2_with fail
    go_ret2
    exact ⟨⟨_, rfl, HO.out⟩, hb2⟩

theorem sjoin_any (v : Value) (l : List (List UInt8)) (w : World) (h : Tx w v l) (hs : flatSum l ≤ 2001) :
    Calls Tryd.prog 33 #[v, .string ⟨#[32]⟩] w fun e w' => e = .returned (.string ⟨(Lib.join l [32]).toArray⟩) ∧ Below w.heap.size w w' := by
  have hl := flatSum_length l
  by_cases hne : l = []
  · subst hne
    obtain ⟨ad, cap, rfl⟩ := h.form
    exact (Tryd.strings_Join_none ad cap _ w).mono fun e w' ⟨he, hw⟩ => ⟨he, by rw [hw]; exact Below.refl _ _⟩
  · obtain ⟨g, o, cap, rfl, h1, h2, h3⟩ := h.inRow hne
    have e1 : (l.map fun s => (⟨s.toArray⟩ : ByteArray)).map (·.data.toList) = l := by
      rw [List.map_map]
      conv => rhs; rw [← List.map_id l]
      apply List.map_congr_left
      intro x _
      simp
    have hj := join_length l
    have := Tryd.strings_Join g o cap (l.map fun s => ⟨s.toArray⟩) ⟨#[32]⟩ w (fun j x hx => by
      rw [List.getElem?_map] at hx
      cases hp : l[j]? with
      | none => rw [hp] at hx; simp at hx
      | some p =>
        rw [hp] at hx
        cases hx
        exact h3 j p hp) h2 (by simp; omega) (by simpa using h1) (by rw [e1]; show (Lib.join l [32]).length ≤ _; omega)
    rw [e1, List.length_map] at this
    exact this

set_option maxRecDepth 100000 in
set_option maxHeartbeats 2000000 in
theorem flat_any (v : Value) (l : List (List UInt8)) (w : World) (a : Addr) (h : Tx w v l) (hl : Ok l) (hE : Eb w a) :
    Calls Tryd.prog 15 #[v] w fun e w' => GotL w.heap.size a (flatB l) e w' ∧ Below w.heap.size w w' := by
  have HE : Hid (Eb w a) := hE
  have HT : Hid (Tx w v l) := h
  have HL : Hid (∀ s ∈ l, s.length < 4294967296) := hl.2
  have hll := hl.1
  obtain ⟨ad, cap, rfl⟩ := h.form
  clear h hE hl
  go_enter Tryd.func15, Tryd.ntmps15
  go_wp2_with fail
  go_loopw [4, 9] (fun v4 v9 wr => ∃ (k : Nat) (r : Int), v9 = .int .i64 k ∧ k ≤ l.length ∧ v4 = .int .i64 r ∧ Hid (r = 2001 - (flatSum (l.take k) : Int)) ∧ 0 ≤ r ∧ r ≤ 2001 ∧ wr = w) (fun _ v9 _ => l.length - (intOf v9).toNat)
  case atStart => exact ⟨0, 2001, rfl, by omega, rfl, rfl, by omega, by omega, rfl⟩
  case round =>
    obtain ⟨k, r, rfl, hk, rfl, HR, hr0, hr1, hwr⟩ := hrel
    obtain rfl := hwr.symm
    by_cases hkl : k < l.length
    · obtain ⟨s, hs⟩ : ∃ s, l[k]? = some s := ⟨_, List.getElem?_eq_getElem hkl⟩
      obtain ⟨g, o, cap', hv, hcc, hg, hce⟩ := HT.out.inRow (fun e => by rw [e] at hkl; simp at hkl)
      cases hv
      have c0 := hce k s hs
      have hsl := HL.out s (List.mem_of_getElem? hs)
      have hsz : (⟨s.toArray⟩ : ByteArray).size < 4294967296 := by rw [str_size']; exact hsl
      have HSS : Hid _ := flatSum_take l k s hs
      clear hce hs
      by_cases hneg : r - (1 + (s.length : Int)) < 0
      · have HF : Hid (flatB l = none) := by
          unfold Hid flatB
          have h1 := HR.out
          have h2 := HSS.out
          have h3 := flatSum_le l (k + 1)
          rw [if_neg (by omega)]
        have c1 := HE.out.1
        have c1d : w.drew.cell? ⟨0, 0, none⟩ = some (bigV a) := c1
        go_wp2_with fail
        go_region
        all_goals go_wp2_with fail
        all_goals go_ret2
        all_goals rw [HF.out]
        all_goals exact ⟨rfl, (Below.refl _ w).drew⟩
      · go_wp2_with fail
        refine ⟨⟨k + 1, r - (1 + (s.length : Int)), by simp, by omega, by simp, ?_, by omega, by omega, trivial⟩, by simp [intOf]; omega⟩
        have h1 := HR.out
        have h2 := HSS.out
        show r - (1 + (s.length : Int)) = 2001 - (flatSum (l.take (k + 1)) : Int)
        omega
    · have hkz : k = l.length := by omega
      subst hkz
      have h1 := HR.out
      rw [List.take_length] at h1
      have hfs : flatSum l ≤ 2001 := by omega
      have HF : Hid (flatB l = some [Lib.join l [32]]) := by unfold Hid flatB; rw [if_pos hfs]
      have HJ : Hid _ := sjoin_any _ l w HT.out hfs
      clear h1
      go_wp2_with fail
      refine Calls.mono HJ.out ?_
      rintro e w1 ⟨rfl, hb1⟩
      go_wp2_with fail
      go_ret2
      rw [HF.out]
      exact ⟨⟨_, rfl, owns_lower (owns_one w1 _) hb1.size⟩, hb1.alloc hb1.size _⟩
end Go.Proofs.YtdajacodfnidfaaDoor
