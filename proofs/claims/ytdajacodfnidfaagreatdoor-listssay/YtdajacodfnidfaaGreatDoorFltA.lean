/- Esc, Plain, Split, Flat of lists. -/
import Derived.Test.YtdajacodfnidfaaGreatDoorPlain2
import Derived.Test.YtdajacodfnidfaaGreatDoorListPlain
import Derived.Lib.Join
import Derived.Test.YtdajacodfnidfaaGreatDoorGrpL
import Derived.Test.YtdajacodfnidfaaGreatDoorShelf4
/-! Lists made flat, and split again: plain facts. -/
namespace Go.Proofs.YtdajacodfnidfaaGreatDoor

theorem splitR_length : ∀ (cs : List (List UInt8 × Lt)) (acc : List UInt8), (splitR acc cs).length ≤ cs.length + 1
  | [], acc => by simp only [splitR, one]; split <;> simp
  | (raw, l) :: cs, acc => by
    simp only [splitR]
    split
    · have h1 := splitR_length cs []
      have h2 : (one acc).length ≤ 1 := by unfold one; split <;> simp
      simp only [List.length_append, List.length_cons]; omega
    · have h1 := splitR_length cs (acc ++ raw)
      simp only [List.length_cons]; omega
theorem splitL_length (l : List UInt8) : (splitL l).length ≤ l.length + 1 := by
  have h1 := splitR_length (chunks l) []
  have h2 : (chunks l).length ≤ l.length := by
    have := letts_length_le l
    rw [← chunks_snd, List.length_map] at this
    exact this
  unfold splitL
  omega
theorem splitR_mem : ∀ (cs : List (List UInt8 × Lt)) (acc z : List UInt8), z ∈ splitR acc cs → z.length ≤ acc.length + (cs.flatMap Prod.fst).length
  | [], acc, z, h => by
    simp only [splitR, one] at h
    split at h
    · cases h
    · rw [List.mem_singleton] at h
      subst h
      omega
  | (raw, l) :: cs, acc, z, h => by
    simp only [splitR] at h
    rw [List.flatMap_cons, List.length_append]
    split at h
    · rcases List.mem_append.1 h with h1 | h1
      · unfold one at h1
        split at h1
        · cases h1
        · rw [List.mem_singleton] at h1
          subst h1
          omega
      · have := splitR_mem cs [] z h1
        rw [List.length_nil] at this
        omega
    · have := splitR_mem cs (acc ++ raw) z h
      rw [List.length_append] at this
      simp only
      omega
theorem splitL_mem (l z : List UInt8) (h : z ∈ splitL l) : z.length ≤ l.length := by
  have h1 := splitR_mem (chunks l) [] z h
  rw [chunks_flat, List.length_nil] at h1
  omega
/-- How many bytes, with a space ahead of each. -/
def flatSum (l : List (List UInt8)) : Nat := (l.map fun s => 1 + s.length).sum
theorem flatSum_take (l : List (List UInt8)) (j : Nat) (s : List UInt8) (h : l[j]? = some s) : flatSum (l.take (j + 1)) = flatSum (l.take j) + (1 + s.length) := by
  unfold flatSum
  rw [List.take_add_one, h]
  simp
theorem flatSum_le (l : List (List UInt8)) (k : Nat) : flatSum (l.take k) ≤ flatSum l := by
  conv => rhs; rw [← List.take_append_drop k l]
  unfold flatSum
  rw [List.map_append, List.sum_append]
  omega
theorem flatSum_length (l : List (List UInt8)) : l.length ≤ flatSum l := by
  induction l with
  | nil => simp
  | cons s l ih =>
    unfold flatSum at *
    simp only [List.map_cons, List.sum_cons, List.length_cons]
    omega
theorem flatSum_mem (l : List (List UInt8)) (s : List UInt8) (h : s ∈ l) : s.length ≤ flatSum l := by
  induction l with
  | nil => simp at h
  | cons t l ih =>
    unfold flatSum at *
    simp only [List.map_cons, List.sum_cons]
    rcases List.mem_cons.1 h with rfl | h
    · omega
    · have := ih h
      omega
theorem join_length : ∀ (l : List (List UInt8)), (Lib.join l [32]).length ≤ flatSum l
  | [] => by simp [Lib.join]
  | [s] => by simp [Lib.join, flatSum]
  | s :: t :: l => by
    have ih := join_length (t :: l)
    unfold Lib.join at *
    rw [List.intercalate_cons_cons]
    unfold flatSum at *
    simp only [List.map_cons, List.sum_cons, List.length_append, List.length_cons, List.length_nil] at *
    omega
theorem join_length1 (s : List UInt8) (l : List (List UInt8)) : (Lib.join (s :: l) [32]).length + 1 = flatSum (s :: l) := by
  induction l generalizing s with
  | nil => simp [Lib.join, flatSum]; omega
  | cons t l ih =>
    have h := ih t
    unfold Lib.join at *
    rw [List.intercalate_cons_cons]
    unfold flatSum at *
    simp only [List.map_cons, List.sum_cons, List.length_append, List.length_cons, List.length_nil] at *
    omega
/-- One item, or too big. -/
def flatB (l : List (List UInt8)) : Option (List (List UInt8)) := if flatSum l ≤ 2001 then some [Lib.join l [32]] else none
theorem flatB_fits (l r : List (List UInt8)) (h : flatB l = some r) : r = [Lib.join l [32]] ∧ fitsB r = true := by
  unfold flatB at h
  split at h
  · next hl =>
    cases h
    refine ⟨rfl, ?_⟩
    rw [fitsB_iff]
    refine ⟨by simp, fun s hs => ?_⟩
    simp at hs
    subst hs
    cases l with
    | nil => simp [Lib.join]
    | cons s l =>
      have := join_length1 s l
      omega
  · cases h
theorem one_ne (l : List UInt8) (h : l ≠ []) : one l = [l] := by
  unfold one
  rw [if_neg h]
theorem escL_ne (l : List UInt8) (h : l ≠ []) : escL l ≠ [] := by
  cases l with
  | nil => exact absurd rfl h
  | cons c l =>
    rw [escL_cons]
    cases specialC c <;> simp
/-- Escaped, made flat, and split again. -/
theorem split_flat : ∀ (l : List (List UInt8)), (∀ s ∈ l, s ≠ []) → splitL (Lib.join (l.map escL) [32]) = l.map escL
  | [], _ => by decide
  | [s], h => by
    have hs := h s (by simp)
    show splitL (Lib.join [escL s] [32]) = [escL s]
    have e : Lib.join [escL s] [32] = escL s := by simp [Lib.join]
    rw [e, split_esc, one_ne _ (escL_ne s hs)]
  | s :: t :: l, h => by
    have hs := h s (by simp)
    have ih := split_flat (t :: l) (fun x hx => h x (List.mem_cons_of_mem _ hx))
    have e : Lib.join ((s :: t :: l).map escL) [32] = escL s ++ 32 :: Lib.join ((t :: l).map escL) [32] := by
      unfold Lib.join
      rw [List.map_cons, List.map_cons, List.intercalate_cons_cons]
      simp
    rw [e, split_two _ _ 32 (cl_esc s) (by decide), ih, split_esc, one_ne _ (escL_ne s hs)]
    rfl
theorem plain_back (l : List (List UInt8)) : (l.map escL).map (fun x => (letts x).map Prod.fst) = l := by
  rw [List.map_map]
  conv => rhs; rw [← List.map_id l]
  apply List.map_congr_left
  intro x _
  exact plain_esc x
theorem escL_length_ge (l : List UInt8) : l.length ≤ (escL l).length := by
  induction l with
  | nil => simp
  | cons c l ih =>
    rw [escL_cons]
    cases specialC c <;> simp <;> omega
theorem escL_length_le (l : List UInt8) : (escL l).length ≤ 2 * l.length := by
  induction l with
  | nil => simp [escL]
  | cons c l ih =>
    rw [escL_cons]
    cases specialC c <;> simp <;> omega
theorem fits_unesc (l : List (List UInt8)) (h : fitsB (l.map escL) = true) : fitsB l = true := by
  rw [fitsB_iff] at *
  refine ⟨by simpa using h.1, fun s hs => ?_⟩
  have h1 := h.2 (escL s) (List.mem_map_of_mem hs)
  have h2 := escL_length_ge s
  omega
theorem gat_single {α : Type} (f : α → List UInt8) (l : List α) : gatAll (fun x => [f x]) l = l.map f := by
  unfold gatAll
  induction l with
  | nil => rfl
  | cons x l ih => simp only [List.map_cons, List.flatten_cons, ih, List.singleton_append]
theorem gat_one {α : Type} (f : α → List (List UInt8)) (x : α) : gatAll f [x] = f x := by simp [gatAll]
end Go.Proofs.YtdajacodfnidfaaGreatDoor
namespace Go.Proofs.YtdajacodfnidfaaGreatDoor
open Go.RowKit Go.Shelf

set_option maxHeartbeats 1000000 in
theorem alone_any (g : Nat) (w : World) :
    Calls Tryz.prog 40 #[.func (.func g) #[] #[]] w fun e w' => e = .returned (.func (.func 64) #[] #[.pointer (some ⟨w.heap.size, 0, none⟩)]) ∧ w' = w.alloc (.cells #[.func (.func g) #[] #[]] 42) := by
  go_enter Tryz.func40, Tryz.ntmps40
  go_wp2_with fail
  go_ret
  exact ⟨rfl, rfl⟩

set_option maxRecDepth 100000 in
set_option maxHeartbeats 1000000 in
theorem alone_makes (g : Nat) (f : List UInt8 → List UInt8) (l : List (List UInt8)) (b : Nat) (w : World) (hb : b < w.heap.size) (hc : w.cell? ⟨b, 0, none⟩ = some (.func (.func g) #[] #[]))
    (eg : ∀ args w, (callFunc g args).run Tryz.prog w = .ok (.enter g args) w)
    (hg : ∀ x ∈ l, ∀ W, Calls Tryz.prog g #[.string ⟨x.toArray⟩] W fun e w' => e = .returned (.string ⟨(f x).toArray⟩) ∧ Below W.heap.size W w') :
    Makes 64 #[.pointer (some ⟨b, 0, none⟩)] (fun x => [f x]) l w := by
  intro W x hx hbW
  have c0 := (hbW.cell (p := ⟨b, 0, none⟩) hb).trans hc
  have hcall := hg x hx W
  show Calls Tryz.prog 64 #[.string ⟨x.toArray⟩, .pointer (some ⟨b, 0, none⟩)] W _
  clear hg hc hx
  go_enter Tryz.func64, Tryz.ntmps64
  go_wp2_with (go_at_fn g; refine hcall.mono ?_; rintro e w1 ⟨rfl, hb1⟩)
  go_ret
  exact ⟨_, rfl, Tx.one w1 (f x), hb1.alloc hb1.size _⟩

set_option maxRecDepth 100000 in
set_option maxHeartbeats 1000000 in
theorem esc_all (v : Value) (l : List (List UInt8)) (w : World) (a : Addr) (h : Tx w v l) (hl : Ok l) (hE : Eb w a) :
    Calls Tryz.prog 15 #[v] w fun e w' => GotL w.heap.size a (bound (l.map escL)) e w' ∧ Below w.heap.size w w' := by
  have hba : Below w.heap.size w (w.alloc (.cells #[.func (.func 44) #[] #[]] 42)) := below_new w _
  have HG : Hid _ := gatherS_any v l 64 #[.pointer (some ⟨w.heap.size, 0, none⟩)] (fun x => [escL x]) (w.alloc (.cells #[.func (.func 44) #[] #[]] 42)) a (enters_of Tryz.func64 (by kernel_rfl) rfl) (h.below hba (Nat.le_refl _)) hl.1
    (alone_makes 44 escL l w.heap.size _ (by simp) ((Cel.new w 42 #[.func (.func 44) #[] #[]]).cell 0) (enters_of Tryz.func44 (by kernel_rfl) rfl)
      (fun x hx W => by have := escape_any ⟨x.toArray⟩ (by rw [str_size']; have := hl.2 x hx; omega) W; rw [str_data'] at this; exact this)) (fun x _ => by simp) (hE.below hba hE.pos)
  rw [gat_single] at HG
  obtain ⟨ad, cap, rfl⟩ := h.form
  clear h hE
  cases hb : bound (l.map escL) with
  | none =>
    rw [hb] at HG
    go_enter Tryz.func15, Tryz.ntmps15
    go_wp2_with fail
    refine (alone_any 44 _).mono ?_
    rintro e w1 ⟨rfl, hw1⟩
    subst hw1
    go_wp2_with fail
    refine Calls.mono HG.out ?_
    rintro e w2 ⟨rfl, hb2⟩
    go_wp2_with fail
    go_ret2
    exact ⟨rfl, hba.trans (hb2.mono hba.size)⟩
  | some m =>
    rw [hb] at HG
    go_enter Tryz.func15, Tryz.ntmps15
    go_wp2_with fail
    refine (alone_any 44 _).mono ?_
    rintro e w1 ⟨rfl, hw1⟩
    subst hw1
    go_wp2_with fail
    refine Calls.mono HG.out ?_
    rintro e w2 ⟨⟨v2, rfl, ho⟩, hb2⟩
    have HO : Hid _ := ho
    clear ho
    go_wp2_with fail
    go_ret2
    exact ⟨⟨_, rfl, owns_lower HO.out hba.size⟩, hba.trans (hb2.mono hba.size)⟩
/-- Its bytes. -/
def plainL (x : List UInt8) : List UInt8 := (letts x).map Prod.fst
set_option maxRecDepth 100000 in
set_option maxHeartbeats 1000000 in
theorem plain_all (v : Value) (l : List (List UInt8)) (w : World) (a : Addr) (h : Tx w v l) (hl : Ok l) (hE : Eb w a) :
    Calls Tryz.prog 13 #[v] w fun e w' => GotL w.heap.size a (bound (l.map plainL)) e w' ∧ Below w.heap.size w w' := by
  have hba : Below w.heap.size w (w.alloc (.cells #[.func (.func 41) #[] #[]] 42)) := below_new w _
  have HG : Hid _ := gatherS_any v l 64 #[.pointer (some ⟨w.heap.size, 0, none⟩)] (fun x => [plainL x]) (w.alloc (.cells #[.func (.func 41) #[] #[]] 42)) a (enters_of Tryz.func64 (by kernel_rfl) rfl) (h.below hba (Nat.le_refl _)) hl.1
    (alone_makes 41 plainL l w.heap.size _ (by simp) ((Cel.new w 42 #[.func (.func 41) #[] #[]]).cell 0) (enters_of Tryz.func41 (by kernel_rfl) rfl)
      (fun x hx W => by have := plain_any ⟨x.toArray⟩ (by rw [str_size']; have := hl.2 x hx; omega) W; rw [str_data'] at this; exact this)) (fun x _ => by simp) (hE.below hba hE.pos)
  rw [gat_single] at HG
  obtain ⟨ad, cap, rfl⟩ := h.form
  clear h hE
  cases hb : bound (l.map plainL) with
  | none =>
    rw [hb] at HG
    go_enter Tryz.func13, Tryz.ntmps13
    go_wp2_with fail
    refine (alone_any 41 _).mono ?_
    rintro e w1 ⟨rfl, hw1⟩
    subst hw1
    go_wp2_with fail
    refine Calls.mono HG.out ?_
    rintro e w2 ⟨rfl, hb2⟩
    go_wp2_with fail
    go_ret2
    exact ⟨rfl, hba.trans (hb2.mono hba.size)⟩
  | some m =>
    rw [hb] at HG
    go_enter Tryz.func13, Tryz.ntmps13
    go_wp2_with fail
    refine (alone_any 41 _).mono ?_
    rintro e w1 ⟨rfl, hw1⟩
    subst hw1
    go_wp2_with fail
    refine Calls.mono HG.out ?_
    rintro e w2 ⟨⟨v2, rfl, ho⟩, hb2⟩
    have HO : Hid _ := ho
    clear ho
    go_wp2_with fail
    go_ret2
    exact ⟨⟨_, rfl, owns_lower HO.out hba.size⟩, hba.trans (hb2.mono hba.size)⟩

set_option maxRecDepth 100000 in
set_option maxHeartbeats 1000000 in
theorem split_all (v : Value) (l : List (List UInt8)) (w : World) (a : Addr) (h : Tx w v l) (hl : Ok l) (hl2 : ∀ s ∈ l, s.length < 4294967295) (hE : Eb w a) :
    Calls Tryz.prog 11 #[v] w fun e w' => GotL w.heap.size a (bound (gatAll splitL l)) e w' ∧ Below w.heap.size w w' := by
  have hM : Makes 38 #[] splitL l w := fun W x hx hbW => by
    have := split_any ⟨x.toArray⟩ (by rw [str_size']; exact hl.2 x hx) W
    rw [str_data'] at this
    exact this.mono fun e w' ⟨v', h1, h2, h3⟩ => ⟨v', h1, Tx.owned h2, h3⟩
  have HG : Hid _ := gatherS_any v l 38 #[] splitL w a (enters_of Tryz.func38 (by kernel_rfl) rfl) h hl.1 hM (fun x hx => by have h1 := splitL_length x; have h2 := hl2 x hx; omega) hE
  obtain ⟨ad, cap, rfl⟩ := h.form
  clear h hE hM
  cases hb : bound (gatAll splitL l) with
  | none =>
    rw [hb] at HG
    go_enter Tryz.func11, Tryz.ntmps11
    go_wp2_with fail
    refine Calls.mono HG.out ?_
    rintro e w2 ⟨rfl, hb2⟩
    go_wp2_with fail
    go_ret2
    exact ⟨rfl, hb2⟩
  | some m =>
    rw [hb] at HG
    go_enter Tryz.func11, Tryz.ntmps11
    go_wp2_with fail
    refine Calls.mono HG.out ?_
    rintro e w2 ⟨⟨v2, rfl, ho⟩, hb2⟩
    have HO : Hid _ := ho
    clear ho
    go_wp2_with fail
    go_ret2
    exact ⟨⟨_, rfl, HO.out⟩, hb2⟩

theorem sjoin_any (v : Value) (l : List (List UInt8)) (w : World) (h : Tx w v l) (hs : flatSum l ≤ 2001) :
    Calls Tryz.prog 45 #[v, .string ⟨#[32]⟩] w fun e w' => e = .returned (.string ⟨(Lib.join l [32]).toArray⟩) ∧ Below w.heap.size w w' := by
  have hl := flatSum_length l
  by_cases hne : l = []
  · subst hne
    obtain ⟨ad, cap, rfl⟩ := h.form
    exact (Tryz.strings_Join_none ad cap _ w).mono fun e w' ⟨he, hw⟩ => ⟨he, by rw [hw]; exact Below.refl _ _⟩
  · obtain ⟨g, o, cap, rfl, h1, h2, h3⟩ := h.inRow hne
    have e1 : (l.map fun s => (⟨s.toArray⟩ : ByteArray)).map (·.data.toList) = l := by
      rw [List.map_map]
      conv => rhs; rw [← List.map_id l]
      apply List.map_congr_left
      intro x _
      simp
    have hj := join_length l
    have := Tryz.strings_Join g o cap (l.map fun s => ⟨s.toArray⟩) ⟨#[32]⟩ w (fun j x hx => by
      rw [List.getElem?_map] at hx
      cases hp : l[j]? with
      | none => rw [hp] at hx; simp at hx
      | some p =>
        rw [hp] at hx
        cases hx
        exact h3 j p hp) h2 (by simp; omega) (by simpa using h1) (by rw [e1]; show (Lib.join l [32]).length ≤ _; omega)
    rw [e1, List.length_map] at this
    exact this

set_option maxRecDepth 100000 in
set_option maxHeartbeats 2000000 in
theorem flat_any (v : Value) (l : List (List UInt8)) (w : World) (a : Addr) (h : Tx w v l) (hl : Ok l) (hE : Eb w a) :
    Calls Tryz.prog 16 #[v] w fun e w' => GotL w.heap.size a (flatB l) e w' ∧ Below w.heap.size w w' := by
  have HE : Hid (Eb w a) := hE
  have HT : Hid (Tx w v l) := h
  have HL : Hid (∀ s ∈ l, s.length < 4294967296) := hl.2
  have hll := hl.1
  obtain ⟨ad, cap, rfl⟩ := h.form
  clear h hE hl
  go_enter Tryz.func16, Tryz.ntmps16
  go_wp2_with fail
  go_loopw [4, 9] (fun v4 v9 wr => ∃ (k : Nat) (r : Int), v9 = .int .i64 k ∧ k ≤ l.length ∧ v4 = .int .i64 r ∧ Hid (r = 2001 - (flatSum (l.take k) : Int)) ∧ 0 ≤ r ∧ r ≤ 2001 ∧ wr = w) (fun _ v9 _ => l.length - (intOf v9).toNat)
  case atStart => exact ⟨0, 2001, rfl, by omega, rfl, rfl, by omega, by omega, rfl⟩
  case round =>
    obtain ⟨k, r, rfl, hk, rfl, HR, hr0, hr1, hwr⟩ := hrel
    obtain rfl := hwr.symm
    by_cases hkl : k < l.length
    · obtain ⟨s, hs⟩ : ∃ s, l[k]? = some s := ⟨_, List.getElem?_eq_getElem hkl⟩
      obtain ⟨g, o, cap', hv, hcc, hg, hce⟩ := HT.out.inRow (fun e => by rw [e] at hkl; simp at hkl)
      cases hv
      have c0 := hce k s hs
      have hsl := HL.out s (List.mem_of_getElem? hs)
      have hsz : (⟨s.toArray⟩ : ByteArray).size < 4294967296 := by rw [str_size']; exact hsl
      have HSS : Hid _ := flatSum_take l k s hs
      clear hce hs
      by_cases hneg : r - (1 + (s.length : Int)) < 0
      · have HF : Hid (flatB l = none) := by
          unfold Hid flatB
          have h1 := HR.out
          have h2 := HSS.out
          have h3 := flatSum_le l (k + 1)
          rw [if_neg (by omega)]
        have c1 := HE.out.1
        have c1d : w.drew.cell? ⟨0, 0, none⟩ = some (bigV a) := c1
        go_wp2_with fail
        go_region
        all_goals go_wp2_with fail
        all_goals go_ret2
        all_goals rw [HF.out]
        all_goals exact ⟨rfl, (Below.refl _ w).drew⟩
      · go_wp2_with fail
        refine ⟨⟨k + 1, r - (1 + (s.length : Int)), by simp, by omega, by simp, ?_, by omega, by omega, trivial⟩, by simp [intOf]; omega⟩
        have h1 := HR.out
        have h2 := HSS.out
        show r - (1 + (s.length : Int)) = 2001 - (flatSum (l.take (k + 1)) : Int)
        omega
    · have hkz : k = l.length := by omega
      subst hkz
      have h1 := HR.out
      rw [List.take_length] at h1
      have hfs : flatSum l ≤ 2001 := by omega
      have HF : Hid (flatB l = some [Lib.join l [32]]) := by unfold Hid flatB; rw [if_pos hfs]
      have HJ : Hid _ := sjoin_any _ l w HT.out hfs
      clear h1
      go_wp2_with fail
      refine Calls.mono HJ.out ?_
      rintro e w1 ⟨rfl, hb1⟩
      go_wp2_with fail
      go_ret2
      rw [HF.out]
      exact ⟨⟨_, rfl, owns_lower (owns_one w1 _) hb1.size⟩, hb1.alloc hb1.size _⟩
end Go.Proofs.YtdajacodfnidfaaGreatDoor
