/- A program's text, read and held against what may be. -/
import Derived.Test.YtaildeglikhkaaaGreatDoorRTreeAll
import Derived.Test.YtaildeglikhkaaaGreatDoorFault
/-! A whole text, read. -/
namespace Go.Proofs.YtaildeglikhkaaaGreatDoor
open Go.RowKit

/-- Is the whole text read? -/
def readOk (s : ByteArray) : Bool := (readG s).1 && (readG s).2.1 == s.size
def readN (s : ByteArray) : List Nd := (readG s).2.2
def readAt (s : ByteArray) : Nat := (readG s).2.1
theorem readAt_le (s : ByteArray) : readAt s ≤ s.size := (read_le s (s.size + 1)).1 1 0 [] (Nat.zero_le _)
theorem readN_len (s : ByteArray) : (readN s).length ≤ 3001 := ((read_len s (s.size + 1)).1 1 0 [] (Nat.zero_le _)).1
theorem Rd.start {W : World} (hk : KnAt W) (s : ByteArray) : Rd W.heap.size (W.alloc (.cells #[.string s, .int .i64 0, .slice none 0 0] 105)) W.heap.size s 0 [] :=
  ⟨KnAt.alloc hk _, KnAt.lt hk, Nat.le_refl _, by simp, .slice none 0 0, Cel.new W 105 _, World.ownsRow_nil _ _ _ _⟩
set_option maxRecDepth 100000 in
set_option maxHeartbeats 2000000 in
theorem read_yes {W : World} (hk : KnAt W) (s : ByteArray) (hs : s.size < 8796093022208) (ho : readOk s = true) :
    Calls Tryz.prog 47 #[.string s] W fun e w' => ∃ v', e = .returned (.tuple #[v', .nilIface]) ∧ w'.ownsRow W.heap.size 50 5 v' (readN s).length (ndCs (readN s)) ∧ Below W.heap.size W w' := by
  have hT := (read_all s hs (s.size + 1)).1 W.heap.size W.heap.size 1 0 [] _ (Rd.start hk s) (by omega) (Nat.zero_le _) (by omega) (Nat.zero_le _)
  unfold readOk readG at ho
  unfold readN readG
  obtain ⟨R, HR⟩ : ∃ R, treeG s (s.size + 1) 1 0 [] = R := ⟨_, rfl⟩
  rw [HR] at hT ho ⊢
  obtain ⟨rb, rj, rX⟩ := R
  simp only [Bool.and_eq_true, beq_iff_eq] at ho
  obtain ⟨rfl, rfl⟩ := ho
  have HTC : Hid _ := hT
  have hlt : ¬ (s.size : Int) < (s.size : Int) := by omega
  clear hT HR
  go_enter Tryz.func47, Tryz.ntmps47
  go_wp2_with fail
  refine Calls.mono HTC.out ?_
  rintro e w1 ⟨rfl, hR1, hb1⟩
  obtain ⟨ad, cap, c2, _, hp1, ho1⟩ := hR1.cells
  have c1 := Cel.cell hp1 1
  have HF : Hid (w1.ownsRow W.heap.size 50 5 (.slice ad rX.length cap) rX.length (ndCs rX) ∧ Below W.heap.size W w1) := ⟨ho1, (below_new W _).trans hb1⟩
  clear hR1 hb1 hp1 ho1
  go_wp2_with fail
  go_ret2
  exact ⟨_, rfl, HF.out.1, HF.out.2⟩
set_option maxRecDepth 100000 in
set_option maxHeartbeats 2000000 in
theorem read_no {W : World} (hk : KnAt W) (ea : Nat → Addr) (hE : Ers W ea) (s : ByteArray) (hs : s.size < 8796093022208) (ho : readOk s = false) :
    Calls Tryz.prog 47 #[.string s] W fun e w' => (∃ q, e = .returned (.tuple #[.slice none 0 0, .iface 79 (.pointer (some ⟨q, 0, none⟩))]) ∧ Cel w' q 81 #[.int .i64 (readAt s : Nat), errV (ea (if readAt s = s.size then 4 else 5))]) ∧ Below W.heap.size W w' := by
  have hT := (read_all s hs (s.size + 1)).1 W.heap.size W.heap.size 1 0 [] _ (Rd.start hk s) (by omega) (Nat.zero_le _) (by omega) (Nat.zero_le _)
  have hle := readAt_le s
  unfold readOk readG at ho
  unfold readAt readG at hle ⊢
  obtain ⟨R, HR⟩ : ∃ R, treeG s (s.size + 1) 1 0 [] = R := ⟨_, rfl⟩
  rw [HR] at hT ho hle ⊢
  obtain ⟨rb, rj, rX⟩ := R
  simp only at ho hle ⊢
  have HTC : Hid _ := hT
  have HE : Hid (∀ w', Below W.heap.size W w' → Ers w' ea) := fun w' hb => hE.below hb
  obtain ⟨ei, hei⟩ : ∃ ei, (if rj = s.size then 4 else 5) = ei := ⟨_, rfl⟩
  rw [hei]
  have HEI : Hid ((if rj = s.size then 4 else 5) = ei) := hei
  clear hT HR hE hei
  cases rb with
  | false =>
    clear ho
    go_enter Tryz.func47, Tryz.ntmps47
    go_wp2_with fail
    refine Calls.mono HTC.out ?_
    rintro e w1 ⟨rfl, hR1, hb1⟩
    obtain ⟨ad, cap, c2, _, hp1, ho1⟩ := hR1.cells
    have hB1 : Below W.heap.size W w1 := (below_new W _).trans hb1
    have HFA : Hid _ := fault_any hp1 ea (HE.out _ hB1) hle
    have HB1 : Hid (Below W.heap.size W w1) := hB1
    clear hR1 hb1 hp1 ho1 hB1
    go_wp2_with fail
    refine Calls.mono HFA.out ?_
    rintro e w2 ⟨⟨q, rfl, hq⟩, hb2⟩
    rw [HEI.out] at hq
    have HF : Hid (Cel w2 q 81 #[.int .i64 (rj : Nat), errV (ea ei)] ∧ Below W.heap.size W w2) := ⟨hq, HB1.out.trans (hb2.mono HB1.out.size)⟩
    clear hq hb2
    go_wp2_with fail
    go_ret2
    exact ⟨⟨q, rfl, HF.out.1⟩, HF.out.2⟩
  | true =>
    have hlt : rj < s.size := by
      rw [Bool.true_and] at ho
      have : rj ≠ s.size := by simpa using ho
      omega
    have hlti : (rj : Int) < (s.size : Int) := by omega
    clear ho
    go_enter Tryz.func47, Tryz.ntmps47
    go_wp2_with fail
    refine Calls.mono HTC.out ?_
    rintro e w1 ⟨rfl, hR1, hb1⟩
    obtain ⟨ad, cap, c2, _, hp1, ho1⟩ := hR1.cells
    have c1 := Cel.cell hp1 1
    have hB1 : Below W.heap.size W w1 := (below_new W _).trans hb1
    have HFA : Hid _ := fault_any hp1 ea (HE.out _ hB1) hle
    have HB1 : Hid (Below W.heap.size W w1) := hB1
    clear hR1 hb1 hp1 ho1 hB1
    go_wp2_with fail
    refine Calls.mono HFA.out ?_
    rintro e w2 ⟨⟨q, rfl, hq⟩, hb2⟩
    rw [HEI.out] at hq
    have HF : Hid (Cel w2 q 81 #[.int .i64 (rj : Nat), errV (ea ei)] ∧ Below W.heap.size W w2) := ⟨hq, HB1.out.trans (hb2.mono HB1.out.size)⟩
    clear hq hb2
    go_wp2_with fail
    go_ret2
    exact ⟨⟨q, rfl, HF.out.1⟩, HF.out.2⟩
end Go.Proofs.YtaildeglikhkaaaGreatDoor
namespace Go.Proofs.YtaildeglikhkaaaGreatDoor
open Go.RowKit

theorem quG_len (s : ByteArray) : ∀ (f k : Nat) (l m : List UInt8), (quG s f k l).1 = some m → m.length ≤ l.length + f
  | 0, _, _, _, h => by simp [quG] at h
  | f + 1, k, l, m, h => by
    unfold quG at h
    split at h
    · cases h
      omega
    · cases e : (qbR s k).1 with
      | none =>
        rw [e] at h
        simp at h
      | some v =>
        rw [e] at h
        have := quG_len s f _ _ _ h
        rw [List.length_append, List.length_singleton] at this
        omega
theorem quR_len (s : ByteArray) (k : Nat) (m : List UInt8) (h : (quR s k).1 = some m) : m.length ≤ s.size + 1 := by
  unfold quR at h
  split at h
  · have := quG_len s _ _ _ _ h
    simpa using this
  · simp at h
theorem noR_ok (s : ByteArray) (hs : s.size < 8796093022208) (k : Nat) (n : Nd) (h : (noR s k).1 = some n) : NdOk n := by
  unfold noR at h
  cases e : (kdR s k).1 with
  | none =>
    rw [e] at h
    simp at h
  | some kd =>
    rw [e] at h
    simp only [noS] at h
    split at h
    · split at h
      · cases e2 : (quR s ((nuR s (kdR s k).2).2 + 1)).1 with
        | none =>
          rw [e2] at h
          simp at h
        | some l =>
          rw [e2] at h
          simp only [Option.map_some, Option.some.injEq] at h
          subst h
          have := quR_len s _ _ e2
          exact ⟨by show l.length < _; omega, by show (0 : Int) ≤ _; omega⟩
      · simp at h
    · simp only [Option.some.injEq] at h
      subst h
      exact ⟨by show (0 : Nat) < _; omega, by show (0 : Int) ≤ _; omega⟩
theorem fix_ok {X : List Nd} (h : ∀ x ∈ X, NdOk x) (i c : Nat) (hc : c < 9223372036854775807) : ∀ x ∈ fixN X i c, NdOk x := by
  intro x hx
  unfold fixN at hx
  obtain ⟨j, hj, rfl⟩ := List.mem_iff_getElem.1 hx
  rw [List.getElem_modify]
  have hjl : j < X.length := by simpa using hj
  split
  · exact ⟨(h _ (List.getElem_mem hjl)).1, by show (c : Int) ≤ _; omega⟩
  · exact h _ (List.getElem_mem hjl)
theorem read_ok (s : ByteArray) (hs : s.size < 8796093022208) : ∀ f : Nat, f < 17592186044416 → (∀ d k X, (∀ x ∈ X, NdOk x) → ∀ x ∈ (treeG s f d k X).2.2, NdOk x) ∧ (∀ d k X c, (∀ x ∈ X, NdOk x) → (∀ x ∈ (kidsG s f d k X c).2.2, NdOk x) ∧ ∀ c', (kidsG s f d k X c).1 = some c' → c' ≤ c + f) := by
  intro f
  induction f with
  | zero => exact fun _ => ⟨fun _ _ _ h => by rw [treeG]; exact h, fun _ _ _ _ h => by rw [kidsG]; exact ⟨h, fun c' e => by simp at e⟩⟩
  | succ f ih =>
    intro hf
    have ih := ih (by omega)
    refine ⟨fun d k X h => ?_, fun d k X c h => ?_⟩
    · rw [treeG]
      split
      · exact h
      · split
        · cases e : (noR s (k + 1)).1 with
          | none => exact h
          | some n =>
            have hn := noR_ok s hs (k + 1) n e
            have hX : ∀ x ∈ (if X.length ≤ 3000 then X ++ [n] else X), NdOk x := by
              split
              · intro x hx
                rcases List.mem_append.1 hx with hx | hx
                · exact h x hx
                · simp only [List.mem_singleton] at hx
                  subst hx
                  exact hn
              · exact h
            have := ih.2 (d + 1) (noR s (k + 1)).2 (if X.length ≤ 3000 then X ++ [n] else X) 0 hX
            revert this
            simp only
            rcases kidsG s f (d + 1) (noR s (k + 1)).2 (if X.length ≤ 3000 then X ++ [n] else X) 0 with ⟨_ | c, j, Y⟩
            · exact fun h => h.1
            · intro h
              simp only at h ⊢
              have hcf := h.2 c rfl
              split
              · exact fix_ok h.1 _ _ (by omega)
              · exact h.1
        · exact h
    · rw [kidsG]
      split
      · exact ⟨h, fun c' e => by cases e; omega⟩
      · split
        · have := ih.1 d (k + 1) X h
          revert this
          rcases treeG s f d (k + 1) X with ⟨_ | _, j, Y⟩
          · exact fun h => ⟨h, fun c' e => by simp at e⟩
          · intro h
            have h2 := ih.2 d j Y (c + 1) h
            exact ⟨h2.1, fun c' e => by have := h2.2 c' e; omega⟩
        · exact ⟨h, fun c' e => by simp at e⟩
theorem readN_ok (s : ByteArray) (hs : s.size < 8796093022208) : ∀ x ∈ readN s, NdOk x := (read_ok s hs (s.size + 1) (by omega)).1 1 0 [] (fun x hx => by simp at hx)
/-- What is answered where nothing is read, or what is read may not be. -/
def BadIs (W : World) (ea : Nat → Addr) (s : ByteArray) (u : Value) : Prop :=
  if readOk s then ErrIs W ea u (checkL (readN s)) else ∃ q, u = .iface 79 (.pointer (some ⟨q, 0, none⟩)) ∧ Cel W q 81 #[.int .i64 (readAt s : Nat), errV (ea (if readAt s = s.size then 4 else 5))]
set_option maxRecDepth 100000 in
set_option maxHeartbeats 2000000 in
theorem parse_yes {W : World} (hk : KnAt W) (ea : Nat → Addr) (hE : Ers W ea) (s : ByteArray) (hs : s.size < 8796093022208) (ho : readOk s = true) (hc : checkL (readN s) = .fine) :
    Calls Tryz.prog 18 #[.string s] W fun e w' => ∃ v', e = .returned (.tuple #[v', .nilIface]) ∧ w'.ownsRow W.heap.size 50 5 v' (readN s).length (ndCs (readN s)) ∧ Below W.heap.size W w' := by
  have HRD : Hid _ := read_yes hk s hs ho
  have HE : Hid (∀ w', Below W.heap.size W w' → Ers w' ea) := fun w' hb => hE.below hb
  have HOK : Hid (∀ x ∈ readN s, NdOk x) := readN_ok s hs
  have HLN : Hid ((readN s).length ≤ 3001) := readN_len s
  have HC : Hid (checkL (readN s) = .fine) := hc
  clear hE ho hc
  generalize readN s = X at *
  go_enter Tryz.func18, Tryz.ntmps18
  go_wp2_with fail
  refine Calls.mono HRD.out ?_
  rintro e w1 ⟨v', rfl, ho1, hb1⟩
  have HCK : Hid _ := check_any v' X w1 ea (HE.out _ hb1) (NdAt.owned ho1) (by have := HLN.out; omega) HOK.out
  obtain ⟨ad, cap, rfl⟩ := owns_slice ho1
  have HO1 : Hid (w1.ownsRow W.heap.size 50 5 (.slice ad X.length cap) X.length (ndCs X) ∧ Below W.heap.size W w1) := ⟨ho1, hb1⟩
  clear ho1 hb1
  go_wp2_with fail
  refine Calls.mono HCK.out ?_
  rintro e w2 ⟨u, rfl, hu, hb2⟩
  rw [HC.out] at hu
  obtain rfl : u = .nilIface := hu
  have HF : Hid (w2.ownsRow W.heap.size 50 5 (.slice ad X.length cap) X.length (ndCs X) ∧ Below W.heap.size W w2) := ⟨owns_turn HO1.out.1 (Turn.ofBelow (S := fun _ => False) hb2) (fun _ _ h => h), HO1.out.2.trans (hb2.mono HO1.out.2.size)⟩
  clear hb2
  go_wp2_with fail
  go_ret2
  exact ⟨_, rfl, HF.out.1, HF.out.2⟩
/-- An error's value, some type and some place. -/
theorem ErrIs.form {W : World} {ea : Nat → Addr} {u : Value} {r : Rs} (h : ErrIs W ea u r) (hr : r ≠ .fine) : ∃ t a, u = .iface t (.pointer (some a)) := by
  cases r with
  | fine => exact absurd rfl hr
  | many => exact ⟨162, ea 0, h⟩
  | node i =>
    obtain ⟨q, hq, _⟩ := h
    exact ⟨79, _, hq⟩
  | nest i =>
    obtain ⟨q, hq, _⟩ := h
    exact ⟨79, _, hq⟩
set_option maxRecDepth 100000 in
set_option maxHeartbeats 2000000 in
theorem parse_no {W : World} (hk : KnAt W) (ea : Nat → Addr) (hE : Ers W ea) (s : ByteArray) (hs : s.size ≤ 131072) (ho : ¬ (readOk s = true ∧ checkL (readN s) = .fine)) :
    Calls Tryz.prog 18 #[.string s] W fun e w' => ∃ u, e = .returned (.tuple #[.slice none 0 0, u]) ∧ BadIs w' ea s u ∧ Below W.heap.size W w' := by
  have hsi : ¬ (s.size : Int) > 131072 := by omega
  cases hok : readOk s with
  | false =>
    have HRD : Hid _ := read_no hk ea hE s (by omega) hok
    have HBD : Hid (∀ (w : World) (u : Value), (∃ q, u = .iface 79 (.pointer (some ⟨q, 0, none⟩)) ∧ Cel w q 81 #[.int .i64 (readAt s : Nat), errV (ea (if readAt s = s.size then 4 else 5))]) → BadIs w ea s u) := fun w u h => by
      unfold BadIs
      rw [hok]
      exact h
    clear ho hok hE
    generalize (if readAt s = s.size then 4 else 5) = ei at *
    go_enter Tryz.func18, Tryz.ntmps18
    go_wp2_with fail
    refine Calls.mono HRD.out ?_
    rintro e w1 ⟨⟨q, rfl, hq⟩, hb1⟩
    have HF : Hid (BadIs w1 ea s (.iface 79 (.pointer (some ⟨q, 0, none⟩))) ∧ Below W.heap.size W w1) := ⟨HBD.out w1 _ ⟨q, rfl, hq⟩, hb1⟩
    clear hq hb1
    go_wp2_with fail
    go_ret2
    exact ⟨_, rfl, HF.out.1, HF.out.2⟩
  | true =>
    have HRD : Hid _ := read_yes hk s (by omega) hok
    have HE : Hid (∀ w', Below W.heap.size W w' → Ers w' ea) := fun w' hb => hE.below hb
    have HOK : Hid (∀ x ∈ readN s, NdOk x) := readN_ok s (by omega)
    have HLN : Hid ((readN s).length ≤ 3001) := readN_len s
    have HNF : Hid (checkL (readN s) ≠ .fine) := fun e => ho ⟨hok, e⟩
    have HBD : Hid (∀ (w : World) (u : Value), ErrIs w ea u (checkL (readN s)) → BadIs w ea s u) := fun w u h => by
      unfold BadIs
      rw [hok]
      exact h
    clear ho hok hE
    generalize readN s = X at *
    go_enter Tryz.func18, Tryz.ntmps18
    go_wp2_with fail
    refine Calls.mono HRD.out ?_
    rintro e w1 ⟨v', rfl, ho1, hb1⟩
    have HCK : Hid _ := check_any v' X w1 ea (HE.out _ hb1) (NdAt.owned ho1) (by have := HLN.out; omega) HOK.out
    obtain ⟨ad, cap, rfl⟩ := owns_slice ho1
    have HO1 : Hid (Below W.heap.size W w1) := hb1
    clear ho1 hb1
    go_wp2_with fail
    refine Calls.mono HCK.out ?_
    rintro e w2 ⟨u, rfl, hu, hb2⟩
    obtain ⟨t, a, rfl⟩ := hu.form HNF.out
    have HF : Hid (BadIs w2 ea s (.iface t (.pointer (some a))) ∧ Below W.heap.size W w2) := ⟨HBD.out w2 _ hu, HO1.out.trans (hb2.mono HO1.out.size)⟩
    clear hu hb2
    go_wp2_with fail
    go_ret2
    exact ⟨_, rfl, HF.out.1, HF.out.2⟩
end Go.Proofs.YtaildeglikhkaaaGreatDoor
