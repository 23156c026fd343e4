/- A tree that was written is read back. Plain. -/
import Derived.Test.YtaildeglikhkaaaGreatDoorPlainAll
import Derived.Test.YtaildeglikhkaaaGreatDoorPrPlain
namespace Go.Proofs.YtaildeglikhkaaaGreatDoor

/-- A node's text up to its children. -/
def bgB (x : Nd) : List UInt8 := 40 :: (kindN x.kind ++ tailB x)
/-- A tree's text is read as this tree. -/
def TrBack (d : Nat) (Y : List Nd) : Prop := ∀ (s : ByteArray) (f dep k : Nat) (X : List Nd) (r : List UInt8), s.data.toList.drop k = textL bgB d Y ++ r → dep + d ≤ 121 → X.length + Y.length ≤ 3001 → (textL bgB d Y).length ≤ f →
  treeG s f dep k X = (true, k + (textL bgB d Y).length, X ++ Y)
/-- The children's text, with the blank ahead of each. -/
def kidsT (d : Nat) (Ys : List (List Nd)) : List UInt8 := Ys.flatMap fun Y => 32 :: textL bgB d Y
theorem kidsT_cons (d : Nat) (Y : List Nd) (Ys : List (List Nd)) : kidsT d (Y :: Ys) = 32 :: (textL bgB d Y ++ kidsT d Ys) := by
  simp [kidsT]
theorem kids_back (d : Nat) (s : ByteArray) (dep : Nat) (r : List UInt8) (hd : dep + d ≤ 121) : ∀ (Ys : List (List Nd)) (f k : Nat) (X : List Nd) (c : Nat), (∀ Y ∈ Ys, TrBack d Y) → s.data.toList.drop k = kidsT d Ys ++ 41 :: r → X.length + Ys.flatten.length ≤ 3001 → (kidsT d Ys).length + 1 ≤ f →
    kidsG s f dep k X c = (some (c + Ys.length), k + (kidsT d Ys).length + 1, X ++ Ys.flatten)
  | [], f + 1, k, X, c, _, h, _, _ => by
    have h0 := (drop_get (c := 41) (r := r) (by simpa [kidsT] using h)).1
    rw [kidsG, if_pos h0]
    simp [kidsT]
  | Y :: Ys, f + 1, k, X, c, hY, h, hX, hf => by
    rw [kidsT_cons] at h hf ⊢
    simp only [List.length_cons, List.length_append] at hf
    simp only [List.flatten_cons, List.length_append] at hX
    obtain ⟨h0, h1⟩ := drop_get (show _ = 32 :: ((textL bgB d Y ++ kidsT d Ys) ++ 41 :: r) from h)
    rw [List.append_assoc] at h1
    have ht := hY Y (by simp) s f dep (k + 1) X _ h1 hd (by omega) (by omega)
    have hr := kids_back d s dep r hd Ys f (k + 1 + (textL bgB d Y).length) (X ++ Y) (c + 1) (fun Z hZ => hY Z (by simp [hZ])) (drop_app h1) (by simp only [List.length_append]; omega) (by omega)
    rw [kidsG, if_neg (by rw [h0]; decide), if_pos h0, ht]
    simp only
    rw [hr]
    simp only [List.length_cons, List.length_append, List.flatten_cons, List.append_assoc, Prod.mk.injEq, Option.some.injEq, and_true]
    omega
theorem modify_mid {α : Type} (g : α → α) (a : α) (F : List α) : ∀ X : List α, (X ++ a :: F).modify X.length g = X ++ g a :: F
  | [] => by simp
  | x :: X => by
    rw [List.cons_append, List.length_cons, List.modify_succ_cons, modify_mid g a F X]
    rfl
theorem fix_new (X F : List Nd) (kind n : Int) (t : Txt) (c : Nat) : fixN (X ++ [⟨kind, n, 0, 0, t⟩] ++ F) X.length c = X ++ ⟨kind, n, c, F.length + 1, t⟩ :: F := by
  unfold fixN
  rw [List.append_assoc, List.singleton_append, modify_mid]
  simp only [List.length_append, List.length_cons]
  congr 3
  omega
theorem text_head (d : Nat) (Y : List Nd) (h : Seg d Y) : ∃ t, textL bgB d Y = 40 :: t := by
  cases h with
  | mk d kind n s Ys hs => exact ⟨_, by rw [textL_new bgB d kind n s Ys hs]; rfl⟩
theorem tree_back {d : Nat} {Y : List Nd} (h : Seg d Y) : (∀ x ∈ Y, Says x) → TrBack d Y := by
  induction h with
  | mk d kind n t Ys hs ih =>
    intro hx s f dep k X r h hd hX hf
    have hT := textL_new bgB d kind n t Ys hs
    rw [hT] at h hf ⊢
    have hlen : (newN kind n t Ys).length = Ys.flatten.length + 1 := by simp [newN]
    rw [hlen] at hX
    have hm : ∀ Z ∈ Ys, TrBack d Z := fun Z hZ => ih Z hZ (fun x hx' => hx x (by
      simp only [newN, List.mem_cons]
      exact .inr (List.mem_flatten.2 ⟨Z, hZ, hx'⟩)))
    have h0 := hx ⟨kind, n, Ys.length, Ys.flatten.length + 1, t⟩ (by simp [newN])
    have hst : Stop (kidsT d Ys ++ 41 :: r) := by
      match Ys, hs with
      | [], _ => exact .inl rfl
      | Z :: Zs, hs =>
        obtain ⟨u, hu⟩ := text_head d Z (hs Z (by simp))
        rw [kidsT_cons, hu]
        exact .inr ⟨rfl, fun y hy => .inr (by simpa using hy.symm)⟩
    have h' : s.data.toList.drop k = 40 :: (kindN kind ++ (tailB ⟨kind, n, Ys.length, Ys.flatten.length + 1, t⟩ ++ (kidsT d Ys ++ 41 :: r))) := by
      rw [h]; simp [bgB, kidsT]
    obtain ⟨h1, h2⟩ := drop_get h'
    have hno := node_back s (k + 1) ⟨kind, n, Ys.length, Ys.flatten.length + 1, t⟩ _ h0 h2 hst
    have h3 : s.data.toList.drop (k + 1 + (kindN kind ++ tailB ⟨kind, n, Ys.length, Ys.flatten.length + 1, t⟩).length) = kidsT d Ys ++ 41 :: r := by
      rw [← List.append_assoc] at h2
      exact drop_app h2
    have hf' : (kindN kind ++ tailB ⟨kind, n, Ys.length, Ys.flatten.length + 1, t⟩).length + 1 + (kidsT d Ys).length + 1 ≤ f := by
      have e : (bgB ⟨kind, n, Ys.length, Ys.flatten.length + 1, t⟩ ++ kidsT d Ys ++ [41]).length ≤ f := hf
      simp only [bgB, List.length_append, List.length_cons, List.length_nil] at e ⊢
      omega
    obtain ⟨g, rfl⟩ : ∃ g, f = g + 1 := ⟨f - 1, by omega⟩
    have hk := kids_back d s (dep + 1) r (by omega) Ys g _ (X ++ [⟨kind, n, 0, 0, t⟩]) 0 hm h3 (by simp only [List.length_append, List.length_cons, List.length_nil]; omega) (by omega)
    rw [treeG, if_neg (by omega), if_pos h1, hno]
    simp only [if_pos (show X.length ≤ 3000 by omega)]
    rw [hk]
    simp only
    rw [fix_new, Nat.zero_add]
    have e2 : (bgB ⟨kind, n, Ys.length, Ys.flatten.length + 1, t⟩ ++ (Ys.flatMap fun Y => 32 :: textL bgB d Y) ++ [41]).length = 1 + (kindN kind ++ tailB ⟨kind, n, Ys.length, Ys.flatten.length + 1, t⟩).length + (kidsT d Ys).length + 1 := by
      show (bgB ⟨kind, n, Ys.length, Ys.flatten.length + 1, t⟩ ++ kidsT d Ys ++ [41]).length = _
      simp only [bgB, List.length_append, List.length_cons, List.length_nil]
      omega
    rw [e2]
    simp only [newN, Prod.mk.injEq, true_and, and_true]
    omega
/-- The whole text of a tree is read as this tree. -/
theorem read_back (d : Nat) (l : List Nd) (h : Seg d l) (hd : d ≤ 120) (hl : l.length ≤ 3001) (hx : ∀ x ∈ l, Says x) (s : ByteArray) (hs : s.data.toList = textL bgB d l) : readG s = (true, s.size, l) := by
  have hsz : s.size = (textL bgB d l).length := by rw [← hs, Array.length_toList]; rfl
  unfold readG
  rw [tree_back h hx s (s.size + 1) 1 0 [] [] (by rw [hs]; simp) (by omega) (by simpa using hl) (by omega), hsz]
  simp
end Go.Proofs.YtaildeglikhkaaaGreatDoor
