/- A head's bytes. -/
import Derived.Test.YtaggkcgeddoogaaDoorHdValid
namespace Go.Proofs.YtaggkcgeddoogaaDoor
open Go.RowKit

def zerosN (n : Nat) : Nat := (4 - n % 4) % 4
def padB (b : List UInt8) : List UInt8 := b ++ List.replicate (zerosN b.length) 0
def optB (x : Int) : List UInt8 := if x = -1 then [] else Vl.put 9 x.toNat
def propB (f : Fil) : List UInt8 := (bytesL f).getD []
def filB (f : Fil) : List UInt8 := Vl.put 9 f.id.toNat ++ (Vl.put 9 (propB f).length ++ propB f)
def filsB (l : List Fil) : List UInt8 := l.flatMap filB
def lastF (d : Nat) : Fil := ⟨33, d⟩
def secondB (h : HeadM) : Nat := h.l.length + (if h.p = -1 then 0 else 64) + (if h.q = -1 then 0 else 128)
def restB (h : HeadM) : List UInt8 := optB h.p ++ optB h.q ++ filsB (h.l ++ [lastF h.d])
def openB (h : HeadM) : List UInt8 := 0 :: UInt8.ofNat (secondB h) :: restB h
def bodyH (h : HeadM) : List UInt8 := (padB (openB h)).set 0 (UInt8.ofNat ((padB (openB h)).length / 4))
def putH (h : HeadM) : List UInt8 := bodyH h ++ sum1 (bodyH h)
theorem filsB_snoc (l : List Fil) (f : Fil) : filsB (l ++ [f]) = filsB l ++ filB f := by simp [filsB]
def GoodF (f : Fil) : Prop := f.ok ∧ 0 ≤ f.id ∧ f.id ≤ 33 ∧ bytesL f = some (propB f) ∧ (propB f).length ≤ 4
theorem good_fit (f : Fil) (hok : f.ok) (h : fitB f = true) : GoodF f := by
  have hid : f.id ≠ 33 := by
    intro e
    obtain ⟨id, n⟩ := f
    obtain rfl : id = 33 := e
    rw [fit33] at h; cases h
  have hb : bytesL f = if f.id = 3 then some [UInt8.ofNat (f.n - 1)] else if f.n = 0 then some [] else some (bytesOf true f.n) := by
    unfold bytesL; rw [if_neg hid, if_pos h]
  have hr : 0 ≤ f.id ∧ f.id ≤ 33 := by
    rcases fit_id f h with ⟨e, _⟩ | ⟨_, e, _⟩
    · omega
    · rcases e with e | e | e | e <;> omega
  refine ⟨hok, hr.1, hr.2, ?_, ?_⟩
  · unfold propB; rw [hb]
    split
    · rfl
    · split <;> rfl
  · unfold propB; rw [hb]
    split
    · simp
    · split
      · simp
      · simp [bytesOf]
theorem good_last (d : Nat) (hd : d < 4294967296) (h : dictB d = true) : GoodF (lastF d) := by
  have h' : dictN (codeN d) = d := by simpa [dictB] using h
  have hb : bytesL (lastF d) = some [UInt8.ofNat (codeN d)] := by
    unfold bytesL lastF; rw [if_pos rfl, if_pos h']
  refine ⟨⟨by show (-9223372036854775808 : Int) ≤ 33; omega, by show (33 : Int) ≤ 9223372036854775807; omega, hd⟩, by show (0 : Int) ≤ 33; omega, by show (33 : Int) ≤ 33; omega, ?_, ?_⟩
  · unfold propB; rw [hb]; rfl
  · unfold propB; rw [hb]; simp
theorem good_all (h : HeadM) (hok : h.ok) (hf : ∀ f ∈ h.l, f.ok) (hv : validB h = true) : (∀ f ∈ h.l ++ [lastF h.d], GoodF f) ∧ h.l.length ≤ 3 ∧ (h.p = -1 ∨ 1 ≤ h.p) ∧ (h.q = -1 ∨ 0 ≤ h.q) := by
  simp only [validB, sizesB, mayL, Bool.and_eq_true, Bool.or_eq_true, decide_eq_true_eq, List.all_eq_true] at hv
  obtain ⟨⟨⟨h1, h2⟩, h3, h4⟩, h5⟩ := hv
  refine ⟨fun f hm => ?_, h3, h1, h2⟩
  rcases List.mem_append.1 hm with hm | hm
  · exact good_fit f (hf f hm) (h4 f hm)
  · obtain rfl : f = lastF h.d := by simpa using hm
    exact good_last _ hok.2.2.2.2 h5
theorem filB_length (f : Fil) (h : GoodF f) : (filB f).length ≤ 24 := by
  have h1 := (Vl.put_length 9 f.id.toNat).2
  have h2 := (Vl.put_length 9 (propB f).length).2
  have h3 := h.2.2.2.2
  simp only [filB, List.length_append]; omega
theorem filsB_length (l : List Fil) (h : ∀ f ∈ l, GoodF f) : (filsB l).length ≤ 24 * l.length := by
  induction l with
  | nil => simp [filsB]
  | cons f l ih =>
    have h1 := filB_length f (h f (by simp))
    have h2 := ih (fun g hg => h g (by simp [hg]))
    simp only [filsB, List.flatMap_cons, List.length_append, List.length_cons] at h2 ⊢
    omega
theorem optB_length (x : Int) : (optB x).length ≤ 10 := by
  unfold optB
  split
  · simp
  · exact (Vl.put_length 9 _).2
theorem or64 (n : Nat) (h : n ≤ 3) : bits .or .u8 (n : Int) 64 = ((n + 64 : Nat) : Int) := by
  match n, h with
  | 0, _ => rfl
  | 1, _ => rfl
  | 2, _ => rfl
  | 3, _ => rfl
theorem or128 (n : Nat) (h : n ≤ 3) : bits .or .u8 (n : Int) 128 = ((n + 128 : Nat) : Int) ∧ bits .or .u8 ((n + 64 : Nat) : Int) 128 = ((n + 64 + 128 : Nat) : Int) := by
  match n, h with
  | 0, _ => exact ⟨rfl, rfl⟩
  | 1, _ => exact ⟨rfl, rfl⟩
  | 2, _ => exact ⟨rfl, rfl⟩
  | 3, _ => exact ⟨rfl, rfl⟩
/-- The bytes so far, in their box. -/
def OutI (bo base : Nat) (w1 : World) (L : List UInt8) (wx : World) : Prop := ∃ v, Box bo wx v ∧ Own base wx v L ∧ Below base w1 wx
theorem OutI.opened {bo base : Nat} {w1 wx : World} {a x : UInt8} {r : List UInt8} (h : OutI bo base w1 (a :: x :: r) wx) : ∃ g c, Box bo wx (.slice (some ⟨g, 0, none⟩) (r.length + 2) c) ∧ Own base wx (.slice (some ⟨g, 0, none⟩) (r.length + 2) c) (a :: x :: r) ∧ Below base w1 wx ∧ base ≤ g ∧ g ≠ bo ∧
    wx.cell? ⟨g, 1, none⟩ = some (.int .u8 (x.toNat : Nat)) ∧ wx.frozen? ⟨g, 1, none⟩ = false ∧ wx.frozen? ⟨g, 0, none⟩ = false ∧ r.length + 2 ≤ c ∧ c ≤ 9223372036854775807 ∧ wx.cell? ⟨g, 0, none⟩ = some (.int .u8 (a.toNat : Nat)) := by
  obtain ⟨v, hx, ho, hb⟩ := h
  obtain ⟨g, c, rfl, h1, h2, h3, h4, h5, h6⟩ := ho.opened (by simp)
  refine ⟨g, c, hx, ho, hb, h1, ?_, h5 1 (by simp), h6 1, h6 0, by simpa using h3, h4, h5 0 (by simp)⟩
  intro e
  exact hx.ne ho (by rw [e]; rfl)
theorem Box.store {bo g i : Nat} {w : World} {v u : Value} (h : Box bo w v) (hg : g ≠ bo) : Box bo (w.setCell ⟨g, i, none⟩ u) v := (heap_setCell_other _ _ _ _ (fun e => hg e.symm)).trans h
/-- The second byte is written. -/
theorem second_set {bo base g c : Nat} {w1 wx : World} {a x : UInt8} {r : List UInt8} (hx : Box bo wx (.slice (some ⟨g, 0, none⟩) (r.length + 2) c)) (ho : Own base wx (.slice (some ⟨g, 0, none⟩) (r.length + 2) c) (a :: x :: r)) (hb : Below base w1 wx) (hg : base ≤ g) (hne : g ≠ bo) (s : Nat) (hs : s < 256) :
    Box bo (wx.setCell ⟨g, 1, none⟩ (.int .u8 (s : Nat))) (.slice (some ⟨g, 0, none⟩) (r.length + 2) c) ∧ Own base (wx.setCell ⟨g, 1, none⟩ (.int .u8 (s : Nat))) (.slice (some ⟨g, 0, none⟩) (r.length + 2) c) (a :: UInt8.ofNat s :: r) ∧ Below base w1 (wx.setCell ⟨g, 1, none⟩ (.int .u8 (s : Nat))) := by
  have h := ho.store 1 (by simp) (UInt8.ofNat s)
  have e : ((UInt8.ofNat s).toNat : Nat) = s := by rw [UInt8.toNat_ofNat']; omega
  rw [e] at h
  exact ⟨hx.store hne, h, Below.setCell hb hg _⟩
/-- How long the slice in the box is. -/
def boxLen (bo : Nat) (w : World) : Nat := match w.cell? ⟨bo, 0, none⟩ with
  | some (.slice _ n _) => n
  | _ => 0
theorem Box.len {bo n c : Nat} {A : Option Addr} {w : World} (h : Box bo w (.slice A n c)) : boxLen bo w = n := by
  unfold boxLen; rw [h.cell]
/-- The first byte is written. -/
theorem first_set {bo base g c n : Nat} {w1 wx : World} {a : UInt8} {r : List UInt8} (hx : Box bo wx (.slice (some ⟨g, 0, none⟩) n c)) (ho : Own base wx (.slice (some ⟨g, 0, none⟩) n c) (a :: r)) (hb : Below base w1 wx) (hg : base ≤ g) (hne : g ≠ bo) (s : Nat) (hs : s < 256) :
    Box bo (wx.setCell ⟨g, 0, none⟩ (.int .u8 (s : Nat))) (.slice (some ⟨g, 0, none⟩) n c) ∧ Own base (wx.setCell ⟨g, 0, none⟩ (.int .u8 (s : Nat))) (.slice (some ⟨g, 0, none⟩) n c) (UInt8.ofNat s :: r) ∧ Below base w1 (wx.setCell ⟨g, 0, none⟩ (.int .u8 (s : Nat))) := by
  have h := ho.store 0 (by simp) (UInt8.ofNat s)
  have e : ((UInt8.ofNat s).toNat : Nat) = s := by rw [UInt8.toNat_ofNat']; omega
  rw [e] at h
  exact ⟨hx.store hne, h, Below.setCell hb hg _⟩
theorem Own.weaken {base base' : Nat} {w : World} {v : Value} {l : List UInt8} (h : Own base w v l) (hb : base' ≤ base) : Own base' w v l := by
  rcases h with ⟨h1, h2 | ⟨g, cap, cur, h2, h3, h4⟩⟩
  · exact ⟨h1, .inl h2⟩
  · exact ⟨h1, .inr ⟨g, cap, cur, h2, Nat.le_trans hb h3, h4⟩⟩
theorem step_append_bytes {ops : Array Oper} {o : Oper} {a : Act} {K : Act → World → Prop} {Q : Exit → Act → World → Prop} (hgd : o.guard = none) (s x : Operand)
    (ho : o.op = .call { callee := .builtin .append, args := #[s, x], argTypes := #[26, 26] })
    (base : Nat) (w : World) (v : Value) (xs : List UInt8) (hs : a.eval s = v) (hown : Own base w v xs) (A : Option Addr) (l : List UInt8) (c : Nat) (hx : a.eval x = .slice A l.length c) (hB : Bytes w A l)
    (hsz : xs.length + l.length ≤ 140737488355328) (hbase : base ≤ w.heap.size)
    (h : ∀ v' w', Own base w' v' (xs ++ l) → w.grownBy w' v.ownBlock → K (a.put o.dst v') w') : if Region.wanted o (yielded ops a.tmps) = true then Oper.wp Tryd.prog o a w K Q else K (a.put o.dst undef) w := by
  rw [if_pos (by simp [Region.wanted, hgd])]
  obtain ⟨v', w', hr, h2, h3⟩ := run_append_bytes base o.type w v xs hown A l c hB hsz hbase
  unfold Oper.wp execOp
  simp only [ho, resolve, invoke, builtin, Sem.run_bind, Sem.run_pure, Result.andThen_ok, List.map_toArray, List.map_cons, List.map_nil, hs, hx, hr]
  exact h v' w' h2 h3
end Go.Proofs.YtaggkcgeddoogaaDoor
