/- The walks over chain's through, Send and Back. -/
import Derived.Test.YtflklbnebljnmaaChFil
namespace Go.Proofs.Ytflklbnebljnmaa
open Go.RowKit

def enc1 (f : Fil) (b : List UInt8) : List UInt8 := if f.id = 3 then Delta.enc b f.n else coded (lowOf f.id) (cvOf f.id false) f.n b
def dec1 (f : Fil) (b : List UInt8) : List UInt8 := if f.id = 3 then Delta.dec b f.n else coded (lowOf f.id) (cvOf f.id true) f.n b
def sendL (l : List Fil) (b : List UInt8) : List UInt8 := l.foldl (fun b f => enc1 f b) b
def backL (l : List Fil) (b : List UInt8) : List UInt8 := l.foldr dec1 b
theorem enc1_length (f : Fil) (b : List UInt8) : (enc1 f b).length = b.length := by
  unfold enc1; split
  · exact Delta.enc_length _ _
  · exact coded_length _ _ _ _
theorem dec1_length (f : Fil) (b : List UInt8) : (dec1 f b).length = b.length := by
  unfold dec1; split
  · exact Delta.dec_length _ _
  · exact coded_length _ _ _ _
theorem sendL_length (l : List Fil) (b : List UInt8) : (sendL l b).length = b.length := by
  induction l generalizing b with
  | nil => rfl
  | cons f l ih => exact (ih (enc1 f b)).trans (enc1_length f b)
theorem backL_length (l : List Fil) (b : List UInt8) : (backL l b).length = b.length := by
  induction l with
  | nil => rfl
  | cons f l ih => exact (dec1_length f _).trans ih
theorem dec1_enc1 (f : Fil) (b : List UInt8) (h : fitB f = true) : dec1 f (enc1 f b) = b := by
  unfold dec1 enc1 
  by_cases h3 : f.id = 3
  · rw [if_pos h3, if_pos h3]
    unfold fitB at h
    rw [if_pos h3] at h
    simp at h
    exact Delta.dec_enc _ _ h.1
  · rw [if_neg h3, if_neg h3]
    exact back_on f.id false f.n b
theorem backL_sendL (l : List Fil) (b : List UInt8) (h : l.all fitB = true) : backL l (sendL l b) = b := by
  induction l generalizing b with
  | nil => rfl
  | cons f l ih =>
    rw [List.all_cons, Bool.and_eq_true] at h
    show dec1 f (backL l (sendL l (enc1 f b))) = b
    rw [ih _ h.2, dec1_enc1 f b h.1]
def sTo (l : List Fil) (b : List UInt8) (k : Nat) : List UInt8 := sendL (l.take k) b
def bTo (l : List Fil) (b : List UInt8) (k : Nat) : List UInt8 := backL (l.drop (l.length - k)) b
theorem sTo_length (l : List Fil) (b : List UInt8) (k : Nat) : (sTo l b k).length = b.length := sendL_length _ _
theorem bTo_length (l : List Fil) (b : List UInt8) (k : Nat) : (bTo l b k).length = b.length := backL_length _ _
theorem sTo_zero (l : List Fil) (b : List UInt8) : sTo l b 0 = b := by simp [sTo, sendL]
theorem bTo_zero (l : List Fil) (b : List UInt8) : bTo l b 0 = b := by simp [bTo, backL]
theorem sTo_all (l : List Fil) (b : List UInt8) : sTo l b l.length = sendL l b := by simp [sTo]
theorem bTo_all (l : List Fil) (b : List UInt8) : bTo l b l.length = backL l b := by simp [bTo]
theorem sTo_succ (l : List Fil) (b : List UInt8) (k : Nat) (h : k < l.length) : sTo l b (k + 1) = enc1 (l[k]'h) (sTo l b k) := by
  unfold sTo sendL
  rw [List.take_succ_eq_append_getElem h, List.foldl_append]; rfl
theorem bTo_succ (l : List Fil) (b : List UInt8) (k : Nat) (h : k < l.length) : bTo l b (k + 1) = dec1 (l[l.length - 1 - k]'(by omega)) (bTo l b k) := by
  unfold bTo backL
  rw [show l.length - (k + 1) = l.length - 1 - k by omega, List.drop_eq_getElem_cons (by omega), show l.length - 1 - k + 1 = l.length - k by omega]; rfl
theorem fit_id (f : Fil) (h : fitB f = true) : (f.id = 3 ∧ 1 ≤ f.n ∧ f.n ≤ 256) ∨ (f.id ≠ 3 ∧ isId f.id ∧ f.n % 4 = 0) := by
  unfold fitB at h
  by_cases h3 : f.id = 3
  · rw [if_pos h3] at h; simp at h; exact .inl ⟨h3, h⟩
  · rw [if_neg h3] at h; exact .inr ⟨h3, (mayB_iff _ _).1 h⟩
theorem own_down {base base' : Nat} {w : World} {v : Value} {l : List UInt8} (h : Own base w v l) (hb : base' ≤ base) : Own base' w v l := De.own_lower h hb
theorem fit_at (l : List Fil) (i : Nat) (h : i < l.length) (ha : l.all fitB = true) : fitB l[i] = true := List.all_eq_true.1 ha _ (List.getElem_mem h)
theorem back_at (n k : Nat) (h : k < n) : (n : Int) - 1 - (k : Int) = ((n - 1 - k : Nat) : Int) := by omega

set_option maxHeartbeats 400000 in
theorem enc1_one (f : Fil) (hok : f.ok) (hfit : fitB f = true) (A : Option Addr) (l : List UInt8) (c : Nat) (w : World) (hB : Bytes w A l) (hm : l.length ≤ 140737488355328) :
    Calls Try.prog 22 #[f.agg, .slice A l.length c] w (Gives w (enc1 f l) 0) := by
  obtain ⟨id, n⟩ := f
  have hb := below_box w
  obtain ⟨h1, h2, h3⟩ := hok
  simp only at h1 h2 h3
  rcases fit_id _ hfit with ⟨e, g1, g2⟩ | ⟨e, g1, g2⟩
  · simp only at e g1 g2
    subst e
    have hx : enc1 ⟨3, n⟩ l = Delta.enc l ((n : Int).toNat) := rfl
    rw [hx]
    have HC := Lib.hid (fun (w' : World) (h : Bytes w' A l) => De.encode_any A l c (n : Int) w' h hm (by omega) (by omega))
    generalize Delta.enc l ((n : Int).toNat) = X at *
    clear hx hfit
    go_enter Try.func22, Try.ntmps22
    go_wp2_with fail
    refine (HC.out _ (hB.below (hb _))).mono ?_
    rintro e w1 ⟨v, rfl, ho, hb1⟩
    go_wp2_with fail
    go_ret2
    exact ⟨v, rfl, own_down ho (hb _).size, (hb _).trans (hb1.mono (hb _).size)⟩
  · simp only at e g1 g2
    have hx : enc1 ⟨id, n⟩ l = coded (lowOf id) (cvOf id false) n l := by unfold enc1; rw [if_neg e]
    rw [hx]
    have HC := Lib.hid (fun (w' : World) (h : Bytes w' A l) => encode_any id g1 n h3 g2 A l c w' h hm)
    generalize coded (lowOf id) (cvOf id false) n l = X at *
    clear hx hfit g1
    go_enter Try.func22, Try.ntmps22
    go_wp2_with fail
    refine (HC.out _ (hB.below (hb _))).mono ?_
    rintro e w1 ⟨v, rfl, ho, hb1⟩
    go_wp2_with fail
    go_ret2
    exact ⟨v, rfl, own_down ho (hb _).size, (hb _).trans (hb1.mono (hb _).size)⟩

set_option maxHeartbeats 400000 in
theorem dec1_one (f : Fil) (hok : f.ok) (hfit : fitB f = true) (A : Option Addr) (l : List UInt8) (c : Nat) (w : World) (hB : Bytes w A l) (hm : l.length ≤ 140737488355328) :
    Calls Try.prog 24 #[f.agg, .slice A l.length c] w (Gives w (dec1 f l) 0) := by
  obtain ⟨id, n⟩ := f
  have hb := below_box w
  obtain ⟨h1, h2, h3⟩ := hok
  simp only at h1 h2 h3
  rcases fit_id _ hfit with ⟨e, g1, g2⟩ | ⟨e, g1, g2⟩
  · simp only at e g1 g2
    subst e
    have hx : dec1 ⟨3, n⟩ l = Delta.dec l ((n : Int).toNat) := rfl
    rw [hx]
    have HC := Lib.hid (fun (w' : World) (h : Bytes w' A l) => De.decode_any A l c (n : Int) w' h hm (by omega) (by omega))
    generalize Delta.dec l ((n : Int).toNat) = X at *
    clear hx hfit
    go_enter Try.func24, Try.ntmps24
    go_wp2_with fail
    refine (HC.out _ (hB.below (hb _))).mono ?_
    rintro e w1 ⟨v, rfl, ho, hb1⟩
    go_wp2_with fail
    go_ret2
    exact ⟨v, rfl, own_down ho (hb _).size, (hb _).trans (hb1.mono (hb _).size)⟩
  · simp only at e g1 g2
    have hx : dec1 ⟨id, n⟩ l = coded (lowOf id) (cvOf id true) n l := by unfold dec1; rw [if_neg e]
    rw [hx]
    have HC := Lib.hid (fun (w' : World) (h : Bytes w' A l) => decode_any id g1 n h3 g2 A l c w' h hm)
    generalize coded (lowOf id) (cvOf id true) n l = X at *
    clear hx hfit g1
    go_enter Try.func24, Try.ntmps24
    go_wp2_with fail
    refine (HC.out _ (hB.below (hb _))).mono ?_
    rintro e w1 ⟨v, rfl, ho, hb1⟩
    go_wp2_with fail
    go_ret2
    exact ⟨v, rfl, own_down ho (hb _).size, (hb _).trans (hb1.mono (hb _).size)⟩

set_option maxHeartbeats 400000 in
theorem enc1_turn (k : Nat) (l : List Fil) (w : World) (_hl : l.length ≤ 20) (_hk : k < l.length) :
    Calls Try.prog 21 #[.int .i64 (k : Nat)] w fun e w' => e = .returned (.int .i64 (k : Nat)) ∧ w = w' := by
  go_enter Try.func21, Try.ntmps21
  go_wp2_with fail
  go_ret
  exact ⟨rfl, rfl⟩

set_option maxRecDepth 100000 in
set_option maxHeartbeats 1000000 in
theorem enc1_thr (w : World) (A0 : Option Addr) (l : List Fil) (c0 : Nat) (hF : Fils w A0 l) (hl : l.length ≤ 20) (hall : l.all fitB = true) (hmay : mayL l = true) (A : Option Addr) (b : List UInt8) (c : Nat) (hB : Bytes w A b) (hm : b.length ≤ 1000000) :
    Calls Try.prog 20 #[.slice A0 l.length c0, .slice A b.length c, .func (.func 21) #[] #[], .func (.func 22) #[] #[]] w (Gives w (sendL l b) 0) := by
  have HM := Lib.hid (mayL_any A0 l c0 w hF hl)
  rw [hmay] at HM
  have HE := Lib.hid (sTo_all l b)
  have HZ := Lib.hid (sTo_zero l b)
  have HL := Lib.hid (sTo_length l b)
  have HN := Lib.hid (sTo_succ l b)
  have HFA := Lib.hid (fun i h => fit_at l i h hall)
  generalize sendL l b = X at *
  generalize hS : sTo l b = S at *
  have hZ := HZ.out
  clear hS hmay hall
  go_enter Try.func20, Try.ntmps20
  go_wp2_with fail
  refine HM.out.mono ?_
  rintro e w1 ⟨rfl, hb⟩
  have hon : Own w.heap.size w1 (.slice none 0 0) [] := Own.nil _ _
  have hfit : ([] : List UInt8).length + b.length ≤ 140737488355328 := by simp; omega
  have hwb := hb.size
  go_wp2_with (at_builtin; refine wpList_append_bytes rfl (.const (.slice none 0 0)) (.tmp 17) rfl w.heap.size _ (.slice none 0 0) [] rfl hon A b c rfl (hB.below hb) hfit hwb ?_; intro v1 w2 ho1 hg1)
  have hb2 : Below w.heap.size w w2 := below_grown hb hg1 hwb (by simp [Value.ownBlock])
  rw [List.nil_append] at ho1
  clear hon hfit hwb hb hg1
  go_loopw [10, 21] (fun v i wr => ∃ k : Nat, k ≤ l.length ∧ i = .int .i64 k ∧ Own w.heap.size wr v (S k) ∧ Below w.heap.size w wr) (fun _ i _ => l.length - (intOf i).toNat)
  case atStart => exact ⟨0, by omega, rfl, by rw [hZ]; exact ho1, hb2⟩
  case round =>
    clear ho1 hb2 hZ
    obtain ⟨k, hk, rfl, hown, hb⟩ := hrel
    by_cases hlt : k < l.length
    · obtain ⟨g0, off, rfl, hbl, hat⟩ := (hF.below hb).addr (by omega)
      have hsl : k < l.length := by omega
      have hk1 := hat (k) hsl
      have hfi := HFA.out (k) hsl
      have hnx := HN.out k hlt
      have hlen := HL.out k
      obtain ⟨A1, c1, rfl, hc1, hm1, hB1⟩ := hown.read
      have HAP := Lib.hid (enc1_one (l[k]'hsl) hk1.ok hfi A1 (S k) c1 wr hB1 (by omega))
      have HT := Lib.hid (enc1_turn k l wr hl hlt)
      have h0 := hk1.c0
      have h1 := hk1.c1
      generalize l[k]'hsl = f at *
      obtain ⟨id, n⟩ := f
      rw [← hnx] at HAP
      have hlen2 := HL.out (k + 1)
      clear hat hk1 hfi hown hnx
      simp only [Fil.agg] at HAP
      simp only at h0 h1
      clear hsl hlen hlen2
      generalize hS1 : S (k + 1) = S1 at *
      have HS1 := Lib.hid hS1
      clear hS1
      generalize hSK : S k = S0 at *
      have HSK := Lib.hid hSK
      clear hSK
      go_wp2_with fail
      refine HT.out.mono ?_
      rintro e w' ⟨rfl, rfl⟩
      go_wp2_with fail
      refine HAP.out.mono ?_
      rintro e w3 ⟨v3, rfl, ho3, hb3⟩
      go_wp2_with fail
      go_roundw
      case rel => exact ⟨k + 1, by omega, by go_num, by rw [HS1.out]; exact own_down ho3 hb.size, hb.trans (hb3.mono hb.size)⟩
      case measure => simp [intOf]; omega
    · obtain rfl : k = l.length := by omega
      rw [HE.out] at hown
      go_wp2_with fail
      go_ret2
      exact ⟨_, rfl, hown, hb⟩

set_option maxHeartbeats 400000 in
theorem dec1_turn (g c0 : Nat) (A0 : Option Addr) (k : Nat) (l : List Fil) (w : World) (hl : l.length ≤ 20) (hk : k < l.length) (hcap : w.cell? ⟨g, 0, none⟩ = some (.slice A0 l.length c0)) (_hgl : g < w.heap.size) :
    Calls Try.prog 23 #[.int .i64 (k : Nat), .pointer (some ⟨g, 0, none⟩)] w fun e w' => e = .returned (.int .i64 (l.length - 1 - k : Nat)) ∧ w = w' := by
  have hba := back_at l.length k hk
  go_enter Try.func23, Try.ntmps23
  go_wp2_with fail
  go_ret
  exact ⟨rfl, rfl⟩

set_option maxRecDepth 100000 in
set_option maxHeartbeats 1000000 in
theorem dec1_thr (w : World) (g c0 : Nat) (A0 : Option Addr) (l : List Fil) (hF : Fils w A0 l) (hl : l.length ≤ 20) (hall : l.all fitB = true) (hmay : mayL l = true) (A : Option Addr) (b : List UInt8) (c : Nat) (hB : Bytes w A b) (hm : b.length ≤ 1000000) (hcap : w.cell? ⟨g, 0, none⟩ = some (.slice A0 l.length c0)) (hgl : g < w.heap.size) :
    Calls Try.prog 20 #[.slice A0 l.length c0, .slice A b.length c, .func (.func 23) #[] #[.pointer (some ⟨g, 0, none⟩)], .func (.func 24) #[] #[]] w (Gives w (backL l b) 0) := by
  have HM := Lib.hid (mayL_any A0 l c0 w hF hl)
  rw [hmay] at HM
  have HE := Lib.hid (bTo_all l b)
  have HZ := Lib.hid (bTo_zero l b)
  have HL := Lib.hid (bTo_length l b)
  have HN := Lib.hid (bTo_succ l b)
  have HFA := Lib.hid (fun i h => fit_at l i h hall)
  generalize backL l b = X at *
  generalize hS : bTo l b = S at *
  have hZ := HZ.out
  clear hS hmay hall
  go_enter Try.func20, Try.ntmps20
  go_wp2_with fail
  refine HM.out.mono ?_
  rintro e w1 ⟨rfl, hb⟩
  have hon : Own w.heap.size w1 (.slice none 0 0) [] := Own.nil _ _
  have hfit : ([] : List UInt8).length + b.length ≤ 140737488355328 := by simp; omega
  have hwb := hb.size
  go_wp2_with (at_builtin; refine wpList_append_bytes rfl (.const (.slice none 0 0)) (.tmp 17) rfl w.heap.size _ (.slice none 0 0) [] rfl hon A b c rfl (hB.below hb) hfit hwb ?_; intro v1 w2 ho1 hg1)
  have hb2 : Below w.heap.size w w2 := below_grown hb hg1 hwb (by simp [Value.ownBlock])
  rw [List.nil_append] at ho1
  clear hon hfit hwb hb hg1
  go_loopw [10, 21] (fun v i wr => ∃ k : Nat, k ≤ l.length ∧ i = .int .i64 k ∧ Own w.heap.size wr v (S k) ∧ Below w.heap.size w wr) (fun _ i _ => l.length - (intOf i).toNat)
  case atStart => exact ⟨0, by omega, rfl, by rw [hZ]; exact ho1, hb2⟩
  case round =>
    clear ho1 hb2 hZ
    obtain ⟨k, hk, rfl, hown, hb⟩ := hrel
    by_cases hlt : k < l.length
    · have hcapr := (hb.cell (p := ⟨g, 0, none⟩) hgl).trans hcap
      have hgr : g < wr.heap.size := Nat.lt_of_lt_of_le hgl hb.size
      obtain ⟨g0, off, rfl, hbl, hat⟩ := (hF.below hb).addr (by omega)
      have hsl : l.length - 1 - k < l.length := by omega
      have hk1 := hat (l.length - 1 - k) hsl
      have hfi := HFA.out (l.length - 1 - k) hsl
      have hnx := HN.out k hlt
      have hlen := HL.out k
      obtain ⟨A1, c1, rfl, hc1, hm1, hB1⟩ := hown.read
      have HAP := Lib.hid (dec1_one (l[l.length - 1 - k]'hsl) hk1.ok hfi A1 (S k) c1 wr hB1 (by omega))
      have HT := Lib.hid (dec1_turn g c0 _ k l wr hl hlt hcapr hgr)
      have h0 := hk1.c0
      have h1 := hk1.c1
      generalize l[l.length - 1 - k]'hsl = f at *
      obtain ⟨id, n⟩ := f
      rw [← hnx] at HAP
      have hlen2 := HL.out (k + 1)
      clear hat hk1 hfi hown hnx
      simp only [Fil.agg] at HAP
      simp only at h0 h1
      have hsi : ((l.length - 1 - k : Nat) : Int) < (l.length : Int) := by omega
      generalize hsg : l.length - 1 - k = sg at *
      have HSG := Lib.hid hsg
      clear hsg
      clear hsl hlen hlen2
      generalize hS1 : S (k + 1) = S1 at *
      have HS1 := Lib.hid hS1
      clear hS1
      generalize hSK : S k = S0 at *
      have HSK := Lib.hid hSK
      clear hSK
      go_wp2_with fail
      refine HT.out.mono ?_
      rintro e w' ⟨rfl, rfl⟩
      go_wp2_with fail
      refine HAP.out.mono ?_
      rintro e w3 ⟨v3, rfl, ho3, hb3⟩
      go_wp2_with fail
      go_roundw
      case rel => exact ⟨k + 1, by omega, by go_num, by rw [HS1.out]; exact own_down ho3 hb.size, hb.trans (hb3.mono hb.size)⟩
      case measure => simp [intOf]; omega
    · obtain rfl : k = l.length := by omega
      rw [HE.out] at hown
      go_wp2_with fail
      go_ret2
      exact ⟨_, rfl, hown, hb⟩

set_option maxHeartbeats 400000 in
theorem chsend_any (A0 : Option Addr) (l : List Fil) (c0 : Nat) (w : World) (hF : Fils w A0 l) (hl : l.length ≤ 20) (hall : l.all fitB = true) (hmay : mayL l = true) (A : Option Addr) (b : List UInt8) (c : Nat) (hB : Bytes w A b) (hm : b.length ≤ 1000000) :
    Calls Try.prog 6 #[.slice A0 l.length c0, .slice A b.length c] w (Gives w (sendL l b) 0) := by
  have HT := Lib.hid (enc1_thr w A0 l c0 hF hl hall hmay A b c hB hm)
  clear hall hmay
  generalize sendL l b = X at *
  go_enter Try.func6, Try.ntmps6
  go_wp2_with fail
  refine HT.out.mono ?_
  rintro e w1 ⟨v, rfl, ho, hb⟩
  go_wp2_with fail
  go_ret2
  exact ⟨v, rfl, ho, hb⟩
set_option maxHeartbeats 400000 in
theorem chback_any (A0 : Option Addr) (l : List Fil) (c0 : Nat) (w : World) (hF : Fils w A0 l) (hl : l.length ≤ 20) (hall : l.all fitB = true) (hmay : mayL l = true) (A : Option Addr) (b : List UInt8) (c : Nat) (hB : Bytes w A b) (hm : b.length ≤ 1000000) :
    Calls Try.prog 7 #[.slice A0 l.length c0, .slice A b.length c] w (Gives w (backL l b) 0) := by
  have hb0 := below_box w (.cells #[.slice A0 l.length c0] 22)
  have HT := Lib.hid (dec1_thr (w.alloc (.cells #[.slice A0 l.length c0] 22)) w.heap.size c0 A0 l (hF.below hb0) hl hall hmay A b c (hB.below hb0) hm (by rw [cell_of_row _ _ _ _ _ _ (heap_alloc_last _ _)]; rfl) (by simp))
  clear hall hmay
  generalize backL l b = X at *
  go_enter Try.func7, Try.ntmps7
  go_wp2_with fail
  refine HT.out.mono ?_
  rintro e w1 ⟨v, rfl, ho, hb⟩
  go_wp2_with fail
  go_ret2
  exact ⟨v, rfl, own_down ho hb0.size, hb0.trans (hb.mono hb0.size)⟩

set_option maxHeartbeats 400000 in
theorem send_thr_no (A0 : Option Addr) (l : List Fil) (c0 : Nat) (w : World) (hF : Fils w A0 l) (hl : l.length ≤ 20) (hmay : mayL l = false) (A : Option Addr) (n c : Nat) :
    Calls Try.prog 20 #[.slice A0 l.length c0, .slice A n c, .func (.func 21) #[] #[], .func (.func 22) #[] #[]] w fun e w' => e = .returned (.tuple #[.slice none 0 0, .int .i64 1]) ∧ Below w.heap.size w w' := by
  have HM := Lib.hid (mayL_any A0 l c0 w hF hl)
  rw [hmay] at HM
  clear hmay
  go_enter Try.func20, Try.ntmps20
  go_wp2_with fail
  refine HM.out.mono ?_
  rintro e w1 ⟨rfl, hb⟩
  go_wp2_with fail
  go_ret2
  exact ⟨rfl, hb⟩

set_option maxHeartbeats 400000 in
theorem back_thr_no (g : Nat) (A0 : Option Addr) (l : List Fil) (c0 : Nat) (w : World) (hF : Fils w A0 l) (hl : l.length ≤ 20) (hmay : mayL l = false) (A : Option Addr) (n c : Nat) :
    Calls Try.prog 20 #[.slice A0 l.length c0, .slice A n c, .func (.func 23) #[] #[.pointer (some ⟨g, 0, none⟩)], .func (.func 24) #[] #[]] w fun e w' => e = .returned (.tuple #[.slice none 0 0, .int .i64 1]) ∧ Below w.heap.size w w' := by
  have HM := Lib.hid (mayL_any A0 l c0 w hF hl)
  rw [hmay] at HM
  clear hmay
  go_enter Try.func20, Try.ntmps20
  go_wp2_with fail
  refine HM.out.mono ?_
  rintro e w1 ⟨rfl, hb⟩
  go_wp2_with fail
  go_ret2
  exact ⟨rfl, hb⟩

set_option maxHeartbeats 400000 in
theorem chsend_no (A0 : Option Addr) (l : List Fil) (c0 : Nat) (w : World) (hF : Fils w A0 l) (hl : l.length ≤ 20) (hmay : mayL l = false) (A : Option Addr) (n c : Nat) :
    Calls Try.prog 6 #[.slice A0 l.length c0, .slice A n c] w fun e w' => e = .returned (.tuple #[.slice none 0 0, .int .i64 1]) ∧ Below w.heap.size w w' := by
  have HT := Lib.hid (send_thr_no A0 l c0 w hF hl hmay A n c)
  clear hmay
  go_enter Try.func6, Try.ntmps6
  go_wp2_with fail
  refine HT.out.mono ?_
  rintro e w1 ⟨rfl, hb⟩
  go_wp2_with fail
  go_ret2
  exact ⟨rfl, hb⟩
set_option maxHeartbeats 400000 in
theorem chback_no (A0 : Option Addr) (l : List Fil) (c0 : Nat) (w : World) (hF : Fils w A0 l) (hl : l.length ≤ 20) (hmay : mayL l = false) (A : Option Addr) (n c : Nat) :
    Calls Try.prog 7 #[.slice A0 l.length c0, .slice A n c] w fun e w' => e = .returned (.tuple #[.slice none 0 0, .int .i64 1]) ∧ Below w.heap.size w w' := by
  have hb0 := below_box w (.cells #[.slice A0 l.length c0] 22)
  have HT := Lib.hid (back_thr_no w.heap.size A0 l c0 (w.alloc (.cells #[.slice A0 l.length c0] 22)) (hF.below hb0) hl hmay A n c)
  clear hmay
  go_enter Try.func7, Try.ntmps7
  go_wp2_with fail
  refine HT.out.mono ?_
  rintro e w1 ⟨rfl, hb⟩
  go_wp2_with fail
  go_ret2
  exact ⟨rfl, hb0.trans (hb.mono hb0.size)⟩
end Go.Proofs.Ytflklbnebljnmaa
