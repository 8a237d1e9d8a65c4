/-
  Texts of this claim: Trip.
-/
import Derived.Test.YtigdmebijbaofaaGreatDoorCmdAM4
import Derived.Test.YtigdmebijbaofaaGreatDoorCmdAM17

/-! ### Trip -/

namespace Go.Proofs.YtigdmebijbaofaaGreatDoor.Trip
open Go Go.Proofs.YtigdmebijbaofaaGreatDoor

structure Rest (s : ByteArray) (i : Nat) (l : List UInt8) : Prop where
 le : i ≤ s.size
 eq : s.data.toList.drop i = l
theorem Rest.len {s : ByteArray} {i : Nat} {l : List UInt8} (h : Rest s i l) : i + l.length = s.size := by
 have e : (s.data.toList.drop i).length = s.size - i := by rw [List.length_drop, Array.length_toList]; rfl
 rw [h.eq] at e
 have := h.le
 omega
theorem Rest.step {s : ByteArray} {i : Nat} {a l : List UInt8} (h : Rest s i (a ++ l)) : Rest s (i + a.length) l := by
 have e := h.len
 rw [List.length_append] at e
 exact ⟨by omega, by rw [← List.drop_drop, h.eq, List.drop_left]⟩
theorem Rest.tail {s : ByteArray} {i : Nat} {c : UInt8} {l : List UInt8} (h : Rest s i (c :: l)) : Rest s (i + 1) l := h.step (a := [c])
theorem Rest.byte {s : ByteArray} {i : Nat} {c : UInt8} {l : List UInt8} (h : Rest s i (c :: l)) : ch s i = c.toNat := by
 unfold ch
 have e : s.data[i]? = some c := by
  rw [← Array.getElem?_toList, show i = i + 0 from rfl, ← List.getElem?_drop, h.eq]
  rfl
 rw [e]
 rfl
theorem Rest.lt {s : ByteArray} {i : Nat} {c : UInt8} {l : List UInt8} (h : Rest s i (c :: l)) : i < s.size := by
 have := h.len
 simp at this
 omega
theorem Rest.has {s : ByteArray} {i : Nat} {l : List UInt8} (h : Rest s i l) (x : List UInt8) : pfx s i x = x.isPrefixOf l := by
 unfold pfx
 rw [h.eq]
theorem Rest.of (l : List UInt8) : Rest (bs l) 0 l := ⟨Nat.zero_le _, by simp [bs]⟩

def sgQ (ere : Bool) : List UInt8 → Nat × Nat × Nat
 | [] => (0, 0, 0)
 | d :: _ => qs d.toNat ere
def sgL (ere : Bool) : List UInt8 → Nat × Nat × Nat
 | [] => (1, 0, 0)
 | c :: l => if c.toNat = 92 then sgQ ere l else (bare c.toNat ere, c.toNat, 1)
theorem sgL_cons (ere : Bool) (c : UInt8) (l : List UInt8) : sgL ere (c :: l) = if c.toNat = 92 then sgQ ere l else (bare c.toNat ere, c.toNat, 1) := rfl
theorem Rest.sign {s : ByteArray} {i : Nat} {l : List UInt8} (h : Rest s i l) (ere : Bool) : sgn s ere i = sgL ere l := by
 unfold sgn
 cases l with
 | nil =>
  have := h.len
  simp at this
  rw [if_pos this]
  rfl
 | cons c l =>
  rw [if_neg (by have := h.lt; omega), h.byte]
  rw [sgL_cons]
  by_cases h92 : c.toNat = 92
  ·
   rw [if_pos h92, if_pos h92]
   unfold quoted
   have hz : (s.extract (i + 1) s.size).size = l.length := by
    have := h.len
    simp at this
    rw [ByteArray.size_extract]
    omega
   cases l with
   | nil => rw [if_pos (show _ = 0 from hz)]; rfl
   | cons d l =>
    rw [if_neg (by rw [hz]; simp)]
    have e : ch (s.extract (i + 1) s.size) 0 = d.toNat := by
     have h' := h.tail
     have := h'.lt
     unfold ch
     have e1 : (s.extract (i + 1) s.size).data[0]? = s.data[i + 1]? := by
      rw [ByteArray.data_extract, Array.getElem?_extract]
      simp
      omega
     rw [e1]
     exact h'.byte
    rw [e]
    rfl
  ·
   rw [if_neg h92, if_neg h92]

def okT : List UInt8 → Prop
 | [] => True
 | [_] => True
 | x :: y :: b => ¬(x.toNat = 91 ∧ y.toNat = 58) ∧ y.toNat ≠ 93 ∧ (y.toNat = 45 → b = []) ∧ okT (y :: b)
theorem beq_nat (a b : UInt8) : (a == b) = (a.toNat == b.toNat) := by
 rw [Bool.eq_iff_iff]
 simp [UInt8.toNat_inj]
theorem pIn_ok {s : ByteArray} {i : Nat} {x y : UInt8} {m : List UInt8} (h : Rest s i (x :: y :: m)) (h1 : ¬(x.toNat = 91 ∧ y.toNat = 58)) (h2 : y.toNat = 45 → ∃ z m', m = z :: m' ∧ z.toNat = 93) :
  pIn s i = (some (addB (fun _ => false) x.toNat), i + 1) := by
 unfold pIn
 have hp : pfx s i [91, 58] = false := by
  rw [h.has]
  show ((91 : UInt8) == x && ((58 : UInt8) == y && true)) = false
  rw [beq_nat, beq_nat]
  cases e1 : ((91 : UInt8).toNat == x.toNat) <;> cases e2 : ((58 : UInt8).toNat == y.toNat) <;> simp
  simp at e1 e2
  exact h1 ⟨e1.symm, e2.symm⟩
 have hd : dash s (i + 1) = false := by
  unfold dash
  rw [h.tail.byte]
  by_cases h45 : y.toNat = 45
  ·
   obtain ⟨z, m', rfl, hz⟩ := h2 h45
   rw [h.tail.tail.byte, hz]
   simp
  ·
   rw [show (y.toNat == 45) = false by simp [h45]]
   simp
 rw [if_neg (by have := h.lt; omega), hp, hd, h.byte]
 rfl
def orP (p : Nat → Bool) (R : List UInt8) : Nat → Bool := R.foldl (fun p x => orB p (addB (fun _ => false) x.toNat)) p
theorem orP_at (R : List UInt8) : ∀ (p : Nat → Bool) (k : Nat), orP p R k = (p k || R.any (fun x => x.toNat == k)) := by
 induction R with
 | nil => intro p k; simp [orP]
 | cons x R ih =>
  intro p k
  show orP (orB p (addB (fun _ => false) x.toNat)) R k = _
  rw [ih]
  unfold orB addB
  rw [List.any_cons, Bool.eq_iff_iff]
  simp
  constructor
  ·
   rintro ((h | h) | h)
   ·
    exact Or.inl h
   ·
    exact Or.inr (Or.inl h.symm)
   ·
    exact Or.inr (Or.inr h)
  ·
   rintro (h | h | h)
   ·
    exact Or.inl (Or.inl h)
   ·
    exact Or.inl (Or.inr h.symm)
   ·
    exact Or.inr h
theorem has93 {s : ByteArray} {i : Nat} {x : UInt8} {l : List UInt8} (h : Rest s i (x :: l)) : pfx s i [93] = (x.toNat == 93) := by
 rw [h.has]
 show ((93 : UInt8) == x && true) = _
 rw [beq_nat, Bool.and_true, Bool.eq_iff_iff]
 simp
 exact eq_comm
theorem pBrL_ok {s : ByteArray} {l : List UInt8} : ∀ (R : List UInt8) (f : Nat) (p : Nat → Bool) (i : Nat), okT R → (∀ x y, R = x :: y → x.toNat ≠ 93) → Rest s i (R ++ 93 :: l) → R.length < f →
  pBrL s f p i = (some (orP p R), i + R.length + 1) := by
 intro R
 induction R with
 | nil =>
  intro f p i _ _ h hf
  obtain ⟨f, rfl⟩ : ∃ k, f = k + 1 := ⟨f - 1, by simp at hf; omega⟩
  unfold pBrL
  rw [has93 (x := 93) h]
  rfl
 | cons x R ih =>
  intro f p i hk hx h hf
  obtain ⟨f, rfl⟩ : ∃ k, f = k + 1 := ⟨f - 1, by simp at hf; omega⟩
  have hx' := hx x R rfl
  have h0 : Rest s i (x :: (R ++ 93 :: l)) := h
  unfold pBrL
  rw [has93 h0, show (x.toNat == 93) = false by simp [hx']]
  have e : pIn s i = (some (addB (fun _ => false) x.toNat), i + 1) := by
   cases R with
   | nil => exact pIn_ok (y := 93) h0 (by rintro ⟨_, h⟩; exact absurd h (by decide)) (fun h => absurd h (by decide))
   | cons y b =>
    obtain ⟨q1, q2, q3, q4⟩ := hk
    exact pIn_ok (y := y) h0 q1 (fun h => by rw [q3 h]; exact ⟨93, l, rfl, rfl⟩)
  rw [e]
  show pBrL s f (orB p (addB (fun _ => false) x.toNat)) (i + 1) = _
  have hk' : okT R := by
   cases R with
   | nil => trivial
   | cons y b => exact hk.2.2.2
  have hx2 : ∀ a b, R = a :: b → a.toNat ≠ 93 := by
   rintro a b rfl
   exact hk.2.1
  rw [ih f _ (i + 1) hk' hx2 h0.tail (by simp at hf; omega)]
  rw [List.length_cons, show i + 1 + R.length + 1 = i + (R.length + 1) + 1 by omega]
  rfl
theorem pBr_ok {s : ByteArray} {l : List UInt8} (R : List UInt8) (i : Nat) (hk : okT R) (hne : R ≠ []) (h : Rest s i (R ++ 93 :: l)) :
  ∃ q : Nat → Bool, (∀ k, q k = R.any (fun x => x.toNat == k)) ∧ pBr s i = (some q, i + R.length + 1) := by
 cases R with
 | nil => exact absurd rfl hne
 | cons x R =>
  have h0 : Rest s i (x :: (R ++ 93 :: l)) := h
  have e : pIn s i = (some (addB (fun _ => false) x.toNat), i + 1) := by
   cases R with
   | nil => exact pIn_ok (y := 93) h0 (by rintro ⟨_, h⟩; exact absurd h (by decide)) (fun h => absurd h (by decide))
   | cons y b =>
    obtain ⟨q1, q2, q3, q4⟩ := hk
    exact pIn_ok (y := y) h0 q1 (fun h => by rw [q3 h]; exact ⟨93, l, rfl, rfl⟩)
  have hk' : okT R := by
   cases R with
   | nil => trivial
   | cons y b => exact hk.2.2.2
  have hx2 : ∀ a b, R = a :: b → a.toNat ≠ 93 := by
   rintro a b rfl
   exact hk.2.1
  refine ⟨orP (addB (fun _ => false) x.toNat) R, fun k => ?_, ?_⟩
  ·
   rw [orP_at]
   unfold addB
   rw [List.any_cons, Bool.false_or, Bool.eq_iff_iff]
   simp
   rw [eq_comm]
  ·
   unfold pBr
   rw [e]
   show pBrL s (s.size + 1) _ (i + 1) = _
   rw [pBrL_ok R _ _ (i + 1) hk' hx2 h0.tail (by have := h0.len; simp at this; omega)]
   rw [List.length_cons, show i + 1 + R.length + 1 = i + (R.length + 1) + 1 by omega]

def Q (x y : Nat) : Prop := ¬(x = 91 ∧ y = 58) ∧ y ≠ 93 ∧ x ≠ 45
theorem okT_of (N : List Nat) (hN : ∀ x ∈ N, x < 256) (h : N.Pairwise Q) : okT (u8s N) := by
 induction N with
 | nil => trivial
 | cons x N ih =>
  have ih' := ih (fun y hy => hN y (List.mem_cons_of_mem _ hy)) (List.Pairwise.of_cons h)
  cases N with
  | nil => trivial
  | cons y b =>
   have hx : (UInt8.ofNat x).toNat = x := by have := hN x (by simp); rw [UInt8.toNat_ofNat']; omega
   have hy : (UInt8.ofNat y).toNat = y := by have := hN y (by simp); rw [UInt8.toNat_ofNat']; omega
   have q := List.rel_of_pairwise_cons h (List.mem_cons_self (a := y) (l := b))
   refine ⟨?_, ?_, ?_, ih'⟩
   ·
    rw [hx, hy]; exact q.1
   ·
    rw [hy]; exact q.2.1
   ·
    rw [hy]
    intro h45
    cases b with
    | nil => rfl
    | cons z b =>
     have q' := List.rel_of_pairwise_cons (List.Pairwise.of_cons h) (List.mem_cons_self (a := z) (l := b))
     exact absurd h45 q'.2.2
def rowN (p : Nat → Bool) : List Nat := (lst p 256).filter (· == 93) ++ (lst p 256).filter mid ++ (lst p 256).filter (· == 94) ++ (lst p 256).filter (· == 45)
theorem rowT_eq (p : Nat → Bool) : rowT p = u8s (rowN p) := by
 unfold rowT rowN u8s
 simp only [List.map_append]
theorem mem_lst (p : Nat → Bool) (k : Nat) : k ∈ lst p 256 ↔ k < 256 ∧ p k = true := by
 unfold lst
 rw [List.mem_filter, List.mem_range]
theorem mem_rowN (p : Nat → Bool) (k : Nat) : k ∈ rowN p ↔ k < 256 ∧ p k = true := by
 unfold rowN
 simp only [List.mem_append, List.mem_filter, mem_lst]
 constructor
 ·
  rintro (((⟨h, _⟩ | ⟨h, _⟩) | ⟨h, _⟩) | ⟨h, _⟩) <;> exact h
 ·
  intro h
  by_cases a : k = 93
  ·
   exact Or.inl (Or.inl (Or.inl ⟨h, by simp [a]⟩))
  by_cases b : k = 94
  ·
   exact Or.inl (Or.inr ⟨h, by simp [b]⟩)
  by_cases c : k = 45
  ·
   exact Or.inr ⟨h, by simp [c]⟩
  exact Or.inl (Or.inl (Or.inr ⟨h, by unfold mid; simp [a, b, c]⟩))
theorem lst_sorted (p : Nat → Bool) : (lst p 256).Pairwise (· < ·) := List.Pairwise.filter _ List.pairwise_lt_range
theorem one_sorted (p : Nat → Bool) (c : Nat) (S : Nat → Nat → Prop) : ((lst p 256).filter (· == c)).Pairwise S :=
 List.Pairwise.imp_of_mem (fun {a b} ha hb hab => by
  have h1 := (List.mem_filter.1 ha).2
  have h2 := (List.mem_filter.1 hb).2
  simp at h1 h2
  omega) ((lst_sorted p).filter _)
theorem rowN_sorted (p : Nat → Bool) : (rowN p).Pairwise Q := by
 unfold rowN
 rw [List.pairwise_append, List.pairwise_append, List.pairwise_append]
 refine ⟨⟨⟨one_sorted p 93 Q, ?_, ?_⟩, one_sorted p 94 Q, ?_⟩, one_sorted p 45 Q, ?_⟩
 ·
  refine List.Pairwise.imp_of_mem (fun {a b} ha hb hab => ?_) ((lst_sorted p).filter _)
  have h1 := (List.mem_filter.1 ha).2
  have h2 := (List.mem_filter.1 hb).2
  unfold mid at h1 h2
  simp at h1 h2
  exact ⟨by omega, by omega, by omega⟩
 ·
  intro a ha b hb
  have h1 := (List.mem_filter.1 ha).2
  have h2 := (List.mem_filter.1 hb).2
  unfold mid at h2
  simp at h1 h2
  exact ⟨by omega, by omega, by omega⟩
 ·
  intro a ha b hb
  have h2 := (List.mem_filter.1 hb).2
  simp at h2
  rcases List.mem_append.1 ha with ha | ha
  ·
   have h1 := (List.mem_filter.1 ha).2
   simp at h1
   exact ⟨by omega, by omega, by omega⟩
  ·
   have h1 := (List.mem_filter.1 ha).2
   unfold mid at h1
   simp at h1
   exact ⟨by omega, by omega, by omega⟩
 ·
  intro a ha b hb
  have h2 := (List.mem_filter.1 hb).2
  simp at h2
  rcases List.mem_append.1 ha with ha | ha
  ·
   rcases List.mem_append.1 ha with ha | ha
   ·
    have h1 := (List.mem_filter.1 ha).2
    simp at h1
    exact ⟨by omega, by omega, by omega⟩
   ·
    have h1 := (List.mem_filter.1 ha).2
    unfold mid at h1
    simp at h1
    exact ⟨by omega, by omega, by omega⟩
  ·
   have h1 := (List.mem_filter.1 ha).2
   simp at h1
   exact ⟨by omega, by omega, by omega⟩
theorem rowT_ok (p : Nat → Bool) : okT (rowT p) := by
 rw [rowT_eq]
 exact okT_of _ (fun x hx => ((mem_rowN p x).1 hx).1) (rowN_sorted p)
theorem rowT_any (p : Nat → Bool) (k : Nat) (hk : k < 256) : (rowT p).any (fun x => x.toNat == k) = p k := by
 rw [rowT_eq, Bool.eq_iff_iff, List.any_eq_true]
 unfold u8s
 constructor
 ·
  rintro ⟨x, hx, he⟩
  obtain ⟨n, hn, rfl⟩ := List.mem_map.1 hx
  have := (mem_rowN p n).1 hn
  rw [UInt8.toNat_ofNat'] at he
  simp at he
  rw [← he, Nat.mod_eq_of_lt this.1]
  exact this.2
 ·
  intro hp
  refine ⟨UInt8.ofNat k, List.mem_map.2 ⟨k, (mem_rowN p k).2 ⟨hk, hp⟩, rfl⟩, ?_⟩
  rw [UInt8.toNat_ofNat']
  simp
  omega
theorem cnt_zero (p : Nat → Bool) (h : ∀ k, k < 256 → p k = false) : cnt p 256 = 0 := by
 rw [← lst_length, List.length_eq_zero_iff]
 unfold lst
 rw [List.filter_eq_nil_iff]
 intro a ha
 rw [h a (List.mem_range.1 ha)]
 simp
theorem cnt_congr (p q : Nat → Bool) (h : ∀ k, k < 256 → p k = q k) : cnt p 256 = cnt q 256 := by
 unfold cnt
 exact sm_congr _ _ _ (fun j hj => by rw [h j hj])
theorem rowT_ne (p : Nat → Bool) (h : cnt p 256 ≠ 0) : rowT p ≠ [] := by
 intro e
 refine h (cnt_zero p (fun k hk => ?_))
 rw [← rowT_any p k hk, e]
 rfl
theorem rowT_head (p : Nat → Bool) (x : UInt8) (R : List UInt8) (h : rowT p = x :: R) (hx : x.toNat = 94) : cnt p 256 = 1 ∨ rowT p = [94, 45] := by
 have hN : ∃ R', rowN p = 94 :: R' := by
  rw [rowT_eq] at h
  cases e : rowN p with
  | nil => rw [e] at h; cases h
  | cons a R' =>
   rw [e] at h
   have ha : a < 256 := ((mem_rowN p a).1 (by rw [e]; simp)).1
   injection h with h1 _
   rw [← h1, UInt8.toNat_ofNat'] at hx
   exact ⟨R', by rw [show a = 94 by omega]⟩
 obtain ⟨R', e⟩ := hN
 have hall : ∀ k, k ∈ lst p 256 → k = 94 ∨ k = 45 := by
  intro k hk
  have e' := e
  unfold rowN at e'
  have hA : (lst p 256).filter (· == 93) = [] := by
   cases h1 : (lst p 256).filter (· == 93) with
   | nil => rfl
   | cons a t =>
    rw [h1] at e'
    injection e' with e1 _
    have : a ∈ (lst p 256).filter (· == 93) := by rw [h1]; simp
    have := (List.mem_filter.1 this).2
    simp at this
    omega
  have hM : (lst p 256).filter mid = [] := by
   rw [hA] at e'
   cases h1 : (lst p 256).filter mid with
   | nil => rfl
   | cons a t =>
    rw [h1] at e'
    injection e' with e1 _
    have : a ∈ (lst p 256).filter mid := by rw [h1]; simp
    have := (List.mem_filter.1 this).2
    unfold mid at this
    simp at this
    omega
  have n1 : ¬ (k == 93) = true := fun h => by
   have : k ∈ (lst p 256).filter (· == 93) := List.mem_filter.2 ⟨hk, h⟩
   rw [hA] at this
   cases this
  have n2 : ¬ mid k = true := fun h => by
   have : k ∈ (lst p 256).filter mid := List.mem_filter.2 ⟨hk, h⟩
   rw [hM] at this
   cases this
  unfold mid at n2
  simp at n1 n2
  omega
 have h94 : 94 ∈ lst p 256 := by rw [mem_lst]; exact (mem_rowN p 94).1 (by rw [e]; simp)
 by_cases h45 : 45 ∈ lst p 256
 ·
  right
  have p94 := ((mem_lst p 94).1 h94).2
  have p45 := ((mem_lst p 45).1 h45).2
  have hl : lst p 256 = [45, 94] := by
   have hc : lst p 256 = lst (fun k => k == 45 || k == 94) 256 := by
    unfold lst
    refine List.filter_congr (fun k hk => ?_)
    have hk := List.mem_range.1 hk
    rw [Bool.eq_iff_iff]
    constructor
    ·
     intro hp
     have := hall k ((mem_lst p k).2 ⟨hk, hp⟩)
     simp
     omega
    ·
     intro hq
     simp at hq
     rcases hq with rfl | rfl
     ·
      exact p45
     ·
      exact p94
   rw [hc]
   decide +kernel
  unfold rowT
  rw [hl]
  decide
 ·
  left
  have p94 := ((mem_lst p 94).1 h94).2
  have hc : lst p 256 = lst (fun k => k == 94) 256 := by
   unfold lst
   refine List.filter_congr (fun k hk => ?_)
   have hk := List.mem_range.1 hk
   rw [Bool.eq_iff_iff]
   constructor
   ·
    intro hp
    have hm := (mem_lst p k).2 ⟨hk, hp⟩
    have := hall k hm
    have n : k ≠ 45 := fun h => h45 (h ▸ hm)
    simp
    omega
   ·
    intro hq
    simp at hq
    rw [hq]
    exact p94
  rw [← lst_length, hc]
  decide +kernel

def byB (ere : Bool) (x : Nat) : Bool := if x = 10 then qs 110 ere == (2, 10, 2) else if spec ere x then qs x ere == (2, x, 2) else x != 92 && bare x ere == 2
theorem by_all : ((List.range 256).all fun x => byB true x && byB false x) = true := by decide +kernel
theorem by_at (ere : Bool) (x : Nat) (h : x < 256) : byB ere x = true := by
 have := List.all_eq_true.1 by_all x (List.mem_range.2 h)
 rw [Bool.and_eq_true] at this
 cases ere
 ·
  exact this.2
 ·
  exact this.1
theorem of8 (x : Nat) (h : x < 256) : (UInt8.ofNat x).toNat = x := by rw [UInt8.toNat_ofNat']; omega
theorem byte_sign (ere : Bool) (x : Nat) (hx : x < 256) (l : List UInt8) : sgL ere (byteT x ere ++ l) = (2, x, (byteT x ere).length) := by
 have h := by_at ere x hx
 unfold byB at h
 unfold byteT
 by_cases h10 : x = 10
 ·
  rw [if_pos h10] at h ⊢
  rw [h10]
  exact beq_iff_eq.1 h
 ·
  rw [if_neg h10] at h ⊢
  by_cases hs : spec ere x = true
  ·
   rw [if_pos hs] at h ⊢
   show sgL ere (92 :: UInt8.ofNat x :: l) = _
   rw [sgL_cons, if_pos (by decide)]
   show qs (UInt8.ofNat x).toNat ere = _
   rw [of8 x hx]
   exact beq_iff_eq.1 h
  ·
   rw [if_neg hs] at h ⊢
   simp at h
   show sgL ere (UInt8.ofNat x :: l) = _
   rw [sgL_cons, of8 x hx, if_neg h.1, h.2]
   rfl
theorem lst_one (p : Nat → Bool) (x : Nat) (h : lst p 256 = [x]) : x < 256 ∧ ∀ k, k < 256 → p k = (k == x) := by
 have hx : x ∈ lst p 256 := by rw [h]; simp
 have hx' := (mem_lst p x).1 hx
 refine ⟨hx'.1, fun k hk => ?_⟩
 rw [Bool.eq_iff_iff]
 constructor
 ·
  intro hp
  have := (mem_lst p k).2 ⟨hk, hp⟩
  rw [h] at this
  simpa using this
 ·
  intro he
  rw [beq_iff_eq.1 he]
  exact hx'.2
theorem bare46 (ere : Bool) : bare 46 ere = 3 := by cases ere <;> rfl
theorem bare91 (ere : Bool) : bare 91 ere = 4 := by cases ere <;> rfl
theorem set_ok {s : ByteArray} {i : Nat} {l : List UInt8} (p : Nat → Bool) (ere : Bool) (h : Rest s i (setT p ere ++ l)) (hc : cnt p 256 ≠ 0) :
  ∃ q : Nat → Bool, (∀ k, k < 256 → q k = p k) ∧ ((sgL ere (setT p ere ++ l)).1 = 2 ∨ (sgL ere (setT p ere ++ l)).1 = 3 ∨ (sgL ere (setT p ere ++ l)).1 = 4) ∧
   ∀ (c : St → Out) (n g d : Nat), pOne c s ere (sgL ere (setT p ere ++ l)).1 (sgL ere (setT p ere ++ l)).2.1 (sgL ere (setT p ere ++ l)).2.2 ⟨i, n, g, d⟩ = ⟨rset q, 0, ⟨i + (setT p ere).length, n + 1, g, d⟩⟩ := by
 by_cases h1 : cnt p 256 = 1
 ·
  obtain ⟨x, hx⟩ : ∃ x, lst p 256 = [x] := List.length_eq_one_iff.1 (by rw [lst_length]; exact h1)
  obtain ⟨hlt, hp⟩ := lst_one p x hx
  rw [setT_one p ere x hx, byte_sign ere x hlt]
  refine ⟨addB (fun _ => false) x, fun k hk => ?_, Or.inl rfl, fun c n g d => rfl⟩
  rw [hp k hk]
  unfold addB
  rw [Bool.false_or]
 have e0 := setT_many p ere h1
 by_cases hn : cnt (notB p) 256 = 0
 ·
  rw [if_pos hn] at e0
  rw [e0] at h ⊢
  have es : sgL ere ([46] ++ l) = (3, 46, 1) := by
   show sgL ere (46 :: l) = _
   rw [sgL_cons, if_neg (by decide)]
   show (bare 46 ere, 46, 1) = _
   rw [bare46]
  rw [es]
  refine ⟨notB (fun _ => false), fun k hk => ?_, Or.inr (Or.inl rfl), fun c n g d => rfl⟩
  cases hp : p k with
  | true => rfl
  | false =>
   have hm : k ∈ lst (notB p) 256 := (mem_lst _ k).2 ⟨hk, by unfold notB; rw [hp]; rfl⟩
   rw [← lst_length, List.length_eq_zero_iff] at hn
   rw [hn] at hm
   cases hm
 rw [if_neg hn] at e0
 by_cases h128 : cnt p 256 > 128
 ·
  rw [if_pos h128] at e0
  rw [e0] at h ⊢
  have h' : Rest s i (91 :: 94 :: (rowT (notB p) ++ 93 :: l)) := by simpa using h
  have es : sgL ere ([91, 94] ++ rowT (notB p) ++ [93] ++ l) = (4, 91, 1) := by
   show sgL ere (91 :: _) = _
   rw [sgL_cons, if_neg (by decide)]
   show (bare 91 ere, 91, 1) = _
   rw [bare91]
  obtain ⟨q, hq, hb⟩ := pBr_ok (rowT (notB p)) (i + 2) (rowT_ok _) (rowT_ne _ hn) h'.tail.tail
  have ht : bTurn s i = true := by
   unfold bTurn
   rw [h'.tail.has]
   rfl
  have hqq : ∀ k, k < 256 → notB q k = p k := by
   intro k hk
   unfold notB
   rw [hq k, rowT_any _ k hk]
   unfold notB
   simp
  rw [es]
  refine ⟨notB q, hqq, Or.inr (Or.inr rfl), fun c n g d => ?_⟩
  show pBracket s ⟨i, n, g, d⟩ = _
  unfold pBracket
  show (match pBr s (bFrom s i) with | (none, j) => _ | (some p, j) => _) = _
  rw [show bFrom s i = i + 2 by unfold bFrom; rw [ht]; rfl, hb]
  show (if cnt (if bTurn s i then notB q else q) 256 = 0 then _ else _) = _
  rw [ht]
  show (if cnt (notB q) 256 = 0 then _ else _) = _
  rw [if_neg (by rw [cnt_congr _ p hqq]; exact hc)]
  have el : (([91, 94] : List UInt8) ++ rowT (notB p) ++ [93]).length = (rowT (notB p)).length + 3 := by simp
  rw [el, show i + 2 + (rowT (notB p)).length + 1 = i + ((rowT (notB p)).length + 3) by omega]
  rfl
 rw [if_neg h128] at e0
 rw [e0] at h ⊢
 have h' : Rest s i (91 :: (setRow p ++ 93 :: l)) := by simpa using h
 have es : sgL ere ([91] ++ setRow p ++ [93] ++ l) = (4, 91, 1) := by
  show sgL ere (91 :: _) = _
  rw [sgL_cons, if_neg (by decide)]
  show (bare 91 ere, 91, 1) = _
  rw [bare91]
 have hrow : okT (setRow p) ∧ setRow p ≠ [] ∧ (∀ k, k < 256 → (setRow p).any (fun x => x.toNat == k) = p k) ∧ ∀ x R, setRow p = x :: R → x.toNat ≠ 94 := by
  by_cases hs : rowT p = [94, 45]
  ·
   have e : setRow p = [45, 94] := by unfold setRow; rw [if_pos hs]
   rw [e]
   refine ⟨⟨by decide, by decide, by decide, trivial⟩, by simp, fun k hk => ?_, ?_⟩
   ·
    rw [← rowT_any p k hk, hs]
    simp [Bool.or_comm]
   ·
    rintro x R h
    injection h with h _
    rw [← h]
    decide
  ·
   have e : setRow p = rowT p := by unfold setRow; rw [if_neg hs]
   rw [e]
   refine ⟨rowT_ok p, rowT_ne p hc, rowT_any p, ?_⟩
   intro x R hx h94
   rcases rowT_head p x R hx h94 with h | h
   ·
    exact h1 h
   ·
    exact hs h
 obtain ⟨r1, r2, r3, r4⟩ := hrow
 obtain ⟨q, hq, hb⟩ := pBr_ok (setRow p) (i + 1) r1 r2 h'.tail
 have ht : bTurn s i = false := by
  unfold bTurn
  rw [h'.tail.has]
  cases e : setRow p with
  | nil => exact absurd e r2
  | cons x R =>
   show ((94 : UInt8) == x && true) = false
   rw [beq_nat, Bool.and_true]
   have := r4 x R e
   simp
   exact fun h => this h.symm
 have hqq : ∀ k, k < 256 → q k = p k := fun k hk => by rw [hq k, r3 k hk]
 rw [es]
 refine ⟨q, hqq, Or.inr (Or.inr rfl), fun c n g d => ?_⟩
 show pBracket s ⟨i, n, g, d⟩ = _
 unfold pBracket
 show (match pBr s (bFrom s i) with | (none, j) => _ | (some p, j) => _) = _
 rw [show bFrom s i = i + 1 by unfold bFrom; rw [ht]; rfl, hb]
 show (if cnt (if bTurn s i then notB q else q) 256 = 0 then _ else _) = _
 rw [ht]
 show (if cnt q 256 = 0 then _ else _) = _
 rw [if_neg (by rw [cnt_congr _ p hqq]; exact hc)]
 have el : (([91] : List UInt8) ++ setRow p ++ [93]).length = (setRow p).length + 2 := by simp
 rw [el, show i + 1 + (setRow p).length + 1 = i + ((setRow p).length + 2) by omega]
 rfl
theorem w4_back (s : W4) (q : Nat → Bool) (h : s.a < 18446744073709551616 ∧ s.b < 18446744073709551616 ∧ s.c < 18446744073709551616 ∧ s.d < 18446744073709551616) (hq : ∀ k, k < 256 → q k = W4.bit s k) : W4.of q = s := by
 obtain ⟨a, b, c, d⟩ := s
 obtain ⟨ha, hb, hc, hd⟩ := h
 have e0 : wd q 0 = a := wd_back a ha _ 0 (fun j hj => by rw [hq _ (by omega)]; unfold W4.bit bitOf; rw [if_pos (by omega), show (64 * 0 + j) % 64 = j by omega])
 have e1 : wd q 1 = b := wd_back b hb _ 1 (fun j hj => by rw [hq _ (by omega)]; unfold W4.bit bitOf; rw [if_neg (by omega), if_pos (by omega), show (64 * 1 + j) % 64 = j by omega])
 have e2 : wd q 2 = c := wd_back c hc _ 2 (fun j hj => by rw [hq _ (by omega)]; unfold W4.bit bitOf; rw [if_neg (by omega), if_neg (by omega), if_pos (by omega), show (64 * 2 + j) % 64 = j by omega])
 have e3 : wd q 3 = d := wd_back d hd _ 3 (fun j hj => by rw [hq _ (by omega)]; unfold W4.bit bitOf; rw [if_neg (by omega), if_neg (by omega), if_neg (by omega), show (64 * 3 + j) % 64 = j by omega])
 show W4.mk _ _ _ _ = _
 rw [e0, e1, e2, e3]

/-! ### Intervals -/
theorem numL_step {s : ByteArray} {i : Nat} {x : UInt8} {l : List UInt8} (h : Rest s i (x :: l)) (hx : 48 ≤ x.toNat ∧ x.toNat ≤ 57) (f m : Nat) (ok : Bool) : pNumL s (f + 1) m ok i = pNumL s f (min (10 * m + (x.toNat - 48)) 21) true (i + 1) := by
 rw [pNumL, h.byte, if_pos]
 unfold rng
 simp [h.lt, hx.1, hx.2]
theorem numL_stop {s : ByteArray} {i : Nat} {x : UInt8} {l : List UInt8} (h : Rest s i (x :: l)) (hx : ¬(48 ≤ x.toNat ∧ x.toNat ≤ 57)) (f m : Nat) (ok : Bool) : pNumL s (f + 1) m ok i = (m, ok, i) := by
 rw [pNumL, h.byte, if_neg]
 unfold rng
 simp only [Bool.and_eq_true, decide_eq_true_eq]
 exact fun h => hx h.2
theorem dec_one (n : Nat) (h : n < 10) : dec n = [UInt8.ofNat (48 + n)] := by unfold dec; rw [Lib.decDigits, dif_pos h]
theorem dec_two (n : Nat) (h : 10 ≤ n) (h' : n < 100) : dec n = [UInt8.ofNat (48 + n / 10), UInt8.ofNat (48 + n % 10)] := by
 unfold dec
 rw [Lib.decDigits, dif_neg (by omega), Lib.decDigits, dif_pos (by omega)]
 rfl
theorem num_ok {s : ByteArray} {i : Nat} {x : UInt8} {l : List UInt8} (n : Nat) (hn : n ≤ 20) (h : Rest s i (dec n ++ x :: l)) (hx : ¬(48 ≤ x.toNat ∧ x.toNat ≤ 57)) : pNum s i = (n, true, i + (dec n).length) := by
 unfold pNum
 by_cases h10 : n < 10
 ·
  rw [dec_one n h10] at h ⊢
  have h' : Rest s i (UInt8.ofNat (48 + n) :: x :: l) := h
  have hl := h'.len
  simp at hl
  obtain ⟨f, hf⟩ : ∃ f, s.size = f + 1 := ⟨s.size - 1, by omega⟩
  have e8 := of8 (48 + n) (by omega)
  rw [hf, numL_step h' (by omega), numL_stop h'.tail hx, e8]
  show (_, _, _) = (_, _, _)
  rw [show min (10 * 0 + (48 + n - 48)) 21 = n by omega]
  rfl
 ·
  rw [dec_two n (by omega) (by omega)] at h ⊢
  have h' : Rest s i (UInt8.ofNat (48 + n / 10) :: UInt8.ofNat (48 + n % 10) :: x :: l) := h
  have hl := h'.len
  simp at hl
  obtain ⟨f, hf⟩ : ∃ f, s.size = f + 1 + 1 := ⟨s.size - 2, by omega⟩
  have e8 := of8 (48 + n / 10) (by omega)
  have e9 := of8 (48 + n % 10) (by omega)
  rw [hf, numL_step h' (by omega), numL_step h'.tail (by omega), numL_stop h'.tail.tail hx, e8, e9]
  show (_, _, _) = (_, _, _)
  rw [show min (10 * min (10 * 0 + (48 + n / 10 - 48)) 21 + (48 + n % 10 - 48)) 21 = n by omega]
  rfl

theorem rep_ok {s : ByteArray} {j : Nat} {l : List UInt8} (ere : Bool) (r : Rx) (n g d : Nat) (lo : Nat) (hi : Int) (ht : timesFit lo hi = true) (h : Rest s j (timesT lo hi ere ++ l)) :
  pRep s ere r ⟨j, n, g, d⟩ = ⟨rrep lo hi r, 0, ⟨j + (timesT lo hi ere).length, n + 1, g, d⟩⟩ := by
 have hlo : lo ≤ 20 ∧ (hi = -1 ∨ (max (lo : Int) 1 ≤ hi ∧ hi ≤ 20)) := by
  unfold timesFit at ht
  split at ht
  ·
   cases ht
  ·
   simp at ht
   refine ⟨by omega, ?_⟩
   rcases ht with ht | ht
   ·
    exact Or.inl ht
   ·
    exact Or.inr ⟨by omega, ht.2⟩
 unfold pRep
 show (let g' := sgn s ere j; _) = _
 rw [h.sign ere]
 unfold timesT at h ⊢
 by_cases c1 : lo = 0 ∧ hi = -1
 ·
  rw [if_pos c1] at h ⊢
  obtain ⟨rfl, rfl⟩ := c1
  cases ere <;> rfl
 rw [if_neg c1] at h ⊢
 by_cases c2 : ere = true ∧ lo = 1 ∧ hi = -1
 ·
  rw [if_pos c2] at h ⊢
  obtain ⟨rfl, rfl, rfl⟩ := c2
  rfl
 rw [if_neg c2] at h ⊢
 by_cases c3 : ere = true ∧ lo = 0 ∧ hi = 1
 ·
  rw [if_pos c3] at h ⊢
  obtain ⟨rfl, rfl, rfl⟩ := c3
  rfl
 rw [if_neg c3] at h ⊢
 have nd : ∀ x : UInt8, x = 44 ∨ x = 125 ∨ x = 92 → ¬(48 ≤ x.toNat ∧ x.toNat ≤ 57) := by
  rintro x (rfl | rfl | rfl) <;> decide
 -- what is asked of the rest of it, from behind the brace
 have key : ∀ (sz : Nat) (m : List UInt8), Rest s (j + sz) (ivT lo hi ++ (closeB ere ++ m)) → pInt s ere j sz = (some ((lo : Int), hi), j + sz + (ivT lo hi).length + (closeB ere).length) := by
  intro sz m hr
  have hcl : ∃ x m', closeB ere ++ m = x :: m' ∧ (x = 125 ∨ x = 92) := by
   cases ere
   ·
    exact ⟨92, 125 :: m, rfl, Or.inr rfl⟩
   ·
    exact ⟨125, m, rfl, Or.inl rfl⟩
  obtain ⟨x, m', hx, hx'⟩ := hcl
  have hxd := nd x (by rcases hx' with h | h <;> simp [h])
  have hpc : ∀ k, Rest s k (closeB ere ++ m) → pfx s k (closeB ere) = true := by
   intro k hk
   rw [hk.has]
   exact List.isPrefixOf_iff_prefix.2 (List.prefix_append _ _)
  have hp44 : ∀ k, Rest s k (closeB ere ++ m) → pfx s k [44] = false := by
   intro k hk
   rw [hx] at hk
   rw [hk.has]
   rcases hx' with rfl | rfl <;> rfl
  unfold pInt
  by_cases e1 : hi = lo
  ·
   have ei : ivT lo hi = dec lo := by unfold ivT; rw [if_pos e1]
   rw [ei] at hr ⊢
   have hn := num_ok (s := s) (i := j + sz) (x := x) (l := m') lo hlo.1 (by rw [← hx]; exact hr) hxd
   rw [hn]
   have hr2 := hr.step
   show (if true = true then _ else _) = _
   rw [if_pos rfl]
   have hh : pHigh s lo (j + sz + (dec lo).length) = ((lo : Int), j + sz + (dec lo).length) := by
    unfold pHigh
    rw [hp44 _ hr2]
    rfl
   show (if pfx s (pHigh s lo (j + sz + (dec lo).length)).2 (closeB ere) = true then _ else _) = _
   rw [hh]
   show (if pfx s (j + sz + (dec lo).length) (closeB ere) = true then _ else _) = _
   rw [hpc _ hr2, if_pos rfl]
   show (if timesFit (lo : Int) (lo : Int) = true then _ else _) = _
   rw [if_pos (by rw [← e1]; rw [e1] at ht ⊢; exact ht), e1]
  ·
   by_cases e2 : hi = -1
   ·
    have ei : ivT lo hi = dec lo ++ [44] := by unfold ivT; rw [if_neg e1, if_pos e2]
    rw [ei] at hr ⊢
    have hr0 : Rest s (j + sz) (dec lo ++ 44 :: (closeB ere ++ m)) := by simpa using hr
    have hn := num_ok (s := s) (i := j + sz) (x := 44) lo hlo.1 hr0 (nd 44 (by simp))
    rw [hn]
    show (if true = true then _ else _) = _
    rw [if_pos rfl]
    have hr2 : Rest s (j + sz + (dec lo).length) (44 :: (closeB ere ++ m)) := hr0.step
    have hr3 := hr2.tail
    have hn2 : pNum s (j + sz + (dec lo).length + 1) = (0, false, j + sz + (dec lo).length + 1) := by
     unfold pNum
     rw [hx] at hr3
     exact numL_stop hr3 hxd _ _ _
    have hh : pHigh s lo (j + sz + (dec lo).length) = (-1, j + sz + (dec lo).length + 1) := by
     unfold pHigh
     rw [hr2.has, hn2]
     rfl
    show (if pfx s (pHigh s lo (j + sz + (dec lo).length)).2 (closeB ere) = true then _ else _) = _
    rw [hh]
    show (if pfx s (j + sz + (dec lo).length + 1) (closeB ere) = true then _ else _) = _
    rw [hpc _ hr3, if_pos rfl]
    show (if timesFit (lo : Int) (-1) = true then _ else _) = _
    rw [if_pos (by rw [← e2]; exact ht), e2, List.length_append]
    rfl
   ·
    have ei : ivT lo hi = dec lo ++ [44] ++ dec hi.toNat := by unfold ivT; rw [if_neg e1, if_neg e2]
    rw [ei] at hr ⊢
    have hhi : hi.toNat ≤ 20 ∧ (hi.toNat : Int) = hi := by omega
    have hr0 : Rest s (j + sz) (dec lo ++ 44 :: (dec hi.toNat ++ (closeB ere ++ m))) := by simpa using hr
    have hn := num_ok (s := s) (i := j + sz) (x := 44) lo hlo.1 hr0 (nd 44 (by simp))
    rw [hn]
    show (if true = true then _ else _) = _
    rw [if_pos rfl]
    have hr2 : Rest s (j + sz + (dec lo).length) (44 :: (dec hi.toNat ++ (closeB ere ++ m))) := hr0.step
    have hr3 := hr2.tail
    have hr4 := hr3.step
    have hn2 := num_ok (s := s) (i := j + sz + (dec lo).length + 1) (x := x) (l := m') hi.toNat hhi.1 (by rw [← hx]; exact hr3) hxd
    have hh : pHigh s lo (j + sz + (dec lo).length) = (hi, j + sz + (dec lo).length + 1 + (dec hi.toNat).length) := by
     unfold pHigh
     rw [hr2.has, hn2]
     show (((hi.toNat : Nat) : Int), _) = _
     rw [hhi.2]
    show (if pfx s (pHigh s lo (j + sz + (dec lo).length)).2 (closeB ere) = true then _ else _) = _
    rw [hh]
    show (if pfx s (j + sz + (dec lo).length + 1 + (dec hi.toNat).length) (closeB ere) = true then _ else _) = _
    rw [hpc _ hr4, if_pos rfl]
    show (if timesFit (lo : Int) hi = true then _ else _) = _
    rw [if_pos ht]
    simp only [List.length_append, List.length_cons, List.length_nil]
    rw [show j + sz + (dec lo).length + 1 + (dec hi.toNat).length = j + sz + ((dec lo).length + (0 + 1) + (dec hi.toNat).length) by omega]
 cases ere with
 | true =>
  have h' : Rest s j (123 :: (ivT lo hi ++ (closeB true ++ l))) := by
   unfold framedT at h
   simpa [closeB] using h
  have k := key 1 l h'.tail
  have el : (framedT [123] (ivT lo hi) [125] true).length = (ivT lo hi).length + 2 := by
   unfold framedT
   simp
  rw [el]
  show (match pInt s true j 1 with | (none, j) => _ | (some (a, b), j) => _) = _
  rw [k]
  show Out.mk _ _ (St.mk _ _ _ _) = _
  rw [show j + 1 + (ivT lo hi).length + (closeB true).length + 0 = j + ((ivT lo hi).length + 2) by simp [closeB]; omega]
 | false =>
  have h' : Rest s j (92 :: 123 :: (ivT lo hi ++ (closeB false ++ l))) := by
   unfold framedT at h
   simpa [closeB] using h
  have k := key 2 l h'.tail.tail
  have el : (framedT [123] (ivT lo hi) [125] false).length = (ivT lo hi).length + 4 := by
   unfold framedT
   simp
  rw [el]
  show (match pInt s false j 2 with | (none, j) => _ | (some (a, b), j) => _) = _
  rw [k]
  show Out.mk _ _ (St.mk _ _ _ _) = _
  rw [show j + 2 + (ivT lo hi).length + (closeB false).length + 0 = j + ((ivT lo hi).length + 4) by simp [closeB]; omega]

theorem chk_inv {ere : Bool} {k mn mx n : Int} {s : W4} {kids : List Rx} {b e : Bool} {c c' : Ck} (h : chk ere (.mk k mn mx n s kids) b e c = some c') :
  c.n + 1 ≤ 40 ∧ leanB (.mk k mn mx n s kids) = true ∧ ((k = 1 ∧ 0 < cnt (W4.bit s) 256 ∧ c' = ⟨c.n + 1, c.g, c.d⟩) ∨ (k = 2 ∧ chkCat ere kids true ⟨c.n + 1, c.g, c.d⟩ = some c')
   ∨ (k = 3 ∧ ere = true ∧ chkAlt ere kids ⟨c.n + 1, c.g, c.d⟩ = some c') ∨ (k = 4 ∧ timesFit mn mx = true ∧ chkRep ere kids ⟨c.n + 1, c.g, c.d⟩ = some c')
   ∨ (k = 5 ∧ n = (c.g + 1 : Nat) ∧ c.g + 1 ≤ 3 ∧ c.d ≠ 6 ∧ chkGroup ere kids ⟨c.n + 1, c.g + 1, c.d + 1⟩ = some c') ∨ (k = 6 ∧ 1 ≤ n ∧ n ≤ (c.g : Int) ∧ c' = ⟨c.n + 1, c.g, c.d⟩)
   ∨ (k = 7 ∧ (ere || b) = true ∧ c' = ⟨c.n + 1, c.g, c.d⟩) ∨ (k = 8 ∧ (ere || e) = true ∧ c' = ⟨c.n + 1, c.g, c.d⟩)) := by
 rw [chk] at h
 split at h
 ·
  cases h
 rename_i h0
 have h1 : c.n + 1 ≤ 40 := by omega
 have h2 : leanB (.mk k mn mx n s kids) = true := by
  cases e : leanB (.mk k mn mx n s kids)
  ·
   exact absurd (Or.inr e) h0
  ·
   rfl
 refine ⟨h1, h2, ?_⟩
 split at h
 ·
  rename_i hk
  split at h
  ·
   rename_i hc; exact Or.inl ⟨hk, hc, (Option.some.inj h).symm⟩
  ·
   cases h
 split at h
 ·
  rename_i hk; exact Or.inr (Or.inl ⟨hk, h⟩)
 split at h
 ·
  rename_i hk
  split at h
  ·
   rename_i he; exact Or.inr (Or.inr (Or.inl ⟨hk, he, h⟩))
  ·
   cases h
 split at h
 ·
  rename_i hk
  split at h
  ·
   rename_i he; exact Or.inr (Or.inr (Or.inr (Or.inl ⟨hk, he, h⟩)))
  ·
   cases h
 split at h
 ·
  rename_i hk
  split at h
  ·
   cases h
  ·
   rename_i he; exact Or.inr (Or.inr (Or.inr (Or.inr (Or.inl ⟨hk, by omega, by omega, by omega, h⟩))))
 split at h
 ·
  rename_i hk
  split at h
  ·
   rename_i he; exact Or.inr (Or.inr (Or.inr (Or.inr (Or.inr (Or.inl ⟨hk, he.1, he.2, (Option.some.inj h).symm⟩)))))
  ·
   cases h
 split at h
 ·
  rename_i hk
  split at h
  ·
   rename_i he; exact Or.inr (Or.inr (Or.inr (Or.inr (Or.inr (Or.inr (Or.inl ⟨hk, he, (Option.some.inj h).symm⟩))))))
  ·
   cases h
 split at h
 ·
  rename_i hk
  split at h
  ·
   rename_i he; exact Or.inr (Or.inr (Or.inr (Or.inr (Or.inr (Or.inr (Or.inr ⟨hk, he, (Option.some.inj h).symm⟩))))))
  ·
   cases h
 ·
  cases h
theorem lean_inv {k mn mx n : Int} {s : W4} {kids : List Rx} (h : leanB (.mk k mn mx n s kids) = true) :
  (k ≠ 4 → mn = 0 ∧ mx = 0) ∧ (k ≠ 5 → k ≠ 6 → n = 0) ∧ (k ≠ 1 → s = W4.z) ∧ kidsFit k kids.length = true := by
 unfold leanB at h
 simp only [Bool.and_eq_true] at h
 obtain ⟨⟨⟨h1, h2⟩, h3⟩, h4⟩ := h
 refine ⟨fun hk => ?_, fun hk hk' => ?_, fun hk => ?_, h4⟩
 ·
  rw [if_neg hk] at h1
  simpa using h1
 ·
  rw [if_neg (by omega)] at h2
  simpa using h2
 ·
  rw [if_neg hk] at h3
  simpa using h3
theorem kids_one {k : Int} {kids : List Rx} (hk : k = 4 ∨ k = 5) (h : kidsFit k kids.length = true) : ∃ r, kids = [r] := by
 unfold kidsFit at h
 rw [if_neg (by omega), if_neg (by omega), if_pos hk] at h
 exact List.length_eq_one_iff.1 (by simpa using h)
theorem kids_none {k : Int} {kids : List Rx} (hk : k = 1 ∨ k = 6 ∨ k = 7 ∨ k = 8) (h : kidsFit k kids.length = true) : kids = [] := by
 unfold kidsFit at h
 rw [if_neg (by omega), if_neg (by omega), if_neg (by omega)] at h
 exact List.length_eq_zero_iff.1 (by simpa using h)

structure Cnt (r : Rx) : Prop where
 all : ∀ (ere b e : Bool) (c c' : Ck), chk ere r b e c = some c' → c'.n = c.n + nds r ∧ c'.n ≤ 40 ∧ c'.d = c.d ∧ (c.g ≤ 3 → c'.g ≤ 3)
theorem cat_cnt (ere : Bool) : ∀ (rs : List Rx) (_ : ∀ r ∈ rs, Cnt r) (f : Bool) (c c' : Ck), chkCat ere rs f c = some c' → c.n ≤ 40 → c'.n = c.n + ndss rs ∧ c'.n ≤ 40 ∧ c'.d = c.d ∧ (c.g ≤ 3 → c'.g ≤ 3)
 | [], _, f, c, c', h, h40 => by
  rw [chkCat] at h
  cases h
  exact ⟨by simp [ndss], h40, rfl, fun h => h⟩
 | r :: rs, H, f, c, c', h, h40 => by
  rw [chkCat] at h
  split at h
  ·
   cases h
  split at h
  ·
   cases h
  rename_i c1 h1
  obtain ⟨a1, a2, a3, a4⟩ := (H r (by simp)).all _ _ _ _ _ h1
  obtain ⟨b1, b2, b3, b4⟩ := cat_cnt ere rs (fun x hx => H x (by simp [hx])) false c1 c' h a2
  refine ⟨by rw [b1, a1, ndss]; omega, b2, b3.trans a3, fun h => b4 (a4 h)⟩
theorem alt_cnt (ere : Bool) : ∀ (rs : List Rx) (_ : ∀ r ∈ rs, Cnt r) (c c' : Ck), chkAlt ere rs c = some c' → c.n ≤ 40 → c'.n = c.n + ndss rs ∧ c'.n ≤ 40 ∧ c'.d = c.d ∧ (c.g ≤ 3 → c'.g ≤ 3)
 | [], _, c, c', h, h40 => by
  rw [chkAlt] at h
  cases h
  exact ⟨by simp [ndss], h40, rfl, fun h => h⟩
 | r :: rs, H, c, c', h, h40 => by
  rw [chkAlt] at h
  split at h
  ·
   cases h
  split at h
  ·
   cases h
  rename_i c1 h1
  obtain ⟨a1, a2, a3, a4⟩ := (H r (by simp)).all _ _ _ _ _ h1
  obtain ⟨b1, b2, b3, b4⟩ := alt_cnt ere rs (fun x hx => H x (by simp [hx])) c1 c' h a2
  refine ⟨by rw [b1, a1, ndss]; omega, b2, b3.trans a3, fun h => b4 (a4 h)⟩
theorem rep_inv {ere : Bool} {r : Rx} {c c' : Ck} (h : chkRep ere [r] c = some c') : mayRep r.k = true ∧ chk ere r false false c = some c' := by
 rw [chkRep] at h
 split at h
 ·
  rename_i hm; exact ⟨hm, h⟩
 ·
  cases h
theorem grp_inv {ere : Bool} {r : Rx} {c c' : Ck} (h : chkGroup ere [r] c = some c') : ∃ c1, chk ere r true true c = some c1 ∧ c' = ⟨c1.n, c1.g, c1.d - 1⟩ := by
 rw [chkGroup] at h
 split at h
 ·
  cases h
 ·
  rename_i c1 h1; exact ⟨c1, h1, (Option.some.inj h).symm⟩
theorem cnt_step (k mn mx n : Int) (s : W4) (kids : List Rx) (H : ∀ a, a ∈ kids → Cnt a) : Cnt (.mk k mn mx n s kids) := by
 refine ⟨fun ere b e c c' h => ?_⟩
 obtain ⟨h1, h2, h⟩ := chk_inv h
 obtain ⟨l1, l2, l3, l4⟩ := lean_inv h2
 have z : nds (.mk k mn mx n s kids) = 1 + ndss kids := by rw [nds]
 have nil : kids = [] → c' = ⟨c.n + 1, c.g, c.d⟩ → c'.n = c.n + nds (.mk k mn mx n s kids) ∧ c'.n ≤ 40 ∧ c'.d = c.d ∧ (c.g ≤ 3 → c'.g ≤ 3) := by
  rintro rfl rfl
  rw [z]
  exact ⟨by simp [ndss], h1, rfl, fun h => h⟩
 rcases h with ⟨hk, _, rfl⟩ | ⟨hk, h⟩ | ⟨hk, _, h⟩ | ⟨hk, _, h⟩ | ⟨hk, _, hg, _, h⟩ | ⟨hk, _, _, rfl⟩ | ⟨hk, _, rfl⟩ | ⟨hk, _, rfl⟩
 ·
  exact nil (kids_none (by omega) l4) rfl
 ·
  obtain ⟨b1, b2, b3, b4⟩ := cat_cnt ere kids H _ _ _ h h1
  rw [z]
  exact ⟨by rw [b1]; show c.n + 1 + _ = _; omega, b2, b3, b4⟩
 ·
  obtain ⟨b1, b2, b3, b4⟩ := alt_cnt ere kids H _ _ h h1
  rw [z]
  exact ⟨by rw [b1]; show c.n + 1 + _ = _; omega, b2, b3, b4⟩
 ·
  obtain ⟨r, rfl⟩ := kids_one (Or.inl hk) l4
  obtain ⟨_, h⟩ := rep_inv h
  obtain ⟨b1, b2, b3, b4⟩ := (H r (by simp)).all _ _ _ _ _ h
  rw [z]
  exact ⟨by rw [b1]; show c.n + 1 + _ = _; simp [ndss]; omega, b2, b3, b4⟩
 ·
  obtain ⟨r, rfl⟩ := kids_one (Or.inr hk) l4
  obtain ⟨c1, hx, rfl⟩ := grp_inv h
  obtain ⟨b1, b2, b3, b4⟩ := (H r (by simp)).all _ _ _ _ _ hx
  rw [z]
  exact ⟨by show c1.n = _; rw [b1]; show c.n + 1 + _ = _; simp [ndss]; omega, b2, by show c1.d - 1 = _; rw [b3]; rfl, fun _ => b4 hg⟩
 ·
  exact nil (kids_none (by omega) l4) rfl
 ·
  exact nil (kids_none (by omega) l4) rfl
 ·
  exact nil (kids_none (by omega) l4) rfl
theorem cnt_any : ∀ r, Cnt r
 | .mk k mn mx n s kids => cnt_step k mn mx n s kids (fun a _ => cnt_any a)
termination_by r => SizeOf.sizeOf r
decreasing_by
 have := List.sizeOf_lt_of_mem (by assumption)
 simp
 omega

def noRep (k : Nat) : Prop := k ≠ 10 ∧ k ≠ 11 ∧ k ≠ 12 ∧ k ≠ 13
def opens (k : Nat) : Prop := k = 2 ∨ k = 3 ∨ k = 4 ∨ k = 5 ∨ k = 6 ∨ k = 7 ∨ k = 14
theorem opens.nr {k : Nat} (h : opens k) : noRep k := by unfold opens at h; unfold noRep; omega
theorem opens.noEnd {k : Nat} (h : opens k) : ends k = false := by
 unfold opens at h
 unfold ends
 rcases h with rfl | rfl | rfl | rfl | rfl | rfl | rfl <;> rfl
theorem ends_noRep {k : Nat} (h : ends k = true) : noRep k := by
 unfold ends at h
 simp at h
 unfold noRep
 omega
theorem pRep_none {s : ByteArray} {ere : Bool} {r : Rx} {t : St} (h : noRep (sgn s ere t.i).1) : pRep s ere r t = ⟨r, 0, t⟩ := by
 obtain ⟨h1, h2, h3, h4⟩ := h
 unfold pRep
 show (if (sgn s ere t.i).1 = 10 then _ else _) = _
 rw [if_neg h1, if_neg h2, if_neg h3, if_neg h4]

def oneK (k : Int) : Prop := k = 1 ∨ k = 5 ∨ k = 6 ∨ k = 7 ∨ k = 8
def fol (k : Nat) : Prop := k = 1 ∨ k = 8

structure Op (ere : Bool) (r : Rx) : Prop where
 all : ∀ (b e : Bool) (c c' : Ck), r.k ≠ 2 → r.k ≠ 3 → chk ere r b e c = some c' → c.g ≤ 3 → RxOk r → (∀ l, opens (sgL ere (txt ere r ++ l)).1) ∧ 0 < (txt ere r).length
structure OneOk (ere : Bool) (r : Rx) : Prop where
 all : ∀ (s : ByteArray) (l : List UInt8) (began i n : Nat) (b e : Bool) (c c' : Ck), oneK r.k → RxOk r → chk ere r b e c = some c' → c.g ≤ 3 → c.d ≤ 6 → n ≤ c.n → Rest s i (txt ere r ++ l) →
  (b = true → i = began) → (ere = false → e = true → fol (sgL ere l).1) →
  pOne (pCh s ere (6 - c.d)) s ere (sgnIn s ere began i).1 (sgnIn s ere began i).2.1 (sgnIn s ere began i).2.2 ⟨i, n, c.g, c.d⟩ = ⟨r, 0, ⟨i + (txt ere r).length, n + nds r, c'.g, c.d⟩⟩
structure ChOk (ere : Bool) (r : Rx) : Prop where
 all : ∀ (s : ByteArray) (l : List UInt8) (i n : Nat) (c c' : Ck), RxOk r → chk ere r true true c = some c' → c.g ≤ 3 → c.d ≤ 6 → n ≤ c.n → Rest s i (txt ere r ++ l) → fol (sgL ere l).1 →
  pCh s ere (7 - c.d) ⟨i, n, c.g, c.d⟩ = ⟨r, 0, ⟨i + (txt ere r).length, n + nds r, c'.g, c.d⟩⟩
structure PartOk (ere : Bool) (r : Rx) : Prop where
 all : ∀ (s : ByteArray) (l : List UInt8) (began i n : Nat) (b e : Bool) (c c' : Ck), r.k ≠ 2 → r.k ≠ 3 → RxOk r → chk ere r b e c = some c' → c.g ≤ 3 → c.d ≤ 6 → n ≤ c.n → Rest s i (txt ere r ++ l) →
  noRep (sgL ere l).1 → (b = true → i = began) → (ere = false → e = true → fol (sgL ere l).1) →
  pPart (pCh s ere (6 - c.d)) s ere began ⟨i, n, c.g, c.d⟩ = ⟨r, 0, ⟨i + (txt ere r).length, n + nds r, c'.g, c.d⟩⟩
structure RowOk (ere : Bool) (r : Rx) : Prop where
 all : ∀ (s : ByteArray) (l : List UInt8) (i n : Nat) (b e : Bool) (c c' : Ck), r.k ≠ 3 → RxOk r → chk ere r b e c = some c' → c.g ≤ 3 → c.d ≤ 6 → n ≤ c.n → Rest s i (txt ere r ++ l) →
  ends (sgL ere l).1 = true → (ere = false → fol (sgL ere l).1) →
  pRow (pCh s ere (6 - c.d)) s ere ⟨i, n, c.g, c.d⟩ = ⟨r, 0, ⟨i + (txt ere r).length, n + nds r, c'.g, c.d⟩⟩

theorem sgnIn_ok {s : ByteArray} {ere : Bool} {began i : Nat} {l : List UInt8} (h : Rest s i l) (hk : (sgL ere l).1 ≠ 10 ∧ (sgL ere l).1 ≠ 5 ∧ (sgL ere l).1 ≠ 6) : sgnIn s ere began i = sgL ere l := by
 unfold sgnIn
 rw [h.sign ere]
 cases ere with
 | true => rfl
 | false =>
  show (if plainIn s began i (sgL false l).1 = true then _ else _) = _
  rw [if_neg]
  unfold plainIn
  rw [if_neg hk.1, if_neg hk.2.1, if_neg hk.2.2]
  simp
theorem rxOk_kid {k mn mx n : Int} {s : W4} {kids : List Rx} (h : RxOk (.mk k mn mx n s kids)) : (s.a < 18446744073709551616 ∧ s.b < 18446744073709551616 ∧ s.c < 18446744073709551616 ∧ s.d < 18446744073709551616) ∧ ∀ a, a ∈ kids → RxOk a := by
 unfold RxOk at h
 exact h.2
theorem txt_mk (ere : Bool) (k mn mx n : Int) (s : W4) (kids : List Rx) : txt ere (.mk k mn mx n s kids) = (if k = 1 then setT (W4.bit s) ere
  else if k = 2 then Lib.join (txts ere kids) []
  else if k = 3 then Lib.join (txts ere kids) [124]
  else if k = 4 then (txts ere kids).headD [] ++ timesT mn.toNat mx ere
  else if k = 5 then framedT [40] ((txts ere kids).headD []) [41] ere
  else if k = 6 then [92] ++ dec n.toNat
  else if k = 7 then [94] else [36]) := by rw [txt]
theorem setT_len (p : Nat → Bool) (ere : Bool) : 0 < (setT p ere).length := by
 unfold setT
 split
 ·
  unfold byteT
  split
  ·
   simp
  ·
   split <;> simp
 ·
  split
  ·
   simp
  ·
   split <;> simp
theorem back_sign (ere : Bool) (n : Nat) (h1 : 1 ≤ n) (h3 : n ≤ 3) (l : List UInt8) : sgL ere ([92] ++ dec n ++ l) = (14, 48 + n, 2) ∧ (dec n).length = 1 := by
 rw [dec_one n (by omega)]
 refine ⟨?_, rfl⟩
 show sgL ere (92 :: UInt8.ofNat (48 + n) :: l) = _
 rw [sgL_cons, if_pos (by decide)]
 show qs (UInt8.ofNat (48 + n)).toNat ere = _
 rw [of8 _ (by omega)]
 unfold qs
 rw [if_neg (by omega), if_pos (by unfold rng; simp; omega)]
theorem open_sign (ere : Bool) (x l : List UInt8) : sgL ere (framedT [40] x [41] ere ++ l) = (7, 40, if ere then 1 else 2) := by
 cases ere <;> rfl
theorem framed_eq (ere : Bool) (x l : List UInt8) : framedT [40] x [41] ere ++ l = (if ere then [40] else [92, 40]) ++ (x ++ ((if ere then [41] else [92, 41]) ++ l)) := by
 unfold framedT
 cases ere <;> simp
theorem op_step (ere : Bool) (k mn mx n : Int) (s : W4) (kids : List Rx) (H : ∀ a, a ∈ kids → Op ere a) : Op ere (.mk k mn mx n s kids) := by
 refine ⟨fun b e c c' k2 k3 h hg hR => ?_⟩
 have k2 : k ≠ 2 := k2
 have k3 : k ≠ 3 := k3
 obtain ⟨h1, h2, h⟩ := chk_inv h
 obtain ⟨l1, l2, l3, l4⟩ := lean_inv h2
 have hR' := rxOk_kid hR
 rw [txt_mk]
 rcases h with ⟨rfl, hc, rfl⟩ | ⟨hk, h⟩ | ⟨hk, _, h⟩ | ⟨rfl, ht, h⟩ | ⟨rfl, _, _, _, h⟩ | ⟨rfl, hn1, hn2, rfl⟩ | ⟨rfl, _, rfl⟩ | ⟨rfl, _, rfl⟩
 ·
  rw [if_pos rfl]
  refine ⟨fun l => ?_, setT_len _ _⟩
  obtain ⟨q, _, hs, _⟩ := set_ok (W4.bit s) ere (Rest.of (setT (W4.bit s) ere ++ l)) (by omega)
  unfold opens
  omega
 ·
  exact absurd hk k2
 ·
  exact absurd hk k3
 ·
  rw [if_neg (by decide), if_neg (by decide), if_neg (by decide), if_pos rfl]
  obtain ⟨r, rfl⟩ := kids_one (Or.inl rfl) l4
  obtain ⟨hm, h⟩ := rep_inv h
  have hmk : r.k ≠ 2 ∧ r.k ≠ 3 := by
   unfold mayRep at hm
   simp at hm
   omega
  obtain ⟨o1, o2⟩ := (H r (by simp)).all false false _ _ hmk.1 hmk.2 h hg (hR'.2 r (by simp))
  have et : (txts ere [r]).headD [] = txt ere r := by rw [txts]; rfl
  rw [et]
  refine ⟨fun l => ?_, by rw [List.length_append]; omega⟩
  rw [List.append_assoc]
  exact o1 _
 ·
  rw [if_neg (by decide), if_neg (by decide), if_neg (by decide), if_neg (by decide), if_pos rfl]
  refine ⟨fun l => ?_, ?_⟩
  ·
   rw [open_sign]
   unfold opens
   simp
  ·
   unfold framedT
   cases ere <;> simp
 ·
  rw [if_neg (by decide), if_neg (by decide), if_neg (by decide), if_neg (by decide), if_neg (by decide), if_pos rfl]
  refine ⟨fun l => ?_, by simp⟩
  rw [(back_sign ere n.toNat (by omega) (by omega) l).1]
  unfold opens
  simp
 ·
  rw [if_neg (by decide), if_neg (by decide), if_neg (by decide), if_neg (by decide), if_neg (by decide), if_neg (by decide), if_pos rfl]
  refine ⟨fun l => ?_, by simp⟩
  cases ere <;> (unfold opens; exact Or.inr (Or.inr (Or.inr (Or.inl rfl))))
 ·
  rw [if_neg (by decide), if_neg (by decide), if_neg (by decide), if_neg (by decide), if_neg (by decide), if_neg (by decide), if_neg (by decide)]
  refine ⟨fun l => ?_, by simp⟩
  cases ere <;> (unfold opens; exact Or.inr (Or.inr (Or.inr (Or.inr (Or.inl rfl)))))
theorem op_any (ere : Bool) : ∀ r, Op ere r
 | .mk k mn mx n s kids => op_step ere k mn mx n s kids (fun a _ => op_any ere a)
termination_by r => SizeOf.sizeOf r
decreasing_by
 have := List.sizeOf_lt_of_mem (by assumption)
 simp
 omega

theorem one_step (ere : Bool) (k mn mx n : Int) (s : W4) (kids : List Rx) (H : ∀ a, a ∈ kids → ChOk ere a) : OneOk ere (.mk k mn mx n s kids) := by
 refine ⟨fun x l began i m b e c c' hK hR h hg hd hm hr hb he => ?_⟩
 have hK : oneK k := hK
 obtain ⟨h1, h2, h⟩ := chk_inv h
 obtain ⟨l1, l2, l3, l4⟩ := lean_inv h2
 have hR' := rxOk_kid hR
 have z : nds (.mk k mn mx n s kids) = 1 + ndss kids := by rw [nds]
 have z0 : ndss [] = 0 := by rw [ndss]
 rw [txt_mk] at hr ⊢
 rw [z]
 unfold oneK at hK
 rcases h with ⟨rfl, hc, rfl⟩ | ⟨hk, h⟩ | ⟨hk, _, h⟩ | ⟨hk, ht, h⟩ | ⟨rfl, hn, hg3, hd6, h⟩ | ⟨rfl, hn1, hn2, rfl⟩ | ⟨rfl, hbb, rfl⟩ | ⟨rfl, hee, rfl⟩
 ·
  rw [if_pos rfl] at hr ⊢
  obtain ⟨q, hq, hs, hp⟩ := set_ok (W4.bit s) ere hr (by omega)
  rw [sgnIn_ok hr (by omega), hp]
  obtain ⟨rfl, rfl⟩ := l1 (by decide)
  obtain rfl := l2 (by decide) (by decide)
  obtain rfl := kids_none (Or.inl rfl) l4
  rw [z0]
  unfold rset
  rw [w4_back s q hR'.1 hq]
 ·
  omega
 ·
  omega
 ·
  omega
 ·
  rw [if_neg (by decide), if_neg (by decide), if_neg (by decide), if_neg (by decide), if_pos rfl] at hr ⊢
  obtain ⟨r, rfl⟩ := kids_one (Or.inr rfl) l4
  obtain ⟨c1, hx, rfl⟩ := grp_inv h
  obtain ⟨rfl, rfl⟩ := l1 (by decide)
  obtain rfl := l3 (by decide)
  have et : (txts ere [r]).headD [] = txt ere r := by rw [txts]; rfl
  have ez : ndss [r] = nds r := by simp [ndss]
  rw [et] at hr ⊢
  rw [ez]
  have cn := (cnt_any r).all _ _ _ _ _ hx
  have hs := open_sign ere (txt ere r) l
  rw [sgnIn_ok hr (by rw [hs]; simp), hs]
  have hr0 := hr
  rw [framed_eq] at hr0
  have hsh : ∀ m : List UInt8, sgL ere ((if ere then [41] else [92, 41]) ++ m) = (8, 41, if ere then 1 else 2) := by
   intro m
   cases ere <;> rfl
  have hlen : (if ere then ([40] : List UInt8) else [92, 40]).length = if ere then 1 else 2 := by cases ere <;> rfl
  have hr1 := hr0.step
  rw [hlen] at hr1
  have hr2 := hr1.step
  have ch := (H r (by simp)).all x _ (i + (if ere then 1 else 2)) m ⟨c.n + 1, c.g + 1, c.d + 1⟩ c1 (hR'.2 r (by simp)) hx hg3 (by show c.d + 1 ≤ 6; omega) (by show m ≤ c.n + 1; omega) hr1 (by rw [hsh]; exact Or.inr rfl)
  show pGroup (pCh x ere (6 - c.d)) x ere (if ere then 1 else 2) ⟨i, m, c.g, c.d⟩ = _
  unfold pGroup
  rw [if_neg hd6]
  have ch' : pCh x ere (6 - c.d) ⟨i + (if ere then 1 else 2), m, c.g + 1, c.d + 1⟩ = ⟨r, 0, ⟨i + (if ere then 1 else 2) + (txt ere r).length, m + nds r, c1.g, c.d + 1⟩⟩ := by
   rw [show 6 - c.d = 7 - (c.d + 1) by omega]
   exact ch
  show (if (pCh x ere (6 - c.d) ⟨i + (if ere then 1 else 2), m, c.g + 1, c.d + 1⟩).e ≠ 0 then _ else _) = _
  rw [ch']
  rw [if_neg (by simp)]
  show (if (sgn x ere (i + (if ere then 1 else 2) + (txt ere r).length)).1 ≠ 8 then _ else _) = _
  rw [hr2.sign ere, hsh, if_neg (by simp)]
  have fl : (framedT [40] (txt ere r) [41] ere).length = (if ere then 1 else 2) + (txt ere r).length + (if ere then 1 else 2) := by
   unfold framedT
   cases ere <;> simp <;> omega
  rw [fl]
  subst hn
  show Out.mk _ _ (St.mk (i + (if ere then 1 else 2) + (txt ere r).length + (if ere then 1 else 2)) (m + nds r + 1) c1.g (c.d + 1 - 1)) = _
  rw [show i + (if ere then 1 else 2) + (txt ere r).length + (if ere then 1 else 2) = i + ((if ere then 1 else 2) + (txt ere r).length + (if ere then 1 else 2)) by omega, show m + nds r + 1 = m + (1 + nds r) by omega, show c.d + 1 - 1 = c.d by omega]
 ·
  rw [if_neg (by decide), if_neg (by decide), if_neg (by decide), if_neg (by decide), if_neg (by decide), if_pos rfl] at hr ⊢
  obtain ⟨hs, hl⟩ := back_sign ere n.toNat (by omega) (by omega) l
  rw [sgnIn_ok hr (by rw [hs]; simp), hs]
  obtain ⟨rfl, rfl⟩ := l1 (by decide)
  obtain rfl := l3 (by decide)
  obtain rfl := kids_none (by decide) l4
  rw [z0, List.length_append, hl]
  show pBack (48 + n.toNat) 2 _ = _
  unfold pBack
  rw [if_neg (by show ¬(48 + n.toNat < 49 ∨ c.g + 48 < 48 + n.toNat); omega)]
  show Out.mk (.mk 6 0 0 (((48 + n.toNat : Nat) : Int) - 48) W4.z []) _ _ = _
  rw [show ((48 + n.toNat : Nat) : Int) - 48 = n by omega]
  rfl
 ·
  rw [if_neg (by decide), if_neg (by decide), if_neg (by decide), if_neg (by decide), if_neg (by decide), if_neg (by decide), if_pos rfl] at hr ⊢
  obtain ⟨rfl, rfl⟩ := l1 (by decide)
  obtain rfl := l3 (by decide)
  obtain rfl := l2 (by decide) (by decide)
  obtain rfl := kids_none (by decide) l4
  rw [z0]
  have hs : sgL ere ([94] ++ l) = (5, 94, 1) := by cases ere <;> rfl
  have hi : sgnIn x ere began i = (5, 94, 1) := by
   unfold sgnIn
   rw [hr.sign ere, hs]
   cases ere with
   | true => rfl
   | false =>
    have hib := hb (by simpa using hbb)
    show (if plainIn x began i 5 = true then _ else _) = _
    rw [if_neg]
    unfold plainIn
    rw [if_neg (by decide), if_pos rfl, hib]
    simp
  rw [hi]
  rfl
 ·
  rw [if_neg (by decide), if_neg (by decide), if_neg (by decide), if_neg (by decide), if_neg (by decide), if_neg (by decide), if_neg (by decide)] at hr ⊢
  obtain ⟨rfl, rfl⟩ := l1 (by decide)
  obtain rfl := l3 (by decide)
  obtain rfl := l2 (by decide) (by decide)
  obtain rfl := kids_none (by decide) l4
  rw [z0]
  have hs : sgL ere ([36] ++ l) = (6, 36, 1) := by cases ere <;> rfl
  have hi : sgnIn x ere began i = (6, 36, 1) := by
   unfold sgnIn
   rw [hr.sign ere, hs]
   cases ere with
   | true => rfl
   | false =>
    have hf := he rfl (by simpa using hee)
    show (if plainIn x began i 6 = true then _ else _) = _
    rw [if_neg]
    unfold plainIn
    rw [if_neg (by decide), if_neg (by decide), if_pos rfl]
    have hr' : Rest x (i + 1) l := hr.tail
    rw [hr'.sign false]
    unfold fol at hf
    simp
    omega
  rw [hi]
  rfl

theorem rep_txt (ere : Bool) (mn mx n : Int) (s : W4) (r : Rx) : txt ere (.mk 4 mn mx n s [r]) = txt ere r ++ timesT mn.toNat mx ere := by
 rw [txt_mk, if_neg (by decide), if_neg (by decide), if_neg (by decide), if_pos rfl]
 rw [show (txts ere [r]).headD [] = txt ere r by rw [txts]; rfl]
theorem part_step (ere : Bool) (k mn mx n : Int) (s : W4) (kids : List Rx) (H : ∀ a, a ∈ kids → OneOk ere a) (H1 : OneOk ere (.mk k mn mx n s kids)) : PartOk ere (.mk k mn mx n s kids) := by
 refine ⟨fun x l began i m b e c c' k2 k3 hR h hg hd hm hr hnr hb he => ?_⟩
 have k2 : k ≠ 2 := k2
 have k3 : k ≠ 3 := k3
 have h0 := h
 obtain ⟨h1, h2, h⟩ := chk_inv h
 obtain ⟨l1, l2, l3, l4⟩ := lean_inv h2
 have hR' := rxOk_kid hR
 by_cases k4 : k = 4
 ·
  subst k4
  rcases h with ⟨hk, _⟩ | ⟨hk, _⟩ | ⟨hk, _⟩ | ⟨_, ht, h⟩ | ⟨hk, _⟩ | ⟨hk, _⟩ | ⟨hk, _⟩ | ⟨hk, _⟩ <;> try omega
  obtain ⟨r, rfl⟩ := kids_one (Or.inl rfl) l4
  obtain ⟨hmr, hx⟩ := rep_inv h
  obtain rfl := l3 (by decide)
  obtain rfl := l2 (by decide) (by decide)
  have hok : oneK r.k := by
   unfold mayRep at hmr
   simp at hmr
   unfold oneK
   omega
  have hmn : ((mn.toNat : Nat) : Int) = mn := by
   unfold timesFit at ht
   split at ht
   ·
    cases ht
   ·
    omega
  rw [rep_txt] at hr ⊢
  have hr0 : Rest x i (txt ere r ++ (timesT mn.toNat mx ere ++ l)) := by rw [← List.append_assoc]; exact hr
  have o := (H r (by simp)).all x _ began i m false false ⟨c.n + 1, c.g, c.d⟩ c' hok (hR'.2 r (by simp)) hx hg hd (by show m ≤ c.n + 1; omega) hr0 (fun h => by cases h) (fun _ h => by cases h)
  have o : pOne (pCh x ere (6 - c.d)) x ere (sgnIn x ere began i).1 (sgnIn x ere began i).2.1 (sgnIn x ere began i).2.2 ⟨i, m, c.g, c.d⟩ = ⟨r, 0, ⟨i + (txt ere r).length, m + nds r, c'.g, c.d⟩⟩ := o
  unfold pPart
  show (if (pOne (pCh x ere (6 - c.d)) x ere (sgnIn x ere began i).1 (sgnIn x ere began i).2.1 (sgnIn x ere began i).2.2 ⟨i, m, c.g, c.d⟩).e ≠ 0 ∨ _ then _ else _) = _
  rw [o]
  rw [if_neg (by simp [hmr])]
  show pRep x ere r ⟨i + (txt ere r).length, m + nds r, c'.g, c.d⟩ = _
  rw [rep_ok ere r _ _ _ mn.toNat mx (by rw [hmn]; exact ht) hr0.step, List.length_append, hmn]
  unfold rrep
  rw [show nds (.mk 4 mn mx 0 W4.z [r]) = 1 + nds r by simp [nds, ndss], show m + nds r + 1 = m + (1 + nds r) by omega, Nat.add_assoc]
 ·
  have hok : oneK k := by
   unfold oneK
   rcases h with ⟨hk, _⟩ | ⟨hk, _⟩ | ⟨hk, _⟩ | ⟨hk, _⟩ | ⟨hk, _⟩ | ⟨hk, _⟩ | ⟨hk, _⟩ | ⟨hk, _⟩ <;> omega
  have o := H1.all x l began i m b e c c' hok hR h0 hg hd hm hr hb he
  unfold pPart
  show (if (pOne (pCh x ere (6 - c.d)) x ere (sgnIn x ere began i).1 (sgnIn x ere began i).2.1 (sgnIn x ere began i).2.2 ⟨i, m, c.g, c.d⟩).e ≠ 0 ∨ _ then _ else _) = _
  rw [o]
  by_cases hmr : mayRep k = true
  ·
   rw [if_neg (by show ¬((0 : Nat) ≠ 0 ∨ mayRep k = false); simp [hmr])]
   rw [pRep_none (by show noRep (sgn x ere (i + _)).1; rw [hr.step.sign ere]; exact hnr)]
  ·
   rw [if_pos (by show ((0 : Nat) ≠ 0 ∨ mayRep k = false); right; simpa using hmr)]

theorem flat_len (ere : Bool) (rs : List Rx) (h : ∀ r ∈ rs, 0 < (txt ere r).length) : rs.length ≤ ((txts ere rs).flatten).length := by
 induction rs with
 | nil => simp
 | cons r rs ih =>
  rw [txts, List.flatten_cons, List.length_append, List.length_cons]
  have := ih (fun x hx => h x (by simp [hx]))
  have := h r (by simp)
  omega
theorem cat_op {ere : Bool} : ∀ (rs : List Rx) (f : Bool) (c c' : Ck), chkCat ere rs f c = some c' → c.g ≤ 3 → (∀ r ∈ rs, RxOk r) → ∀ r ∈ rs, r.k ≠ 2 ∧ r.k ≠ 3 ∧ (∀ l, opens (sgL ere (txt ere r ++ l)).1) ∧ 0 < (txt ere r).length
 | [], _, _, _, _, _, _ => by intro r h; cases h
 | r :: rs, f, c, c', h, hg, hR => by
  rw [chkCat] at h
  split at h
  ·
   cases h
  rename_i hk
  split at h
  ·
   cases h
  rename_i c1 h1
  have k2 : r.k ≠ 2 := fun h => hk (Or.inl h)
  have k3 : r.k ≠ 3 := fun h => hk (Or.inr h)
  have o := (op_any ere r).all _ _ _ _ k2 k3 h1 hg (hR r (by simp))
  have cn := (cnt_any r).all _ _ _ _ _ h1
  intro x hx
  rcases List.mem_cons.1 hx with rfl | hx
  ·
   exact ⟨k2, k3, o⟩
  ·
   exact cat_op rs false c1 c' h (cn.2.2.2 hg) (fun y hy => hR y (by simp [hy])) x hx
theorem rowL_ok {ere : Bool} {s : ByteArray} {l : List UInt8} {began d : Nat} (hd : d ≤ 6) (he : ends (sgL ere l).1 = true) (hf : ere = false → fol (sgL ere l).1) :
  ∀ (rs : List Rx) (_ : ∀ r ∈ rs, PartOk ere r) (f : Nat) (ks : List Rx) (i n : Nat) (first : Bool) (c c' : Ck), chkCat ere rs first c = some c' → c.d = d → (∀ r ∈ rs, RxOk r) → c.g ≤ 3 → n ≤ c.n → Rest s i ((txts ere rs).flatten ++ l) →
   (first = true → i = began) → rs.length < f →
   pRowL (pCh s ere (6 - d)) s ere began f ks ⟨i, n, c.g, d⟩ = rowOut (ks ++ rs) ⟨i + ((txts ere rs).flatten).length, n + ndss rs, c'.g, d⟩
 | [], _, f, ks, i, n, first, c, c', h, hcd, hR, hg, hn, hr, hb, hl => by
  obtain ⟨f, rfl⟩ : ∃ k, f = k + 1 := ⟨f - 1, by simp at hl; omega⟩
  rw [chkCat] at h
  cases h
  have hr' : Rest s i l := by simpa [txts] using hr
  rw [pRowL]
  show (if ends (sgn s ere i).1 = true then _ else _) = _
  rw [hr'.sign ere, if_pos he]
  simp [txts, ndss]
 | r :: rs, H, f, ks, i, n, first, c, c', h, hcd, hR, hg, hn, hr, hb, hl => by
  obtain ⟨f, rfl⟩ : ∃ k, f = k + 1 := ⟨f - 1, by simp at hl; omega⟩
  have hop := cat_op (r :: rs) first c c' h hg hR
  rw [chkCat] at h
  split at h
  ·
   cases h
  split at h
  ·
   cases h
  rename_i c1 h1
  have cn := (cnt_any r).all _ _ _ _ _ h1
  obtain ⟨k2, k3, o1, o2⟩ := hop r (by simp)
  have hr0 : Rest s i (txt ere r ++ ((txts ere rs).flatten ++ l)) := by
   rw [txts, List.flatten_cons, List.append_assoc] at hr
   exact hr
  have hsg : noRep (sgL ere ((txts ere rs).flatten ++ l)).1 := by
   cases rs with
   | nil => simpa [txts] using ends_noRep he
   | cons y ys =>
    obtain ⟨_, _, q, _⟩ := hop y (by simp)
    rw [txts, List.flatten_cons, List.append_assoc]
    exact (q _).nr
  have hfol : ere = false → rs.isEmpty = true → fol (sgL ere ((txts ere rs).flatten ++ l)).1 := by
   intro he1 he2
   cases rs with
   | nil => simpa [txts] using hf he1
   | cons y ys => cases he2
  have hp := (H r (by simp)).all s _ began i n first rs.isEmpty c c1 k2 k3 (hR r (by simp)) h1 hg (by omega) hn hr0 hsg hb hfol
  rw [hcd] at hp
  rw [pRowL]
  show (if ends (sgn s ere i).1 = true then _ else _) = _
  rw [hr0.sign ere, (o1 _).noEnd, if_neg (by simp)]
  show (if (pPart (pCh s ere (6 - d)) s ere began ⟨i, n, c.g, d⟩).e ≠ 0 then _ else pRowL _ s ere began f (keepL (pPart (pCh s ere (6 - d)) s ere began ⟨i, n, c.g, d⟩).st.n ks (pPart (pCh s ere (6 - d)) s ere began ⟨i, n, c.g, d⟩).r) (pPart (pCh s ere (6 - d)) s ere began ⟨i, n, c.g, d⟩).st) = _
  rw [hp, if_neg (by simp)]
  have hk : keepL (n + nds r) ks r = ks ++ [r] := by
   unfold keepL
   rw [if_neg (by omega)]
  show pRowL _ s ere began f (keepL (n + nds r) ks r) ⟨i + (txt ere r).length, n + nds r, c1.g, d⟩ = _
  rw [hk, rowL_ok hd he hf rs (fun y hy => H y (by simp [hy])) f (ks ++ [r]) (i + (txt ere r).length) (n + nds r) false c1 c' h (cn.2.2.1.trans hcd) (fun y hy => hR y (by simp [hy])) (cn.2.2.2 hg) (by omega) hr0.step (fun h => by cases h) (by simp at hl; omega)]
  rw [List.append_assoc, txts, List.flatten_cons, List.length_append, ndss, Nat.add_assoc, Nat.add_assoc]
  rfl
theorem join_nil (xs : List (List UInt8)) : Lib.join xs [] = xs.flatten := by
 unfold Lib.join
 induction xs with
 | nil => rfl
 | cons x xs ih =>
  cases xs with
  | nil => simp [List.intercalate]
  | cons y ys =>
   simp [List.intercalate] at ih ⊢
   exact ih
theorem row_step (ere : Bool) (k mn mx n : Int) (s : W4) (kids : List Rx) (H : ∀ a, a ∈ kids → PartOk ere a) (H1 : PartOk ere (.mk k mn mx n s kids)) : RowOk ere (.mk k mn mx n s kids) := by
 refine ⟨fun x l i m b e c c' k3 hR h hg hd hm hr hen hf => ?_⟩
 have k3 : k ≠ 3 := k3
 have h0 := h
 obtain ⟨h1, h2, h⟩ := chk_inv h
 obtain ⟨l1, l2, l3, l4⟩ := lean_inv h2
 have hR' := rxOk_kid hR
 have hsz := hr.len
 rw [List.length_append] at hsz
 unfold pRow
 by_cases k2 : k = 2
 ·
  subst k2
  rcases h with ⟨hk, _⟩ | ⟨_, hq⟩ | ⟨hk, _⟩ | ⟨hk, _⟩ | ⟨hk, _⟩ | ⟨hk, _⟩ | ⟨hk, _⟩ | ⟨hk, _⟩ <;> try omega
  obtain ⟨rfl, rfl⟩ := l1 (by decide)
  obtain rfl := l3 (by decide)
  obtain rfl := l2 (by decide) (by decide)
  have et : txt ere (.mk 2 0 0 0 W4.z kids) = (txts ere kids).flatten := by
   rw [txt_mk, if_neg (by decide), if_pos rfl, join_nil]
  rw [et] at hr hsz ⊢
  have hl := flat_len ere kids (fun r hr => (cat_op kids true _ _ hq hg hR'.2 r hr).2.2.2)
  have q := rowL_ok (began := i) hd hen hf kids H (x.size + 1) [] i m true ⟨c.n + 1, c.g, c.d⟩ c' hq rfl hR'.2 hg (by show m ≤ c.n + 1; omega) hr (fun _ => rfl) (by omega)
  show pRowL (pCh x ere (6 - c.d)) x ere i (x.size + 1) [] ⟨i, m, c.g, c.d⟩ = _
  rw [q, List.nil_append]
  have hk1 : kids.length ≠ 1 := by
   unfold kidsFit at l4
   rw [if_pos rfl] at l4
   simpa using l4
  have ez : nds (.mk 2 0 0 0 W4.z kids) = 1 + ndss kids := by rw [nds]
  rw [ez]
  unfold rowOut
  split
  ·
   exact absurd rfl hk1
  ·
   show Out.mk _ _ (St.mk _ (m + ndss kids + 1) _ _) = _
   rw [show m + ndss kids + 1 = m + (1 + ndss kids) by omega]
 ·
  have o := (op_any ere (.mk k mn mx n s kids)).all _ _ _ _ k2 k3 h0 hg hR
  have p := H1.all x l i i m b e c c' k2 k3 hR h0 hg hd hm hr (ends_noRep hen) (fun _ => rfl) (fun h _ => hf h)
  obtain ⟨f, hf'⟩ : ∃ f, x.size = f + 1 := ⟨x.size - 1, by omega⟩
  show pRowL (pCh x ere (6 - c.d)) x ere i (x.size + 1) [] ⟨i, m, c.g, c.d⟩ = _
  rw [hf', pRowL]
  show (if ends (sgn x ere i).1 = true then _ else _) = _
  rw [hr.sign ere, (o.1 l).noEnd, if_neg (by simp)]
  show (if (pPart (pCh x ere (6 - c.d)) x ere i ⟨i, m, c.g, c.d⟩).e ≠ 0 then _ else pRowL _ x ere i (f + 1) (keepL (pPart (pCh x ere (6 - c.d)) x ere i ⟨i, m, c.g, c.d⟩).st.n [] (pPart (pCh x ere (6 - c.d)) x ere i ⟨i, m, c.g, c.d⟩).r) (pPart (pCh x ere (6 - c.d)) x ere i ⟨i, m, c.g, c.d⟩).st) = _
  rw [p, if_neg (by simp)]
  have cn := (cnt_any (.mk k mn mx n s kids)).all _ _ _ _ _ h0
  have hk : keepL (m + nds (.mk k mn mx n s kids)) [] (.mk k mn mx n s kids) = [.mk k mn mx n s kids] := by
   unfold keepL
   rw [if_neg (by omega)]
   rfl
  show pRowL _ x ere i (f + 1) (keepL (m + nds (.mk k mn mx n s kids)) [] (.mk k mn mx n s kids)) ⟨i + (txt ere (.mk k mn mx n s kids)).length, m + nds (.mk k mn mx n s kids), c'.g, c.d⟩ = _
  rw [hk, pRowL]
  show (if ends (sgn x ere (i + (txt ere (.mk k mn mx n s kids)).length)).1 = true then _ else _) = _
  rw [hr.step.sign ere, if_pos hen]
  rfl

def bars (ere : Bool) (rs : List Rx) : List UInt8 := (rs.map (fun r => 124 :: txt ere r)).flatten
theorem join_bar (ere : Bool) (r : Rx) (rs : List Rx) : Lib.join (txts ere (r :: rs)) [124] = txt ere r ++ bars ere rs := by
 unfold Lib.join bars
 induction rs generalizing r with
 | nil => simp [txts, List.intercalate]
 | cons y ys ih =>
  have e : [124].intercalate (txts ere (r :: y :: ys)) = txt ere r ++ (124 :: [124].intercalate (txts ere (y :: ys))) := by
   simp [txts, List.intercalate]
  rw [e, ih y]
  simp
theorem chL_ok {s : ByteArray} {l : List UInt8} {d : Nat} (hd : d ≤ 6) (hfo : fol (sgL true l).1) :
  ∀ (rs : List Rx) (_ : ∀ r ∈ rs, RowOk true r) (f : Nat) (ks : List Rx) (i n : Nat) (c c' : Ck), chkAlt true rs c = some c' → c.d = d → (∀ r ∈ rs, RxOk r) → c.g ≤ 3 → n ≤ c.n → Rest s i (bars true rs ++ l) → rs.length < f →
   pChL (pCh s true (6 - d)) s true f ks ⟨i, n, c.g, d⟩ = ⟨.mk 3 0 0 0 W4.z (ks ++ rs), 0, ⟨i + (bars true rs).length, n + ndss rs + 1, c'.g, d⟩⟩
 | [], _, f, ks, i, n, c, c', h, hcd, hR, hg, hn, hr, hl => by
  obtain ⟨f, rfl⟩ : ∃ k, f = k + 1 := ⟨f - 1, by simp at hl; omega⟩
  rw [chkAlt] at h
  cases h
  have hr' : Rest s i l := by simpa [bars] using hr
  rw [pChL]
  show (if (sgn s true i).1 = 9 then _ else _) = _
  rw [hr'.sign true, if_neg (by unfold fol at hfo; omega)]
  simp [bars, ndss]
 | r :: rs, H, f, ks, i, n, c, c', h, hcd, hR, hg, hn, hr, hl => by
  obtain ⟨f, rfl⟩ : ∃ k, f = k + 1 := ⟨f - 1, by simp at hl; omega⟩
  rw [chkAlt] at h
  split at h
  ·
   cases h
  rename_i k3
  split at h
  ·
   cases h
  rename_i c1 h1
  have cn := (cnt_any r).all _ _ _ _ _ h1
  have hr0 : Rest s i (124 :: (txt true r ++ (bars true rs ++ l))) := by simpa [bars] using hr
  have hsg : (sgL true (bars true rs ++ l)).1 = 9 ∨ fol (sgL true (bars true rs ++ l)).1 := by
   cases rs with
   | nil => exact Or.inr (by simpa [bars] using hfo)
   | cons y ys => exact Or.inl rfl
  have hen : ends (sgL true (bars true rs ++ l)).1 = true := by
   unfold fol at hsg
   unfold ends
   rcases hsg with h | h | h <;> rw [h] <;> rfl
  have hp := (H r (by simp)).all s _ (i + 1) n false false c c1 k3 (hR r (by simp)) h1 hg (by omega) hn hr0.tail hen (fun h => by cases h)
  rw [hcd] at hp
  rw [pChL]
  show (if (sgn s true i).1 = 9 then _ else _) = _
  rw [hr0.sign true, if_pos (show (sgL true (124 :: (txt true r ++ (bars true rs ++ l)))).1 = 9 from rfl)]
  show (if (pRow (pCh s true (6 - d)) s true ⟨i + 1, n, c.g, d⟩).e ≠ 0 then _ else pChL _ s true f (keepL (pRow (pCh s true (6 - d)) s true ⟨i + 1, n, c.g, d⟩).st.n ks (pRow (pCh s true (6 - d)) s true ⟨i + 1, n, c.g, d⟩).r) (pRow (pCh s true (6 - d)) s true ⟨i + 1, n, c.g, d⟩).st) = _
  rw [hp, if_neg (by simp)]
  have hk : keepL (n + nds r) ks r = ks ++ [r] := by
   unfold keepL
   rw [if_neg (by omega)]
  show pChL _ s true f (keepL (n + nds r) ks r) ⟨i + 1 + (txt true r).length, n + nds r, c1.g, d⟩ = _
  rw [hk, chL_ok hd hfo rs (fun y hy => H y (by simp [hy])) f (ks ++ [r]) (i + 1 + (txt true r).length) (n + nds r) c1 c' h (cn.2.2.1.trans hcd) (fun y hy => hR y (by simp [hy])) (cn.2.2.2 hg) (by omega) hr0.tail.step (by simp at hl; omega)]
  have eb : (bars true (r :: rs)).length = 1 + (txt true r).length + (bars true rs).length := by
   simp [bars]
   omega
  rw [eb, ndss, List.append_assoc, show i + 1 + (txt true r).length + (bars true rs).length = i + (1 + (txt true r).length + (bars true rs).length) by omega, show n + nds r + ndss rs + 1 = n + (nds r + ndss rs) + 1 by omega]
  rfl
theorem bars_len (ere : Bool) (rs : List Rx) : rs.length ≤ (bars ere rs).length := by
 unfold bars
 induction rs with
 | nil => simp
 | cons r rs ih =>
  rw [List.map_cons, List.flatten_cons, List.length_append, List.length_cons, List.length_cons]
  omega
theorem ch_step (ere : Bool) (k mn mx n : Int) (s : W4) (kids : List Rx) (H : ∀ a, a ∈ kids → RowOk ere a) (H1 : RowOk ere (.mk k mn mx n s kids)) : ChOk ere (.mk k mn mx n s kids) := by
 refine ⟨fun x l i m c c' hR h hg hd hm hr hf => ?_⟩
 have h0 := h
 obtain ⟨h1, h2, h⟩ := chk_inv h
 obtain ⟨l1, l2, l3, l4⟩ := lean_inv h2
 have hR' := rxOk_kid hR
 have hsz := hr.len
 rw [List.length_append] at hsz
 rw [show 7 - c.d = (6 - c.d) + 1 by omega, pCh]
 unfold pCh1
 by_cases k3 : k = 3
 ·
  subst k3
  rcases h with ⟨hk, _⟩ | ⟨hk, _⟩ | ⟨_, he, hq⟩ | ⟨hk, _⟩ | ⟨hk, _⟩ | ⟨hk, _⟩ | ⟨hk, _⟩ | ⟨hk, _⟩ <;> try omega
  subst he
  obtain ⟨rfl, rfl⟩ := l1 (by decide)
  obtain rfl := l3 (by decide)
  obtain rfl := l2 (by decide) (by decide)
  have hk2 : 2 ≤ kids.length := by
   unfold kidsFit at l4
   rw [if_neg (by decide), if_pos rfl] at l4
   simpa using l4
  obtain ⟨r, r2, rs, rfl⟩ : ∃ r r2 rs, kids = r :: r2 :: rs := by
   match kids, hk2 with
   | r :: r2 :: rs, _ => exact ⟨r, r2, rs, rfl⟩
  have et : txt true (.mk 3 0 0 0 W4.z (r :: r2 :: rs)) = txt true r ++ bars true (r2 :: rs) := by
   rw [txt_mk, if_neg (by decide), if_neg (by decide), if_pos rfl, join_bar]
  rw [et] at hr hsz ⊢
  rw [chkAlt] at hq
  split at hq
  ·
   cases hq
  rename_i k3'
  split at hq
  ·
   cases hq
  rename_i c1 hx
  have cn := (cnt_any r).all _ _ _ _ _ hx
  have hr0 : Rest x i (txt true r ++ (bars true (r2 :: rs) ++ l)) := by rw [← List.append_assoc]; exact hr
  have hp := (H r (by simp)).all x _ i m false false ⟨c.n + 1, c.g, c.d⟩ c1 k3' (hR'.2 r (by simp)) hx hg hd (by show m ≤ c.n + 1; omega) hr0 rfl (fun h => by cases h)
  have hp : pRow (pCh x true (6 - c.d)) x true ⟨i, m, c.g, c.d⟩ = ⟨r, 0, ⟨i + (txt true r).length, m + nds r, c1.g, c.d⟩⟩ := hp
  show (if (pRow (pCh x true (6 - c.d)) x true ⟨i, m, c.g, c.d⟩).e ≠ 0 ∨ (sgn x true (pRow (pCh x true (6 - c.d)) x true ⟨i, m, c.g, c.d⟩).st.i).1 ≠ 9 then _ else _) = _
  rw [hp]
  rw [if_neg (by
   show ¬((0 : Nat) ≠ 0 ∨ (sgn x true (i + (txt true r).length)).1 ≠ 9)
   rw [hr0.step.sign true]
   rintro (h | h)
   ·
    exact h rfl
   ·
    exact h rfl)]
  have hbl := bars_len true (r2 :: rs)
  rw [List.length_append] at hsz
  have q := chL_ok (s := x) (l := l) (d := c.d) hd hf (r2 :: rs) (fun y hy => H y (List.mem_cons_of_mem _ hy)) (x.size + 1) [r] (i + (txt true r).length) (m + nds r) c1 c' hq (cn.2.2.1) (fun y hy => hR'.2 y (List.mem_cons_of_mem _ hy)) (cn.2.2.2 hg) (by have := cn.1; simp at this; omega) hr0.step (by omega)
  show pChL (pCh x true (6 - c.d)) x true (x.size + 1) [r] ⟨i + (txt true r).length, m + nds r, c1.g, c.d⟩ = _
  rw [q, List.length_append, Nat.add_assoc]
  have ez : nds (.mk 3 0 0 0 W4.z (r :: r2 :: rs)) = nds r + ndss (r2 :: rs) + 1 := by
   rw [nds]
   conv => lhs; rw [ndss]
   omega
  rw [ez, show m + nds r + ndss (r2 :: rs) + 1 = m + (nds r + ndss (r2 :: rs) + 1) by omega]
  rfl
 ·
  have hen : ends (sgL ere l).1 = true := by
   unfold fol at hf
   unfold ends
   rcases hf with h | h <;> rw [h] <;> rfl
  have hp := H1.all x l i m true true c c' k3 hR h0 hg hd hm hr hen (fun _ => hf)
  show (if (pRow (pCh x ere (6 - c.d)) x ere ⟨i, m, c.g, c.d⟩).e ≠ 0 ∨ (sgn x ere (pRow (pCh x ere (6 - c.d)) x ere ⟨i, m, c.g, c.d⟩).st.i).1 ≠ 9 then _ else _) = _
  rw [hp]
  rw [if_pos (by
   right
   show (sgn x ere (i + _)).1 ≠ 9
   rw [hr.step.sign ere]
   unfold fol at hf
   omega)]
structure AllOk (ere : Bool) (r : Rx) : Prop where
 one : OneOk ere r
 part : PartOk ere r
 row : RowOk ere r
 ch : ChOk ere r
theorem all_ok (ere : Bool) : ∀ r, AllOk ere r
 | .mk k mn mx n s kids => by
  have H : ∀ a, a ∈ kids → AllOk ere a := fun a _ => all_ok ere a
  have h1 := one_step ere k mn mx n s kids (fun a ha => (H a ha).ch)
  have h2 := part_step ere k mn mx n s kids (fun a ha => (H a ha).one) h1
  have h3 := row_step ere k mn mx n s kids (fun a ha => (H a ha).part) h2
  exact ⟨h1, h2, h3, ch_step ere k mn mx n s kids (fun a ha => (H a ha).row) h3⟩
termination_by r => SizeOf.sizeOf r
decreasing_by
 have := List.sizeOf_lt_of_mem (by assumption)
 simp
 omega
theorem trip (ere : Bool) (r : Rx) (hR : RxOk r) (h : right ere r = true) : pParse (bs (txt ere r)) ere = (r, 0, 0) := by
 unfold right at h
 obtain ⟨c', hc⟩ := Option.isSome_iff_exists.1 h
 have hr : Rest (bs (txt ere r)) 0 (txt ere r ++ []) := by rw [List.append_nil]; exact Rest.of _
 have cn := (cnt_any r).all _ _ _ _ _ hc
 have q := (all_ok ere r).ch.all (bs (txt ere r)) [] 0 0 ⟨0, 0, 0⟩ c' hR hc (Nat.zero_le _) (Nat.zero_le _) (Nat.le_refl _) hr (Or.inl rfl)
 have q : pCh (bs (txt ere r)) ere 7 ⟨0, 0, 0, 0⟩ = ⟨r, 0, ⟨0 + (txt ere r).length, 0 + nds r, c'.g, 0⟩⟩ := q
 have hw : pWhole (bs (txt ere r)) ere = ⟨r, 0, ⟨0 + (txt ere r).length, 0 + nds r, c'.g, 0⟩⟩ := by
  unfold pWhole
  show (if (pCh (bs (txt ere r)) ere 7 ⟨0, 0, 0, 0⟩).e ≠ 0 then _ else _) = _
  rw [q]
  rw [if_neg (by simp)]
  have hg := cn.2.2.2 (Nat.zero_le 3)
  have hn := cn.1
  have hn2 := cn.2.1
  show (if 0 + (txt ere r).length < (bs (txt ere r)).size then _ else if 0 + nds r > 40 ∨ c'.g > 3 then _ else _) = _
  rw [if_neg (by rw [bs_size]; omega), if_neg (by simp at hn; omega)]
 unfold pParse
 show (if (pWhole (bs (txt ere r)) ere).e ≠ 0 then _ else _) = _
 rw [hw]
 rfl
end Go.Proofs.YtigdmebijbaofaaGreatDoor.Trip
