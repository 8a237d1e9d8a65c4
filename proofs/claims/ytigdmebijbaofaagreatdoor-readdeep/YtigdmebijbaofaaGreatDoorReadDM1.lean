/-
  Texts of this claim: Shelf, Bits, BW.
-/
import Derived.Shelf.Strings.Builder1
import Derived.Shelf.Strings.Builder2
import Derived.Shelf.Strings.OnBuilder
import Derived.Shelf.Strings.BuilderF
import Derived.Shelf.Strings.BuilderK
import Derived.Shelf.Strings.Builder2Cap
import Derived.Shelf.Strconv.Itoa0
import Derived.Shelf.Strconv.Itoa1
import Derived.Shelf.LaysM
import Derived.Shelf.Strconv.Itoa2
import Derived.Shelf.Strconv.Itoa3
import Derived.Shelf.Strings.Search1
import Derived.Shelf.Strings.Search2
import Derived.Shelf.Strings.Cut
import Derived.Shelf.Strings.Shaped
import Derived.Shelf.Strings.Prefix
import Derived.Shelf.Strings.BuilderCap
import Derived.Test.YtigdmebijbaofaaGreatDoorProg
import Derived.Laws.BitsAllLaws
import Derived.Laws.Bits64
import Derived.Test.YtigdmebijbaofaaGreatDoorChecked
import Derived.WalkKit
import Derived.WalkSpells
import Derived.WalkLawsBesides
import Derived.Deep.QuietTactic
import Derived.BigQuiet
import Derived.Laws.Bits128
/-! ### Shelf -/
namespace Go.Proofs
open Go.Shelf Go.RowKit
def Tryz.lays156_ren : Go.Shelf.Ren := ⟨fun | 156 => 116 | 165 => 159 | 166 => 84 | 169 => 86 | 240 => 123 | 241 => 193 | 276 => 166 | 277 => 222 | n => n, fun | 31 => 87 | 9 => 9 | 3 => 3 | 4 => 4 | 0 => 0 | 20 => 20 | 72 => 128 | 76 => 131 | 70 => 126 | 37 => 59 | 75 => 130 | 127 => 165 | 164 => 200 | 5 => 5 | 80 => 134 | n => n, fun | n => n⟩
theorem Tryz.lays156 : Go.Proofs.Lays.n156 Tryz.prog Tryz.lays156_ren := {
 mixed := by kernel_rfl
 f156 := Tryz.func116.trans (congrArg some (by kernel_rfl))
 f165 := Tryz.func159.trans (congrArg some (by kernel_rfl))
 f166 := Tryz.func84.trans (congrArg some (by kernel_rfl))
 f169 := Tryz.func86.trans (congrArg some (by kernel_rfl))
 f240 := Tryz.func123.trans (congrArg some (by kernel_rfl))
 f241 := Tryz.func193.trans (congrArg some (by kernel_rfl))
 f276 := Tryz.func166.trans (congrArg some (by kernel_rfl))
 f277 := Tryz.func222.trans (congrArg some (by kernel_rfl))
 t0 := Tryz.underlying0
 a0 := Tryz.isAgg0
 z0 := Tryz.sizeOf0
 v0 := Tryz.zeroValue0
 t3 := Tryz.underlying3
 a3 := Tryz.isAgg3
 z3 := Tryz.sizeOf3
 v3 := Tryz.zeroValue3
 t4 := Tryz.underlying4
 a4 := Tryz.isAgg4
 z4 := Tryz.sizeOf4
 v4 := Tryz.zeroValue4
 t9 := Tryz.underlying9
 a9 := Tryz.isAgg9
 z9 := Tryz.sizeOf9
 v9 := Tryz.zeroValue9
 t20 := Tryz.underlying20
 a20 := Tryz.isAgg20
 z20 := Tryz.sizeOf20
 v20 := Tryz.zeroValue20
 t31 := Tryz.underlying87
 a31 := Tryz.isAgg87
 z31 := Tryz.sizeOf87
 v31 := Tryz.zeroValue87
 t37 := Tryz.underlying59
 a37 := Tryz.isAgg59
 z37 := Tryz.sizeOf59
 v37 := Tryz.zeroValue59
 t70 := Tryz.underlying126
 a70 := Tryz.isAgg126
 z70 := Tryz.sizeOf126
 v70 := Tryz.zeroValue126
 t72 := Tryz.underlying128
 a72 := Tryz.isAgg128
 z72 := Tryz.sizeOf128
 v72 := Tryz.zeroValue128
 t75 := Tryz.underlying130
 a75 := Tryz.isAgg130
 z75 := Tryz.sizeOf130
 v75 := Tryz.zeroValue130
 t76 := Tryz.underlying131
 a76 := Tryz.isAgg131
 z76 := Tryz.sizeOf131
 v76 := Tryz.zeroValue131
 t127 := Tryz.underlying165
 a127 := Tryz.isAgg165
 z127 := Tryz.sizeOf165
 v127 := Tryz.zeroValue165
 t164 := Tryz.underlying200
 a164 := Tryz.isAgg200
 z164 := Tryz.sizeOf200
 v164 := Tryz.zeroValue200 }
theorem Tryz.Builder_Extra_156 : Builder.Extra Tryz.prog Tryz.lays156_ren := {
 sizeBuilder := by kernel_rfl
 liesBuilder := by kernel_rfl
 t5 := Tryz.underlying5
 a5 := Tryz.isAgg5
 z5 := Tryz.sizeOf5
 v5 := Tryz.zeroValue5
 infoByte := by kernel_rfl
 cellsByte := by kernel_rfl
 sizeByte := by kernel_rfl
 neB5 := by decide }
theorem Tryz.strings_Join_none (a : Option Addr) (c : Nat) (sep : ByteArray) (w : World) :
  Calls Tryz.prog 116 #[.slice a 0 c, .string sep] w fun e w' => e = .returned (.string ⟨#[]⟩) ∧ w' = w := Any.strings_Join_none Tryz.lays156 Tryz.Builder_Extra_156 a c sep w
theorem Tryz.strings_Join (bk o c : Nat) (xs : List ByteArray) (sep : ByteArray) (w : World) (hcells : ∀ (j : Nat) x, xs[j]? = some x → w.cell? ⟨bk, o + j, none⟩ = some (.string x)) (hbk : bk < w.heap.size) (hN : xs.length ≤ 140737488355328) (hcap : xs.length ≤ c) (hlen : (Lib.join (xs.map (·.data.toList)) sep.data.toList).length ≤ 140737488355328) :
  Calls Tryz.prog 116 #[.slice (some ⟨bk, o, none⟩) xs.length c, .string sep] w fun e w' => e = .returned (.string ⟨(Lib.join (xs.map (·.data.toList)) sep.data.toList).toArray⟩) ∧ Below w.heap.size w w' := Any.strings_Join Tryz.lays156 Tryz.Builder_Extra_156 bk o c xs sep w hcells hbk hN hcap hlen
def Tryz.lays171_ren : Go.Shelf.Ren := ⟨fun | 171 => 76 | 243 => 111 | 246 => 147 | 283 => 179 | 284 => 180 | 285 => 181 | 286 => 182 | 129 => 213 | 317 => 212 | 318 => 214 | 319 => 215 | 320 => 216 | 337 => 238 | 338 => 239 | n => n, fun | 3 => 3 | 9 => 9 | 2 => 2 | 4 => 4 | 171 => 209 | 0 => 0 | 53 => 22 | 37 => 59 | 5 => 5 | 173 => 212 | 212 => 231 | 51 => 232 | 20 => 20 | 213 => 233 | 46 => 234 | 232 => 262 | 233 => 263 | n => n, fun | 17 => 0 | 18 => 2 | 19 => 3 | n => n⟩
theorem Tryz.lays171 : Go.Proofs.Lays.n171 Tryz.prog Tryz.lays171_ren := {
 mixed := by kernel_rfl
 f129 := Tryz.func213.trans (congrArg some (by kernel_rfl))
 f171 := Tryz.func76.trans (congrArg some (by kernel_rfl))
 f243 := Tryz.func111.trans (congrArg some (by kernel_rfl))
 f246 := Tryz.func147.trans (congrArg some (by kernel_rfl))
 f283 := Tryz.func179.trans (congrArg some (by kernel_rfl))
 f284 := Tryz.func180.trans (congrArg some (by kernel_rfl))
 f285 := Tryz.func181.trans (congrArg some (by kernel_rfl))
 f286 := Tryz.func182.trans (congrArg some (by kernel_rfl))
 f317 := Tryz.func212.trans (congrArg some (by kernel_rfl))
 f318 := Tryz.func214.trans (congrArg some (by kernel_rfl))
 f319 := Tryz.func215.trans (congrArg some (by kernel_rfl))
 f320 := Tryz.func216.trans (congrArg some (by kernel_rfl))
 f337 := Tryz.func238.trans (congrArg some (by kernel_rfl))
 f338 := Tryz.func239.trans (congrArg some (by kernel_rfl))
 t0 := Tryz.underlying0
 a0 := Tryz.isAgg0
 z0 := Tryz.sizeOf0
 v0 := Tryz.zeroValue0
 t2 := Tryz.underlying2
 a2 := Tryz.isAgg2
 z2 := Tryz.sizeOf2
 v2 := Tryz.zeroValue2
 t3 := Tryz.underlying3
 a3 := Tryz.isAgg3
 z3 := Tryz.sizeOf3
 v3 := Tryz.zeroValue3
 t4 := Tryz.underlying4
 a4 := Tryz.isAgg4
 z4 := Tryz.sizeOf4
 v4 := Tryz.zeroValue4
 t5 := Tryz.underlying5
 a5 := Tryz.isAgg5
 z5 := Tryz.sizeOf5
 v5 := Tryz.zeroValue5
 t9 := Tryz.underlying9
 a9 := Tryz.isAgg9
 z9 := Tryz.sizeOf9
 v9 := Tryz.zeroValue9
 t20 := Tryz.underlying20
 a20 := Tryz.isAgg20
 z20 := Tryz.sizeOf20
 v20 := Tryz.zeroValue20
 t37 := Tryz.underlying59
 a37 := Tryz.isAgg59
 z37 := Tryz.sizeOf59
 v37 := Tryz.zeroValue59
 t46 := Tryz.underlying234
 a46 := Tryz.isAgg234
 z46 := Tryz.sizeOf234
 v46 := Tryz.zeroValue234
 t51 := Tryz.underlying232
 a51 := Tryz.isAgg232
 z51 := Tryz.sizeOf232
 v51 := Tryz.zeroValue232
 t53 := Tryz.underlying22
 a53 := Tryz.isAgg22
 z53 := Tryz.sizeOf22
 v53 := Tryz.zeroValue22
 t171 := Tryz.underlying209
 a171 := Tryz.isAgg209
 z171 := Tryz.sizeOf209
 v171 := Tryz.zeroValue209
 t173 := Tryz.underlying212
 a173 := Tryz.isAgg212
 z173 := Tryz.sizeOf212
 v173 := Tryz.zeroValue212
 t212 := Tryz.underlying231
 a212 := Tryz.isAgg231
 z212 := Tryz.sizeOf231
 v212 := Tryz.zeroValue231
 t213 := Tryz.underlying233
 a213 := Tryz.isAgg233
 z213 := Tryz.sizeOf233
 t232 := Tryz.underlying262
 a232 := Tryz.isAgg262
 z232 := Tryz.sizeOf262
 v232 := Tryz.zeroValue262
 t233 := Tryz.underlying263
 a233 := Tryz.isAgg263
 z233 := Tryz.sizeOf263
 v233 := Tryz.zeroValue263
 g17 := by kernel_rfl
 g18 := by kernel_rfl
 g19 := by kernel_rfl }
theorem Tryz.strconv_Itoa_small (i : Nat) (hi : i < 100) (w : World) :
  Calls Tryz.prog 76 #[.int .i64 i] w fun e w' => e = .returned (.string ⟨(Lib.decDigits i).toArray⟩) ∧ w' = w := Any.strconv_Itoa_small Tryz.lays171 i hi w
def Tryz.lays145_ren : Go.Shelf.Ren := ⟨fun | 145 => 264 | 220 => 267 | 219 => 273 | 217 => 178 | 225 => 274 | 224 => 275 | 267 => 276 | 266 => 211 | 314 => 277 | n => n, fun | 9 => 9 | 4 => 4 | 59 => 272 | 3 => 3 | 5 => 5 | 46 => 234 | 146 => 279 | 51 => 232 | n => n, fun | 1 => 1 | n => n⟩
theorem Tryz.lays145 : Go.Proofs.Lays.n145 Tryz.prog Tryz.lays145_ren := {
 mixed := by kernel_rfl
 f145 := Tryz.func264.trans (congrArg some (by kernel_rfl))
 f217 := Tryz.func178.trans (congrArg some (by kernel_rfl))
 f219 := Tryz.func273.trans (congrArg some (by kernel_rfl))
 f220 := Tryz.func267.trans (congrArg some (by kernel_rfl))
 f224 := Tryz.func275.trans (congrArg some (by kernel_rfl))
 f225 := Tryz.func274.trans (congrArg some (by kernel_rfl))
 f266 := Tryz.func211.trans (congrArg some (by kernel_rfl))
 f267 := Tryz.func276.trans (congrArg some (by kernel_rfl))
 f314 := Tryz.func277.trans (congrArg some (by kernel_rfl))
 t3 := Tryz.underlying3
 a3 := Tryz.isAgg3
 z3 := Tryz.sizeOf3
 v3 := Tryz.zeroValue3
 t4 := Tryz.underlying4
 a4 := Tryz.isAgg4
 z4 := Tryz.sizeOf4
 v4 := Tryz.zeroValue4
 t5 := Tryz.underlying5
 a5 := Tryz.isAgg5
 z5 := Tryz.sizeOf5
 v5 := Tryz.zeroValue5
 t9 := Tryz.underlying9
 a9 := Tryz.isAgg9
 z9 := Tryz.sizeOf9
 v9 := Tryz.zeroValue9
 t46 := Tryz.underlying234
 a46 := Tryz.isAgg234
 z46 := Tryz.sizeOf234
 v46 := Tryz.zeroValue234
 t51 := Tryz.underlying232
 a51 := Tryz.isAgg232
 z51 := Tryz.sizeOf232
 v51 := Tryz.zeroValue232
 t59 := Tryz.underlying272
 a59 := Tryz.isAgg272
 z59 := Tryz.sizeOf272
 v59 := Tryz.zeroValue272
 t146 := Tryz.underlying279
 a146 := Tryz.isAgg279
 z146 := Tryz.sizeOf279
 v146 := Tryz.zeroValue279
 g1 := by kernel_rfl }
theorem Tryz.strings_Cut (s sep : ByteArray) (m : Int) (w : World) (hs : s.size < 4294967281) (hm : w.cell? ⟨1, 0, none⟩ = some (.int .i64 m)) :
  Calls Tryz.prog 264 #[.string s, .string sep] w fun e w' => e = .returned (.tuple #[.string ⟨(Lib.cut s.data.toList sep.data.toList).1.toArray⟩, .string ⟨(Lib.cut s.data.toList sep.data.toList).2.1.toArray⟩, .bool (Lib.cut s.data.toList sep.data.toList).2.2]) ∧ ∃ n, w' = w.drewN n := Any.strings_Cut Tryz.lays145 s sep m w hs hm
def Tryz.lays99_ren : Go.Shelf.Ren := ⟨fun | 99 => 256 | 206 => 263 | n => n, fun | 9 => 9 | 4 => 4 | 3 => 3 | n => n, fun | n => n⟩
theorem Tryz.lays99 : Go.Proofs.Lays.n99 Tryz.prog Tryz.lays99_ren := {
 mixed := by kernel_rfl
 f99 := Tryz.func256.trans (congrArg some (by kernel_rfl))
 f206 := Tryz.func263.trans (congrArg some (by kernel_rfl))
 t3 := Tryz.underlying3
 a3 := Tryz.isAgg3
 z3 := Tryz.sizeOf3
 v3 := Tryz.zeroValue3
 t4 := Tryz.underlying4
 a4 := Tryz.isAgg4
 z4 := Tryz.sizeOf4
 v4 := Tryz.zeroValue4
 t9 := Tryz.underlying9
 a9 := Tryz.isAgg9
 z9 := Tryz.sizeOf9
 v9 := Tryz.zeroValue9 }
theorem Tryz.strings_HasPrefix (s p : ByteArray) (w : World) :
  Calls Tryz.prog 256 #[.string s, .string p] w fun e w' => e = .returned (.bool (Lib.hasPrefix s.data.toList p.data.toList)) ∧ w' = w := Any.strings_HasPrefix Tryz.lays99 s p w
end Go.Proofs
/-! ### Bits -/
namespace Go.Proofs.YtigdmebijbaofaaGreatDoor
def hn (B : Nat) : (Nat → Nat) → Nat → Nat
 | _, 0 => 0
 | f, n + 1 => f 0 + B * hn B (fun i => f (i + 1)) n
theorem hn_add (B : Nat) (n : Nat) : ∀ f g : Nat → Nat, hn B f n + hn B g n = hn B (fun i => f i + g i) n := by
 induction n with
 | zero => intro f g; rfl
 | succ n ih => intro f g; simp only [hn]; rw [← ih]; rw [Nat.mul_add]; omega
theorem hn_congr (B : Nat) (n : Nat) : ∀ f g : Nat → Nat, (∀ i, i < n → f i = g i) → hn B f n = hn B g n := by
 induction n with
 | zero => intro f g _; rfl
 | succ n ih =>
  intro f g h
  simp only [hn]
  rw [h 0 (by omega), ih _ (fun i => g (i + 1)) (fun i hi => h (i + 1) (by omega))]
theorem hn_lt (B : Nat) (n : Nat) : ∀ f : Nat → Nat, (∀ i, i < n → f i < B) → hn B f n < B ^ n := by
 induction n with
 | zero => intro f _; simp [hn]
 | succ n ih =>
  intro f h
  have h1 := ih (fun i => f (i + 1)) (fun i hi => h (i + 1) (by omega))
  have h0 := h 0 (by omega)
  simp only [hn]
  rw [Nat.pow_succ, Nat.mul_comm (B ^ n) B]
  have : B * (hn B (fun i => f (i + 1)) n + 1) ≤ B * B ^ n := Nat.mul_le_mul_left _ h1
  rw [Nat.mul_add] at this; omega
theorem hn_last (B : Nat) (n : Nat) : ∀ f : Nat → Nat, f n = 0 → hn B f (n + 1) = hn B f n := by
 induction n with
 | zero => intro f h; simp [hn, h]
 | succ n ih => intro f h; rw [hn, ih (fun i => f (i + 1)) h]; rfl
theorem hn_div (B : Nat) (hB : 0 < B) (n : Nat) (f : Nat → Nat) (hf : ∀ i, f i < B) (h0 : ∀ i, n ≤ i → f i = 0) : hn B f n / B = hn B (fun i => f (i + 1)) n := by
 rw [← hn_last B n f (h0 n (Nat.le_refl _))]
 rw [hn, Nat.add_mul_div_left _ _ hB, Nat.div_eq_of_lt (hf 0), Nat.zero_add]
theorem and_parts (k a b c d : Nat) (ha : a < 2 ^ k) (hc : c < 2 ^ k) : (a + 2 ^ k * b) &&& (c + 2 ^ k * d) = (a &&& c) + 2 ^ k * (b &&& d) := by
 have hac : a &&& c < 2 ^ k := Nat.and_lt_two_pow _ hc
 apply Nat.eq_of_testBit_eq
 intro i
 rw [Nat.testBit_and, Nat.add_comm a, Nat.add_comm c, Nat.add_comm (a &&& c)]
 rw [Nat.testBit_two_pow_mul_add _ ha, Nat.testBit_two_pow_mul_add _ hc, Nat.testBit_two_pow_mul_add _ hac]
 split
 ·
  rw [Nat.testBit_and]
 ·
  rw [Nat.testBit_and]
theorem hn_even (k : Nat) (n : Nat) : ∀ f : Nat → Nat, (∀ i, f i < 2 ^ k) →
  hn (2 ^ k) f (2 * n) &&& hn (2 ^ (k + k)) (fun _ => 2 ^ k - 1) n = hn (2 ^ (k + k)) (fun i => f (2 * i)) n := by
 induction n with
 | zero => intro f _; simp [hn]
 | succ n ih =>
  intro f hf
  have e : hn (2 ^ k) f (2 * (n + 1)) = (f 0 + 2 ^ k * f 1) + 2 ^ (k + k) * hn (2 ^ k) (fun i => f (i + 2)) (2 * n) := by
   rw [show 2 * (n + 1) = 2 * n + 1 + 1 from rfl, hn, hn, Nat.mul_add, Nat.pow_add, Nat.mul_assoc, Nat.add_assoc]
  have p : 0 < 2 ^ k := Nat.two_pow_pos k
  have l1 : f 0 + 2 ^ k * f 1 < 2 ^ (k + k) := by
   have := hf 0
   have : 2 ^ k * (f 1 + 1) ≤ 2 ^ k * 2 ^ k := Nat.mul_le_mul_left _ (hf 1)
   rw [Nat.pow_add]; rw [Nat.mul_add] at this; omega
  have l2 : 2 ^ k - 1 < 2 ^ (k + k) := by
   have : 2 ^ k * 1 ≤ 2 ^ k * 2 ^ k := Nat.mul_le_mul_left _ p
   rw [Nat.pow_add]; omega
  have m1 : (f 0 + 2 ^ k * f 1) &&& (2 ^ k - 1) = f 0 := by
   rw [Nat.and_two_pow_sub_one_eq_mod, Nat.add_mul_mod_self_left, Nat.mod_eq_of_lt (hf 0)]
  have := ih (fun i => f (i + 2)) (fun i => hf (i + 2))
  rw [e, hn, and_parts _ _ _ _ _ l1 l2, m1, this, hn]
  rfl
def sm (f : Nat → Nat) : Nat → Nat
 | 0 => 0
 | n + 1 => sm f n + f n
def pop (x : Nat) : Nat :=
 let a := (x / 2 &&& 6148914691236517205) + (x &&& 6148914691236517205)
 let b := (a / 4 &&& 3689348814741910323) + (a &&& 3689348814741910323)
 let c := (b / 16 + b) &&& 1085102592571150095
 let d := c + c / 256
 let e := d + d / 65536
 let g := e + e / 4294967296
 g % 128
theorem pop_eq (f : Nat → Nat) (hf : ∀ i, f i < 2) (h0 : ∀ i, 64 ≤ i → f i = 0) : pop (hn 2 f 64) = sm f 64 := by
 have ha : (hn 2 f 64 / 2 &&& 6148914691236517205) + (hn 2 f 64 &&& 6148914691236517205) = hn 4 (fun i => f (2 * i + 1) + f (2 * i)) 32 := by
  have e1 := hn_even 1 32 f hf
  have e2 := hn_even 1 32 (fun i => f (i + 1)) (fun i => hf (i + 1))
  have d1 := hn_div 2 (by omega) 64 f hf h0
  rw [d1, show (6148914691236517205 : Nat) = hn (2 ^ (1 + 1)) (fun _ => 2 ^ 1 - 1) 32 by decide +kernel, e1, e2, hn_add]
 have hb : ∀ g : Nat → Nat, (∀ i, g i < 3) → (∀ i, 32 ≤ i → g i = 0) → (hn 4 g 32 / 4 &&& 3689348814741910323) + (hn 4 g 32 &&& 3689348814741910323) = hn 16 (fun i => g (2 * i + 1) + g (2 * i)) 16 := by
  intro g hg g0
  have hg' : ∀ i, g i < 2 ^ 2 := fun i => Nat.lt_trans (hg i) (by decide)
  have e1 := hn_even 2 16 g hg'
  have e2 := hn_even 2 16 (fun i => g (i + 1)) (fun i => hg' (i + 1))
  have d1 := hn_div 4 (by omega) 32 g hg' g0
  rw [d1, show (3689348814741910323 : Nat) = hn (2 ^ (2 + 2)) (fun _ => 2 ^ 2 - 1) 16 by decide +kernel, e1, e2, hn_add]
 have hc : ∀ g : Nat → Nat, (∀ i, g i < 5) → (∀ i, 16 ≤ i → g i = 0) → (hn 16 g 16 / 16 + hn 16 g 16) &&& 1085102592571150095 = hn 256 (fun i => g (2 * i + 1) + g (2 * i)) 8 := by
  intro g hg g0
  have d1 := hn_div 16 (by omega) 16 g (fun i => Nat.lt_trans (hg i) (by decide)) g0
  have e1 := hn_even 4 8 (fun i => g (i + 1) + g i) (fun i => by have := hg i; have := hg (i + 1); show g (i + 1) + g i < 16; omega)
  rw [d1, hn_add, show (1085102592571150095 : Nat) = hn (2 ^ (4 + 4)) (fun _ => 2 ^ 4 - 1) 8 by decide +kernel]
  exact e1
 have hd : ∀ g : Nat → Nat, (∀ i, g i < 9) → (∀ i, 8 ≤ i → g i = 0) → (let d := hn 256 g 8 + hn 256 g 8 / 256
   let e := d + d / 65536
   let q := e + e / 4294967296
   q % 128) = g 0 + g 1 + g 2 + g 3 + g 4 + g 5 + g 6 + g 7 := by
  intro g hg g0
  have d1 := hn_div 256 (by omega) 8 g (fun i => Nat.lt_trans (hg i) (by decide)) g0
  have hg1 : ∀ i, g i + g (i + 1) < 256 := fun i => by have := hg i; have := hg (i + 1); omega
  have g1 : ∀ i, 8 ≤ i → g i + g (i + 1) = 0 := fun i hi => by rw [g0 i hi, g0 (i + 1) (by omega)]
  have d2 : hn 256 (fun i => g i + g (i + 1)) 8 / 65536 = hn 256 (fun i => g (i + 2) + g (i + 3)) 8 := by
   rw [show 65536 = 256 * 256 from rfl, ← Nat.div_div_eq_div_mul, hn_div 256 (by omega) 8 _ hg1 g1, hn_div 256 (by omega) 8 _ (fun i => hg1 (i + 1)) (fun i hi => g1 (i + 1) (by omega))]
  have hg2 : ∀ i, g i + g (i + 1) + (g (i + 2) + g (i + 3)) < 256 := fun i => by have := hg i; have := hg (i + 1); have := hg (i + 2); have := hg (i + 3); omega
  have g2 : ∀ i, 8 ≤ i → g i + g (i + 1) + (g (i + 2) + g (i + 3)) = 0 := fun i hi => by rw [g0 i hi, g0 (i + 1) (by omega), g0 (i + 2) (by omega), g0 (i + 3) (by omega)]
  have d3 : hn 256 (fun i => g i + g (i + 1) + (g (i + 2) + g (i + 3))) 8 / 4294967296 = hn 256 (fun i => g (i + 4) + g (i + 5) + (g (i + 6) + g (i + 7))) 8 := by
   rw [show 4294967296 = 256 * 256 * 256 * 256 from rfl, ← Nat.div_div_eq_div_mul, ← Nat.div_div_eq_div_mul, ← Nat.div_div_eq_div_mul, hn_div 256 (by omega) 8 _ hg2 g2,
    hn_div 256 (by omega) 8 _ (fun i => hg2 (i + 1)) (fun i hi => g2 (i + 1) (by omega)), hn_div 256 (by omega) 8 _ (fun i => hg2 (i + 2)) (fun i hi => g2 (i + 2) (by omega)), hn_div 256 (by omega) 8 _ (fun i => hg2 (i + 3)) (fun i hi => g2 (i + 3) (by omega))]
  show (hn 256 g 8 + hn 256 g 8 / 256 + (hn 256 g 8 + hn 256 g 8 / 256) / 65536 + (hn 256 g 8 + hn 256 g 8 / 256 + (hn 256 g 8 + hn 256 g 8 / 256) / 65536) / 4294967296) % 128 = _
  rw [d1, hn_add, d2, hn_add, d3, hn_add, hn]
  have q0 := hg 0; have q1 := hg 1; have q2 := hg 2; have q3 := hg 3; have q4 := hg 4; have q5 := hg 5; have q6 := hg 6; have q7 := hg 7
  simp only [Nat.zero_add]
  omega
 simp only [pop]
 rw [ha, hb _ (fun i => by have := hf (2 * i); have := hf (2 * i + 1); omega) (fun i hi => by rw [h0 _ (by omega), h0 _ (by omega)]),
  hc _ (fun i => by have := hf (2 * (2 * i)); have := hf (2 * (2 * i) + 1); have := hf (2 * (2 * i + 1)); have := hf (2 * (2 * i + 1) + 1); omega)
   (fun i hi => by rw [h0 _ (by omega), h0 _ (by omega), h0 _ (by omega), h0 _ (by omega)])]
 have b4 : ∀ i, f (2 * (2 * i + 1) + 1) + f (2 * (2 * i + 1)) + (f (2 * (2 * i) + 1) + f (2 * (2 * i))) < 5 := fun i => by
  have := hf (2 * (2 * i)); have := hf (2 * (2 * i) + 1); have := hf (2 * (2 * i + 1)); have := hf (2 * (2 * i + 1) + 1); omega
 refine (hd _ (fun i => by have := b4 (2 * i); have := b4 (2 * i + 1); omega)
   (fun i hi => by simp only [h0 (2 * (2 * (2 * i + 1) + 1) + 1) (by omega), h0 (2 * (2 * (2 * i + 1) + 1)) (by omega), h0 (2 * (2 * (2 * i + 1)) + 1) (by omega), h0 (2 * (2 * (2 * i + 1))) (by omega), h0 (2 * (2 * (2 * i) + 1) + 1) (by omega), h0 (2 * (2 * (2 * i) + 1)) (by omega), h0 (2 * (2 * (2 * i)) + 1) (by omega), h0 (2 * (2 * (2 * i))) (by omega)])).trans ?_
 simp only [sm, Nat.reduceMul, Nat.reduceAdd, Nat.zero_add, Nat.mul_zero]
 omega
def wd (p : Nat → Bool) (i : Nat) : Nat := hn 2 (fun j => if j < 64 then (p (64 * i + j)).toNat else 0) 64
theorem bit_lt (p : Nat → Bool) (i : Nat) : ∀ j, (fun j => if j < 64 then (p (64 * i + j)).toNat else 0) j < 2 := by
 intro j
 show (if j < 64 then (p (64 * i + j)).toNat else 0) < 2
 split
 ·
  exact Bool.toNat_lt _
 ·
  omega
theorem wd_lt (p : Nat → Bool) (i : Nat) : wd p i < 18446744073709551616 := by
 have := hn_lt 2 64 _ (fun j _ => bit_lt p i j)
 exact this
theorem hn_testBit (n : Nat) : ∀ (q : Nat → Bool) (j : Nat), (hn 2 (fun j => (q j).toNat) n).testBit j = (decide (j < n) && q j) := by
 induction n with
 | zero => intro q j; simp [hn]
 | succ n ih =>
  intro q j
  rw [hn]
  cases j with
  | zero =>
   rw [Nat.testBit_zero, Nat.add_mul_mod_self_left]
   cases q 0 <;> simp
  | succ j =>
   rw [Nat.testBit_succ, Nat.add_mul_div_left _ _ (by omega), Nat.div_eq_of_lt (Bool.toNat_lt _), Nat.zero_add, ih (fun i => q (i + 1)) j]
   simp
theorem wd_eq (p : Nat → Bool) (i : Nat) : wd p i = hn 2 (fun j => (p (64 * i + j)).toNat) 64 :=
 hn_congr 2 64 _ _ (fun j hj => by simp [hj])
theorem wd_testBit (p : Nat → Bool) (i j : Nat) : (wd p i).testBit j = (decide (j < 64) && p (64 * i + j)) := by
 rw [wd_eq, hn_testBit 64 (fun j => p (64 * i + j))]
theorem wd_congr (p q : Nat → Bool) (i : Nat) (h : ∀ j, j < 64 → p (64 * i + j) = q (64 * i + j)) : wd p i = wd q i := by
 rw [wd_eq, wd_eq]
 exact hn_congr 2 64 _ _ (fun j hj => by rw [h j hj])
theorem wd_or (p q : Nat → Bool) (i : Nat) : wd p i ||| wd q i = wd (fun k => p k || q k) i := by
 apply Nat.eq_of_testBit_eq
 intro j
 rw [Nat.testBit_or, wd_testBit, wd_testBit, wd_testBit]
 cases decide (j < 64) <;> rfl
theorem wd_not (p : Nat → Bool) (i : Nat) : wd p i + wd (fun k => !p k) i = 18446744073709551615 := by
 rw [wd_eq, wd_eq, hn_add]
 rw [hn_congr 2 64 _ (fun _ => 1) (fun j _ => by cases p (64 * i + j) <;> rfl)]
 decide +kernel
theorem wd_back (x : Nat) (hx : x < 18446744073709551616) (p : Nat → Bool) (i : Nat) (h : ∀ j, j < 64 → p (64 * i + j) = x.testBit j) : wd p i = x := by
 apply Nat.eq_of_testBit_eq
 intro j
 rw [wd_testBit]
 by_cases hj : j < 64
 ·
  simp [hj, h j hj]
 ·
  rw [Nat.testBit_lt_two_pow (Nat.lt_of_lt_of_le hx (Nat.pow_le_pow_right (n := 2) (i := 64) (by omega) (by omega)))]
  simp [hj]
def cnt (p : Nat → Bool) (n : Nat) : Nat := sm (fun j => (p j).toNat) n
theorem sm_add (f : Nat → Nat) (m n : Nat) : sm f (m + n) = sm f m + sm (fun j => f (m + j)) n := by
 induction n with
 | zero => rfl
 | succ n ih => rw [← Nat.add_assoc, sm, ih, sm, Nat.add_assoc]
theorem sm_congr (f g : Nat → Nat) (n : Nat) (h : ∀ j, j < n → f j = g j) : sm f n = sm g n := by
 induction n with
 | zero => rfl
 | succ n ih => rw [sm, sm, ih (fun j hj => h j (by omega)), h n (by omega)]
theorem pop_wd (p : Nat → Bool) (i : Nat) : pop (wd p i) = sm (fun j => (p (64 * i + j)).toNat) 64 := by
 unfold wd
 rw [pop_eq _ (bit_lt p i) (fun j hj => by simp; omega)]
 exact sm_congr _ _ 64 (fun j hj => by simp [hj])
theorem cnt_words (p : Nat → Bool) : pop (wd p 0) + pop (wd p 1) + pop (wd p 2) + pop (wd p 3) = cnt p 256 := by
 simp only [pop_wd, cnt]
 rw [show 256 = 64 * 0 + 64 + 64 + 64 + 64 from rfl, sm_add, sm_add, sm_add]
 simp
theorem pop_le (p : Nat → Bool) (i : Nat) : pop (wd p i) ≤ 64 := by
 rw [pop_wd]
 have : ∀ (q : Nat → Bool) n, sm (fun j => (q j).toNat) n ≤ n := by
  intro q n
  induction n with
  | zero => exact Nat.le_refl _
  | succ n ih => have := Bool.toNat_lt (q n); rw [sm]; omega
 exact this _ 64
open Go.RowKit
def Kp (w w' : World) : Prop := Below w.heap.size w w'
theorem Kp.refl (w : World) : Kp w w := Below.refl _ _
theorem Kp.trans {a b c : World} (h : Kp a b) (g : Kp b c) : Kp a c := Below.trans h (Below.mono g h.size)
theorem Kp.alloc {a b : World} (h : Kp a b) (o : Obj) : Kp a (b.alloc o) := Below.alloc h h.size o
theorem Kp.drew {a b : World} (h : Kp a b) : Kp a b.drew := Below.drew h
theorem Kp.drewN {a b : World} (n : Nat) (h : Kp a b) : Kp a (b.drewN n) := ⟨h.os, h.tape, h.output, h.size, h.block⟩
theorem Kp.setCell {a b : World} (h : Kp a b) {p : Addr} (hp : a.heap.size ≤ p.block) (u : Value) : Kp a (b.setCell p u) := Below.setCell h hp u
theorem Kp.cell {a b : World} (h : Kp a b) {p : Addr} (hp : p.block < a.heap.size) : b.cell? p = a.cell? p := Below.cell h hp
theorem wrap_nat {n : Nat} (h : n < 18446744073709551616) : IntKind.u64.wrap (n : Int) = (n : Int) := by
 rw [IntKind.wrap_u64]; omega
theorem wrap_pow (b : Nat) : IntKind.u64.wrap (2 ^ (b % 64)) = ((2 ^ (b % 64) : Nat) : Int) := by
 have h := wrap_nat (n := 2 ^ (b % 64)) (Nat.pow_lt_pow_right (n := 64) (a := 2) (by omega) (by omega))
 rw [Int.natCast_pow] at h
 exact h.trans (Int.natCast_pow _ _).symm
theorem ret_u64 {a b : Int} (h : a = b) : Ending.returned (.int .u64 a) = .returned (.int .u64 b) := by rw [h]
theorem ret_i64 {a b : Int} (h : a = b) : Ending.returned (.int .i64 a) = .returned (.int .i64 b) := by rw [h]
theorem ret_bool {a b : Bool} (h : a = b) : Ending.returned (.bool a) = .returned (.bool b) := by rw [h]
theorem bit_any (b : Nat) (w : World) :
  Calls Tryz.prog 219 #[.int .u8 b] w fun e w' => e = .returned (.int .u64 ((2 ^ (b % 64) : Nat) : Int)) ∧ w' = w := by
 go_enter Tryz.func219, Tryz.ntmps219
 go_wp2
 go_ret
 exact ⟨ret_u64 (wrap_pow b), rfl⟩
theorem ones_any (x : Nat) (w : World) (hx : x < 18446744073709551616) :
  Calls Tryz.prog 185 #[.int .u64 x] w fun e w' => e = .returned (.int .i64 (pop x : Nat)) ∧ w' = w := by
 obtain ⟨a, ea⟩ : ∃ a, a = (x / 2 &&& 6148914691236517205) + (x &&& 6148914691236517205) := ⟨_, rfl⟩
 obtain ⟨b, eb⟩ : ∃ b, b = (a / 4 &&& 3689348814741910323) + (a &&& 3689348814741910323) := ⟨_, rfl⟩
 obtain ⟨c, ec⟩ : ∃ c, c = (b / 16 + b) &&& 1085102592571150095 := ⟨_, rfl⟩
 obtain ⟨d, ed⟩ : ∃ d, d = c + c / 256 := ⟨_, rfl⟩
 obtain ⟨f, ef⟩ : ∃ f, f = d + d / 65536 := ⟨_, rfl⟩
 obtain ⟨g, eg⟩ : ∃ g, g = f + f / 4294967296 := ⟨_, rfl⟩
 have ep : pop x = g % 128 := by subst eg ef ed ec eb ea; rfl
 have a1 : (x / 2 &&& 6148914691236517205) ≤ 6148914691236517205 := Nat.and_le_right
 have a2 : (x &&& 6148914691236517205) ≤ 6148914691236517205 := Nat.and_le_right
 have b1 : (a / 4 &&& 3689348814741910323) ≤ 3689348814741910323 := Nat.and_le_right
 have b2 : (a &&& 3689348814741910323) ≤ 3689348814741910323 := Nat.and_le_right
 have c1 : ((b / 16 + b) &&& 1085102592571150095) ≤ 1085102592571150095 := Nat.and_le_right
 have r1 : IntKind.u64.wrap (bits .and .u64 ((x : Int) / 2) 6148914691236517205 + bits .and .u64 (x : Int) 6148914691236517205) = (a : Int) := by
  rw [show (x : Int) / 2 = ((x / 2 : Nat) : Int) by omega, show (6148914691236517205 : Int) = ((6148914691236517205 : Nat) : Int) from rfl, u64_and_nat _ _ (by omega) (by omega), u64_and_nat _ _ (by omega) (by omega), ← Int.natCast_add, ← ea]
  exact wrap_nat (by omega)
 have r2 : IntKind.u64.wrap (bits .and .u64 ((a : Int) / 4) 3689348814741910323 + bits .and .u64 (a : Int) 3689348814741910323) = (b : Int) := by
  rw [show (a : Int) / 4 = ((a / 4 : Nat) : Int) by omega, show (3689348814741910323 : Int) = ((3689348814741910323 : Nat) : Int) from rfl, u64_and_nat _ _ (by omega) (by omega), u64_and_nat _ _ (by omega) (by omega), ← Int.natCast_add, ← eb]
  exact wrap_nat (by omega)
 have r3 : bits .and .u64 (IntKind.u64.wrap ((b : Int) / 16 + (b : Int))) 1085102592571150095 = (c : Int) := by
  rw [show (b : Int) / 16 + (b : Int) = ((b / 16 + b : Nat) : Int) by omega, wrap_nat (by omega), show (1085102592571150095 : Int) = ((1085102592571150095 : Nat) : Int) from rfl, u64_and_nat _ _ (by omega) (by omega), ← ec]
 have r4 : IntKind.u64.wrap ((c : Int) + (c : Int) / 256) = (d : Int) := by
  rw [show (c : Int) + (c : Int) / 256 = (d : Int) by omega]; exact wrap_nat (by omega)
 have r5 : IntKind.u64.wrap ((d : Int) + (d : Int) / 65536) = (f : Int) := by
  rw [show (d : Int) + (d : Int) / 65536 = (f : Int) by omega]; exact wrap_nat (by omega)
 have r6 : IntKind.u64.wrap ((f : Int) + (f : Int) / 4294967296) = (g : Int) := by
  rw [show (f : Int) + (f : Int) / 4294967296 = (g : Int) by omega]; exact wrap_nat (by omega)
 have hg : g < 4611686018427387904 := by omega
 have r7 : Hid (bits .and .i64 (g : Int) 127 = ((g % 128 : Nat) : Int)) := by
  show _ = _
  rw [i64_and127]; omega
 rw [ep]
 clear ep ea eb ec ed ef eg a1 a2 b1 b2 c1 hx
 go_enter Tryz.func185, Tryz.ntmps185
 go_wp2
 go_ret
 exact ⟨ret_i64 r7.out, rfl⟩
theorem ix0 (a b c d : Value) (w : World) : (Instr.index 24 (.agg #[a, b, c, d]) (.int .i64 0)).run Tryz.prog w = .ok a w := by kernel_rfl
theorem ix1 (a b c d : Value) (w : World) : (Instr.index 24 (.agg #[a, b, c, d]) (.int .i64 1)).run Tryz.prog w = .ok b w := by kernel_rfl
theorem ix2 (a b c d : Value) (w : World) : (Instr.index 24 (.agg #[a, b, c, d]) (.int .i64 2)).run Tryz.prog w = .ok c w := by kernel_rfl
theorem ix3 (a b c d : Value) (w : World) : (Instr.index 24 (.agg #[a, b, c, d]) (.int .i64 3)).run Tryz.prog w = .ok d w := by kernel_rfl
abbrev vv (a b c d : Nat) : Value := .agg #[.int .u64 (a : Int), .int .u64 (b : Int), .int .u64 (c : Int), .int .u64 (d : Int)]
abbrev sv (p : Nat → Bool) : Value := vv (wd p 0) (wd p 1) (wd p 2) (wd p 3)
theorem ret_vv {a b c d a' b' c' d' : Int} (h0 : a = a') (h1 : b = b') (h2 : c = c') (h3 : d = d') :
  Ending.returned (.agg #[.int .u64 a, .int .u64 b, .int .u64 c, .int .u64 d]) = .returned (.agg #[.int .u64 a', .int .u64 b', .int .u64 c', .int .u64 d']) := by rw [h0, h1, h2, h3]
def bitOf (a b c d : Nat) (i : Nat) : Bool := (if i / 64 = 0 then a else if i / 64 = 1 then b else if i / 64 = 2 then c else d).testBit (i % 64)
theorem vv_sv (a b c d : Nat) (ha : a < 18446744073709551616) (hb : b < 18446744073709551616) (hc : c < 18446744073709551616) (hd : d < 18446744073709551616) : vv a b c d = sv (bitOf a b c d) := by
 have e0 : wd (bitOf a b c d) 0 = a := wd_back a ha _ 0 (fun j hj => by unfold bitOf; rw [if_pos (by omega), show (64 * 0 + j) % 64 = j by omega])
 have e1 : wd (bitOf a b c d) 1 = b := wd_back b hb _ 1 (fun j hj => by unfold bitOf; rw [if_neg (by omega), if_pos (by omega), show (64 * 1 + j) % 64 = j by omega])
 have e2 : wd (bitOf a b c d) 2 = c := wd_back c hc _ 2 (fun j hj => by unfold bitOf; rw [if_neg (by omega), if_neg (by omega), if_pos (by omega), show (64 * 2 + j) % 64 = j by omega])
 have e3 : wd (bitOf a b c d) 3 = d := wd_back d hd _ 3 (fun j hj => by unfold bitOf; rw [if_neg (by omega), if_neg (by omega), if_neg (by omega), show (64 * 3 + j) % 64 = j by omega])
 show vv _ _ _ _ = vv _ _ _ _
 rw [e0, e1, e2, e3]
def orB (p q : Nat → Bool) : Nat → Bool := fun k => p k || q k
def notB (p : Nat → Bool) : Nat → Bool := fun k => !p k
theorem xor_wd (p : Nat → Bool) (i : Nat) : bits .xor .u64 IntKind.u64.max (wd p i : Nat) = ((wd (notB p) i : Nat) : Int) := by
 show _ = ((wd (fun k => !p k) i : Nat) : Int)
 have h := wd_not p i
 have hl := wd_lt p i
 rw [show IntKind.u64.max = ((18446744073709551615 : Nat) : Int) from rfl, u64_xor_nat _ _ (by omega) hl]
 have e : 18446744073709551615 ^^^ wd p i = wd (fun k => !p k) i := by
  apply Nat.eq_of_testBit_eq
  intro j
  rw [Nat.testBit_xor, wd_testBit, wd_testBit, show (18446744073709551615 : Nat) = 2 ^ 64 - 1 from rfl, Nat.testBit_two_pow_sub_one]
  cases decide (j < 64) <;> simp
 rw [e]
theorem or_wd (p q : Nat → Bool) (i : Nat) : bits .or .u64 (wd p i : Nat) (wd q i : Nat) = ((wd (orB p q) i : Nat) : Int) := by
 rw [u64_or_nat _ _ (wd_lt p i) (wd_lt q i), wd_or]
 rfl
theorem not_any (p : Nat → Bool) (w : World) :
  Calls Tryz.prog 157 #[sv p] w fun e w' => e = .returned (sv (notB p)) ∧ Kp w w' := by
 have E : Hid (∀ i, bits .xor .u64 IntKind.u64.max (wd p i : Nat) = ((wd (notB p) i : Nat) : Int)) := fun i => xor_wd p i
 have i0 := ix0; have i1 := ix1; have i2 := ix2; have i3 := ix3
 go_enter Tryz.func157, Tryz.ntmps157
 go_wp2
 refine wp_loop_rounds 5 ?_
 rw [rounds_succ]
 go_wp2
 rw [rounds_succ]
 go_wp2
 rw [rounds_succ]
 go_wp2
 rw [rounds_succ]
 go_wp2
 rw [rounds_succ]
 go_wp2
 refine bodyPost_ret (v := .agg #[.int .u64 (bits .xor .u64 IntKind.u64.max (wd p 0 : Nat)), .int .u64 (bits .xor .u64 IntKind.u64.max (wd p 1 : Nat)), .int .u64 (bits .xor .u64 IntKind.u64.max (wd p 2 : Nat)), .int .u64 (bits .xor .u64 IntKind.u64.max (wd p 3 : Nat))]) (by simp [results, Tryz.results157, go_sem]) rfl ⟨?_, ?_⟩
 ·
  exact ret_vv (E.out 0) (E.out 1) (E.out 2) (E.out 3)
 ·
  exact ((Kp.refl _).alloc _).alloc _
theorem and_bit (p : Nat → Bool) (b : Nat) : (bits .and .u64 (wd p (b / 64) : Nat) (2 ^ (b % 64)) != 0) = p b := by
 rw [show (2 : Int) ^ (b % 64) = ((2 ^ (b % 64) : Nat) : Int) from (Int.natCast_pow _ _).symm, u64_and_nat _ _ (wd_lt _ _) (Nat.pow_lt_pow_right (n := 64) (a := 2) (by omega) (by omega))]
 have e : wd p (b / 64) &&& 2 ^ (b % 64) = (p b).toNat * 2 ^ (b % 64) := by
  have ht := wd_testBit p (b / 64) (b % 64)
  rw [show 64 * (b / 64) + b % 64 = b by omega, decide_eq_true (show b % 64 < 64 by omega), Bool.true_and] at ht
  rw [nat_bit, ← Nat.toNat_testBit, ht]
 rw [e]
 have := Nat.two_pow_pos (b % 64)
 cases p b
 ·
  simp
 ·
  have h : ((2 ^ (b % 64) : Nat) : Int) ≠ 0 := by omega
  simpa using h
theorem has_any (p : Nat → Bool) (b : Nat) (w : World) (hb : b < 256) :
  Calls Tryz.prog 191 #[sv p, .int .u8 b] w fun e w' => e = .returned (.bool (p b)) ∧ Kp w w' := by
 have E : Hid ((bits .and .u64 (wd p (b / 64) : Nat) (2 ^ (b % 64)) != 0) = p b) := and_bit p b
 have hk : b / 64 = 0 ∨ b / 64 = 1 ∨ b / 64 = 2 ∨ b / 64 = 3 := by omega
 rcases hk with hk | hk | hk | hk
 ·
  rw [hk] at E
  have hq : (b : Int) / 64 = 0 := by omega
  clear hk
  go_enter Tryz.func191, Tryz.ntmps191
  go_wp2
  go_quiet ((go_at_call 219; exact Calls.quiet_of_same (bit_any _ _)))
  go_wp2
  go_ret
  exact ⟨ret_bool E.out, ((Kp.refl _).alloc _).drewN _⟩
 ·
  rw [hk] at E
  have hq : (b : Int) / 64 = 1 := by omega
  clear hk
  go_enter Tryz.func191, Tryz.ntmps191
  go_wp2
  go_quiet ((go_at_call 219; exact Calls.quiet_of_same (bit_any _ _)))
  go_wp2
  go_ret
  exact ⟨ret_bool E.out, ((Kp.refl _).alloc _).drewN _⟩
 ·
  rw [hk] at E
  have hq : (b : Int) / 64 = 2 := by omega
  clear hk
  go_enter Tryz.func191, Tryz.ntmps191
  go_wp2
  go_quiet ((go_at_call 219; exact Calls.quiet_of_same (bit_any _ _)))
  go_wp2
  go_ret
  exact ⟨ret_bool E.out, ((Kp.refl _).alloc _).drewN _⟩
 ·
  rw [hk] at E
  have hq : (b : Int) / 64 = 3 := by omega
  clear hk
  go_enter Tryz.func191, Tryz.ntmps191
  go_wp2
  go_quiet ((go_at_call 219; exact Calls.quiet_of_same (bit_any _ _)))
  go_wp2
  go_ret
  exact ⟨ret_bool E.out, ((Kp.refl _).alloc _).drewN _⟩
theorem count_any (p : Nat → Bool) (w : World) :
  Calls Tryz.prog 150 #[sv p] w fun e w' => e = .returned (.int .i64 (cnt p 256 : Nat)) ∧ Kp w w' := by
 have C : Hid (pop (wd p 0) + pop (wd p 1) + pop (wd p 2) + pop (wd p 3) = cnt p 256) := cnt_words p
 have l0 := pop_le p 0; have l1 := pop_le p 1; have l2 := pop_le p 2; have l3 := pop_le p 3
 have i0 := ix0; have i1 := ix1; have i2 := ix2; have i3 := ix3
 go_enter Tryz.func150, Tryz.ntmps150
 go_wp2
 refine wp_loop_rounds 5 ?_
 rw [rounds_succ]
 go_wp2_with (go_at_call 185; refine (ones_any _ _ (wd_lt _ _)).mono ?_; rintro e w' ⟨rfl, rfl⟩)
 rw [rounds_succ]
 go_wp2_with (go_at_call 185; refine (ones_any _ _ (wd_lt _ _)).mono ?_; rintro e w' ⟨rfl, rfl⟩)
 rw [rounds_succ]
 go_wp2_with (go_at_call 185; refine (ones_any _ _ (wd_lt _ _)).mono ?_; rintro e w' ⟨rfl, rfl⟩)
 rw [rounds_succ]
 go_wp2_with (go_at_call 185; refine (ones_any _ _ (wd_lt _ _)).mono ?_; rintro e w' ⟨rfl, rfl⟩)
 rw [rounds_succ]
 go_wp2
 go_ret
 exact ⟨ret_i64 (by have := C.out; omega), (Kp.refl _).alloc _⟩
theorem join_nil (w : World) :
  Calls Tryz.prog 221 #[.slice none 0 0] w fun e w' => e = .returned (vv 0 0 0 0) ∧ Kp w w' := by
 go_enter Tryz.func221, Tryz.ntmps221
 go_wp2
 refine wp_loop_rounds 1 ?_
 rw [rounds_succ]
 go_wp2
 refine bodyPost_ret (v := vv 0 0 0 0) (by simp [results, Tryz.results221, go_sem]) rfl ⟨rfl, ?_⟩
 exact ((Kp.refl _).alloc _).alloc _
theorem or_zero (p : Nat → Bool) (i : Nat) : bits .or .u64 0 (wd p i : Nat) = ((wd p i : Nat) : Int) := by
 rw [show (0 : Int) = ((0 : Nat) : Int) from rfl, u64_or_nat _ _ (by omega) (wd_lt p i), Nat.zero_or]
set_option maxHeartbeats 1000000 in
theorem join_two (p q : Nat → Bool) (w : World) (B : Nat) (hB : B = w.heap.size) :
  Calls Tryz.prog 221 #[.slice (some ⟨B, 0, none⟩) 2 2] (w.alloc (.cells #[.int .u64 (wd p 0 : Nat), .int .u64 (wd p 1 : Nat), .int .u64 (wd p 2 : Nat), .int .u64 (wd p 3 : Nat), .int .u64 (wd q 0 : Nat), .int .u64 (wd q 1 : Nat), .int .u64 (wd q 2 : Nat), .int .u64 (wd q 3 : Nat)] 24)) fun e w' => e = .returned (sv (orB p q)) ∧ Kp (w.alloc (.cells #[.int .u64 (wd p 0 : Nat), .int .u64 (wd p 1 : Nat), .int .u64 (wd p 2 : Nat), .int .u64 (wd p 3 : Nat), .int .u64 (wd q 0 : Nat), .int .u64 (wd q 1 : Nat), .int .u64 (wd q 2 : Nat), .int .u64 (wd q 3 : Nat)] 24)) w' := by
 subst hB
 have i0 := ix0; have i1 := ix1; have i2 := ix2; have i3 := ix3
 have o0 := or_zero p
 have o1 := or_wd p q
 go_enter Tryz.func221, Tryz.ntmps221
 go_wp2
 refine wp_loop_rounds 3 ?_
 rw [rounds_succ]
 go_wp2
 refine wp_loop_rounds 5 ?_
 iterate 5 (rw [rounds_succ]; go_wp2)
 rw [rounds_succ]
 go_wp2
 refine wp_loop_rounds 5 ?_
 iterate 5 (rw [rounds_succ]; go_wp2)
 rw [rounds_succ]
 go_wp2
 refine bodyPost_ret (v := sv (orB p q)) (by simp [results, Tryz.results221, go_sem]) rfl ⟨rfl, ?_⟩
 exact ((((Kp.refl _).alloc _).alloc _).alloc _).alloc _
set_option maxHeartbeats 1000000 in
theorem join_three (p q r : Nat → Bool) (w : World) (B : Nat) (hB : B = w.heap.size) :
  Calls Tryz.prog 221 #[.slice (some ⟨B, 0, none⟩) 3 3] (w.alloc (.cells #[.int .u64 (wd p 0 : Nat), .int .u64 (wd p 1 : Nat), .int .u64 (wd p 2 : Nat), .int .u64 (wd p 3 : Nat), .int .u64 (wd q 0 : Nat), .int .u64 (wd q 1 : Nat), .int .u64 (wd q 2 : Nat), .int .u64 (wd q 3 : Nat), .int .u64 (wd r 0 : Nat), .int .u64 (wd r 1 : Nat), .int .u64 (wd r 2 : Nat), .int .u64 (wd r 3 : Nat)] 24)) fun e w' => e = .returned (sv (orB (orB p q) r)) ∧ Kp (w.alloc (.cells #[.int .u64 (wd p 0 : Nat), .int .u64 (wd p 1 : Nat), .int .u64 (wd p 2 : Nat), .int .u64 (wd p 3 : Nat), .int .u64 (wd q 0 : Nat), .int .u64 (wd q 1 : Nat), .int .u64 (wd q 2 : Nat), .int .u64 (wd q 3 : Nat), .int .u64 (wd r 0 : Nat), .int .u64 (wd r 1 : Nat), .int .u64 (wd r 2 : Nat), .int .u64 (wd r 3 : Nat)] 24)) w' := by
 subst hB
 have i0 := ix0; have i1 := ix1; have i2 := ix2; have i3 := ix3
 have o0 := or_zero p
 have o1 := or_wd p q
 have o2 := or_wd (orB p q) r
 go_enter Tryz.func221, Tryz.ntmps221
 go_wp2
 refine wp_loop_rounds 4 ?_
 iterate 3 (rw [rounds_succ]; go_wp2; refine wp_loop_rounds 5 ?_; iterate 5 (rw [rounds_succ]; go_wp2))
 rw [rounds_succ]
 go_wp2
 refine bodyPost_ret (v := sv (orB (orB p q) r)) (by simp [results, Tryz.results221, go_sem]) rfl ⟨rfl, ?_⟩
 exact (((((Kp.refl _).alloc _).alloc _).alloc _).alloc _).alloc _
def addB (p : Nat → Bool) (b : Nat) : Nat → Bool := fun k => p k || k == b
theorem or_bit (p : Nat → Bool) (b : Nat) : bits .or .u64 (wd p (b / 64) : Nat) ((2 ^ (b % 64) : Nat) : Int) = ((wd (addB p b) (b / 64) : Nat) : Int) := by
 rw [u64_or_nat _ _ (wd_lt _ _) (Nat.pow_lt_pow_right (n := 64) (a := 2) (by omega) (by omega))]
 refine congrArg (fun n : Nat => (n : Int)) ?_
 apply Nat.eq_of_testBit_eq
 intro j
 rw [Nat.testBit_or, wd_testBit, wd_testBit, Nat.testBit_two_pow]
 unfold addB
 by_cases hj : j < 64
 ·
  have : (64 * (b / 64) + j == b) = decide (b % 64 = j) := by
   rw [Bool.eq_iff_iff]; simp; omega
  rw [this]
  simp [hj]
 ·
  have : ¬ b % 64 = j := by omega
  simp [hj, this]
theorem wd_other (p : Nat → Bool) (b i : Nat) (h : i ≠ b / 64) : wd (addB p b) i = wd p i := by
 refine wd_congr _ _ i (fun j hj => ?_)
 unfold addB
 have : (64 * i + j == b) = false := by
  rw [beq_eq_false_iff_ne]; omega
 rw [this, Bool.or_false]
theorem last_alloc (w : World) (B : Nat) (o : Obj) (hs : w.heap.size = B + 1) (hX : w.heap[B]? = some o) : ∃ w0 : World, w = w0.alloc o ∧ w0.heap.size = B := by
 refine ⟨{ w with heap := w.heap.pop }, ?_, by simp [hs]⟩
 have e : w.heap = w.heap.pop.push o := by
  apply Array.ext_getElem?
  intro i
  rw [Array.getElem?_push, Array.getElem?_pop]
  by_cases hi : i = B
  ·
   subst hi
   rw [if_pos (by simp [hs]), hX]
  ·
   rw [if_neg (by simp [hs]; omega)]
   by_cases hi2 : i < B
   ·
    rw [if_pos (by omega)]
   ·
    rw [if_neg (by omega)]; exact Array.getElem?_eq_none (by omega)
 unfold World.alloc
 rw [← e]
abbrev two (p q : Nat → Bool) : Obj := .cells #[.int .u64 (wd p 0 : Nat), .int .u64 (wd p 1 : Nat), .int .u64 (wd p 2 : Nat), .int .u64 (wd p 3 : Nat), .int .u64 (wd q 0 : Nat), .int .u64 (wd q 1 : Nat), .int .u64 (wd q 2 : Nat), .int .u64 (wd q 3 : Nat)] 24
abbrev three (p q r : Nat → Bool) : Obj := .cells #[.int .u64 (wd p 0 : Nat), .int .u64 (wd p 1 : Nat), .int .u64 (wd p 2 : Nat), .int .u64 (wd p 3 : Nat), .int .u64 (wd q 0 : Nat), .int .u64 (wd q 1 : Nat), .int .u64 (wd q 2 : Nat), .int .u64 (wd q 3 : Nat), .int .u64 (wd r 0 : Nat), .int .u64 (wd r 1 : Nat), .int .u64 (wd r 2 : Nat), .int .u64 (wd r 3 : Nat)] 24
theorem join2 (p q : Nat → Bool) (w : World) (B : Nat) (hs : w.heap.size = B + 1) (hX : w.heap[B]? = some (two p q)) :
  Calls Tryz.prog 221 #[.slice (some ⟨B, 0, none⟩) 2 2] w fun e w' => e = .returned (sv (orB p q)) ∧ Kp w w' := by
 obtain ⟨w0, rfl, h0⟩ := last_alloc w B _ hs hX
 exact join_two p q w0 B h0.symm
theorem join3 (p q r : Nat → Bool) (w : World) (B : Nat) (hs : w.heap.size = B + 1) (hX : w.heap[B]? = some (three p q r)) :
  Calls Tryz.prog 221 #[.slice (some ⟨B, 0, none⟩) 3 3] w fun e w' => e = .returned (sv (orB (orB p q) r)) ∧ Kp w w' := by
 obtain ⟨w0, rfl, h0⟩ := last_alloc w B _ hs hX
 exact join_three p q r w0 B h0.symm
theorem last_of (w : World) (o : Obj) : (w.alloc o).heap[w.heap.size]? = some o := by
 show (w.heap.push o)[w.heap.size]? = some o
 simp
abbrev blk (q : Nat → Bool) : Obj := .cells #[.int .u64 (wd q 0 : Nat), .int .u64 (wd q 1 : Nat), .int .u64 (wd q 2 : Nat), .int .u64 (wd q 3 : Nat)] 24
def At (w : World) (S : Nat) (q : Nat → Bool) : Prop := w.heap[S]? = some (blk q)
theorem At.lt {w : World} {S : Nat} {q : Nat → Bool} (h : At w S q) : S < w.heap.size := (Array.getElem?_eq_some_iff.1 h).1
theorem At.kp {w w' : World} {S : Nat} {q : Nat → Bool} (h : At w S q) (hk : Kp w w') : At w' S q := (hk.block S h.lt).trans h
theorem At.alloc {w : World} {S : Nat} {q : Nat → Bool} (h : At w S q) (o : Obj) : At (w.alloc o) S q := h.kp ((Kp.refl _).alloc _)
theorem At.drew {w : World} {S : Nat} {q : Nat → Bool} (h : At w S q) : At w.drew S q := h
theorem At.drewN {w : World} {S : Nat} {q : Nat → Bool} (n : Nat) (h : At w S q) : At (w.drewN n) S q := h
theorem At.new (w : World) (q : Nat → Bool) : At (w.alloc (blk q)) w.heap.size q := last_of w _
theorem At.cells {w : World} {S : Nat} {q : Nat → Bool} (h : At w S q) : w.cell? ⟨S, 0, none⟩ = some (.int .u64 (wd q 0 : Nat)) ∧ w.cell? ⟨S, 1, none⟩ = some (.int .u64 (wd q 1 : Nat)) ∧ w.cell? ⟨S, 2, none⟩ = some (.int .u64 (wd q 2 : Nat)) ∧ w.cell? ⟨S, 3, none⟩ = some (.int .u64 (wd q 3 : Nat)) :=
 ⟨cell_of_row w S 0 _ 24 (0, 0) h, cell_of_row w S 1 _ 24 (0, 0) h, cell_of_row w S 2 _ 24 (0, 0) h, cell_of_row w S 3 _ 24 (0, 0) h⟩
theorem At.set4 {w : World} {S : Nat} {q : Nat → Bool} (h : At w S q) (q' : Nat → Bool) : At ((((w.setCell ⟨S, 0, none⟩ (.int .u64 (wd q' 0 : Nat))).setCell ⟨S, 1, none⟩ (.int .u64 (wd q' 1 : Nat))).setCell ⟨S, 2, none⟩ (.int .u64 (wd q' 2 : Nat))).setCell ⟨S, 3, none⟩ (.int .u64 (wd q' 3 : Nat))) S q' := by
 unfold At at *
 simp only [World.setCell, Array.getElem?_modify, if_true, h, Option.map_some]
 rfl
theorem wd_none (i : Nat) : wd (fun _ => false) i = 0 := by
 apply Nat.eq_of_testBit_eq
 intro j
 rw [wd_testBit]; simp
end Go.Proofs.YtigdmebijbaofaaGreatDoor
