/-
  Texts of this claim: Mak2, Mak4, Mak5.
-/
import Derived.Test.YtigdmebijbaofaaGreatDoorCmdAM4
import Derived.Test.YtigdmebijbaofaaGreatDoorCmdAM27

/-! ### Mak2 -/

namespace Go.Proofs.YtigdmebijbaofaaGreatDoor
set_option maxHeartbeats 2000000
set_option maxRecDepth 100000
open Go.RowKit

theorem At.put {w : World} {S : Nat} {p : Nat → Bool} (h : At w S p) (b j : Nat) (hj : b / 64 = j) (hb : b < 256) : At (w.setCell ⟨S, j, none⟩ (.int .u64 (wd (addB p b) (b / 64) : Nat))) S (addB p b) := by
 subst hj
 have hp := bl_put (j := b / 64) h (.int .u64 (wd (addB p b) (b / 64) : Nat))
 refine hp.trans ?_
 have hk : b / 64 = 0 ∨ b / 64 = 1 ∨ b / 64 = 2 ∨ b / 64 = 3 := by omega
 rcases hk with hk | hk | hk | hk <;> rw [hk]
 ·
  rw [← wd_other p b 1 (by omega), ← wd_other p b 2 (by omega), ← wd_other p b 3 (by omega)]; rfl
 ·
  rw [← wd_other p b 0 (by omega), ← wd_other p b 2 (by omega), ← wd_other p b 3 (by omega)]; rfl
 ·
  rw [← wd_other p b 0 (by omega), ← wd_other p b 1 (by omega), ← wd_other p b 3 (by omega)]; rfl
 ·
  rw [← wd_other p b 0 (by omega), ← wd_other p b 1 (by omega), ← wd_other p b 2 (by omega)]; rfl
theorem putc_any (p : Nat → Bool) (b S : Nat) (hb : b < 256) (w : World) (hA : At w S p) : Calls Tryz.prog 217 #[.int .u8 (b : Int), .pointer (some ⟨S, 0, none⟩)] w fun e w' => e = .returned (.tuple #[]) ∧ At w' S (addB p b) ∧ Ks S w w' := by
 have HA := hid hA
 clear hA
 have hk : b / 64 = 0 ∨ b / 64 = 1 ∨ b / 64 = 2 ∨ b / 64 = 3 := by omega
 rcases hk with hj | hj | hj | hj
 ·
  have e1 : (b : Int) / 64 = 0 := by omega
  have e2 : (b : Int).tdiv 64 = 0 := by rw [Int.tdiv_eq_ediv_of_nonneg (by omega)]; omega
  have ap := HA.out.put b 0 hj hb
  have ob := or_bit p b
  rw [hj] at ap ob
  have AP := hid ap
  have OB : Hid (bits .or .u64 (wd p 0 : Nat) (IntKind.u64.wrap (2 ^ (b % 64))) = ((wd (addB p b) 0 : Nat) : Int)) := by show _ = _; rw [wrap_pow]; exact ob
  clear ap ob
  obtain ⟨x0, x1, x2, x3⟩ := HA.out.cells
  have f0 := bl_frozen HA.out 0
  go_enter Tryz.func217, Tryz.ntmps217
  go_wp2_with fail
  refine bodyPost_end (v := .tuple #[]) (results_none rfl _ _ _) rfl ⟨rfl, ?_, (Ks.refl _ _).set 0 _⟩
  rw [OB.out]
  exact AP.out
 ·
  have e1 : (b : Int) / 64 = 1 := by omega
  have e2 : (b : Int).tdiv 64 = 1 := by rw [Int.tdiv_eq_ediv_of_nonneg (by omega)]; omega
  have ap := HA.out.put b 1 hj hb
  have ob := or_bit p b
  rw [hj] at ap ob
  have AP := hid ap
  have OB : Hid (bits .or .u64 (wd p 1 : Nat) (IntKind.u64.wrap (2 ^ (b % 64))) = ((wd (addB p b) 1 : Nat) : Int)) := by show _ = _; rw [wrap_pow]; exact ob
  clear ap ob
  obtain ⟨x0, x1, x2, x3⟩ := HA.out.cells
  have f0 := bl_frozen HA.out 1
  go_enter Tryz.func217, Tryz.ntmps217
  go_wp2_with fail
  refine bodyPost_end (v := .tuple #[]) (results_none rfl _ _ _) rfl ⟨rfl, ?_, (Ks.refl _ _).set 1 _⟩
  rw [OB.out]
  exact AP.out
 ·
  have e1 : (b : Int) / 64 = 2 := by omega
  have e2 : (b : Int).tdiv 64 = 2 := by rw [Int.tdiv_eq_ediv_of_nonneg (by omega)]; omega
  have ap := HA.out.put b 2 hj hb
  have ob := or_bit p b
  rw [hj] at ap ob
  have AP := hid ap
  have OB : Hid (bits .or .u64 (wd p 2 : Nat) (IntKind.u64.wrap (2 ^ (b % 64))) = ((wd (addB p b) 2 : Nat) : Int)) := by show _ = _; rw [wrap_pow]; exact ob
  clear ap ob
  obtain ⟨x0, x1, x2, x3⟩ := HA.out.cells
  have f0 := bl_frozen HA.out 2
  go_enter Tryz.func217, Tryz.ntmps217
  go_wp2_with fail
  refine bodyPost_end (v := .tuple #[]) (results_none rfl _ _ _) rfl ⟨rfl, ?_, (Ks.refl _ _).set 2 _⟩
  rw [OB.out]
  exact AP.out
 ·
  have e1 : (b : Int) / 64 = 3 := by omega
  have e2 : (b : Int).tdiv 64 = 3 := by rw [Int.tdiv_eq_ediv_of_nonneg (by omega)]; omega
  have ap := HA.out.put b 3 hj hb
  have ob := or_bit p b
  rw [hj] at ap ob
  have AP := hid ap
  have OB : Hid (bits .or .u64 (wd p 3 : Nat) (IntKind.u64.wrap (2 ^ (b % 64))) = ((wd (addB p b) 3 : Nat) : Int)) := by show _ = _; rw [wrap_pow]; exact ob
  clear ap ob
  obtain ⟨x0, x1, x2, x3⟩ := HA.out.cells
  have f0 := bl_frozen HA.out 3
  go_enter Tryz.func217, Tryz.ntmps217
  go_wp2_with fail
  refine bodyPost_end (v := .tuple #[]) (results_none rfl _ _ _) rfl ⟨rfl, ?_, (Ks.refl _ _).set 3 _⟩
  rw [OB.out]
  exact AP.out
theorem within_nat (n : Int) (hi : Nat) (h : hi ≤ 1000000) (w : World) : Calls Tryz.prog 33 #[.int .i64 n, .int .i64 0, .int .i64 (hi : Int)] w fun e w' => ∃ k : Nat, k ≤ hi ∧ e = .returned (.int .i64 (k : Int)) ∧ w' = w := by
 refine (within_any n 0 (hi : Int) w (by omega) (by omega) (by omega)).mono ?_
 rintro e w' ⟨rfl, rfl⟩
 have := wit_le n 0 (hi : Int) (by omega)
 exact ⟨(wit n 0 (hi : Int)).toNat, by omega, by rw [Int.toNat_of_nonneg this.1], rfl⟩
theorem cnt_pos (q : Nat → Bool) (k : Nat) (hk : k < 256) (h : q k = true) : 0 < cnt q 256 := by
 rw [← lst_length]
 exact List.length_pos_of_mem ((Trip.mem_lst q k).2 ⟨hk, h⟩)
abbrev cb6 : Array Value := #[.int .u8 97, .int .u8 98, .int .u8 99, .int .u8 46, .int .u8 42, .int .u8 10]
theorem at6 {w : World} {B : Nat} (h : w.heap[B]? = some (.cells cb6 5)) (j : Nat) (hj : j ≤ 5) : ∃ b : Nat, b < 256 ∧ w.cell? ⟨B, j, none⟩ = some (.int .u8 (b : Int)) := by
 match j, hj with
 | 0, _ => exact ⟨97, by decide, bl_cell h 0 _ rfl⟩
 | 1, _ => exact ⟨98, by decide, bl_cell h 1 _ rfl⟩
 | 2, _ => exact ⟨99, by decide, bl_cell h 2 _ rfl⟩
 | 3, _ => exact ⟨46, by decide, bl_cell h 3 _ rfl⟩
 | 4, _ => exact ⟨42, by decide, bl_cell h 4 _ rfl⟩
 | 5, _ => exact ⟨10, by decide, bl_cell h 5 _ rfl⟩
structure Bst (w : World) (e : Ending) (w' : World) : Prop where
 ex : ∃ q : Nat → Bool, e = .returned (sv q) ∧ 0 < cnt q 256 ∧ Kp w w'
def ltB (i : Nat) : Nat → Bool := fun k => decide (k < i)
theorem ltB_step (i : Nat) : addB (ltB i) i = ltB (i + 1) := by
 funext k
 unfold addB ltB
 rw [Bool.eq_iff_iff]
 simp
 omega
def ltN (i : Nat) : Nat → Bool := fun k => decide (k < i) && !(k == 97)
theorem ltN_step (i : Nat) (h : i ≠ 97) : addB (ltN i) i = ltN (i + 1) := by
 funext k
 unfold addB ltN
 rw [Bool.eq_iff_iff]
 simp
 omega
theorem ltN_skip : ltN (97 + 1) = ltN 97 := by
 funext k
 unfold ltN
 rw [Bool.eq_iff_iff]
 simp
 omega
theorem byteSet_any (n : Int) (w : World) : Calls Tryz.prog 183 #[.int .i64 n] w fun e w' => Bst w e w' := by
 go_enter Tryz.func183, Tryz.ntmps183
 go_upto_region 2 with fail
 refine opq (fun W0 => W0.heap[w.heap.size]? = some (.cells #[.int .u64 0, .int .u64 0, .int .u64 0, .int .u64 0] 24) ∧ At W0 (w.heap.size + 1) (fun _ => false) ∧ Kp w W0) ⟨by exact bl_alloc (last_of _ _) _, by exact last_at _ _ _ (by simp), by exact kpt⟩ ?_
 rintro W0 ⟨xR0, xA0, xK0⟩
 have R0 := hidT xR0
 have A0 := hidT xA0
 have K0 := hidT xK0
 clear xR0 xA0 xK0
 go_wp2_with fail
 refine (within_nat _ 5 (by omega) _).mono ?_
 rintro e W0 ⟨c, hc5, rfl, rfl⟩
 have hc : c = 0 ∨ c = 1 ∨ c = 2 ∨ 3 ≤ c := by omega
 rcases hc with rfl | rfl | rfl | hc
 ·
  go_wp2_with fail
  go_loopg [20] 257 (fun gk v wr => ∃ i : Nat, v = .int .i64 (i : Int) ∧ i ≤ 256 ∧ 256 < gk + i ∧ wr.heap[w.heap.size]? = some (.cells #[.int .u64 0, .int .u64 0, .int .u64 0, .int .u64 0] 24) ∧ At wr (w.heap.size + 1) (ltB i) ∧ Kp w wr)
  case atStart => exact ⟨0, rfl, by omega, by omega, R0.out, by
   have := A0.out
   rw [show (fun _ => false) = ltB 0 from funext fun k => by unfold ltB; simp] at this
   exact this, K0.out⟩
  case round =>
   obtain ⟨i, rfl, hi, hgi, r1, a1, k1⟩ := hrel
   have R1 := hid r1
   have A1 := hid a1
   have K1 := hid k1
   clear r1 a1 k1
   by_cases hlt : i < 256
   ·
    have hli : (i : Int) < 256 := by omega
    have gi : IntKind.i64.wrap ((i : Int) + 1) = (i : Int) + 1 := by rw [IntKind.wrap_i64]; omega
    have gb : IntKind.u8.wrap (i : Int) = (i : Int) := by rw [IntKind.wrap_u8']; omega
    go_wp2_with fail
    refine (putc_any _ i _ (by omega) _ A1.out).mono ?_
    rintro e W2 ⟨rfl, a2, k2⟩
    have A2 := hid a2
    have R2 := hid (bl_ks R1.out (by omega) k2)
    have K2 := hid (k2.up K1.out (by omega))
    clear a2 k2
    go_wp2_with fail
    go_roundg (gk - 1)
    case measure => omega
    case rel => exact ⟨i + 1, by go_num, by omega, by omega, R2.out, by rw [← ltB_step i]; exact A2.out, K2.out⟩
   ·
    have hli : ¬ (i : Int) < 256 := by omega
    have hi256 : i = 256 := by omega
    subst hi256
    have RF := R1
    have KF := K1
    obtain ⟨x0, x1, x2, x3⟩ := A1.out.cells
    have ff0 := bl_frozen RF.out 0
    have ff1 := bl_frozen RF.out 1
    have ff2 := bl_frozen RF.out 2
    have ff3 := bl_frozen RF.out 3
    obtain ⟨fc0, fc1, fc2, fc3⟩ := cells4 RF.out
    go_wp2_with fail
    have AF := bl_set4 RF.out (.int .u64 (wd (ltB 256) 0 : Nat)) (.int .u64 (wd (ltB 256) 1 : Nat)) (.int .u64 (wd (ltB 256) 2 : Nat)) (.int .u64 (wd (ltB 256) 3 : Nat))
    refine bodyPost_ret (v := sv (ltB 256)) (ret_at rfl _ _ _ _ rfl AF) rfl ⟨⟨ltB 256, rfl, cnt_pos _ 97 (by omega) rfl, ?_⟩⟩
    exact (ks_set4 _ _ _ _).up KF.out (Nat.le_refl _)
 ·
  go_wp2_with fail
  refine (putc_any _ 97 _ (by omega) _ A0.out).mono ?_
  rintro e W1 ⟨rfl, a1, k1⟩
  have A1 := hid a1
  have R1 := hid (bl_ks R0.out (by omega) k1)
  have K1 := hid (k1.up K0.out (by omega))
  clear a1 k1
  go_wp2_with fail
  refine (putc_any _ 98 _ (by omega) _ A1.out).mono ?_
  rintro e W2 ⟨rfl, a2, k2⟩
  have A2 := hid a2
  have R2 := hid (bl_ks R1.out (by omega) k2)
  have K2 := hid (k2.up K1.out (by omega))
  clear a2 k2
  have RF := R2
  have KF := K2
  obtain ⟨x0, x1, x2, x3⟩ := A2.out.cells
  have ff0 := bl_frozen RF.out 0
  have ff1 := bl_frozen RF.out 1
  have ff2 := bl_frozen RF.out 2
  have ff3 := bl_frozen RF.out 3
  obtain ⟨fc0, fc1, fc2, fc3⟩ := cells4 RF.out
  go_wp2_with fail
  have AF := bl_set4 RF.out (.int .u64 (wd (addB (addB (fun _ => false) 97) 98) 0 : Nat)) (.int .u64 (wd (addB (addB (fun _ => false) 97) 98) 1 : Nat)) (.int .u64 (wd (addB (addB (fun _ => false) 97) 98) 2 : Nat)) (.int .u64 (wd (addB (addB (fun _ => false) 97) 98) 3 : Nat))
  refine bodyPost_ret (v := sv (addB (addB (fun _ => false) 97) 98)) (ret_at rfl _ _ _ _ rfl AF) rfl ⟨⟨addB (addB (fun _ => false) 97) 98, rfl, cnt_pos _ 97 (by omega) rfl, ?_⟩⟩
  exact (ks_set4 _ _ _ _).up KF.out (Nat.le_refl _)
 ·
  go_wp2_with fail
  go_loopg [36] 257 (fun gk v wr => ∃ i : Nat, v = .int .i64 (i : Int) ∧ i ≤ 256 ∧ 256 < gk + i ∧ wr.heap[w.heap.size]? = some (.cells #[.int .u64 0, .int .u64 0, .int .u64 0, .int .u64 0] 24) ∧ At wr (w.heap.size + 1) (ltN i) ∧ Kp w wr)
  case atStart => exact ⟨0, rfl, by omega, by omega, R0.out, by
   have := A0.out
   rw [show (fun _ => false) = ltN 0 from funext fun k => by unfold ltN; simp] at this
   exact this, K0.out⟩
  case round =>
   obtain ⟨i, rfl, hi, hgi, r1, a1, k1⟩ := hrel
   have R1 := hid r1
   have A1 := hid a1
   have K1 := hid k1
   clear r1 a1 k1
   by_cases hlt : i < 256
   ·
    have hli : (i : Int) < 256 := by omega
    have gi : IntKind.i64.wrap ((i : Int) + 1) = (i : Int) + 1 := by rw [IntKind.wrap_i64]; omega
    have gb : IntKind.u8.wrap (i : Int) = (i : Int) := by rw [IntKind.wrap_u8']; omega
    by_cases h97 : i = 97
    ·
     subst h97
     go_wp2_with fail
     go_roundg (gk - 1)
     case measure => omega
     case rel => exact ⟨97 + 1, by go_num, by omega, by omega, R1.out, by rw [ltN_skip]; exact A1.out, K1.out⟩
    ·
     have n97 : ((i : Int) != 97) = true := by simp; omega
     have n97' : ¬ (i : Int) = 97 := by omega
     go_wp2_with fail
     refine (putc_any _ i _ (by omega) _ A1.out).mono ?_
     rintro e W2 ⟨rfl, a2, k2⟩
     have A2 := hid a2
     have R2 := hid (bl_ks R1.out (by omega) k2)
     have K2 := hid (k2.up K1.out (by omega))
     clear a2 k2
     go_wp2_with fail
     go_roundg (gk - 1)
     case measure => omega
     case rel => exact ⟨i + 1, by go_num, by omega, by omega, R2.out, by rw [← ltN_step i h97]; exact A2.out, K2.out⟩
   ·
    have hli : ¬ (i : Int) < 256 := by omega
    have hi256 : i = 256 := by omega
    subst hi256
    have RF := R1
    have KF := K1
    obtain ⟨x0, x1, x2, x3⟩ := A1.out.cells
    have ff0 := bl_frozen RF.out 0
    have ff1 := bl_frozen RF.out 1
    have ff2 := bl_frozen RF.out 2
    have ff3 := bl_frozen RF.out 3
    obtain ⟨fc0, fc1, fc2, fc3⟩ := cells4 RF.out
    go_wp2_with fail
    have AF := bl_set4 RF.out (.int .u64 (wd (ltN 256) 0 : Nat)) (.int .u64 (wd (ltN 256) 1 : Nat)) (.int .u64 (wd (ltN 256) 2 : Nat)) (.int .u64 (wd (ltN 256) 3 : Nat))
    refine bodyPost_ret (v := sv (ltN 256)) (ret_at rfl _ _ _ _ rfl AF) rfl ⟨⟨ltN 256, rfl, cnt_pos _ 98 (by omega) rfl, ?_⟩⟩
    exact (ks_set4 _ _ _ _).up KF.out (Nat.le_refl _)
 ·
  have c0 : ¬ (c : Int) = 0 := by omega
  have c1 : ¬ (c : Int) = 1 := by omega
  have c2 : ¬ (c : Int) = 2 := by omega
  have d0 : ((c : Int) == 0) = false := by simp; omega
  have d1 : ((c : Int) == 1) = false := by simp; omega
  have d2 : ((c : Int) == 2) = false := by simp; omega
  go_wp2_with fail
  refine (within_nat _ 5 (by omega) _).mono ?_
  rintro e Wz ⟨k, hk5, rfl, rfl⟩
  obtain ⟨b, hb, hcell⟩ := at6 (last_of W0 (.cells cb6 5)) k hk5
  have hk6 : (k : Int) < 6 := by omega
  go_wp2_with fail
  refine (putc_any _ b _ hb _ (A0.out.alloc _)).mono ?_
  rintro e W2 ⟨rfl, a2, k2⟩
  have A2 := hid a2
  have R2 := hid (bl_ks (bl_alloc R0.out _) (by omega) k2)
  have K2 := hid (k2.up (K0.out.alloc _) (by omega))
  clear a2 k2 hcell
  have RF := R2
  have KF := K2
  obtain ⟨x0, x1, x2, x3⟩ := A2.out.cells
  have ff0 := bl_frozen RF.out 0
  have ff1 := bl_frozen RF.out 1
  have ff2 := bl_frozen RF.out 2
  have ff3 := bl_frozen RF.out 3
  obtain ⟨fc0, fc1, fc2, fc3⟩ := cells4 RF.out
  go_wp2_with fail
  have AF := bl_set4 RF.out (.int .u64 (wd (addB (fun _ => false) b) 0 : Nat)) (.int .u64 (wd (addB (fun _ => false) b) 1 : Nat)) (.int .u64 (wd (addB (fun _ => false) b) 2 : Nat)) (.int .u64 (wd (addB (fun _ => false) b) 3 : Nat))
  refine bodyPost_ret (v := sv (addB (fun _ => false) b)) (ret_at rfl _ _ _ _ rfl AF) rfl ⟨⟨addB (fun _ => false) b, rfl, cnt_pos _ b hb (by unfold addB; simp), ?_⟩⟩
  exact (ks_set4 _ _ _ _).up KF.out (Nat.le_refl _)
end Go.Proofs.YtigdmebijbaofaaGreatDoor

/-! ### Mak4 -/

namespace Go.Proofs.YtigdmebijbaofaaGreatDoor
set_option maxHeartbeats 2000000
set_option maxRecDepth 100000
open Go.RowKit

structure Gone (B : Nat) (s t : Nat) (x g : Nat) (z : Int) (w w' : World) (g' : Nat) : Prop where
 ex : ∃ (x' : Nat) (z' : Int), Mk w' B (x' : Int) (g' : Int) z' ∧ x' + 8 * (4 - g') ≤ x + 8 * (4 - g) + s ∧ z + 8 * g ≤ z' + 8 * g' + t ∧ z' ≤ z
 km : Km B w w'
structure Asks (w : World) (aK : Option Addr) (lK : Nat) (aN : Option Addr) (lN : Nat) (B s t x g : Nat) (z : Int) : Prop where
 mm : Mk w B (x : Int) (g : Int) z
 nk : Nums w B aK lK
 nn : Nums w B aN lN
 g3 : g ≤ 3
 bx : x + 8 * (4 - g) + s ≤ 150
 bz : -100 ≤ z + 8 * g - t
 z14 : z ≤ 14
structure RowD (ere : Bool) (B d x g : Nat) (z : Int) (w : World) (e : Ending) (w' : World) : Prop where
 ex : ∃ T v g', e = .returned v ∧ Is w' (fun b => w.heap.size ≤ b) T v ∧ Trip.RGood ere T d g g' ∧ Gone B 4 7 x g z w w' g'
structure RowSaid (ere : Bool) (d : Nat) : Prop where
 all : ∀ (aK : Option Addr) (lK cK : Nat) (aN : Option Addr) (lN cN : Nat) (B x g : Nat) (z : Int) (w : World), Asks w aK lK aN lN B 4 7 x g z → Calls Tryz.prog 80 #[mkv aK lK cK aN lN cN ere B, .int .i64 (d : Int)] w fun e w' => RowD ere B d x g z w e w'
structure PartD (ere : Bool) (B d x g : Nat) (z : Int) (w : World) (e : Ending) (w' : World) : Prop where
 ex : ∃ T v g', e = .returned v ∧ Is w' (fun b => w.heap.size ≤ b) T v ∧ Trip.PGood ere 2 T d g g' ∧ Gone B 1 2 x g z w w' g'
structure Mid (ere : Bool) (B V d g x : Nat) (z : Int) (w w' : World) : Prop where
 ex : ∃ T g' k mn mx m t ad l c, w'.heap[V]? = some (rxo k mn mx m t (.slice ad l c)) ∧ Is w' (fun b => w.heap.size + 1 < b ∧ b ≠ V) T (rxv k mn mx m t (.slice ad l c)) ∧ Trip.PGood ere 1 T d g g' ∧ mayRep T.k = true ∧ Gone B 1 2 x g z w w' g'

theorem Mk.ks {w w' : World} {B S : Nat} {x y z : Int} (h : Mk w B x y z) (k : Ks S w w') (hS : B + 2 < S) : Mk w' B x y z := ⟨bl_ks h.at_ (by omega) k, bl_ks h.gr (by omega) k, bl_ks h.lf (by omega) k⟩
theorem Km.new {B S : Nat} {a b c : World} (h : Km B a b) (k : Ks S b c) (hS : a.heap.size ≤ S) (hB : B ≤ a.heap.size) : Km B a c :=
 ⟨h.lo.trans (Below.mono k.lo (by omega)), fun j hj n0 n1 n2 => (k.block j (Nat.lt_of_lt_of_le hj h.size) (by omega)).trans (h.block j hj n0 n1 n2)⟩
theorem Gone.ks {B s t x g : Nat} {z : Int} {w w' w'' : World} {g' : Nat} {S : Nat} (h : Gone B s t x g z w w' g') (k : Ks S w' w'') (hS : w.heap.size ≤ S) (hB : B + 2 < w.heap.size) : Gone B s t x g z w w'' g' := by
 obtain ⟨x', z', h1, h2, h3, h4⟩ := h.ex
 exact ⟨⟨x', z', h1.ks k (by omega), h2, h3, h4⟩, h.km.new k hS (by omega)⟩
theorem Gone.kp {B s t x g : Nat} {z : Int} {w w' w'' : World} {g' : Nat} (h : Gone B s t x g z w w' g') (k : Kp w' w'') (hB : B + 2 < w.heap.size) : Gone B s t x g z w w'' g' := by
 obtain ⟨x', z', h1, h2, h3, h4⟩ := h.ex
 exact ⟨⟨x', z', h1.kp k, h2, h3, h4⟩, h.km.kp k (by omega)⟩
structure Bq (P : Prop) (v : Value) : Prop where
 ex : ∃ q : Bool, v = .bool q ∧ (q = true → P)

theorem kpart_any (aK : Option Addr) (lK cK : Nat) (aN : Option Addr) (lN cN : Nat) (ere : Bool) (B : Nat) (d x g : Nat) (z : Int) (w : World) (hd : d ≤ 3) (HR : d < 3 → RowSaid ere (d + 1)) (hA : Asks w aK lK aN lN B 1 2 x g z) :
  Calls Tryz.prog 148 #[(mkv aK lK cK aN lN cN ere B), .int .i64 (d : Int)] w fun e w' => PartD ere B d x g z w e w' := by
 have HA := hid hA
 have hBw := hA.mm.lt
 have hg3 := hA.g3
 have hbx := hA.bx
 have hbz := hA.bz
 have hz14 := hA.z14
 have RS := hid HR
 clear hA HR
 go_enter Tryz.func148, Tryz.ntmps148
 go_upto_region 1 with fail
 refine opq (fun W0 => W0.heap[w.heap.size]? = some (mko aK lK cK aN lN cN ere B) ∧ W0.heap[(w.heap.size + 1)]? = some rzo ∧ Kp w W0) ⟨by exact bl_alloc (last_of _ _) _, by exact last_at _ _ _ (by simp), by exact kpt⟩ ?_
 rintro W0 ⟨xA0, xR0, xK0⟩
 have A0 := hidT xA0
 have R0 := hidT xR0
 have K0 := hidT xK0
 clear xA0 xR0 xK0
 have AS0 := hid (HA.out.mm.kp K0.out)
 have NK0 := hid (HA.out.nk.km (K0.out.km (B := B) (by omega)))
 have NN0 := hid (HA.out.nn.km (K0.out.km (B := B) (by omega)))
 obtain ⟨p0, p1, p2, p3, p4, p5⟩ := cells6 (A0.out)
 go_wp2_with fail
 refine (next_any aK lK cK aN lN cN ere B x (g : Int) z _ AS0.out NK0.out NN0.out (by omega)).mono ?_
 rintro e W1 ⟨kd, n, rfl, m1, k1⟩
 have hs0 := K0.out.size
 have hs0' : w.heap.size + 1 < W0.heap.size := bl_lt R0.out
 have hs1 := k1.size
 have M1 := hid m1
 have A1 := hid (bl_km A0.out (by omega) k1)
 have R1 := hid (bl_km R0.out (by omega) k1)
 have K1 : Hid (Km B w W1) := (K0.out.km (by omega)).trans k1
 clear m1 k1 AS0 NK0 NN0 A0 R0 p0 p1 p2 p3 p4 p5
 go_upto_region 2 with fail
 have gz : IntKind.i64.wrap (z - 2) = z - 2 := by rw [IntKind.wrap_i64]; omega
 go_cut [] (fun wc => Mk wc B ((x + 1 : Nat) : Int) (g : Int) (z - 2) ∧ wc.heap[w.heap.size]? = some (mko aK lK cK aN lN cN ere B) ∧ wc.heap[w.heap.size + 1]? = some rzo ∧ Km B w wc ∧ W1.heap.size ≤ wc.heap.size)
 case first =>
  have Q0 : Kp W1 W1.drew := (Kp.refl _).drew
  have MK : Hid (∀ W, Kp W1 W → W.cell? ⟨w.heap.size, 5, none⟩ = some (.pointer (some ⟨B + 2, 0, none⟩)) ∧ W.cell? ⟨(B + 2), 0, none⟩ = some (.int .i64 z) ∧ Hid (Kp W1 W)) := fun W k => ⟨bl_cell (bl_kp A1.out k) 5 _ rfl, bl_cell (M1.out.kp k).lf 0 _ rfl, k⟩
  refine wp_region_noPanic ?_
  refine hdrewZ 8 MK Q0 (fun hH => ?_)
  have KQ := Q0
  refine zk 8 0 [] (some 17) (Op.fieldAddr 120 (Operand.tmp 2) 4) 0 (v := ?v0a1) rfl ?h0a1 hH ?_
  case h0a1 => intro _ _; go_simp; try with_reducible rfl
  try simp only [ps]
  refine zk 8 1 [] (some 18) (Op.load 118 (Operand.tmp 17)) 118 (v := ?v1a2) rfl ?h1a2 hH ?_
  case h1a2 => intro _ _; go_simp; try with_reducible rfl
  try simp only [ps]
  refine zk 8 2 [] (some 19) (Op.fieldAddr 120 (Operand.tmp 2) 4) 0 (v := ?v2a3) rfl ?h2a3 hH ?_
  case h2a3 => intro _ _; go_simp; try with_reducible rfl
  try simp only [ps]
  refine zk 8 3 [] (some 20) (Op.load 118 (Operand.tmp 19)) 118 (v := ?v3a4) rfl ?h3a4 hH ?_
  case h3a4 => intro _ _; go_simp; try with_reducible rfl
  try simp only [ps]
  refine zk 8 4 [] (some 21) (Op.nilCheck (Operand.tmp 20)) 0 (v := ?v4a5) rfl ?h4a5 hH ?_
  case h4a5 => intro _ _; go_simp; try with_reducible rfl
  try simp only [ps]
  refine zk 8 5 [] (some 22) (Op.load 3 (Operand.tmp 21)) 3 (v := ?v5a6) rfl ?h5a6 hH ?_
  case h5a6 => intro _ _; go_simp; try with_reducible rfl
  try simp only [ps]
  refine zk 8 6 [] (some 23) (Op.binOp BinOp.sub 3 (Operand.tmp 22) (Operand.const (Value.int IntKind.i64 2)) 3) 3 (v := ?v6a7) rfl ?h6a7 hH ?_
  case h6a7 => intro _ _; go_simp; try with_reducible rfl
  try simp only [ps]
  refine zk 8 7 [] (some 24) (Op.nilCheck (Operand.tmp 18)) 0 (v := ?v7a8) rfl ?h7a8 hH ?_
  case h7a8 => intro _ _; go_simp; try with_reducible rfl
  try simp only [ps]
  refine anyZ_ready (rs := [8]) (by kernel_rfl) (by simp) ?_
  refine AllZ.last (o := { dst := none, op := Op.store 3 (Operand.tmp 24) (Operand.tmp 23), type := 0, pos := "keep.go:100", after := #[{ on := 7, ground := Ground.data }, { on := 6, ground := Ground.data }, { on := 0, ground := Ground.phase }, { on := 1, ground := Ground.phase }, { on := 2, ground := Ground.phase }, { on := 3, ground := Ground.phase }, { on := 4, ground := Ground.phase }, { on := 5, ground := Ground.phase }, { on := 6, ground := Ground.phase }], guard := none }) rfl (Or.inl rfl) (fun K hKq => ?_) AllZ.nil
  have fq2 := bl_frozen (M1.out.kp KQ).lf 0
  have cq2 := bl_cell (M1.out.kp KQ).lf 0 _ rfl
  go_simp
  refine hKq.out _ _ ?_
  clear fq2 cq2
  clear hKq K
  try simp only [ps]
  refine anyZ_done (by kernel_rfl) ?_ _
  refine NoPanic.normal ?_
  go_wp2_with fail
  go_meet
  case rel => exact ⟨(M1.out.kp KQ).setL _, bl_set (bl_kp A1.out KQ) (by omega) _, bl_set (bl_kp R1.out KQ) (by omega) _, (K1.out.kp KQ (by omega)).set 2 (by omega) 0 _, by simp⟩
 case rest =>
 obtain ⟨m2, a2, r2, k2, hs2⟩ := hcut
 rename World => W2
 have M2 := hid m2
 have A2 := hid a2
 have R2 := hid r2
 have K2 := hid k2
 clear m2 a2 r2 k2 M1 A1 R1 K1 gz
 go_wp2_with fail
 refine (byteSet_any n _).mono ?_
 rintro e W3 ⟨q, rfl, hq, k3⟩
 have hs3 := k3.size
 have M3 := hid (M2.out.kp k3)
 have A3 := hid (bl_kp A2.out k3)
 have R3 := hid (bl_kp R2.out k3)
 have K3 := hid (K2.out.kp k3 (by omega))
 have HQ := hid hq
 clear k3 hq M2 A2 R2 K2
 go_upto_region 4 with fail
 refine opq (fun W4w => Mk W4w B ((x + 1 : Nat) : Int) (g : Int) (z - 2) ∧ W4w.heap[w.heap.size]? = some (mko aK lK cK aN lN cN ere B) ∧ W4w.heap[(w.heap.size + 1)]? = some rzo ∧ W4w.heap[W3.heap.size]? = some (rxo 1 0 0 0 (W4.of q) (.slice none 0 0)) ∧ Km B w W4w) ⟨by exact M3.out.kp kpt, by exact bl_kp A3.out kpt, by exact bl_kp R3.out kpt, by (first | exact last_at _ _ _ (by simp) | (refine bl_alloc ?_ _; first | exact last_at _ _ _ (by simp) | (refine bl_alloc ?_ _; first | exact last_at _ _ _ (by simp) | (refine bl_alloc ?_ _; exact last_at _ _ _ (by simp))))), by exact K3.out.kp kpt (by omega)⟩ ?_
 rintro W4w ⟨xM4, xA4, xR4, xV4, xK4⟩
 have M4 := hidT xM4
 have A4 := hidT xA4
 have R4 := hidT xR4
 have V4 := hidT xV4
 have K4 := hidT xK4
 clear xM4 xA4 xR4 xV4 xK4
 have hs4 : W3.heap.size < W4w.heap.size := bl_lt V4.out
 clear M3 A3 R3 K3
 go_wp2_with fail
 refine (within_nat _ 9 (by omega) _).mono ?_
 rintro e W4w ⟨c, hc9, rfl, rfl⟩
 obtain ⟨p0, p1, p2, p3, p4, p5⟩ := cells6 (A4.out)
 have q0 := bl_cell M4.out.lf 0 _ rfl
 have q1 := bl_cell M4.out.gr 0 _ rfl
 go_upto_region 5 with fail
 go_cut [49] (fun v wc => Bq (d < 3 ∧ g < 3) v ∧ Kp W4w wc)
 case first =>
  by_cases h6 : 6 ≤ c
  ·
   have h6i : (6 : Int) ≤ (c : Int) := by omega
   by_cases hl : 3 < z - 2
   ·
    have hli : (3 : Int) < z - 2 := by omega
    by_cases hd3 : d < 3
    ·
     have hd3i : (d : Int) < 3 := by omega
     by_cases hg2 : g < 3
     ·
      have hg2i : (g : Int) < 3 := by omega
      go_wp2_with fail
      go_meet
      case rel => exact ⟨⟨_, rfl, fun _ => ⟨hd3, hg2⟩⟩, Kp.refl _⟩
     ·
      have hg2i : ¬ (g : Int) < 3 := by omega
      go_wp2_with fail
      go_meet
      case rel => exact ⟨⟨_, rfl, fun h => by cases h⟩, Kp.refl _⟩
    ·
     have hd3i : ¬ (d : Int) < 3 := by omega
     go_wp2_with fail
     go_meet
     case rel => exact ⟨⟨_, rfl, fun h => by cases h⟩, Kp.refl _⟩
   ·
    have hli : ¬ (3 : Int) < z - 2 := by omega
    go_wp2_with fail
    go_meet
    case rel => exact ⟨⟨_, rfl, fun h => by cases h⟩, Kp.refl _⟩
  ·
   have h6i : ¬ (6 : Int) ≤ (c : Int) := by omega
   go_wp2_with fail
   go_meet
   case rel => exact ⟨⟨_, rfl, fun h => by cases h⟩, Kp.refl _⟩
 case rest =>
 obtain ⟨⟨⟨q5, rfl, hq5⟩⟩, k5⟩ := hcut
 rename World => W5
 have hs5 := k5.size
 have M5 := hid (M4.out.kp k5)
 have A5 := hid (bl_kp A4.out k5)
 have R5 := hid (bl_kp R4.out k5)
 have V5 := hid (bl_kp V4.out k5)
 have K5 := hid (K4.out.kp k5 (by omega))
 clear k5 M4 A4 R4 V4 K4 q0 q1 p0 p1 p2 p3 p4 p5
 go_upto_if 49 with fail
 go_cut [] (fun wc => Mid ere B W3.heap.size d g x z w wc ∧ wc.heap[w.heap.size + 1]? = some rzo)
 case first =>
  cases q5 with
  | true =>
   obtain ⟨hd3, hg2⟩ := hq5 rfl
   have RSx := hid ((RS.out hd3).all aK lK cK aN lN cN B (x + 1) (g + 1) (z - 2))
   have gg : IntKind.i64.wrap ((g : Int) + 1) = ((g + 1 : Nat) : Int) := by rw [IntKind.wrap_i64]; omega
   have gd : IntKind.i64.wrap ((d : Int) + 1) = ((d + 1 : Nat) : Int) := by rw [IntKind.wrap_i64]; omega
   go_upto_region 6 with fail
   go_cut [] (fun wc => Mk wc B ((x + 1 : Nat) : Int) ((g + 1 : Nat) : Int) (z - 2) ∧ wc.heap[w.heap.size]? = some (mko aK lK cK aN lN cN ere B) ∧ wc.heap[w.heap.size + 1]? = some rzo ∧ wc.heap[W3.heap.size]? = some (rxo 1 0 0 0 (W4.of q) (.slice none 0 0)) ∧ Km B w wc ∧ W5.heap.size ≤ wc.heap.size)
   case first =>
    have Q0 : Kp W5 W5.drew := (Kp.refl _).drew
    have MK : Hid (∀ W, Kp W5 W → W.cell? ⟨w.heap.size, 4, none⟩ = some (.pointer (some ⟨B + 1, 0, none⟩)) ∧ W.cell? ⟨(B + 1), 0, none⟩ = some (.int .i64 (g : Int)) ∧ Hid (Kp W5 W)) := fun W k => ⟨bl_cell (bl_kp A5.out k) 4 _ rfl, bl_cell (M5.out.kp k).gr 0 _ rfl, k⟩
    refine wp_region_noPanic ?_
    refine hdrewZ 8 MK Q0 (fun hH => ?_)
    have KQ := Q0
    refine zk 8 0 [] (some 50) (Op.fieldAddr 120 (Operand.tmp 2) 3) 0 (v := ?v0b1) rfl ?h0b1 hH ?_
    case h0b1 => intro _ _; go_simp; try with_reducible rfl
    try simp only [ps]
    refine zk 8 1 [] (some 51) (Op.load 118 (Operand.tmp 50)) 118 (v := ?v1b2) rfl ?h1b2 hH ?_
    case h1b2 => intro _ _; go_simp; try with_reducible rfl
    try simp only [ps]
    refine zk 8 2 [] (some 52) (Op.fieldAddr 120 (Operand.tmp 2) 3) 0 (v := ?v2b3) rfl ?h2b3 hH ?_
    case h2b3 => intro _ _; go_simp; try with_reducible rfl
    try simp only [ps]
    refine zk 8 3 [] (some 53) (Op.load 118 (Operand.tmp 52)) 118 (v := ?v3b4) rfl ?h3b4 hH ?_
    case h3b4 => intro _ _; go_simp; try with_reducible rfl
    try simp only [ps]
    refine zk 8 4 [] (some 54) (Op.nilCheck (Operand.tmp 53)) 0 (v := ?v4b5) rfl ?h4b5 hH ?_
    case h4b5 => intro _ _; go_simp; try with_reducible rfl
    try simp only [ps]
    refine zk 8 5 [] (some 55) (Op.load 3 (Operand.tmp 54)) 3 (v := ?v5b6) rfl ?h5b6 hH ?_
    case h5b6 => intro _ _; go_simp; try with_reducible rfl
    try simp only [ps]
    refine zk 8 6 [] (some 56) (Op.binOp BinOp.add 3 (Operand.tmp 55) (Operand.const (Value.int IntKind.i64 1)) 3) 3 (v := ?v6b7) rfl ?h6b7 hH ?_
    case h6b7 => intro _ _; go_simp; try with_reducible rfl
    try simp only [ps]
    refine zk 8 7 [] (some 57) (Op.nilCheck (Operand.tmp 51)) 0 (v := ?v7b8) rfl ?h7b8 hH ?_
    case h7b8 => intro _ _; go_simp; try with_reducible rfl
    try simp only [ps]
    refine anyZ_ready (rs := [8]) (by kernel_rfl) (by simp) ?_
    refine AllZ.last (o := { dst := none, op := Op.store 3 (Operand.tmp 57) (Operand.tmp 56), type := 0, pos := "keep.go:104", after := #[{ on := 7, ground := Ground.data }, { on := 6, ground := Ground.data }, { on := 0, ground := Ground.phase }, { on := 1, ground := Ground.phase }, { on := 2, ground := Ground.phase }, { on := 3, ground := Ground.phase }, { on := 4, ground := Ground.phase }, { on := 5, ground := Ground.phase }, { on := 6, ground := Ground.phase }], guard := none }) rfl (Or.inl rfl) (fun K hKq => ?_) AllZ.nil
    have fq2 := bl_frozen (M5.out.kp KQ).gr 0
    have cq2 := bl_cell (M5.out.kp KQ).gr 0 _ rfl
    go_simp
    refine hKq.out _ _ ?_
    clear fq2 cq2
    clear hKq K
    try simp only [ps]
    refine anyZ_done (by kernel_rfl) ?_ _
    refine NoPanic.normal ?_
    go_wp2_with fail
    go_meet
    case rel => exact ⟨(M5.out.kp KQ).setG _, bl_set (bl_kp A5.out KQ) (by omega) _, bl_set (bl_kp R5.out KQ) (by omega) _, bl_set (bl_kp V5.out KQ) (by omega) _, (K5.out.kp KQ (by omega)).set 1 (by omega) 0 _, by simp⟩
   case rest =>
   obtain ⟨m6, a6, r6, v6, k6, hs6⟩ := hcut
   rename World => W6
   have M6 := hid m6
   have A6 := hid a6
   have R6 := hid r6
   have V6 := hid v6
   have K6 := hid k6
   have AX := hid (RSx.out W6 ⟨m6, HA.out.nk.km k6, HA.out.nn.km k6, by omega, by omega, by omega, by omega⟩)
   clear m6 a6 r6 v6 k6 M5 A5 R5 V5 K5 gg RSx
   obtain ⟨p0, p1, p2, p3, p4, p5⟩ := cells6 (A6.out)
   have q1 := bl_cell M6.out.gr 0 _ rfl
   go_wp2_with fail
   refine AX.out.mono ?_
   rintro e W8 ⟨⟨T, v, g', rfl, hI, hG, hGn⟩⟩
   obtain ⟨kk, mn, mx, mm, tt, ad, ll, cc, rfl⟩ := hI.form
   have hs8 := hGn.km.size
   have I8 := hid (hI.weak (ok' := fun b => w.heap.size + 1 < b ∧ b ≠ W3.heap.size) (fun b hb _ => ⟨by omega, by omega⟩))
   have V8 : Hid ((W8.alloc (rxo kk mn mx mm tt (.slice ad ll cc))).heap[W3.heap.size]? = some (rxo 1 0 0 0 (W4.of q) (.slice none 0 0))) := bl_alloc (bl_km V6.out (by omega) hGn.km) _
   have R8 := hid (bl_km R6.out (by omega) hGn.km)
   have K8 := hid (K6.out.trans hGn.km)
   have HG := hid hG
   have GX := hid hGn.ex
   have KI := hid ((RK.single (base := 0) kk mn mx mm tt ad ll cc I8.out (by omega) ⟨by omega, by omega⟩).is 5 0 0 ((g + 1 : Nat) : Int) W4.z)
   clear hI hG hGn M6 A6 R6 V6 K6 q1 I8 p0 p1 p2 p3 p4 p5
   obtain ⟨v0, fv0, v1, fv1, v2, fv2, v3, fv3, v4, fv4, v5, fv5, v6, fv6, v7, fv7, v8, fv8⟩ := cellf9 (V8.out)
   go_wp2_with fail
   go_meet
   case rel =>
    refine ⟨⟨.mk 5 0 0 ((g + 1 : Nat) : Int) W4.z [T], g', 5, 0, 0, ((g + 1 : Nat) : Int), W4.z, _, _, _, bl_set9 V8.out _ _ _ _ _ _ _ _ _, KI.out.ks (ks_set9 _ _ _ _ _ _ _ _ _) (fun b hb _ => hb.2), Trip.group_good ere T d g g' (by omega) (by omega) HG.out, rfl, ?_⟩, bl_set (bl_set (bl_set (bl_set (bl_set (bl_set (bl_set (bl_set (bl_set (bl_alloc R8.out _) (by omega) _) (by omega) _) (by omega) _) (by omega) _) (by omega) _) (by omega) _) (by omega) _) (by omega) _) (by omega) _⟩
    obtain ⟨x', z', h1, h2, h3, h4⟩ := GX.out
    exact Gone.ks ⟨⟨x', z', h1.kp ((Kp.refl _).alloc _), by omega, by omega, by omega⟩, K8.out.kp ((Kp.refl _).alloc _) (by omega)⟩ (ks_set9 _ _ _ _ _ _ _ _ _) (by omega) (by omega)
  | false =>
   have GN5 : Hid (Gone B 1 2 x g z w W5 g) := ⟨⟨x + 1, z - 2, M5.out, by omega, by omega, by omega⟩, K5.out⟩
   have MS : Hid (Mid ere B W3.heap.size d g x z w W5) := ⟨⟨Trip.setR q, g, 1, 0, 0, 0, W4.of q, none, 0, 0, V5.out, Is.leaf _ _ _ _ _ _ _, Trip.set_good ere q HQ.out d g hg3, rfl, GN5.out⟩⟩
   obtain ⟨p0, p1, p2, p3, p4, p5⟩ := cells6 (A5.out)
   have q1 := bl_cell M5.out.gr 0 _ rfl
   by_cases hc5 : c = 5
   ·
    subst hc5
    by_cases hg0 : 0 < g
    ·
     have hg0i : (0 : Int) < (g : Int) := by omega
     have wl := wit_le n 1 (g : Int) (by omega)
     obtain ⟨b, hb⟩ : ∃ b : Nat, wit n 1 (g : Int) = (b : Int) := ⟨(wit n 1 (g : Int)).toNat, by omega⟩
     rw [hb] at wl
     have WN := hid (fun w => within_any n 1 (g : Int) w (by omega) (by omega) (by omega))
     rw [hb] at WN
     clear hb
     go_wp2_with fail
     refine (WN.out _).mono ?_
     rintro e W5 ⟨rfl, rfl⟩
     obtain ⟨v0, fv0, v1, fv1, v2, fv2, v3, fv3, v4, fv4, v5, fv5, v6, fv6, v7, fv7, v8, fv8⟩ := cellf9 (V5.out)
     go_wp2_with fail
     go_meet
     case rel => exact ⟨⟨.mk 6 0 0 (b : Int) W4.z [], g, 6, 0, 0, (b : Int), W4.z, none, 0, 0, bl_set9 V5.out _ _ _ _ _ _ _ _ _, Is.leaf _ _ _ _ _ _ _, Trip.back_good ere b d g hg3 (by omega) (by omega), rfl, GN5.out.ks (ks_set9 _ _ _ _ _ _ _ _ _) (by omega) (by omega)⟩, bl_set (bl_set (bl_set (bl_set (bl_set (bl_set (bl_set (bl_set (bl_set R5.out (by omega) _) (by omega) _) (by omega) _) (by omega) _) (by omega) _) (by omega) _) (by omega) _) (by omega) _) (by omega) _⟩
    ·
     have hg0i : ¬ (0 : Int) < (g : Int) := by omega
     go_wp2_with fail
     go_meet
     case rel => exact ⟨MS.out, R5.out⟩
   ·
    have hc5i : ((c : Int) == 5) = false := by simp; omega
    have hc5j : ¬ (c : Int) = 5 := by omega
    go_wp2_with fail
    go_meet
    case rel => exact ⟨MS.out, R5.out⟩
 case rest =>
 obtain ⟨⟨T, g', kk, mn, mx, mm, tt, ad, ll, cc, v6, i6, p6, hm6, gn6⟩, r6⟩ := hcut
 rename World => W6
 have V6 := hid v6
 have I6 := hid i6
 have R6 := hid r6
 have hs6 := gn6.km.size
 have hR6 : w.heap.size + 1 < W6.heap.size := bl_lt r6
 have PG := hid p6
 have HM6 := hid hm6
 have GN := hid gn6
 clear v6 i6 r6 p6 hm6 gn6 M5 A5 R5 V5 K5
 obtain ⟨qa, hqa⟩ : ∃ q, (bits .and .i64 (c : Int) 1 == 0) = q := ⟨_, rfl⟩
 obtain ⟨p0, p1, p2, p3, p4, p5, p6, p7, p8⟩ := cells9 (V6.out)
 obtain ⟨r0, fr0, r1, fr1, r2, fr2, r3, fr3, r4, fr4, r5, fr5, r6, fr6, r7, fr7, r8, fr8⟩ := cellf9 (R6.out)
 cases qa with
 | true =>
  go_wp2_with fail
  refine bodyPost_ret (v := rxv kk mn mx mm tt (.slice ad ll cc)) (rx_ret rfl _ _ _ _ rfl (bl_set9 R6.out _ _ _ _ _ _ _ _ _) rfl) rfl ⟨⟨T, _, g', rfl, ?_, PG.out.more (by omega), ?_⟩⟩
  ·
   exact (I6.out.ks (ks_set9 _ _ _ _ _ _ _ _ _) (fun b hb _ => by omega)).weak (fun b hb _ => by omega)
  ·
   exact GN.out.ks (ks_set9 _ _ _ _ _ _ _ _ _) (by omega) (by omega)
 | false =>
  clear p0 p1 p2 p3 p4 p5 p6 p7 p8 r0 r1 r2 r3 r4 r5 r6 r7 r8 fr0 fr1 fr2 fr3 fr4 fr5 fr6 fr7 fr8
  go_wp2_with fail
  refine (within_nat _ 2 (by omega) _).mono ?_
  rintro e W6 ⟨lo, hlo, rfl, rfl⟩
  obtain ⟨qb, hqb⟩ : ∃ q, (bits .and .i64 n 4 == 4) = q := ⟨_, rfl⟩
  cases qb with
  | true =>
   go_wp2_with fail
   refine (within_nat _ 2 (by omega) _).mono ?_
   rintro e W6 ⟨h2, hh2, rfl, rfl⟩
   obtain ⟨hi, hhi⟩ : ∃ hi : Nat, max lo 1 + h2 = hi := ⟨_, rfl⟩
   have eh : max (lo : Int) 1 + (h2 : Int) = (hi : Int) := by omega
   have ew : IntKind.i64.wrap (max (lo : Int) 1 + (h2 : Int)) = (hi : Int) := by rw [IntKind.wrap_i64]; omega
   have ew2 : IntKind.i64.wrap (hi : Int) = (hi : Int) := by rw [IntKind.wrap_i64]; omega
   go_upto_region 17 with fail
   refine opq (fun W7 => W7.heap[W3.heap.size]? = some (rxo kk mn mx mm tt (.slice ad ll cc)) ∧ Is W7 (fun b => w.heap.size + 1 < b ∧ b ≠ W3.heap.size) T (rxv kk mn mx mm tt (.slice ad ll cc)) ∧ W7.heap[(w.heap.size + 1)]? = some rzo ∧ Gone B 1 2 x g z w W7 g') ⟨by exact V6.out, by exact I6.out, by exact R6.out, by exact GN.out⟩ ?_
   rintro W7 ⟨xV7, xI7, xR7, xGN7⟩
   have V7 := hidT xV7
   have I7 := hidT xI7
   have R7 := hidT xR7
   have GN7 := hidT xGN7
   clear xV7 xI7 xR7 xGN7
   have hs7 : W3.heap.size < W7.heap.size := bl_lt V7.out
   have KI := hid ((RK.single (base := 0) kk mn mx mm tt ad ll cc I7.out (by omega) ⟨by omega, by omega⟩).is 4 (lo : Int) (hi : Int) 0 W4.z)
   have R8 : Hid ((W7.alloc (rxo kk mn mx mm tt (.slice ad ll cc))).heap[w.heap.size + 1]? = some rzo) := bl_alloc R7.out _
   have GN8 := hid (GN7.out.kp ((Kp.refl _).alloc (rxo kk mn mx mm tt (.slice ad ll cc))) (by omega))
   obtain ⟨p0, p1, p2, p3, p4, p5, p6, p7, p8⟩ := cells9 (V7.out)
   obtain ⟨r0, fr0, r1, fr1, r2, fr2, r3, fr3, r4, fr4, r5, fr5, r6, fr6, r7, fr7, r8, fr8⟩ := cellf9 (R8.out)
   go_wp2_with fail
   refine bodyPost_ret (v := rxv 4 (lo : Int) (hi : Int) 0 W4.z (.slice (some ⟨W7.heap.size, 0, none⟩) 1 1)) (rx_ret rfl _ _ _ _ rfl (bl_set9 R8.out _ _ _ _ _ _ _ _ _) rfl) rfl ⟨⟨.mk 4 (lo : Int) (hi : Int) 0 W4.z [T], _, g', rfl, ?_, Trip.rep_good ere T (lo : Int) (hi : Int) d g g' PG.out HM6.out (by unfold timesFit; rw [if_neg (by omega)]; simp; omega), ?_⟩⟩
   ·
    exact (KI.out.ks (ks_set9 _ _ _ _ _ _ _ _ _) (fun b hb _ => by omega)).weak (fun b hb _ => by omega)
   ·
    exact GN8.out.ks (ks_set9 _ _ _ _ _ _ _ _ _) (by omega) (by omega)
  | false =>
   go_upto_region 17 with fail
   refine opq (fun W7 => W7.heap[W3.heap.size]? = some (rxo kk mn mx mm tt (.slice ad ll cc)) ∧ Is W7 (fun b => w.heap.size + 1 < b ∧ b ≠ W3.heap.size) T (rxv kk mn mx mm tt (.slice ad ll cc)) ∧ W7.heap[(w.heap.size + 1)]? = some rzo ∧ Gone B 1 2 x g z w W7 g') ⟨by exact V6.out, by exact I6.out, by exact R6.out, by exact GN.out⟩ ?_
   rintro W7 ⟨xV7, xI7, xR7, xGN7⟩
   have V7 := hidT xV7
   have I7 := hidT xI7
   have R7 := hidT xR7
   have GN7 := hidT xGN7
   clear xV7 xI7 xR7 xGN7
   have hs7 : W3.heap.size < W7.heap.size := bl_lt V7.out
   have KI := hid ((RK.single (base := 0) kk mn mx mm tt ad ll cc I7.out (by omega) ⟨by omega, by omega⟩).is 4 (lo : Int) (-1) 0 W4.z)
   have R8 : Hid ((W7.alloc (rxo kk mn mx mm tt (.slice ad ll cc))).heap[w.heap.size + 1]? = some rzo) := bl_alloc R7.out _
   have GN8 := hid (GN7.out.kp ((Kp.refl _).alloc (rxo kk mn mx mm tt (.slice ad ll cc))) (by omega))
   obtain ⟨p0, p1, p2, p3, p4, p5, p6, p7, p8⟩ := cells9 (V7.out)
   obtain ⟨r0, fr0, r1, fr1, r2, fr2, r3, fr3, r4, fr4, r5, fr5, r6, fr6, r7, fr7, r8, fr8⟩ := cellf9 (R8.out)
   go_wp2_with fail
   refine bodyPost_ret (v := rxv 4 (lo : Int) (-1) 0 W4.z (.slice (some ⟨W7.heap.size, 0, none⟩) 1 1)) (rx_ret rfl _ _ _ _ rfl (bl_set9 R8.out _ _ _ _ _ _ _ _ _) rfl) rfl ⟨⟨.mk 4 (lo : Int) (-1) 0 W4.z [T], _, g', rfl, ?_, Trip.rep_good ere T (lo : Int) (-1) d g g' PG.out HM6.out (by unfold timesFit; rw [if_neg (by omega)]; simp), ?_⟩⟩
   ·
    exact (KI.out.ks (ks_set9 _ _ _ _ _ _ _ _ _) (fun b hb _ => by omega)).weak (fun b hb _ => by omega)
   ·
    exact GN8.out.ks (ks_set9 _ _ _ _ _ _ _ _ _) (by omega) (by omega)
end Go.Proofs.YtigdmebijbaofaaGreatDoor

/-! ### Mak5 -/

namespace Go.Proofs.YtigdmebijbaofaaGreatDoor
set_option maxHeartbeats 2000000
set_option maxRecDepth 100000
open Go.RowKit

theorem RKids.km {base B : Nat} {w w' : World} {v : Value} {ts : List Rx} (h : RKids base w v ts) (k : Km B w w') (hB : B + 2 < base) : RKids base w' v ts := h.turn k.size (fun b hb hl => k.block b hl (by omega) (by omega) (by omega))
theorem Km.grown {B : Nat} {a b c : World} {row : Option Nat} (h : Km B a b) (gr : b.grownBy c row) (hr : ∀ k, row = some k → a.heap.size ≤ k) (hB : B ≤ a.heap.size) : Km B a c :=
 ⟨⟨gr.os.trans h.lo.os, gr.tape.trans h.lo.tape, gr.output.trans h.lo.output, Nat.le_trans h.size gr.size, fun k hk => (gr.block k (Nat.lt_of_lt_of_le (Nat.lt_of_lt_of_le hk hB) h.size) (fun e => by have := hr k e.symm; omega)).trans (h.lo.block k hk)⟩,
  fun k hk n0 n1 n2 => (gr.block k (Nat.lt_of_lt_of_le hk h.size) (fun e => by have := hr k e.symm; omega)).trans (h.block k hk n0 n1 n2)⟩
theorem bl_gr {w w' : World} {S : Nat} {o : Obj} {row : Option Nat} (h : w.heap[S]? = some o) (gr : w.grownBy w' row) (hr : row ≠ some S) : w'.heap[S]? = some o := (gr.block S (bl_lt h) (fun e => hr e.symm)).trans h
theorem Gone.grown {B s t x g : Nat} {z : Int} {w w' w'' : World} {g' : Nat} {row : Option Nat} (h : Gone B s t x g z w w' g') (gr : w'.grownBy w'' row) (hr : ∀ k, row = some k → w.heap.size ≤ k) (hB : B + 2 < w.heap.size) : Gone B s t x g z w w'' g' := by
 obtain ⟨x', z', h1, h2, h3, h4⟩ := h.ex
 exact ⟨⟨x', z', ⟨bl_gr h1.at_ gr (fun e => by have := hr _ e; omega), bl_gr h1.gr gr (fun e => by have := hr _ e; omega), bl_gr h1.lf gr (fun e => by have := hr _ e; omega)⟩, h2, h3, h4⟩, h.km.grown gr hr (by omega)⟩
theorem LG_one {ere : Bool} {d : Nat} {r : Rx} {g g' : Nat} (h : Trip.LG ere d [r] g g') : Trip.PGood ere 2 r d g g' := by
 cases h with
 | cons h r =>
  cases r
  exact h
structure PartsD (ere : Bool) (B d m x g : Nat) (z : Int) (w : World) (e : Ending) (w' : World) : Prop where
 ex : ∃ T v g', e = .returned v ∧ Is w' (fun b => w.heap.size + 2 ≤ b) T v ∧ (m = 1 → Trip.PGood ere 2 T d g g') ∧ (2 ≤ m → ∃ ks kv, v = rxv 2 0 0 0 W4.z kv ∧ T = .mk 2 0 0 0 W4.z ks ∧ RKids (w.heap.size + 2) w' kv ks ∧ ks.length = m ∧ Trip.LG ere d ks g g') ∧ Gone B m (2 * m) x g z w w' g'
structure PartSaid (ere : Bool) (d : Nat) : Prop where
 all : ∀ (aK : Option Addr) (lK cK : Nat) (aN : Option Addr) (lN cN : Nat) (B x g : Nat) (z : Int) (w : World), Asks w aK lK aN lN B 1 2 x g z → Calls Tryz.prog 148 #[mkv aK lK cK aN lN cN ere B, .int .i64 (d : Int)] w fun e w' => PartD ere B d x g z w e w'
theorem parts_any (aK : Option Addr) (lK cK : Nat) (aN : Option Addr) (lN cN : Nat) (ere : Bool) (B : Nat) (d m x g : Nat) (z : Int) (w : World) (hm1 : 1 ≤ m) (hm3 : m ≤ 3) (HP : PartSaid ere d) (hA : Asks w aK lK aN lN B m (2 * m) x g z) :
  Calls Tryz.prog 113 #[(mkv aK lK cK aN lN cN ere B), .int .i64 (d : Int), .int .i64 (m : Int)] w fun e w' => PartsD ere B d m x g z w e w' := by
 have HA := hid hA
 have hBw := hA.mm.lt
 have hg3 := hA.g3
 have hbx := hA.bx
 have hbz := hA.bz
 have hz14 := hA.z14
 have HPS := hid HP
 clear hA HP
 go_enter Tryz.func113, Tryz.ntmps113
 go_upto_region 1 with fail
 refine opq (fun W0 => W0.heap[w.heap.size]? = some (mko aK lK cK aN lN cN ere B) ∧ W0.heap[(w.heap.size + 1)]? = some rzo ∧ Kp w W0) ⟨by exact bl_alloc (last_of _ _) _, by exact last_at _ _ _ (by simp), by exact kpt⟩ ?_
 rintro W0 ⟨xA0, xR0, xK0⟩
 have A0 := hidT xA0
 have R0 := hidT xR0
 have K0 := hidT xK0
 clear xA0 xR0 xK0
 have hs0 : w.heap.size + 1 < W0.heap.size := bl_lt R0.out
 go_wp2_with fail
 go_loopg [7, 9] (m + 1) (fun gk v7 v9 wr => ∃ (i g1 : Nat) (ks : List Rx), v9 = .int .i64 (i : Int) ∧ i ≤ m ∧ m < gk + i ∧ ks.length = i ∧ Trip.LG ere d ks g g1 ∧ RKids (w.heap.size + 2) wr v7 ks ∧ Gone B i (2 * i) x g z w wr g1 ∧ wr.heap[w.heap.size]? = some (mko aK lK cK aN lN cN ere B) ∧ wr.heap[w.heap.size + 1]? = some rzo)
 case atStart => exact ⟨0, g, [], rfl, by omega, by omega, rfl, .nil _, RKids.nil _ _, ⟨⟨x, z, HA.out.mm.kp K0.out, by omega, by omega, by omega⟩, K0.out.km (by omega)⟩, A0.out, R0.out⟩
 case round =>
  obtain ⟨i, g1, ks, rfl, hi, hgk, hlen, hLG, hRK, hGo, hA1, hR1⟩ := hrel
  have LG := hid hLG
  have RKx := hid hRK
  have GO := hid hGo
  have A1 := hid hA1
  have R1 := hid hR1
  have hs1 : w.heap.size + 1 < wr.heap.size := bl_lt hR1
  have hgl := hLG.facts.1
  have hgl3 := hLG.facts.2.1 hg3
  clear hLG hRK hGo hA1 hR1
  by_cases hlt : i < m
  ·
   have hli : (i : Int) < (m : Int) := by omega
   have gi : IntKind.i64.wrap ((i : Int) + 1) = (i : Int) + 1 := by rw [IntKind.wrap_i64]; omega
   obtain ⟨x1, z1, m1, b1, b2, b3⟩ := GO.out.ex
   have PX := hid (HPS.out.all aK lK cK aN lN cN B x1 g1 z1 wr ⟨m1, HA.out.nk.km GO.out.km, HA.out.nn.km GO.out.km, hgl3, by omega, by omega, by omega⟩)
   clear m1
   obtain ⟨p0, p1, p2, p3, p4, p5⟩ := cells6 (A1.out)
   go_wp2_with fail
   refine PX.out.mono ?_
   rintro e W2 ⟨⟨T, v, g2, rfl, hI, hPG, hGn⟩⟩
   obtain ⟨kk, mn, mx, mm, tt, ad, ll, cc, rfl⟩ := hI.form
   have hs2 := hGn.km.size
   have RK2 := hid (RKx.out.km hGn.km (by omega))
   have HI2 : Hid (Is W2 (fun b => w.heap.size + 2 ≤ b ∧ u7.ownBlock ≠ some b) T (rxv kk mn mx mm tt (.slice ad ll cc))) := hI.weak (fun b hb _ => ⟨by omega, fun e => by have := (RKx.out.block b e).2; omega⟩)
   have hub : ∀ k, u7.ownBlock = some k → w.heap.size + 2 ≤ k := fun k e => (RKx.out.block k e).1
   have HUB := hid hub
   have A2 := hid (bl_km A1.out (by omega) hGn.km)
   have R2 := hid (bl_km R1.out (by omega) hGn.km)
   obtain ⟨x2, z2, m2, c1, c2, c3⟩ := hGn.ex
   have hPl := hPG.le
   have GO2 : Hid (Gone B (i + 1) (2 * (i + 1)) x g z w W2 g2) := ⟨⟨x2, z2, m2, by omega, by omega, by omega⟩, GO.out.km.trans hGn.km⟩
   have LG2 := hid (LG.out.snoc hPG)
   clear hI hPG hGn hub m2 A1 R1 GO RKx LG p0 p1 p2 p3 p4 p5
   go_wp2_with (at_builtin; go_must (refine wpList_append_rx W2 (by rfl) _ _ (by rfl) (w.heap.size + 2) u7 ks T (by rfl) RK2 kk mn mx mm tt ad ll cc HI2 _ (by rfl) (by rfl) ?h1 ?h2 ?_))
   case h1 => omega
   case h2 => omega
   intro v' w' hk' hg'
   have HK' := hid hk'
   have GO3 := hid (GO2.out.grown hg' (fun k e => by have := HUB.out k e; omega) (by omega))
   have A3 := hid (bl_gr A2.out hg' (fun e => by have := HUB.out _ e; omega))
   have R3 := hid (bl_gr R2.out hg' (fun e => by have := HUB.out _ e; omega))
   clear hk' hg' A2 R2 GO2 RK2 HI2
   go_wp2_with fail
   go_roundg (gk - 1)
   case measure => omega
   case rel => exact ⟨i + 1, g2, ks ++ [T], by go_num, by omega, by omega, by simp [hlen], LG2.out, HK'.out, GO3.out, A3.out, R3.out⟩
  ·
   have hli : ¬ (i : Int) < (m : Int) := by omega
   have him : i = m := by omega
   subst him
   by_cases h1 : i = 1
   ·
    subst h1
    obtain ⟨r, rfl⟩ : ∃ r, ks = [r] := List.length_eq_one_iff.1 hlen
    obtain ⟨gb, cap, hv4, hcap, hb1, hb2, hcells⟩ := RKx.out.get (by simp)
    obtain ⟨u, hIs, hCe⟩ := hcells 0 r rfl
    obtain ⟨kk, mn, mx, mm, tt, ad, ll, cc, rfl⟩ := hIs.form
    have IS := hid hIs
    have a0 := hCe 0 _ rfl
    have a1 := hCe 1 _ rfl
    have a2 := hCe 2 _ rfl
    have a3 := hCe 3 _ rfl
    have a4 := hCe 4 _ rfl
    have a5 := hCe 5 _ rfl
    have a6 := hCe 6 _ rfl
    have a7 := hCe 7 _ rfl
    have a8 := hCe 8 _ rfl
    simp only [Nat.mul_zero, Nat.zero_add] at a0 a1 a2 a3 a4 a5 a6 a7 a8
    have hv4' : u7 = .slice (some ⟨gb, 0, none⟩) 1 cap := hv4
    clear hv4 hCe hcells hIs
    subst hv4'
    obtain ⟨r0, fr0, r1, fr1, r2, fr2, r3, fr3, r4, fr4, r5, fr5, r6, fr6, r7, fr7, r8, fr8⟩ := cellf9 (R1.out)
    go_wp2_with fail
    refine bodyPost_ret (v := rxv kk mn mx mm tt (.slice ad ll cc)) (rx_ret rfl _ _ _ _ rfl (bl_set9 R1.out _ _ _ _ _ _ _ _ _) rfl) rfl ⟨⟨r, _, g1, rfl, ?_, fun _ => LG_one LG.out, fun h => by omega, ?_⟩⟩
    ·
     exact (IS.out.ks (ks_set9 _ _ _ _ _ _ _ _ _) (fun b hb _ => by have := hb.1; omega)).weak (fun b hb _ => hb.1)
    ·
     exact GO.out.ks (S := w.heap.size + 1) (ks_set9 _ _ _ _ _ _ _ _ _) (by omega) (by omega)
   ·
    subst hlen
    obtain ⟨ad, cap, hv4, hcap⟩ := RKx.out.form
    have g1 : ((ks.length : Int) == 1) = false := by simp; omega
    have g1' : ¬ (ks.length : Int) = 1 := by omega
    have g1'' : ¬ ks.length = 1 := by omega
    subst hv4
    obtain ⟨r0, fr0, r1, fr1, r2, fr2, r3, fr3, r4, fr4, r5, fr5, r6, fr6, r7, fr7, r8, fr8⟩ := cellf9 (R1.out)
    go_wp2_with fail
    refine bodyPost_ret (v := rxv 2 0 0 0 W4.z (.slice ad ks.length cap)) (rx_ret rfl _ _ _ _ rfl (bl_set9 R1.out _ _ _ _ _ _ _ _ _) rfl) rfl ⟨⟨.mk 2 0 0 0 W4.z ks, _, _, rfl, ?_, fun h => absurd h h1, fun _ => ⟨ks, _, rfl, rfl, ?_, rfl, LG.out⟩, ?_⟩⟩
    ·
     exact ((RKx.out.is 2 0 0 0 W4.z).ks (ks_set9 _ _ _ _ _ _ _ _ _) (fun b hb _ => by omega)).weak (fun b hb _ => by omega)
    ·
     exact RKx.out.ks (ks_set9 _ _ _ _ _ _ _ _ _) (by omega)
    ·
     exact GO.out.ks (S := w.heap.size + 1) (ks_set9 _ _ _ _ _ _ _ _ _) (by omega) (by omega)
end Go.Proofs.YtigdmebijbaofaaGreatDoor
