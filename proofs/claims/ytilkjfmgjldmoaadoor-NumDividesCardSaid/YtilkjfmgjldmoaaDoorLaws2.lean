import Derived.Test.YtilkjfmgjldmoaaDoorLaws
namespace Go.Proofs.YtilkjfmgjldmoaaDoor
open Go.RowKit

set_option maxRecDepth 10000 in
set_option maxHeartbeats 1600000 in
theorem laws_few (a b c : ByteArray) (w : World) (htab : Tab w) (HF : FewIs a b false) : Calls Tryd.prog 6 #[.string a, .string b, .string c] w (TrueEnd w) := by
  have KF := Lib.hid HF
  clear HF
  go_enter Tryd.func6, Tryd.ntmps6
  go_wp2_with fail
  refine (shown_any _ htab).mono ?_
  rintro e w1 ⟨rfl, hb1⟩
  go_wp2_with fail
  refine (KF.out _).mono ?_
  rintro e w2 ⟨rfl, rfl⟩
  go_wp2_with fail
  go_ret
  exact ⟨rfl, hb1⟩
set_option maxRecDepth 10000 in
set_option maxHeartbeats 1600000 in
theorem laws_long (a b c : ByteArray) (w : World) (htab : Tab w) (hc : ¬ c.size ≤ 200) (HF : FewIs a b true) : Calls Tryd.prog 6 #[.string a, .string b, .string c] w (TrueEnd w) := by
  have KF := Lib.hid HF
  clear HF
  have hc' : (200 : Int) < c.size := by omega
  go_enter Tryd.func6, Tryd.ntmps6
  go_wp2_with fail
  refine (shown_any _ htab).mono ?_
  rintro e w1 ⟨rfl, hb1⟩
  go_wp2_with fail
  refine (KF.out _).mono ?_
  rintro e w2 ⟨rfl, rfl⟩
  go_wp2_with fail
  go_ret
  exact ⟨rfl, hb1⟩
theorem op_comm {f : Int → Int → Int} (hf : ∀ x y, f x y = f y x) (o p : Option Int) : op f o p = op f p o ∧ opE f o p = opE f p o := by
  cases o <;> cases p <;> simp only [op, opE, and_self]
  rename_i x y
  rw [hf x y]; exact ⟨rfl, rfl⟩
theorem Add_is {s t : ByteArray} {o p : Option Int} (hs : Is s o) (ht : Is t p) : AddIs s t (T (op (fun x y => x + y) o p)) (opE (fun x y => x + y) o p) := fun w htab => Add_opt w hs ht htab
theorem Sub_is {s t : ByteArray} {o p : Option Int} (hs : Is s o) (ht : Is t p) : SubIs s t (T (op (fun x y => x - y) o p)) (opE (fun x y => x - y) o p) := fun w htab => Sub_opt w hs ht htab
theorem Mul_is {s t : ByteArray} {o p : Option Int} (hs : Is s o) (ht : Is t p) : MulIs s t (T (op (fun x y => x * y) o p)) (opE (fun x y => x * y) o p) := fun w htab => Mul_opt w hs ht htab
theorem is_op {f : Int → Int → Int} {o p : Option Int} : Is (T (op f o p)) (op f o p) := is_T op_bd
theorem laws_any (a b c : ByteArray) (w : World) (ha : a.size ≤ maxLen) (hb : b.size ≤ maxLen) (hcc : c.size ≤ maxLen) (htab : Tab w) : Calls Tryd.prog 6 #[.string a, .string b, .string c] w (TrueEnd w) := by
  cases hf : (decide (a.size ≤ 200) && decide (b.size ≤ 200))
  · exact laws_few a b c w htab fun w => few_any a b false hf w
  by_cases hc : c.size ≤ 200
  · obtain ⟨o, ho⟩ := is_ex a ha
    obtain ⟨p, hp⟩ := is_ex b hb
    obtain ⟨r, hr⟩ := is_ex c hcc
    have h1 := Add_is ho hp
    have h2 := Add_is hp ho
    rw [← (op_comm (f := fun x y => x + y) (fun x y => Int.add_comm x y) o p).1, ← (op_comm (f := fun x y => x + y) (fun x y => Int.add_comm x y) o p).2] at h2
    have h3 := Mul_is ho hp
    have h4 := Mul_is hp ho
    rw [← (op_comm (f := fun x y => x * y) (fun x y => Int.mul_comm x y) o p).1, ← (op_comm (f := fun x y => x * y) (fun x y => Int.mul_comm x y) o p).2] at h4
    refine laws_main a b c _ _ _ _ _ _ _ _ _ _ _ _ _ _ w htab hc (fun w => few_any a b true hf w) h1 h2 h3 h4 (Mul_is is_op hr) (Mul_is ho hr) (Mul_is hp hr) (Add_is is_op is_op) (Sub_is is_op hp) ?_ ?_
    · intro e1 e2 e3 e4 e5
      obtain ⟨x, y, rfl, rfl, _, q1⟩ := opE_zero e1
      rw [q1] at e2 ⊢
      obtain ⟨s, z, hs, rfl, _, q2⟩ := opE_zero e2
      cases hs
      obtain ⟨x', z', hx, hz, _, q3⟩ := opE_zero e3
      cases hx; cases hz
      obtain ⟨y', z', hy, hz, _, q4⟩ := opE_zero e4
      cases hy; cases hz
      rw [q3, q4] at e5 ⊢
      obtain ⟨x', z', hx, hz, _, q5⟩ := opE_zero e5
      cases hx; cases hz
      rw [q2, q5]
      show S ((x + y) * z) = S (x * z + y * z)
      rw [Int.add_mul]
    · intro e1
      obtain ⟨x, y, rfl, rfl, _, q1⟩ := opE_zero e1
      rw [q1, ho.1]
      have hx : (x + y - y).natAbs < lim := by rw [Int.add_sub_cancel]; exact ho.2
      refine ⟨opE_zero_of (f := fun x y => x - y) hx, ?_⟩
      rw [op_told]
      show toldR (x + y - y) = S x
      rw [Int.add_sub_cancel]
      exact toldR_yes ho.2
  · exact laws_long a b c w htab hc fun w => few_any a b true hf w
end Go.Proofs.YtilkjfmgjldmoaaDoor
