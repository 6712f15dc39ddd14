/-
  The reference's kind of a text.
-/
import Derived.Test.YtiopemimancliaaLd
namespace Go.Proofs.Ytiopemimancliaa
open Go.RowKit

def IntEnd (v : Int) (w : World) (e : Ending) (w' : World) : Prop := e = .returned (.int .i64 v) ∧ w = w'
def nine : List (Nat × Bool × Bool × Bool × Bool × Bool × Bool × Bool) :=
  [(0, false, false, false, false, false, false, false),
   (7, false, false, false, false, false, false, false),
   (1, false, false, false, false, false, true, false),
   (1, false, false, false, false, false, false, true),
   (2, true, false, false, false, false, false, false),
   (3, false, true, false, false, false, false, false),
   (4, false, false, true, false, false, false, false),
   (5, false, false, false, true, false, false, false),
   (6, false, false, false, false, true, false, false)]
def nineOf (c : UInt8) : Nat × Bool × Bool × Bool × Bool × Bool × Bool × Bool := (cls c, smL.contains c, grL.contains c, sgL.contains c, adL.contains c, mkL.contains c, c == 95, figL.contains c)
theorem cls_nine : ∀ c : UInt8, nineOf c ∈ nine := all_u8 (by decide +kernel)
/-- What kind asks of a text that begins with a byte. -/
structure Asks (s : ByteArray) (x : UInt8) (v2 v3 v4 v5 v6 vf a2 a3 a1 : Bool) (w : World) : Prop where
  h2 : Calls Try.prog 58 #[.string ⟨#[97, 98, 99, 100, 101, 102, 103, 104, 105, 106, 107, 108, 109, 110, 111, 112, 113, 114, 115, 116, 117, 118, 119, 120, 121, 122]⟩, .int .u8 (x.toNat : Int)] w (BoolEnd v2 w)
  h3 : Calls Try.prog 58 #[.string ⟨#[65, 66, 67, 68, 69, 70, 71, 72, 73, 74, 75, 76, 77, 78, 79, 80, 81, 82, 83, 84, 85, 86, 87, 88, 89, 90]⟩, .int .u8 (x.toNat : Int)] w (BoolEnd v3 w)
  h4 : Calls Try.prog 58 #[.string ⟨#[43, 45, 42, 37, 33, 38, 124, 60, 62, 61, 126, 44, 35, 94, 36, 63, 64]⟩, .int .u8 (x.toNat : Int)] w (BoolEnd v4 w)
  h5 : Calls Try.prog 58 #[.string ⟨#[39, 47, 92, 46, 96]⟩, .int .u8 (x.toNat : Int)] w (BoolEnd v5 w)
  h6 : Calls Try.prog 58 #[.string ⟨#[40, 41, 91, 93, 123, 125, 58]⟩, .int .u8 (x.toNat : Int)] w (BoolEnd v6 w)
  hf : Calls Try.prog 58 #[.string ⟨#[48, 49, 50, 51, 52, 53, 54, 55, 56, 57]⟩, .int .u8 (x.toNat : Int)] w (BoolEnd vf w)
  g2 : Calls Try.prog 59 #[.string s, .int .i64 1, .string ⟨#[97, 98, 99, 100, 101, 102, 103, 104, 105, 106, 107, 108, 109, 110, 111, 112, 113, 114, 115, 116, 117, 118, 119, 120, 121, 122, 48, 49, 50, 51, 52, 53, 54, 55, 56, 57]⟩] w (BoolEnd a2 w)
  g3 : Calls Try.prog 59 #[.string s, .int .i64 1, .string ⟨#[65, 66, 67, 68, 69, 70, 71, 72, 73, 74, 75, 76, 77, 78, 79, 80, 81, 82, 83, 84, 85, 86, 87, 88, 89, 90, 97, 98, 99, 100, 101, 102, 103, 104, 105, 106, 107, 108, 109, 110, 111, 112, 113, 114, 115, 116, 117, 118, 119, 120, 121, 122, 48, 49, 50, 51, 52, 53, 54, 55, 56, 57]⟩] w (BoolEnd a3 w)
  g1 : Calls Try.prog 59 #[.string s, .int .i64 1, .string ⟨#[48, 49, 50, 51, 52, 53, 54, 55, 56, 57]⟩] w (BoolEnd a1 w)
theorem asks_is (s : ByteArray) (x : UInt8) (h1 : 1 ≤ s.size) (hs : s.size ≤ 9223372036854775807) {v2 v3 v4 v5 v6 vf a2 a3 a1 : Bool} (e2 : smL.contains x = v2) (e3 : grL.contains x = v3) (e4 : sgL.contains x = v4) (e5 : adL.contains x = v5) (e6 : mkL.contains x = v6) (ef : figL.contains x = vf)
    (k2 : (s.data.toList.drop 1).all (smL ++ figL).contains = a2) (k3 : (s.data.toList.drop 1).all (grL ++ smL ++ figL).contains = a3) (k1 : (s.data.toList.drop 1).all figL.contains = a1) (w : World) : Asks s x v2 v3 v4 v5 v6 vf a2 a3 a1 w where
  h2 := has_is ⟨#[97, 98, 99, 100, 101, 102, 103, 104, 105, 106, 107, 108, 109, 110, 111, 112, 113, 114, 115, 116, 117, 118, 119, 120, 121, 122]⟩ x v2 e2 (by decide) w
  h3 := has_is ⟨#[65, 66, 67, 68, 69, 70, 71, 72, 73, 74, 75, 76, 77, 78, 79, 80, 81, 82, 83, 84, 85, 86, 87, 88, 89, 90]⟩ x v3 e3 (by decide) w
  h4 := has_is ⟨#[43, 45, 42, 37, 33, 38, 124, 60, 62, 61, 126, 44, 35, 94, 36, 63, 64]⟩ x v4 e4 (by decide) w
  h5 := has_is ⟨#[39, 47, 92, 46, 96]⟩ x v5 e5 (by decide) w
  h6 := has_is ⟨#[40, 41, 91, 93, 123, 125, 58]⟩ x v6 e6 (by decide) w
  hf := has_is ⟨#[48, 49, 50, 51, 52, 53, 54, 55, 56, 57]⟩ x vf ef (by decide) w
  g2 := all_is s ⟨#[97, 98, 99, 100, 101, 102, 103, 104, 105, 106, 107, 108, 109, 110, 111, 112, 113, 114, 115, 116, 117, 118, 119, 120, 121, 122, 48, 49, 50, 51, 52, 53, 54, 55, 56, 57]⟩ 1 a2 k2 (by decide) h1 hs w
  g3 := all_is s ⟨#[65, 66, 67, 68, 69, 70, 71, 72, 73, 74, 75, 76, 77, 78, 79, 80, 81, 82, 83, 84, 85, 86, 87, 88, 89, 90, 97, 98, 99, 100, 101, 102, 103, 104, 105, 106, 107, 108, 109, 110, 111, 112, 113, 114, 115, 116, 117, 118, 119, 120, 121, 122, 48, 49, 50, 51, 52, 53, 54, 55, 56, 57]⟩ 1 a3 k3 (by decide) h1 hs w
  g1 := all_is s ⟨#[48, 49, 50, 51, 52, 53, 54, 55, 56, 57]⟩ 1 a1 k1 (by decide) h1 hs w
set_option maxHeartbeats 6400000 in
set_option maxRecDepth 10000 in
theorem kind_go (s : ByteArray) (hp : 0 < s.size) (he : s.toList.isEmpty = false) (vu one : Bool) {v2 v3 v4 v5 v6 vf a2 a3 a1 : Bool} (hu : (((s[0]).toNat : Int) == 95) = vu) (h1 : ((s.size : Int) == 1) = one) (w : World) (hA : Asks s s[0] v2 v3 v4 v5 v6 vf a2 a3 a1 w) (z : Int)
    (hc : (z = 0 ∧ v2 = false ∧ v3 = false ∧ v4 = false ∧ v5 = false ∧ v6 = false ∧ vu = false ∧ vf = false)
      ∨ (v2 = false ∧ v3 = false ∧ v4 = false ∧ v5 = false ∧ v6 = false ∧ vu = true ∧ vf = false ∧ (a1 = true ∧ z = 1 ∨ a1 = false ∧ z = 0))
      ∨ (v2 = false ∧ v3 = false ∧ v4 = false ∧ v5 = false ∧ v6 = false ∧ vu = false ∧ vf = true ∧ (a1 = true ∧ z = 1 ∨ a1 = false ∧ z = 0))
      ∨ (v2 = true ∧ v3 = false ∧ v4 = false ∧ v5 = false ∧ v6 = false ∧ vu = false ∧ vf = false ∧ (a2 = true ∧ z = 2 ∨ a2 = false ∧ z = 0))
      ∨ (v2 = false ∧ v3 = true ∧ v4 = false ∧ v5 = false ∧ v6 = false ∧ vu = false ∧ vf = false ∧ (a3 = true ∧ z = 3 ∨ a3 = false ∧ z = 0))
      ∨ (v2 = false ∧ v3 = false ∧ v4 = true ∧ v5 = false ∧ v6 = false ∧ vu = false ∧ vf = false ∧ (one = true ∧ z = 4 ∨ one = false ∧ z = 0))
      ∨ (v2 = false ∧ v3 = false ∧ v4 = false ∧ v5 = true ∧ v6 = false ∧ vu = false ∧ vf = false ∧ (one = true ∧ z = 5 ∨ one = false ∧ z = 0))
      ∨ (v2 = false ∧ v3 = false ∧ v4 = false ∧ v5 = false ∧ v6 = true ∧ vu = false ∧ vf = false ∧ (one = true ∧ z = 6 ∨ one = false ∧ z = 0))) :
    Calls Try.prog 51 #[.string s] w (IntEnd z w) := by
  have K2 := Lib.hid hA.h2
  have K3 := Lib.hid hA.h3
  have K4 := Lib.hid hA.h4
  have K5 := Lib.hid hA.h5
  have K6 := Lib.hid hA.h6
  have KF := Lib.hid hA.hf
  have G2 := Lib.hid hA.g2
  have G3 := Lib.hid hA.g3
  have G1 := Lib.hid hA.g1
  clear hA
  rcases hc with ⟨rfl, rfl, rfl, rfl, rfl, rfl, rfl, rfl⟩ | ⟨rfl, rfl, rfl, rfl, rfl, rfl, rfl, ⟨rfl, rfl⟩ | ⟨rfl, rfl⟩⟩ | ⟨rfl, rfl, rfl, rfl, rfl, rfl, rfl, ⟨rfl, rfl⟩ | ⟨rfl, rfl⟩⟩ | ⟨rfl, rfl, rfl, rfl, rfl, rfl, rfl, ⟨rfl, rfl⟩ | ⟨rfl, rfl⟩⟩ | ⟨rfl, rfl, rfl, rfl, rfl, rfl, rfl, ⟨rfl, rfl⟩ | ⟨rfl, rfl⟩⟩ | ⟨rfl, rfl, rfl, rfl, rfl, rfl, rfl, ⟨ho, rfl⟩ | ⟨ho, rfl⟩⟩ | ⟨rfl, rfl, rfl, rfl, rfl, rfl, rfl, ⟨ho, rfl⟩ | ⟨ho, rfl⟩⟩ | ⟨rfl, rfl, rfl, rfl, rfl, rfl, rfl, ⟨ho, rfl⟩ | ⟨ho, rfl⟩⟩
  all_goals cases one
  all_goals try (cases ho; done)
  all_goals try clear ho
  all_goals
    go_enter Try.func51, Try.ntmps51
    go_wp2_with (first
      | (go_at_call 58; (first | (with_reducible refine K2.out.mono ?_) | (with_reducible refine K3.out.mono ?_) | (with_reducible refine K4.out.mono ?_) | (with_reducible refine K5.out.mono ?_) | (with_reducible refine K6.out.mono ?_) | (with_reducible refine KF.out.mono ?_)); rintro e w1 ⟨rfl, rfl⟩)
      | (go_at_call 59; (first | (with_reducible refine G2.out.mono ?_) | (with_reducible refine G3.out.mono ?_) | (with_reducible refine G1.out.mono ?_)); rintro e w1 ⟨rfl, rfl⟩))
    go_ret
    exact ⟨rfl, rfl⟩
theorem kind_is (l : List UInt8) (hl : l.length ≤ 9223372036854775807) (w : World) : Calls Try.prog 51 #[.string (tx l)] w (IntEnd (kindL l) w) := by
  cases l with
  | nil =>
    have he := tx_empty []
    rw [show ([] : List UInt8).isEmpty = true from rfl] at he
    rw [show ((kindL [] : Nat) : Int) = 0 from rfl]
    clear hl
    generalize tx [] = s at *
    go_enter Try.func51, Try.ntmps51
    go_wp2_with fail
    go_ret
    exact ⟨rfl, rfl⟩
  | cons c t =>
    have hz : (tx (c :: t)).size = t.length + 1 := rfl
    have hp : 0 < (tx (c :: t)).size := by omega
    have h00 := tx_get0 c t hp
    have hd : (tx (c :: t)).data.toList.drop 1 = t := rfl
    have hu : (((tx (c :: t))[0].toNat : Int) == 95) = (c == 95) := by
      rw [h00]
      by_cases h : c = 95
      · subst h; rfl
      · rw [beq_false_of_ne h]
        exact beq_false_of_ne (fun h2 => h (UInt8.toNat_inj.1 (by simp; omega)))
    have ho : (((tx (c :: t)).size : Int) == 1) = t.isEmpty := by
      rw [hz]
      cases t with
      | nil => rfl
      | cons d t => exact beq_false_of_ne (by simp; omega)
    have hm3 : t.all (grL ++ smL ++ figL).contains = t.all (moreL 3).contains := by
      congr 1; funext x; exact more3 x
    have hE : ∀ k, 4 ≤ k → t.all (moreL k).contains = t.isEmpty := fun k hk => by
      rw [more_big hk]
      cases t with
      | nil => rfl
      | cons d t => simp
    have hA := asks_is (tx (c :: t)) c (by omega) (by rw [hz]; exact hl) rfl rfl rfl rfl rfl rfl rfl rfl rfl w
    rw [hd, ← h00] at hA
    refine kind_go (tx (c :: t)) hp (by rw [tx_empty]; rfl) (c == 95) t.isEmpty hu ho w hA _ ?_
    rw [h00, kindL_cons, hm3]
    have hn := cls_nine c
    unfold nineOf nine at hn
    simp only [List.mem_cons, List.not_mem_nil, or_false, Prod.mk.injEq] at hn
    have hb : ∀ (k : Nat) (b : Bool), 1 ≤ k → k ≤ 6 → (b = true ∧ ((if 1 ≤ k ∧ k ≤ 6 ∧ b = true then k else 0 : Nat) : Int) = (k : Int) ∨ b = false ∧ ((if 1 ≤ k ∧ k ≤ 6 ∧ b = true then k else 0 : Nat) : Int) = 0) := fun k b h1 h6 => by
      cases b with
      | true => exact .inl ⟨rfl, by rw [if_pos ⟨h1, h6, rfl⟩]⟩
      | false => exact .inr ⟨rfl, by rw [if_neg (by simp)]; rfl⟩
    rcases hn with ⟨e, e2, e3, e4, e5, e6, eu, ef⟩ | ⟨e, e2, e3, e4, e5, e6, eu, ef⟩ | ⟨e, e2, e3, e4, e5, e6, eu, ef⟩ | ⟨e, e2, e3, e4, e5, e6, eu, ef⟩ | ⟨e, e2, e3, e4, e5, e6, eu, ef⟩ | ⟨e, e2, e3, e4, e5, e6, eu, ef⟩ | ⟨e, e2, e3, e4, e5, e6, eu, ef⟩ | ⟨e, e2, e3, e4, e5, e6, eu, ef⟩ | ⟨e, e2, e3, e4, e5, e6, eu, ef⟩
    · refine .inl ⟨?_, e2, e3, e4, e5, e6, eu, ef⟩
      rw [e, if_neg (by omega)]; rfl
    · refine .inl ⟨?_, e2, e3, e4, e5, e6, eu, ef⟩
      rw [e, if_neg (by omega)]; rfl
    · refine .inr (.inl ⟨e2, e3, e4, e5, e6, eu, ef, ?_⟩)
      rw [e]; exact hb 1 (t.all figL.contains) (by omega) (by omega)
    · refine .inr (.inr (.inl ⟨e2, e3, e4, e5, e6, eu, ef, ?_⟩))
      rw [e]; exact hb 1 (t.all figL.contains) (by omega) (by omega)
    · refine .inr (.inr (.inr (.inl ⟨e2, e3, e4, e5, e6, eu, ef, ?_⟩)))
      rw [e]; exact hb 2 (t.all (smL ++ figL).contains) (by omega) (by omega)
    · refine .inr (.inr (.inr (.inr (.inl ⟨e2, e3, e4, e5, e6, eu, ef, ?_⟩))))
      rw [e]; exact hb 3 (t.all (moreL 3).contains) (by omega) (by omega)
    · refine .inr (.inr (.inr (.inr (.inr (.inl ⟨e2, e3, e4, e5, e6, eu, ef, ?_⟩)))))
      rw [e, hE 4 (by omega)]; exact hb 4 t.isEmpty (by omega) (by omega)
    · refine .inr (.inr (.inr (.inr (.inr (.inr (.inl ⟨e2, e3, e4, e5, e6, eu, ef, ?_⟩))))))
      rw [e, hE 5 (by omega)]; exact hb 5 t.isEmpty (by omega) (by omega)
    · refine .inr (.inr (.inr (.inr (.inr (.inr (.inr ⟨e2, e3, e4, e5, e6, eu, ef, ?_⟩))))))
      rw [e, hE 6 (by omega)]; exact hb 6 t.isEmpty (by omega) (by omega)
end Go.Proofs.Ytiopemimancliaa
