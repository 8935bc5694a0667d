import PyProof.Rows.All
import Wide.All
import OpenK.AllK
import Wide.FinOn
import PySem.Challenge.RW_rowbreadth_k05_folds_joined
set_option Elab.async false
set_option maxRecDepth 100000
set_option maxHeartbeats 8000000
section
open PySem PySem.W PyProof.Rows
open_top hd05 for PySem.Challenge.rw_rowbreadth_k05_folds_joined
end
set_option maxHeartbeats 4000000
namespace My
open PySem PySem.W PySem.Calls PyProof.Rows
def kept (n : Int) : Int := Int.fmod (n + 9223372036854775808) 18446744073709551616 - 9223372036854775808
theorem kept_e (n : Int) : kept n = (n + 9223372036854775808) % 18446744073709551616 - 9223372036854775808 := by
  unfold kept; rw [Int.fmod_eq_emod_of_nonneg _ (by decide)]
theorem kept_in (n : Int) : -9223372036854775808 ≤ kept n ∧ kept n ≤ 9223372036854775807 := by rw [kept_e]; omega
def keptBy (c : Int) : Int :=
  if Int.fmod c 4 = 0 then Int.fmod (Int.fdiv c 4) 7 - 3
  else if Int.fmod c 4 = 1 then ([-9223372036854775808, 9223372036854775807, -1, 4294967296, -9223372036854775807, 3037000500] : List Int).getD (Int.fmod (Int.fdiv c 4) 6).toNat 0
  else if Int.fmod c 4 = 2 then Int.fmod (Int.fdiv c 4 * 48271) 2001 - 1000
  else Int.fmod (Int.fdiv c 4 * 2862933555777941757) 18446744073709551616 - 9223372036854775808
theorem edge_in (k : Nat) : -9223372036854775808 ≤ ([-9223372036854775808, 9223372036854775807, -1, 4294967296, -9223372036854775807, 3037000500] : List Int).getD k 0 ∧ ([-9223372036854775808, 9223372036854775807, -1, 4294967296, -9223372036854775807, 3037000500] : List Int).getD k 0 ≤ 9223372036854775807 := by
  match k with
  | 0 => decide
  | 1 => decide
  | 2 => decide
  | 3 => decide
  | 4 => decide
  | 5 => decide
  | k + 6 => simp
theorem keptBy_in (c : Int) : -9223372036854775808 ≤ keptBy c ∧ keptBy c ≤ 9223372036854775807 := by
  unfold keptBy
  split
  · have h := Int.fmod_nonneg_of_pos (Int.fdiv c 4) (show (0 : Int) < 7 by decide)
    have g := Int.fmod_lt_of_pos (Int.fdiv c 4) (show (0 : Int) < 7 by decide)
    omega
  · split
    · exact edge_in _
    · split
      · have h := Int.fmod_nonneg_of_pos (Int.fdiv c 4 * 48271) (show (0 : Int) < 2001 by decide)
        have g := Int.fmod_lt_of_pos (Int.fdiv c 4 * 48271) (show (0 : Int) < 2001 by decide)
        omega
      · have h := Int.fmod_nonneg_of_pos (Int.fdiv c 4 * 2862933555777941757) (show (0 : Int) < 18446744073709551616 by decide)
        have g := Int.fmod_lt_of_pos (Int.fdiv c 4 * 2862933555777941757) (show (0 : Int) < 18446744073709551616 by decide)
        omega
def inPlace (f n : Int) : Bool := if f < -9223372036854775808 ∨ f > 9223372036854775807 then false else (Int.fmod (n - f) 18446744073709551616 == 0)
theorem ip_out {f n : Int} (h : f < -9223372036854775808 ∨ f > 9223372036854775807) : false = inPlace f n := by
  unfold inPlace; rw [if_pos h]
theorem ip_in {f n : Int} (a : ¬ f < -9223372036854775808) (b : ¬ f > 9223372036854775807) : (Int.fmod (n - f) 18446744073709551616 == 0) = inPlace f n := by
  unfold inPlace; rw [if_neg (by omega)]
theorem sub_kept (n : Int) : Int.fmod (n - kept n) 18446744073709551616 = 0 := by
  have e := kept_e n
  rw [Int.fmod_eq_emod_of_nonneg _ (by decide)]; omega
theorem inPlace_kept (n : Int) : inPlace (kept n) n = true := by
  have h := kept_in n
  rw [← ip_in (by omega) (by omega), sub_kept]; rfl
structure IsMod (x y r : Int) : Prop where
  e : r = Int.fmod x y
structure IsDiv (x y q : Int) : Prop where
  e : q = Int.fdiv x y
theorem quot (x y : Int) : x = y * Int.fdiv x y + Int.fmod x y := by
  rw [Int.fmod_def]; omega
theorem mod_zero {x y r r' : Int} (g : IsMod (x - r) y r') (h : IsMod x y r) : r' = 0 := by
  have q := quot x y
  rw [g.e, h.e]
  have z : x - Int.fmod x y = y * Int.fdiv x y := by omega
  rw [z, Int.mul_fmod_right]
theorem div_same {x y r q q' : Int} (b : IsDiv (x - r) y q') (h : IsMod x y r) (a : IsDiv x y q) (hy : y ≠ 0) : q' = q := by
  have e := quot x y
  rw [b.e, h.e, a.e]
  have z : x - Int.fmod x y = y * Int.fdiv x y := by omega
  rw [z, Int.mul_fdiv_cancel_left _ hy]
theorem div_end {x y r q q' : Int} (b : IsDiv (x - r) y q') (h : IsMod x y r) (a : IsDiv x y q) (hy : y ≠ 0) : inPlace (kept q) q' = true := by
  rw [div_same b h a hy]; exact inPlace_kept q
theorem fmod_neg_in (x : Int) {y : Int} (h : y < 0) : y < Int.fmod x y ∧ Int.fmod x y ≤ 0 := by
  have a := Int.fmod_nonneg_of_pos (-x) (show 0 < -y by omega)
  have b := Int.fmod_lt_of_pos (-x) (show 0 < -y by omega)
  rw [Int.neg_fmod_neg] at a b
  omega
section
variable {prog : Program} {w : World} {A : Around} {E : Value → Shared → Prop} {s : Shared} {x y : Int} {t u : Tok} {Q : Value → Shared → Prop}
theorem step_mod (hy : y ≠ 0) (h : ∀ r, IsMod x y r → ((0 < y ∧ 0 ≤ r ∧ r < y) ∨ (y < 0 ∧ y < r ∧ r ≤ 0)) → Q (.int r s.toks) { s with toks := s.toks + 1 }) :
    wpAny (model prog w) A (binaryOp .Mod (.int x t) (.int y u)) Q E s :=
  PyProof.Rows.mod_int' hy (h _ ⟨rfl⟩ (by
    rcases (by omega : 0 < y ∨ y < 0) with p | p
    · exact .inl ⟨p, Int.fmod_nonneg_of_pos x p, Int.fmod_lt_of_pos x p⟩
    · exact .inr ⟨p, fmod_neg_in x p⟩))
theorem step_div (hy : y ≠ 0) (lo : -9223372036854775808 ≤ y) (hi : y ≤ 9223372036854775807) (h : ∀ q, IsDiv x y q → Q (.int q s.toks) { s with toks := s.toks + 1 }) :
    wpAny (model prog w) A (binaryOp .FloorDiv (.int x t) (.int y u)) Q E s :=
  PyProof.Rows.floordiv_int hy (h _ ⟨rfl⟩) (Or.inl (PyProof.noPylong_of_log2 (by
    have h64 : y.natAbs < 2 ^ 64 := by omega
    have := (Nat.log2_lt (by omega : y.natAbs ≠ 0)).mpr h64
    omega)))
theorem step_mul (lo : -9223372036854775808 ≤ y) (hi : y ≤ 9223372036854775807) (h : Q (.int (x * y) s.toks) { s with toks := s.toks + 1 }) :
    wpAny (model prog w) A (binaryOp .Mult (.int x t) (.int y u)) Q E s :=
  PyProof.Rows.mul_int h (PySem.IntMulOk.of_right (PySem.intBits_le_64 (by omega) (by omega)))
theorem sub_kept' {n m : Int} (h : m = n) : Int.fmod (n - kept m) 18446744073709551616 = 0 := by rw [h]; exact sub_kept n
theorem step_true {b : Bool} {Q : Bool → Shared → Prop} (e : b = true) (h : Q true s) : wpAny (model prog w) A (truthy (.bool b)) Q E s := by subst e; exact PySem.wpAny_truthy_bool h
theorem step_eq (e : x = y) (h : Q (.bool true) s) : wpAny (model prog w) A (compareOp .Eq (.int x t) (.int y u)) Q E s := by
  refine PyProof.Rows.eq_int ?_
  have d : (x == y) = true := beq_iff_eq.mpr e
  rw [d]
  exact h
theorem step_ne (e : x = y) (h : Q (.bool false) s) : wpAny (model prog w) A (compareOp .NotEq (.int x t) (.int y u)) Q E s := by
  refine PyProof.Rows.ne_int ?_
  have d : (x != y) = false := by rw [e]; simp
  rw [d]
  exact h
end
end My
namespace My
open PySem PySem.W PySem.Calls PyProof.Rows
section
variable {prog : Program} {w : World} {A : Around} {E : Value → Shared → Prop} {s : Shared} {x j : Int} {t u : Tok} {Q : Value → Shared → Prop} {value slice : PySem.Expr} {v : Value}
theorem split9 (p0 : wpAny (model prog w) A (subscriptTail value slice v (.int 0 u)) Q E s) (p1 : wpAny (model prog w) A (subscriptTail value slice v (.int 1 u)) Q E s)
    (p2 : wpAny (model prog w) A (subscriptTail value slice v (.int 2 u)) Q E s) (p3 : wpAny (model prog w) A (subscriptTail value slice v (.int 3 u)) Q E s)
    (p4 : wpAny (model prog w) A (subscriptTail value slice v (.int 4 u)) Q E s) (p5 : wpAny (model prog w) A (subscriptTail value slice v (.int 5 u)) Q E s)
    (p6 : wpAny (model prog w) A (subscriptTail value slice v (.int 6 u)) Q E s) (p7 : wpAny (model prog w) A (subscriptTail value slice v (.int 7 u)) Q E s)
    (p8 : wpAny (model prog w) A (subscriptTail value slice v (.int 8 u)) Q E s) : wpAny (model prog w) A (subscriptTail value slice v (.int (Int.fmod x 9) u)) Q E s := by
  have a := Int.fmod_nonneg_of_pos x (show (0 : Int) < 9 by decide)
  have b := Int.fmod_lt_of_pos x (show (0 : Int) < 9 by decide)
  revert a b
  generalize Int.fmod x 9 = j
  intro a b
  rcases (by omega : j = 0 ∨ j = 1 ∨ j = 2 ∨ j = 3 ∨ j = 4 ∨ j = 5 ∨ j = 6 ∨ j = 7 ∨ j = 8) with h | h | h | h | h | h | h | h | h <;> (subst h; assumption)
theorem split7 (p0 : wpAny (model prog w) A (subscriptTail value slice v (.int 0 u)) Q E s) (p1 : wpAny (model prog w) A (subscriptTail value slice v (.int 1 u)) Q E s)
    (p2 : wpAny (model prog w) A (subscriptTail value slice v (.int 2 u)) Q E s) (p3 : wpAny (model prog w) A (subscriptTail value slice v (.int 3 u)) Q E s)
    (p4 : wpAny (model prog w) A (subscriptTail value slice v (.int 4 u)) Q E s) (p5 : wpAny (model prog w) A (subscriptTail value slice v (.int 5 u)) Q E s)
    (p6 : wpAny (model prog w) A (subscriptTail value slice v (.int 6 u)) Q E s) : wpAny (model prog w) A (subscriptTail value slice v (.int (Int.fmod x 7) u)) Q E s := by
  have a := Int.fmod_nonneg_of_pos x (show (0 : Int) < 7 by decide)
  have b := Int.fmod_lt_of_pos x (show (0 : Int) < 7 by decide)
  revert a b
  generalize Int.fmod x 7 = j
  intro a b
  rcases (by omega : j = 0 ∨ j = 1 ∨ j = 2 ∨ j = 3 ∨ j = 4 ∨ j = 5 ∨ j = 6) with h | h | h | h | h | h | h <;> (subst h; assumption)
theorem split3 (p0 : wpAny (model prog w) A (subscriptTail value slice v (.int 0 u)) Q E s) (p1 : wpAny (model prog w) A (subscriptTail value slice v (.int 1 u)) Q E s)
    (p2 : wpAny (model prog w) A (subscriptTail value slice v (.int 2 u)) Q E s) : wpAny (model prog w) A (subscriptTail value slice v (.int (Int.fmod x 3) u)) Q E s := by
  have a := Int.fmod_nonneg_of_pos x (show (0 : Int) < 3 by decide)
  have b := Int.fmod_lt_of_pos x (show (0 : Int) < 3 by decide)
  revert a b
  generalize Int.fmod x 3 = j
  intro a b
  rcases (by omega : j = 0 ∨ j = 1 ∨ j = 2) with h | h | h <;> (subst h; assumption)
end
end My
open PySem PySem.W PyProof.Rows
local macro_rules | `(tactic| walk_at "binaryOp Mult int int") => `(tactic| (k_here; (with_reducible refine' My.step_mul ?k1 ?k2 ?_); (case k1 => k_dflt (first | exact (My.keptBy_in _).1 | omega)); (case k2 => k_dflt (first | exact (My.keptBy_in _).2 | omega))))
local macro_rules | `(tactic| walk_at "truthy bool") => `(tactic| (k_here; (with_reducible show wpAny _ _ (truthy (Value.bool (My.inPlace _ _))) _ _ _); (with_reducible refine' My.step_true ?k1 ?_); (case k1 => k_dflt (first | exact My.inPlace_kept _))))
local macro_rules | `(tactic| walk_at "compareOp Eq int int") => `(tactic| (k_here; (with_reducible refine' My.step_eq ?k1 ?_); (case k1 => k_dflt (first | with_reducible rfl | omega))))
local macro_rules | `(tactic| walk_at "subscriptTail Name BinOp ref int") => `(tactic| (k_here; (with_reducible refine' My.split9 ?_ ?_ ?_ ?_ ?_ ?_ ?_ ?_ ?_)))
set_option maxRecDepth 100000 in
set_option maxHeartbeats 8000000 in
theorem PySem.Challenge.cw_rowbreadth_k05_folds_joined_holds : PySem.Challenge.rw_rowbreadth_k05_folds_joined.Holds :=
  hd05 (by
  k_with "call ref" => k_call_by "_law_kept_by" My.keptBy
  k_with "call ref" => k_call_by "kept" My.kept
  k_with "call ref" => k_call_by "_law_whole" (fun (_ : Int) => true)
  k_with "call ref" => k_call_rec "_law_in_place" My.inPlace (fun (_ _ : Int) => True) (fun (_ _ : Int) => 3)
  k_with "fact _law_kept_by" => exact My.keptBy_in
  k_with "fact kept" => exact My.kept_in
  k_with "tree" => (first | rfl | exact My.ip_out (by omega) | exact My.ip_in (by omega) (by omega) | simp only [My.keptBy])
  k_with "end" => simp only [My.inPlace_kept] at *
  k_with "pyIter ref" => (k_of "_law_k" => k_search (fun _ => True))
  w_strict k_go)
