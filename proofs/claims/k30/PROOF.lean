import PyProof.Rows.All
import Wide.All
import OpenK.AllK
import Wide.FinOn
import HandS.ForMost
import HandS.Codes
import HandS.IsInst
import HandS.ForExc
import HandS.SortKw
import HandS.Flow
import HandS.Deep
import PyProof.P3In
import KE.DataMinMax
import HandS.Walk
import HandS.TupAny
import KE.KUnpackStar
import HandS.Text
import HandS.StrMore
import HandS.Conv
import HandS.Star
import PySem.Challenge.RW_twoimages_k30_written_and_read
set_option Elab.async false
set_option linter.all false
set_option autoImplicit false
set_option maxRecDepth 100000
/-! the mathematics of sums and seals: plain lists of ints -/
namespace Sm
def step (p : Int × Int) (x : Int) : Int × Int := ((p.1 + x + 1) % 9973, (p.2 + (p.1 + x + 1) % 9973) % 9973)
def sumsI (xs : List Int) : Int × Int := xs.foldl step (0, 0)
def sl (k t x : Int) : Int := (t * k + x + 1) % 9973
def sealI (k : Int) (xs : List Int) : Int := xs.foldl (sl k) k
/-- the weights -/
def w1 : List Int → Int
  | [] => 0
  | x :: r => (x + 1) + w1 r
def w2 : List Int → Int
  | [] => 0
  | x :: r => ((r.length : Int) + 1) * (x + 1) + w2 r
theorem fold_w : ∀ (xs : List Int) (a b : Int), xs.foldl step (a % 9973, b % 9973) = ((a + w1 xs) % 9973, (b + (xs.length : Int) * a + w2 xs) % 9973)
  | [], a, b => by simp [w1, w2]
  | x :: r, a, b => by
    have e : step (a % 9973, b % 9973) x = ((a + (x + 1)) % 9973, (b + (a + (x + 1))) % 9973) := by
      unfold step
      simp only
      refine Prod.ext ?_ ?_
      · show (a % 9973 + x + 1) % 9973 = (a + (x + 1)) % 9973
        omega
      · show (b % 9973 + (a % 9973 + x + 1) % 9973) % 9973 = (b + (a + (x + 1))) % 9973
        omega
    rw [List.foldl_cons, e, fold_w r]
    refine Prod.ext ?_ ?_
    · show (a + (x + 1) + w1 r) % 9973 = (a + ((x + 1) + w1 r)) % 9973
      congr 1
      omega
    · show (b + (a + (x + 1)) + (r.length : Int) * (a + (x + 1)) + w2 r) % 9973 = (b + ((x :: r).length : Int) * a + (((r.length : Int) + 1) * (x + 1) + w2 r)) % 9973
      congr 1
      rw [List.length_cons]
      have e1 : ((r.length + 1 : Nat) : Int) * a = (r.length : Int) * a + a := by
        rw [Int.natCast_add, Int.add_mul]
        simp
      have e2 : ((r.length : Int) + 1) * (x + 1) = (r.length : Int) * (x + 1) + (x + 1) := by
        rw [Int.add_mul, Int.one_mul]
      have e3 : (r.length : Int) * (a + (x + 1)) = (r.length : Int) * a + (r.length : Int) * (x + 1) := Int.mul_add _ _ _
      rw [e1, e2, e3]
      omega
theorem sums_w (xs : List Int) : sumsI xs = (w1 xs % 9973, w2 xs % 9973) := by
  have h := fold_w xs 0 0
  unfold sumsI
  rw [show ((0 : Int), (0 : Int)) = (0 % 9973, 0 % 9973) from rfl, h]
  refine Prod.ext ?_ ?_
  · show (0 + w1 xs) % 9973 = _
    rw [Int.zero_add]
  · show (0 + (xs.length : Int) * 0 + w2 xs) % 9973 = _
    rw [Int.mul_zero, Int.add_zero, Int.zero_add]
/-- a number put at a place: what the weights become -/
theorem w1_set : ∀ (xs : List Int) (i : Nat) (x y : Int), xs[i]? = some x → w1 (xs.set i y) = w1 xs + (y - x)
  | [], i, x, y, h => by simp at h
  | a :: r, 0, x, y, h => by
    have e : a = x := by simpa using h
    subst e
    show (y + 1) + w1 r = (a + 1) + w1 r + (y - a)
    omega
  | a :: r, i + 1, x, y, h => by
    have ih := w1_set r i x y (by simpa using h)
    show (a + 1) + w1 (r.set i y) = (a + 1) + w1 r + (y - x)
    omega
theorem w2_set : ∀ (xs : List Int) (i : Nat) (x y : Int), xs[i]? = some x → w2 (xs.set i y) = w2 xs + ((xs.length : Int) - i) * (y - x)
  | [], i, x, y, h => by simp at h
  | a :: r, 0, x, y, h => by
    have e : a = x := by simpa using h
    subst e
    show ((r.length : Int) + 1) * (y + 1) + w2 r = ((r.length : Int) + 1) * (a + 1) + w2 r + ((((a :: r).length : Nat) : Int) - ((0 : Nat) : Int)) * (y - a)
    rw [List.length_cons, show (((r.length + 1 : Nat)) : Int) - ((0 : Nat) : Int) = (r.length : Int) + 1 by omega]
    rw [Int.mul_sub, Int.mul_add, Int.mul_add]
    omega
  | a :: r, i + 1, x, y, h => by
    have ih := w2_set r i x y (by simpa using h)
    show (((r.set i y).length : Int) + 1) * (a + 1) + w2 (r.set i y) = ((r.length : Int) + 1) * (a + 1) + w2 r + ((((a :: r).length : Nat) : Int) - ((i + 1 : Nat) : Int)) * (y - x)
    rw [List.length_set, List.length_cons, show (((r.length + 1 : Nat)) : Int) - ((i + 1 : Nat) : Int) = (r.length : Int) - i by omega, ih]
    omega
/-! the prime -/
def chk : Nat → Bool
  | 0 => true
  | k + 1 => (Nat.gcd (k + 1) 9973 == 1) && chk k
theorem chk_ok : chk 9972 = true := by decide +kernel
theorem chk_at : ∀ n k : Nat, chk n = true → 0 < k → k ≤ n → Nat.gcd k 9973 = 1
  | 0, k, _, h0, h1 => by omega
  | n + 1, k, h, h0, h1 => by
    unfold chk at h
    rw [Bool.and_eq_true] at h
    by_cases e : k = n + 1
    · subst e
      exact eq_of_beq h.1
    · exact chk_at n k h.2 h0 (by omega)
theorem cop_small (k : Nat) (h : k < 9973) : k = 0 ∨ Nat.gcd k 9973 = 1 := by
  by_cases e : k = 0
  · exact .inl e
  · exact .inr (chk_at 9972 k chk_ok (by omega) (by omega))
theorem dvd_small {k : Nat} (h0 : 0 < k) (h1 : k < 9973) {m : Nat} (h : 9973 ∣ k * m) : 9973 ∣ m := by
  have g : Nat.gcd 9973 k = 1 := by
    rw [Nat.gcd_comm]
    rcases cop_small k h1 with e | e
    · omega
    · exact e
  exact Nat.Coprime.dvd_of_dvd_mul_left (n := m) (m := k) (k := 9973) g h
/-- a product of a small factor that isn't nought and a small difference is no multiple -/
theorem no_mult {c d : Int} (hc0 : c ≠ 0) (hc1 : -9973 < c) (hc2 : c < 9973) (hd1 : -9973 < d) (hd2 : d < 9973) (h : (c * d) % 9973 = 0) : d = 0 := by
  have h1 : (9973 : Int) ∣ c * d := Int.dvd_of_emod_eq_zero h
  have h2 : 9973 ∣ c.natAbs * d.natAbs := by
    rw [← Int.natAbs_mul]
    exact Int.natAbs_dvd_natAbs.mpr h1
  have h3 : 9973 ∣ d.natAbs := dvd_small (by omega) (by omega) h2
  have h4 : d.natAbs = 0 := Nat.eq_zero_of_dvd_of_lt h3 (by omega)
  omega
/-- one number changed -/
theorem one_ne {xs : List Int} {i : Nat} {x y : Int} (h : xs[i]? = some x) (hne : y ≠ x) (hx : 0 ≤ x ∧ x < 9973) (hy : 0 ≤ y ∧ y < 9973) : sumsI (xs.set i y) ≠ sumsI xs := by
  intro e
  rw [sums_w, sums_w] at e
  have e1 : w1 (xs.set i y) % 9973 = w1 xs % 9973 := congrArg Prod.fst e
  rw [w1_set xs i x y h] at e1
  omega
/-- two numbers changed -/
theorem two_ne {xs : List Int} {i j : Nat} {x y u v : Int} (h : xs[i]? = some x) (hij : i ≠ j) (h' : xs[j]? = some u) (hl : xs.length ≤ 1000) (hne : y ≠ x) (hx : 0 ≤ x ∧ x < 9973) (hy : 0 ≤ y ∧ y < 9973) (hu : 0 ≤ u ∧ u < 9973) (hv : 0 ≤ v ∧ v < 9973) :
    sumsI ((xs.set i y).set j v) ≠ sumsI xs := by
  intro e
  have hi : i < xs.length := (List.getElem?_eq_some_iff.mp h).1
  have hj : j < xs.length := (List.getElem?_eq_some_iff.mp h').1
  have h2 : (xs.set i y)[j]? = some u := by
    rw [List.getElem?_set_ne hij]
    exact h'
  rw [sums_w, sums_w] at e
  have e1 : w1 ((xs.set i y).set j v) % 9973 = w1 xs % 9973 := congrArg Prod.fst e
  have e2 : w2 ((xs.set i y).set j v) % 9973 = w2 xs % 9973 := congrArg Prod.snd e
  rw [w1_set _ j u v h2, w1_set xs i x y h] at e1
  rw [w2_set _ j u v h2, w2_set xs i x y h, List.length_set] at e2
  -- the differences
  have hd : ∃ q : Int, (v - u) = 9973 * q - (y - x) := ⟨((y - x) + (v - u)) / 9973, by omega⟩
  obtain ⟨q, hq⟩ := hd
  rw [hq] at e2
  have e3 : ((xs.length : Int) - i) * (y - x) + ((xs.length : Int) - j) * (9973 * q - (y - x)) = ((j : Int) - i) * (y - x) + 9973 * (((xs.length : Int) - j) * q) := by
    have a1 : ((xs.length : Int) - j) * (9973 * q - (y - x)) = 9973 * (((xs.length : Int) - j) * q) - ((xs.length : Int) - j) * (y - x) := by
      rw [Int.mul_sub, Int.mul_left_comm]
    have a2 : ((xs.length : Int) - i) * (y - x) = ((xs.length : Int) - j) * (y - x) + ((j : Int) - i) * (y - x) := by
      rw [← Int.add_mul]
      congr 1
      omega
    rw [a1, a2]
    omega
  have e4 : (((j : Int) - i) * (y - x)) % 9973 = 0 := by
    rw [Int.add_assoc, e3] at e2
    omega
  have := no_mult (c := (j : Int) - i) (d := y - x) (by omega) (by omega) (by omega) (by omega) (by omega) e4
  omega
/-! the seal -/
theorem sl_range (k t x : Int) : 0 ≤ sl k t x ∧ sl k t x < 9973 := by
  unfold sl
  omega
theorem seal_range : ∀ (k : Int) (xs : List Int) (t : Int), (0 ≤ t ∧ t < 9973) → 0 ≤ xs.foldl (sl k) t ∧ xs.foldl (sl k) t < 9973
  | _, [], _, h => h
  | k, x :: r, t, _ => seal_range k r (sl k t x) (sl_range k t x)
theorem sl_inj {k t u x : Int} (hk : 1 ≤ k ∧ k < 9973) (ht : 0 ≤ t ∧ t < 9973) (hu : 0 ≤ u ∧ u < 9973) (h : sl k t x = sl k u x) : t = u := by
  unfold sl at h
  have e : (k * (t - u)) % 9973 = 0 := by
    rw [Int.mul_sub, Int.mul_comm k t, Int.mul_comm k u]
    omega
  have := no_mult (c := k) (d := t - u) (by omega) (by omega) (by omega) (by omega) (by omega) e
  omega
theorem fold_ne {k : Int} (hk : 1 ≤ k ∧ k < 9973) : ∀ (xs : List Int) (t u : Int), (0 ≤ t ∧ t < 9973) → (0 ≤ u ∧ u < 9973) → t ≠ u → xs.foldl (sl k) t ≠ xs.foldl (sl k) u
  | [], _, _, _, _, h => h
  | x :: r, t, u, ht, hu, h => fold_ne hk r _ _ (sl_range k t x) (sl_range k u x) fun e => h (sl_inj hk ht hu e)
theorem fold_set_ne {k : Int} (hk : 1 ≤ k ∧ k < 9973) : ∀ (xs : List Int) (i : Nat) (t x y : Int), (0 ≤ t ∧ t < 9973) → xs[i]? = some x → y ≠ x → (0 ≤ x ∧ x < 9973) → (0 ≤ y ∧ y < 9973) → (xs.set i y).foldl (sl k) t ≠ xs.foldl (sl k) t
  | [], i, t, x, y, _, h, _, _, _ => by simp at h
  | a :: r, 0, t, x, y, ht, h, hne, hx, hy => by
    have e : a = x := by simpa using h
    subst e
    refine fold_ne hk r _ _ (sl_range k t y) (sl_range k t a) fun e => ?_
    unfold sl at e
    omega
  | a :: r, i + 1, t, x, y, ht, h, hne, hx, hy => fold_set_ne hk r i (sl k t a) x y (sl_range k t a) (by simpa using h) hne hx hy
theorem seal_ne {k : Int} (hk : 1 ≤ k ∧ k < 9973) {xs : List Int} {i : Nat} {x y : Int} (h : xs[i]? = some x) (hne : y ≠ x) (hx : 0 ≤ x ∧ x < 9973) (hy : 0 ≤ y ∧ y < 9973) : sealI k (xs.set i y) ≠ sealI k xs :=
  fold_set_ne hk xs i k x y (by omega) h hne hx hy
theorem set_self {xs : List Int} {i : Nat} {x : Int} (h : xs[i]? = some x) : xs.set i x = xs := by
  refine List.ext_getElem? fun j => ?_
  by_cases e : i = j
  · subst e
    rw [List.getElem?_set_self (List.getElem?_eq_some_iff.mp h).1, h]
  · rw [List.getElem?_set_ne e]
/-- two unlike numbers exchanged -/
theorem swap_ne {xs : List Int} {i j : Nat} {x u : Int} (h : xs[i]? = some x) (h' : xs[j]? = some u) (hl : xs.length ≤ 1000) (hx : 0 ≤ x ∧ x < 9973) (hu : 0 ≤ u ∧ u < 9973) (hne : (xs.set i u).set j x ≠ xs) :
    sumsI ((xs.set i u).set j x) ≠ sumsI xs := by
  have hxu : u ≠ x := fun e => hne (by
    subst e
    rw [set_self h, set_self h'])
  have hij : i ≠ j := fun e => by
    subst e
    rw [h] at h'
    exact hxu (Option.some.inj h').symm
  exact two_ne h hij h' hl hxu hx hu hu hx
/-! sums and seals reckoned otherwise -/
theorem drop_at {xs : List Int} {i : Nat} {x : Int} (h : xs[i]? = some x) : xs.drop i = x :: xs.drop (i + 1) := by
  obtain ⟨hi, e⟩ := List.getElem?_eq_some_iff.mp h
  rw [List.drop_eq_getElem_cons hi, e]
theorem w1_drop {xs : List Int} {i : Nat} {x : Int} (h : xs[i]? = some x) : w1 (xs.drop i) = (x + 1) + w1 (xs.drop (i + 1)) := by
  rw [drop_at h]
  rfl
theorem w2_drop {xs : List Int} {i : Nat} {x : Int} (h : xs[i]? = some x) : w2 (xs.drop i) = ((xs.length : Int) - i) * (x + 1) + w2 (xs.drop (i + 1)) := by
  have hi := (List.getElem?_eq_some_iff.mp h).1
  rw [drop_at h]
  show (((xs.drop (i + 1)).length : Int) + 1) * (x + 1) + w2 (xs.drop (i + 1)) = _
  rw [List.length_drop]
  congr 2
  omega
theorem w1_append : ∀ (u c : List Int), w1 (u ++ c) = w1 u + w1 c
  | [], c => by simp [w1]
  | x :: r, c => by
    show (x + 1) + w1 (r ++ c) = (x + 1) + w1 r + w1 c
    rw [w1_append r c]
    omega
theorem w2_append : ∀ (u c : List Int), w2 (u ++ c) = w2 u + (c.length : Int) * w1 u + w2 c
  | [], c => by simp [w1, w2]
  | x :: r, c => by
    show (((r ++ c).length : Int) + 1) * (x + 1) + w2 (r ++ c) = ((r.length : Int) + 1) * (x + 1) + w2 r + (c.length : Int) * ((x + 1) + w1 r) + w2 c
    rw [w2_append r c, List.length_append]
    have e1 : (((r.length + c.length : Nat) : Int) + 1) * (x + 1) = ((r.length : Int) + 1) * (x + 1) + (c.length : Int) * (x + 1) := by
      rw [← Int.add_mul]
      congr 1
      omega
    have e2 : (c.length : Int) * ((x + 1) + w1 r) = (c.length : Int) * (x + 1) + (c.length : Int) * w1 r := Int.mul_add _ _ _
    rw [e1, e2]
    omega
theorem mul_mod (a b c : Int) : (a % 9973 * b + c) % 9973 = (a * b + c) % 9973 := by
  have h := Int.emod_add_mul_ediv a 9973
  have e : a * b + c = (a % 9973 * b + c) + 9973 * (a / 9973 * b) := by
    have : a * b = a % 9973 * b + 9973 * (a / 9973 * b) := by
      rw [← Int.mul_assoc, ← Int.add_mul, h]
    omega
  rw [e, Int.add_mul_emod_self_left]
/-- a step of joined -/
def jst (p : Int × Int) (t : Int × Int × Int) : Int × Int := ((p.1 + t.1) % 9973, (p.2 + p.1 * t.2.2 + t.2.1) % 9973)
theorem jst_sums (u c : List Int) : jst (sumsI u) ((sumsI c).1, (sumsI c).2, (c.length : Int)) = sumsI (u ++ c) := by
  rw [sums_w, sums_w, sums_w, w1_append, w2_append]
  refine Prod.ext ?_ ?_
  · show (w1 u % 9973 + w1 c % 9973) % 9973 = (w1 u + w1 c) % 9973
    omega
  · show (w2 u % 9973 + w1 u % 9973 * (c.length : Int) + w2 c % 9973) % 9973 = (w2 u + (c.length : Int) * w1 u + w2 c) % 9973
    have h := mul_mod (w1 u) (c.length : Int) (w2 u + w2 c)
    rw [Int.mul_comm (c.length : Int)]
    omega
/-- a seal, from its end on -/
def hz (k : Int) : List Int → Int
  | [] => 0
  | x :: r => (x + 1) * k ^ r.length + hz k r
theorem fold_hz (k : Int) : ∀ (xs : List Int) (t : Int), (0 ≤ t ∧ t < 9973) → xs.foldl (sl k) t = (t * k ^ xs.length + hz k xs) % 9973
  | [], t, h => by
    show t = (t * k ^ 0 + 0) % 9973
    rw [Int.pow_zero, Int.mul_one]
    omega
  | x :: r, t, h => by
    have ih := fold_hz k r (sl k t x) (sl_range k t x)
    rw [List.foldl_cons, ih]
    show ((t * k + x + 1) % 9973 * k ^ r.length + hz k r) % 9973 = (t * k ^ (r.length + 1) + ((x + 1) * k ^ r.length + hz k r)) % 9973
    rw [mul_mod]
    congr 1
    rw [Int.pow_succ, Int.add_assoc (t * k), Int.add_mul, Int.mul_assoc t k, Int.mul_comm k, Int.add_assoc]
theorem seal_hz {k : Int} (hk : 1 ≤ k ∧ k < 9973) (xs : List Int) : (hz k xs + k * k ^ xs.length) % 9973 = sealI k xs := by
  unfold sealI
  rw [fold_hz k xs k (by omega), Int.add_comm]
theorem hz_drop {k : Int} {xs : List Int} {i : Nat} {x : Int} (h : xs[i]? = some x) : hz k (xs.drop i) = hz k (xs.drop (i + 1)) + (x + 1) * k ^ (xs.length - (i + 1)) := by
  rw [drop_at h]
  show (x + 1) * k ^ (xs.drop (i + 1)).length + hz k (xs.drop (i + 1)) = _
  rw [List.length_drop, Int.add_comm]
end Sm

set_option maxRecDepth 100000
/-! the law's row of drawn numbers; heaps -/
namespace Dw
open PySem PySem.Spec PyProof.Rows L2
/-- all but r stays -/
def Keep (r : Addr) (H H' : Hp) : Prop := ∀ b o, b ≠ r → H b = some o → H' b = some o
theorem Keep.refl (r : Addr) (H : Hp) : Keep r H H := fun _ _ _ h => h
theorem Keep.trans {r : Addr} {H H1 H2 : Hp} (a : Keep r H H1) (b : Keep r H1 H2) : Keep r H H2 := fun c o n h => b c o n (a c o n h)
theorem Keep.same {r : Addr} {H H' : Hp} (s : Same H H') : Keep r H H' := fun b o _ h => s b o h
theorem Keep.put {r : Addr} {H : Hp} {o : HO} : Keep r H (upd H r o) := fun b u n h => by
  rw [upd_ne n]
  exact h
theorem Keep.seq {K : PySem.W.Frag} {r c : Addr} {H H' : Hp} {xs : List V} (k : Keep r H H') (n : c ≠ r) (h : SqL K H c xs) : SqL K H' c xs := by
  rcases h with (h | ⟨o, h⟩) | h
  · exact .inl (.inl (k _ _ n h))
  · exact .inl (.inr ⟨o, k _ _ n h⟩)
  · exact .inr h
theorem same_upd {H : Hp} {p : Addr} {o : HO} (h : H p = none) : Same H (upd H p o) := fun b x e => by
  rw [upd_ne (ne_of_none e h)]
  exact e
theorem same_mut {H H' : Hp} {p : Addr} {o : HO} (s : Same H H') (h : H p = none) : Same H (upd H' p o) := fun b x e => by
  rw [upd_ne (ne_of_none e h)]
  exact s _ _ e
theorem sq_of {K : PySem.W.Frag} {H : Hp} {a : Addr} {xs : List V} (h : H a = some (.lst xs)) : SqL K H a xs := .inl (.inl h)
theorem st_of {K : PySem.W.Frag} {H : Hp} {a : Addr} {xs : List V} (h : H a = some (.tup xs)) : SqT K H a xs := .inl (.inl h)
/-- no table of code objects -/
def NT (o : HO) : Prop := ∀ ps, o ≠ .tbl ps
theorem NT.lst {xs : List V} : NT (.lst xs) := fun _ z => by cases z
theorem NT.tup {xs : List V} : NT (.tup xs) := fun _ z => by cases z
theorem NT.ins {C dx : Addr} {fs : List (Str × V)} : NT (.ins C dx fs) := fun _ z => by cases z
theorem NT.dK {kvs : List (Key × V)} : NT (.dK kvs) := fun _ z => by cases z
theorem NT.frz {o : Obj} {u : HO} : NT (.frz o u) := fun _ z => by cases z
/-- all that was tracked is as it was, but for tables -/
def SameN (H H' : Hp) : Prop := ∀ b o, NT o → H b = some o → H' b = some o
/-- nothing but a table stands there -/
def Fr0 (H : Hp) (p : Addr) : Prop := ∀ o, H p = some o → ¬ NT o
theorem Fr0.of {H : Hp} {p : Addr} (h : H p = none) : Fr0 H p := fun o e => by
  rw [h] at e
  cases e
theorem SameN.of {H H' : Hp} (s : Same H H') : SameN H H' := fun b o _ h => s b o h
theorem SameN.trans {H H1 H2 : Hp} (a : SameN H H1) (b : SameN H1 H2) : SameN H H2 := fun c o n h => b c o n (a c o n h)
theorem SameN.seq {K : PySem.W.Frag} {H H' : Hp} {a : Addr} {xs : List V} (e : SameN H H') (h : SqL K H a xs) : SqL K H' a xs := by
  rcases h with (h | ⟨o, h⟩) | h
  · exact .inl (.inl (e _ _ NT.lst h))
  · exact .inl (.inr ⟨o, e _ _ NT.frz h⟩)
  · exact .inr h
theorem SameN.free {H H' : Hp} {p : Addr} (e : SameN H H') (h : H' p = none) : Fr0 H p := fun o ho n => by
  rw [e p o n ho] at h
  cases h
theorem SameN.mut {H H' : Hp} {p : Addr} {o : HO} (s : SameN H H') (h : Fr0 H p) : SameN H (upd H' p o) := fun b u n e => by
  by_cases z : b = p
  · exact absurd n (h u (by rw [← z]; exact e))
  · rw [upd_ne z]
    exact s b u n e
/-- the row that numbers are drawn with stands at r; it was not there in H0, in which the script stands at a -/
structure Dr (K : PySem.W.Frag) (H0 : Hp) (ns : List Int) (a r : Addr) (H : Hp) : Prop where
  row : ∃ p q z : Int, H r = some (.lst [.ref a, .int p, .int q, .int z]) ∧ 0 ≤ p ∧ 0 ≤ q ∧ q < 2147483647
  scr : SqL K H0 a (ns.map V.int)
  same : SameN H0 H
  fresh : Fr0 H0 r
  len : ns.length ≤ 63
section
variable {K : PySem.W.Frag} {H0 : Hp} {ns : List Int} {a r p : Addr} {H H' : Hp} {o : HO}
theorem Dr.start (h : H r = none) (hS : SqL K H a (ns.map V.int)) (hl : ns.length ≤ 63) : Dr K H ns a r (upd H r (.lst [.ref a, .int 0, .int 0, .int 0])) :=
  ⟨⟨0, 0, 0, upd_same, by decide, by decide, by decide⟩, hS, .of (same_upd h), .of h, hl⟩
theorem Dr.seq (D : Dr K H0 ns a r H) : SqL K H a (ns.map V.int) := D.same.seq D.scr
theorem Dr.monoN (D : Dr K H0 ns a r H) (s : SameN H H') : Dr K H0 ns a r H' := by
  obtain ⟨p, q, z, h, b⟩ := D.row
  exact ⟨⟨p, q, z, s _ _ NT.lst h, b⟩, D.scr, D.same.trans s, D.fresh, D.len⟩
theorem Dr.mono (D : Dr K H0 ns a r H) (s : Same H H') : Dr K H0 ns a r H' := D.monoN (.of s)
theorem Dr.new (D : Dr K H0 ns a r H) (h : H p = none) : Dr K H0 ns a r (upd H p o) := D.mono (same_upd h)
theorem Dr.mut (D : Dr K H0 ns a r H) (n : p ≠ r) (h : Fr0 H0 p) : Dr K H0 ns a r (upd H p o) := by
  obtain ⟨i, q, z, e, b⟩ := D.row
  exact ⟨⟨i, q, z, by rw [upd_ne n.symm]; exact e, b⟩, D.scr, D.same.mut h, D.fresh, D.len⟩
theorem Dr.put (D : Dr K H0 ns a r H) {p q z : Int} (h0 : 0 ≤ p) (h1 : 0 ≤ q) (h2 : q < 2147483647) : Dr K H0 ns a r (upd H r (.lst [.ref a, .int p, .int q, .int z])) :=
  ⟨⟨p, q, z, upd_same, h0, h1, h2⟩, D.scr, D.same.mut D.fresh, D.fresh, D.len⟩
/-- what is new in H is not r -/
theorem Dr.ne (D : Dr K H0 ns a r H) (h : H p = none) : p ≠ r := by
  obtain ⟨_, _, _, e, _⟩ := D.row
  exact (ne_of_none e h).symm
theorem Dr.free (D : Dr K H0 ns a r H) (h : H p = none) : Fr0 H0 p := D.same.free h
/-- what may change elsewhere: places that hold nothing in H0, but for tables -/
theorem Dr.but {S : List Addr} (D : Dr K H0 ns a r H) (k : ∀ b o, b ∉ S → NT o → H b = some o → H' b = some o) (hr : r ∉ S) (h : ∀ b ∈ S, Fr0 H0 b) : Dr K H0 ns a r H' := by
  obtain ⟨i, q, z, e, b⟩ := D.row
  refine ⟨⟨i, q, z, k _ _ hr NT.lst e, b⟩, D.scr, fun c u n hu => ?_, D.fresh, D.len⟩
  by_cases m : c ∈ S
  · exact absurd n (h c m u hu)
  · exact k c u m n (D.same c u n hu)
end
/-- the promise of what draws a number below m -/
def spTaken (K : PySem.W.Frag) : Sp := fun vs H Q _ => ∃ (H0 : Hp) (ns : List Int) (a r : Addr) (m : Int), vs = [.ref r, .int m] ∧ Dr K H0 ns a r H ∧ 0 < m ∧ m < 1073741824 ∧
  ∀ (v : Int) (H' : Hp), Dr K H0 ns a r H' → Keep r H H' → 0 ≤ v → v < m → Q (.int v) H'
/-- the promise of what draws a number below a written m -/
def spDraw (m : Int) (K : PySem.W.Frag) : Sp := fun vs H Q _ => ∃ (H0 : Hp) (ns : List Int) (a r : Addr), vs = [.ref r] ∧ Dr K H0 ns a r H ∧
  ∀ (v : Int) (H' : Hp), Dr K H0 ns a r H' → Keep r H H' → 0 ≤ v → v < m → Q (.int v) H'
/-! ### data: numbers, None, lists of them -/
/-- what a cell holds: a number, or None -/
def cel : V → Bool
  | .int _ => true
  | .non => true
  | _ => false
def dat : V → PyData
  | .int i => .int i
  | .bl b => .bool b
  | .str x => .str x
  | _ => .none
theorem Dp.dat {K : PySem.W.Frag} {H : Hp} : ∀ {v : V}, cel v = true → Dp K H v (dat v)
  | .int i, _ => .int i
  | .non, _ => .non
theorem dpAll_dat {K : PySem.W.Frag} {H : Hp} : ∀ {xs : List V}, (∀ v ∈ xs, cel v = true) → DpAll K H xs (xs.map dat)
  | [], _ => .nil
  | x :: r, h => .cons (Dp.dat (h x List.mem_cons_self)) (dpAll_dat fun v m => h v (List.mem_cons_of_mem _ m))
theorem lay_dat : ∀ {v : V}, cel v = true → (dat v).canLay0 = true ∧ (dat v).depth = 0
  | .int i, _ => ⟨by simp only [dat, PyData.canLay0], by simp only [dat, PyData.depth]⟩
  | .non, _ => ⟨by simp only [dat, PyData.canLay0], by simp only [dat, PyData.depth]⟩
theorem layAll_dat : ∀ {xs : List V}, (∀ v ∈ xs, cel v = true) → PyData.canLayAll0 (xs.map dat) = true ∧ PyData.depthAll (xs.map dat) = 0
  | [], _ => ⟨by simp only [List.map_nil, PyData.canLayAll0], by simp only [List.map_nil, PyData.depthAll]⟩
  | x :: r, h => by
    obtain ⟨a, b⟩ := lay_dat (h x List.mem_cons_self)
    obtain ⟨c, d⟩ := layAll_dat (xs := r) fun v m => h v (List.mem_cons_of_mem _ m)
    constructor
    · rw [List.map_cons, PyData.canLayAll0, a, c]
      rfl
    · rw [List.map_cons, PyData.depthAll, b, d]
      rfl
theorem shaped_l {xs : List V} (h : ∀ v ∈ xs, cel v = true) : SeqAt.shaped (.list (xs.map dat)) = true := by
  obtain ⟨a, b⟩ := layAll_dat h
  unfold SeqAt.shaped
  rw [PyData.canLay0, PyData.depth, a, b]
  rfl
theorem shaped_t {xs : List V} (h : ∀ v ∈ xs, cel v = true) : SeqAt.shaped (.tuple (xs.map dat)) = true := by
  obtain ⟨a, b⟩ := layAll_dat h
  unfold SeqAt.shaped
  rw [PyData.canLay0, PyData.depth, a, b]
  rfl
theorem eqv_dat : ∀ {v u : V}, cel v = true → cel u = true → PyData.eqv (dat v) (dat u) = decide (v = u)
  | .int i, .int j, _, _ => by
    simp only [dat, PyData.eqv, V.int.injEq]
    by_cases e : i = j <;> simp [e]
  | .int i, .non, _, _ => by simp [dat, PyData.eqv]
  | .non, .int j, _, _ => by simp [dat, PyData.eqv]
  | .non, .non, _, _ => by simp [dat, PyData.eqv]
theorem eqvAll_dat : ∀ {xs ys : List V}, (∀ v ∈ xs, cel v = true) → (∀ v ∈ ys, cel v = true) → PyData.eqvAll (xs.map dat) (ys.map dat) = decide (xs = ys)
  | [], [], _, _ => by simp [PyData.eqvAll]
  | [], _ :: _, _, _ => by simp [PyData.eqvAll]
  | _ :: _, [], _, _ => by simp [PyData.eqvAll]
  | x :: r, y :: t, hx, hy => by
    rw [List.map_cons, List.map_cons, PyData.eqvAll, eqv_dat (hx x List.mem_cons_self) (hy y List.mem_cons_self), eqvAll_dat (xs := r) (ys := t) (fun v m => hx v (List.mem_cons_of_mem _ m)) (fun v m => hy v (List.mem_cons_of_mem _ m))]
    by_cases e : x = y
    · subst e
      by_cases e2 : r = t <;> simp [e2]
    · simp [e]
theorem eqv_l {xs ys : List V} (hx : ∀ v ∈ xs, cel v = true) (hy : ∀ v ∈ ys, cel v = true) : PyData.eqv (.list (xs.map dat)) (.list (ys.map dat)) = decide (xs = ys) := by
  rw [PyData.eqv]
  exact eqvAll_dat hx hy
theorem eqv_t {xs ys : List V} (hx : ∀ v ∈ xs, cel v = true) (hy : ∀ v ∈ ys, cel v = true) : PyData.eqv (.tuple (xs.map dat)) (.tuple (ys.map dat)) = decide (xs = ys) := by
  rw [PyData.eqv]
  exact eqvAll_dat hx hy
theorem cel_ints {xs : List Int} : ∀ v ∈ xs.map V.int, cel v = true := fun v h => by
  obtain ⟨i, _, rfl⟩ := List.mem_map.mp h
  rfl
theorem map_int_inj : ∀ {xs ys : List Int}, xs.map V.int = ys.map V.int → xs = ys
  | [], [], _ => rfl
  | [], _ :: _, h => by simp at h
  | _ :: _, [], h => by simp at h
  | x :: r, y :: t, h => by
    rw [List.map_cons, List.map_cons] at h
    injection h with h1 h2
    injection h1 with h1
    rw [h1, map_int_inj h2]
theorem dp_l {K : PySem.W.Frag} {H : Hp} {p : Addr} {xs : List V} (h : SqL K H p xs) (hx : ∀ v ∈ xs, cel v = true) : Dp K H (.ref p) (.list (xs.map dat)) := .lst h (dpAll_dat hx)
theorem dp_t {K : PySem.W.Frag} {H : Hp} {p : Addr} {xs : List V} (h : SqT K H p xs) (hx : ∀ v ∈ xs, cel v = true) : Dp K H (.ref p) (.tuple (xs.map dat)) := .tup h (dpAll_dat hx)
/-! ### places -/
theorem ixN_nat {n j : Nat} (h : j < n) : ixN n (j : Int) = some j := by
  unfold ixN
  rw [if_pos (by omega), if_pos (by omega)]
  rfl
theorem at_map {xs : List Int} {j : Nat} {x : Int} (h : xs[j]? = some x) : atI (xs.map V.int) (j : Int) = some (.int x) := atI_nat (by rw [List.getElem?_map, h]; rfl)
theorem map_take_succ {xs : List Int} {i : Nat} {x : Int} (h : xs[i]? = some x) : xs.take (i + 1) = xs.take i ++ [x] := by
  rw [List.take_add_one, h]
  rfl
theorem get_map {xs : List Int} {i : Nat} {y : V} (h : (xs.map V.int)[i]? = some y) : ∃ x, xs[i]? = some x ∧ y = .int x := by
  rw [List.getElem?_map] at h
  cases e : xs[i]? with
  | none =>
    rw [e] at h
    cases h
  | some z =>
    rw [e] at h
    exact ⟨z, rfl, (Option.some.inj h).symm⟩
theorem get_map_ref {xs : List Addr} {i : Nat} {y : V} (h : (xs.map V.ref)[i]? = some y) : ∃ x, xs[i]? = some x ∧ y = .ref x := by
  rw [List.getElem?_map] at h
  cases e : xs[i]? with
  | none =>
    rw [e] at h
    cases h
  | some z =>
    rw [e] at h
    exact ⟨z, rfl, (Option.some.inj h).symm⟩
theorem size_ok {n : Nat} (h : n ≤ 100000) : n ≤ sizeLine := Nat.le_trans h (by decide)
theorem sz_ {n : Nat} (h : Nat.ble n 100000 = true) : n ≤ sizeLine := size_ok (Nat.le_of_ble_eq_true h)
theorem size_lt {n : Nat} (h : n < 100000) : n < sizeLine := Nat.lt_of_lt_of_le h (by decide)
/-! ### rules that name the text's part K, for what stands within a comprehension -/
section
variable {X : Cx} {K : PySem.W.Frag}
theorem op_eqDK (hK : X.K = K) (hu : X.A.units + 64 < cLine) : OpR X (compareOp .Eq) (rEqD K) := hK ▸ op_eqD hu
theorem op_neDK (hK : X.K = K) (hu : X.A.units + 64 < cLine) : OpR X (compareOp .NotEq) (rNeD K) := hK ▸ op_neD hu
theorem ix_listK (hK : X.K = K) : IxR X (rIxL K) := hK ▸ ix_list
theorem ix_tupK (hK : X.K = K) : IxR X (rIxT K) := hK ▸ ix_tup
theorem ix_seqK (hK : X.K = K) : IxR X (rIx K) := hK ▸ ix_seq
theorem pe_fldK {e : Expr} {f : Str} {pos : Pos} {ta : TE} (hK : X.K = K) (he : PE X e ta) (hb : attributeBase e f X.env (eval e X.env) = eval e X.env) : PE X (.Attribute e f pos) (tFld K ta f) := hK ▸ pe_fld he hb
theorem call_len_seqK (hK : X.K = K) : CallR X (.builtin "len") (fun xs H Q => ∃ p ys, xs = [.ref p] ∧ (SqL K H p ys ∨ SqT K H p ys) ∧ Q (.int ys.length) H) := hK ▸ call_len_seq
end
/-! ### data that is tracked, as alike looks at it -/
mutual
inductive Td (H : Hp) : V → PyData → Prop
  | non : Td H .non .none
  | bl (b : Bool) : Td H (.bl b) (.bool b)
  | int (i : Int) : Td H (.int i) (.int i)
  | str (x : Str) : Td H (.str x) (.str x)
  | lst {a : Addr} {xs : List V} {ds : List PyData} : H a = some (.lst xs) → xs.length ≤ 100000 → TdAll H xs ds → Td H (.ref a) (.list ds)
  | tup {a : Addr} {xs : List V} {ds : List PyData} : H a = some (.tup xs) → xs.length ≤ 100000 → TdAll H xs ds → Td H (.ref a) (.tuple ds)
inductive TdAll (H : Hp) : List V → List PyData → Prop
  | nil : TdAll H [] []
  | cons {v : V} {vs : List V} {d : PyData} {ds : List PyData} : Td H v d → TdAll H vs ds → TdAll H (v :: vs) (d :: ds)
end
mutual
theorem Td.mono {H H' : Hp} (s : Same H H') : ∀ {v : V} {d : PyData}, Td H v d → Td H' v d
  | _, _, .non => .non
  | _, _, .bl b => .bl b
  | _, _, .int i => .int i
  | _, _, .str x => .str x
  | _, _, .lst h l t => .lst (s _ _ h) l (TdAll.mono s t)
  | _, _, .tup h l t => .tup (s _ _ h) l (TdAll.mono s t)
theorem TdAll.mono {H H' : Hp} (s : Same H H') : ∀ {vs : List V} {ds : List PyData}, TdAll H vs ds → TdAll H' vs ds
  | _, _, .nil => .nil
  | _, _, .cons a b => .cons (Td.mono s a) (TdAll.mono s b)
end
theorem TdAll.len {H : Hp} : ∀ {vs : List V} {ds : List PyData}, TdAll H vs ds → vs.length = ds.length
  | _, _, .nil => rfl
  | _, _, .cons _ b => by
    rw [List.length_cons, List.length_cons, TdAll.len b]
theorem TdAll.at {H : Hp} : ∀ {vs : List V} {ds : List PyData} {i : Nat} {d : PyData}, TdAll H vs ds → ds[i]? = some d → ∃ v, vs[i]? = some v ∧ Td H v d
  | _, _, _, _, .nil, h => by simp at h
  | _, _, 0, _, .cons a _, h => by
    have e := Option.some.inj h
    subst e
    exact ⟨_, rfl, a⟩
  | _, _, i + 1, _, .cons _ b, h => by
    obtain ⟨v, h1, h2⟩ := TdAll.at (i := i) b (by simpa using h)
    exact ⟨v, by simpa using h1, h2⟩
theorem TdAll.cel {H : Hp} : ∀ {vs : List V}, (∀ v ∈ vs, cel v = true) → TdAll H vs (vs.map dat)
  | [], _ => .nil
  | .int i :: r, h => .cons (.int i) (TdAll.cel fun v m => h v (List.mem_cons_of_mem _ m))
  | .non :: r, h => .cons .non (TdAll.cel fun v m => h v (List.mem_cons_of_mem _ m))
  | .bl b :: r, h => by cases h _ List.mem_cons_self
  | .str b :: r, h => by cases h _ List.mem_cons_self
  | .byt b :: r, h => by cases h _ List.mem_cons_self
  | .flt b :: r, h => by cases h _ List.mem_cons_self
  | .ref b :: r, h => by cases h _ List.mem_cons_self
  | .ty b :: r, h => by cases h _ List.mem_cons_self
theorem depth_at : ∀ {ds : List PyData} {i : Nat} {d : PyData}, ds[i]? = some d → d.depth ≤ PyData.depthAll ds
  | [], _, _, h => by simp at h
  | a :: r, 0, d, h => by
    have e := Option.some.inj h
    subst e
    rw [PyData.depthAll]
    exact Nat.le_max_left _ _
  | a :: r, i + 1, d, h => by
    have := depth_at (ds := r) (i := i) (d := d) (by simpa using h)
    rw [PyData.depthAll]
    exact Nat.le_trans this (Nat.le_max_right _ _)
/-- the promise of alike for two things that are: n is more than their depth -/
def spAlike (n : Nat) : Sp := fun vs H Q _ => ∃ (x y : V) (d : PyData), vs = [x, y] ∧ Td H x d ∧ Td H y d ∧ d.depth < n ∧ ∀ H', Same H H' → Q (.bl true) H'
theorem alike_zero {P : Program} {w : World} {K : PySem.W.Frag} {mg : Str → Option Value} {base : Heap} {f : Addr} {fd : FuncData} {ps : List Str} : FnOk P w K mg base CX0 0 f fd ps (spAlike 0) :=
  ⟨fun _ _ _ _ ⟨_, _, _, _, _, _, h, _⟩ => absurd h (Nat.not_lt_zero _), fun _ _ _ _ _ _ _ _ _ _ _ _ _ ⟨_, _, _, _, _, _, h, _⟩ => absurd h (Nat.not_lt_zero _)⟩
/-! ### isinstance: what it tells of None, bools, ints, texts, lists, tuples -/
theorem ty_nt : kitB "NoneType" "tuple" = some false := by decide +kernel
theorem ty_nl : kitB "NoneType" "list" = some false := by decide +kernel
theorem ty_nb : kitB "NoneType" "bool" = some false := by decide +kernel
theorem ty_ns : kitB "NoneType" "str" = some false := by decide +kernel
theorem ty_ni : kitB "NoneType" "int" = some false := by decide +kernel
theorem ty_bt : kitB "bool" "tuple" = some false := by decide +kernel
theorem ty_bl : kitB "bool" "list" = some false := by decide +kernel
theorem ty_bb : kitB "bool" "bool" = some true := by decide +kernel
theorem ty_it : kitB "int" "tuple" = some false := by decide +kernel
theorem ty_il : kitB "int" "list" = some false := by decide +kernel
theorem ty_ib : kitB "int" "bool" = some false := by decide +kernel
theorem ty_is : kitB "int" "str" = some false := by decide +kernel
theorem ty_ii : kitB "int" "int" = some true := by decide +kernel
theorem ty_st : kitB "str" "tuple" = some false := by decide +kernel
theorem ty_sl : kitB "str" "list" = some false := by decide +kernel
theorem ty_sb : kitB "str" "bool" = some false := by decide +kernel
theorem ty_ss : kitB "str" "str" = some true := by decide +kernel
theorem ty_lt : kitB "list" "tuple" = some false := by decide +kernel
theorem ty_ll : kitB "list" "list" = some true := by decide +kernel
theorem ty_tt : kitB "tuple" "tuple" = some true := by decide +kernel
theorem any_l {K : PySem.W.Frag} : PySem.W.kitAny K (.type "list") [.type "tuple", .type "list"] = some true := by
  simp only [PySem.W.kitAny, kit_ty ty_lt, kit_ty ty_ll]
theorem any_t {K : PySem.W.Frag} : PySem.W.kitAny K (.type "tuple") [.type "tuple", .type "list"] = some true := by
  simp only [PySem.W.kitAny, kit_ty ty_tt]
theorem cel_cases : ∀ {v : V}, cel v = true → (∃ x, v = .int x) ∨ v = .non
  | .int i, _ => .inl ⟨i, rfl⟩
  | .non, _ => .inr rfl
theorem same_tup {K : PySem.W.Frag} {H H' : Hp} {c : Addr} {xs : List V} (s : Same H H') (h : SqT K H c xs) : SqT K H' c xs := by
  rcases h with (h | ⟨o, h⟩) | h
  · exact .inl (.inl (s _ _ h))
  · exact .inl (.inr ⟨o, s _ _ h⟩)
  · exact .inr h
theorem inV_ints : ∀ {xs : List Int}, inV .non (xs.map V.int) = false
  | [] => rfl
  | x :: r => by
    have ih := inV_ints (xs := r)
    unfold inV at ih ⊢
    rw [List.map_cons, List.any_cons, ih]
    rfl
theorem flat_ints : ∀ {xs : List Int}, (xs.map V.int).all flatV = true
  | [] => rfl
  | x :: r => by
    rw [List.map_cons, List.all_cons, flat_ints (xs := r)]
    rfl
theorem cut_take (xs : List V) (k : Nat) : cutV xs none (some (k : Int)) = xs.take k := by
  unfold cutV
  rw [HT.sIx_none, HT.sIx_nat, List.drop_zero, Nat.sub_zero, ← List.take_eq_take_min]
theorem cut_drop (xs : List V) (k : Nat) : cutV xs (some (k : Int)) none = xs.drop k := by
  unfold cutV
  rw [HT.sIx_none, HT.sIx_nat]
  by_cases h : k ≤ xs.length
  · rw [Nat.min_eq_left h, List.take_of_length_le (by rw [List.length_drop]; omega)]
  · rw [Nat.min_eq_right (by omega), List.drop_of_length_le (Nat.le_refl _), List.drop_of_length_le (by omega), List.take_nil]
theorem dep_t {xs : List V} (h : ∀ v ∈ xs, cel v = true) : (PyData.tuple (xs.map dat)).depth < 5 := by
  rw [PyData.depth, (layAll_dat h).2]
  decide
theorem dep_l {xs : List V} (h : ∀ v ∈ xs, cel v = true) : (PyData.list (xs.map dat)).depth < 5 := by
  rw [PyData.depth, (layAll_dat h).2]
  decide
theorem dep_i {i : Int} : (PyData.int i).depth < 5 := by
  rw [PyData.depth]
  decide
theorem Dr.ne_ints {K : PySem.W.Frag} {H0 : Hp} {ns : List Int} {a r b : Addr} {H : Hp} {xs : List Int} (D : Dr K H0 ns a r H) (h : H b = some (.lst (xs.map V.int))) : b ≠ r := by
  obtain ⟨_, _, _, e, _⟩ := D.row
  refine ne_of h e fun z => ?_
  injection z with z
  cases xs with
  | nil => cases z
  | cons x t =>
    rw [List.map_cons] at z
    injection z with z _
    cases z
theorem Dr.ne_tup {K : PySem.W.Frag} {H0 : Hp} {ns : List Int} {a r b : Addr} {H : Hp} {xs : List V} (D : Dr K H0 ns a r H) (h : H b = some (.tup xs)) : b ≠ r := by
  obtain ⟨_, _, _, e, _⟩ := D.row
  exact ne_of h e fun z => by cases z
theorem cut_take' {xs : List V} {j : Int} {k : Nat} (e : j = (k : Int)) : cutV xs none (some j) = xs.take k := by
  rw [e]
  exact cut_take xs k
theorem cut_drop' {xs : List V} {j : Int} {k : Nat} (e : j = (k : Int)) : cutV xs (some j) none = xs.drop k := by
  rw [e]
  exact cut_drop xs k
theorem cut_mem {xs : List V} {lo hi : Option Int} {v : V} (h : v ∈ cutV xs lo hi) : v ∈ xs := by
  unfold cutV at h
  exact List.mem_of_mem_drop (List.mem_of_mem_take h)
end Dw

set_option maxRecDepth 100000
set_option maxHeartbeats 4000000
/-! a memory: what it holds, what a write makes of it -/
namespace Mm
open PySem PySem.Spec PyProof.Rows L2
/-- all but these places stays -/
def But (S : List Addr) (H H' : Hp) : Prop := ∀ b o, b ∉ S → H b = some o → H' b = some o
theorem But.refl (S : List Addr) (H : Hp) : But S H H := fun _ _ _ h => h
theorem But.trans {S : List Addr} {H H1 H2 : Hp} (a : But S H H1) (b : But S H1 H2) : But S H H2 := fun c o n h => b c o n (a c o n h)
theorem But.same {S : List Addr} {H H' : Hp} (s : Same H H') : But S H H' := fun b o _ h => s b o h
theorem But.upd {S : List Addr} {H : Hp} {p : Addr} {o : HO} (h : p ∈ S) : But S H (L2.upd H p o) := fun b u n e => by
  rw [upd_ne (fun z => n (by rw [z]; exact h))]
  exact e
theorem But.more {S S' : List Addr} {H H' : Hp} (k : But S H H') (h : ∀ b ∈ S, b ∈ S') : But S' H H' := fun b o n e => k b o (fun m => n (h b m)) e
theorem But.sameOf {S : List Addr} {H0 H H' : Hp} (k : But S H H') (s : Same H0 H) (f : ∀ b ∈ S, H0 b = none) : Same H0 H' := fun b o e => k b o (fun m => by rw [f b m] at e; cases e) (s b o e)
/-- all but these places and tables stays -/
def ButN (S : List Addr) (H H' : Hp) : Prop := ∀ b o, b ∉ S → Dw.NT o → H b = some o → H' b = some o
theorem But.n {S : List Addr} {H H' : Hp} (k : But S H H') : ButN S H H' := fun b o n _ h => k b o n h
theorem ButN.trans {S : List Addr} {H H1 H2 : Hp} (a : ButN S H H1) (b : ButN S H1 H2) : ButN S H H2 := fun c o n t h => b c o n t (a c o n t h)
theorem ButN.more {S S' : List Addr} {H H' : Hp} (k : ButN S H H') (h : ∀ b ∈ S, b ∈ S') : ButN S' H H' := fun b o n t e => k b o (fun m => n (h b m)) t e
def leftV : Option Nat → V
  | none => .non
  | some k => .int (k : Int)
structure Mem where
  cells : List V
  many : Int
  up : Bool
  left : Option Nat
  torn : Str
def tornTo (t : Str) (cs : List V) (j : Nat) (v : Int) : List V := if t = "broken" then cs.set j .non else if t = "new" then cs.set j (.int v) else cs
/-- a write: what is behind it, and whether it was whole -/
def Mem.write (m : Mem) (j : Nat) (v : Int) : Mem × Bool :=
  if m.up = true then
    if m.left = some 0 then (⟨tornTo m.torn m.cells j v, m.many, false, none, m.torn⟩, false)
    else (⟨m.cells.set j (.int v), m.many + 1, true, m.left.map (· - 1), m.torn⟩, true)
  else (m, false)
theorem write_down {m : Mem} {j : Nat} {v : Int} (h : m.up = false) : m.write j v = (m, false) := by
  unfold Mem.write
  rw [if_neg (by rw [h]; decide)]
theorem write_cut {m : Mem} {j : Nat} {v : Int} (h : m.up = true) (h0 : m.left = some 0) : m.write j v = (⟨tornTo m.torn m.cells j v, m.many, false, none, m.torn⟩, false) := by
  unfold Mem.write
  rw [if_pos h, if_pos h0]
theorem write_ok {m : Mem} {j : Nat} {v : Int} (h : m.up = true) (h0 : ¬ m.left = some 0) : m.write j v = (⟨m.cells.set j (.int v), m.many + 1, true, m.left.map (· - 1), m.torn⟩, true) := by
  unfold Mem.write
  rw [if_pos h, if_neg h0]
theorem torn_len (t : Str) (cs : List V) (j : Nat) (v : Int) : (tornTo t cs j v).length = cs.length := by
  unfold tornTo
  split
  · rw [List.length_set]
  · split
    · rw [List.length_set]
    · rfl
theorem write_len (m : Mem) (j : Nat) (v : Int) : (m.write j v).1.cells.length = m.cells.length := by
  by_cases h : m.up = true
  · by_cases h0 : m.left = some 0
    · rw [write_cut h h0]
      exact torn_len _ _ _ _
    · rw [write_ok h h0]
      exact List.length_set
  · rw [write_down (Bool.eq_false_iff.mpr h)]
/-- rows put: those that aren't there already -/
def Mem.putGo : Mem → Nat → Int → List Int → Mem × Option Int
  | m, _, n, [] => (m, some n)
  | m, j, n, v :: r => if m.cells[j]? = some (.int v) then Mem.putGo m (j + 1) n r else
      if (m.write j v).2 = true then Mem.putGo (m.write j v).1 (j + 1) (n + 1) r else ((m.write j v).1, none)
theorem putGo_cons {m : Mem} {j : Nat} {n v : Int} {r : List Int} : m.putGo j n (v :: r) = if m.cells[j]? = some (.int v) then Mem.putGo m (j + 1) n r else
    if (m.write j v).2 = true then Mem.putGo (m.write j v).1 (j + 1) (n + 1) r else ((m.write j v).1, none) := rfl
def Mem.put (m : Mem) (j : Nat) (ws : List Int) : Mem × Option Int := if m.up = true then m.putGo j 0 ws else (m, none)
theorem putGo_len : ∀ (ws : List Int) (m : Mem) (j : Nat) (n : Int), (m.putGo j n ws).1.cells.length = m.cells.length
  | [], _, _, _ => rfl
  | v :: r, m, j, n => by
    unfold Mem.putGo
    split
    · exact putGo_len r m (j + 1) n
    · split
      · rw [putGo_len r _ (j + 1) (n + 1), write_len]
      · exact write_len m j v
theorem leftV_zero {o : Option Nat} : leftV o = .int 0 ↔ o = some 0 := by
  cases o with
  | none => simp [leftV]
  | some k =>
    simp only [leftV, V.int.injEq, Option.some.injEq]
    omega
theorem leftV_non {o : Option Nat} : leftV o = .non ↔ o = none := by
  cases o with
  | none => simp [leftV]
  | some k => simp [leftV]
/-! ### its object -/
theorem lk_here {k : Str} {v : V} {r : List (Str × V)} : List.lookup k ((k, v) :: r) = some v := by
  have e : (k == k) = true := beq_self_eq_true k
  simp only [List.lookup, e]
theorem lk_past {k g : Str} {v : V} {r : List (Str × V)} (h : (k == g) = false) : List.lookup k ((g, v) :: r) = List.lookup k r := by
  simp only [List.lookup, h]
theorem put_here {f : Str} {v x : V} {r : List (Str × V)} : putF f v ((f, x) :: r) = (f, v) :: r := if_pos rfl
theorem put_past {f g : Str} {v x : V} {r : List (Str × V)} (h : ¬ g = f) : putF f v ((g, x) :: r) = (g, x) :: putF f v r := if_neg h
/-- its attributes, in the order in which __init__ sets them -/
def mf (l : Addr) (n : Int) (u : Bool) (a : V) (t : Str) : List (Str × V) := [("_cells", .ref l), ("_whole_writes", .int n), ("_has_power", .bl u), ("_ahead", a), ("_torn", .str t)]
section
variable {l : Addr} {n n' : Int} {u u' : Bool} {a a' : V} {t t' : Str}
theorem mf_cells : (mf l n u a t).lookup ("_cells" : Str) = some (.ref l) := lk_here
theorem mf_many : (mf l n u a t).lookup ("_whole_writes" : Str) = some (.int n) := (lk_past (by decide +kernel)).trans lk_here
theorem mf_up : (mf l n u a t).lookup ("_has_power" : Str) = some (.bl u) := (lk_past (by decide +kernel)).trans ((lk_past (by decide +kernel)).trans lk_here)
theorem mf_ahead : (mf l n u a t).lookup ("_ahead" : Str) = some a := (lk_past (by decide +kernel)).trans ((lk_past (by decide +kernel)).trans ((lk_past (by decide +kernel)).trans lk_here))
theorem mf_torn : (mf l n u a t).lookup ("_torn" : Str) = some (.str t) := (lk_past (by decide +kernel)).trans ((lk_past (by decide +kernel)).trans ((lk_past (by decide +kernel)).trans ((lk_past (by decide +kernel)).trans lk_here)))
theorem mf_no {x : Str} (h1 : (x == ("_cells" : Str)) = false) (h2 : (x == ("_whole_writes" : Str)) = false) (h3 : (x == ("_has_power" : Str)) = false) (h4 : (x == ("_ahead" : Str)) = false) (h5 : (x == ("_torn" : Str)) = false) : (mf l n u a t).lookup x = none :=
  (lk_past h1).trans ((lk_past h2).trans ((lk_past h3).trans ((lk_past h4).trans ((lk_past h5).trans rfl))))
theorem put_many : putF "_whole_writes" (.int n') (mf l n u a t) = mf l n' u a t := (put_past (by decide +kernel)).trans (congrArg _ put_here)
theorem put_up : putF "_has_power" (.bl u') (mf l n u a t) = mf l n u' a t := (put_past (by decide +kernel)).trans (congrArg _ ((put_past (by decide +kernel)).trans (congrArg _ put_here)))
theorem put_ahead : putF "_ahead" a' (mf l n u a t) = mf l n u a' t := (put_past (by decide +kernel)).trans (congrArg _ ((put_past (by decide +kernel)).trans (congrArg _ ((put_past (by decide +kernel)).trans (congrArg _ put_here)))))
theorem put_torn : putF "_torn" (.str t') (mf l n u a t) = mf l n u a t' := (put_past (by decide +kernel)).trans (congrArg _ ((put_past (by decide +kernel)).trans (congrArg _ ((put_past (by decide +kernel)).trans (congrArg _ ((put_past (by decide +kernel)).trans (congrArg _ put_here)))))))
theorem put_new : putF "_torn" (.str t) (putF "_ahead" a (putF "_has_power" (.bl u) (putF "_whole_writes" (.int n) (putF "_cells" (.ref l) [])))) = mf l n u a t := by
  rw [show putF "_cells" (.ref l) [] = [(("_cells" : Str), V.ref l)] from rfl,
    show putF "_whole_writes" (.int n) [(("_cells" : Str), V.ref l)] = [(("_cells" : Str), V.ref l), ("_whole_writes", .int n)] from (put_past (by decide +kernel)).trans rfl,
    show putF "_has_power" (.bl u) [(("_cells" : Str), V.ref l), ("_whole_writes", .int n)] = [(("_cells" : Str), V.ref l), ("_whole_writes", .int n), ("_has_power", .bl u)] from (put_past (by decide +kernel)).trans (congrArg _ ((put_past (by decide +kernel)).trans rfl)),
    show putF "_ahead" a [(("_cells" : Str), V.ref l), ("_whole_writes", .int n), ("_has_power", .bl u)] = [(("_cells" : Str), V.ref l), ("_whole_writes", .int n), ("_has_power", .bl u), ("_ahead", a)] from (put_past (by decide +kernel)).trans (congrArg _ ((put_past (by decide +kernel)).trans (congrArg _ ((put_past (by decide +kernel)).trans rfl))))]
  exact (put_past (by decide +kernel)).trans (congrArg _ ((put_past (by decide +kernel)).trans (congrArg _ ((put_past (by decide +kernel)).trans (congrArg _ ((put_past (by decide +kernel)).trans rfl))))))
theorem mf_few : (mf l n u a t).length < 1000 := by
  show 5 < 1000
  decide
end
/-- a memory m stands at p, its cells in the list at l -/
structure MemAt (C p l : Addr) (m : Mem) (H : Hp) : Prop where
  ob : ∃ (dx : Addr) (a : V), H p = some (.ins C dx (mf l m.many m.up a m.torn)) ∧ (m.up = true → a = leftV m.left)
  ls : H l = some (.lst m.cells)
  cel : ∀ v ∈ m.cells, Dw.cel v = true
  len : m.cells.length ≤ 400
section
variable {C p l : Addr} {m : Mem} {H H' : Hp}
theorem MemAt.ne (M : MemAt C p l m H) : p ≠ l := by
  obtain ⟨dx, a, h, _⟩ := M.ob
  exact ne_of h M.ls (by intro z; cases z)
theorem MemAt.but {S : List Addr} (M : MemAt C p l m H) (k : But S H H') (hp : p ∉ S) (hl : l ∉ S) : MemAt C p l m H' := by
  obtain ⟨dx, a, h, e⟩ := M.ob
  exact ⟨⟨dx, a, k _ _ hp h, e⟩, k _ _ hl M.ls, M.cel, M.len⟩
theorem MemAt.butN {S : List Addr} (M : MemAt C p l m H) (k : ButN S H H') (hp : p ∉ S) (hl : l ∉ S) : MemAt C p l m H' := by
  obtain ⟨dx, a, h, e⟩ := M.ob
  exact ⟨⟨dx, a, k _ _ hp Dw.NT.ins h, e⟩, k _ _ hl Dw.NT.lst M.ls, M.cel, M.len⟩
theorem MemAt.mono (M : MemAt C p l m H) (k : Same H H') : MemAt C p l m H' := M.but (S := []) (But.same k) (by simp) (by simp)
theorem MemAt.at (M : MemAt C p l m H) {j : Nat} (h : j < m.cells.length) : ∃ v, m.cells[j]? = some v ∧ Dw.cel v = true :=
  ⟨m.cells[j], List.getElem?_eq_getElem h, M.cel _ (List.getElem_mem h)⟩
/-- its cells another list -/
theorem MemAt.setCells (M : MemAt C p l m H) {cs : List V} (hc : ∀ v ∈ cs, Dw.cel v = true) (hl : cs.length = m.cells.length) : MemAt C p l { m with cells := cs } (upd H l (.lst cs)) := by
  obtain ⟨dx, a, h, e⟩ := M.ob
  exact ⟨⟨dx, a, by rw [upd_ne M.ne]; exact h, e⟩, upd_same, hc, by show cs.length ≤ 400; rw [hl]; exact M.len⟩
theorem cel_set {cs : List V} {j : Nat} {v : V} (h : ∀ x ∈ cs, Dw.cel x = true) (hv : Dw.cel v = true) : ∀ x ∈ cs.set j v, Dw.cel x = true := fun x hx => by
  rcases List.mem_or_eq_of_mem_set hx with z | z
  · exact h x z
  · rw [z]
    exact hv
theorem cel_torn {t : Str} {cs : List V} {j : Nat} {v : Int} (h : ∀ x ∈ cs, Dw.cel x = true) : ∀ x ∈ tornTo t cs j v, Dw.cel x = true := by
  unfold tornTo
  split
  · exact cel_set h rfl
  · split
    · exact cel_set h rfl
    · exact h
end
/-- what calls that surely let nothing out ask -/
theorem passN {P : Program} {w : World} {X : Cx} : Passes (L2.CX P w) X E0 := fun _ _ _ _ _ _ _ h => by
  obtain ⟨_, _, _, _, _, _, _, _, _, _, _, _, z⟩ := h
  exact z.elim
theorem flat_rep {α : Type} (x : α) : ∀ n : Nat, (List.replicate n [x]).flatten = List.replicate n x
  | 0 => rfl
  | n + 1 => by
    rw [List.replicate_succ, List.flatten_cons, flat_rep x n]
    rfl
/-! ### what is promised of its methods -/
def spPlace (C : Addr) : Sp := fun vs H Q _ => ∃ (p l : Addr) (m : Mem) (j : Nat), vs = [.ref p, .int (j : Int)] ∧ MemAt C p l m H ∧ j < m.cells.length ∧ Q .non H
def spWorth : Sp := fun vs H Q _ => ∃ v : Int, vs = [.int v] ∧ 0 ≤ v ∧ v ≤ 9972 ∧ Q .non H
def spPower (C CS : Addr) : Sp := fun vs H Q E => ∃ (p l : Addr) (m : Mem), vs = [.ref p] ∧ MemAt C p l m H ∧ (m.up = true → Q .non H) ∧ (m.up = false → E (.ref CS) none H)
def spLose (C CS : Addr) : Sp := fun vs H Q E => ∃ (p l : Addr) (m : Mem) (j : Nat) (v : Int), vs = [.ref p, .int (j : Int), .int v] ∧ MemAt C p l m H ∧ j < m.cells.length ∧
  ∀ H', MemAt C p l ⟨tornTo m.torn m.cells j v, m.many, false, none, m.torn⟩ H' → But [p, l] H H' → E (.ref CS) none H'
def spWrite (C CS : Addr) : Sp := fun vs H Q E => ∃ (p l : Addr) (m : Mem) (j : Nat) (v : Int), vs = [.ref p, .int (j : Int), .int v] ∧ MemAt C p l m H ∧ j < m.cells.length ∧ 0 ≤ v ∧ v ≤ 9972 ∧
  ∀ H', MemAt C p l (m.write j v).1 H' → But [p, l] H H' → ((m.write j v).2 = true → Q .non H') ∧ ((m.write j v).2 = false → E (.ref CS) none H')
def spPut (K : PySem.W.Frag) (C CS : Addr) : Sp := fun vs H Q E => ∃ (p l b : Addr) (m : Mem) (j : Nat) (ws : List Int), vs = [.ref p, .int (j : Int), .ref b] ∧ MemAt C p l m H ∧ SqL K H b (ws.map V.int) ∧ b ≠ l ∧ j + ws.length ≤ m.cells.length ∧ (∀ v ∈ ws, 0 ≤ v ∧ v ≤ 9972) ∧
  ∀ H', MemAt C p l (m.put j ws).1 H' → But [p, l] H H' → (∀ n, (m.put j ws).2 = some n → Q (.int n) H') ∧ ((m.put j ws).2 = none → E (.ref CS) none H')
def spRead (C CS : Addr) : Sp := fun vs H Q E => ∃ (p l : Addr) (m : Mem) (j : Nat), vs = [.ref p, .int (j : Int)] ∧ MemAt C p l m H ∧ j < m.cells.length ∧ (m.up = true → ∀ v, m.cells[j]? = some v → Q v H) ∧ (m.up = false → E (.ref CS) none H)
def spRow (C CS : Addr) : Sp := fun vs H Q E => ∃ (p l : Addr) (m : Mem) (j n : Nat), vs = [.ref p, .int (j : Int), .int (n : Int)] ∧ MemAt C p l m H ∧ j + n ≤ m.cells.length ∧
  (m.up = true → ∀ H' c, Same H H' → H c = none → H' c = some (.lst ((m.cells.drop j).take n)) → Q (.ref c) H') ∧ (m.up = false → E (.ref CS) none H)
def spSpoil (C : Addr) : Sp := fun vs H Q _ => ∃ (p l : Addr) (m : Mem) (j : Nat) (x : V), vs = [.ref p, .int (j : Int), x] ∧ MemAt C p l m H ∧ j < m.cells.length ∧ (x = .non ∨ ∃ v, x = .int v ∧ 0 ≤ v ∧ v ≤ 9972) ∧
  ∀ H', MemAt C p l { m with cells := m.cells.set j x } H' → But [p, l] H H' → Q .non H'
def spCut (C : Addr) : Sp := fun vs H Q _ => ∃ (p l : Addr) (m : Mem) (k : Nat) (t : Str), vs = [.ref p, .int (k : Int), .str t] ∧ MemAt C p l m H ∧ k ≤ 100000 ∧ (t = "old" ∨ t = "broken" ∨ t = "new") ∧
  ∀ H', MemAt C p l { m with left := some k, torn := t } H' → But [p, l] H H' → Q .non H'
def spUp (C : Addr) : Sp := fun vs H Q _ => ∃ (p l : Addr) (m : Mem), vs = [.ref p] ∧ MemAt C p l m H ∧ ∀ H', MemAt C p l { m with up := true, left := none } H' → But [p, l] H H' → Q .non H'
def spCells (C : Addr) : Sp := fun vs H Q _ => ∃ (p l : Addr) (m : Mem), vs = [.ref p] ∧ MemAt C p l m H ∧ ∀ H' c, Same H H' → H c = none → H' c = some (.lst m.cells) → Q (.ref c) H'
def spWrites (C : Addr) : Sp := fun vs H Q _ => ∃ (p l : Addr) (m : Mem), vs = [.ref p] ∧ MemAt C p l m H ∧ Q (.int m.many) H
def spInit (C : Addr) : Sp := fun vs H Q _ => ∃ (p dx : Addr) (n : Nat), vs = [.ref p, .int (n : Int)] ∧ H p = some (.ins C dx []) ∧ 1 ≤ n ∧ n ≤ 400 ∧
  ∀ H' l, MemAt C p l ⟨List.replicate n (.int 0), 0, true, none, "old"⟩ H' → H l = none → But [p] H H' → Q .non H'
end Mm

set_option maxRecDepth 100000
set_option maxHeartbeats 4000000
/-! max(xs, default=None): a rule of our own -/
namespace Mx
open PySem PySem.Spec PyProof.Rows L2
theorem foldl_max : ∀ (ys : List Int) (y : Int), ys.foldl max y ∈ y :: ys ∧ ∀ z ∈ y :: ys, z ≤ ys.foldl max y
  | [], y => ⟨List.mem_cons_self, fun z h => by rw [List.mem_singleton.mp h]; exact Int.le_refl _⟩
  | x :: r, y => by
    obtain ⟨m, g⟩ := foldl_max r (max y x)
    refine ⟨?_, fun z hz => ?_⟩
    · rw [List.foldl_cons]
      rcases List.mem_cons.mp m with e | e
      · rw [e]
        rcases Int.le_total y x with h | h
        · rw [Int.max_eq_right h]
          exact List.mem_cons_of_mem _ List.mem_cons_self
        · rw [Int.max_eq_left h]
          exact List.mem_cons_self
      · exact List.mem_cons_of_mem _ (List.mem_cons_of_mem _ e)
    · rw [List.foldl_cons]
      have h0 := g (max y x) List.mem_cons_self
      rcases List.mem_cons.mp hz with e | e
      · rw [e]
        exact Int.le_trans (Int.le_max_left y x) h0
      · rcases List.mem_cons.mp e with e | e
        · rw [e]
          exact Int.le_trans (Int.le_max_right y x) h0
        · exact g z (List.mem_cons_of_mem _ e)
theorem depth_ints : ∀ (ns : List Int), PyData.depthAll (ns.map PyData.int) = 0
  | [] => by rw [List.map_nil, PyData.depthAll]
  | x :: r => by
    rw [List.map_cons, PyData.depthAll, depth_ints r, PyData.depth]
    rfl
theorem alike_ints (ns : List Int) : PySem.W.AlikeAll (ns.map PyData.int) := by
  refine ⟨fun x hx y hy => ?_, fun x hx => ?_⟩
  · obtain ⟨i, _, rfl⟩ := List.mem_map.mp hx
    obtain ⟨j, _, rfl⟩ := List.mem_map.mp hy
    rfl
  · obtain ⟨i, _, rfl⟩ := List.mem_map.mp hx
    intro z
    cases z
theorem dp_ints {K : PySem.W.Frag} {H : Hp} : ∀ (ns : List Int), DpAll K H (ns.map V.int) (ns.map PyData.int)
  | [] => .nil
  | x :: r => .cons (.int x) (dp_ints r)
def rMaxDf (K : PySem.W.Frag) : List V → List V → Hp → VK → Prop := fun vs zs H Q => ∃ (a : Addr) (ns : List Int), vs = [V.ref a] ∧ zs = [.non] ∧ SqL K H a (ns.map V.int) ∧
  (ns = [] → Q .non H) ∧ ∀ m, m ∈ ns → (∀ y, y ∈ ns → y ≤ m) → Q (.int m) H
theorem cr_maxDf {X : Cx} (hc : X.calm = true) (hu : X.A.units + 64 < cLine) : CallRK X (.builtin "max") [Str.ofString "default"] (rMaxDf X.K) := by
  intro pins s σ H vs zs us ws Q I r rz h
  obtain ⟨a, ns, rfl, rfl, hs, q0, q⟩ := h
  obtain rfl := Vals.ref1 r
  obtain ⟨w1, rfl, e1⟩ := vals1 rz
  obtain rfl : w1 = Value.none := e1
  obtain ⟨its, rv, hl, hz⟩ := I.list hs
  obtain ⟨as, hr⟩ := Dp.readsAll I (ns.map PyData.int) (ns.map V.int) its (dp_ints ns) rv
  refine PySem.W.max_list_default (I.ok.hd hc) hl.isList (xs := ns.map PyData.int) (as := as) (by simpa using hr) (alike_ints ns) (by rw [depth_ints]; omega) (fun e h' tk hk => ?_) (fun y ys i v h' tk bs e hv rd hk => ?_)
  · exact ⟨.non, H, I.kept hk, rfl, q0 (by cases ns with | nil => rfl | cons x t => cases e)⟩
  · cases ns with
    | nil => cases e
    | cons x t =>
      rw [List.map_cons] at e
      injection e with e1 e2
      subst e1 e2
      rw [PySem.W.maxD_ints] at rd
      obtain ⟨m, g⟩ := foldl_max t x
      generalize t.foldl max x = M at rd m g
      cases rd with
      | int i tt => exact ⟨.int _, H, I.kept hk, ⟨_, rfl⟩, q M m g⟩
/-- x not in (a, b, ..), deep -/
def rNotInDT (K : PySem.W.Frag) : R2 := fun x y H Q => ∃ d ds, Dp K H x d ∧ Dp K H y (.tuple ds) ∧ SeqAt.shaped d = true ∧ SeqAt.shaped (.tuple ds) = true ∧ Q (.bl (!ds.any fun z => PyData.eqv z d)) H
theorem op_notInDT {X : Cx} {k : Nat} (hr : Room k X.A) : OpR X (compareOp .NotIn) (rNotInDT X.K) := by
  intro pins s σ H x y v u Q I rx ry h
  obtain ⟨d, ds, hd, he, sd, se, q⟩ := h
  obtain ⟨as, r1⟩ := Dp.reads I d x v hd rx
  obtain ⟨bs, r2⟩ := Dp.reads I (.tuple ds) y u he ry
  exact SeqAt.notIn_tuple_reads r2 r1 (SeqAt.canLay_of_shaped se) (SeqAt.canLay_of_shaped sd) (room_in_shaped sd (by have := hr.un; omega)) ⟨.bl _, H, I, rfl, q⟩
end Mx

set_option maxRecDepth 100000
set_option maxHeartbeats 4000000
/-! counters: what two cells tell; what is promised of count and raise_to -/
namespace Ct
open PySem PySem.Spec PyProof.Rows L2
/-- a cell of a memory: broken, or a number that a cell can hold -/
def okc (v : V) : Prop := v = .non ∨ ∃ x : Int, v = .int x ∧ 0 ≤ x ∧ x ≤ 9972
theorem okc.cel {v : V} (h : okc v) : Dw.cel v = true := by
  rcases h with rfl | ⟨x, rfl, _⟩ <;> rfl
def rk : V → Int
  | .int i => i
  | _ => -1
theorem rk_lo {v : V} (h : okc v) : -1 ≤ rk v := by
  rcases h with rfl | ⟨x, rfl, h0, _⟩
  · exact Int.le_refl _
  · show -1 ≤ x
    omega
/-- a number as a counter tells it -/
def numV (t : Int) : V := if t < 0 then .non else .int t
def top (x y : V) : Int := if rk x ≤ rk y then rk y else rk x
def cntV (x y : V) : V := numV (top x y)
/-- the numbers of a row that are there -/
def whole : List V → List Int
  | [] => []
  | .int i :: r => i :: whole r
  | _ :: r => whole r
theorem whole_app : ∀ (xs ys : List V), whole (xs ++ ys) = whole xs ++ whole ys
  | [], _ => rfl
  | .int i :: r, ys => congrArg (i :: ·) (whole_app r ys)
  | .non :: r, ys => whole_app r ys
  | .bl _ :: r, ys => whole_app r ys
  | .str _ :: r, ys => whole_app r ys
  | .byt _ :: r, ys => whole_app r ys
  | .flt _ :: r, ys => whole_app r ys
  | .ref _ :: r, ys => whole_app r ys
  | .ty _ :: r, ys => whole_app r ys
theorem whole_len : ∀ (xs : List V), (whole xs).length ≤ xs.length
  | [] => Nat.le_refl _
  | .int i :: r => Nat.succ_le_succ (whole_len r)
  | .non :: r => Nat.le_succ_of_le (whole_len r)
  | .bl _ :: r => Nat.le_succ_of_le (whole_len r)
  | .str _ :: r => Nat.le_succ_of_le (whole_len r)
  | .byt _ :: r => Nat.le_succ_of_le (whole_len r)
  | .flt _ :: r => Nat.le_succ_of_le (whole_len r)
  | .ref _ :: r => Nat.le_succ_of_le (whole_len r)
  | .ty _ :: r => Nat.le_succ_of_le (whole_len r)
/-- the greatest of two cells' numbers -/
theorem whole_nil {x y : V} (hx : okc x) (hy : okc y) (h : whole [x, y] = []) : cntV x y = .non := by
  rcases hx with rfl | ⟨i, rfl, i0, _⟩ <;> rcases hy with rfl | ⟨j, rfl, j0, _⟩
  · rfl
  · cases h
  · cases h
  · cases h
theorem numV_pos {t : Int} (h : 0 ≤ t) : numV t = .int t := if_neg (by omega)
theorem numV_neg {t : Int} (h : t < 0) : numV t = .non := if_pos h
theorem top_le {x y : V} (h : rk x ≤ rk y) : top x y = rk y := if_pos h
theorem top_gt {x y : V} (h : ¬ rk x ≤ rk y) : top x y = rk x := if_neg h
theorem whole_max {x y : V} (hx : okc x) (hy : okc y) {m : Int} (h : m ∈ whole [x, y]) (g : ∀ z, z ∈ whole [x, y] → z ≤ m) : cntV x y = .int m := by
  show numV (top x y) = _
  rcases hx with rfl | ⟨i, rfl, i0, _⟩ <;> rcases hy with rfl | ⟨j, rfl, j0, _⟩
  · cases h
  · have e : m = j := List.mem_singleton.mp h
    subst e
    rw [top_le (by show (-1 : Int) ≤ m; omega)]
    exact numV_pos j0
  · have e : m = i := List.mem_singleton.mp h
    subst e
    rw [top_gt (by show ¬ m ≤ (-1 : Int); omega)]
    exact numV_pos i0
  · have g1 := g i List.mem_cons_self
    have g2 := g j (List.mem_cons_of_mem _ List.mem_cons_self)
    rcases List.mem_cons.mp h with e | e
    · subst e
      by_cases z : m ≤ j
      · have : m = j := by omega
        subst this
        rw [top_le (by exact Int.le_refl _)]
        exact numV_pos j0
      · rw [top_gt (by exact z)]
        exact numV_pos i0
    · have e := List.mem_singleton.mp e
      subst e
      rw [top_le (by exact g1)]
      exact numV_pos j0
theorem top_lo {x y : V} (hx : okc x) (hy : okc y) : -1 ≤ top x y := by
  have := rk_lo hx
  have := rk_lo hy
  unfold top
  split <;> omega
theorem rk_hi {v : V} (h : okc v) : rk v ≤ 9972 := by
  rcases h with rfl | ⟨x, rfl, _, h1⟩
  · show (-1 : Int) ≤ 9972
    decide
  · exact h1
theorem top_hi {x y : V} (hx : okc x) (hy : okc y) : top x y ≤ 9972 := by
  have := rk_hi hx
  have := rk_hi hy
  unfold top
  split <;> omega
theorem cut2 {cs : List V} {j : Nat} {x y : V} (hx : cs[j]? = some x) (hy : cs[j + 1]? = some y) : (cs.drop j).take 2 = [x, y] := by
  rw [show (2 : Nat) = 0 + 1 + 1 from rfl, List.take_add_one, List.take_add_one, List.take_zero, List.getElem?_drop, List.getElem?_drop]
  rw [show j + 0 = j from rfl, show j + (0 + 1) = j + 1 from rfl, hx, hy]
  rfl
theorem cutV2 {cs : List V} {j : Nat} {x y : V} {hi : Int} (hh : hi = (j : Int) + 2) (hx : cs[j]? = some x) (hy : cs[j + 1]? = some y) : cutV cs (some (j : Int)) (some hi) = [x, y] := by
  have l := (List.getElem?_eq_some_iff.mp hy).1
  have e : hi = ((j + 2 : Nat) : Int) := by omega
  subst e
  unfold cutV
  rw [HT.sIx_nat, HT.sIx_nat, Nat.min_eq_left (by omega), Nat.min_eq_left (by omega), show j + 2 - j = 2 by omega]
  exact cut2 hx hy
theorem take_next {xs : List V} {i : Nat} {x : V} (h : xs[i]? = some x) : xs.take (i + 1) = xs.take i ++ [x] := by
  rw [List.take_add_one, h]
  rfl
theorem okc2 {x y z : V} (hx : okc x) (hy : okc y) {i : Nat} (h : [x, y][i]? = some z) : okc z := by
  rcases List.mem_cons.mp (List.mem_of_getElem? h) with e | e
  · rw [e]
    exact hx
  · rw [List.mem_singleton.mp e]
    exact hy
theorem numV_cel (t : Int) : Dw.cel (numV t) = true := by
  unfold numV
  split <;> rfl
/-- here or 0 -/
theorem or_num (K : PySem.W.Frag) (H : Hp) (x y : V) (hx : okc x) (hy : okc y) : ∃ (k : Bool) (z : Int), TruV K (cntV x y) H k ∧ 0 ≤ z ∧ z ≤ 9972 ∧ (k = true → cntV x y = .int z) ∧ (k = false → z = 0) := by
  have h1 := top_lo hx hy
  have h2 := top_hi hx hy
  by_cases h : top x y < 0
  · exact ⟨false, 0, by rw [show cntV x y = .non from numV_neg h]; rfl, by decide, by decide, fun z => (by cases z), fun _ => rfl⟩
  · have e : cntV x y = .int (top x y) := numV_pos (by omega)
    by_cases h0 : top x y = 0
    · exact ⟨false, 0, by rw [e, h0]; rfl, by decide, by decide, fun z => (by cases z), fun _ => rfl⟩
    · refine ⟨true, top x y, ?_, by omega, h2, fun _ => e, fun z => by cases z⟩
      rw [e]
      show true = (top x y != 0)
      simp [h0]
/-- which of both cells a raising writes -/
def less (x y : V) (j : Nat) : Nat := if rk x ≤ rk y then j else j + 1
/-- what a raising makes of the cells, of the count of writes, and what it tells -/
def rcs (x y : V) (j : Nat) (cs : List V) (v : Int) : List V := if v ≤ top x y then cs else cs.set (less x y j) (.int v)
def rn (x y : V) (n : Nat) (v : Int) : Nat := if v ≤ top x y then n else n + 1
def rb (x y : V) (v : Int) : Bool := !decide (v ≤ top x y)
/-- what is promised of the look at what is handed in -/
def spHanded (K : PySem.W.Frag) (C : Addr) : Sp := fun vs H Q _ => ∃ (p l b : Addr) (m : Mm.Mem) (j n : Nat) (ws : List Int), vs = [.ref p, .int (j : Int), .int (n : Int), .ref b] ∧ Mm.MemAt C p l m H ∧ SqL K H b (ws.map V.int) ∧ j + n ≤ m.cells.length ∧ (∀ v ∈ ws, 0 ≤ v ∧ v ≤ 9972) ∧ ∀ H', Same H H' → Q .non H'
def spHandedT (K : PySem.W.Frag) (C : Addr) : Sp := fun vs H Q _ => ∃ (p l b : Addr) (m : Mm.Mem) (j n : Nat) (ws : List Int), vs = [.ref p, .int (j : Int), .int (n : Int), .ref b] ∧ Mm.MemAt C p l m H ∧ SqT K H b (ws.map V.int) ∧ j + n ≤ m.cells.length ∧ (∀ v ∈ ws, 0 ≤ v ∧ v ≤ 9972) ∧ ∀ H', Same H H' → Q .non H'
def spRank : Sp := fun vs H Q _ => ∃ x : V, vs = [x] ∧ okc x ∧ Q (.int (rk x)) H
def spCount (C CS : Addr) : Sp := fun vs H Q E => ∃ (p l : Addr) (m : Mm.Mem) (j : Nat) (x y : V), vs = [.ref p, .int (j : Int)] ∧ Mm.MemAt C p l m H ∧ m.cells[j]? = some x ∧ m.cells[j + 1]? = some y ∧ okc x ∧ okc y ∧
  (m.up = true → ∀ H', Same H H' → Q (cntV x y) H') ∧ (m.up = false → E (.ref CS) none H)
/-- a counter raised -/
def raise (m : Mm.Mem) (x y : V) (j : Nat) (v : Int) : Mm.Mem × Option Bool :=
  if m.up = true then (if v ≤ top x y then (m, some false) else ((m.write (less x y j) v).1, if (m.write (less x y j) v).2 = true then some true else none)) else (m, none)
def spRaise (C CS : Addr) : Sp := fun vs H Q E => ∃ (p l : Addr) (m : Mm.Mem) (j : Nat) (v : Int) (x y : V), vs = [.ref p, .int (j : Int), .int v] ∧ Mm.MemAt C p l m H ∧ m.cells[j]? = some x ∧ m.cells[j + 1]? = some y ∧ okc x ∧ okc y ∧ 0 ≤ v ∧ v ≤ 9972 ∧
  ∀ H', Mm.MemAt C p l (raise m x y j v).1 H' → Mm.But [p, l] H H' → (∀ b, (raise m x y j v).2 = some b → Q (.bl b) H') ∧ ((raise m x y j v).2 = none → E (.ref CS) none H')
theorem Dr_ne_cells {K : PySem.W.Frag} {H0 : Hp} {ns : List Int} {a r b : Addr} {H : Hp} {cs : List V} (D : Dw.Dr K H0 ns a r H) (hc : ∀ v ∈ cs, Dw.cel v = true) (h : H b = some (.lst cs)) : b ≠ r := by
  obtain ⟨_, _, _, e, _⟩ := D.row
  refine ne_of h e fun z => ?_
  injection z with z
  have := hc (.ref a) (by rw [z]; exact List.mem_cons_self)
  cases this
/-- a law's memory, and the row that it draws with -/
structure Lw (K : PySem.W.Frag) (H0 : Hp) (ns : List Int) (sa r C p l : Addr) (m : Mm.Mem) (H : Hp) : Prop where
  dr : Dw.Dr K H0 ns sa r H
  me : Mm.MemAt C p l m H
  ok : ∀ v ∈ m.cells, okc v
  fp : Dw.Fr0 H0 p
  fl : Dw.Fr0 H0 l
section
variable {K : PySem.W.Frag} {H0 : Hp} {ns : List Int} {sa r C p l : Addr} {m m' : Mm.Mem} {H H' : Hp}
theorem Lw.npr (I : Lw K H0 ns sa r C p l m H) : p ≠ r := by
  obtain ⟨_, _, _, e, _⟩ := I.dr.row
  obtain ⟨_, _, h, _⟩ := I.me.ob
  exact ne_of h e (by intro z; cases z)
theorem Lw.nlr (I : Lw K H0 ns sa r C p l m H) : l ≠ r := Dr_ne_cells I.dr I.me.cel I.me.ls
theorem Lw.mono (I : Lw K H0 ns sa r C p l m H) (s : Same H H') : Lw K H0 ns sa r C p l m H' := ⟨I.dr.mono s, I.me.mono s, I.ok, I.fp, I.fl⟩
theorem Lw.keep (I : Lw K H0 ns sa r C p l m H) (D : Dw.Dr K H0 ns sa r H') (k : Dw.Keep r H H') : Lw K H0 ns sa r C p l m H' :=
  ⟨D, I.me.but (S := [r]) (fun b o n h => k b o (fun z => n (by rw [z]; exact List.mem_cons_self)) h) (fun z => I.npr (List.mem_singleton.mp z)) (fun z => I.nlr (List.mem_singleton.mp z)), I.ok, I.fp, I.fl⟩
theorem Lw.run (I : Lw K H0 ns sa r C p l m H) (M : Mm.MemAt C p l m' H') (k : Mm.But [p, l] H H') (ok : ∀ v ∈ m'.cells, okc v) : Lw K H0 ns sa r C p l m' H' :=
  ⟨I.dr.but k.n (by simp [I.npr.symm, I.nlr.symm]) (fun b hb => by
    simp only [List.mem_cons, List.not_mem_nil, or_false] at hb
    rcases hb with rfl | rfl
    · exact I.fp
    · exact I.fl), M, ok, I.fp, I.fl⟩
theorem Lw.mut {c : Addr} {o : HO} (I : Lw K H0 ns sa r C p l m H) (n1 : c ≠ r) (n2 : c ≠ p) (n3 : c ≠ l) (f : Dw.Fr0 H0 c) : Lw K H0 ns sa r C p l m (upd H c o) :=
  ⟨I.dr.mut n1 f, I.me.but (S := [c]) (Mm.But.upd List.mem_cons_self) (by simp [n2.symm]) (by simp [n3.symm]), I.ok, I.fp, I.fl⟩
theorem Lw.at (I : Lw K H0 ns sa r C p l m H) {j : Nat} (h : j < m.cells.length) : ∃ v, m.cells[j]? = some v ∧ okc v := ⟨m.cells[j], List.getElem?_eq_getElem h, I.ok _ (List.getElem_mem h)⟩
end
theorem ok_set {cs : List V} {j : Nat} {v : V} (h : ∀ x ∈ cs, okc x) (hv : okc v) : ∀ x ∈ cs.set j v, okc x := fun x hx => by
  rcases List.mem_or_eq_of_mem_set hx with z | z
  · exact h x z
  · rw [z]
    exact hv
theorem ok_torn {t : Str} {cs : List V} {j : Nat} {v : Int} (h : ∀ x ∈ cs, okc x) (v0 : 0 ≤ v) (v1 : v ≤ 9972) : ∀ x ∈ Mm.tornTo t cs j v, okc x := by
  unfold Mm.tornTo
  split
  · exact ok_set h (.inl rfl)
  · split
    · exact ok_set h (.inr ⟨v, rfl, v0, v1⟩)
    · exact h
theorem ok_write {m : Mm.Mem} {j : Nat} {v : Int} (h : ∀ x ∈ m.cells, okc x) (v0 : 0 ≤ v) (v1 : v ≤ 9972) : ∀ x ∈ (m.write j v).1.cells, okc x := by
  by_cases hu : m.up = true
  · by_cases h0 : m.left = some 0
    · rw [Mm.write_cut hu h0]
      exact ok_torn h v0 v1
    · rw [Mm.write_ok hu h0]
      exact ok_set h (.inr ⟨v, rfl, v0, v1⟩)
  · rw [Mm.write_down (Bool.eq_false_iff.mpr hu)]
    exact h
theorem ok_rep (n : Nat) : ∀ x ∈ List.replicate n (V.int 0), okc x := fun x hx => by
  rw [List.eq_of_mem_replicate hx]
  exact .inr ⟨0, rfl, by decide, by decide⟩
/-- writes all done, in a memory that has power and no cut due -/
theorem write_free {m : Mm.Mem} {j : Nat} {v : Int} (hu : m.up = true) (hl : m.left = none) : m.write j v = (⟨m.cells.set j (.int v), m.many + 1, true, none, m.torn⟩, true) := by
  rw [Mm.write_ok hu (by rw [hl]; intro z; cases z), hl]
  rfl
theorem raise_free {cs : List V} {n : Int} {t : Str} {x y : V} {j : Nat} {v : Int} : raise ⟨cs, n, true, none, t⟩ x y j v = (⟨rcs x y j cs v, if v ≤ top x y then n else n + 1, true, none, t⟩, some (rb x y v)) := by
  unfold raise rcs rb
  rw [if_pos rfl]
  by_cases h : v ≤ top x y
  · rw [if_pos h, if_pos h, if_pos h, decide_eq_true h]
    rfl
  · rw [if_neg h, if_neg h, if_neg h, decide_eq_false h, write_free rfl rfl]
    rfl
theorem rcs_len {x y : V} {j : Nat} {cs : List V} {v : Int} : (rcs x y j cs v).length = cs.length := by
  unfold rcs
  split
  · rfl
  · exact List.length_set
theorem rcs_ok {x y : V} {j : Nat} {cs : List V} {v : Int} (h : ∀ z ∈ cs, okc z) (v0 : 0 ≤ v) (v1 : v ≤ 9972) : ∀ z ∈ rcs x y j cs v, okc z := by
  unfold rcs
  split
  · exact h
  · exact ok_set h (.inr ⟨v, rfl, v0, v1⟩)
/-- a number for a cell, or None -/
theorem at_cell {w t u : Int} (w0 : 0 ≤ w) (w1 : w < 9973) (t0 : 0 ≤ t) (t1 : t < 3) (u0 : 0 ≤ u) (u1 : u < 3) : ∃ x : V, atI [V.int w, V.int t, V.non] u = some x ∧ okc x := by
  have e : u = 0 ∨ u = 1 ∨ u = 2 := by omega
  rcases e with rfl | rfl | rfl
  · exact ⟨_, rfl, .inr ⟨w, rfl, w0, by omega⟩⟩
  · exact ⟨_, rfl, .inr ⟨t, rfl, t0, by omega⟩⟩
  · exact ⟨_, rfl, .inl rfl⟩
theorem at_two {w t u : Int} (u0 : 0 ≤ u) (u1 : u < 2) : ∃ x : Int, atI [V.int w, V.int t] u = some (.int x) ∧ (x = w ∨ x = t) := by
  have e : u = 0 ∨ u = 1 := by omega
  rcases e with rfl | rfl
  · exact ⟨_, rfl, .inl rfl⟩
  · exact ⟨_, rfl, .inr rfl⟩
theorem dep_c {v : V} (h : Dw.cel v = true) : (Dw.dat v).depth < 5 := by
  rw [(Dw.lay_dat h).2]
  decide
theorem td_cel {H : Hp} : ∀ {v : V}, Dw.cel v = true → Dw.Td H v (Dw.dat v)
  | .int i, _ => .int i
  | .non, _ => .non
end Ct

set_option maxRecDepth 100000
set_option maxHeartbeats 4000000
/-! books: pages, records, the writes of a noting -/
namespace Bk
open PySem PySem.Spec PyProof.Rows L2
/-! ### writes one behind the other -/
def setW (cs : List V) (w : Nat × Int) : List V := cs.set w.1 (.int w.2)
def setAll (cs : List V) (ws : List (Nat × Int)) : List V := ws.foldl setW cs
def wrs : Mm.Mem → List (Nat × Int) → Mm.Mem × Bool
  | m, [] => (m, true)
  | m, w :: r => if (m.write w.1 w.2).2 = true then wrs (m.write w.1 w.2).1 r else ((m.write w.1 w.2).1, false)
theorem wrs_cons {m : Mm.Mem} {w : Nat × Int} {r : List (Nat × Int)} : wrs m (w :: r) = if (m.write w.1 w.2).2 = true then wrs (m.write w.1 w.2).1 r else ((m.write w.1 w.2).1, false) := rfl
theorem wrs_len : ∀ (ws : List (Nat × Int)) (m : Mm.Mem), (wrs m ws).1.cells.length = m.cells.length
  | [], _ => rfl
  | w :: r, m => by
    rw [wrs_cons]
    split
    · rw [wrs_len r, Mm.write_len]
    · exact Mm.write_len _ _ _
theorem wrs_down : ∀ {ws : List (Nat × Int)} {m : Mm.Mem}, m.up = false → ws ≠ [] → wrs m ws = (m, false)
  | [], _, _, h => absurd rfl h
  | w :: r, m, hu, _ => by
    rw [wrs_cons, Mm.write_down hu]
    rfl
theorem setAll_len : ∀ (ws : List (Nat × Int)) (cs : List V), (setAll cs ws).length = cs.length
  | [], _ => rfl
  | w :: r, cs => by
    show (setAll (setW cs w) r).length = _
    rw [setAll_len r]
    exact List.length_set
theorem setAll_ok : ∀ (ws : List (Nat × Int)) (cs : List V), (∀ v ∈ cs, Ct.okc v) → (∀ w ∈ ws, 0 ≤ w.2 ∧ w.2 ≤ 9972) → ∀ v ∈ setAll cs ws, Ct.okc v
  | [], _, h, _ => h
  | w :: r, cs, h, hw => setAll_ok r (setW cs w) (Ct.ok_set h (.inr ⟨w.2, rfl, (hw w List.mem_cons_self).1, (hw w List.mem_cons_self).2⟩)) fun u hu => hw u (List.mem_cons_of_mem _ hu)
theorem wrs_ok : ∀ (ws : List (Nat × Int)) (m : Mm.Mem), (∀ v ∈ m.cells, Ct.okc v) → (∀ w ∈ ws, 0 ≤ w.2 ∧ w.2 ≤ 9972) → ∀ v ∈ (wrs m ws).1.cells, Ct.okc v
  | [], _, h, _ => h
  | w :: r, m, h, hw => by
    obtain ⟨h0, h1⟩ := hw w List.mem_cons_self
    rw [wrs_cons]
    split
    · exact wrs_ok r _ (Ct.ok_write h h0 h1) fun u hu => hw u (List.mem_cons_of_mem _ hu)
    · exact Ct.ok_write h h0 h1
theorem wrs_free : ∀ (ws : List (Nat × Int)) (cs : List V) (n : Int) (t : Str), wrs ⟨cs, n, true, none, t⟩ ws = (⟨setAll cs ws, n + (ws.length : Nat), true, none, t⟩, true)
  | [], cs, n, t => by
    show (_, _) = (_, _)
    rw [show n + (([] : List (Nat × Int)).length : Nat) = n from Int.add_zero n]
    rfl
  | w :: r, cs, n, t => by
    rw [wrs_cons, Ct.write_free rfl rfl, if_pos rfl, wrs_free r]
    rw [show n + 1 + (r.length : Nat) = n + ((w :: r).length : Nat) by rw [List.length_cons]; omega]
    rfl
theorem wrs_late : ∀ (ws : List (Nat × Int)) (cs : List V) (n : Int) (t : Str) (k : Nat), ws.length ≤ k → wrs ⟨cs, n, true, some k, t⟩ ws = (⟨setAll cs ws, n + (ws.length : Nat), true, some (k - ws.length), t⟩, true)
  | [], cs, n, t, k, _ => by
    show (_, _) = (_, _)
    rw [show n + (([] : List (Nat × Int)).length : Nat) = n from Int.add_zero n]
    rfl
  | w :: r, cs, n, t, k, h => by
    rw [List.length_cons] at h
    rw [wrs_cons, Mm.write_ok rfl (by intro z; injection z with z; omega), if_pos rfl]
    have ih := wrs_late r (cs.set w.1 (.int w.2)) (n + 1) t (k - 1) (by omega)
    show wrs ⟨cs.set w.1 (.int w.2), n + 1, true, some (k - 1), t⟩ r = _
    rw [ih, show n + 1 + (r.length : Nat) = n + ((w :: r).length : Nat) by rw [List.length_cons]; omega, show k - 1 - r.length = k - (w :: r).length by rw [List.length_cons]; omega]
    rfl
theorem wrs_cut : ∀ (ws : List (Nat × Int)) (cs : List V) (n : Int) (t : Str) (k : Nat) (w : Nat × Int), ws[k]? = some w → wrs ⟨cs, n, true, some k, t⟩ ws = (⟨Mm.tornTo t (setAll cs (ws.take k)) w.1 w.2, n + (k : Nat), false, none, t⟩, false)
  | [], _, _, _, _, _, h => by simp at h
  | u :: r, cs, n, t, 0, w, h => by
    have e : u = w := Option.some.inj h
    subst e
    rw [wrs_cons, Mm.write_cut rfl rfl, if_neg (by intro z; cases z)]
    rw [show n + ((0 : Nat) : Int) = n from Int.add_zero n]
    rfl
  | u :: r, cs, n, t, k + 1, w, h => by
    rw [wrs_cons, Mm.write_ok rfl (by intro z; injection z with z; omega), if_pos rfl]
    have ih := wrs_cut r (cs.set u.1 (.int u.2)) (n + 1) t k w (by simpa using h)
    show wrs ⟨cs.set u.1 (.int u.2), n + 1, true, some k, t⟩ r = _
    rw [ih, show n + 1 + (k : Nat) = n + ((k + 1 : Nat) : Int) by omega]
    rfl
/-! ### pages -/
/-- a page's number, 0 if it is none -/
def pgN : List V → Int
  | [.int a, .int b, .int c, .int d, .int e, .int f] => if Sm.sumsI [a, b, c, d] = (e, f) then a else 0
  | _ => 0
def pgR : List V → Int × Int × Int
  | [_, .int b, .int c, .int d, _, _] => (b, c, d)
  | _ => (0, 0, 0)
def pg (cs : List V) (j : Nat) : List V := (cs.drop j).take 6
/-- the page with the greatest number: number and record -/
def newest (p q : List V) : Option (Nat × Int × Int × Int × Int) :=
  if pgN p = 0 ∧ pgN q = 0 then none else if pgN q ≤ pgN p then some (0, pgN p, pgR p) else some (1, pgN q, pgR q)
def recO (p q : List V) : Option (Int × Int × Int) := (newest p q).map fun x => x.2.2
/-- which page a noting writes -/
def pw (p q : List V) : Nat := if pgN p = 0 ∧ pgN q = 0 then 0 else if pgN q ≤ pgN p then 1 else 0
/-- its number -/
def nn (p q : List V) : Int := 1 + (if pgN p ≤ pgN q then pgN q else pgN p)
/-- the writes of a noting -/
def noteW (f : Nat) (n b c d : Int) : List (Nat × Int) := [(f, 0), (f + 1, b), (f + 2, c), (f + 3, d), (f + 4, (Sm.sumsI [n, b, c, d]).1), (f + 5, (Sm.sumsI [n, b, c, d]).2), (f, n)]
theorem pgN_lo {p : List V} (h : ∀ v ∈ p, Ct.okc v) : 0 ≤ pgN p := by
  unfold pgN
  split
  · split
    · rcases h _ List.mem_cons_self with z | ⟨x, z, h0, _⟩
      · cases z
      · injection z with z
        subst z
        exact h0
    · exact Int.le_refl _
  · exact Int.le_refl _
theorem pgN_hi {p : List V} (h : ∀ v ∈ p, Ct.okc v) : pgN p ≤ 9972 := by
  unfold pgN
  split
  · split
    · rcases h _ List.mem_cons_self with z | ⟨x, z, _, h1⟩
      · cases z
      · injection z with z
        subst z
        exact h1
    · decide
  · decide
theorem pgN_zero {r : List V} : pgN (.int 0 :: r) = 0 := by
  unfold pgN
  split
  · rename_i h
    injection h with h _
    injection h with h
    subst h
    exact ite_self _
  · rfl
theorem pgN_non {r : List V} : pgN (.non :: r) = 0 := by
  unfold pgN
  split
  · rename_i h
    injection h with h _
    cases h
  · rfl
theorem pgN_of {a b c d e f : Int} (h : Sm.sumsI [a, b, c, d] = (e, f)) : pgN [.int a, .int b, .int c, .int d, .int e, .int f] = a := if_pos h
theorem pgN_not {a b c d e f : Int} (h : ¬ Sm.sumsI [a, b, c, d] = (e, f)) : pgN [.int a, .int b, .int c, .int d, .int e, .int f] = 0 := if_neg h
/-- a page with a broken cell is none -/
theorem pgN_broken {p : List V} (h : V.non ∈ p) : pgN p = 0 := by
  unfold pgN
  split
  · simp at h
  · rfl
theorem pg_len {cs : List V} {j : Nat} (h : j + 6 ≤ cs.length) : (pg cs j).length = 6 := by
  unfold pg
  rw [List.length_take, List.length_drop]
  omega
theorem pg_mem {cs : List V} {j : Nat} {v : V} (h : v ∈ pg cs j) : v ∈ cs := List.mem_of_mem_drop (List.mem_of_mem_take h)
theorem pg_at {cs : List V} {j k : Nat} (h : k < 6) : (pg cs j)[k]? = cs[j + k]? := by
  unfold pg
  rw [List.getElem?_take, if_pos h, List.getElem?_drop]
theorem pg_in {cs : List V} {j k : Nat} {v : V} (h : k < 6) : pg (cs.set (j + k) v) j = (pg cs j).set k v := by
  refine List.ext_getElem? fun i => ?_
  by_cases hi : i < 6
  · rw [pg_at hi, List.getElem?_set, List.getElem?_set, pg_at hi]
    by_cases e : k = i
    · subst e
      rw [if_pos rfl, if_pos rfl]
      unfold pg
      rw [List.length_take, List.length_drop]
      by_cases l : j + k < cs.length
      · rw [if_pos l, if_pos (by omega)]
      · rw [if_neg l, if_neg (by omega)]
    · rw [if_neg (by omega), if_neg e]
  · rw [List.getElem?_eq_none (by unfold pg; rw [List.length_take]; omega), List.getElem?_eq_none (by rw [List.length_set]; unfold pg; rw [List.length_take]; omega)]
theorem pg_out {cs : List V} {i j : Nat} {v : V} (h : i < j ∨ j + 6 ≤ i) : pg (cs.set i v) j = pg cs j := by
  refine List.ext_getElem? fun k => ?_
  by_cases hk : k < 6
  · rw [pg_at hk, pg_at hk, List.getElem?_set_ne (by omega)]
  · rw [List.getElem?_eq_none (by unfold pg; rw [List.length_take]; omega), List.getElem?_eq_none (by unfold pg; rw [List.length_take]; omega)]
theorem six : ∀ {p : List V}, p.length = 6 → ∃ a b c d e f, p = [a, b, c, d, e, f]
  | [a, b, c, d, e, f], _ => ⟨a, b, c, d, e, f, rfl⟩
  | [], h => by cases h
  | [_], h => by cases h
  | [_, _], h => by cases h
  | [_, _, _], h => by cases h
  | [_, _, _, _], h => by cases h
  | [_, _, _, _, _], h => by cases h
  | _ :: _ :: _ :: _ :: _ :: _ :: _ :: _, h => by simp at h
/-- writes within a page -/
theorem pg_all_in {j : Nat} : ∀ (rs : List (Nat × Int)) (cs : List V), (∀ w ∈ rs, w.1 < 6) → pg (setAll cs (rs.map fun w => (j + w.1, w.2))) j = setAll (pg cs j) rs
  | [], _, _ => rfl
  | w :: r, cs, h => by
    show pg (setAll (cs.set (j + w.1) (.int w.2)) (r.map fun w => (j + w.1, w.2))) j = setAll ((pg cs j).set w.1 (.int w.2)) r
    rw [pg_all_in r _ fun u hu => h u (List.mem_cons_of_mem _ hu), pg_in (h w List.mem_cons_self)]
theorem pg_all_out {i j : Nat} (hij : i + 6 ≤ j ∨ j + 6 ≤ i) : ∀ (rs : List (Nat × Int)) (cs : List V), (∀ w ∈ rs, w.1 < 6) → pg (setAll cs (rs.map fun w => (i + w.1, w.2))) j = pg cs j
  | [], _, _ => rfl
  | w :: r, cs, h => by
    have hw := h w List.mem_cons_self
    show pg (setAll (cs.set (i + w.1) (.int w.2)) (r.map fun w => (i + w.1, w.2))) j = pg cs j
    rw [pg_all_out hij r _ fun u hu => h u (List.mem_cons_of_mem _ hu), pg_out (by omega)]
theorem pg_torn_in {t : Str} {cs : List V} {j k : Nat} {v : Int} (h : k < 6) : pg (Mm.tornTo t cs (j + k) v) j = Mm.tornTo t (pg cs j) k v := by
  unfold Mm.tornTo
  split
  · exact pg_in h
  · split
    · exact pg_in h
    · rfl
theorem pg_torn_out {t : Str} {cs : List V} {i j : Nat} {v : Int} (h : i < j ∨ j + 6 ≤ i) : pg (Mm.tornTo t cs i v) j = pg cs j := by
  unfold Mm.tornTo
  split
  · exact pg_out h
  · split
    · exact pg_out h
    · rfl
/-- the same, counted from the page's first cell -/
def rel (n b c d : Int) : List (Nat × Int) := [(0, 0), (1, b), (2, c), (3, d), (4, (Sm.sumsI [n, b, c, d]).1), (5, (Sm.sumsI [n, b, c, d]).2), (0, n)]
theorem note_rel {f : Nat} {n b c d : Int} : noteW f n b c d = (rel n b c d).map fun w => (f + w.1, w.2) := rfl
theorem rel_lt {n b c d : Int} : ∀ w ∈ rel n b c d, w.1 < 6 := fun w h => by
  simp only [rel, List.mem_cons, List.not_mem_nil, or_false] at h
  rcases h with rfl | rfl | rfl | rfl | rfl | rfl | rfl
  · exact Nat.le_of_ble_eq_true rfl
  · exact Nat.le_of_ble_eq_true rfl
  · exact Nat.le_of_ble_eq_true rfl
  · exact Nat.le_of_ble_eq_true rfl
  · exact Nat.le_of_ble_eq_true rfl
  · exact Nat.le_of_ble_eq_true rfl
  · exact Nat.le_of_ble_eq_true rfl
theorem sums_rng (xs : List Int) : 0 ≤ (Sm.sumsI xs).1 ∧ (Sm.sumsI xs).1 ≤ 9972 ∧ 0 ≤ (Sm.sumsI xs).2 ∧ (Sm.sumsI xs).2 ≤ 9972 := by
  rw [Sm.sums_w]
  show 0 ≤ Sm.w1 xs % 9973 ∧ Sm.w1 xs % 9973 ≤ 9972 ∧ 0 ≤ Sm.w2 xs % 9973 ∧ Sm.w2 xs % 9973 ≤ 9972
  omega
theorem note_rng {f : Nat} {n b c d : Int} (hn : 0 ≤ n ∧ n ≤ 9972) (hb : 0 ≤ b ∧ b ≤ 9972) (hc : 0 ≤ c ∧ c ≤ 9972) (hd : 0 ≤ d ∧ d ≤ 9972) : ∀ w ∈ noteW f n b c d, 0 ≤ w.2 ∧ w.2 ≤ 9972 := fun w h => by
  obtain ⟨s0, s1, s2, s3⟩ := sums_rng [n, b, c, d]
  simp only [noteW, List.mem_cons, List.not_mem_nil, or_false] at h
  rcases h with rfl | rfl | rfl | rfl | rfl | rfl | rfl
  · exact ⟨Int.le_refl 0, (by decide : (0 : Int) ≤ 9972)⟩
  · exact hb
  · exact hc
  · exact hd
  · exact ⟨s0, s1⟩
  · exact ⟨s2, s3⟩
  · exact hn
/-- a page wholly written -/
theorem full {p : List V} (h : p.length = 6) {n b c d : Int} : setAll p (rel n b c d) = [.int n, .int b, .int c, .int d, .int (Sm.sumsI [n, b, c, d]).1, .int (Sm.sumsI [n, b, c, d]).2] := by
  obtain ⟨x0, x1, x2, x3, x4, x5, rfl⟩ := six h
  rfl
theorem full_N {p : List V} (h : p.length = 6) {n b c d : Int} : pgN (setAll p (rel n b c d)) = n ∧ pgR (setAll p (rel n b c d)) = (b, c, d) := by
  rw [full h]
  exact ⟨pgN_of rfl, rfl⟩
/-- a page of which a noting was stopped: as it was, or none, or wholly written -/
theorem part {p : List V} (h : p.length = 6) {n b c d : Int} {k : Nat} {w : Nat × Int} {t : Str} (hw : (rel n b c d)[k]? = some w) (ht : t = "old" ∨ t = "broken" ∨ t = "new") :
    Mm.tornTo t (setAll p ((rel n b c d).take k)) w.1 w.2 = p ∨ pgN (Mm.tornTo t (setAll p ((rel n b c d).take k)) w.1 w.2) = 0 ∨ Mm.tornTo t (setAll p ((rel n b c d).take k)) w.1 w.2 = setAll p (rel n b c d) := by
  obtain ⟨x0, x1, x2, x3, x4, x5, rfl⟩ := six h
  have tO : ∀ (cs : List V) (j : Nat) (v : Int), Mm.tornTo "old" cs j v = cs := fun cs j v => (if_neg (by decide +kernel)).trans (if_neg (by decide +kernel))
  have tB : ∀ (cs : List V) (j : Nat) (v : Int), Mm.tornTo "broken" cs j v = cs.set j .non := fun cs j v => if_pos rfl
  have tN : ∀ (cs : List V) (j : Nat) (v : Int), Mm.tornTo "new" cs j v = cs.set j (.int v) := fun cs j v => (if_neg (by decide +kernel)).trans (if_pos rfl)
  match k, hw with
  | 0, hw =>
    have e := Option.some.inj hw
    subst e
    rcases ht with rfl | rfl | rfl
    · exact .inl (tO _ _ _)
    · rw [tB]
      exact .inr (.inl pgN_non)
    · rw [tN]
      exact .inr (.inl pgN_zero)
  | 1, hw =>
    have e := Option.some.inj hw
    subst e
    rcases ht with rfl | rfl | rfl
    · rw [tO]; exact .inr (.inl pgN_zero)
    · rw [tB]; exact .inr (.inl pgN_zero)
    · rw [tN]; exact .inr (.inl pgN_zero)
  | 2, hw =>
    have e := Option.some.inj hw
    subst e
    rcases ht with rfl | rfl | rfl
    · rw [tO]; exact .inr (.inl pgN_zero)
    · rw [tB]; exact .inr (.inl pgN_zero)
    · rw [tN]; exact .inr (.inl pgN_zero)
  | 3, hw =>
    have e := Option.some.inj hw
    subst e
    rcases ht with rfl | rfl | rfl
    · rw [tO]; exact .inr (.inl pgN_zero)
    · rw [tB]; exact .inr (.inl pgN_zero)
    · rw [tN]; exact .inr (.inl pgN_zero)
  | 4, hw =>
    have e := Option.some.inj hw
    subst e
    rcases ht with rfl | rfl | rfl
    · rw [tO]; exact .inr (.inl pgN_zero)
    · rw [tB]; exact .inr (.inl pgN_zero)
    · rw [tN]; exact .inr (.inl pgN_zero)
  | 5, hw =>
    have e := Option.some.inj hw
    subst e
    rcases ht with rfl | rfl | rfl
    · rw [tO]; exact .inr (.inl pgN_zero)
    · rw [tB]; exact .inr (.inl pgN_zero)
    · rw [tN]; exact .inr (.inl pgN_zero)
  | 6, hw =>
    have e := Option.some.inj hw
    subst e
    rcases ht with rfl | rfl | rfl
    · rw [tO]; exact .inr (.inl pgN_zero)
    · rw [tB]; exact .inr (.inl pgN_non)
    · rw [tN]; exact .inr (.inr rfl)
  | k + 7, hw => simp [rel] at hw
theorem pg_ints {p : List V} (h : pgN p ≠ 0) : ∃ a b c d e f : Int, p = [.int a, .int b, .int c, .int d, .int e, .int f] ∧ pgR p = (b, c, d) ∧ pgN p = a := by
  unfold pgN at h
  split at h
  · rename_i a b c d e f
    by_cases z : Sm.sumsI [a, b, c, d] = (e, f)
    · exact ⟨a, b, c, d, e, f, rfl, rfl, pgN_of z⟩
    · rw [if_neg z] at h
      exact absurd rfl h
  · exact absurd rfl h
theorem cut_mid (xs : List V) (a b : Nat) (h : a ≤ b) : cutV xs (some (a : Int)) (some (b : Int)) = (xs.drop a).take (b - a) := by
  unfold cutV
  rw [HT.sIx_nat, HT.sIx_nat]
  by_cases ha : a ≤ xs.length
  · rw [Nat.min_eq_left ha]
    by_cases hb : b ≤ xs.length
    · rw [Nat.min_eq_left hb]
    · rw [Nat.min_eq_right (by omega), List.take_of_length_le (by rw [List.length_drop]; omega), List.take_of_length_le (by rw [List.length_drop]; omega)]
  · rw [Nat.min_eq_right (show xs.length ≤ a by omega), List.drop_of_length_le (Nat.le_refl _), List.drop_of_length_le (show xs.length ≤ a by omega), List.take_nil, List.take_nil]
theorem pg_row0 (cs : List V) (j : Nat) : ((cs.drop j).take 12).take 6 = pg cs j := by
  unfold pg
  rw [List.take_take]
  rfl
theorem pg_row6 (cs : List V) (j : Nat) : ((cs.drop j).take 12).drop 6 = pg cs (j + 6) := by
  unfold pg
  rw [List.drop_take, List.drop_drop]
/-- the newest page, as it is told -/
def newV (p q : List V) : V := if pgN p = 0 ∧ pgN q = 0 then .non else if pgN q ≤ pgN p then .int 0 else .int 1
/-! ### promises of books -/
def spPages (C CS : Addr) : Sp := fun vs H Q E => ∃ (p l : Addr) (m : Mm.Mem) (j : Nat), vs = [.ref p, .int (j : Int)] ∧ Mm.MemAt C p l m H ∧ j + 12 ≤ m.cells.length ∧
  (m.up = true → ∀ H' b u v, Same H H' → H' b = some (.lst [.ref u, .ref v]) → H' u = some (.lst (pg m.cells j)) → H' v = some (.lst (pg m.cells (j + 6))) → Q (.ref b) H') ∧ (m.up = false → E (.ref CS) none H)
def spNumberOf (K : PySem.W.Frag) : Sp := fun vs H Q _ => ∃ (b : Addr) (p : List V), vs = [.ref b] ∧ SqL K H b p ∧ p.length = 6 ∧ (∀ v ∈ p, Ct.okc v) ∧ ∀ H', Same H H' → Q (.int (pgN p)) H'
def spNewestOf (K : PySem.W.Frag) : Sp := fun vs H Q _ => ∃ (b u v : Addr) (p q : List V), vs = [.ref b] ∧ SqL K H b [.ref u, .ref v] ∧ SqL K H u p ∧ SqL K H v q ∧ p.length = 6 ∧ q.length = 6 ∧ (∀ v ∈ p, Ct.okc v) ∧ (∀ v ∈ q, Ct.okc v) ∧ ∀ H', Same H H' → Q (newV p q) H'
def spToWrite (K : PySem.W.Frag) : Sp := fun vs H Q _ => ∃ (b u v : Addr) (p q : List V), vs = [.ref b] ∧ SqL K H b [.ref u, .ref v] ∧ SqL K H u p ∧ SqL K H v q ∧ p.length = 6 ∧ q.length = 6 ∧ (∀ v ∈ p, Ct.okc v) ∧ (∀ v ∈ q, Ct.okc v) ∧ ∀ H', Same H H' → Q (.int (pw p q : Nat)) H'
/-! ### what a noting makes of the record -/
def recAt (cs : List V) (j : Nat) : Option (Int × Int × Int) := recO (pg cs j) (pg cs (j + 6))
def fst6 (cs : List V) (j : Nat) : Nat := j + 6 * pw (pg cs j) (pg cs (j + 6))
def nextN (cs : List V) (j : Nat) : Int := nn (pg cs j) (pg cs (j + 6))
def noteAt (cs : List V) (j : Nat) (b c d : Int) : List (Nat × Int) := noteW (fst6 cs j) (nextN cs j) b c d
theorem nn_pos {p q : List V} (hp : ∀ v ∈ p, Ct.okc v) (hq : ∀ v ∈ q, Ct.okc v) : 1 ≤ nn p q ∧ pgN p < nn p q ∧ pgN q < nn p q := by
  have := pgN_lo hp
  have := pgN_lo hq
  unfold nn
  split <;> omega
/-- the record behind: pages p', q', the one that was written new -/
theorem rec_new {p q p' q' : List V} {b c d : Int} (hp : ∀ v ∈ p, Ct.okc v) (hq : ∀ v ∈ q, Ct.okc v) (h : (pw p q = 0 ∧ q' = q ∧ pgN p' = nn p q ∧ pgR p' = (b, c, d)) ∨ (pw p q = 1 ∧ p' = p ∧ pgN q' = nn p q ∧ pgR q' = (b, c, d))) : recO p' q' = some (b, c, d) := by
  obtain ⟨n1, n2, n3⟩ := nn_pos hp hq
  unfold recO newest
  rcases h with ⟨_, rfl, e1, e2⟩ | ⟨_, rfl, e1, e2⟩
  · rw [if_neg (by omega), if_pos (by omega), e2]
    rfl
  · rw [if_neg (by omega), if_neg (by omega), e2]
    rfl
/-- .. none -/
theorem rec_old {p q p' q' : List V} (hp : ∀ v ∈ p, Ct.okc v) (hq : ∀ v ∈ q, Ct.okc v) (h : (pw p q = 0 ∧ q' = q ∧ pgN p' = 0) ∨ (pw p q = 1 ∧ p' = p ∧ pgN q' = 0)) : recO p' q' = recO p q := by
  have l1 := pgN_lo hp
  have l2 := pgN_lo hq
  unfold pw at h
  unfold recO newest
  by_cases h0 : pgN p = 0 ∧ pgN q = 0
  · rw [if_pos h0] at h ⊢
    rcases h with ⟨_, rfl, e⟩ | ⟨z, _⟩
    · rw [if_pos ⟨e, h0.2⟩]
    · cases z
  · rw [if_neg h0] at h ⊢
    by_cases hle : pgN q ≤ pgN p
    · rw [if_pos hle] at h ⊢
      rcases h with ⟨z, _⟩ | ⟨_, rfl, e⟩
      · cases z
      · rw [if_neg (by omega), if_pos (by omega)]
    · rw [if_neg hle] at h ⊢
      rcases h with ⟨_, rfl, e⟩ | ⟨z, _⟩
      · rw [if_neg (by omega), if_neg (by omega)]
      · cases z
theorem pw_two (p q : List V) : pw p q = 0 ∨ pw p q = 1 := by
  unfold pw
  split
  · exact .inl rfl
  · split
    · exact .inr rfl
    · exact .inl rfl
section
variable {cs : List V} {j : Nat} {b c d : Int}
theorem pg_ok (ok : ∀ v ∈ cs, Ct.okc v) (i : Nat) : ∀ v ∈ pg cs i, Ct.okc v := fun v h => ok v (pg_mem h)
theorem note_whole (hl : j + 12 ≤ cs.length) (ok : ∀ v ∈ cs, Ct.okc v) : recAt (setAll cs (noteAt cs j b c d)) j = some (b, c, d) := by
  have okp : ∀ v ∈ pg cs j, Ct.okc v := fun v h => ok v (pg_mem h)
  have okq : ∀ v ∈ pg cs (j + 6), Ct.okc v := fun v h => ok v (pg_mem h)
  unfold recAt noteAt
  rw [note_rel]
  refine rec_new (p := pg cs j) (q := pg cs (j + 6)) okp okq ?_
  rcases pw_two (pg cs j) (pg cs (j + 6)) with e | e
  · have ef : fst6 cs j = j := by
      unfold fst6
      rw [e]
      rfl
    rw [ef, pg_all_in _ _ rel_lt, pg_all_out (.inl (Nat.le_refl _)) _ _ rel_lt]
    obtain ⟨h1, h2⟩ := full_N (p := pg cs j) (n := nextN cs j) (b := b) (c := c) (d := d) (pg_len (by omega))
    exact .inl ⟨e, rfl, h1, h2⟩
  · have ef : fst6 cs j = j + 6 := by
      unfold fst6
      rw [e]
    rw [ef, pg_all_in _ _ rel_lt, pg_all_out (.inr (Nat.le_refl _)) _ _ rel_lt]
    obtain ⟨h1, h2⟩ := full_N (p := pg cs (j + 6)) (n := nextN cs j) (b := b) (c := c) (d := d) (pg_len (by omega))
    exact .inr ⟨e, rfl, h1, h2⟩
theorem note_part (hl : j + 12 ≤ cs.length) (ok : ∀ v ∈ cs, Ct.okc v) {k : Nat} {w : Nat × Int} {t : Str} (hw : (noteAt cs j b c d)[k]? = some w) (ht : t = "old" ∨ t = "broken" ∨ t = "new") :
    recAt (Mm.tornTo t (setAll cs ((noteAt cs j b c d).take k)) w.1 w.2) j = recAt cs j ∨ recAt (Mm.tornTo t (setAll cs ((noteAt cs j b c d).take k)) w.1 w.2) j = some (b, c, d) := by
  have okp : ∀ v ∈ pg cs j, Ct.okc v := fun v h => ok v (pg_mem h)
  have okq : ∀ v ∈ pg cs (j + 6), Ct.okc v := fun v h => ok v (pg_mem h)
  unfold noteAt at hw ⊢
  rw [note_rel, List.getElem?_map] at hw
  rw [note_rel, ← List.map_take]
  cases hr : (rel (nextN cs j) b c d)[k]? with
  | none =>
    rw [hr] at hw
    cases hw
  | some u =>
    rw [hr] at hw
    have e := Option.some.inj hw
    subst e
    have hu := rel_lt u (List.mem_of_getElem? hr)
    have htk : ∀ w ∈ (rel (nextN cs j) b c d).take k, w.1 < 6 := fun w hw => rel_lt w (List.mem_of_mem_take hw)
    unfold recAt
    dsimp only
    rcases pw_two (pg cs j) (pg cs (j + 6)) with e | e
    · have ef : fst6 cs j = j := by
        unfold fst6
        rw [e]
        rfl
      rw [ef, pg_torn_in hu, pg_torn_out (by omega), pg_all_in _ _ htk, pg_all_out (.inl (Nat.le_refl _)) _ _ htk]
      rcases part (p := pg cs j) (pg_len (by omega)) hr ht with z | z | z
      · rw [z]
        exact .inl rfl
      · exact .inl (rec_old okp okq (.inl ⟨e, rfl, z⟩))
      · rw [z]
        obtain ⟨h1, h2⟩ := full_N (p := pg cs j) (n := nextN cs j) (b := b) (c := c) (d := d) (pg_len (by omega))
        exact .inr (rec_new okp okq (.inl ⟨e, rfl, h1, h2⟩))
    · have ef : fst6 cs j = j + 6 := by
        unfold fst6
        rw [e]
      rw [ef, pg_torn_in hu, pg_torn_out (i := j + 6 + u.1) (j := j) (by omega), pg_all_in _ _ htk, pg_all_out (.inr (Nat.le_refl _)) _ _ htk]
      rcases part (p := pg cs (j + 6)) (pg_len (by omega)) hr ht with z | z | z
      · rw [z]
        exact .inl rfl
      · exact .inl (rec_old okp okq (.inr ⟨e, rfl, z⟩))
      · rw [z]
        obtain ⟨h1, h2⟩ := full_N (p := pg cs (j + 6)) (n := nextN cs j) (b := b) (c := c) (d := d) (pg_len (by omega))
        exact .inr (rec_new okp okq (.inr ⟨e, rfl, h1, h2⟩))
end
/-! ### the law's own looks -/
def nstep (acc : Option (Nat × Int × Int × Int × Int)) (w : Nat) (p : List V) : Option (Nat × Int × Int × Int × Int) :=
  if pgN p = 0 then acc else match acc with
    | none => some (w, pgN p, pgR p)
    | some x => if x.2.1 < pgN p then some (w, pgN p, pgR p) else some x
theorem newest_steps {p q : List V} (hp : ∀ v ∈ p, Ct.okc v) (hq : ∀ v ∈ q, Ct.okc v) : nstep (nstep none 0 p) 1 q = newest p q := by
  have := pgN_lo hp
  have := pgN_lo hq
  unfold nstep newest
  by_cases h0 : pgN p = 0
  · rw [if_pos h0]
    by_cases h1 : pgN q = 0
    · rw [if_pos h1, if_pos ⟨h0, h1⟩]
    · rw [if_neg h1, if_neg (by omega), if_neg (by omega)]
  · rw [if_neg h0, if_neg (by omega : ¬ (pgN p = 0 ∧ pgN q = 0))]
    dsimp only
    by_cases h1 : pgN q = 0
    · rw [if_pos h1, if_pos (by omega)]
    · rw [if_neg h1]
      by_cases h2 : pgN p < pgN q
      · rw [if_pos h2, if_neg (by omega)]
      · rw [if_neg h2, if_pos (by omega)]
theorem newest_pw {p q : List V} : (newest p q = none ∧ pw p q = 0 ∧ (0 ≤ pgN p → 0 ≤ pgN q → nn p q = 1)) ∨ (∃ n r, newest p q = some (0, n, r) ∧ pw p q = 1 ∧ nn p q = 1 + n) ∨ (∃ n r, newest p q = some (1, n, r) ∧ pw p q = 0 ∧ nn p q = 1 + n) := by
  unfold newest pw nn
  by_cases h0 : pgN p = 0 ∧ pgN q = 0
  · rw [if_pos h0, if_pos h0]
    refine .inl ⟨rfl, rfl, fun _ _ => ?_⟩
    rw [h0.1, h0.2]
    rfl
  · rw [if_neg h0, if_neg h0]
    by_cases h1 : pgN q ≤ pgN p
    · rw [if_pos h1, if_pos h1]
      refine .inr (.inl ⟨_, _, rfl, rfl, ?_⟩)
      split
      · have : pgN p = pgN q := by omega
        rw [this]
      · rfl
    · rw [if_neg h1, if_neg h1]
      refine .inr (.inr ⟨_, _, rfl, rfl, ?_⟩)
      rw [if_pos (by omega)]
/-- what newest tells, as it stands -/
def NewV (H : Hp) (x : V) : Option (Nat × Int × Int × Int × Int) → Prop
  | none => x = .non
  | some r => ∃ t u : Addr, x = .ref t ∧ H t = some (.tup [.int (r.1 : Nat), .int r.2.1, .ref u]) ∧ H u = some (.tup [.int r.2.2.1, .int r.2.2.2.1, .int r.2.2.2.2])
theorem NewV.mono {H H' : Hp} {x : V} (s : Same H H') : ∀ {o : Option (Nat × Int × Int × Int × Int)}, NewV H x o → NewV H' x o
  | none, h => h
  | some _, ⟨t, u, e, h1, h2⟩ => ⟨t, u, e, s _ _ h1, s _ _ h2⟩
/-- tuples of a place and a number -/
def Pairs (H : Hp) : List Addr → List (Nat × Int) → Prop
  | [], [] => True
  | a :: as, w :: ws => H a = some (.tup [.int (w.1 : Nat), .int w.2]) ∧ Pairs H as ws
  | _, _ => False
theorem Pairs.mono {H H' : Hp} (s : Same H H') : ∀ {as : List Addr} {ws : List (Nat × Int)}, Pairs H as ws → Pairs H' as ws
  | [], [], _ => True.intro
  | _ :: _, _ :: _, ⟨h, r⟩ => ⟨s _ _ h, Pairs.mono s r⟩
theorem Pairs.keep {H H' : Hp} (k : ∀ a u, H a = some (.tup u) → H' a = some (.tup u)) : ∀ {as : List Addr} {ws : List (Nat × Int)}, Pairs H as ws → Pairs H' as ws
  | [], [], _ => True.intro
  | _ :: _, _ :: _, ⟨h, r⟩ => ⟨k _ _ h, Pairs.keep k r⟩
theorem note_lt {cs : List V} {j : Nat} {b c d : Int} : ∀ w ∈ noteAt cs j b c d, w.1 < j + 12 := fun w h => by
  have hp : fst6 cs j ≤ j + 6 := by
    unfold fst6
    unfold pw
    split
    · omega
    · split <;> omega
  unfold noteAt at h
  rw [note_rel] at h
  obtain ⟨u, hu, rfl⟩ := List.mem_map.mp h
  have := rel_lt u hu
  show fst6 cs j + u.1 < j + 12
  omega
theorem setAll_next {cs : List V} {ws : List (Nat × Int)} {m : Nat} {w : Nat × Int} (h : ws[m]? = some w) : setAll cs (ws.take (m + 1)) = (setAll cs (ws.take m)).set w.1 (.int w.2) := by
  rw [List.take_add_one, h]
  unfold setAll
  rw [List.foldl_append]
  rfl
theorem Pairs.app {H : Hp} : ∀ {as bs : List Addr} {ws us : List (Nat × Int)}, Pairs H as ws → Pairs H bs us → Pairs H (as ++ bs) (ws ++ us)
  | [], _, [], _, _, h => h
  | _ :: _, _, _ :: _, _, ⟨h, r⟩, g => ⟨h, Pairs.app r g⟩
theorem Pairs.len {H : Hp} : ∀ {as : List Addr} {ws : List (Nat × Int)}, Pairs H as ws → as.length = ws.length
  | [], [], _ => rfl
  | _ :: _, _ :: _, ⟨_, r⟩ => congrArg (· + 1) (Pairs.len r)
theorem Pairs.at {H : Hp} : ∀ {as : List Addr} {ws : List (Nat × Int)} {i : Nat} {a : Addr}, Pairs H as ws → as[i]? = some a → ∃ w, ws[i]? = some w ∧ H a = some (.tup [.int (w.1 : Nat), .int w.2])
  | [], [], _, _, _, h => by simp at h
  | _ :: _, w :: _, 0, _, ⟨h, _⟩, e => by
    have e := Option.some.inj e
    subst e
    exact ⟨w, rfl, h⟩
  | _ :: as, _ :: ws, i + 1, a, ⟨_, r⟩, e => by
    obtain ⟨w, h1, h2⟩ := Pairs.at (i := i) r (by simpa using e)
    exact ⟨w, by simpa using h1, h2⟩
theorem flat_ok : ∀ {cs : List V}, (∀ v ∈ cs, Ct.okc v) → cs.all flatV = true
  | [], _ => rfl
  | v :: r, h => by
    rw [List.all_cons, flat_ok fun u m => h u (List.mem_cons_of_mem _ m)]
    rcases h v List.mem_cons_self with rfl | ⟨x, rfl, _⟩ <;> rfl
theorem inV_non : ∀ {cs : List V}, (∀ v ∈ cs, Ct.okc v) → inV .non cs = decide (V.non ∈ cs)
  | [], _ => rfl
  | v :: r, h => by
    have ih := inV_non (cs := r) fun u m => h u (List.mem_cons_of_mem _ m)
    unfold inV at ih ⊢
    rw [List.any_cons, ih]
    rcases h v List.mem_cons_self with rfl | ⟨x, rfl, _⟩
    · simp [eqV]
    · simp [eqV]
theorem all_ints : ∀ {cs : List V}, (∀ v ∈ cs, Ct.okc v) → ¬ V.non ∈ cs → ∃ xs : List Int, cs = xs.map V.int ∧ ∀ x ∈ xs, 0 ≤ x ∧ x ≤ 9972
  | [], _, _ => ⟨[], rfl, fun _ h => by cases h⟩
  | v :: r, h, n => by
    obtain ⟨xs, e, b⟩ := all_ints (cs := r) (fun u m => h u (List.mem_cons_of_mem _ m)) (fun m => n (List.mem_cons_of_mem _ m))
    rcases h v List.mem_cons_self with rfl | ⟨x, rfl, x0, x1⟩
    · exact absurd List.mem_cons_self n
    · refine ⟨x :: xs, by rw [e]; rfl, fun y hy => ?_⟩
      rcases List.mem_cons.mp hy with z | z
      · rw [z]
        exact ⟨x0, x1⟩
      · exact b y z
theorem flat_cel : ∀ {cs : List V}, (∀ v ∈ cs, Dw.cel v = true) → cs.all flatV = true
  | [], _ => rfl
  | v :: r, h => by
    rw [List.all_cons, flat_cel fun u m => h u (List.mem_cons_of_mem _ m)]
    rcases Dw.cel_cases (h v List.mem_cons_self) with ⟨x, rfl⟩ | rfl <;> rfl
theorem inV_cel : ∀ {cs : List V}, (∀ v ∈ cs, Dw.cel v = true) → inV .non cs = decide (V.non ∈ cs)
  | [], _ => rfl
  | v :: r, h => by
    have ih := inV_cel (cs := r) fun u m => h u (List.mem_cons_of_mem _ m)
    unfold inV at ih ⊢
    rw [List.any_cons, ih]
    rcases Dw.cel_cases (h v List.mem_cons_self) with ⟨x, rfl⟩ | rfl <;> simp [eqV]
theorem ints_cel : ∀ {cs : List V}, (∀ v ∈ cs, Dw.cel v = true) → ¬ V.non ∈ cs → ∃ xs : List Int, cs = xs.map V.int
  | [], _, _ => ⟨[], rfl⟩
  | v :: r, h, n => by
    obtain ⟨xs, e⟩ := ints_cel (cs := r) (fun u m => h u (List.mem_cons_of_mem _ m)) (fun m => n (List.mem_cons_of_mem _ m))
    rcases Dw.cel_cases (h v List.mem_cons_self) with ⟨x, rfl⟩ | rfl
    · exact ⟨x :: xs, by rw [e]; rfl⟩
    · exact absurd List.mem_cons_self n
theorem sixI : ∀ {p : List Int}, p.length = 6 → ∃ a b c d e f, p = [a, b, c, d, e, f]
  | [a, b, c, d, e, f], _ => ⟨a, b, c, d, e, f, rfl⟩
  | [], h => by cases h
  | [_], h => by cases h
  | [_, _], h => by cases h
  | [_, _, _], h => by cases h
  | [_, _, _, _], h => by cases h
  | [_, _, _, _, _], h => by cases h
  | _ :: _ :: _ :: _ :: _ :: _ :: _ :: _, h => by simp at h
/-- a record told: None, or a tuple of three -/
def RecV (H : Hp) (x : V) : Option (Int × Int × Int) → Prop
  | none => x = .non
  | some r => ∃ t : Addr, x = .ref t ∧ H t = some (.tup [.int r.1, .int r.2.1, .int r.2.2])
def spRecord (C CS : Addr) : Sp := fun vs H Q E => ∃ (p l : Addr) (m : Mm.Mem) (j : Nat), vs = [.ref p, .int (j : Int)] ∧ Mm.MemAt C p l m H ∧ j + 12 ≤ m.cells.length ∧ (∀ v ∈ m.cells, Ct.okc v) ∧
  (m.up = true → ∀ H' x, Same H H' → RecV H' x (recAt m.cells j) → (∀ t, x = .ref t → H t = none) → Q x H') ∧ (m.up = false → E (.ref CS) none H)
def spNote (K : PySem.W.Frag) (C CS : Addr) : Sp := fun vs H Q E => ∃ (p l t : Addr) (m : Mm.Mem) (j : Nat) (b c d : Int), vs = [.ref p, .int (j : Int), .ref t] ∧ Mm.MemAt C p l m H ∧ SqT K H t [.int b, .int c, .int d] ∧ j + 12 ≤ m.cells.length ∧ (∀ v ∈ m.cells, Ct.okc v) ∧
  (0 ≤ b ∧ b ≤ 9972) ∧ (0 ≤ c ∧ c ≤ 9972) ∧ (0 ≤ d ∧ d ≤ 9972) ∧ nextN m.cells j ≤ 9972 ∧
  ∀ H', Mm.MemAt C p l (wrs m (noteAt m.cells j b c d)).1 H' → Mm.But [p, l] H H' → ((wrs m (noteAt m.cells j b c d)).2 = true → Q .non H') ∧ ((wrs m (noteAt m.cells j b c d)).2 = false → E (.ref CS) none H')
end Bk

set_option maxRecDepth 100000
set_option maxHeartbeats 4000000
/-! pictures and manifests: pieces, names, heads -/
namespace Mf
open PySem PySem.Spec PyProof.Rows L2
/-! ### slices of tuples, the whole too -/
theorem cut_whole {xs : List V} {lo hi : Option Int} (h : HT.sIx xs.length 0 lo = 0 ∧ HT.sIx xs.length xs.length hi = xs.length) : cutV xs lo hi = xs := by
  unfold cutV
  rw [h.1, h.2, List.drop_zero, Nat.sub_zero, List.take_length]
theorem sl_any {K : PySem.W.Frag} {H : Hp} {a : Addr} {xs : List V} {lo hi : Option Int} {Q : VK} (h : SqT K H a xs) (q : ∀ p H', Same H H' → SqT K H' p (cutV xs lo hi) → Q (.ref p) H') : rSlA K (.ref a) lo hi H Q := by
  refine ⟨a, xs, rfl, h, fun e => ?_, fun _ p hp => ?_⟩
  · exact q a H (Same.refl H) (by rw [cut_whole e]; exact h)
  · exact q p _ (Dw.same_upd hp) (Dw.st_of upd_same)
theorem sl_tupAK {X : Cx} {K : PySem.W.Frag} (hK : X.K = K) : SlR X (rSlA K) := hK ▸ sl_tupA
theorem sl_listK {X : Cx} {K : PySem.W.Frag} (hK : X.K = K) : SlR X (rSlL K) := hK ▸ sl_list
theorem call_tuple_ofK {X : Cx} {K : PySem.W.Frag} (hK : X.K = K) : CallR X (.type "tuple") (fun xs H Q => ∃ p ys, xs = [.ref p] ∧ ((SqL K H p ys ∧ ∀ l, H l = none → Q (.ref l) (upd H l (.tup ys))) ∨ (SqT K H p ys ∧ Q (.ref p) H))) := hK ▸ call_tuple_of
/-! ### pieces and names -/
def nmOf (xs : List Int) : Int × Int × Int := ((Sm.sumsI xs).1, (Sm.sumsI xs).2, (xs.length : Int))
def piece (xs : List Int) (i : Nat) : List Int := (xs.drop (3 * i)).take 3
def pcs (n : Nat) (xs : List Int) : List (List Int) := (List.range n).map (piece xs)
def cnt (xs : List Int) : Nat := (xs.length + 2) / 3
def names (xs : List Int) : List (Int × Int × Int) := (pcs (cnt xs) xs).map nmOf
theorem pcs_succ (n : Nat) (xs : List Int) : pcs (n + 1) xs = pcs n xs ++ [piece xs n] := by
  unfold pcs
  rw [List.range_succ, List.map_append]
  rfl
theorem pcs_len (n : Nat) (xs : List Int) : (pcs n xs).length = n := by
  unfold pcs
  rw [List.length_map, List.length_range]
theorem pcs_flat : ∀ (n : Nat) (xs : List Int), (pcs n xs).flatten = xs.take (3 * n)
  | 0, _ => rfl
  | n + 1, xs => by
    rw [pcs_succ, List.flatten_append, pcs_flat n xs, List.flatten_singleton, show 3 * (n + 1) = 3 * n + 3 by omega, List.take_add]
    rfl
theorem flat_all (xs : List Int) : (pcs (cnt xs) xs).flatten = xs := by
  rw [pcs_flat]
  exact List.take_of_length_le (by unfold cnt; omega)
theorem fold_names : ∀ (ps : List (List Int)) (u : List Int), (ps.map nmOf).foldl Sm.jst (Sm.sumsI u) = Sm.sumsI (u ++ ps.flatten)
  | [], u => by simp
  | p :: r, u => by
    rw [List.map_cons, List.foldl_cons]
    show (r.map nmOf).foldl Sm.jst (Sm.jst (Sm.sumsI u) ((Sm.sumsI p).1, (Sm.sumsI p).2, (p.length : Int))) = _
    rw [Sm.jst_sums, fold_names r, List.flatten_cons, List.append_assoc]
theorem names_sums (xs : List Int) : (names xs).foldl Sm.jst (0, 0) = Sm.sumsI xs := by
  have h := fold_names (pcs (cnt xs) xs) []
  rw [flat_all] at h
  exact h
theorem sum_lens : ∀ (ps : List (List Int)), ((ps.map nmOf).map fun t => t.2.2).sum = (ps.flatten.length : Int)
  | [] => rfl
  | p :: r => by
    rw [List.map_cons, List.map_cons, List.sum_cons, sum_lens r, List.flatten_cons, List.length_append, Int.natCast_add]
    rfl
theorem names_lens (xs : List Int) : ((names xs).map fun t => t.2.2).sum = (xs.length : Int) := by
  have h := sum_lens (pcs (cnt xs) xs)
  rw [flat_all] at h
  exact h
theorem cut_piece (xs : List Int) (i : Nat) {lo hi : Int} (h1 : lo = ((3 * i : Nat) : Int)) (h2 : hi = ((3 * i + 3 : Nat) : Int)) : cutV (xs.map V.int) (some lo) (some hi) = (piece xs i).map V.int := by
  rw [h1, h2, Bk.cut_mid _ _ _ (by omega), show 3 * i + 3 - 3 * i = 3 by omega]
  unfold piece
  rw [List.map_take, List.map_drop]
theorem piece_mem {xs : List Int} {i : Nat} {x : Int} (h : x ∈ piece xs i) : x ∈ xs := List.mem_of_mem_drop (List.mem_of_mem_take h)
theorem piece_len (xs : List Int) (i : Nat) : (piece xs i).length ≤ 3 := by
  unfold piece
  rw [List.length_take]
  omega
theorem rg3 : ∀ n : Nat, n ≤ 12 → RgC 0 (n : Int) 3 ((n + 2) / 3)
  | 0, _ => ⟨by decide, by decide, by decide +kernel, by decide +kernel⟩
  | 1, _ => ⟨by decide, by decide, by decide +kernel, by decide +kernel⟩
  | 2, _ => ⟨by decide, by decide, by decide +kernel, by decide +kernel⟩
  | 3, _ => ⟨by decide, by decide, by decide +kernel, by decide +kernel⟩
  | 4, _ => ⟨by decide, by decide, by decide +kernel, by decide +kernel⟩
  | 5, _ => ⟨by decide, by decide, by decide +kernel, by decide +kernel⟩
  | 6, _ => ⟨by decide, by decide, by decide +kernel, by decide +kernel⟩
  | 7, _ => ⟨by decide, by decide, by decide +kernel, by decide +kernel⟩
  | 8, _ => ⟨by decide, by decide, by decide +kernel, by decide +kernel⟩
  | 9, _ => ⟨by decide, by decide, by decide +kernel, by decide +kernel⟩
  | 10, _ => ⟨by decide, by decide, by decide +kernel, by decide +kernel⟩
  | 11, _ => ⟨by decide, by decide, by decide +kernel, by decide +kernel⟩
  | 12, _ => ⟨by decide, by decide, by decide +kernel, by decide +kernel⟩
  | n + 13, h => by omega
/-- tuples of three numbers -/
def Trip (H : Hp) : List Addr → List (Int × Int × Int) → Prop
  | [], [] => True
  | a :: as, t :: ts => H a = some (.tup [.int t.1, .int t.2.1, .int t.2.2]) ∧ Trip H as ts
  | _, _ => False
theorem Trip.mono {H H' : Hp} (s : Same H H') : ∀ {as : List Addr} {ts : List (Int × Int × Int)}, Trip H as ts → Trip H' as ts
  | [], [], _ => True.intro
  | _ :: _, _ :: _, ⟨h, r⟩ => ⟨s _ _ h, Trip.mono s r⟩
theorem Trip.keep {H H' : Hp} (k : ∀ a u, H a = some (.tup u) → H' a = some (.tup u)) : ∀ {as : List Addr} {ts : List (Int × Int × Int)}, Trip H as ts → Trip H' as ts
  | [], [], _ => True.intro
  | _ :: _, _ :: _, ⟨h, r⟩ => ⟨k _ _ h, Trip.keep k r⟩
theorem Trip.app {H : Hp} : ∀ {as bs : List Addr} {ts us : List (Int × Int × Int)}, Trip H as ts → Trip H bs us → Trip H (as ++ bs) (ts ++ us)
  | [], _, [], _, _, h => h
  | _ :: _, _, _ :: _, _, ⟨h, r⟩, g => ⟨h, Trip.app r g⟩
theorem Trip.len {H : Hp} : ∀ {as : List Addr} {ts : List (Int × Int × Int)}, Trip H as ts → as.length = ts.length
  | [], [], _ => rfl
  | _ :: _, _ :: _, ⟨_, r⟩ => congrArg (· + 1) (Trip.len r)
theorem Trip.at {H : Hp} : ∀ {as : List Addr} {ts : List (Int × Int × Int)} {i : Nat} {a : Addr}, Trip H as ts → as[i]? = some a → ∃ t, ts[i]? = some t ∧ H a = some (.tup [.int t.1, .int t.2.1, .int t.2.2])
  | [], [], _, _, _, h => by simp at h
  | _ :: _, t :: _, 0, _, ⟨h, _⟩, e => by
    have e := Option.some.inj e
    subst e
    exact ⟨t, rfl, h⟩
  | _ :: as, _ :: ts, i + 1, a, ⟨_, r⟩, e => by
    obtain ⟨t, h1, h2⟩ := Trip.at (i := i) r (by simpa using e)
    exact ⟨t, by simpa using h1, h2⟩
/-- tuples of numbers -/
def Tups (K : PySem.W.Frag) (H : Hp) : List Addr → List (List Int) → Prop
  | [], [] => True
  | a :: as, p :: ps => SqT K H a (p.map V.int) ∧ Tups K H as ps
  | _, _ => False
theorem Tups.mono {K : PySem.W.Frag} {H H' : Hp} (s : Same H H') : ∀ {as : List Addr} {ps : List (List Int)}, Tups K H as ps → Tups K H' as ps
  | [], [], _ => True.intro
  | _ :: _, _ :: _, ⟨h, r⟩ => ⟨Dw.same_tup s h, Tups.mono s r⟩
theorem tup_keep {K : PySem.W.Frag} {H H' : Hp} (k : ∀ a o, (∃ u, o = HO.tup u) ∨ (∃ x u, o = HO.frz x u) → H a = some o → H' a = some o) {a : Addr} {xs : List V} (h : SqT K H a xs) : SqT K H' a xs := by
  rcases h with (h | ⟨o, h⟩) | h
  · exact .inl (.inl (k _ _ (.inl ⟨_, rfl⟩) h))
  · exact .inl (.inr ⟨o, k _ _ (.inr ⟨_, _, rfl⟩) h⟩)
  · exact .inr h
theorem Tups.keep {K : PySem.W.Frag} {H H' : Hp} (k : ∀ a o, (∃ u, o = HO.tup u) ∨ (∃ x u, o = HO.frz x u) → H a = some o → H' a = some o) : ∀ {as : List Addr} {ps : List (List Int)}, Tups K H as ps → Tups K H' as ps
  | [], [], _ => True.intro
  | _ :: _, _ :: _, ⟨h, r⟩ => ⟨tup_keep k h, Tups.keep k r⟩
theorem Tups.app {K : PySem.W.Frag} {H : Hp} : ∀ {as bs : List Addr} {ts us : List (List Int)}, Tups K H as ts → Tups K H bs us → Tups K H (as ++ bs) (ts ++ us)
  | [], _, [], _, _, h => h
  | _ :: _, _, _ :: _, _, ⟨h, r⟩, g => ⟨h, Tups.app r g⟩
theorem Tups.len {K : PySem.W.Frag} {H : Hp} : ∀ {as : List Addr} {ts : List (List Int)}, Tups K H as ts → as.length = ts.length
  | [], [], _ => rfl
  | _ :: _, _ :: _, ⟨_, r⟩ => congrArg (· + 1) (Tups.len r)
theorem Tups.at {K : PySem.W.Frag} {H : Hp} : ∀ {as : List Addr} {ts : List (List Int)} {i : Nat} {a : Addr}, Tups K H as ts → as[i]? = some a → ∃ t, ts[i]? = some t ∧ SqT K H a (t.map V.int)
  | [], [], _, _, _, h => by simp at h
  | _ :: _, t :: _, 0, _, ⟨h, _⟩, e => by
    have e := Option.some.inj e
    subst e
    exact ⟨t, rfl, h⟩
  | _ :: as, _ :: ts, i + 1, a, ⟨_, r⟩, e => by
    obtain ⟨t, h1, h2⟩ := Tups.at (i := i) r (by simpa using e)
    exact ⟨t, by simpa using h1, h2⟩
theorem tk_lst {H : Hp} {D : Addr} {xs ys : List V} (h : H D = some (.lst xs)) : ∀ a o, (∃ u, o = HO.tup u) ∨ (∃ x u, o = HO.frz x u) → H a = some o → (upd H D (.lst ys)) a = some o := fun a o ho e => by
  rw [upd_ne (ne_of e h (by
    intro z
    rcases ho with ⟨u, rfl⟩ | ⟨x, u, rfl⟩ <;> cases z))]
  exact e
def tD (t : Int × Int × Int) : PyData := .tuple (([t.1, t.2.1, t.2.2].map V.int).map Dw.dat)
theorem Trip.td {H : Hp} : ∀ {as : List Addr} {ts : List (Int × Int × Int)}, Trip H as ts → Dw.TdAll H (as.map V.ref) (ts.map tD)
  | [], [], _ => .nil
  | _ :: _, t :: _, ⟨h, r⟩ => .cons (.tup h (by show 3 ≤ 100000; decide) (Dw.TdAll.cel (vs := [t.1, t.2.1, t.2.2].map V.int) Dw.cel_ints)) (Trip.td r)
/-- a manifest, as it stands -/
def ManAt (H : Hp) (t : Addr) (ver : Int) (xs : List Int) (num s : Int) : Prop := ∃ (u : Addr) (as : List Addr), H t = some (.tup [.int ver, .int (xs.length : Int), .int (Sm.sumsI xs).1, .int (Sm.sumsI xs).2, .int num, .int s, .ref u]) ∧ H u = some (.tup (as.map V.ref)) ∧ Trip H as (names xs)
theorem ManAt.mono {H H' : Hp} (s : Same H H') {t : Addr} {ver : Int} {xs : List Int} {num sl : Int} : ManAt H t ver xs num sl → ManAt H' t ver xs num sl
  | ⟨u, as, h1, h2, h3⟩ => ⟨u, as, s _ _ h1, s _ _ h2, h3.mono s⟩
def manD (ver : Int) (xs : List Int) (num s : Int) : PyData := .tuple [.int ver, .int (xs.length : Int), .int (Sm.sumsI xs).1, .int (Sm.sumsI xs).2, .int num, .int s, .tuple ((names xs).map tD)]
theorem names_len (xs : List Int) : (names xs).length = cnt xs := by
  unfold names
  rw [List.length_map, pcs_len]
theorem ManAt.td {H : Hp} {t : Addr} {ver : Int} {xs : List Int} {num s : Int} (hl : xs.length ≤ 1000) : ManAt H t ver xs num s → Dw.Td H (.ref t) (manD ver xs num s)
  | ⟨u, as, h1, h2, h3⟩ => .tup h1 (by show 7 ≤ 100000; decide) (.cons (.int _) (.cons (.int _) (.cons (.int _) (.cons (.int _) (.cons (.int _) (.cons (.int _) (.cons (.tup h2 (by rw [List.length_map, h3.len, names_len]; unfold cnt; omega) h3.td) .nil)))))))
theorem tD_depth : ∀ (ts : List (Int × Int × Int)), PyData.depthAll (ts.map tD) ≤ 1
  | [] => by rw [List.map_nil, PyData.depthAll]; exact Nat.zero_le _
  | t :: r => by
    have h := tD_depth r
    have e : (tD t).depth = 1 := by
      unfold tD
      rw [PyData.depth, (Dw.layAll_dat (xs := [t.1, t.2.1, t.2.2].map V.int) Dw.cel_ints).2]
    rw [List.map_cons, PyData.depthAll, e]
    omega
theorem manD_depth (ver : Int) (xs : List Int) (num s : Int) : (manD ver xs num s).depth < 5 := by
  have h := tD_depth (names xs)
  unfold manD
  simp only [PyData.depth, PyData.depthAll]
  omega
/-- the seal of a head -/
def sealOf (k ver : Int) (xs : List Int) (num : Int) : Int := Sm.sealI k [ver, (xs.length : Int), (Sm.sumsI xs).1, (Sm.sumsI xs).2, num]
/-- keys as they stand: a tuple of one to four -/
structure KeysAt (K : PySem.W.Frag) (H : Hp) (t : Addr) (ks : List Int) : Prop where
  tu : SqT K H t (ks.map V.int)
  lo : 1 ≤ ks.length
  hi : ks.length ≤ 4
  rg : ∀ k ∈ ks, 1 ≤ k ∧ k ≤ 9972
/-- a picture as it stands -/
structure PicAt (K : PySem.W.Frag) (H : Hp) (t : Addr) (ver : Int) (xs : List Int) (num : Int) (nk : Nat) : Prop where
  tu : ∃ c : Addr, SqT K H t [.int ver, .ref c, .int num] ∧ SqT K H c (xs.map V.int)
  v0 : 1 ≤ ver
  v1 : ver ≤ 999
  lo : 1 ≤ xs.length
  hi : xs.length ≤ 12
  rg : ∀ x ∈ xs, 0 ≤ x ∧ x ≤ 9972
  n0 : 0 ≤ num
  n1 : num < nk
theorem KeysAt.mono {K : PySem.W.Frag} {H H' : Hp} {t : Addr} {ks : List Int} (s : Same H H') (h : KeysAt K H t ks) : KeysAt K H' t ks := ⟨Dw.same_tup s h.tu, h.lo, h.hi, h.rg⟩
theorem PicAt.mono {K : PySem.W.Frag} {H H' : Hp} {t : Addr} {ver : Int} {xs : List Int} {num : Int} {nk : Nat} (s : Same H H') (h : PicAt K H t ver xs num nk) : PicAt K H' t ver xs num nk := by
  obtain ⟨c, h1, h2⟩ := h.tu
  exact ⟨⟨c, Dw.same_tup s h1, Dw.same_tup s h2⟩, h.v0, h.v1, h.lo, h.hi, h.rg, h.n0, h.n1⟩
theorem KeysAt.at {K : PySem.W.Frag} {H : Hp} {t : Addr} {ks : List Int} (h : KeysAt K H t ks) {n : Int} (n0 : 0 ≤ n) (n1 : n < ks.length) : ∃ k, atI (ks.map V.int) n = some (.int k) ∧ ks[n.toNat]? = some k ∧ 1 ≤ k ∧ k < 9973 := by
  obtain ⟨k, hk⟩ : ∃ k, ks[n.toNat]? = some k := ⟨_, List.getElem?_eq_getElem (show n.toNat < ks.length by omega)⟩
  have hr := h.rg k (List.mem_of_getElem? hk)
  exact ⟨k, at_of (j := n.toNat) (by omega) (by rw [List.getElem?_map, hk]; rfl), hk, hr.1, by omega⟩
end Mf

set_option maxRecDepth 100000
set_option maxHeartbeats 4000000
/-! first, *more = a list: a rule of our own -/
namespace Us
open PySem PySem.Spec PyProof.Rows L2 PySem.W
section
variable {prog : Program} {w : World} {A : Around} {E : Value → Shared → Prop} {s : Shared}
theorem star_run {ad : Addr} {its : Array Value} {y : Value} {more : List Value} {R : List Value → Shared → Prop} (nh : A.handled = none) (lst : s.heap.IsList ad its) (eq : its.toList = y :: more) (small : its.size ≤ 16384)
    (then_ : ∀ g tk, Heap.ExtBut s.heap.objs.size s.heap g → R [y, .ref g.objs.size] { s with heap := g.push { cls := .type "list", data := .seq more.toArray }, toks := tk }) :
    wpAny (model prog w) A (unpackItems (.ref ad) 2 (some 1)) R E s := by
  have lt1 : ad ≠ s.heap.objs.size := by
    obtain ⟨o, ho, _⟩ := lst
    exact Nat.ne_of_lt (Heap.lt_size ho)
  have sz : its.size = more.length + 1 := by
    have z := congrArg List.length eq
    simpa using z
  unfold unpackItems notIterableAtAll
  refine wpAny_bind (wpAny_bind (wpAny_specialOf lst.typeIs slot_list_iter.lookup (wpAny_pure ?_)))
  simp only [Option.isSome, Bool.false_eq_true, if_false, if_true]
  refine wpAny_bind (wpAny_holding (wpAny_pyIter_list lst (wpAny_bind (wpAny_holding ?_))))
  refine kun_draw lt1 1 0 _ _ ⟨_, Heap.get?_push_size _ rfl, rfl, rfl⟩ (lst.push _) (by omega) fun g1 it1 bt1 => ?_
  have lst1 : g1.IsList ad its := Heap.IsList.extBut (lst.push _) bt1.extBut lt1
  have e1 : List.take 1 (List.drop 0 its.toList) = [y] := by rw [eq]; rfl
  rw [e1]
  obtain ⟨oi, hoi, -⟩ := id it1
  obtain ⟨ol, hol, -⟩ := id lst1
  simp only [List.length_cons, List.length_nil, Nat.zero_add, Nat.lt_irrefl, if_false]
  have W := Walks.list (prog := prog) (w := w) (A := A.in1) nh s.heap.objs.size ad lt1 its
  refine wpAny_bind (wpAny_holding (kun_collect (T := "list_iterator") (Or.inr (Or.inr (Or.inl rfl))) W (fun _ _ st => st.1.typeIs) (k := 1) (by omega) ⟨it1, lst1⟩ (Heap.lt_size hoi) (Heap.lt_size hol) (fun g2 tk k2 => ?_) (by rw [sizeLine_eq]; omega)))
  have e2 : List.drop 1 its.toList = more := by rw [eq]; rfl
  rw [e2, if_neg (show ¬ more.length < 2 - 1 - 1 from Nat.not_lt_zero _)]
  have e3 : List.take (more.length - (2 - 1 - 1)) more = more := List.take_length
  have e4 : List.drop (more.length - (2 - 1 - 1)) more = [] := List.drop_length
  rw [e3, e4]
  refine wpAny_bind (wpAny_newList (wpAny_pure ?_) (by rw [sizeLine_eq]; omega))
  exact then_ g2 tk fun b o nb e => k2 b o nb (bt1.extBut b o nb (Heap.get?_push_of_some _ e))
end
/-- first, *more = a list -/
def gStar (K : PySem.W.Frag) (t : TGs) : TG := fun v σ H Q => ∃ (a : Addr) (y : V) (xs : List V), v = .ref a ∧ SqL K H a (y :: xs) ∧ xs.length ≤ 1000 ∧ ∀ p, H p = none → t [y, .ref p] σ (upd H p (.lst xs)) Q
theorem pg_star {X : Cx} {e f : Expr} {sp pos : Pos} {k : Nat} {t : TGs} (hc : X.calm = true) (h : PGs X [e, f] t)
    (two : (assignEach [e, .Starred f sp] X.env).length = 2 := by rfl) (at1 : (assignEach [e, .Starred f sp] X.env).findIdx? (·.1) = some 1 := by rfl) (alike : (assignEach [e, .Starred f sp] X.env).map (·.2) = (assignEach [e, f] X.env).map (·.2) := by rfl) : PG X (.Tuple [e, .Starred f sp] k pos) (gStar X.K t) := by
  refine ⟨fun pins s σ H v u Q I r hw => ?_⟩
  obtain ⟨a, y, xs, rfl, hq, hl, hw⟩ := hw
  cases r
  obtain ⟨its, rv, pl, hz⟩ := I.list hq
  obtain ⟨u0, us, rfl, ry, rxs⟩ : ∃ u0 us, its = u0 :: us ∧ RelV y u0 ∧ Vals xs us := by
    cases rv with
    | cons a b => exact ⟨_, _, rfl, a, b⟩
  have lx := rxs.length
  rw [PyProof.Rows.assign_Tuple]
  refine wpAny_bind (wpAny_standAt ?_)
  unfold unpack
  rw [two, at1, alike]
  refine wpAny_bind (wpAny_holding (star_run (ad := a) (its := (u0 :: us).toArray) (y := u0) (more := us) (I.ok.hd hc) pl.isList (by simp) (by simp; omega) fun g tk kp => ?_))
  have I1 : Inv X pins σ H { s with heap := g, toks := tk } := I.kept fun b o e => kp b o (Nat.ne_of_lt (Heap.lt_size e)) e
  have nf : H g.objs.size = none := I1.hok.fresh (Nat.le_refl _)
  have I2 := I1.laid (a := g.objs.size) (o := .lst xs) (t' := tk) (fun b z e => Heap.get?_push_of_some _ e) (Nat.le_refl _) ⟨Nat.le_trans (show xs.length ≤ 1000 from hl) (by rw [sizeLine_eq]; decide), us, 0, rxs, Heap.get?_push_size _ rfl⟩
  exact h.run pins _ σ _ [y, .ref g.objs.size] [u0, .ref g.objs.size] Q I2 (.cons ry (.cons rfl .nil)) (hw _ nf)

section
variable {prog : Program} {w : World} {A : Around} {E : Value → Shared → Prop} {s : Shared}
theorem star_runT {l : Addr} {items : Array Value} {n i : Nat} {Q : List Value → Shared → Prop} (hl : IsTup s.heap l items) (hh : A.handled = none) (hi : i < n) (hn : n ≤ items.size + 1) (hz : items.size ≤ 16384)
    (then_ : ∀ g tk, Heap.ExtBut s.heap.objs.size s.heap g → Q (items.toList.take i ++ [.ref g.objs.size] ++ (items.toList.drop i).drop (items.size + 1 - n)) { s with heap := g.push { cls := .type "list", data := .seq ((items.toList.drop i).take (items.size + 1 - n)).toArray }, toks := tk }) :
    wpAny (model prog w) A (unpackItems (.ref l) n (some i)) Q E s := by
  have apart : l ≠ s.heap.objs.size := by
    obtain ⟨o, ho, _⟩ := hl
    exact Nat.ne_of_lt (Heap.lt_size ho)
  unfold unpackItems notIterableAtAll
  refine wpAny_bind (wpAny_bind (wpAny_specialOf hl.typeIs slot_tuple_iter.lookup (wpAny_pure ?_)))
  simp only [Option.isSome, Bool.false_eq_true, if_false, if_true]
  refine wpAny_bind (wpAny_holding (iter_tuple hl (wpAny_bind (wpAny_holding ?_))))
  refine draw_tuple apart i 0 _ _ ⟨_, Heap.get?_push_size _ rfl, rfl, rfl⟩ (hl.push _) (by omega) fun g1 it1 bt1 => ?_
  have tup1 : IsTup g1 l items := (hl.push _).extBut bt1.extBut apart
  rw [Nat.zero_add] at it1
  obtain ⟨oi, hoi, -⟩ := id it1
  obtain ⟨ol, hol, -⟩ := id tup1
  rw [List.drop_zero]
  have n1 : (items.toList.take i).length = i := by
    rw [List.length_take, Array.length_toList]
    omega
  rw [if_neg (by rw [n1]; exact Nat.lt_irrefl i)]
  refine wpAny_bind (wpAny_holding (kun_collect (T := "tuple_iterator") (.inr (.inr (.inr rfl))) (Walks.tuple (A := A.in1) hh s.heap.objs.size l apart items) (fun _ _ st => st.1.typeIs) (k := i) (by omega) ⟨it1, tup1⟩ (Heap.lt_size hoi) (Heap.lt_size hol) (fun g2 tk k2 => ?_) (by rw [sizeLine_eq]; omega)))
  have n2 : (items.toList.drop i).length = items.size - i := by rw [List.length_drop, Array.length_toList]
  rw [if_neg (show ¬ (items.toList.drop i).length < n - 1 - i by rw [n2]; omega), show (items.toList.drop i).length - (n - 1 - i) = items.size + 1 - n by rw [n2]; omega]
  refine wpAny_bind (wpAny_newList (wpAny_pure ?_) (by rw [List.length_take, n2, sizeLine_eq]; omega))
  exact then_ g2 tk fun b o nb e => k2 b o nb (bt1.extBut b o nb (Heap.get?_push_of_some _ e))
end
/-- *more, last = a tuple -/
def gStarL (K : PySem.W.Frag) (t : TGs) : TG := fun v σ H Q => ∃ (a : Addr) (y : V) (xs : List V), v = .ref a ∧ SqT K H a (xs ++ [y]) ∧ xs.length ≤ 1000 ∧ ∀ p, H p = none → t [.ref p, y] σ (upd H p (.lst xs)) Q
theorem vals_last : ∀ {xs : List V} {y : V} {us : List Value}, Vals (xs ++ [y]) us → ∃ us' u, us = us' ++ [u] ∧ Vals xs us' ∧ RelV y u
  | [], _, _, .cons a .nil => ⟨[], _, rfl, .nil, a⟩
  | _ :: xs, _, _, .cons a r => by
    obtain ⟨us', u, rfl, r1, r2⟩ := vals_last (xs := xs) r
    exact ⟨_ :: us', u, rfl, .cons a r1, r2⟩
theorem pg_starL {X : Cx} {e f : Expr} {sp pos : Pos} {k : Nat} {t : TGs} (hc : X.calm = true) (h : PGs X [f, e] t)
    (two : (assignEach [.Starred f sp, e] X.env).length = 2 := by rfl) (at0 : (assignEach [.Starred f sp, e] X.env).findIdx? (·.1) = some 0 := by rfl) (alike : (assignEach [.Starred f sp, e] X.env).map (·.2) = (assignEach [f, e] X.env).map (·.2) := by rfl) : PG X (.Tuple [.Starred f sp, e] k pos) (gStarL X.K t) := by
  refine ⟨fun pins s σ H v u Q I r hw => ?_⟩
  obtain ⟨a, y, xs, rfl, hq, hl, hw⟩ := hw
  cases r
  obtain ⟨its, rv, pl, hz⟩ := I.tuple hq
  obtain ⟨us, u0, rfl, rxs, ry⟩ := vals_last rv
  have lx := rxs.length
  have sz : (us ++ [u0]).toArray.size = us.length + 1 := by simp
  rw [PyProof.Rows.assign_Tuple]
  refine wpAny_bind (wpAny_standAt ?_)
  unfold unpack
  rw [two, at0, alike]
  refine wpAny_bind (wpAny_holding (star_runT (l := a) (items := (us ++ [u0]).toArray) pl (I.ok.hd hc) (by decide) (by rw [sz]; omega) (by rw [sz]; omega) (fun g tk kp => ?_)))
  have e1 : ((us ++ [u0]).toArray.toList.drop 0).take ((us ++ [u0]).toArray.size + 1 - 2) = us := by
    rw [sz, List.drop_zero]
    simp
  have e2 : ((us ++ [u0]).toArray.toList.drop 0).drop ((us ++ [u0]).toArray.size + 1 - 2) = [u0] := by
    rw [sz, List.drop_zero]
    simp
  rw [e1, e2]
  have I1 : Inv X pins σ H { s with heap := g, toks := tk } := I.kept fun b o e => kp b o (Nat.ne_of_lt (Heap.lt_size e)) e
  have nf : H g.objs.size = none := I1.hok.fresh (Nat.le_refl _)
  have I2 := I1.laid (a := g.objs.size) (o := .lst xs) (t' := tk) (fun b z e => Heap.get?_push_of_some _ e) (Nat.le_refl _) ⟨Nat.le_trans (show xs.length ≤ 1000 from hl) (by rw [sizeLine_eq]; decide), us, 0, rxs, Heap.get?_push_size _ rfl⟩
  exact h.run pins _ σ _ [.ref g.objs.size, y] [.ref g.objs.size, u0] Q I2 (.cons rfl (.cons ry .nil)) (hw _ nf)
end Us

set_option maxRecDepth 100000
set_option maxHeartbeats 4000000
/-! manifests as texts -/
namespace Tx
open PySem PySem.Builtin PySem.Builtin.Str PySem.StrLaws PySem.Spec PyProof.Rows L2 TL
def num (n : Int) : Str := Str.ofString (toString n)
theorem tl_numI {n : Int} (h : 0 ≤ n) : tl (num n) = numL n.toNat := by
  have e := tl_num n.toNat
  rw [Int.toNat_of_nonneg h] at e
  exact e
theorem num_free {n : Int} (h : 0 ≤ n) {s : Nat} (hs : s < 48 ∨ 57 < s) : s ∉ tl (num n) := by
  rw [tl_numI h]
  exact numL_free hs
theorem num_len {n : Int} (h : 0 ≤ n) (h1 : n < 10000) : (num n).length ≤ 4 := by
  rw [len_tl, tl_numI h]
  exact numL_len (by decide) (by omega)
theorem num_pos {n : Int} (h : 0 ≤ n) : 0 < (num n).length := by
  rw [len_tl, tl_numI h]
  exact List.length_pos_iff.mpr (numL_ne _)
theorem num_log {n : Int} (h : 0 ≤ n) (h1 : n < 10000) : n.natAbs.log2 < 1920 := by
  by_cases h0 : n.natAbs = 0
  · rw [h0]
    exact Nat.lt_of_le_of_lt (Nat.le_of_eq (by simp)) (by decide : 0 < 1920)
  · exact Nat.lt_trans ((Nat.log2_lt h0).mpr (show n.natAbs < 2 ^ 14 by omega)) (by decide)
theorem num_int {n : Int} (h : 0 ≤ n) (h1 : n < 10000) : PySem.intText? (num n) = some n := by
  have z := num_len h h1
  rw [len_tl, tl_numI h] at z
  have e := int_num (n := n.toNat) (by omega)
  rw [Int.toNat_of_nonneg h] at e
  exact e
theorem all_tl (x : Str) (p : Nat → Bool) : x.cps.all p = (tl x).all p := by
  unfold tl
  rw [Array.all_toList]
theorem dig : ∀ c, c < 58 → 48 ≤ c → Unicode.isDigit c = true := by decide +kernel
theorem num_ascii {n : Int} (h : 0 ≤ n) : Txt.isascii (num n) = true := by
  unfold Txt.isascii
  rw [all_tl, List.all_eq_true]
  intro c hc
  rw [tl_numI h] at hc
  have := numL_digits _ c hc
  exact decide_eq_true (by omega)
theorem num_digit {n : Int} (h : 0 ≤ n) : Txt.isdigit (num n) = true := by
  unfold Txt.isdigit
  rw [all_tl, Bool.and_eq_true, List.all_eq_true]
  refine ⟨decide_eq_true (num_pos h), fun c hc => ?_⟩
  rw [tl_numI h] at hc
  have := numL_digits _ c hc
  exact dig c (by omega) this.1
/-- no needless 0 -/
theorem numL_head : ∀ (n : Nat), 0 < n → ∀ r, numL n ≠ 48 :: r := by
  intro n
  induction n using Nat.strongRecOn with
  | _ n ih =>
    intro h0 r
    by_cases h : n < 10
    · rw [numL_lt h]
      intro e
      injection e with e _
      omega
    · rw [numL_step (by omega)]
      intro e
      cases hr : numL (n / 10) with
      | nil => exact numL_ne _ hr
      | cons c rr =>
        rw [hr] at e
        injection e with e _
        subst e
        exact ih (n / 10) (by omega) (by omega) rr hr
theorem starts_pre {x y : Str} (hy : tl y ≠ []) : Txt.startswith x y = pre (tl y) (tl x) := by
  have z := at_iff (x := x) hy 0
  rw [List.drop_zero] at z
  unfold At at z
  unfold Txt.startswith
  cases h : pre (tl y) (tl x) with
  | true =>
    obtain ⟨h1, h2⟩ := z.mpr h
    rw [h2, Bool.and_true]
    exact decide_eq_true h1
  | false =>
    rw [Bool.eq_false_iff]
    intro e
    rw [Bool.and_eq_true] at e
    have := z.mp ⟨of_decide_eq_true e.1, e.2⟩
    rw [h] at this
    cases this
theorem tl_zero : tl ("0" : Str) = [48] := by decide +kernel
theorem num_start {n : Int} (h : 0 < n) : Txt.startswith (num n) "0" = false := by
  rw [starts_pre (by rw [tl_zero]; simp), tl_zero, tl_numI (by omega)]
  cases hr : numL n.toNat with
  | nil => rfl
  | cons c rr =>
    show (([c] : List Nat) == [48]) = false
    rw [beq_eq_false_iff_ne]
    intro e
    injection e with e _
    subst e
    exact numL_head _ (by omega) _ hr
theorem num_zero : (num 0).length = 1 := by
  rw [len_tl, tl_numI (by decide)]
  rfl
/-- a name's word, a manifest's words, its text -/
def title (t : Int × Int × Int) : Str := Txt.join "," [num t.1, num t.2.1, num t.2.2]
def nums (a b c d e f : Int) : List Str := [num a, num b, num c, num d, num e, num f]
def words (a b c d e f : Int) (ts : List (Int × Int × Int)) : List Str := "picture" :: (nums a b c d e f ++ ts.map title)
def text (a b c d e f : Int) (ts : List (Int × Int × Int)) : Str := Txt.join " " (words a b c d e f ts)
def Rg (n : Int) : Prop := 0 ≤ n ∧ n < 10000
def RgT (t : Int × Int × Int) : Prop := Rg t.1 ∧ Rg t.2.1 ∧ Rg t.2.2
theorem tl_comma : tl ("," : Str) = [44] := by decide +kernel
theorem tl_blank : tl (" " : Str) = [32] := by decide +kernel
theorem tl_picture : tl ("picture" : Str) = [112, 105, 99, 116, 117, 114, 101] := by decide +kernel
theorem title_split {t : Int × Int × Int} (h : RgT t) : Txt.split (title t) "," = [num t.1, num t.2.1, num t.2.2] :=
  split_join tl_comma (by decide +kernel) (by simp) fun p hp => by
    simp only [List.mem_cons, List.not_mem_nil, or_false] at hp
    rcases hp with rfl | rfl | rfl
    · exact num_free h.1.1 (.inl (by decide))
    · exact num_free h.2.1.1 (.inl (by decide))
    · exact num_free h.2.2.1 (.inl (by decide))
theorem tl_title (t : Int × Int × Int) : tl (title t) = tl (num t.1) ++ ([44] ++ (tl (num t.2.1) ++ ([44] ++ tl (num t.2.2)))) := by
  unfold title
  rw [join_eq, tl_join, tl_comma]
  rfl
theorem title_free {t : Int × Int × Int} (h : RgT t) : 32 ∉ tl (title t) := by
  rw [tl_title]
  simp only [List.mem_append, List.mem_singleton, not_or]
  exact ⟨num_free h.1.1 (.inl (by decide)), by decide, num_free h.2.1.1 (.inl (by decide)), by decide, num_free h.2.2.1 (.inl (by decide))⟩
theorem title_len {t : Int × Int × Int} (h : RgT t) : (title t).length ≤ 14 := by
  rw [len_tl, tl_title]
  have h1 := num_len h.1.1 h.1.2
  have h2 := num_len h.2.1.1 h.2.1.2
  have h3 := num_len h.2.2.1 h.2.2.2
  rw [len_tl] at h1 h2 h3
  simp only [List.length_append, List.length_singleton]
  omega
section
variable {a b c d e f : Int} {ts : List (Int × Int × Int)}
theorem text_split (ha : Rg a) (hb : Rg b) (hc : Rg c) (hd : Rg d) (he : Rg e) (hf : Rg f) (ht : ∀ t ∈ ts, RgT t) : Txt.split (text a b c d e f ts) " " = words a b c d e f ts :=
  split_join tl_blank (by decide +kernel) (by simp [words]) fun p hp => by
    simp only [words, nums, List.mem_cons, List.mem_append, List.not_mem_nil, or_false, List.mem_map] at hp
    rcases hp with rfl | (rfl | rfl | rfl | rfl | rfl | rfl) | ⟨t, hm, rfl⟩
    · rw [tl_picture]
      decide
    · exact num_free ha.1 (.inl (by decide))
    · exact num_free hb.1 (.inl (by decide))
    · exact num_free hc.1 (.inl (by decide))
    · exact num_free hd.1 (.inl (by decide))
    · exact num_free he.1 (.inl (by decide))
    · exact num_free hf.1 (.inl (by decide))
    · exact title_free (ht t hm)
end
theorem comma_len : ("," : Str).length = 1 := by decide +kernel
theorem blank_len : (" " : Str).length = 1 := by decide +kernel
theorem picture_len : ("picture" : Str).length = 7 := by decide +kernel
theorem titles_sum : ∀ (ts : List (Int × Int × Int)), (∀ t ∈ ts, RgT t) → ((ts.map title).map (·.length)).sum ≤ 14 * ts.length
  | [], _ => Nat.zero_le _
  | t :: r, h => by
    have h1 := title_len (h t List.mem_cons_self)
    have h2 := titles_sum r fun z hz => h z (List.mem_cons_of_mem _ hz)
    show (title t).length + ((r.map title).map (·.length)).sum ≤ 14 * (r.length + 1)
    omega
section
variable {a b c d e f : Int} {ts : List (Int × Int × Int)}
theorem words_sum (ha : Rg a) (hb : Rg b) (hc : Rg c) (hd : Rg d) (he : Rg e) (hf : Rg f) (ht : ∀ t ∈ ts, RgT t) (hl : ts.length ≤ 4) : ((words a b c d e f ts).map (·.length)).sum + (words a b c d e f ts).length * (" " : Str).length ≤ 1000 := by
  have h1 := num_len ha.1 ha.2
  have h2 := num_len hb.1 hb.2
  have h3 := num_len hc.1 hc.2
  have h4 := num_len hd.1 hd.2
  have h5 := num_len he.1 he.2
  have h6 := num_len hf.1 hf.2
  have h7 := titles_sum ts ht
  have e1 : ((words a b c d e f ts).map (·.length)).sum = ("picture" : Str).length + ((num a).length + ((num b).length + ((num c).length + ((num d).length + ((num e).length + ((num f).length + ((ts.map title).map (·.length)).sum)))))) := rfl
  have e2 : (words a b c d e f ts).length = 7 + ts.length := by
    show (num a :: num b :: num c :: num d :: num e :: num f :: ts.map title).length + 1 = _
    simp only [List.length_cons, List.length_map]
    omega
  rw [e1, e2, blank_len, picture_len]
  omega
end
theorem joinL_len (S : List Nat) : ∀ (ps : List (List Nat)), (joinL S ps).length ≤ (ps.map (·.length)).sum + ps.length * S.length
  | [] => Nat.zero_le _
  | [p] => by
    show p.length ≤ (p.length + 0) + 1 * S.length
    omega
  | p :: q :: r => by
    have h := joinL_len S (q :: r)
    show (p ++ (S ++ joinL S (q :: r))).length ≤ (p.length + ((q :: r).map (·.length)).sum) + ((q :: r).length + 1) * S.length
    rw [List.length_append, List.length_append, Nat.add_mul]
    omega
theorem join_len (y : Str) (ps : List Str) : (Txt.join y ps).length ≤ (ps.map (·.length)).sum + ps.length * y.length := by
  have h := joinL_len (tl y) (ps.map tl)
  rw [join_eq, len_tl, tl_join, len_tl y]
  rw [List.map_map, List.length_map] at h
  have e : ps.map (List.length ∘ tl) = ps.map (·.length) := List.map_congr_left fun x _ => (len_tl x).symm
  rw [show ((fun x => x.length) ∘ tl : Str → Nat) = List.length ∘ tl from rfl, e] at h
  exact h
/-- what stands at a word's place -/
theorem words_at {a b c d e f : Int} {ts : List (Int × Int × Int)} (ha : Rg a) (hb : Rg b) (hc : Rg c) (hd : Rg d) (he : Rg e) (hf : Rg f) (ht : ∀ t ∈ ts, RgT t) {i : Nat} {wd : Str} (h : (words a b c d e f ts)[i]? = some wd) :
    (i = 0 ∧ wd = "picture") ∨ (1 ≤ i ∧ i ≤ 6 ∧ ∃ n, Rg n ∧ wd = num n) ∨ (7 ≤ i ∧ ∃ t, RgT t ∧ wd = title t) := by
  match i, h with
  | 0, h => exact .inl ⟨rfl, (Option.some.inj h).symm⟩
  | 1, h => exact .inr (.inl ⟨by decide, by decide, a, ha, (Option.some.inj h).symm⟩)
  | 2, h => exact .inr (.inl ⟨by decide, by decide, b, hb, (Option.some.inj h).symm⟩)
  | 3, h => exact .inr (.inl ⟨by decide, by decide, c, hc, (Option.some.inj h).symm⟩)
  | 4, h => exact .inr (.inl ⟨by decide, by decide, d, hd, (Option.some.inj h).symm⟩)
  | 5, h => exact .inr (.inl ⟨by decide, by decide, e, he, (Option.some.inj h).symm⟩)
  | 6, h => exact .inr (.inl ⟨by decide, by decide, f, hf, (Option.some.inj h).symm⟩)
  | j + 7, h =>
    have h : (ts.map title)[j]? = some wd := h
    rw [List.getElem?_map] at h
    cases hj : ts[j]? with
    | none =>
      rw [hj] at h
      cases h
    | some t =>
      rw [hj] at h
      exact .inr (.inr ⟨by omega, t, ht t (List.mem_of_getElem? hj), (Option.some.inj h).symm⟩)
end Tx

set_option maxRecDepth 100000
set_option maxHeartbeats 4000000
/-! where a comprehension stands within another one: its scope, found by a path -/
namespace Nl
open PySem L2
def kids : Expr → List Expr
  | .Call f xs _ _ => f :: xs
  | .Attribute e _ _ => [e]
  | .BinOp l _ r _ => [l, r]
  | .ListComp e gs _ _ => e :: gs.map (·.iter)
  | .Starred e _ => [e]
  | .List es _ => es
  | .Tuple es _ _ => es
  | .Subscript v s _ => [v, s]
  | _ => []
def down : Expr → List Nat → Expr
  | e, [] => e
  | e, i :: r => match (kids e)[i]? with
    | some x => down x r
    | none => e
def val : Stmt → Expr
  | .Assign _ e _ => e
  | .Return (some e) _ => e
  | .Expr e _ => e
  | _ => .Tuple [] 0 ⟨0, 0, 0, 0⟩
def sc (s : Stmt) (k : Nat) (path : List Nat) : Scope := match down (val ((defBody s).getD k (.Pass ⟨0, 0, 0, 0⟩))) path with
  | .ListComp _ _ x _ => x
  | _ => defScope s
/-! ### rules that name K -/
section
variable {X : Cx} {K : PySem.W.Frag} {tg : Expr}
theorem pi_listK (hK : X.K = K) {l : Expr} {tl : TE} (hl : PE X l tl) : PI X tg l (iList K tl) := hK ▸ pi_list hl
theorem pi_tupK (hK : X.K = K) {l : Expr} {tl : TE} (hl : PE X l tl) : PI X tg l (iTup K tl) := hK ▸ pi_tup hl
def rJoin (K : PySem.W.Frag) : V → List V → Hp → VK → Prop := fun x xs H Q => ∃ (a : Str) (p : Addr) (ys : List Str), x = .str a ∧ xs = [.ref p] ∧ (SqL K H p (ys.map V.str) ∨ SqT K H p (ys.map V.str)) ∧
  (ys.map (·.length)).sum + ys.length * a.length ≤ 16777216 ∧ Q (.str (Txt.join a ys)) H
theorem mt_joinK (hK : X.K = K) : MtR X "str.join" (rJoin K) := hK ▸ mt_join
end
end Nl

set_option maxRecDepth 100000
set_option maxHeartbeats 4000000
set_option pp.maxSteps 1500
namespace K30
open PySem PySem.Spec PyProof.Rows L2
def topS (i : Nat) : Stmt := PySem.Challenge.pw_twoimages_k30_written_and_read.main.body.getD i (.Pass ⟨0, 0, 0, 0⟩)
abbrev s_is_number : Stmt := topS 6
abbrev N_is_number : List Str := ["thing", "least", "most"]
abbrev P_is_number : List Str := ["thing", "least", "most"]
theorem sc_is_number : FnScope N_is_number P_is_number (defScope s_is_number) := ⟨rfl, rfl, rfl, by decide +kernel, rfl, by decide +kernel, by decide +kernel⟩
abbrev s_is_row : Stmt := topS 7
abbrev N_is_row : List Str := ["thing", "least", "most", "worth"]
abbrev P_is_row : List Str := ["thing", "least", "most"]
theorem sc_is_row : FnScope N_is_row P_is_row (defScope s_is_row) := ⟨rfl, rfl, rfl, by decide +kernel, rfl, by decide +kernel, by decide +kernel⟩
abbrev s_joined : Stmt := topS 10
abbrev N_joined : List Str := ["parts", "one", "two", "part_one", "part_two", "many"]
abbrev P_joined : List Str := ["parts"]
theorem sc_joined : FnScope N_joined P_joined (defScope s_joined) := ⟨rfl, rfl, rfl, by decide +kernel, rfl, by decide +kernel, by decide +kernel⟩
abbrev s_check_manifest : Stmt := topS 17
abbrev N_check_manifest : List Str := ["manifest", "version", "length", "one", "two", "number", "sealed", "names"]
abbrev P_check_manifest : List Str := ["manifest"]
theorem sc_check_manifest : FnScope N_check_manifest P_check_manifest (defScope s_check_manifest) := ⟨rfl, rfl, rfl, by decide +kernel, rfl, by decide +kernel, by decide +kernel⟩
abbrev s_are_names : Stmt := topS 18
abbrev N_are_names : List Str := ["names", "length", "counts", "title", "at"]
abbrev P_are_names : List Str := ["names", "length"]
theorem sc_are_names : FnScope N_are_names P_are_names (defScope s_are_names) := ⟨rfl, rfl, rfl, by decide +kernel, rfl, by decide +kernel, by decide +kernel⟩
abbrev s_written : Stmt := topS 23
abbrev N_written : List Str := ["manifest", "numbers", "names", "titles", "title", "number"]
abbrev P_written : List Str := ["manifest"]
theorem sc_written : FnScope N_written P_written (defScope s_written) := ⟨rfl, rfl, rfl, by decide +kernel, rfl, by decide +kernel, by decide +kernel⟩
abbrev s_read : Stmt := topS 24
abbrev N_read : List Str := ["text", "words", "place", "word", "_", "rest", "numbers", "names", "manifest", "part"]
abbrev P_read : List Str := ["text"]
theorem sc_read : FnScope N_read P_read (defScope s_read) := ⟨rfl, rfl, rfl, by decide +kernel, rfl, by decide +kernel, by decide +kernel⟩
abbrev s_can_stand : Stmt := topS 25
abbrev N_can_stand : List Str := ["word", "place", "parts", "part"]
abbrev P_can_stand : List Str := ["word", "place"]
theorem sc_can_stand : FnScope N_can_stand P_can_stand (defScope s_can_stand) := ⟨rfl, rfl, rfl, by decide +kernel, rfl, by decide +kernel, by decide +kernel⟩
abbrev s_is_written_number : Stmt := topS 26
abbrev N_is_written_number : List Str := ["word"]
abbrev P_is_written_number : List Str := ["word"]
theorem sc_is_written_number : FnScope N_is_written_number P_is_written_number (defScope s_is_written_number) := ⟨rfl, rfl, rfl, by decide +kernel, rfl, by decide +kernel, by decide +kernel⟩
abbrev s_l_taken : Stmt := topS 28
abbrev N_l_taken : List Str := ["_law_row", "_law_many", "_law_found", "_law_cell"]
abbrev P_l_taken : List Str := ["_law_row", "_law_many"]
theorem sc_l_taken : FnScope N_l_taken P_l_taken (defScope s_l_taken) := ⟨rfl, rfl, rfl, by decide +kernel, rfl, by decide +kernel, by decide +kernel⟩
abbrev s_l_alike : Stmt := topS 29
abbrev N_l_alike : List Str := ["_law_found", "_law_due", "_law_k"]
abbrev P_l_alike : List Str := ["_law_found", "_law_due"]
theorem sc_l_alike : FnScope N_l_alike P_l_alike (defScope s_l_alike) := ⟨rfl, rfl, rfl, by decide +kernel, rfl, by decide +kernel, by decide +kernel⟩
abbrev s_l_worth : Stmt := topS 30
abbrev N_l_worth : List Str := ["_law_row"]
abbrev P_l_worth : List Str := ["_law_row"]
theorem sc_l_worth : FnScope N_l_worth P_l_worth (defScope s_l_worth) := ⟨rfl, rfl, rfl, by decide +kernel, rfl, by decide +kernel, by decide +kernel⟩
abbrev s_l_sums : Stmt := topS 31
abbrev N_l_sums : List Str := ["_law_some", "_law_one", "_law_two", "_law_number", "_law_k"]
abbrev P_l_sums : List Str := ["_law_some"]
theorem sc_l_sums : FnScope N_l_sums P_l_sums (defScope s_l_sums) := ⟨rfl, rfl, rfl, by decide +kernel, rfl, by decide +kernel, by decide +kernel⟩
abbrev s_l_seal : Stmt := topS 32
abbrev N_l_seal : List Str := ["_law_key", "_law_some", "_law_found", "_law_power", "_law_number"]
abbrev P_l_seal : List Str := ["_law_key", "_law_some"]
theorem sc_l_seal : FnScope N_l_seal P_l_seal (defScope s_l_seal) := ⟨rfl, rfl, rfl, by decide +kernel, rfl, by decide +kernel, by decide +kernel⟩
abbrev s_l_title : Stmt := topS 33
abbrev N_l_title : List Str := ["_law_piece", "_law_both"]
abbrev P_l_title : List Str := ["_law_piece"]
theorem sc_l_title : FnScope N_l_title P_l_title (defScope s_l_title) := ⟨rfl, rfl, rfl, by decide +kernel, rfl, by decide +kernel, by decide +kernel⟩
abbrev s_l_pieces : Stmt := topS 34
abbrev N_l_pieces : List Str := ["_law_some", "_law_k"]
abbrev P_l_pieces : List Str := ["_law_some"]
theorem sc_l_pieces : FnScope N_l_pieces P_l_pieces (defScope s_l_pieces) := ⟨rfl, rfl, rfl, by decide +kernel, rfl, by decide +kernel, by decide +kernel⟩
abbrev s_l_head : Stmt := topS 35
abbrev N_l_head : List Str := ["_law_keys_here", "_law_picture_here", "_law_version", "_law_cells", "_law_number", "_law_plain"]
abbrev P_l_head : List Str := ["_law_keys_here", "_law_picture_here"]
theorem sc_l_head : FnScope N_l_head P_l_head (defScope s_l_head) := ⟨rfl, rfl, rfl, by decide +kernel, rfl, by decide +kernel, by decide +kernel⟩
abbrev s_l_manifest : Stmt := topS 36
abbrev N_l_manifest : List Str := ["_law_keys_here", "_law_picture_here", "_law_piece"]
abbrev P_l_manifest : List Str := ["_law_keys_here", "_law_picture_here"]
theorem sc_l_manifest : FnScope N_l_manifest P_l_manifest (defScope s_l_manifest) := ⟨rfl, rfl, rfl, by decide +kernel, rfl, by decide +kernel, by decide +kernel⟩
abbrev s_l_keys : Stmt := topS 37
abbrev N_l_keys : List Str := ["_law_row", "_law_k"]
abbrev P_l_keys : List Str := ["_law_row"]
theorem sc_l_keys : FnScope N_l_keys P_l_keys (defScope s_l_keys) := ⟨rfl, rfl, rfl, by decide +kernel, rfl, by decide +kernel, by decide +kernel⟩
abbrev s_l_picture : Stmt := topS 38
abbrev N_l_picture : List Str := ["_law_row", "_law_keys_here", "_law_most", "_law_cells", "_law_k"]
abbrev P_l_picture : List Str := ["_law_row", "_law_keys_here", "_law_most"]
theorem sc_l_picture : FnScope N_l_picture P_l_picture (defScope s_l_picture) := ⟨rfl, rfl, rfl, by decide +kernel, rfl, by decide +kernel, by decide +kernel⟩
abbrev s_l_text : Stmt := topS 39
abbrev N_l_text : List Str := ["_law_manifest_here", "_law_words", "_law_number", "_law_title_here"]
abbrev P_l_text : List Str := ["_law_manifest_here"]
theorem sc_l_text : FnScope N_l_text P_l_text (defScope s_l_text) := ⟨rfl, rfl, rfl, by decide +kernel, rfl, by decide +kernel, by decide +kernel⟩
abbrev s_law : Stmt := topS 40
abbrev N_law : List Str := ["_law_script", "_law_row", "_law_some", "_law_k", "_law_keys_here", "_law_manifest_here", "_law_text_here"]
abbrev P_law : List Str := ["_law_script"]
theorem sc_law : FnScope N_law P_law (defScope s_law) := ⟨rfl, rfl, rfl, by decide +kernel, rfl, by decide +kernel, by decide +kernel⟩
structure Ad where
  f_is_number : Addr
  d_is_number : FuncData
  f_is_row : Addr
  d_is_row : FuncData
  f_joined : Addr
  d_joined : FuncData
  f_check_manifest : Addr
  d_check_manifest : FuncData
  f_are_names : Addr
  d_are_names : FuncData
  f_written : Addr
  d_written : FuncData
  f_read : Addr
  d_read : FuncData
  f_can_stand : Addr
  d_can_stand : FuncData
  f_is_written_number : Addr
  d_is_written_number : FuncData
  f_l_taken : Addr
  d_l_taken : FuncData
  f_l_alike : Addr
  d_l_alike : FuncData
  f_l_worth : Addr
  d_l_worth : FuncData
  f_l_sums : Addr
  d_l_sums : FuncData
  f_l_seal : Addr
  d_l_seal : FuncData
  f_l_title : Addr
  d_l_title : FuncData
  f_l_pieces : Addr
  d_l_pieces : FuncData
  f_l_head : Addr
  d_l_head : FuncData
  f_l_manifest : Addr
  d_l_manifest : FuncData
  f_l_keys : Addr
  d_l_keys : FuncData
  f_l_picture : Addr
  d_l_picture : FuncData
  f_l_text : Addr
  d_l_text : FuncData
  f_law : Addr
  d_law : FuncData
  t_FIRST_WORD : Tok
  t_GREATEST_VERSION : Tok
  t_GREATEST_WORTH : Tok
  t_MOST_FIGURES : Tok
  t_MOST_KEYS : Tok
  t_MOST_LENGTH : Tok
  t_NAME_PARTS : Tok
  t_NUMBERS : Tok
  t_PIECE_CELLS : Tok
  t_RESTS_BY : Tok
structure Top (K : PySem.W.Frag) (mg : Str → Option Value) (a : Ad) : Prop where
  F_is_number : Fun K "is_number" "is_number" s_is_number a.f_is_number a.d_is_number
  B_is_number : Binds K a.d_is_number P_is_number []
  g_is_number : mg "is_number" = some (.ref a.f_is_number)
  F_is_row : Fun K "is_row" "is_row" s_is_row a.f_is_row a.d_is_row
  B_is_row : Binds K a.d_is_row P_is_row []
  g_is_row : mg "is_row" = some (.ref a.f_is_row)
  F_joined : Fun K "joined" "joined" s_joined a.f_joined a.d_joined
  B_joined : Binds K a.d_joined P_joined []
  g_joined : mg "joined" = some (.ref a.f_joined)
  F_check_manifest : Fun K "check_manifest" "check_manifest" s_check_manifest a.f_check_manifest a.d_check_manifest
  B_check_manifest : Binds K a.d_check_manifest P_check_manifest []
  g_check_manifest : mg "check_manifest" = some (.ref a.f_check_manifest)
  F_are_names : Fun K "are_names" "are_names" s_are_names a.f_are_names a.d_are_names
  B_are_names : Binds K a.d_are_names P_are_names []
  g_are_names : mg "are_names" = some (.ref a.f_are_names)
  F_written : Fun K "written" "written" s_written a.f_written a.d_written
  B_written : Binds K a.d_written P_written []
  g_written : mg "written" = some (.ref a.f_written)
  F_read : Fun K "read" "read" s_read a.f_read a.d_read
  B_read : Binds K a.d_read P_read []
  g_read : mg "read" = some (.ref a.f_read)
  F_can_stand : Fun K "can_stand" "can_stand" s_can_stand a.f_can_stand a.d_can_stand
  B_can_stand : Binds K a.d_can_stand P_can_stand []
  g_can_stand : mg "can_stand" = some (.ref a.f_can_stand)
  F_is_written_number : Fun K "is_written_number" "is_written_number" s_is_written_number a.f_is_written_number a.d_is_written_number
  B_is_written_number : Binds K a.d_is_written_number P_is_written_number []
  g_is_written_number : mg "is_written_number" = some (.ref a.f_is_written_number)
  F_l_taken : Fun K "_law_taken" "_law_taken" s_l_taken a.f_l_taken a.d_l_taken
  B_l_taken : Binds K a.d_l_taken P_l_taken []
  g_l_taken : mg "_law_taken" = some (.ref a.f_l_taken)
  F_l_alike : Fun K "_law_alike" "_law_alike" s_l_alike a.f_l_alike a.d_l_alike
  B_l_alike : Binds K a.d_l_alike P_l_alike []
  g_l_alike : mg "_law_alike" = some (.ref a.f_l_alike)
  F_l_worth : Fun K "_law_worth" "_law_worth" s_l_worth a.f_l_worth a.d_l_worth
  B_l_worth : Binds K a.d_l_worth P_l_worth []
  g_l_worth : mg "_law_worth" = some (.ref a.f_l_worth)
  F_l_sums : Fun K "_law_sums" "_law_sums" s_l_sums a.f_l_sums a.d_l_sums
  B_l_sums : Binds K a.d_l_sums P_l_sums []
  g_l_sums : mg "_law_sums" = some (.ref a.f_l_sums)
  F_l_seal : Fun K "_law_seal" "_law_seal" s_l_seal a.f_l_seal a.d_l_seal
  B_l_seal : Binds K a.d_l_seal P_l_seal []
  g_l_seal : mg "_law_seal" = some (.ref a.f_l_seal)
  F_l_title : Fun K "_law_title" "_law_title" s_l_title a.f_l_title a.d_l_title
  B_l_title : Binds K a.d_l_title P_l_title []
  g_l_title : mg "_law_title" = some (.ref a.f_l_title)
  F_l_pieces : Fun K "_law_pieces" "_law_pieces" s_l_pieces a.f_l_pieces a.d_l_pieces
  B_l_pieces : Binds K a.d_l_pieces P_l_pieces []
  g_l_pieces : mg "_law_pieces" = some (.ref a.f_l_pieces)
  F_l_head : Fun K "_law_head" "_law_head" s_l_head a.f_l_head a.d_l_head
  B_l_head : Binds K a.d_l_head P_l_head []
  g_l_head : mg "_law_head" = some (.ref a.f_l_head)
  F_l_manifest : Fun K "_law_manifest" "_law_manifest" s_l_manifest a.f_l_manifest a.d_l_manifest
  B_l_manifest : Binds K a.d_l_manifest P_l_manifest []
  g_l_manifest : mg "_law_manifest" = some (.ref a.f_l_manifest)
  F_l_keys : Fun K "_law_keys" "_law_keys" s_l_keys a.f_l_keys a.d_l_keys
  B_l_keys : Binds K a.d_l_keys P_l_keys []
  g_l_keys : mg "_law_keys" = some (.ref a.f_l_keys)
  F_l_picture : Fun K "_law_picture" "_law_picture" s_l_picture a.f_l_picture a.d_l_picture
  B_l_picture : Binds K a.d_l_picture P_l_picture []
  g_l_picture : mg "_law_picture" = some (.ref a.f_l_picture)
  F_l_text : Fun K "_law_text" "_law_text" s_l_text a.f_l_text a.d_l_text
  B_l_text : Binds K a.d_l_text P_l_text []
  g_l_text : mg "_law_text" = some (.ref a.f_l_text)
  F_law : Fun K "law" "law" s_law a.f_law a.d_law
  B_law : Binds K a.d_law P_law []
  g_law : mg "law" = some (.ref a.f_law)
  b_all : mg "all" = none
  b_bool : mg "bool" = none
  b_enumerate : mg "enumerate" = none
  b_int : mg "int" = none
  b_isinstance : mg "isinstance" = none
  b_len : mg "len" = none
  b_list : mg "list" = none
  b_min : mg "min" = none
  b_range : mg "range" = none
  b_reversed : mg "reversed" = none
  b_str : mg "str" = none
  b_sum : mg "sum" = none
  b_tuple : mg "tuple" = none
  c_FIRST_WORD : mg "FIRST_WORD" = some (.str "picture" a.t_FIRST_WORD)
  c_GREATEST_VERSION : mg "GREATEST_VERSION" = some (.int 999 a.t_GREATEST_VERSION)
  c_GREATEST_WORTH : mg "GREATEST_WORTH" = some (.int 9972 a.t_GREATEST_WORTH)
  c_MOST_FIGURES : mg "MOST_FIGURES" = some (.int 4 a.t_MOST_FIGURES)
  c_MOST_KEYS : mg "MOST_KEYS" = some (.int 4 a.t_MOST_KEYS)
  c_MOST_LENGTH : mg "MOST_LENGTH" = some (.int 12 a.t_MOST_LENGTH)
  c_NAME_PARTS : mg "NAME_PARTS" = some (.int 3 a.t_NAME_PARTS)
  c_NUMBERS : mg "NUMBERS" = some (.int 6 a.t_NUMBERS)
  c_PIECE_CELLS : mg "PIECE_CELLS" = some (.int 3 a.t_PIECE_CELLS)
  c_RESTS_BY : mg "RESTS_BY" = some (.int 9973 a.t_RESTS_BY)
section
variable {P : Program} {w : World} {K : PySem.W.Frag} {mg : Str → Option Value} {base : Heap}
theorem G_l_taken {a : Ad} (T : Top K mg a) : FnOk P w K mg base CX0 1 a.f_l_taken a.d_l_taken P_l_taken (Dw.spTaken K) := by
  refine T.F_l_taken.ok sc_l_taken (fun vs H Q E h => ?_) (fun cdv A outer s H vs Q E hr h => ?_)
  · obtain ⟨_, _, _, _, _, rfl, _⟩ := h
    rfl
  · obtain ⟨H0, ns, sa, r, m, rfl, D, hm0, hm1, q⟩ := h
    obtain ⟨p, u, z, hR, hp, hu0, hu1⟩ := D.row
    have sR : SqL K H r [.ref sa, .int p, .int u, .int z] := Dw.sq_of hR
    refine ⟨_, (pss_cons (ps_if (pt_cmpR op_gt (pe_ix ix_list (pv 0) pe_int (fun _ _ => rfl)) pe_int (nomark _))
        (pss_cons (ps_set (i := 2) sc_l_taken.nd rfl (Or.inl rfl) (pe_op op_mod (pe_ix ix_list (pv 0) pe_int (fun _ _ => rfl)) (pv 1)))
      (pss_cons (ps_asg (pe_op op_fdiv (pe_ix ix_list (pv 0) pe_int (fun _ _ => rfl)) (pv 1)) (pg_sub (pv 0) pe_int set_list))
      (pss_one (ps_ret (pv 2)))))
        pss_nil)
      (pss_cons (ps_asg (pe_op op_add (pe_ix ix_list (pv 0) pe_int (fun _ _ => rfl)) pe_int) (pg_sub (pv 0) pe_int set_list))
      (pss_cons (ps_if (pt_cmpR op_gt (pe_ix ix_list (pv 0) pe_int (fun _ _ => rfl)) (pe_callB call_len_seq (by rfl) T.b_len PySem.boot_len (pa_cons (pe_ix ix_list (pv 0) pe_int (fun _ _ => rfl)) pa_nil)) (nomark _))
        (pss_cons (ps_asg (pe_op op_mod (pe_op op_add (pe_op op_mul (pe_ix ix_list (pv 0) pe_int (fun _ _ => rfl)) pe_int) pe_int) pe_int) (pg_sub (pv 0) pe_int set_list))
      (pss_one (ps_ret (pe_op op_mod (pe_op op_fdiv (pe_ix ix_list (pv 0) pe_int (fun _ _ => rfl)) pe_int) (pv 1)))))
        pss_nil)
      (pss_cons (ps_set (i := 3) sc_l_taken.nd rfl (Or.inl rfl) (pe_ix ix_list (pe_ix ix_list (pv 0) pe_int (fun _ _ => rfl)) (pe_op op_sub (pe_ix ix_list (pv 0) pe_int (fun _ _ => rfl)) pe_int) (fun _ _ => rfl)))
      (pss_cons (ps_asg (pe_op op_mod (pe_op op_add (pe_op op_add (pe_op op_mul (pe_ix ix_list (pv 0) pe_int (fun _ _ => rfl)) pe_int) (pv 3)) pe_int) pe_int) (pg_sub (pv 0) pe_int set_list))
      (pss_cons (ps_if (pt_cmpR op_ge (pv 3) (pe_op op_pow pe_int pe_int) (nomark _))
        (pss_one (ps_asg (pe_op op_fdiv (pv 3) (pv 1)) (pg_sub (pv 0) pe_int set_list)))
        pss_nil)
      (pss_one (ps_ret (pe_op op_mod (pv 3) (pv 1)))))))))), ?_⟩
    refine ⟨.ref r, rfl, r, _, 3, .int z, rfl, rfl, sR, atI_nat (j := 3) rfl, z, 0, rfl, rfl, _, rfl, ite2 (fun hz => ?_) (fun hz => ?_)⟩
    · refine ⟨.ref r, rfl, r, _, 3, .int z, rfl, rfl, sR, atI_nat (j := 3) rfl, .int m, rfl, z, m, rfl, rfl, hm0, ?_⟩
      refine ⟨.ref r, rfl, r, _, 3, .int z, rfl, rfl, sR, atI_nat (j := 3) rfl, .int m, rfl, z, m, rfl, rfl, ⟨hm0, hm1⟩, .ref r, rfl, r, _, 3, 3, rfl, rfl, hR, rfl, ?_⟩
      exact ⟨_, rfl, q (z % m) _ (D.put (p := p) (q := u) (z := z / m) hp hu0 hu1) Dw.Keep.put (Int.emod_nonneg _ (by omega)) (Int.emod_lt_of_pos _ hm0)⟩
    · -- the next cell
      refine ⟨.ref r, rfl, r, _, 1, .int p, rfl, rfl, sR, atI_nat (j := 1) rfl, p, 1, rfl, rfl, .ref r, rfl, r, _, 1, 1, rfl, rfl, hR, rfl, ?_⟩
      have D1 : Dw.Dr K H0 ns sa r (upd H r (.lst [.ref sa, .int (p + 1), .int u, .int z])) := D.put (by omega) hu0 hu1
      have sR1 : SqL K (upd H r (.lst [.ref sa, .int (p + 1), .int u, .int z])) r [.ref sa, .int (p + 1), .int u, .int z] := Dw.sq_of upd_same
      have hA : SqL K (upd H r (.lst [.ref sa, .int (p + 1), .int u, .int z])) sa (ns.map V.int) := D1.seq
      refine ⟨.ref r, rfl, r, _, 1, .int (p + 1), rfl, rfl, sR1, atI_nat (j := 1) rfl, .ref r, rfl, r, _, 0, .ref sa, rfl, rfl, sR1, atI_nat (j := 0) rfl, sa, _, rfl, .inl hA, p + 1, _, rfl, rfl, _, rfl, ite2 (fun hl => ?_) (fun hl => ?_)⟩
      · refine ⟨.ref r, rfl, r, _, 2, .int u, rfl, rfl, sR1, atI_nat (j := 2) rfl, u, 48271, rfl, rfl, .inr ⟨by decide, by decide⟩, u * 48271, 11, rfl, rfl, _, 2147483647, rfl, rfl, (by show (0 : Int) < 2147483647; decide), .ref r, rfl, r, _, 2, 2, rfl, rfl, upd_same, rfl, ?_⟩
        have D2 : Dw.Dr K H0 ns sa r (upd (upd H r (.lst [.ref sa, .int (p + 1), .int u, .int z])) r (.lst [.ref sa, .int (p + 1), .int ((u * 48271 + 11) % 2147483647), .int z])) := D1.put (by omega) (by omega) (by omega)
        refine ⟨.ref r, rfl, r, _, 2, .int ((u * 48271 + 11) % 2147483647), rfl, rfl, Dw.sq_of upd_same, atI_nat (j := 2) rfl, _, 7, rfl, rfl, ⟨by decide, by decide⟩, .int m, rfl, _, m, rfl, rfl, hm0, ?_⟩
        exact q _ _ D2 (Dw.Keep.put.trans Dw.Keep.put) (Int.emod_nonneg _ (by omega)) (Int.emod_lt_of_pos _ hm0)
      · have hlt : p < (ns.length : Int) := by
          have h1 := of_decide_eq_false (Bool.eq_false_iff.mpr hl)
          rw [List.length_map] at h1
          omega
        obtain ⟨c, hc⟩ : ∃ c, ns[p.toNat]? = some c := ⟨_, List.getElem?_eq_getElem (show p.toNat < ns.length by omega)⟩
        have hat : atI (ns.map V.int) (p + 1 - 1) = some (.int c) := at_of (j := p.toNat) (by omega) (by rw [List.getElem?_map, hc]; rfl)
        refine ⟨.ref r, rfl, r, _, 0, .ref sa, rfl, rfl, sR1, atI_nat (j := 0) rfl, .ref r, rfl, r, _, 1, .int (p + 1), rfl, rfl, sR1, atI_nat (j := 1) rfl, p + 1, 1, rfl, rfl, sa, _, _, _, rfl, rfl, hA, hat, ?_⟩
        refine ⟨.ref r, rfl, r, _, 2, .int u, rfl, rfl, sR1, atI_nat (j := 2) rfl, u, 48271, rfl, rfl, .inr ⟨by decide, by decide⟩, .int c, rfl, u * 48271, c, rfl, rfl, _, 11, rfl, rfl, _, 2147483647, rfl, rfl, (by show (0 : Int) < 2147483647; decide), .ref r, rfl, r, _, 2, 2, rfl, rfl, upd_same, rfl, ?_⟩
        have D2 : Dw.Dr K H0 ns sa r (upd (upd H r (.lst [.ref sa, .int (p + 1), .int u, .int z])) r (.lst [.ref sa, .int (p + 1), .int ((u * 48271 + c + 11) % 2147483647), .int z])) := D1.put (by omega) (by omega) (by omega)
        refine ⟨.int c, rfl, 10, 18, rfl, rfl, ⟨by decide, by decide, by decide⟩, c, _, rfl, rfl, _, rfl, ite2 (fun hg => ?_) (fun hg => ?_)⟩
        · refine ⟨.int c, rfl, .int m, rfl, c, m, rfl, rfl, ⟨hm0, hm1⟩, .ref r, rfl, r, _, 3, 3, rfl, rfl, upd_same, rfl, ?_⟩
          have D3 := D2.put (p := p + 1) (q := (u * 48271 + c + 11) % 2147483647) (z := c / m) (by omega) (by omega) (by omega)
          exact ⟨.int c, rfl, .int m, rfl, c, m, rfl, rfl, hm0, q _ _ D3 ((Dw.Keep.put.trans Dw.Keep.put).trans Dw.Keep.put) (Int.emod_nonneg _ (by omega)) (Int.emod_lt_of_pos _ hm0)⟩
        · exact ⟨.int c, rfl, .int m, rfl, c, m, rfl, rfl, hm0, q _ _ D2 (Dw.Keep.put.trans Dw.Keep.put) (Int.emod_nonneg _ (by omega)) (Int.emod_lt_of_pos _ hm0)⟩
theorem G_l_worth {a : Ad} (T : Top K mg a) : FnOk P w K mg base CX0 2 a.f_l_worth a.d_l_worth P_l_worth (Dw.spDraw 9973 K) := by
  refine T.F_l_worth.ok sc_l_worth (fun vs H Q E h => ?_) (fun cdv A outer s H vs Q E hr h => ?_)
  · obtain ⟨_, _, _, _, rfl, _⟩ := h
    rfl
  · obtain ⟨H0, ns, sa, r, rfl, D, q⟩ := h
    refine ⟨_, (pss_one (ps_ret (pe_call (G_l_taken T) (hr.mono (by omega)) (by rfl) T.g_l_taken T.F_l_taken.kp T.B_l_taken .nil pass0 (pa_cons (pv 0) (pa_cons (pe_ix ix_list (pe_lst (pa_cons pe_int (pa_cons pe_int (pa_cons pe_int pa_nil)))) (pe_call (G_l_taken T) (hr.mono (by omega)) (by rfl) T.g_l_taken T.F_l_taken.kp T.B_l_taken .nil pass0 (pa_cons (pv 0) (pa_cons pe_int pa_nil))) (fun _ _ => rfl)) pa_nil))))), ?_⟩
    refine ⟨.ref r, rfl, Dw.sz_ rfl, fun l hl => ?_⟩
    have nl : l ≠ r := D.ne hl
    refine ⟨.ref r, rfl, H0, ns, sa, r, 3, rfl, D.new hl, by decide, by decide, fun v H1 D1 k1 v0 v1 => ?_⟩
    have hL : H1 l = some (.lst [.int 4, .int 100, .int 9973]) := k1 _ _ nl upd_same
    have hat : ∃ m : Int, atI [V.int 4, V.int 100, V.int 9973] v = some (.int m) ∧ 0 < m ∧ m ≤ 9973 := by
      have e : v = 0 ∨ v = 1 ∨ v = 2 := by omega
      rcases e with rfl | rfl | rfl
      · exact ⟨4, rfl, by decide, by decide⟩
      · exact ⟨100, rfl, by decide, by decide⟩
      · exact ⟨9973, rfl, by decide, by decide⟩
    obtain ⟨m, hat, m0, m1⟩ := hat
    refine ⟨l, _, v, _, rfl, rfl, Dw.sq_of hL, hat, H0, ns, sa, r, m, rfl, D1, m0, by omega, fun u H2 D2 k2 u0 u1 => ?_⟩
    exact q u H2 D2 (((Dw.Keep.same (Dw.same_upd hl)).trans k1).trans k2) u0 (by omega)

theorem ok_l_alike {a : Ad} (T : Top K mg a) {n : Nat} (ih : FnOk P w K mg base CX0 n a.f_l_alike a.d_l_alike P_l_alike (Dw.spAlike n)) : FnOk P w K mg base CX0 (n + 1) a.f_l_alike a.d_l_alike P_l_alike (Dw.spAlike (n + 1)) := by
  refine T.F_l_alike.ok sc_l_alike (fun vs H Q E h => ?_) (fun cdv A outer s H vs Q E hr h => ?_)
  · obtain ⟨_, _, _, rfl, _⟩ := h
    rfl
  · obtain ⟨x, y, d, rfl, hx, hy, hn, q⟩ := h
    refine ⟨_, (pss_cons (ps_if (PW.pt (pw_or (pt_val (pe_callB call_isi (by rfl) T.b_isinstance (by decide +kernel) (pa_cons (pv 1) (pa_cons (pe_bltn (v := .ty "tuple") (by rfl) T.b_tuple (by decide +kernel) rfl) pa_nil)))) (pw_or1 (pt_val (pe_callB call_isi (by rfl) T.b_isinstance (by decide +kernel) (pa_cons (pv 1) (pa_cons (pe_bltn (v := .ty "list") (by rfl) T.b_list (by decide +kernel) rfl) pa_nil)))))))
        (pss_cons (ps_if (PW.pt (pw_or (pt_cmpR op_ne (pe_callB call_isi (by rfl) T.b_isinstance (by decide +kernel) (pa_cons (pv 0) (pa_cons (pe_bltn (v := .ty "tuple") (by rfl) T.b_tuple (by decide +kernel) rfl) pa_nil))) (pe_callB call_isi (by rfl) T.b_isinstance (by decide +kernel) (pa_cons (pv 1) (pa_cons (pe_bltn (v := .ty "tuple") (by rfl) T.b_tuple (by decide +kernel) rfl) pa_nil))) (nomark _)) (pw_or1 (pt_not (pt_val (pe_callB call_isiT (by rfl) T.b_isinstance (by decide +kernel) (pa_cons (pv 0) (pa_cons (pe_tup (pa_cons (pe_bltn (v := .ty "tuple") (by rfl) T.b_tuple (by decide +kernel) rfl) (pa_cons (pe_bltn (v := .ty "list") (by rfl) T.b_list (by decide +kernel) rfl) pa_nil))) pa_nil))))))))
        (pss_one (ps_ret pe_bl))
        pss_nil)
      (pss_cons (ps_if (pt_cmpR op_ne (pe_callB call_len_seq (by rfl) T.b_len PySem.boot_len (pa_cons (pv 0) pa_nil)) (pe_callB call_len_seq (by rfl) T.b_len PySem.boot_len (pa_cons (pv 1) pa_nil)) (nomark _))
        (pss_one (ps_ret pe_bl))
        pss_nil)
      (pss_one (ps_ret (pe_cmpR (op_eqD hr.units) (pe_lc (own := [(("_law_k" : Str), 2)]) (g := (gName 2)) (by rfl) sc_l_alike.nd (pi_range1 (by rfl) T.b_range (pa_cons (pe_callB call_len_seq (by rfl) T.b_len PySem.boot_len (pa_cons (pv 1) pa_nil)) pa_nil)) (blkOk_by (own := [(("_law_k" : Str), 2)]) (N := N_l_alike) (sc := defScope s_l_alike) (by decide +kernel)) (fun _ _ _ _ _ => (pg_name (i := 2) sc_l_alike.nd rfl (Or.inl rfl))) (fun _ _ _ _ _ => (pts_one (pt_not (pt_val (pe_call ((fun _ => ih) T) (hr.mono (by omega)) (by rfl) T.g_l_alike T.F_l_alike.kp T.B_l_alike .nil pass0 (pa_cons (pe_ix (Dw.ix_seqK (K := K) rfl) (pv 0) (pv 2) (fun _ _ => rfl)) (pa_cons (pe_ix (Dw.ix_seqK (K := K) rfl) (pv 1) (pv 2) (fun _ _ => rfl)) pa_nil))))))) (fun _ _ _ _ _ => (pv 2))) (pe_lst pa_nil) (nomark _))))))
        pss_nil)
      (pss_cons (ps_if (PW.pt (pw_or (pt_cmpR op_isN (pv 1) pe_non (nomark _)) (pw_or1 (pt_cmpR op_isN (pv 0) pe_non (nomark _)))))
        (pss_one (ps_ret (pe_and (pe_cmpR op_isN (pv 1) pe_non (nomark _)) (pe_one (pe_cmpR op_isN (pv 0) pe_non (nomark _))))))
        pss_nil)
      (pss_cons (ps_if (PW.pt (pw_or (pt_val (pe_callB call_isi (by rfl) T.b_isinstance (by decide +kernel) (pa_cons (pv 1) (pa_cons (pe_bltn (v := .ty "bool") (by rfl) T.b_bool (by decide +kernel) rfl) pa_nil)))) (pw_or1 (pt_val (pe_callB call_isi (by rfl) T.b_isinstance (by decide +kernel) (pa_cons (pv 0) (pa_cons (pe_bltn (v := .ty "bool") (by rfl) T.b_bool (by decide +kernel) rfl) pa_nil)))))))
        (pss_one (ps_ret (pe_and (pe_callB call_isi (by rfl) T.b_isinstance (by decide +kernel) (pa_cons (pv 1) (pa_cons (pe_bltn (v := .ty "bool") (by rfl) T.b_bool (by decide +kernel) rfl) pa_nil))) (pe_and (pe_callB call_isi (by rfl) T.b_isinstance (by decide +kernel) (pa_cons (pv 0) (pa_cons (pe_bltn (v := .ty "bool") (by rfl) T.b_bool (by decide +kernel) rfl) pa_nil))) (pe_one (pe_cmpR op_eq (pv 0) (pv 1) (nomark _)))))))
        pss_nil)
      (pss_cons (ps_if (pt_val (pe_callB call_isi (by rfl) T.b_isinstance (by decide +kernel) (pa_cons (pv 1) (pa_cons (pe_bltn (v := .ty "str") (by rfl) T.b_str (by decide +kernel) rfl) pa_nil))))
        (pss_one (ps_ret (pe_and (pe_callB call_isi (by rfl) T.b_isinstance (by decide +kernel) (pa_cons (pv 0) (pa_cons (pe_bltn (v := .ty "str") (by rfl) T.b_str (by decide +kernel) rfl) pa_nil))) (pe_one (pe_cmpR op_eq (pv 0) (pv 1) (nomark _))))))
        pss_nil)
      (pss_one (ps_ret (pe_and (pe_callB call_isi (by rfl) T.b_isinstance (by decide +kernel) (pa_cons (pv 0) (pa_cons (pe_bltn (v := .ty "int") (by rfl) T.b_int (by decide +kernel) rfl) pa_nil))) (pe_one (pe_cmpR op_eq (pv 0) (pv 1) (nomark _)))))))))), ?_⟩
    cases hy with
    | non =>
      cases hx
      refine ⟨_, rfl, _, _, _, _, false, rfl, .ty _, .base .non, kit_ty Dw.ty_nt, false, rfl, ?_⟩
      refine ⟨_, rfl, _, _, _, _, false, rfl, .ty _, .base .non, kit_ty Dw.ty_nl, false, rfl, ?_⟩
      exact ⟨_, rfl, rfl, true, rfl, _, rfl, rfl, true, rfl, _, rfl, rfl, q H (Same.refl H)⟩
    | bl b =>
      cases hx
      refine ⟨_, rfl, _, _, _, _, false, rfl, .ty _, .base (.bl b), kit_ty Dw.ty_bt, false, rfl, ?_⟩
      refine ⟨_, rfl, _, _, _, _, false, rfl, .ty _, .base (.bl b), kit_ty Dw.ty_bl, false, rfl, ?_⟩
      refine ⟨_, rfl, rfl, false, rfl, _, rfl, rfl, false, rfl, ?_⟩
      refine ⟨_, rfl, _, _, _, _, true, rfl, .ty _, .base (.bl b), kit_ty Dw.ty_bb, true, rfl, ?_⟩
      refine ⟨_, rfl, _, _, _, _, true, rfl, .ty _, .base (.bl b), kit_ty Dw.ty_bb, true, rfl, ?_⟩
      refine ⟨_, rfl, _, _, _, _, true, rfl, .ty _, .base (.bl b), kit_ty Dw.ty_bb, true, rfl, ?_⟩
      refine ⟨_, rfl, _, rfl, rfl, ?_⟩
      rw [decide_eq_true rfl]
      exact q H (Same.refl H)
    | int i =>
      cases hx
      refine ⟨_, rfl, _, _, _, _, false, rfl, .ty _, .base (.int i), kit_ty Dw.ty_it, false, rfl, ?_⟩
      refine ⟨_, rfl, _, _, _, _, false, rfl, .ty _, .base (.int i), kit_ty Dw.ty_il, false, rfl, ?_⟩
      refine ⟨_, rfl, rfl, false, rfl, _, rfl, rfl, false, rfl, ?_⟩
      refine ⟨_, rfl, _, _, _, _, false, rfl, .ty _, .base (.int i), kit_ty Dw.ty_ib, false, rfl, ?_⟩
      refine ⟨_, rfl, _, _, _, _, false, rfl, .ty _, .base (.int i), kit_ty Dw.ty_ib, false, rfl, ?_⟩
      refine ⟨_, rfl, _, _, _, _, false, rfl, .ty _, .base (.int i), kit_ty Dw.ty_is, false, rfl, ?_⟩
      refine ⟨_, rfl, _, _, _, _, true, rfl, .ty _, .base (.int i), kit_ty Dw.ty_ii, true, rfl, ?_⟩
      refine ⟨_, rfl, _, rfl, rfl, ?_⟩
      rw [decide_eq_true rfl]
      exact q H (Same.refl H)
    | str z =>
      cases hx
      refine ⟨_, rfl, _, _, _, _, false, rfl, .ty _, .base (.str z), kit_ty Dw.ty_st, false, rfl, ?_⟩
      refine ⟨_, rfl, _, _, _, _, false, rfl, .ty _, .base (.str z), kit_ty Dw.ty_sl, false, rfl, ?_⟩
      refine ⟨_, rfl, rfl, false, rfl, _, rfl, rfl, false, rfl, ?_⟩
      refine ⟨_, rfl, _, _, _, _, false, rfl, .ty _, .base (.str z), kit_ty Dw.ty_sb, false, rfl, ?_⟩
      refine ⟨_, rfl, _, _, _, _, false, rfl, .ty _, .base (.str z), kit_ty Dw.ty_sb, false, rfl, ?_⟩
      refine ⟨_, rfl, _, _, _, _, true, rfl, .ty _, .base (.str z), kit_ty Dw.ty_ss, true, rfl, ?_⟩
      refine ⟨_, rfl, _, _, _, _, true, rfl, .ty _, .base (.str z), kit_ty Dw.ty_ss, true, rfl, ?_⟩
      refine ⟨_, rfl, _, rfl, rfl, ?_⟩
      rw [decide_eq_true rfl]
      exact q H (Same.refl H)
    | @lst b ys ds hb lb tb =>
      cases hx with
      | @lst c xs _ hc lc tc =>
      refine ⟨_, rfl, _, _, _, _, false, rfl, .ty _, .base (.lst hb), kit_ty Dw.ty_lt, false, rfl, ?_⟩
      refine ⟨_, rfl, _, _, _, _, true, rfl, .ty _, .base (.lst hb), kit_ty Dw.ty_ll, true, rfl, ?_⟩
      refine ⟨_, rfl, _, _, _, _, false, rfl, .ty _, .base (.lst hc), kit_ty Dw.ty_lt, _, rfl, _, _, _, _, false, rfl, .ty _, .base (.lst hb), kit_ty Dw.ty_lt, rfl, false, rfl, ?_⟩
      refine ⟨_, rfl, Dw.sz_ rfl, fun u hu => ?_⟩
      have su : Same H (upd H u (.tup [.ty "tuple", .ty "list"])) := Dw.same_upd hu
      refine ⟨_, u, [.ty "tuple", .ty "list"], _, [.type "tuple", .type "list"], true, rfl, upd_same, .cons (.ty _) (.cons (.ty _) .nil), .base (.lst (su _ _ hc)), Dw.any_l, true, rfl, ?_⟩
      refine ⟨_, rfl, c, xs, rfl, .inl (Dw.sq_of (su _ _ hc)), _, rfl, b, ys, rfl, .inl (Dw.sq_of (su _ _ hb)), rfl, _, rfl, iteNS (c := V.int xs.length = V.int ys.length) (by rw [tc.len, tb.len]) ?_⟩
      refine ⟨_, rfl, b, ys, rfl, .inl (Dw.sq_of (su _ _ hb)), _, rfl, by omega, by omega, fun e he => lc_range (lo := 0) (n := ys.length) (fun i H' => Same (upd H u (.tup [.ty "tuple", .ty "list"])) H' ∧ H' e = some (.lst [])) ⟨Dw.same_upd he, upd_same⟩ ?_ ?_⟩
      · rintro i H1 hi ⟨s1, e1⟩
        have lds : i < ds.length := by rw [← tb.len]; exact hi
        have hd := List.getElem?_eq_getElem lds
        obtain ⟨v, gv, tv⟩ := tc.at hd
        obtain ⟨v', gv', tv'⟩ := tb.at hd
        have S := su.trans s1
        refine ⟨rfl, _, rfl, _, rfl, .inl ⟨c, xs, i, v, rfl, by rw [Int.zero_add], Dw.sq_of (S _ _ hc), atI_nat gv, ?_⟩⟩
        refine ⟨_, rfl, _, rfl, .inl ⟨b, ys, i, v', rfl, by rw [Int.zero_add], Dw.sq_of (S _ _ hb), atI_nat gv', ?_⟩⟩
        refine ⟨v, v', _, rfl, tv.mono S, tv'.mono S, ?_, fun H2 s2 => ⟨true, rfl, s1.trans s2, s2 _ _ e1⟩⟩
        have h1 := Dw.depth_at hd
        rw [PyData.depth] at hn
        omega
      · rintro H1 ⟨s1, e1⟩
        refine ⟨Dw.sz_ rfl, fun z hz => ?_⟩
        refine ⟨_, _, Dw.dp_l (xs := []) (Dw.sq_of (Dw.same_upd hz _ _ e1)) (fun v h => by cases h), Dw.dp_l (xs := []) (Dw.sq_of upd_same) (fun v h => by cases h), rfl, rfl, ?_⟩
        exact q _ ((su.trans s1).trans (Dw.same_upd hz))
    | @tup b ys ds hb lb tb =>
      cases hx with
      | @tup c xs _ hc lc tc =>
      refine ⟨_, rfl, _, _, _, _, true, rfl, .ty _, .base (.tup hb), kit_ty Dw.ty_tt, true, rfl, ?_⟩
      refine ⟨_, rfl, _, _, _, _, true, rfl, .ty _, .base (.tup hc), kit_ty Dw.ty_tt, _, rfl, _, _, _, _, true, rfl, .ty _, .base (.tup hb), kit_ty Dw.ty_tt, rfl, false, rfl, ?_⟩
      refine ⟨_, rfl, Dw.sz_ rfl, fun u hu => ?_⟩
      have su : Same H (upd H u (.tup [.ty "tuple", .ty "list"])) := Dw.same_upd hu
      refine ⟨_, u, [.ty "tuple", .ty "list"], _, [.type "tuple", .type "list"], true, rfl, upd_same, .cons (.ty _) (.cons (.ty _) .nil), .base (.tup (su _ _ hc)), Dw.any_t, true, rfl, ?_⟩
      refine ⟨_, rfl, c, xs, rfl, .inr (Dw.st_of (su _ _ hc)), _, rfl, b, ys, rfl, .inr (Dw.st_of (su _ _ hb)), rfl, _, rfl, iteNS (c := V.int xs.length = V.int ys.length) (by rw [tc.len, tb.len]) ?_⟩
      refine ⟨_, rfl, b, ys, rfl, .inr (Dw.st_of (su _ _ hb)), _, rfl, by omega, by omega, fun e he => lc_range (lo := 0) (n := ys.length) (fun i H' => Same (upd H u (.tup [.ty "tuple", .ty "list"])) H' ∧ H' e = some (.lst [])) ⟨Dw.same_upd he, upd_same⟩ ?_ ?_⟩
      · rintro i H1 hi ⟨s1, e1⟩
        have lds : i < ds.length := by rw [← tb.len]; exact hi
        have hd := List.getElem?_eq_getElem lds
        obtain ⟨v, gv, tv⟩ := tc.at hd
        obtain ⟨v', gv', tv'⟩ := tb.at hd
        have S := su.trans s1
        refine ⟨rfl, _, rfl, _, rfl, .inr (.inl ⟨c, xs, i, v, rfl, by rw [Int.zero_add], Dw.st_of (S _ _ hc), atI_nat gv, ?_⟩)⟩
        refine ⟨_, rfl, _, rfl, .inr (.inl ⟨b, ys, i, v', rfl, by rw [Int.zero_add], Dw.st_of (S _ _ hb), atI_nat gv', ?_⟩)⟩
        refine ⟨v, v', _, rfl, tv.mono S, tv'.mono S, ?_, fun H2 s2 => ⟨true, rfl, s1.trans s2, s2 _ _ e1⟩⟩
        have h1 := Dw.depth_at hd
        rw [PyData.depth] at hn
        omega
      · rintro H1 ⟨s1, e1⟩
        refine ⟨Dw.sz_ rfl, fun z hz => ?_⟩
        refine ⟨_, _, Dw.dp_l (xs := []) (Dw.sq_of (Dw.same_upd hz _ _ e1)) (fun v h => by cases h), Dw.dp_l (xs := []) (Dw.sq_of upd_same) (fun v h => by cases h), rfl, rfl, ?_⟩
        exact q _ ((su.trans s1).trans (Dw.same_upd hz))
theorem G_l_alike_n {a : Ad} (T : Top K mg a) : ∀ n : Nat, FnOk P w K mg base CX0 n a.f_l_alike a.d_l_alike P_l_alike (Dw.spAlike n)
  | 0 => Dw.alike_zero
  | n + 1 => ok_l_alike T (G_l_alike_n T n)
/-- data of depth four at most -/
theorem G_l_alike {a : Ad} (T : Top K mg a) : FnOk P w K mg base CX0 5 a.f_l_alike a.d_l_alike P_l_alike (Dw.spAlike 5) := G_l_alike_n T 5

def spIsNum : Sp := fun vs H Q _ => ∃ (i lo hi : Int), vs = [.int i, .int lo, .int hi] ∧ Q (.bl (decide (lo ≤ i ∧ i ≤ hi))) H
theorem G_is_number {a : Ad} (T : Top K mg a) : FnOk P w K mg base CX0 1 a.f_is_number a.d_is_number P_is_number spIsNum := by
  refine T.F_is_number.ok sc_is_number (fun vs H Q E h => ?_) (fun cdv A outer s H vs Q E hr h => ?_)
  · obtain ⟨_, _, _, rfl, _⟩ := h
    rfl
  · obtain ⟨i, lo, hi, rfl, q⟩ := h
    refine ⟨_, (pss_one (ps_ret (pe_and (pe_callB call_isi (by rfl) T.b_isinstance (by decide +kernel) (pa_cons (pv 0) (pa_cons (pe_bltn (v := .ty "int") (by rfl) T.b_int (by decide +kernel) rfl) pa_nil))) (pe_and (pe_not (pe_callB call_isi (by rfl) T.b_isinstance (by decide +kernel) (pa_cons (pv 0) (pa_cons (pe_bltn (v := .ty "bool") (by rfl) T.b_bool (by decide +kernel) rfl) pa_nil)))) (pe_one (pe_chain op_le op_le (pv 1) (pv 0) (pv 2))))))), ?_⟩
    refine ⟨_, rfl, _, _, _, _, true, rfl, .ty _, .base (.int i), kit_ty Dw.ty_ii, true, rfl, iteT ?_⟩
    refine ⟨_, rfl, _, _, _, _, false, rfl, .ty _, .base (.int i), kit_ty Dw.ty_ib, _, rfl, _, rfl, iteT ?_⟩
    refine ⟨_, rfl, _, rfl, lo, i, rfl, rfl, _, rfl, ite2 (fun h1 => ?_) (fun h1 => ?_)⟩
    · have h1 := of_decide_eq_true h1
      refine ⟨_, rfl, _, _, rfl, rfl, ?_⟩
      rw [show decide (lo ≤ i ∧ i ≤ hi) = decide (i ≤ hi) from decide_eq_decide.mpr ⟨fun z => z.2, fun z => ⟨h1, z⟩⟩] at q
      exact q
    · rw [show decide (lo ≤ i ∧ i ≤ hi) = false from decide_eq_false fun z => h1 (decide_eq_true z.1)] at q
      exact q
/-- a row of numbers that cells can hold -/
def spIsRow (K : PySem.W.Frag) : Sp := fun vs H Q _ => ∃ (t : Addr) (xs : List Int) (lo hi : Int), vs = [.ref t, .int lo, .int hi] ∧ H t = some (.tup (xs.map V.int)) ∧ xs.length ≤ 1000 ∧ ∀ H', Same H H' → Q (.bl (decide (lo ≤ (xs.length : Int) ∧ (xs.length : Int) ≤ hi) && xs.all fun x => decide (0 ≤ x ∧ x ≤ 9972))) H'
theorem G_is_row {a : Ad} (T : Top K mg a) : FnOk P w K mg base CX0 2 a.f_is_row a.d_is_row P_is_row (spIsRow K) := by
  refine T.F_is_row.ok sc_is_row (fun vs H Q E h => ?_) (fun cdv A outer s H vs Q E hr h => ?_)
  · obtain ⟨_, _, _, _, rfl, _⟩ := h
    rfl
  · obtain ⟨t, xs, lo, hi, rfl, ht, hlen, q⟩ := h
    refine ⟨_, (pss_cons (ps_if (PW.pt (pw_or (pt_not (pt_val (pe_callB call_isiT (by rfl) T.b_isinstance (by decide +kernel) (pa_cons (pv 0) (pa_cons (pe_tup (pa_cons (pe_bltn (v := .ty "tuple") (by rfl) T.b_tuple (by decide +kernel) rfl) (pa_cons (pe_bltn (v := .ty "list") (by rfl) T.b_list (by decide +kernel) rfl) pa_nil))) pa_nil))))) (pw_or1 (pt_not (pt_chain op_le op_le (pv 1) (pe_callB call_len_seq (by rfl) T.b_len PySem.boot_len (pa_cons (pv 0) pa_nil)) (pv 2))))))
        (pss_one (ps_ret pe_bl))
        pss_nil)
      (pss_one (ps_ret (pe_callB (cr_all rfl) (by rfl) T.b_all (by decide +kernel) (pa_cons (pe_lc (own := [(("worth" : Str), 3)]) (g := (gName 3)) (tt := tYes) (by rfl) sc_is_row.nd (pi_tup (pv 0)) (blkOk_by (own := [(("worth" : Str), 3)]) (N := N_is_row) (sc := defScope s_is_row) (by decide +kernel)) (fun _ _ _ _ _ => (pg_name (i := 3) sc_is_row.nd rfl (Or.inl rfl))) (fun _ _ _ _ _ => pts_nil) (fun _ _ _ _ _ => (pe_call (G_is_number T) (hr.mono (by omega)) (by rfl) T.g_is_number T.F_is_number.kp T.B_is_number .nil pass0 (pa_cons (pv 3) (pa_cons pe_int (pa_cons (pe_glob (v := .int 9972) rfl T.c_GREATEST_WORTH ⟨_, rfl⟩) pa_nil)))))) pa_nil))))), ?_⟩
    refine ⟨_, rfl, Dw.sz_ rfl, fun u hu => ?_⟩
    have su : Same H (upd H u (.tup [.ty "tuple", .ty "list"])) := Dw.same_upd hu
    refine ⟨_, u, [.ty "tuple", .ty "list"], _, [.type "tuple", .type "list"], true, rfl, upd_same, .cons (.ty _) (.cons (.ty _) .nil), .base (.tup (su _ _ ht)), Dw.any_t, true, rfl, ?_⟩
    have ht1 := su _ _ ht
    generalize upd H u (.tup [.ty "tuple", .ty "list"]) = H1 at su ht1 ⊢
    refine ⟨_, rfl, _, rfl, t, _, rfl, .inr (Dw.st_of ht1), lo, _, rfl, rfl, _, rfl, ?_⟩
    rw [List.length_map]
    have bad : ¬ (lo ≤ (xs.length : Int) ∧ (xs.length : Int) ≤ hi) → Q (.bl false) H1 := fun z => by
      have qq := q H1 su
      rw [decide_eq_false z, Bool.false_and] at qq
      exact qq
    refine ite2 (fun h1 => ?_) (fun h1 => ?_)
    · have h1 := of_decide_eq_true h1
      refine ⟨_, rfl, _, _, rfl, rfl, _, rfl, ?_⟩
      by_cases h2 : (xs.length : Int) ≤ hi
      · refine iteNS h2 ?_
        refine ⟨.ref t, rfl, t, rfl, ⟨_, Dw.st_of ht1⟩, fun D hD => lc_tup (K := K) (a := t) (xs := xs.map V.int) (fun i H' => Same H1 H' ∧ H' D = some (.lst (((xs.take i).map fun x => decide (0 ≤ x ∧ x ≤ 9972)).map V.bl))) ⟨Dw.same_upd hD, upd_same⟩ (fun i H' _ ⟨s, _⟩ => Dw.same_tup s (Dw.st_of ht1)) ?_ ?_⟩
        · rintro i y H2 hi ⟨s2, e2⟩
          obtain ⟨x, hx, rfl⟩ := Dw.get_map hi
          have hlt := (List.getElem?_eq_some_iff.mp hx).1
          refine ⟨rfl, _, rfl, x, 0, 9972, rfl, _, e2, Dw.size_lt (by rw [List.length_map, List.length_map, List.length_take]; omega), Dw.same_mut s2 hD, ?_⟩
          rw [upd_same, Dw.map_take_succ hx, List.map_append, List.map_append]
          rfl
        · rintro H2 ⟨s2, e2⟩
          rw [List.length_map, List.take_length] at e2
          have qq := q H2 (su.trans s2)
          rw [decide_eq_true (show lo ≤ (xs.length : Int) ∧ (xs.length : Int) ≤ hi from ⟨h1, h2⟩), Bool.true_and] at qq
          refine ⟨D, _, rfl, Dw.sq_of e2, ?_⟩
          rw [List.all_map]
          exact qq
      · exact ite2 (fun _ => bad fun z => h2 z.2) (fun z => absurd (by rw [decide_eq_false h2]; rfl) z)
    · exact ⟨false, rfl, ite2 (fun _ => bad fun z => h1 (decide_eq_true z.1)) (fun z => absurd rfl z)⟩
theorem row_ok {xs : List Int} {lo hi : Int} (h0 : lo ≤ (xs.length : Int)) (h1 : (xs.length : Int) ≤ hi) (h : ∀ x ∈ xs, 0 ≤ x ∧ x ≤ 9972) : (decide (lo ≤ (xs.length : Int) ∧ (xs.length : Int) ≤ hi) && xs.all fun x => decide (0 ≤ x ∧ x ≤ 9972)) = true := by
  rw [decide_eq_true ⟨h0, h1⟩, Bool.true_and, List.all_eq_true]
  exact fun x hx => decide_eq_true (h x hx)

/-- joined of a list of triples -/
def spJoined (K : PySem.W.Frag) : Sp := fun vs H Q _ => ∃ (c : Addr) (rs : List Addr) (ts : List (Int × Int × Int)), vs = [.ref c] ∧ SqT K H c (rs.map V.ref) ∧ rs.length = ts.length ∧ (∀ (i : Nat) (b : Addr) (t : Int × Int × Int), rs[i]? = some b → ts[i]? = some t → SqT K H b [.int t.1, .int t.2.1, .int t.2.2]) ∧
  ∀ (H' : Hp) (t : Addr), Same H H' → H t = none → H' t = some (.tup [.int (ts.foldl Sm.jst (0, 0)).1, .int (ts.foldl Sm.jst (0, 0)).2]) → Q (.ref t) H'
theorem jst_lo : ∀ (ts : List (Int × Int × Int)) (p : Int × Int), (0 ≤ p.1 ∧ p.1 < 9973) → 0 ≤ (ts.foldl Sm.jst p).1 ∧ (ts.foldl Sm.jst p).1 < 9973
  | [], _, h => h
  | t :: r, p, _ => jst_lo r (Sm.jst p t) (by show 0 ≤ (p.1 + t.1) % 9973 ∧ (p.1 + t.1) % 9973 < 9973; omega)
theorem G_joined {a : Ad} (T : Top K mg a) : FnOk P w K mg base CX0 1 a.f_joined a.d_joined P_joined (spJoined K) := by
  refine T.F_joined.ok sc_joined (fun vs H Q E h => ?_) (fun cdv A outer s H vs Q E hr h => ?_)
  · obtain ⟨_, _, _, rfl, _⟩ := h
    rfl
  · obtain ⟨c, rs, ts, rfl, hC, hlen, hts, q⟩ := h
    refine ⟨_, (pss_cons (ps_set (i := 1) sc_joined.nd rfl (Or.inl rfl) pe_int)
      (pss_cons (ps_set (i := 2) sc_joined.nd rfl (Or.inl rfl) pe_int)
      (pss_cons (ps_for PassesOwn.never rfl (pi_tup (pv 0)) (pg_tup rfl (pgs_cons (pg_name (i := 3) sc_joined.nd rfl (Or.inl rfl)) (pgs_cons (pg_name (i := 4) sc_joined.nd rfl (Or.inl rfl)) (pgs_cons (pg_name (i := 5) sc_joined.nd rfl (Or.inl rfl)) pgs_nil))))
        (pss_cons (ps_set (i := 2) sc_joined.nd rfl (Or.inl rfl) (pe_op op_mod (pe_op op_add (pe_op op_add (pv 2) (pe_op op_mul (pv 1) (pv 5))) (pv 4)) (pe_glob (v := .int 9973) rfl T.c_RESTS_BY ⟨_, rfl⟩)))
      (pss_one (ps_set (i := 1) sc_joined.nd rfl (Or.inl rfl) (pe_op op_mod (pe_op op_add (pv 1) (pv 3)) (pe_glob (v := .int 9973) rfl T.c_RESTS_BY ⟨_, rfl⟩))))))
      (pss_one (ps_ret (pe_tup (pa_cons (pv 1) (pa_cons (pv 2) pa_nil)))))))), ?_⟩
    refine ⟨.ref c, rfl, c, rfl, ⟨_, hC⟩, for_tup (K := K) (a := c) (xs := rs.map V.ref) (fun i σ H' => ∃ v3 v4 v5 : Option V, σ = [some (.ref c), some (.int ((ts.take i).foldl Sm.jst (0, 0)).1), some (.int ((ts.take i).foldl Sm.jst (0, 0)).2), v3, v4, v5] ∧ H' = H)
      ⟨_, _, _, rfl, rfl⟩ (fun i σ H' _ ⟨_, _, _, _, e⟩ => e ▸ hC) ?_ ?_⟩
    · rintro i y σ H' hi ⟨v3, v4, v5, rfl, rfl⟩
      obtain ⟨b, hb, rfl⟩ := Dw.get_map_ref hi
      have hlt : i < ts.length := by
        rw [← hlen]
        exact (List.getElem?_eq_some_iff.mp hb).1
      have ht := List.getElem?_eq_getElem hlt
      have hB := hts i b _ hb ht
      refine ⟨b, _, rfl, hB, rfl, _, _, rfl, _, _, rfl, _, [], rfl, rfl, ?_⟩
      have lo := jst_lo (ts.take i) (0, 0) ⟨by decide, by decide⟩
      refine ⟨_, rfl, _, rfl, _, rfl, _, _, rfl, rfl, .inl ⟨by omega, by omega⟩, _, _, rfl, rfl, _, rfl, _, _, rfl, rfl, _, 9973, rfl, rfl, (by show (0 : Int) < 9973; decide), ?_⟩
      refine ⟨_, rfl, _, rfl, _, _, rfl, rfl, _, 9973, rfl, rfl, (by show (0 : Int) < 9973; decide), ?_⟩
      refine ⟨some (.int ts[i].1), some (.int ts[i].2.1), some (.int ts[i].2.2), ?_, rfl⟩
      rw [List.take_add_one, ht]
      show _ = [_, some (V.int ((ts.take i ++ [ts[i]]).foldl Sm.jst (0, 0)).1), some (V.int ((ts.take i ++ [ts[i]]).foldl Sm.jst (0, 0)).2), _, _, _]
      rw [List.foldl_append]
      rfl
    · rintro σ H' ⟨v3, v4, v5, rfl, rfl⟩
      rw [List.length_map, hlen, List.take_length]
      refine ⟨_, rfl, _, rfl, Dw.sz_ rfl, fun t ht => ?_⟩
      exact q _ t (Dw.same_upd ht) ht upd_same

/-- the names of a picture's pieces are such -/
def spAreNames (K : PySem.W.Frag) : Sp := fun vs H Q _ => ∃ (u : Addr) (as : List Addr) (xs : List Int), vs = [.ref u, .int (xs.length : Int)] ∧ SqT K H u (as.map V.ref) ∧ Mf.Trip H as (Mf.names xs) ∧ xs.length ≤ 12 ∧
  ∀ H', Same H H' → Q (.bl true) H'
theorem G_are_names {a : Ad} (T : Top K mg a) : FnOk P w K mg base CX0 3 a.f_are_names a.d_are_names P_are_names (spAreNames K) := by
  refine T.F_are_names.ok sc_are_names (fun vs H Q E h => ?_) (fun cdv A outer s H vs Q E hr h => ?_)
  · obtain ⟨_, _, _, rfl, _⟩ := h
    rfl
  · obtain ⟨u, as, xs, rfl, hu, tr, hl, q⟩ := h
    refine ⟨_, (pss_cons (ps_if (pt_not (pt_val (pe_callB (cr_all rfl) (by rfl) T.b_all (by decide +kernel) (pa_cons (pe_lc (own := [(("title" : Str), 3)]) (g := (gName 3)) (tt := tYes) (by rfl) sc_are_names.nd (pi_tup (pv 0)) (blkOk_by (own := [(("title" : Str), 3)]) (N := N_are_names) (sc := defScope s_are_names) (by decide +kernel)) (fun _ _ _ _ _ => (pg_name (i := 3) sc_are_names.nd rfl (Or.inl rfl))) (fun _ _ _ _ _ => pts_nil) (fun _ _ _ _ _ => (pe_call (G_is_row T) (hr.mono (by omega)) (by rfl) T.g_is_row T.F_is_row.kp T.B_is_row .nil pass0 (pa_cons (pv 3) (pa_cons (pe_glob (v := .int 3) rfl T.c_NAME_PARTS ⟨_, rfl⟩) (pa_cons (pe_glob (v := .int 3) rfl T.c_NAME_PARTS ⟨_, rfl⟩) pa_nil)))))) pa_nil))))
        (pss_one (ps_ret pe_bl))
        pss_nil)
      (pss_cons (ps_setLc (i := 2) (own := [(("at" : Str), 4)]) (g := (gName 4)) (tt := tYes) (by rfl) sc_are_names.nd rfl rfl (sw_true rfl rfl rfl (by decide +kernel)) (pi_range3 (by rfl) T.b_range (pa_cons pe_int (pa_cons (pv 1) (pa_cons (pe_glob (v := .int 3) rfl T.c_PIECE_CELLS ⟨_, rfl⟩) pa_nil)))) (blkOk_by (own := [(("at" : Str), 4)]) (N := N_are_names) (sc := defScope s_are_names) (by decide +kernel)) (fun _ _ _ _ _ => (pg_name (i := 4) sc_are_names.nd rfl (Or.inl rfl))) (fun _ _ _ _ _ => pts_nil) (fun _ _ _ _ _ => (pe_callB (call_min2 rfl) (by rfl) T.b_min (by decide +kernel) (pa_cons (pe_glob (v := .int 3) rfl T.c_PIECE_CELLS ⟨_, rfl⟩) (pa_cons (pe_op op_sub (pv 1) (pv 4)) pa_nil)))))
      (pss_one (ps_ret (pe_cmpR (op_eqD hr.units) (pe_lc (own := [(("title" : Str), 3)]) (g := (gName 3)) (tt := tYes) (by rfl) sc_are_names.nd (pi_tup (pv 0)) (blkOk_by (own := [(("title" : Str), 3)]) (N := N_are_names) (sc := defScope s_are_names) (by decide +kernel)) (fun _ _ _ _ _ => (pg_name (i := 3) sc_are_names.nd rfl (Or.inl rfl))) (fun _ _ _ _ _ => pts_nil) (fun _ _ _ _ _ => (pe_ix (Dw.ix_tupK (K := K) rfl) (pv 3) (pe_un un_neg pe_int) (fun _ _ => rfl)))) (pv 2) (nomark _)))))), ?_⟩
    have las := tr.len
    rw [Mf.names_len] at las
    have lcn : Mf.cnt xs ≤ 4 := by unfold Mf.cnt; omega
    refine ⟨.ref u, rfl, u, rfl, ⟨_, hu⟩, fun D hD => lc_tup (K := K) (a := u) (xs := as.map V.ref) (fun i H' => Same H H' ∧ H' D = some (.lst ((List.replicate i true).map V.bl))) ⟨Dw.same_upd hD, upd_same⟩ (fun i H' _ ⟨s, _⟩ => Dw.same_tup s hu) ?_ ?_⟩
    · rintro i y H1 hi ⟨s1, e1⟩
      obtain ⟨b, hb, rfl⟩ := Dw.get_map_ref hi
      obtain ⟨t, ht, hbt⟩ := tr.at hb
      have hlt := (List.getElem?_eq_some_iff.mp hb).1
      obtain ⟨p, hp, rfl⟩ : ∃ p, (Mf.pcs (Mf.cnt xs) xs)[i]? = some p ∧ t = Mf.nmOf p := by
        unfold Mf.names at ht
        rw [List.getElem?_map] at ht
        cases hpp : (Mf.pcs (Mf.cnt xs) xs)[i]? with
        | none => rw [hpp] at ht; cases ht
        | some p =>
          rw [hpp] at ht
          exact ⟨p, rfl, (Option.some.inj ht).symm⟩
      have hpl : p.length ≤ 3 := by
        unfold Mf.pcs at hp
        rw [List.getElem?_map, List.getElem?_range (by omega)] at hp
        have ep := Option.some.inj hp
        rw [← ep]
        exact Mf.piece_len xs i
      have hr3 := Bk.sums_rng p
      refine ⟨rfl, _, rfl, b, [(Sm.sumsI p).1, (Sm.sumsI p).2, (p.length : Int)], 3, 3, rfl, s1 _ _ hbt, by show 3 ≤ 1000; decide, fun H2 s2 => ?_⟩
      refine ⟨_, s2 _ _ e1, Dw.size_lt (by rw [List.length_map, List.length_replicate]; omega), Dw.same_mut (s1.trans s2) hD, ?_⟩
      rw [upd_same, List.replicate_succ', List.map_append, row_ok (xs := [(Sm.sumsI p).1, (Sm.sumsI p).2, (p.length : Int)]) (by show (3 : Int) ≤ 3; decide) (by show (3 : Int) ≤ 3; decide) (fun x hx => ?_)]
      · rfl
      · simp only [List.mem_cons, List.not_mem_nil, or_false] at hx
        rcases hx with rfl | rfl | rfl <;> omega
    · rintro H1 ⟨s1, e1⟩
      rw [List.length_map, las] at e1
      refine ⟨D, _, rfl, Dw.sq_of e1, ?_⟩
      refine ⟨_, rfl, ?_⟩
      rw [show (List.replicate (Mf.cnt xs) true).all id = true by simp]
      refine iteF ?_
      refine ⟨_, rfl, 0, (xs.length : Int), 3, Mf.cnt xs, rfl, Mf.rg3 _ hl, fun D2 hD2 => lc_it walk_rangeC (fun i H' => Same H1 H' ∧ H' D2 = some (.lst (((Mf.pcs i xs).map fun p => (p.length : Int)).map V.int))) ⟨Dw.same_upd hD2, upd_same⟩ (fun _ _ _ _ => True.intro) ?_ ?_⟩
      · rintro i y H2 H3 hi ⟨s2, e2⟩ ⟨rfl, rfl⟩
        refine ⟨rfl, _, rfl, _, rfl, _, _, rfl, rfl, _, _, rfl, ?_⟩
        refine ⟨_, e2, Dw.size_lt (by rw [List.length_map, List.length_map, Mf.pcs_len]; omega), Dw.same_mut s2 hD2, ?_⟩
        rw [upd_same, Mf.pcs_succ, List.map_append, List.map_append]
        have hpl : (Mf.piece xs i).length = if xs.length - 3 * i < 3 then xs.length - 3 * i else 3 := by
          unfold Mf.piece
          rw [List.length_take, List.length_drop]
          split <;> omega
        refine congrArg (fun z => some (HO.lst (((Mf.pcs i xs).map fun p => (p.length : Int)).map V.int ++ [V.int z]))) ?_
        show _ = ((Mf.piece xs i).length : Int)
        rw [hpl]
        unfold Mf.cnt at hi
        split <;> split <;> omega
      · rintro H2 ⟨s2, e2⟩
        refine ⟨.ref u, rfl, u, rfl, ⟨_, Dw.same_tup (s1.trans s2) hu⟩, fun D3 hD3 => lc_tup (K := K) (a := u) (xs := as.map V.ref) (fun i H' => Same H2 H' ∧ H' D3 = some (.lst (((Mf.pcs i xs).map fun p => (p.length : Int)).map V.int))) ⟨Dw.same_upd hD3, upd_same⟩ (fun i H' _ ⟨s, _⟩ => Dw.same_tup ((s1.trans s2).trans s) hu) ?_ ?_⟩
        · rintro i y H3 hi ⟨s3, e3⟩
          obtain ⟨b, hb, rfl⟩ := Dw.get_map_ref hi
          obtain ⟨t, ht, hbt⟩ := tr.at hb
          have hlt := (List.getElem?_eq_some_iff.mp hb).1
          have et : t = Mf.nmOf (Mf.piece xs i) := by
            unfold Mf.names Mf.pcs at ht
            rw [List.getElem?_map, List.getElem?_map, List.getElem?_range (by omega)] at ht
            exact (Option.some.inj ht).symm
          subst et
          refine ⟨rfl, _, rfl, _, rfl, b, _, -1, _, rfl, rfl, Dw.st_of (s3 _ _ (s2 _ _ (s1 _ _ hbt))), rfl, ?_⟩
          refine ⟨_, e3, Dw.size_lt (by rw [List.length_map, List.length_map, Mf.pcs_len]; omega), Dw.same_mut s3 hD3, ?_⟩
          rw [upd_same, Mf.pcs_succ, List.map_append, List.map_append]
          rfl
        · rintro H3 ⟨s3, e3⟩
          rw [List.length_map, las] at e3
          refine ⟨_, rfl, _, _, Dw.dp_l (Dw.sq_of e3) Dw.cel_ints, Dw.dp_l (Dw.sq_of (s3 _ _ e2)) Dw.cel_ints, Dw.shaped_l Dw.cel_ints, Dw.shaped_l Dw.cel_ints, ?_⟩
          rw [Dw.eqv_l Dw.cel_ints Dw.cel_ints, decide_eq_true rfl]
          exact q H3 ((s1.trans s2).trans s3)
/-- a good manifest is let by -/
structure ManOk (H : Hp) (t : Addr) (ver : Int) (xs : List Int) (num s : Int) : Prop where
  at_ : Mf.ManAt H t ver xs num s
  v0 : 1 ≤ ver
  v1 : ver ≤ 999
  lo : 1 ≤ xs.length
  hi : xs.length ≤ 12
  rg : ∀ x ∈ xs, 0 ≤ x ∧ x ≤ 9972
  n0 : 0 ≤ num
  n1 : num ≤ 3
  s0 : 0 ≤ s
  s1 : s ≤ 9972
theorem ManOk.mono {H H' : Hp} {t : Addr} {ver : Int} {xs : List Int} {num s : Int} (k : Same H H') (M : ManOk H t ver xs num s) : ManOk H' t ver xs num s := ⟨M.at_.mono k, M.v0, M.v1, M.lo, M.hi, M.rg, M.n0, M.n1, M.s0, M.s1⟩
def spCheckMan : Sp := fun vs H Q _ => ∃ (t : Addr) (ver : Int) (xs : List Int) (num s : Int), vs = [.ref t] ∧ ManOk H t ver xs num s ∧ ∀ H', Same H H' → Q .non H'
theorem G_check_manifest {a : Ad} (T : Top K mg a) : FnOk P w K mg base CX0 4 a.f_check_manifest a.d_check_manifest P_check_manifest spCheckMan := by
  refine T.F_check_manifest.ok sc_check_manifest (fun vs H Q E h => ?_) (fun cdv A outer s H vs Q E hr h => ?_)
  · obtain ⟨_, _, _, _, _, rfl, _⟩ := h
    rfl
  · obtain ⟨t, ver, xs, num, sl, rfl, M, q⟩ := h
    obtain ⟨u, as, ht, hu, tr⟩ := M.at_
    have hS := Bk.sums_rng xs
    refine ⟨_, (pss_cons (ps_asg (pv 0) (pg_tup rfl (pgs_cons (pg_name (i := 1) sc_check_manifest.nd rfl (Or.inl rfl)) (pgs_cons (pg_name (i := 2) sc_check_manifest.nd rfl (Or.inl rfl)) (pgs_cons (pg_name (i := 3) sc_check_manifest.nd rfl (Or.inl rfl)) (pgs_cons (pg_name (i := 4) sc_check_manifest.nd rfl (Or.inl rfl)) (pgs_cons (pg_name (i := 5) sc_check_manifest.nd rfl (Or.inl rfl)) (pgs_cons (pg_name (i := 6) sc_check_manifest.nd rfl (Or.inl rfl)) (pgs_cons (pg_name (i := 7) sc_check_manifest.nd rfl (Or.inl rfl)) pgs_nil)))))))))
      (pss_cons (ps_if (pt_not (pt_val (pe_call (G_is_number T) (hr.mono (by omega)) (by rfl) T.g_is_number T.F_is_number.kp T.B_is_number .nil pass0 (pa_cons (pv 1) (pa_cons pe_int (pa_cons (pe_glob (v := .int 999) rfl T.c_GREATEST_VERSION ⟨_, rfl⟩) pa_nil))))))
        (pss_one ps_never)
        pss_nil)
      (pss_cons (ps_if (pt_not (pt_val (pe_call (G_is_number T) (hr.mono (by omega)) (by rfl) T.g_is_number T.F_is_number.kp T.B_is_number .nil pass0 (pa_cons (pv 2) (pa_cons pe_int (pa_cons (pe_glob (v := .int 12) rfl T.c_MOST_LENGTH ⟨_, rfl⟩) pa_nil))))))
        (pss_one ps_never)
        pss_nil)
      (pss_cons (ps_if (pt_not (pt_val (pe_call (G_are_names T) (hr.mono (by omega)) (by rfl) T.g_are_names T.F_are_names.kp T.B_are_names .nil pass0 (pa_cons (pv 7) (pa_cons (pv 2) pa_nil)))))
        (pss_one ps_never)
        pss_nil)
      (pss_cons (ps_if (pt_cmpR (op_neD hr.units) (pe_call (G_joined T) (hr.mono (by omega)) (by rfl) T.g_joined T.F_joined.kp T.B_joined .nil pass0 (pa_cons (pv 7) pa_nil)) (pe_tup (pa_cons (pv 3) (pa_cons (pv 4) pa_nil))) (nomark _))
        (pss_one ps_never)
        pss_nil)
      (pss_cons (ps_if (pt_not (pt_val (pe_call (G_is_number T) (hr.mono (by omega)) (by rfl) T.g_is_number T.F_is_number.kp T.B_is_number .nil pass0 (pa_cons (pv 5) (pa_cons pe_int (pa_cons (pe_op op_sub (pe_glob (v := .int 4) rfl T.c_MOST_KEYS ⟨_, rfl⟩) pe_int) pa_nil))))))
        (pss_one ps_never)
        pss_nil)
      (pss_one (ps_if (pt_not (pt_val (pe_call (G_is_number T) (hr.mono (by omega)) (by rfl) T.g_is_number T.F_is_number.kp T.B_is_number .nil pass0 (pa_cons (pv 6) (pa_cons pe_int (pa_cons (pe_glob (v := .int 9972) rfl T.c_GREATEST_WORTH ⟨_, rfl⟩) pa_nil))))))
        (pss_one ps_never)
        pss_nil)))))))), ?_⟩
    refine ⟨_, rfl, t, _, rfl, Dw.st_of ht, rfl, _, _, rfl, _, _, rfl, _, _, rfl, _, _, rfl, _, _, rfl, _, _, rfl, _, [], rfl, rfl, ?_⟩
    refine ⟨_, rfl, ver, 1, 999, rfl, _, rfl, iteNS ⟨M.v0, M.v1⟩ ?_⟩
    refine ⟨_, rfl, _, 1, 12, rfl, _, rfl, iteNS ⟨by have := M.lo; omega, by have := M.hi; omega⟩ ?_⟩
    refine ⟨_, rfl, _, rfl, u, as, xs, rfl, Dw.st_of hu, tr, M.hi, fun H1 s1 => ?_⟩
    refine ⟨_, rfl, iteF ?_⟩
    refine ⟨_, rfl, u, as, Mf.names xs, rfl, Dw.st_of (s1 _ _ hu), tr.len, fun i b z hb hz => ?_, fun H2 t2 s2 nt2 ht2 => ?_⟩
    · obtain ⟨z', hz', h⟩ := (tr.mono s1).at hb
      have e := Option.some.inj (hz'.symm.trans hz)
      subst e
      exact Dw.st_of h
    · rw [Mf.names_sums] at ht2
      refine ⟨_, rfl, _, rfl, Dw.sz_ rfl, fun t3 ht3 => ?_⟩
      have s3 := Dw.same_upd (o := .tup [.int (Sm.sumsI xs).1, .int (Sm.sumsI xs).2]) ht3
      have cel2 : ∀ v ∈ [V.int (Sm.sumsI xs).1, .int (Sm.sumsI xs).2], Dw.cel v = true := Dw.cel_ints (xs := [(Sm.sumsI xs).1, (Sm.sumsI xs).2])
      refine ⟨_, _, Dw.dp_t (Dw.st_of (s3 _ _ ht2)) cel2, Dw.dp_t (Dw.st_of upd_same) cel2, Dw.shaped_t cel2, Dw.shaped_t cel2, _, rfl, ?_⟩
      rw [Dw.eqv_t cel2 cel2]
      refine iteNS rfl ?_
      refine ⟨_, rfl, _, _, rfl, rfl, num, 0, 3, rfl, _, rfl, iteNS ⟨M.n0, M.n1⟩ ?_⟩
      refine ⟨_, rfl, sl, 0, 9972, rfl, _, rfl, iteNS ⟨M.s0, M.s1⟩ ?_⟩
      exact q _ ((s1.trans s2).trans s3)

/-- a number as it is written -/
def spWN : Sp := fun vs H Q _ => ∃ n : Int, vs = [.str (Tx.num n)] ∧ Tx.Rg n ∧ Q (.bl true) H
theorem G_is_written_number {a : Ad} (T : Top K mg a) : FnOk P w K mg base CX0 1 a.f_is_written_number a.d_is_written_number P_is_written_number spWN := by
  refine T.F_is_written_number.ok sc_is_written_number (fun vs H Q E h => ?_) (fun cdv A outer s H vs Q E hr h => ?_)
  · obtain ⟨_, rfl, _⟩ := h
    rfl
  · obtain ⟨n, rfl, hn, q⟩ := h
    refine ⟨_, (pss_cons (ps_if (pt_not (PW.pt (pw_and (pt_val (pe_m0 PySem.F.slot_str_isascii PySem.F.type_str_isascii mt_isascii (pv 0))) (pw_and (pt_val (pe_m0 PySem.F.slot_str_isdigit PySem.F.type_str_isdigit mt_isdigit (pv 0))) (pw_and1 (pt_cmpR op_le (pe_callB call_len_str (by rfl) T.b_len PySem.boot_len (pa_cons (pv 0) pa_nil)) (pe_glob (v := .int 4) rfl T.c_MOST_FIGURES ⟨_, rfl⟩) (nomark _)))))))
        (pss_one (ps_ret pe_bl))
        pss_nil)
      (pss_one (ps_ret (pe_or (pe_cmpR op_eq (pe_callB call_len_str (by rfl) T.b_len PySem.boot_len (pa_cons (pv 0) pa_nil)) pe_int (nomark _)) (pe_one (pe_not (pe_m1 PySem.F.slot_str_startswith PySem.F.type_str_startswith mt_startswith (pv 0) pe_str))))))), ?_⟩
    have hp := Tx.num_pos hn.1
    have hl := Tx.num_len hn.1 hn.2
    have hz : (Tx.num n).length ≤ sizeLine := Dw.size_ok (by omega)
    refine ⟨_, rfl, ⟨_, rfl⟩, _, rfl, rfl, trivial, _, rfl, ?_⟩
    rw [Tx.num_ascii hn.1]
    refine iteT ?_
    refine ⟨_, rfl, ⟨_, rfl⟩, _, rfl, rfl, trivial, _, rfl, ?_⟩
    rw [Tx.num_digit hn.1]
    refine iteT ?_
    refine ⟨_, rfl, _, rfl, hz, _, _, rfl, rfl, _, rfl, ?_⟩
    refine iteNS (by omega) ?_
    refine ⟨_, rfl, _, rfl, hz, ?_⟩
    refine ⟨rfl, _, rfl, ite2 (fun _ => q) (fun h => ?_)⟩
    refine ⟨_, rfl, ⟨_, rfl⟩, _, _, rfl, rfl, _, rfl, ?_⟩
    have h0 : 0 < n := by
      have := hn.1
      by_cases e : n = 0
      · rw [e] at h
        exact absurd (decide_eq_true (congrArg V.int (by rw [Tx.num_zero]; rfl))) h
      · omega
    rw [Tx.num_start h0]
    exact q
/-- a word in its place -/
def spCan (K : PySem.W.Frag) : Sp := fun vs H Q _ => ∃ (wd : Str) (i : Nat), vs = [.str wd, .int (i : Int)] ∧ ((i = 0 ∧ wd = "picture") ∨ (1 ≤ i ∧ i ≤ 6 ∧ ∃ n, Tx.Rg n ∧ wd = Tx.num n) ∨ (7 ≤ i ∧ ∃ t, Tx.RgT t ∧ wd = Tx.title t)) ∧ ∀ H', Same H H' → Q (.bl true) H'
theorem G_can_stand {a : Ad} (T : Top K mg a) : FnOk P w K mg base CX0 2 a.f_can_stand a.d_can_stand P_can_stand (spCan K) := by
  refine T.F_can_stand.ok sc_can_stand (fun vs H Q E h => ?_) (fun cdv A outer s H vs Q E hr h => ?_)
  · obtain ⟨_, _, rfl, _⟩ := h
    rfl
  · obtain ⟨wd, i, rfl, hw, q⟩ := h
    refine ⟨_, (pss_cons (ps_if (pt_cmpR op_eq (pv 1) pe_int (nomark _))
        (pss_one (ps_ret (pe_cmpR op_eq (pv 0) (pe_glob (v := .str "picture") rfl T.c_FIRST_WORD ⟨_, rfl⟩) (nomark _))))
        pss_nil)
      (pss_cons (ps_if (pt_cmpR op_le (pv 1) (pe_glob (v := .int 6) rfl T.c_NUMBERS ⟨_, rfl⟩) (nomark _))
        (pss_one (ps_ret (pe_call (G_is_written_number T) (hr.mono (by omega)) (by rfl) T.g_is_written_number T.F_is_written_number.kp T.B_is_written_number .nil pass0 (pa_cons (pv 0) pa_nil))))
        pss_nil)
      (pss_cons (ps_set (i := 2) sc_can_stand.nd rfl (Or.inl rfl) (pe_split (pv 0) pe_str))
      (pss_one (ps_ret (pe_and (pe_cmpR op_eq (pe_callB call_len_seq (by rfl) T.b_len PySem.boot_len (pa_cons (pv 2) pa_nil)) (pe_glob (v := .int 3) rfl T.c_NAME_PARTS ⟨_, rfl⟩) (nomark _)) (pe_one (pe_callB (cr_all rfl) (by rfl) T.b_all (by decide +kernel) (pa_cons (pe_lc (own := [(("part" : Str), 3)]) (g := (gName 3)) (tt := tYes) (by rfl) sc_can_stand.nd (pi_list (pv 2)) (blkOk_by (own := [(("part" : Str), 3)]) (N := N_can_stand) (sc := defScope s_can_stand) (by decide +kernel)) (fun _ _ _ _ _ => (pg_name (i := 3) sc_can_stand.nd rfl (Or.inl rfl))) (fun _ _ _ _ _ => pts_nil) (fun _ _ _ _ _ => (pe_call (G_is_written_number T) (hr.mono (by omega)) (by rfl) T.g_is_written_number T.F_is_written_number.kp T.B_is_written_number .nil pass0 (pa_cons (pv 3) pa_nil)))) pa_nil))))))))), ?_⟩
    rcases hw with ⟨rfl, rfl⟩ | ⟨i0, i6, n, hn, rfl⟩ | ⟨i7, t, ht, rfl⟩
    · refine ⟨_, rfl, rfl, _, rfl, ite2 (fun _ => ?_) (fun z => absurd (by rfl) z)⟩
      refine ⟨_, rfl, rfl, ?_⟩
      rw [decide_eq_true rfl]
      exact q H fun _ _ e => e
    · refine ⟨_, rfl, rfl, _, rfl, ite2 (fun z => absurd (of_decide_eq_true z) (fun e => ?_)) (fun _ => ?_)⟩
      · injection e with e
        omega
      refine ⟨_, rfl, _, _, rfl, rfl, _, rfl, ite2 (fun _ => ?_) (fun z => absurd (decide_eq_true (by omega)) z)⟩
      exact ⟨_, rfl, n, rfl, hn, q H fun _ _ e => e⟩
    · refine ⟨_, rfl, rfl, _, rfl, ite2 (fun z => absurd (of_decide_eq_true z) (fun e => ?_)) (fun _ => ?_)⟩
      · injection e with e
        omega
      refine ⟨_, rfl, _, _, rfl, rfl, _, rfl, ite2 (fun z => absurd (of_decide_eq_true z) (by omega)) (fun _ => ?_)⟩
      refine ⟨_, rfl, ⟨_, rfl⟩, _, _, rfl, rfl, by decide +kernel, Dw.size_ok (by have := Tx.title_len ht; omega), fun lp hlp => ?_⟩
      rw [Tx.title_split ht]
      have s1 := Dw.same_upd (o := .lst ([Tx.num t.1, Tx.num t.2.1, Tx.num t.2.2].map V.str)) hlp
      have hlp1 : (upd H lp (.lst ([Tx.num t.1, Tx.num t.2.1, Tx.num t.2.2].map V.str))) lp = some (.lst ([Tx.num t.1, Tx.num t.2.1, Tx.num t.2.2].map V.str)) := upd_same
      generalize upd H lp (.lst ([Tx.num t.1, Tx.num t.2.1, Tx.num t.2.2].map V.str)) = H1 at s1 hlp1 ⊢
      refine ⟨_, rfl, lp, _, rfl, .inl (Dw.sq_of hlp1), rfl, _, rfl, ite2 (fun _ => ?_) (fun z => absurd (by rfl) z)⟩
      refine ⟨_, rfl, lp, rfl, ⟨_, Dw.sq_of hlp1⟩, fun D hD => lc_list (K := K) (a := lp) (xs := [Tx.num t.1, Tx.num t.2.1, Tx.num t.2.2].map V.str) (fun i H' => Same H1 H' ∧ H' D = some (.lst ((List.replicate i true).map V.bl))) ⟨Dw.same_upd hD, upd_same⟩ (fun i H' _ ⟨s, _⟩ => s.seq (Dw.sq_of hlp1)) ?_ ?_⟩
      · rintro j y H2 hj ⟨s2, e2⟩
        have hlt := (List.getElem?_eq_some_iff.mp hj).1
        have hlt : j < 3 := hlt
        obtain ⟨n, hn, rfl⟩ : ∃ n, Tx.Rg n ∧ y = .str (Tx.num n) := by
          match j, hj with
          | 0, h => exact ⟨_, ht.1, (Option.some.inj h).symm⟩
          | 1, h => exact ⟨_, ht.2.1, (Option.some.inj h).symm⟩
          | 2, h => exact ⟨_, ht.2.2, (Option.some.inj h).symm⟩
        refine ⟨rfl, _, rfl, n, rfl, hn, _, e2, Dw.size_lt (by rw [List.length_map, List.length_replicate]; omega), Dw.same_mut s2 hD, ?_⟩
        rw [upd_same, List.replicate_succ', List.map_append]
        rfl
      · rintro H2 ⟨s2, e2⟩
        refine ⟨D, _, rfl, Dw.sq_of e2, ?_⟩
        exact q H2 (s1.trans s2)
/-- the numbers of a good manifest are such as are written -/
theorem rgs {ver : Int} {xs : List Int} {num s : Int} (hv : 1 ≤ ver ∧ ver ≤ 999) (hl : xs.length ≤ 12) (hn : 0 ≤ num ∧ num ≤ 3) (hs : 0 ≤ s ∧ s ≤ 9972) : Tx.Rg ver ∧ Tx.Rg (xs.length : Int) ∧ Tx.Rg (Sm.sumsI xs).1 ∧ Tx.Rg (Sm.sumsI xs).2 ∧ Tx.Rg num ∧ Tx.Rg s ∧ (∀ t ∈ Mf.names xs, Tx.RgT t) ∧ (Mf.names xs).length ≤ 4 := by
  have hS := Bk.sums_rng xs
  unfold Tx.Rg
  refine ⟨by omega, by omega, by omega, by omega, by omega, by omega, fun t ht => ?_, by rw [Mf.names_len]; unfold Mf.cnt; omega⟩
  unfold Mf.names Mf.pcs at ht
  rw [List.map_map] at ht
  obtain ⟨i, _, rfl⟩ := List.mem_map.mp ht
  have hp := Bk.sums_rng (Mf.piece xs i)
  have hl := Mf.piece_len xs i
  show Tx.Rg (Sm.sumsI (Mf.piece xs i)).1 ∧ Tx.Rg (Sm.sumsI (Mf.piece xs i)).2 ∧ Tx.Rg ((Mf.piece xs i).length : Int)
  unfold Tx.Rg
  omega
theorem man_rg {H : Hp} {t : Addr} {ver : Int} {xs : List Int} {num s : Int} (M : ManOk H t ver xs num s) : Tx.Rg ver ∧ Tx.Rg (xs.length : Int) ∧ Tx.Rg (Sm.sumsI xs).1 ∧ Tx.Rg (Sm.sumsI xs).2 ∧ Tx.Rg num ∧ Tx.Rg s ∧ (∀ t ∈ Mf.names xs, Tx.RgT t) ∧ (Mf.names xs).length ≤ 4 := rgs ⟨M.v0, M.v1⟩ M.hi ⟨M.n0, M.n1⟩ ⟨M.s0, M.s1⟩
def spWritten : Sp := fun vs H Q _ => ∃ (t : Addr) (ver : Int) (xs : List Int) (num s : Int), vs = [.ref t] ∧ ManOk H t ver xs num s ∧ ∀ H', Same H H' → Q (.str (Tx.text ver (xs.length : Int) (Sm.sumsI xs).1 (Sm.sumsI xs).2 num s (Mf.names xs))) H'
theorem G_written {a : Ad} (T : Top K mg a) : FnOk P w K mg base CX0 5 a.f_written a.d_written P_written spWritten := by
  refine T.F_written.ok sc_written (fun vs H Q E h => ?_) (fun cdv A outer s H vs Q E hr h => ?_)
  · obtain ⟨_, _, _, _, _, rfl, _⟩ := h
    rfl
  · obtain ⟨t, ver, xs, num, sl, rfl, M, q⟩ := h
    refine ⟨_, (pss_cons (ps_expr (pe_call (G_check_manifest T) (hr.mono (by omega)) (by rfl) T.g_check_manifest T.F_check_manifest.kp T.B_check_manifest .nil pass0 (pa_cons (pv 0) pa_nil)))
      (pss_cons (ps_asg (pv 0) (Us.pg_starL rfl (pgs_cons (pg_name (i := 1) sc_written.nd rfl (Or.inl rfl)) (pgs_cons (pg_name (i := 2) sc_written.nd rfl (Or.inl rfl)) pgs_nil))))
      (pss_cons (ps_setLc (i := 3) (own := [(("title" : Str), 4)]) (g := (gName 4)) (tt := tYes) (by rfl) sc_written.nd rfl rfl (sw_true rfl rfl rfl (by decide +kernel)) (pi_tup (pv 2)) (blkOk_by (own := [(("title" : Str), 4)]) (N := N_written) (sc := defScope s_written) (by decide +kernel)) (fun _ _ _ _ _ => (pg_name (i := 4) sc_written.nd rfl (Or.inl rfl))) (fun _ _ _ _ _ => pts_nil) (fun _ _ _ _ _ => (by exact (pe_m1 PySem.F.slot_str_join PySem.F.type_str_join (Nl.mt_joinK (K := K) rfl) pe_str (pe_lc (own := [(("number" : Str), 5)]) (g := (gName 5)) (tt := tYes) (by rfl) sc_written.nd (Nl.pi_tupK (K := K) rfl (pv 4)) (blkOk_by (own := [(("number" : Str), 5)]) (N := N_written) (sc := (Nl.sc s_written 2 [])) (by decide +kernel)) (fun _ _ _ _ _ => (pg_name (i := 5) sc_written.nd rfl (Or.inl rfl))) (fun _ _ _ _ _ => pts_nil) (fun _ _ _ _ _ => (pe_callTy call_str_int (by rfl) T.b_str (by decide +kernel) (pa_cons (pv 5) pa_nil))))))))
      (pss_one (ps_ret (pe_join pe_str (pe_lst (pa_cons (pe_glob (v := .str "picture") rfl T.c_FIRST_WORD ⟨_, rfl⟩) (StX.pa_star (pe_lc (own := [(("number" : Str), 5)]) (g := (gName 5)) (tt := tYes) (by rfl) sc_written.nd (pi_list (pv 1)) (blkOk_by (own := [(("number" : Str), 5)]) (N := N_written) (sc := defScope s_written) (by decide +kernel)) (fun _ _ _ _ _ => (pg_name (i := 5) sc_written.nd rfl (Or.inl rfl))) (fun _ _ _ _ _ => pts_nil) (fun _ _ _ _ _ => (pe_callTy call_str_int (by rfl) T.b_str (by decide +kernel) (pa_cons (pv 5) pa_nil)))) (StX.pa_star (pv 3) pa_nil)))))))))), ?_⟩
    obtain ⟨r1, r2, r3, r4, r5, r6, rt, rl⟩ := man_rg M
    refine ⟨_, rfl, t, ver, xs, num, sl, rfl, M, fun H1 s1 => ?_⟩
    obtain ⟨u, as, ht, hu, tr⟩ := M.at_.mono s1
    have las := tr.len
    refine ⟨_, rfl, t, .ref u, [ver, (xs.length : Int), (Sm.sumsI xs).1, (Sm.sumsI xs).2, num, sl].map V.int, rfl, Dw.st_of ht, by show 6 ≤ 1000; decide, fun ln hln => ?_⟩
    have s2 := Dw.same_upd (o := .lst ([ver, (xs.length : Int), (Sm.sumsI xs).1, (Sm.sumsI xs).2, num, sl].map V.int)) hln
    have hn2 : (upd H1 ln (.lst ([ver, (xs.length : Int), (Sm.sumsI xs).1, (Sm.sumsI xs).2, num, sl].map V.int))) ln = some (.lst ([ver, (xs.length : Int), (Sm.sumsI xs).1, (Sm.sumsI xs).2, num, sl].map V.int)) := upd_same
    generalize upd H1 ln (.lst ([ver, (xs.length : Int), (Sm.sumsI xs).1, (Sm.sumsI xs).2, num, sl].map V.int)) = H2 at s2 hn2 ⊢
    have hu2 := s2 _ _ hu
    have tr2 := tr.mono s2
    generalize Mf.names xs = ts at *
    refine ⟨_, [_], rfl, _, [], rfl, rfl, ?_⟩
    refine ⟨.ref u, rfl, u, rfl, ⟨_, Dw.st_of hu2⟩, fun D hD => lc_tup (K := K) (a := u) (xs := as.map V.ref) (fun i H' => Same H2 H' ∧ H' D = some (.lst (((ts.take i).map Tx.title).map V.str))) ⟨Dw.same_upd hD, upd_same⟩ (fun i H' _ ⟨s, _⟩ => Dw.same_tup s (Dw.st_of hu2)) ?_ ?_⟩
    · rintro i y H3 hi ⟨s3, e3⟩
      obtain ⟨b, hb, rfl⟩ := Dw.get_map_ref hi
      obtain ⟨z, hz, hbz⟩ := tr2.at hb
      have hlt := (List.getElem?_eq_some_iff.mp hz).1
      have rz := rt z (List.mem_of_getElem? hz)
      have hb3 := s3 _ _ hbz
      refine ⟨rfl, ⟨_, rfl⟩, _, rfl, b, rfl, ⟨_, Dw.st_of hb3⟩, fun D2 hD2 => lc_tup (K := K) (a := b) (xs := [z.1, z.2.1, z.2.2].map V.int) (fun j H' => Same H3 H' ∧ H' D2 = some (.lst (([Tx.num z.1, Tx.num z.2.1, Tx.num z.2.2].take j).map V.str))) ⟨Dw.same_upd hD2, upd_same⟩ (fun j H' _ ⟨s, _⟩ => Dw.same_tup s (Dw.st_of hb3)) ?_ ?_⟩
      · rintro j y H4 hj ⟨s4, e4⟩
        have hlj := (List.getElem?_eq_some_iff.mp hj).1
        have hlj : j < 3 := hlj
        obtain ⟨n, hn, hj2, rfl⟩ : ∃ n, Tx.Rg n ∧ [Tx.num z.1, Tx.num z.2.1, Tx.num z.2.2][j]? = some (Tx.num n) ∧ y = .int n := by
          match j, hj with
          | 0, h => exact ⟨_, rz.1, rfl, (Option.some.inj h).symm⟩
          | 1, h => exact ⟨_, rz.2.1, rfl, (Option.some.inj h).symm⟩
          | 2, h => exact ⟨_, rz.2.2, rfl, (Option.some.inj h).symm⟩
        refine ⟨rfl, _, rfl, n, rfl, Tx.num_log hn.1 hn.2, _, e4, Dw.size_lt (by rw [List.length_map, List.length_take]; show min j 3 < 100000; omega), Dw.same_mut s4 hD2, ?_⟩
        rw [upd_same, List.take_add_one, hj2, List.map_append]
        rfl
      · rintro H4 ⟨s4, e4⟩
        have h1 := Tx.num_len rz.1.1 rz.1.2
        have h2 := Tx.num_len rz.2.1.1 rz.2.1.2
        have h3 := Tx.num_len rz.2.2.1 rz.2.2.2
        refine ⟨_, D2, [Tx.num z.1, Tx.num z.2.1, Tx.num z.2.2], rfl, rfl, .inl (Dw.sq_of e4), by rw [Tx.comma_len]; show (Tx.num z.1).length + ((Tx.num z.2.1).length + ((Tx.num z.2.2).length + 0)) + 3 * 1 ≤ 16777216; omega, ?_⟩
        refine ⟨_, s4 _ _ e3, Dw.size_lt (by rw [List.length_map, List.length_map, List.length_take]; omega), Dw.same_mut (s3.trans s4) hD, ?_⟩
        rw [upd_same, List.take_add_one, hz, List.map_append, List.map_append]
        rfl
    · rintro H3 ⟨s3, e3⟩
      rw [List.length_map, las, List.take_length] at e3
      have hn3 := s3 _ _ hn2
      refine ⟨⟨_, rfl⟩, .ref ln, rfl, ln, rfl, ⟨_, Dw.sq_of hn3⟩, fun D3 hD3 => lc_list (K := K) (a := ln) (xs := [ver, (xs.length : Int), (Sm.sumsI xs).1, (Sm.sumsI xs).2, num, sl].map V.int) (fun j H' => Same H3 H' ∧ H' D3 = some (.lst (((Tx.nums ver (xs.length : Int) (Sm.sumsI xs).1 (Sm.sumsI xs).2 num sl).take j).map V.str))) ⟨Dw.same_upd hD3, upd_same⟩ (fun j H' _ ⟨s, _⟩ => s.seq (Dw.sq_of hn3)) ?_ ?_⟩
      · rintro j y H4 hj ⟨s4, e4⟩
        have hlj := (List.getElem?_eq_some_iff.mp hj).1
        have hlj : j < 6 := hlj
        obtain ⟨n, hn, hj2, rfl⟩ : ∃ n, Tx.Rg n ∧ (Tx.nums ver (xs.length : Int) (Sm.sumsI xs).1 (Sm.sumsI xs).2 num sl)[j]? = some (Tx.num n) ∧ y = .int n := by
          match j, hj with
          | 0, h => exact ⟨_, r1, rfl, (Option.some.inj h).symm⟩
          | 1, h => exact ⟨_, r2, rfl, (Option.some.inj h).symm⟩
          | 2, h => exact ⟨_, r3, rfl, (Option.some.inj h).symm⟩
          | 3, h => exact ⟨_, r4, rfl, (Option.some.inj h).symm⟩
          | 4, h => exact ⟨_, r5, rfl, (Option.some.inj h).symm⟩
          | 5, h => exact ⟨_, r6, rfl, (Option.some.inj h).symm⟩
        refine ⟨rfl, _, rfl, n, rfl, Tx.num_log hn.1 hn.2, _, e4, Dw.size_lt (by rw [List.length_map, List.length_take]; show min j 6 < 100000; omega), Dw.same_mut s4 hD3, ?_⟩
        rw [upd_same, List.take_add_one, hj2, List.map_append]
        rfl
      · rintro H4 ⟨s4, e4⟩
        have hw := Tx.words_sum r1 r2 r3 r4 r5 r6 rt rl
        have ew : V.str "picture" :: (((Tx.nums ver (xs.length : Int) (Sm.sumsI xs).1 (Sm.sumsI xs).2 num sl).map V.str) ++ (((ts.map Tx.title).map V.str) ++ [])) = (Tx.words ver (xs.length : Int) (Sm.sumsI xs).1 (Sm.sumsI xs).2 num sl ts).map V.str := by
          unfold Tx.words
          rw [List.append_nil, List.map_cons, List.map_append]
        refine ⟨D3, _, rfl, .inr (Dw.sq_of e4), _, rfl, D, _, rfl, .inr (Dw.sq_of (s4 _ _ e3)), Dw.size_ok ?_, fun p hp => ?_⟩
        · show (V.str "picture" :: (((Tx.nums ver (xs.length : Int) (Sm.sumsI xs).1 (Sm.sumsI xs).2 num sl).map V.str) ++ (((ts.map Tx.title).map V.str) ++ []))).length ≤ 100000
          rw [ew, List.length_map]
          show (Tx.nums ver (xs.length : Int) (Sm.sumsI xs).1 (Sm.sumsI xs).2 num sl ++ ts.map Tx.title).length + 1 ≤ 100000
          rw [List.length_append, List.length_map]
          show 6 + ts.length + 1 ≤ 100000
          omega
        · have s5 := Dw.same_upd (o := .lst (V.str "picture" :: (((Tx.nums ver (xs.length : Int) (Sm.sumsI xs).1 (Sm.sumsI xs).2 num sl).map V.str) ++ (((ts.map Tx.title).map V.str) ++ [])))) hp
          refine ⟨_, p, Tx.words ver (xs.length : Int) (Sm.sumsI xs).1 (Sm.sumsI xs).2 num sl ts, rfl, rfl, .inl (Dw.sq_of ?_), Nat.le_trans hw (by decide), q _ ((((s1.trans s2).trans s3).trans s4).trans s5)⟩
          rw [← ew]
          exact upd_same
def spRead : Sp := fun vs H Q _ => ∃ (ver : Int) (xs : List Int) (num s : Int), vs = [.str (Tx.text ver (xs.length : Int) (Sm.sumsI xs).1 (Sm.sumsI xs).2 num s (Mf.names xs))] ∧
  (1 ≤ ver ∧ ver ≤ 999) ∧ (1 ≤ xs.length ∧ xs.length ≤ 12) ∧ (∀ x ∈ xs, 0 ≤ x ∧ x ≤ 9972) ∧ (0 ≤ num ∧ num ≤ 3) ∧ (0 ≤ s ∧ s ≤ 9972) ∧ ∀ H' t, Same H H' → ManOk H' t ver xs num s → Q (.ref t) H'
theorem G_read {a : Ad} (T : Top K mg a) : FnOk P w K mg base CX0 5 a.f_read a.d_read P_read spRead := by
  refine T.F_read.ok sc_read (fun vs H Q E h => ?_) (fun cdv A outer s H vs Q E hr h => ?_)
  · obtain ⟨_, _, _, _, rfl, _⟩ := h
    rfl
  · obtain ⟨ver, xs, num, sl, rfl, hv, hl, hx, hn, hs, q⟩ := h
    refine ⟨_, (pss_cons (ps_set (i := 1) sc_read.nd rfl (Or.inl rfl) (pe_split (pv 0) pe_str))
      (pss_cons (ps_for PassesOwn.never rfl (pi_enum (by rfl) T.b_enumerate (pa_cons (pv 1) pa_nil)) (pg_tup rfl (pgs_cons (pg_name (i := 2) sc_read.nd rfl (Or.inl rfl)) (pgs_cons (pg_name (i := 3) sc_read.nd rfl (Or.inl rfl)) pgs_nil)))
        (pss_one (ps_if (pt_not (pt_val (pe_call (G_can_stand T) (hr.mono (by omega)) (by rfl) T.g_can_stand T.F_can_stand.kp T.B_can_stand .nil pass0 (pa_cons (pv 3) (pa_cons (pv 2) pa_nil)))))
        (pss_one ps_never)
        pss_nil)))
      (pss_cons (ps_asg (pv 1) (Us.pg_star rfl (pgs_cons (pg_name (i := 4) sc_read.nd rfl (Or.inl rfl)) (pgs_cons (pg_name (i := 5) sc_read.nd rfl (Or.inl rfl)) pgs_nil))))
      (pss_cons (ps_if (pt_cmpR op_lt (pe_callB call_len_seq (by rfl) T.b_len PySem.boot_len (pa_cons (pv 5) pa_nil)) (pe_glob (v := .int 6) rfl T.c_NUMBERS ⟨_, rfl⟩) (nomark _))
        (pss_one ps_never)
        pss_nil)
      (pss_cons (ps_setLc (i := 6) (own := [(("word" : Str), 3)]) (g := (gName 3)) (tt := tYes) (by rfl) sc_read.nd rfl rfl (sw_true rfl rfl rfl (by decide +kernel)) (pi_list (pe_slice sl_list (pv 5) po_none (po_some (pe_glob (v := .int 6) rfl T.c_NUMBERS ⟨_, rfl⟩)))) (blkOk_by (own := [(("word" : Str), 3)]) (N := N_read) (sc := defScope s_read) (by decide +kernel)) (fun _ _ _ _ _ => (pg_name (i := 3) sc_read.nd rfl (Or.inl rfl))) (fun _ _ _ _ _ => pts_nil) (fun _ _ _ _ _ => (pe_callTy call_int_str (by rfl) T.b_int (by decide +kernel) (pa_cons (pv 3) pa_nil))))
      (pss_cons (ps_setLc (i := 7) (own := [(("word" : Str), 3)]) (g := (gName 3)) (tt := tYes) (by rfl) sc_read.nd rfl rfl (sw_true rfl rfl rfl (by decide +kernel)) (pi_list (pe_slice sl_list (pv 5) (po_some (pe_glob (v := .int 6) rfl T.c_NUMBERS ⟨_, rfl⟩)) po_none)) (blkOk_by (own := [(("word" : Str), 3)]) (N := N_read) (sc := defScope s_read) (by decide +kernel)) (fun _ _ _ _ _ => (pg_name (i := 3) sc_read.nd rfl (Or.inl rfl))) (fun _ _ _ _ _ => pts_nil) (fun _ _ _ _ _ => (by exact (pe_callTy (Mf.call_tuple_ofK (K := K) rfl) (by rfl) T.b_tuple (by decide +kernel) (pa_cons (pe_lc (own := [(("part" : Str), 9)]) (g := (gName 9)) (tt := tYes) (by rfl) sc_read.nd (Nl.pi_listK (K := K) rfl (pe_split (pv 3) pe_str)) (blkOk_by (own := [(("part" : Str), 9)]) (N := N_read) (sc := (Nl.sc s_read 5 [])) (by decide +kernel)) (fun _ _ _ _ _ => (pg_name (i := 9) sc_read.nd rfl (Or.inl rfl))) (fun _ _ _ _ _ => pts_nil) (fun _ _ _ _ _ => (pe_callTy call_int_str (by rfl) T.b_int (by decide +kernel) (pa_cons (pv 9) pa_nil)))) pa_nil)))))
      (pss_cons (ps_set (i := 8) sc_read.nd rfl (Or.inl rfl) (pe_tup (StX.pa_star (pv 6) (pa_cons (pe_callTy call_tuple_of (by rfl) T.b_tuple (by decide +kernel) (pa_cons (pv 7) pa_nil)) pa_nil))))
      (pss_cons (ps_expr (pe_call (G_check_manifest T) (hr.mono (by omega)) (by rfl) T.g_check_manifest T.F_check_manifest.kp T.B_check_manifest .nil pass0 (pa_cons (pv 8) pa_nil)))
      (pss_one (ps_ret (pv 8))))))))))), ?_⟩
    obtain ⟨r1, r2, r3, r4, r5, r6, rt, rl⟩ := rgs hv hl.2 hn hs
    have hw := Tx.words_sum r1 r2 r3 r4 r5 r6 rt rl
    have hS := Bk.sums_rng xs
    have lts := Mf.names_len xs
    refine ⟨_, rfl, ⟨_, rfl⟩, _, _, rfl, rfl, by decide +kernel, Dw.size_ok (by have := Tx.join_len " " (Tx.words ver (xs.length : Int) (Sm.sumsI xs).1 (Sm.sumsI xs).2 num sl (Mf.names xs)); show (Txt.join " " _).length + 2 ≤ 100000; omega), fun lw hlw => ?_⟩
    rw [Tx.text_split r1 r2 r3 r4 r5 r6 rt]
    have wat : ∀ i wd, (Tx.words ver (xs.length : Int) (Sm.sumsI xs).1 (Sm.sumsI xs).2 num sl (Mf.names xs))[i]? = some wd → _ := fun i wd h => Tx.words_at r1 r2 r3 r4 r5 r6 rt h
    have s1 := Dw.same_upd (o := .lst ((Tx.words ver (xs.length : Int) (Sm.sumsI xs).1 (Sm.sumsI xs).2 num sl (Mf.names xs)).map V.str)) hlw
    have hw1 : (upd H lw (.lst ((Tx.words ver (xs.length : Int) (Sm.sumsI xs).1 (Sm.sumsI xs).2 num sl (Mf.names xs)).map V.str))) lw = some (.lst ((Tx.words ver (xs.length : Int) (Sm.sumsI xs).1 (Sm.sumsI xs).2 num sl (Mf.names xs)).map V.str)) := upd_same
    generalize upd H lw (.lst ((Tx.words ver (xs.length : Int) (Sm.sumsI xs).1 (Sm.sumsI xs).2 num sl (Mf.names xs)).map V.str)) = H1 at s1 hw1 ⊢
    refine ⟨_, rfl, lw, _, rfl, Dw.sq_of hw1, for_it (walk_enum (K := K) (a := lw) (xs := (Tx.words ver (xs.length : Int) (Sm.sumsI xs).1 (Sm.sumsI xs).2 num sl (Mf.names xs)).map V.str)) (fun i σ H' => ∃ (v2 v3 : Option V), σ = [some (.str (Tx.text ver (xs.length : Int) (Sm.sumsI xs).1 (Sm.sumsI xs).2 num sl (Mf.names xs))), some (.ref lw), v2, v3, none, none, none, none, none, none] ∧ Same H1 H') ⟨_, _, rfl, fun _ _ e => e⟩ (fun i σ H' _ ⟨_, _, _, s⟩ => s.seq (Dw.sq_of hw1)) ?_ ?_⟩
    · rintro i x σ H2 H3 hi ⟨v2, v3, rfl, s2⟩ ⟨T2, y1, y2, rfl, nT, rfl, e1, e2⟩
      have e1 := Option.some.inj e1
      subst e1
      have s3 := Dw.same_upd (o := .tup [.int (i : Nat), y2]) nT
      obtain ⟨wd, hwd, rfl⟩ : ∃ wd, (Tx.words ver (xs.length : Int) (Sm.sumsI xs).1 (Sm.sumsI xs).2 num sl (Mf.names xs))[i]? = some wd ∧ y2 = .str wd := by
        have e2 : ((Tx.words ver (xs.length : Int) (Sm.sumsI xs).1 (Sm.sumsI xs).2 num sl (Mf.names xs)).map V.str)[i]? = some y2 := e2
        rw [List.getElem?_map] at e2
        cases hh : (Tx.words ver (xs.length : Int) (Sm.sumsI xs).1 (Sm.sumsI xs).2 num sl (Mf.names xs))[i]? with
        | none =>
          rw [hh] at e2
          cases e2
        | some wd =>
          rw [hh] at e2
          exact ⟨wd, rfl, (Option.some.inj e2).symm⟩
      refine ⟨T2, _, rfl, Dw.st_of upd_same, rfl, _, [_], rfl, _, [], rfl, rfl, ?_⟩
      refine ⟨_, rfl, _, rfl, wd, i, rfl, wat i wd hwd, fun H4 s4 => ⟨_, rfl, iteF ⟨_, _, rfl, (s2.trans s3).trans s4⟩⟩⟩
    · rintro σ H2 ⟨v2, v3, rfl, s2⟩
      have hw2 := s2 _ _ hw1
      refine ⟨_, rfl, lw, .str "picture", (Tx.nums ver (xs.length : Int) (Sm.sumsI xs).1 (Sm.sumsI xs).2 num sl ++ (Mf.names xs).map Tx.title).map V.str, rfl, Dw.sq_of hw2, by rw [List.length_map, List.length_append, List.length_map]; show 6 + (Mf.names xs).length ≤ 1000; omega, fun lr hlr => ?_⟩
      refine ⟨_, [_], rfl, _, [], rfl, rfl, ?_⟩
      have s3 := Dw.same_upd (o := .lst ((Tx.nums ver (xs.length : Int) (Sm.sumsI xs).1 (Sm.sumsI xs).2 num sl ++ (Mf.names xs).map Tx.title).map V.str)) hlr
      have hr3 : (upd H2 lr (.lst ((Tx.nums ver (xs.length : Int) (Sm.sumsI xs).1 (Sm.sumsI xs).2 num sl ++ (Mf.names xs).map Tx.title).map V.str))) lr = some (.lst ((Tx.nums ver (xs.length : Int) (Sm.sumsI xs).1 (Sm.sumsI xs).2 num sl ++ (Mf.names xs).map Tx.title).map V.str)) := upd_same
      generalize upd H2 lr (.lst ((Tx.nums ver (xs.length : Int) (Sm.sumsI xs).1 (Sm.sumsI xs).2 num sl ++ (Mf.names xs).map Tx.title).map V.str)) = H3 at s3 hr3 ⊢
      refine ⟨_, rfl, lr, _, rfl, .inl (Dw.sq_of hr3), _, _, rfl, rfl, _, rfl, ite2 (fun z => absurd (of_decide_eq_true z) ?_) (fun _ => ?_)⟩
      · rw [List.length_map, List.length_append]
        show ¬ ((6 + ((Mf.names xs).map Tx.title).length : Nat) : Int) < 6
        omega
      refine ⟨_, rfl, 6, rfl, lr, _, rfl, Dw.sq_of hr3, fun la hla => ?_⟩
      rw [show cutV ((Tx.nums ver (xs.length : Int) (Sm.sumsI xs).1 (Sm.sumsI xs).2 num sl ++ (Mf.names xs).map Tx.title).map V.str) none (some 6) = (Tx.nums ver (xs.length : Int) (Sm.sumsI xs).1 (Sm.sumsI xs).2 num sl).map V.str from (Dw.cut_take _ 6).trans (by rw [List.map_append]; rfl)]
      have s4 := Dw.same_upd (o := .lst ((Tx.nums ver (xs.length : Int) (Sm.sumsI xs).1 (Sm.sumsI xs).2 num sl).map V.str)) hla
      have ha4 : (upd H3 la (.lst ((Tx.nums ver (xs.length : Int) (Sm.sumsI xs).1 (Sm.sumsI xs).2 num sl).map V.str))) la = some (.lst ((Tx.nums ver (xs.length : Int) (Sm.sumsI xs).1 (Sm.sumsI xs).2 num sl).map V.str)) := upd_same
      generalize upd H3 la (.lst ((Tx.nums ver (xs.length : Int) (Sm.sumsI xs).1 (Sm.sumsI xs).2 num sl).map V.str)) = H4 at s4 ha4 ⊢
      refine ⟨la, rfl, ⟨_, Dw.sq_of ha4⟩, fun D hD => lc_list (K := K) (a := la) (xs := (Tx.nums ver (xs.length : Int) (Sm.sumsI xs).1 (Sm.sumsI xs).2 num sl).map V.str) (fun j H' => Same H4 H' ∧ H' D = some (.lst (([ver, (xs.length : Int), (Sm.sumsI xs).1, (Sm.sumsI xs).2, num, sl].take j).map V.int))) ⟨Dw.same_upd hD, upd_same⟩ (fun j H' _ ⟨s, _⟩ => s.seq (Dw.sq_of ha4)) ?_ ?_⟩
      · rintro j y H5 hj ⟨s5, e5⟩
        have hlj := (List.getElem?_eq_some_iff.mp hj).1
        have hlj : j < 6 := hlj
        obtain ⟨n, hn, hj2, rfl⟩ : ∃ n, Tx.Rg n ∧ ([ver, (xs.length : Int), (Sm.sumsI xs).1, (Sm.sumsI xs).2, num, sl] : List Int)[j]? = some n ∧ y = .str (Tx.num n) := by
          match j, hj with
          | 0, h => exact ⟨_, r1, rfl, (Option.some.inj h).symm⟩
          | 1, h => exact ⟨_, r2, rfl, (Option.some.inj h).symm⟩
          | 2, h => exact ⟨_, r3, rfl, (Option.some.inj h).symm⟩
          | 3, h => exact ⟨_, r4, rfl, (Option.some.inj h).symm⟩
          | 4, h => exact ⟨_, r5, rfl, (Option.some.inj h).symm⟩
          | 5, h => exact ⟨_, r6, rfl, (Option.some.inj h).symm⟩
        refine ⟨rfl, _, rfl, Tx.num n, n, rfl, Tx.num_int hn.1 hn.2, by have := Tx.num_len hn.1 hn.2; omega, _, e5, Dw.size_lt (by rw [List.length_map, List.length_take]; show min j 6 < 100000; omega), Dw.same_mut s5 hD, ?_⟩
        rw [upd_same, List.take_add_one, hj2, List.map_append]
        rfl
      · rintro H5 ⟨s5, e5⟩
        have e5 : H5 D = some (.lst ([ver, (xs.length : Int), (Sm.sumsI xs).1, (Sm.sumsI xs).2, num, sl].map V.int)) := e5
        have hr5 := s5 _ _ (s4 _ _ hr3)
        refine ⟨_, rfl, 6, rfl, lr, _, rfl, Dw.sq_of hr5, fun lb hlb => ?_⟩
        rw [show cutV ((Tx.nums ver (xs.length : Int) (Sm.sumsI xs).1 (Sm.sumsI xs).2 num sl ++ (Mf.names xs).map Tx.title).map V.str) (some 6) none = ((Mf.names xs).map Tx.title).map V.str from (Dw.cut_drop _ 6).trans (by rw [List.map_append]; rfl)]
        have s6 := Dw.same_upd (o := .lst (((Mf.names xs).map Tx.title).map V.str)) hlb
        have hb6 : (upd H5 lb (.lst (((Mf.names xs).map Tx.title).map V.str))) lb = some (.lst (((Mf.names xs).map Tx.title).map V.str)) := upd_same
        have e6 := s6 _ _ e5
        generalize upd H5 lb (.lst (((Mf.names xs).map Tx.title).map V.str)) = H6 at s6 hb6 e6 ⊢
        refine ⟨lb, rfl, ⟨_, Dw.sq_of hb6⟩, fun D2 hD2 => lc_list (K := K) (a := lb) (xs := ((Mf.names xs).map Tx.title).map V.str) (fun i H' => Same H6 H' ∧ ∃ ns : List Addr, H' D2 = some (.lst (ns.map V.ref)) ∧ Mf.Trip H' ns ((Mf.names xs).take i)) ⟨Dw.same_upd hD2, [], upd_same, True.intro⟩ (fun j H' _ ⟨s, _⟩ => s.seq (Dw.sq_of hb6)) ?_ ?_⟩
        · rintro i y H7 hi ⟨s7, ns, e7, tr7⟩
          obtain ⟨z, hz, rfl⟩ : ∃ z, (Mf.names xs)[i]? = some z ∧ y = .str (Tx.title z) := by
            rw [List.getElem?_map, List.getElem?_map] at hi
            cases hh : (Mf.names xs)[i]? with
            | none =>
              rw [hh] at hi
              cases hi
            | some z =>
              rw [hh] at hi
              exact ⟨z, rfl, (Option.some.inj hi).symm⟩
          have rz := rt z (List.mem_of_getElem? hz)
          have hlt := (List.getElem?_eq_some_iff.mp hz).1
          have lns := tr7.len
          rw [List.length_take] at lns
          refine ⟨rfl, _, rfl, ⟨_, rfl⟩, _, _, rfl, rfl, by decide +kernel, Dw.size_ok (by have := Tx.title_len rz; omega), fun lp hlp => ?_⟩
          rw [Tx.title_split rz]
          have s8 := Dw.same_upd (o := .lst ([Tx.num z.1, Tx.num z.2.1, Tx.num z.2.2].map V.str)) hlp
          have hp8 : (upd H7 lp (.lst ([Tx.num z.1, Tx.num z.2.1, Tx.num z.2.2].map V.str))) lp = some (.lst ([Tx.num z.1, Tx.num z.2.1, Tx.num z.2.2].map V.str)) := upd_same
          generalize upd H7 lp (.lst ([Tx.num z.1, Tx.num z.2.1, Tx.num z.2.2].map V.str)) = H8 at s8 hp8 ⊢
          refine ⟨lp, rfl, ⟨_, Dw.sq_of hp8⟩, fun D3 hD3 => lc_list (K := K) (a := lp) (xs := [Tx.num z.1, Tx.num z.2.1, Tx.num z.2.2].map V.str) (fun j H' => Same H8 H' ∧ H' D3 = some (.lst (([z.1, z.2.1, z.2.2].take j).map V.int))) ⟨Dw.same_upd hD3, upd_same⟩ (fun j H' _ ⟨s, _⟩ => s.seq (Dw.sq_of hp8)) ?_ ?_⟩
          · rintro j y H9 hj ⟨s9, e9⟩
            have hlj := (List.getElem?_eq_some_iff.mp hj).1
            have hlj : j < 3 := hlj
            obtain ⟨n, hn, hj2, rfl⟩ : ∃ n, Tx.Rg n ∧ ([z.1, z.2.1, z.2.2] : List Int)[j]? = some n ∧ y = .str (Tx.num n) := by
              match j, hj with
              | 0, h => exact ⟨_, rz.1, rfl, (Option.some.inj h).symm⟩
              | 1, h => exact ⟨_, rz.2.1, rfl, (Option.some.inj h).symm⟩
              | 2, h => exact ⟨_, rz.2.2, rfl, (Option.some.inj h).symm⟩
            refine ⟨rfl, _, rfl, Tx.num n, n, rfl, Tx.num_int hn.1 hn.2, by have := Tx.num_len hn.1 hn.2; omega, _, e9, Dw.size_lt (by rw [List.length_map, List.length_take]; show min j 3 < 100000; omega), Dw.same_mut s9 hD3, ?_⟩
            rw [upd_same, List.take_add_one, hj2, List.map_append]
            rfl
          · rintro H9 ⟨s9, e9⟩
            have e9 : H9 D3 = some (.lst ([z.1, z.2.1, z.2.2].map V.int)) := e9
            have s79 := s8.trans s9
            refine ⟨D3, _, rfl, .inl ⟨Dw.sq_of e9, fun tz htz => ?_⟩⟩
            have s10 := Dw.same_upd (o := .tup ([z.1, z.2.1, z.2.2].map V.int)) htz
            have nD : D2 ≠ tz := ne_of_none (s79 _ _ e7) htz
            refine ⟨_, s10 _ _ (s79 _ _ e7), Dw.size_lt (by rw [List.length_map]; omega), Dw.same_mut ((s7.trans s79).trans s10) hD2, ns ++ [tz], by rw [upd_same, List.map_append]; rfl, ?_⟩
            have kt : ∀ {ys : List V} b u, (upd H9 tz (.tup ([z.1, z.2.1, z.2.2].map V.int))) b = some (.tup u) → (upd (upd H9 tz (.tup ([z.1, z.2.1, z.2.2].map V.int))) D2 (.lst ys)) b = some (.tup u) := fun {ys} b u e => by
              rw [upd_ne (ne_of e (s10 _ _ (s79 _ _ e7)) (by intro z; cases z))]
              exact e
            rw [List.take_add_one, hz]
            exact ((tr7.mono (s79.trans s10)).keep kt).app ⟨kt _ _ upd_same, True.intro⟩
        · rintro H7 ⟨s7, ns, e7, tr7⟩
          rw [List.length_map, List.length_map, List.take_length] at tr7
          refine ⟨_, rfl, D, _, rfl, .inr (Dw.sq_of (s7 _ _ e6)), _, rfl, D2, _, rfl, .inl ⟨Dw.sq_of e7, fun tu htu => ?_⟩⟩
          have s8 := Dw.same_upd (o := .tup (ns.map V.ref)) htu
          refine ⟨Dw.sz_ rfl, fun tm htm => ?_⟩
          have s9 := Dw.same_upd (o := .tup ([ver, (xs.length : Int), (Sm.sumsI xs).1, (Sm.sumsI xs).2, num, sl].map V.int ++ [.ref tu])) htm
          have M : ManOk (upd (upd H7 tu (.tup (ns.map V.ref))) tm (.tup ([ver, (xs.length : Int), (Sm.sumsI xs).1, (Sm.sumsI xs).2, num, sl].map V.int ++ [.ref tu]))) tm ver xs num sl :=
            ⟨⟨tu, ns, upd_same, s9 _ _ upd_same, tr7.mono (s8.trans s9)⟩, hv.1, hv.2, hl.1, hl.2, hx, hn.1, hn.2, hs.1, hs.2⟩
          refine ⟨_, rfl, tm, ver, xs, num, sl, rfl, M, fun H9 s10 => ⟨_, rfl, ?_⟩⟩
          exact q H9 tm (((((((((s1.trans s2).trans s3).trans s4).trans s5).trans s6).trans s7).trans s8).trans s9).trans s10) (M.mono s10)

/-- the law's own sums of a list of ints -/
def spLSums (K : PySem.W.Frag) : Sp := fun vs H Q _ => ∃ (c : Addr) (xs : List Int), vs = [.ref c] ∧ (SqL K H c (xs.map V.int) ∨ SqT K H c (xs.map V.int)) ∧ xs.length ≤ 1000 ∧
  ∀ (H' : Hp) (t : Addr), Same H H' → H t = none → H' t = some (.tup [.int (Sm.sumsI xs).1, .int (Sm.sumsI xs).2]) → Q (.ref t) H'
theorem G_l_sums {a : Ad} (T : Top K mg a) : FnOk P w K mg base CX0 1 a.f_l_sums a.d_l_sums P_l_sums (spLSums K) := by
  refine T.F_l_sums.ok sc_l_sums (fun vs H Q E h => ?_) (fun cdv A outer s H vs Q E hr h => ?_)
  · obtain ⟨_, _, rfl, _⟩ := h
    rfl
  · obtain ⟨c, xs, rfl, hC, hlen, q⟩ := h
    rcases hC with hC | hC
    · refine ⟨_, (pss_cons (ps_if (pt_cmpR op_in_seq pe_non (pv 0) (by rfl))
        (pss_one (ps_ret pe_non))
        pss_nil)
      (pss_cons (ps_set (i := 1) sc_l_sums.nd rfl (Or.inl rfl) (pe_callB (cr_sum rfl) (by rfl) T.b_sum (by decide +kernel) (pa_cons (pe_lc (own := [(("_law_number" : Str), 3)]) (g := (gName 3)) (tt := tYes) (by rfl) sc_l_sums.nd (pi_list (pv 0)) (blkOk_by (own := [(("_law_number" : Str), 3)]) (N := N_l_sums) (sc := defScope s_l_sums) (by decide +kernel)) (fun _ _ _ _ _ => (pg_name (i := 3) sc_l_sums.nd rfl (Or.inl rfl))) (fun _ _ _ _ _ => pts_nil) (fun _ _ _ _ _ => (pe_op op_add (pv 3) pe_int))) pa_nil)))
      (pss_cons (ps_set (i := 2) sc_l_sums.nd rfl (Or.inl rfl) (pe_callB (cr_sum rfl) (by rfl) T.b_sum (by decide +kernel) (pa_cons (pe_lc (own := [(("_law_k" : Str), 4)]) (g := (gName 4)) (tt := tYes) (by rfl) sc_l_sums.nd (pi_range1 (by rfl) T.b_range (pa_cons (pe_callB call_len_seq (by rfl) T.b_len PySem.boot_len (pa_cons (pv 0) pa_nil)) pa_nil)) (blkOk_by (own := [(("_law_k" : Str), 4)]) (N := N_l_sums) (sc := defScope s_l_sums) (by decide +kernel)) (fun _ _ _ _ _ => (pg_name (i := 4) sc_l_sums.nd rfl (Or.inl rfl))) (fun _ _ _ _ _ => pts_nil) (fun _ _ _ _ _ => (pe_op op_mul (pe_op op_sub (pe_callB (Dw.call_len_seqK (K := K) rfl) (by rfl) T.b_len PySem.boot_len (pa_cons (pv 0) pa_nil)) (pv 4)) (pe_op op_add (pe_ix (Dw.ix_listK (K := K) rfl) (pv 0) (pv 4) (fun _ _ => rfl)) pe_int)))) pa_nil)))
      (pss_one (ps_ret (pe_tup (pa_cons (pe_op op_mod (pv 1) pe_int) (pa_cons (pe_op op_mod (pv 2) pe_int) pa_nil)))))))), ?_⟩
      refine ⟨.ref c, rfl, c, _, rfl, .inl hC, rfl, Dw.flat_ints, _, rfl, ?_⟩
      rw [show (if false = true then !inV .non (xs.map V.int) else inV .non (xs.map V.int)) = false from Dw.inV_ints]
      refine iteF ?_
      -- one
      refine ⟨.ref c, rfl, c, rfl, ⟨_, hC⟩, fun D hD => lc_list (K := K) (a := c) (xs := xs.map V.int) (fun i H' => Same H H' ∧ ∃ ys : List Int, H' D = some (.lst (ys.map V.int)) ∧ ys.length = i ∧ ys.sum + Sm.w1 (xs.drop i) = Sm.w1 xs)
        ⟨Dw.same_upd hD, [], upd_same, rfl, by simp⟩ (fun i H' _ ⟨s, _⟩ => s.seq hC) ?_ ?_⟩
      · rintro i y H1 hi ⟨s1, ys, h1, l1, e1⟩
        obtain ⟨x, hx, rfl⟩ := Dw.get_map hi
        have hlt := (List.getElem?_eq_some_iff.mp hx).1
        refine ⟨rfl, _, rfl, x, 1, rfl, rfl, _, h1, Dw.size_lt (by rw [List.length_map]; omega), Dw.same_mut s1 hD, ys ++ [x + 1], ?_, by rw [List.length_append, l1]; rfl, ?_⟩
        · rw [upd_same, List.map_append]
          rfl
        · rw [Sm.w1_drop hx] at e1
          rw [List.sum_append, List.sum_singleton]
          omega
      rintro H1 ⟨s1, ys, h1, l1, e1⟩
      rw [List.length_map] at l1 e1
      rw [List.drop_length] at e1
      have hw1 : ys.sum = Sm.w1 xs := by
        rw [← e1]
        exact (Int.add_zero _).symm
      refine ⟨D, ys, rfl, Dw.sq_of h1, ?_⟩
      -- two
      refine ⟨.ref c, rfl, c, _, rfl, .inl (s1.seq hC), _, rfl, by rw [List.length_map]; omega, by rw [List.length_map]; omega, fun B hB => lc_range (lo := 0) (n := (xs.map V.int).length) (fun i H' => Same H1 H' ∧ ∃ zs : List Int, H' B = some (.lst (zs.map V.int)) ∧ zs.length = i ∧ zs.sum + Sm.w2 (xs.drop i) = Sm.w2 xs)
        ⟨Dw.same_upd hB, [], upd_same, rfl, by simp⟩ ?_ ?_⟩
      · rintro i H2 hi ⟨s2, zs, h2, l2, e2⟩
        rw [List.length_map] at hi
        have hx := List.getElem?_eq_getElem hi
        have hc2 := (s1.trans s2).seq hC
        refine ⟨rfl, _, rfl, c, _, rfl, .inl hc2, _, rfl, _, (0 + (i : Int)), rfl, rfl, _, rfl, _, rfl, c, _, (0 + (i : Int)), _, rfl, rfl, hc2, by rw [Int.zero_add]; exact Dw.at_map hx, _, 1, rfl, rfl, _, _, rfl, rfl, .inl ⟨by rw [List.length_map]; omega, by rw [List.length_map]; omega⟩, ?_⟩
        refine ⟨_, h2, Dw.size_lt (by rw [List.length_map]; omega), Dw.same_mut s2 hB, zs ++ [((xs.length : Int) - i) * (xs[i] + 1)], ?_, by rw [List.length_append, l2]; rfl, ?_⟩
        · rw [upd_same, List.map_append, List.length_map, Int.zero_add]
          rfl
        · rw [Sm.w2_drop hx] at e2
          rw [List.sum_append, List.sum_singleton]
          omega
      rintro H2 ⟨s2, zs, h2, l2, e2⟩
      rw [List.length_map] at l2 e2
      rw [List.drop_length] at e2
      have hw2 : zs.sum = Sm.w2 xs := by
        rw [← e2]
        exact (Int.add_zero _).symm
      refine ⟨B, zs, rfl, Dw.sq_of h2, ?_⟩
      refine ⟨_, rfl, _, 9973, rfl, rfl, (by show (0 : Int) < 9973; decide), _, rfl, _, 9973, rfl, rfl, (by show (0 : Int) < 9973; decide), Dw.sz_ rfl, fun t ht => ?_⟩
      refine q _ t ((s1.trans s2).trans (Dw.same_upd ht)) ((s1.trans s2).free ht) ?_
      rw [upd_same, hw1, hw2, Sm.sums_w]
    · refine ⟨_, (pss_cons (ps_if (pt_cmpR op_in_seq pe_non (pv 0) (by rfl))
        (pss_one (ps_ret pe_non))
        pss_nil)
      (pss_cons (ps_set (i := 1) sc_l_sums.nd rfl (Or.inl rfl) (pe_callB (cr_sum rfl) (by rfl) T.b_sum (by decide +kernel) (pa_cons (pe_lc (own := [(("_law_number" : Str), 3)]) (g := (gName 3)) (tt := tYes) (by rfl) sc_l_sums.nd (pi_tup (pv 0)) (blkOk_by (own := [(("_law_number" : Str), 3)]) (N := N_l_sums) (sc := defScope s_l_sums) (by decide +kernel)) (fun _ _ _ _ _ => (pg_name (i := 3) sc_l_sums.nd rfl (Or.inl rfl))) (fun _ _ _ _ _ => pts_nil) (fun _ _ _ _ _ => (pe_op op_add (pv 3) pe_int))) pa_nil)))
      (pss_cons (ps_set (i := 2) sc_l_sums.nd rfl (Or.inl rfl) (pe_callB (cr_sum rfl) (by rfl) T.b_sum (by decide +kernel) (pa_cons (pe_lc (own := [(("_law_k" : Str), 4)]) (g := (gName 4)) (tt := tYes) (by rfl) sc_l_sums.nd (pi_range1 (by rfl) T.b_range (pa_cons (pe_callB call_len_seq (by rfl) T.b_len PySem.boot_len (pa_cons (pv 0) pa_nil)) pa_nil)) (blkOk_by (own := [(("_law_k" : Str), 4)]) (N := N_l_sums) (sc := defScope s_l_sums) (by decide +kernel)) (fun _ _ _ _ _ => (pg_name (i := 4) sc_l_sums.nd rfl (Or.inl rfl))) (fun _ _ _ _ _ => pts_nil) (fun _ _ _ _ _ => (pe_op op_mul (pe_op op_sub (pe_callB (Dw.call_len_seqK (K := K) rfl) (by rfl) T.b_len PySem.boot_len (pa_cons (pv 0) pa_nil)) (pv 4)) (pe_op op_add (pe_ix (Dw.ix_tupK (K := K) rfl) (pv 0) (pv 4) (fun _ _ => rfl)) pe_int)))) pa_nil)))
      (pss_one (ps_ret (pe_tup (pa_cons (pe_op op_mod (pv 1) pe_int) (pa_cons (pe_op op_mod (pv 2) pe_int) pa_nil)))))))), ?_⟩
      refine ⟨.ref c, rfl, c, _, rfl, .inr hC, rfl, Dw.flat_ints, _, rfl, ?_⟩
      rw [show (if false = true then !inV .non (xs.map V.int) else inV .non (xs.map V.int)) = false from Dw.inV_ints]
      refine iteF ?_
      -- one
      refine ⟨.ref c, rfl, c, rfl, ⟨_, hC⟩, fun D hD => lc_tup (K := K) (a := c) (xs := xs.map V.int) (fun i H' => Same H H' ∧ ∃ ys : List Int, H' D = some (.lst (ys.map V.int)) ∧ ys.length = i ∧ ys.sum + Sm.w1 (xs.drop i) = Sm.w1 xs)
        ⟨Dw.same_upd hD, [], upd_same, rfl, by simp⟩ (fun i H' _ ⟨s, _⟩ => Dw.same_tup s hC) ?_ ?_⟩
      · rintro i y H1 hi ⟨s1, ys, h1, l1, e1⟩
        obtain ⟨x, hx, rfl⟩ := Dw.get_map hi
        have hlt := (List.getElem?_eq_some_iff.mp hx).1
        refine ⟨rfl, _, rfl, x, 1, rfl, rfl, _, h1, Dw.size_lt (by rw [List.length_map]; omega), Dw.same_mut s1 hD, ys ++ [x + 1], ?_, by rw [List.length_append, l1]; rfl, ?_⟩
        · rw [upd_same, List.map_append]
          rfl
        · rw [Sm.w1_drop hx] at e1
          rw [List.sum_append, List.sum_singleton]
          omega
      rintro H1 ⟨s1, ys, h1, l1, e1⟩
      rw [List.length_map] at l1 e1
      rw [List.drop_length] at e1
      have hw1 : ys.sum = Sm.w1 xs := by
        rw [← e1]
        exact (Int.add_zero _).symm
      refine ⟨D, ys, rfl, Dw.sq_of h1, ?_⟩
      -- two
      refine ⟨.ref c, rfl, c, _, rfl, .inr (Dw.same_tup s1 hC), _, rfl, by rw [List.length_map]; omega, by rw [List.length_map]; omega, fun B hB => lc_range (lo := 0) (n := (xs.map V.int).length) (fun i H' => Same H1 H' ∧ ∃ zs : List Int, H' B = some (.lst (zs.map V.int)) ∧ zs.length = i ∧ zs.sum + Sm.w2 (xs.drop i) = Sm.w2 xs)
        ⟨Dw.same_upd hB, [], upd_same, rfl, by simp⟩ ?_ ?_⟩
      · rintro i H2 hi ⟨s2, zs, h2, l2, e2⟩
        rw [List.length_map] at hi
        have hx := List.getElem?_eq_getElem hi
        have hc2 := Dw.same_tup (s1.trans s2) hC
        refine ⟨rfl, _, rfl, c, _, rfl, .inr hc2, _, rfl, _, (0 + (i : Int)), rfl, rfl, _, rfl, _, rfl, c, _, (0 + (i : Int)), _, rfl, rfl, hc2, by rw [Int.zero_add]; exact Dw.at_map hx, _, 1, rfl, rfl, _, _, rfl, rfl, .inl ⟨by rw [List.length_map]; omega, by rw [List.length_map]; omega⟩, ?_⟩
        refine ⟨_, h2, Dw.size_lt (by rw [List.length_map]; omega), Dw.same_mut s2 hB, zs ++ [((xs.length : Int) - i) * (xs[i] + 1)], ?_, by rw [List.length_append, l2]; rfl, ?_⟩
        · rw [upd_same, List.map_append, List.length_map, Int.zero_add]
          rfl
        · rw [Sm.w2_drop hx] at e2
          rw [List.sum_append, List.sum_singleton]
          omega
      rintro H2 ⟨s2, zs, h2, l2, e2⟩
      rw [List.length_map] at l2 e2
      rw [List.drop_length] at e2
      have hw2 : zs.sum = Sm.w2 xs := by
        rw [← e2]
        exact (Int.add_zero _).symm
      refine ⟨B, zs, rfl, Dw.sq_of h2, ?_⟩
      refine ⟨_, rfl, _, 9973, rfl, rfl, (by show (0 : Int) < 9973; decide), _, rfl, _, 9973, rfl, rfl, (by show (0 : Int) < 9973; decide), Dw.sz_ rfl, fun t ht => ?_⟩
      refine q _ t ((s1.trans s2).trans (Dw.same_upd ht)) ((s1.trans s2).free ht) ?_
      rw [upd_same, hw1, hw2, Sm.sums_w]

/-- the law's own seal -/
def spLSeal (K : PySem.W.Frag) : Sp := fun vs H Q _ => ∃ (c : Addr) (k : Int) (xs : List Int), vs = [.int k, .ref c] ∧ SqL K H c (xs.map V.int) ∧ (∀ x ∈ xs, 0 ≤ x ∧ x < 9973) ∧ 1 ≤ k ∧ k < 9973 ∧ Q (.int (Sm.sealI k xs)) H
theorem G_l_seal {a : Ad} (T : Top K mg a) : FnOk P w K mg base CX0 1 a.f_l_seal a.d_l_seal P_l_seal (spLSeal K) := by
  refine T.F_l_seal.ok sc_l_seal (fun vs H Q E h => ?_) (fun cdv A outer s H vs Q E hr h => ?_)
  · obtain ⟨_, _, _, rfl, _⟩ := h
    rfl
  · obtain ⟨c, k, xs, rfl, hC, hin, k0, k1, q⟩ := h
    refine ⟨_, (pss_cons (ps_set (i := 2) sc_l_seal.nd rfl (Or.inl rfl) pe_int)
      (pss_cons (ps_set (i := 3) sc_l_seal.nd rfl (Or.inl rfl) pe_int)
      (pss_cons (ps_for PassesOwn.never rfl (pi_reversed (by rfl) T.b_reversed (pa_cons (pv 1) pa_nil)) (pg_name (i := 4) sc_l_seal.nd rfl (Or.inl rfl))
        (pss_cons (ps_set (i := 2) sc_l_seal.nd rfl (Or.inl rfl) (pe_op op_add (pv 2) (pe_op op_mul (pe_op op_add (pv 4) pe_int) (pv 3))))
      (pss_one (ps_set (i := 3) sc_l_seal.nd rfl (Or.inl rfl) (pe_op op_mul (pv 3) (pv 0))))))
      (pss_one (ps_ret (pe_op op_mod (pe_op op_add (pv 2) (pe_op op_mul (pv 0) (pv 3))) pe_int)))))), ?_⟩
    refine ⟨.ref c, rfl, c, _, rfl, hC, fun i m σ H' => i + m = xs.length ∧ ∃ v4 : Option V, σ = [some (.int k), some (.ref c), some (.int (Sm.hz k (xs.drop (xs.length - i)))), some (.int (k ^ i)), v4] ∧ H' = H,
      ⟨xs.length, by omega, none, ?_, rfl⟩, fun i m σ H' hW => ?_⟩
    · rw [Nat.sub_zero, List.drop_length, Int.pow_zero]
      rfl
    · obtain ⟨em, v4, rfl, rfl⟩ := hW
      rw [List.length_map]
      by_cases hi : i < xs.length
      · obtain ⟨x, hx⟩ : ∃ x, xs[xs.length - 1 - i]? = some x := ⟨_, List.getElem?_eq_getElem (show xs.length - 1 - i < xs.length by omega)⟩
        have gx : (xs.map V.int)[xs.length - 1 - i]? = some (.int x) := by
          rw [List.getElem?_map, hx]
          rfl
        refine .inr ⟨⟨hi, _, _, hC, gx⟩, fun σ' H'' => ∃ v4 : Option V, σ' = [some (.int k), some (.ref c), some (.int (Sm.hz k (xs.drop (xs.length - (i + 1))))), some (.int (k ^ (i + 1))), v4] ∧ H'' = H', fun σ' H'' hN => ?_, fun y H'' hy => ?_⟩
        · obtain ⟨z4, e1, e2⟩ := hN
          exact ⟨m - 1, by omega, by omega, z4, e1, e2⟩
        · obtain ⟨rfl, fv⟩ := hy
          have ev := Option.some.inj ((fv _ hC).symm.trans gx)
          subst ev
          have bx := hin _ (List.mem_of_getElem? hx)
          refine ⟨_, rfl, _, rfl, _, 1, rfl, rfl, _, rfl, _, _, rfl, rfl, .inl ⟨by omega, by omega⟩, _, _, rfl, rfl, ?_⟩
          refine ⟨_, rfl, _, rfl, _, _, rfl, rfl, .inr ⟨by omega, by omega⟩, ?_⟩
          refine ⟨some (.int x), ?_, rfl⟩
          have eh := Sm.hz_drop (k := k) hx
          rw [show xs.length - 1 - i + 1 = xs.length - i by omega, show xs.length - (xs.length - i) = i by omega, show xs.length - 1 - i = xs.length - (i + 1) by omega] at eh
          rw [eh, Int.pow_succ]
          rfl
      · have ei : i = xs.length := by omega
        subst ei
        refine .inl ⟨Nat.le_refl _, ?_⟩
        refine ⟨_, rfl, _, rfl, _, rfl, _, _, rfl, rfl, .inl ⟨by omega, by omega⟩, _, _, rfl, rfl, _, 9973, rfl, rfl, (by show (0 : Int) < 9973; decide), ?_⟩
        have e := Sm.seal_hz ⟨k0, k1⟩ xs
        rw [Nat.sub_self, List.drop_zero]
        show Q (.int ((Sm.hz k xs + k * k ^ xs.length) % 9973)) _
        rw [e]
        exact q

/-- the law's own names -/
def spTitle (K : PySem.W.Frag) : Sp := fun vs H Q _ => ∃ (c : Addr) (xs : List Int), vs = [.ref c] ∧ (SqL K H c (xs.map V.int) ∨ SqT K H c (xs.map V.int)) ∧ xs.length ≤ 1000 ∧
  ∀ (H' : Hp) (t : Addr), Same H H' → H' t = some (.tup [.int (Sm.sumsI xs).1, .int (Sm.sumsI xs).2, .int (xs.length : Int)]) → Q (.ref t) H'
theorem G_l_title {a : Ad} (T : Top K mg a) : FnOk P w K mg base CX0 2 a.f_l_title a.d_l_title P_l_title (spTitle K) := by
  refine T.F_l_title.ok sc_l_title (fun vs H Q E h => ?_) (fun cdv A outer s H vs Q E hr h => ?_)
  · obtain ⟨_, _, rfl, _⟩ := h
    rfl
  · obtain ⟨c, xs, rfl, hC, hlen, q⟩ := h
    refine ⟨_, (pss_cons (ps_set (i := 1) sc_l_title.nd rfl (Or.inl rfl) (pe_call (G_l_sums T) (hr.mono (by omega)) (by rfl) T.g_l_sums T.F_l_sums.kp T.B_l_sums .nil pass0 (pa_cons (pv 0) pa_nil)))
      (pss_one (ps_ret (pe_ifExp (pt_cmpR op_isN (pv 1) pe_non (nomark _)) pe_non (pe_op (op_catT) (pv 1) (pe_tup (pa_cons (pe_callB call_len_seq (by rfl) T.b_len PySem.boot_len (pa_cons (pv 0) pa_nil)) pa_nil))))))), ?_⟩
    refine ⟨.ref c, rfl, c, xs, rfl, hC, hlen, fun H1 t s1 n1 e1 => ?_⟩
    refine ⟨_, rfl, rfl, _, rfl, ite2 (fun e => absurd (of_decide_eq_true e) (by intro z; cases z)) (fun _ => ?_)⟩
    refine ⟨_, rfl, .ref c, rfl, c, _, rfl, hC.imp (fun z => s1.seq z) (fun z => Dw.same_tup s1 z), Dw.sz_ rfl, fun u hu => ?_⟩
    have s2 : Same H1 (upd H1 u (.tup [.int ((xs.map V.int).length : Int)])) := Dw.same_upd hu
    refine ⟨t, u, _, _, rfl, rfl, Dw.st_of (s2 _ _ e1), Dw.st_of upd_same, by simp, Dw.sz_ rfl, fun e => (by cases e), fun _ p hp => ?_⟩
    refine q _ p ((s1.trans s2).trans (Dw.same_upd hp)) ?_
    rw [upd_same, List.length_map]
    rfl

/-- the pieces of a picture's cells -/
theorem G_l_pieces {a : Ad} (T : Top K mg a) : FnOk P w K mg base CX0 1 a.f_l_pieces a.d_l_pieces P_l_pieces (fun vs H Q _ => ∃ (c : Addr) (xs : List Int), vs = [.ref c] ∧ SqT K H c (xs.map V.int) ∧ xs.length ≤ 12 ∧ ∀ H' b as, Same H H' → H b = none → H' b = some (.lst (as.map V.ref)) → Mf.Tups K H' as (Mf.pcs (Mf.cnt xs) xs) → Q (.ref b) H') := by
  refine T.F_l_pieces.ok sc_l_pieces (fun vs H Q E h => ?_) (fun cdv A outer s H vs Q E hr h => ?_)
  · obtain ⟨_, _, rfl, _⟩ := h
    rfl
  · obtain ⟨c, xs, rfl, hc, l1, q⟩ := h
    refine ⟨_, (pss_one (ps_ret (pe_lc (own := [(("_law_k" : Str), 1)]) (g := (gName 1)) (tt := tYes) (by rfl) sc_l_pieces.nd (pi_range3 (by rfl) T.b_range (pa_cons pe_int (pa_cons (pe_callB call_len_seq (by rfl) T.b_len PySem.boot_len (pa_cons (pv 0) pa_nil)) (pa_cons pe_int pa_nil)))) (blkOk_by (own := [(("_law_k" : Str), 1)]) (N := N_l_pieces) (sc := defScope s_l_pieces) (by decide +kernel)) (fun _ _ _ _ _ => (pg_name (i := 1) sc_l_pieces.nd rfl (Or.inl rfl))) (fun _ _ _ _ _ => pts_nil) (fun _ _ _ _ _ => (pe_callTy (Mf.call_tuple_ofK (K := K) rfl) (by rfl) T.b_tuple (by decide +kernel) (pa_cons (pe_slice (Mf.sl_tupAK (K := K) rfl) (pv 0) (po_some (pv 1)) (po_some (pe_op op_add (pv 1) pe_int))) pa_nil)))))), ?_⟩
    refine ⟨_, rfl, c, _, rfl, .inr hc, 0, (xs.length : Int), 3, Mf.cnt xs, ?_, Mf.rg3 _ l1, fun D hD => lc_it walk_rangeC (fun i H' => Same H H' ∧ ∃ as : List Addr, H' D = some (.lst (as.map V.ref)) ∧ Mf.Tups K H' as (Mf.pcs i xs)) ⟨Dw.same_upd hD, [], upd_same, True.intro⟩ (fun _ _ _ _ => True.intro) ?_ ?_⟩
    · rw [List.length_map]
    · rintro i y H4 H5 hi ⟨s4, as, hD4, tr⟩ ⟨rfl, rfl⟩
      refine ⟨rfl, _, rfl, _, rfl, _, rfl, _, rfl, _, 3, rfl, rfl, _, rfl, ?_⟩
      refine Mf.sl_any (Dw.same_tup s4 hc) fun p H6 s6 hp6 => ?_
      rw [Mf.cut_piece xs i (by omega) (by omega)] at hp6
      have las := tr.len
      rw [Mf.pcs_len] at las
      refine ⟨p, _, rfl, .inr ⟨hp6, _, s6 _ _ hD4, Dw.size_lt (by rw [List.length_map, las]; unfold Mf.cnt at hi; omega), Dw.same_mut (s4.trans s6) hD, as ++ [p], by rw [upd_same, List.map_append]; rfl, ?_⟩⟩
      rw [Mf.pcs_succ]
      exact ((tr.mono s6).keep (Mf.tk_lst (s6 _ _ hD4))).app ⟨Mf.tup_keep (Mf.tk_lst (s6 _ _ hD4)) hp6, True.intro⟩
    · rintro H4 ⟨s4, as, hD4, tr⟩
      exact q H4 D as s4 hD hD4 tr
/-- a picture's head -/
theorem G_l_head {a : Ad} (T : Top K mg a) : FnOk P w K mg base CX0 2 a.f_l_head a.d_l_head P_l_head (fun vs H Q _ => ∃ (kt pt : Addr) (ks xs : List Int) (ver num k : Int), vs = [.ref kt, .ref pt] ∧ Mf.KeysAt K H kt ks ∧ Mf.PicAt K H pt ver xs num ks.length ∧ atI (ks.map V.int) num = some (.int k) ∧ 1 ≤ k ∧ k < 9973 ∧
    ∀ H' t, Same H H' → H t = none → H' t = some (.tup ([ver, (xs.length : Int), (Sm.sumsI xs).1, (Sm.sumsI xs).2, num, Mf.sealOf k ver xs num].map V.int)) → Q (.ref t) H') := by
  refine T.F_l_head.ok sc_l_head (fun vs H Q E h => ?_) (fun cdv A outer s H vs Q E hr h => ?_)
  · obtain ⟨_, _, _, _, _, _, _, rfl, _⟩ := h
    rfl
  · obtain ⟨kt, pt, ks, xs, ver, num, k, rfl, KA, PA, hk, k0, k1, q⟩ := h
    obtain ⟨c, hp, hc⟩ := PA.tu
    have l1 := PA.hi
    have v0 := PA.v0
    have v1 := PA.v1
    have n0 := PA.n0
    have n1 := PA.n1
    have kh := KA.hi
    refine ⟨_, (pss_cons (ps_asg (pv 1) (pg_tup rfl (pgs_cons (pg_name (i := 2) sc_l_head.nd rfl (Or.inl rfl)) (pgs_cons (pg_name (i := 3) sc_l_head.nd rfl (Or.inl rfl)) (pgs_cons (pg_name (i := 4) sc_l_head.nd rfl (Or.inl rfl)) pgs_nil)))))
      (pss_cons (ps_set (i := 5) sc_l_head.nd rfl (Or.inl rfl) (pe_op op_cat (pe_op op_cat (pe_lst (pa_cons (pv 2) (pa_cons (pe_callB call_len_seq (by rfl) T.b_len PySem.boot_len (pa_cons (pv 3) pa_nil)) pa_nil))) (pe_callTy call_list_of (by rfl) T.b_list (by decide +kernel) (pa_cons (pe_call (G_l_sums T) (hr.mono (by omega)) (by rfl) T.g_l_sums T.F_l_sums.kp T.B_l_sums .nil pass0 (pa_cons (pv 3) pa_nil)) pa_nil))) (pe_lst (pa_cons (pv 4) pa_nil))))
      (pss_one (ps_ret (pe_callTy call_tuple_of (by rfl) T.b_tuple (by decide +kernel) (pa_cons (pe_op op_cat (pv 5) (pe_lst (pa_cons (pe_call (G_l_seal T) (hr.mono (by omega)) (by rfl) T.g_l_seal T.F_l_seal.kp T.B_l_seal .nil pass0 (pa_cons (pe_ix ix_tup (pv 0) (pv 4) (fun _ _ => rfl)) (pa_cons (pv 5) pa_nil))) pa_nil))) pa_nil)))))), ?_⟩
    refine ⟨_, rfl, pt, _, rfl, hp, rfl, _, [_, _], rfl, _, [_], rfl, _, [], rfl, rfl, ?_⟩
    refine ⟨_, rfl, _, rfl, c, _, rfl, .inr hc, Dw.sz_ rfl, fun la hla => ?_⟩
    rw [List.length_map]
    have s1 := Dw.same_upd (o := .lst [.int ver, .int (xs.length : Int)]) hla
    refine ⟨_, rfl, c, xs, rfl, .inr (Dw.same_tup s1 hc), by omega, fun H2 t2 s2 nt2 ht2 => ?_⟩
    refine ⟨t2, _, rfl, .inr (Dw.st_of ht2), fun lb hlb => ?_⟩
    have s3 := Dw.same_upd (o := .lst [.int (Sm.sumsI xs).1, .int (Sm.sumsI xs).2]) hlb
    refine ⟨la, lb, _, _, rfl, rfl, s3 _ _ (s2 _ _ upd_same), upd_same, Dw.sz_ rfl, fun lc hlc => ?_⟩
    have s4 := Dw.same_upd (o := .lst ([.int ver, .int (xs.length : Int)] ++ [.int (Sm.sumsI xs).1, .int (Sm.sumsI xs).2])) hlc
    refine ⟨_, rfl, Dw.sz_ rfl, fun ld hld => ?_⟩
    have s5 := Dw.same_upd (o := .lst [.int num]) hld
    refine ⟨lc, ld, _, _, rfl, rfl, s5 _ _ upd_same, upd_same, Dw.sz_ rfl, fun le hle => ?_⟩
    have s6 := Dw.same_upd (o := .lst ([.int ver, .int (xs.length : Int)] ++ [.int (Sm.sumsI xs).1, .int (Sm.sumsI xs).2] ++ [.int num])) hle
    have S6 := ((((s1.trans s2).trans s3).trans s4).trans s5).trans s6
    have hle6 : (upd (upd (upd (upd H2 lb (.lst [.int (Sm.sumsI xs).1, .int (Sm.sumsI xs).2])) lc (.lst ([.int ver, .int (xs.length : Int)] ++ [.int (Sm.sumsI xs).1, .int (Sm.sumsI xs).2]))) ld (.lst [.int num])) le (.lst ([.int ver, .int (xs.length : Int)] ++ [.int (Sm.sumsI xs).1, .int (Sm.sumsI xs).2] ++ [.int num]))) le = some (.lst ([ver, (xs.length : Int), (Sm.sumsI xs).1, (Sm.sumsI xs).2, num].map V.int)) := upd_same
    generalize upd (upd (upd (upd H2 lb (.lst [.int (Sm.sumsI xs).1, .int (Sm.sumsI xs).2])) lc (.lst ([.int ver, .int (xs.length : Int)] ++ [.int (Sm.sumsI xs).1, .int (Sm.sumsI xs).2]))) ld (.lst [.int num])) le (.lst ([.int ver, .int (xs.length : Int)] ++ [.int (Sm.sumsI xs).1, .int (Sm.sumsI xs).2] ++ [.int num])) = H6 at S6 hle6 ⊢
    have hS := Bk.sums_rng xs
    refine ⟨_, rfl, _, rfl, _, rfl, kt, _, num, _, rfl, rfl, Dw.same_tup S6 KA.tu, hk, _, rfl, le, k, [ver, (xs.length : Int), (Sm.sumsI xs).1, (Sm.sumsI xs).2, num], rfl, Dw.sq_of hle6, fun x hx => ?_, k0, k1, Dw.sz_ rfl, fun lf hlf => ?_⟩
    · simp only [List.mem_cons, List.not_mem_nil, or_false] at hx
      rcases hx with rfl | rfl | rfl | rfl | rfl <;> omega
    have s7 := Dw.same_upd (o := .lst [.int (Sm.sealI k [ver, (xs.length : Int), (Sm.sumsI xs).1, (Sm.sumsI xs).2, num])]) hlf
    refine ⟨le, lf, _, _, rfl, rfl, s7 _ _ hle6, upd_same, Dw.sz_ rfl, fun lg hlg => ?_⟩
    have s8 := Dw.same_upd (o := .lst ([ver, (xs.length : Int), (Sm.sumsI xs).1, (Sm.sumsI xs).2, num].map V.int ++ [.int (Sm.sealI k [ver, (xs.length : Int), (Sm.sumsI xs).1, (Sm.sumsI xs).2, num])])) hlg
    refine ⟨lg, _, rfl, .inl ⟨Dw.sq_of upd_same, fun t ht => ?_⟩⟩
    have S8 := (S6.trans s7).trans s8
    refine q _ t (S8.trans (Dw.same_upd ht)) (S8.free ht) ?_
    rw [upd_same]
    rfl
/-- a picture's manifest -/
theorem G_l_manifest {a : Ad} (T : Top K mg a) : FnOk P w K mg base CX0 3 a.f_l_manifest a.d_l_manifest P_l_manifest (fun vs H Q _ => ∃ (kt pt : Addr) (ks xs : List Int) (ver num k : Int), vs = [.ref kt, .ref pt] ∧ Mf.KeysAt K H kt ks ∧ Mf.PicAt K H pt ver xs num ks.length ∧ atI (ks.map V.int) num = some (.int k) ∧ 1 ≤ k ∧ k < 9973 ∧
    ∀ H' t, Same H H' → H t = none → Mf.ManAt H' t ver xs num (Mf.sealOf k ver xs num) → Q (.ref t) H') := by
  refine T.F_l_manifest.ok sc_l_manifest (fun vs H Q E h => ?_) (fun cdv A outer s H vs Q E hr h => ?_)
  · obtain ⟨_, _, _, _, _, _, _, rfl, _⟩ := h
    rfl
  · obtain ⟨kt, pt, ks, xs, ver, num, k, rfl, KA, PA, hk, k0, k1, q⟩ := h
    have l1 := PA.hi
    refine ⟨_, (pss_one (ps_ret (pe_op (op_catT) (pe_call (G_l_head T) (hr.mono (by omega)) (by rfl) T.g_l_head T.F_l_head.kp T.B_l_head .nil pass0 (pa_cons (pv 0) (pa_cons (pv 1) pa_nil))) (pe_tup (pa_cons (pe_callTy call_tuple_of (by rfl) T.b_tuple (by decide +kernel) (pa_cons (pe_lc (own := [(("_law_piece" : Str), 2)]) (g := (gName 2)) (tt := tYes) (by rfl) sc_l_manifest.nd (pi_list (pe_call (G_l_pieces T) (hr.mono (by omega)) (by rfl) T.g_l_pieces T.F_l_pieces.kp T.B_l_pieces .nil pass0 (pa_cons (pe_ix ix_tup (pv 1) pe_int (fun _ _ => rfl)) pa_nil))) (blkOk_by (own := [(("_law_piece" : Str), 2)]) (N := N_l_manifest) (sc := defScope s_l_manifest) (by decide +kernel)) (fun _ _ _ _ _ => (pg_name (i := 2) sc_l_manifest.nd rfl (Or.inl rfl))) (fun _ _ _ _ _ => pts_nil) (fun _ _ _ _ _ => (pe_call (G_l_title T) (hr.mono (by omega)) (by rfl) T.g_l_title T.F_l_title.kp T.B_l_title .nil pass0 (pa_cons (pv 2) pa_nil)))) pa_nil)) pa_nil))))), ?_⟩
    refine ⟨_, rfl, _, rfl, kt, pt, ks, xs, ver, num, k, rfl, KA, PA, hk, k0, k1, fun H1 th s1 nth hth => ?_⟩
    obtain ⟨c, hp, hc⟩ := (PA.mono s1).tu
    refine ⟨_, rfl, pt, _, 1, _, rfl, rfl, hp, rfl, c, xs, rfl, hc, l1, fun H2 b as s2 nb hb tps => ?_⟩
    have las := tps.len
    rw [Mf.pcs_len] at las
    refine ⟨b, rfl, ⟨_, Dw.sq_of hb⟩, fun D hD => lc_list (K := K) (a := b) (xs := as.map V.ref) (fun i H' => Same H2 H' ∧ ∃ ns : List Addr, H' D = some (.lst (ns.map V.ref)) ∧ Mf.Trip H' ns ((Mf.pcs i xs).map Mf.nmOf)) ⟨Dw.same_upd hD, [], upd_same, True.intro⟩ (fun i H' _ ⟨s, _⟩ => s.seq (Dw.sq_of hb)) ?_ ?_⟩
    · rintro i y H3 hi ⟨s3, ns, hD3, tr⟩
      obtain ⟨pa, hpa, rfl⟩ := Dw.get_map_ref hi
      have hlt := (List.getElem?_eq_some_iff.mp hpa).1
      obtain ⟨p, hpp, hpt⟩ := tps.at hpa
      have ep : p = Mf.piece xs i := by
        unfold Mf.pcs at hpp
        rw [List.getElem?_map, List.getElem?_range (by omega)] at hpp
        exact (Option.some.inj hpp).symm
      subst ep
      have lns := tr.len
      rw [List.length_map, Mf.pcs_len] at lns
      refine ⟨rfl, _, rfl, pa, Mf.piece xs i, rfl, .inr (Dw.same_tup s3 hpt), by have := Mf.piece_len xs i; omega, fun H4 t4 s4 h4 => ?_⟩
      have kt : ∀ {ys : List V} b u, H4 b = some (.tup u) → (upd H4 D (.lst ys)) b = some (.tup u) := fun {ys} b u e => by
        rw [upd_ne (ne_of e (s4 _ _ hD3) (by intro z; cases z))]
        exact e
      refine ⟨_, s4 _ _ hD3, Dw.size_lt (by rw [List.length_map, lns]; unfold Mf.cnt at las; omega), Dw.same_mut (s3.trans s4) hD, ns ++ [t4], by rw [upd_same, List.map_append]; rfl, ?_⟩
      rw [Mf.pcs_succ, List.map_append]
      exact ((tr.mono s4).keep kt).app ⟨kt _ _ h4, True.intro⟩
    · rintro H3 ⟨s3, ns, hD3, tr⟩
      rw [List.length_map, las] at tr
      refine ⟨D, _, rfl, .inl ⟨Dw.sq_of hD3, fun u hu => ⟨Dw.sz_ rfl, fun v hv => ?_⟩⟩⟩
      have s4 := Dw.same_upd (o := .tup (ns.map V.ref)) hu
      have s5 := Dw.same_upd (o := .tup [.ref u]) hv
      have S5 := ((s2.trans s3).trans s4).trans s5
      refine ⟨th, v, _, _, rfl, rfl, Dw.st_of (S5 _ _ hth), Dw.st_of upd_same, by simp, Dw.sz_ rfl, fun e => (by cases e), fun _ t ht => ?_⟩
      have s6 := Dw.same_upd (o := .tup ([ver, (xs.length : Int), (Sm.sumsI xs).1, (Sm.sumsI xs).2, num, Mf.sealOf k ver xs num].map V.int ++ [.ref u])) ht
      exact q _ t ((s1.trans S5).trans s6) ((s1.trans S5).free ht) ⟨u, ns, upd_same, s6 _ _ (s5 _ _ upd_same), tr.mono ((s4.trans s5).trans s6)⟩

/-- keys drawn -/
theorem G_l_keys {a : Ad} (T : Top K mg a) : FnOk P w K mg base CX0 2 a.f_l_keys a.d_l_keys P_l_keys (fun vs H Q _ => ∃ (H0 : Hp) (ns : List Int) (sa r : Addr), vs = [.ref r] ∧ Dw.Dr K H0 ns sa r H ∧
    ∀ (H' : Hp) (t : Addr) (ks : List Int), Dw.Dr K H0 ns sa r H' → Dw.Keep r H H' → H t = none → t ≠ r → H' t = some (.tup (ks.map V.int)) → 1 ≤ ks.length → ks.length ≤ 4 → (∀ k ∈ ks, 1 ≤ k ∧ k ≤ 9972) → Q (.ref t) H') := by
  refine T.F_l_keys.ok sc_l_keys (fun vs H Q E h => ?_) (fun cdv A outer s H vs Q E hr h => ?_)
  · obtain ⟨_, _, _, _, rfl, _⟩ := h
    rfl
  · obtain ⟨H0, ns, sa, r, rfl, D0, q⟩ := h
    refine ⟨_, (pss_one (ps_ret (pe_callTy call_tuple_of (by rfl) T.b_tuple (by decide +kernel) (pa_cons (pe_lc (own := [(("_law_k" : Str), 1)]) (g := (gName 1)) (tt := tYes) (by rfl) sc_l_keys.nd (pi_range1 (by rfl) T.b_range (pa_cons (pe_op op_add pe_int (pe_call (G_l_taken T) (hr.mono (by omega)) (by rfl) T.g_l_taken T.F_l_taken.kp T.B_l_taken .nil pass0 (pa_cons (pv 0) (pa_cons pe_int pa_nil)))) pa_nil)) (blkOk_by (own := [(("_law_k" : Str), 1)]) (N := N_l_keys) (sc := defScope s_l_keys) (by decide +kernel)) (fun _ _ _ _ _ => (pg_name (i := 1) sc_l_keys.nd rfl (Or.inl rfl))) (fun _ _ _ _ _ => pts_nil) (fun _ _ _ _ _ => (pe_op op_add pe_int (pe_call (G_l_taken T) (hr.mono (by omega)) (by rfl) T.g_l_taken T.F_l_taken.kp T.B_l_taken .nil pass0 (pa_cons (pv 0) (pa_cons (pe_ix (Dw.ix_listK (K := K) rfl) (pe_lst (pa_cons pe_int (pa_cons pe_int pa_nil))) (pe_call (G_l_taken T) (hr.mono (by omega)) (by rfl) T.g_l_taken T.F_l_taken.kp T.B_l_taken .nil pass0 (pa_cons (pv 0) (pa_cons pe_int pa_nil))) (fun _ _ => rfl)) pa_nil)))))) pa_nil)))), ?_⟩
    refine ⟨_, rfl, H0, ns, sa, r, 4, rfl, D0, by decide, by decide, fun n H1 D1 k1 n0 n4 => ⟨1, n, rfl, rfl, 1 + n, rfl, by omega, by omega, fun B hB => ?_⟩⟩
    have fB0 : H B = none := by
      cases e : H B with
      | none => rfl
      | some o =>
        have z := k1 B o (D1.ne hB) e
        rw [hB] at z
        cases z
    have nB : B ≠ r := D1.ne hB
    have fB := D1.free hB
    refine lc_range (lo := 0) (n := (1 + n).toNat) (fun i H' => Dw.Dr K H0 ns sa r H' ∧ Dw.Keep r H H' ∧ ∃ xs : List Int, H' B = some (.lst (xs.map V.int)) ∧ xs.length = i ∧ ∀ x ∈ xs, 1 ≤ x ∧ x ≤ 9972) ⟨D1.new hB, k1.trans (Dw.Keep.same (Dw.same_upd hB)), [], upd_same, rfl, fun _ h => by cases h⟩ ?_ ?_
    · rintro i H2 hi ⟨D2, K2, xs, hx, hl, hb⟩
      refine ⟨rfl, _, rfl, Dw.sz_ rfl, fun l1 hl1 => ?_⟩
      have s3 := Dw.same_upd (o := .lst [.int 50, .int 9972]) hl1
      have nl1 := D2.ne hl1
      refine ⟨_, rfl, H0, ns, sa, r, 2, rfl, D2.new hl1, by decide, by decide, fun u H4 D4 k4 u0 u1 => ?_⟩
      obtain ⟨m, hat, em⟩ := Ct.at_two (w := 50) (t := 9972) u0 u1
      have hm : 0 < m ∧ m ≤ 9972 := by
        rcases em with rfl | rfl <;> exact ⟨by decide, by decide⟩
      refine ⟨l1, _, u, _, rfl, rfl, Dw.sq_of (k4 _ _ nl1 upd_same), hat, H0, ns, sa, r, m, rfl, D4, hm.1, by omega, fun v H5 D5 k5 v0 v1 => ⟨1, v, rfl, rfl, ?_⟩⟩
      have K5 := ((K2.trans (Dw.Keep.same s3)).trans k4).trans k5
      have hx5 := k5 _ _ nB (k4 _ _ nB (s3 _ _ hx))
      refine ⟨_, hx5, Dw.size_lt (by rw [List.length_map]; omega), D5.mut nB fB, fun b o nb e => ?_, xs ++ [1 + v], ?_, by rw [List.length_append, hl]; rfl, fun y hy => ?_⟩
      · rw [upd_ne (ne_of_none e fB0)]
        exact K5 _ _ nb e
      · rw [upd_same, List.map_append]
        rfl
      · rcases List.mem_append.mp hy with h | h
        · exact hb y h
        · rw [List.mem_singleton.mp h]
          exact ⟨by omega, by omega⟩
    · rintro H2 ⟨D2, K2, xs, hx, hl, hb⟩
      refine ⟨B, _, rfl, .inl ⟨Dw.sq_of hx, fun t ht => ?_⟩⟩
      have nt := D2.ne ht
      have ft : H t = none := by
        cases e : H t with
        | none => rfl
        | some o =>
          have z := K2 t o nt e
          rw [ht] at z
          cases z
      exact q _ t xs (D2.new ht) (K2.trans (Dw.Keep.same (Dw.same_upd ht))) ft nt upd_same (by omega) (by omega) hb
/-- a picture drawn -/
theorem G_l_picture {a : Ad} (T : Top K mg a) : FnOk P w K mg base CX0 3 a.f_l_picture a.d_l_picture P_l_picture (fun vs H Q _ => ∃ (H0 : Hp) (ns : List Int) (sa r kt : Addr) (ks : List Int) (most : Int), vs = [.ref r, .ref kt, .int most] ∧ Dw.Dr K H0 ns sa r H ∧ H kt = some (.tup (ks.map V.int)) ∧ 1 ≤ ks.length ∧ ks.length ≤ 4 ∧ 1 ≤ most ∧ most ≤ 999 ∧
    ∀ (H' : Hp) (t c : Addr) (ver : Int) (xs : List Int) (num : Int), Dw.Dr K H0 ns sa r H' → Dw.Keep r H H' → H t = none → t ≠ r → H c = none → c ≠ r → H' t = some (.tup [.int ver, .ref c, .int num]) → H' c = some (.tup (xs.map V.int)) → 1 ≤ ver → ver ≤ most → 1 ≤ xs.length → xs.length ≤ 12 → (∀ x ∈ xs, 0 ≤ x ∧ x ≤ 9972) → 0 ≤ num → num < ks.length → Q (.ref t) H') := by
  refine T.F_l_picture.ok sc_l_picture (fun vs H Q E h => ?_) (fun cdv A outer s H vs Q E hr h => ?_)
  · obtain ⟨_, _, _, _, _, _, _, rfl, _⟩ := h
    rfl
  · obtain ⟨H0, ns, sa, r, kt, ks, most, rfl, D0, hk, kl, kh, m0, m1, q⟩ := h
    refine ⟨_, (pss_cons (ps_set (i := 3) sc_l_picture.nd rfl (Or.inl rfl) (pe_callTy call_tuple_of (by rfl) T.b_tuple (by decide +kernel) (pa_cons (pe_lc (own := [(("_law_k" : Str), 4)]) (g := (gName 4)) (tt := tYes) (by rfl) sc_l_picture.nd (pi_range1 (by rfl) T.b_range (pa_cons (pe_op op_add pe_int (pe_call (G_l_taken T) (hr.mono (by omega)) (by rfl) T.g_l_taken T.F_l_taken.kp T.B_l_taken .nil pass0 (pa_cons (pv 0) (pa_cons pe_int pa_nil)))) pa_nil)) (blkOk_by (own := [(("_law_k" : Str), 4)]) (N := N_l_picture) (sc := defScope s_l_picture) (by decide +kernel)) (fun _ _ _ _ _ => (pg_name (i := 4) sc_l_picture.nd rfl (Or.inl rfl))) (fun _ _ _ _ _ => pts_nil) (fun _ _ _ _ _ => (pe_call (G_l_worth T) (hr.mono (by omega)) (by rfl) T.g_l_worth T.F_l_worth.kp T.B_l_worth .nil pass0 (pa_cons (pv 0) pa_nil)))) pa_nil)))
      (pss_one (ps_ret (pe_tup (pa_cons (pe_op op_add pe_int (pe_call (G_l_taken T) (hr.mono (by omega)) (by rfl) T.g_l_taken T.F_l_taken.kp T.B_l_taken .nil pass0 (pa_cons (pv 0) (pa_cons (pv 2) pa_nil)))) (pa_cons (pv 3) (pa_cons (pe_call (G_l_taken T) (hr.mono (by omega)) (by rfl) T.g_l_taken T.F_l_taken.kp T.B_l_taken .nil pass0 (pa_cons (pv 0) (pa_cons (pe_callB call_len_seq (by rfl) T.b_len PySem.boot_len (pa_cons (pv 1) pa_nil)) pa_nil))) pa_nil))))))), ?_⟩
    refine ⟨_, rfl, H0, ns, sa, r, 12, rfl, D0, by decide, by decide, fun n H1 D1 k1 n0 n4 => ⟨1, n, rfl, rfl, 1 + n, rfl, by omega, by omega, fun B hB => ?_⟩⟩
    have back : ∀ {H' : Hp} {b : Addr}, Dw.Dr K H0 ns sa r H' → Dw.Keep r H H' → H' b = none → H b = none ∧ b ≠ r := fun {H' b} D k hb => by
      refine ⟨?_, D.ne hb⟩
      cases e : H b with
      | none => rfl
      | some o =>
        have z := k b o (D.ne hb) e
        rw [hb] at z
        cases z
    obtain ⟨fB0, nB⟩ := back D1 k1 hB
    have fB := D1.free hB
    refine lc_range (lo := 0) (n := (1 + n).toNat) (fun i H' => Dw.Dr K H0 ns sa r H' ∧ Dw.Keep r H H' ∧ ∃ xs : List Int, H' B = some (.lst (xs.map V.int)) ∧ xs.length = i ∧ ∀ x ∈ xs, 0 ≤ x ∧ x ≤ 9972) ⟨D1.new hB, k1.trans (Dw.Keep.same (Dw.same_upd hB)), [], upd_same, rfl, fun _ h => by cases h⟩ ?_ ?_
    · rintro i H2 hi ⟨D2, K2, xs, hx, hl, hb⟩
      refine ⟨rfl, _, rfl, H0, ns, sa, r, rfl, D2, fun v H5 k5D k5 v0 v1 => ?_⟩
      have hx5 := k5 _ _ nB hx
      have K5 := K2.trans k5
      refine ⟨_, hx5, Dw.size_lt (by rw [List.length_map]; omega), k5D.mut nB fB, fun b o nb e => ?_, xs ++ [v], ?_, by rw [List.length_append, hl]; rfl, fun y hy => ?_⟩
      · rw [upd_ne (ne_of_none e fB0)]
        exact K5 _ _ nb e
      · rw [upd_same, List.map_append]
        rfl
      · rcases List.mem_append.mp hy with h | h
        · exact hb y h
        · rw [List.mem_singleton.mp h]
          exact ⟨v0, by omega⟩
    · rintro H2 ⟨D2, K2, xs, hx, hl, hb⟩
      refine ⟨B, _, rfl, .inl ⟨Dw.sq_of hx, fun c hc => ?_⟩⟩
      obtain ⟨fc, nc⟩ := back D2 K2 hc
      have D3 := D2.new (o := .tup (xs.map V.int)) hc
      have K3 := K2.trans (Dw.Keep.same (Dw.same_upd (o := .tup (xs.map V.int)) hc))
      have hc3 : (upd H2 c (.tup (xs.map V.int))) c = some (.tup (xs.map V.int)) := upd_same
      generalize upd H2 c (.tup (xs.map V.int)) = H3 at D3 K3 hc3 ⊢
      refine ⟨_, rfl, _, rfl, H0, ns, sa, r, most, rfl, D3, by omega, by omega, fun v H4 D4 k4 v0 v1 => ⟨1, v, rfl, rfl, _, rfl, ?_⟩⟩
      have K4 := K3.trans k4
      have nk : kt ≠ r := D0.ne_tup hk
      refine ⟨_, rfl, _, rfl, kt, _, rfl, .inr (Dw.st_of (K4 _ _ nk hk)), ?_⟩
      rw [List.length_map]
      refine ⟨H0, ns, sa, r, _, rfl, D4, by omega, by omega, fun num H5 D5 k5 num0 num1 => ⟨Dw.sz_ rfl, fun t ht => ?_⟩⟩
      have K5 := K4.trans k5
      obtain ⟨ft, nt⟩ := back D5 K5 ht
      have st := Dw.same_upd (o := .tup [.int (1 + v), .ref c, .int num]) ht
      exact q _ t c (1 + v) xs num (D5.new ht) (K5.trans (Dw.Keep.same st)) ft nt fc nc upd_same (st _ _ (k5 _ _ nc (k4 _ _ nc hc3))) (by omega) (by omega) (by omega) (by omega) hb num0 num1

/-- the law's own text of a manifest -/
def spLText : Sp := fun vs H Q _ => ∃ (t : Addr) (ver : Int) (xs : List Int) (num s : Int), vs = [.ref t] ∧ ManOk H t ver xs num s ∧ ∀ H', Same H H' → Q (.str (Tx.text ver (xs.length : Int) (Sm.sumsI xs).1 (Sm.sumsI xs).2 num s (Mf.names xs))) H'
theorem G_l_text {a : Ad} (T : Top K mg a) : FnOk P w K mg base CX0 1 a.f_l_text a.d_l_text P_l_text spLText := by
  refine T.F_l_text.ok sc_l_text (fun vs H Q E h => ?_) (fun cdv A outer s H vs Q E hr h => ?_)
  · obtain ⟨_, _, _, _, _, rfl, _⟩ := h
    rfl
  · obtain ⟨t, ver, xs, num, sl, rfl, M, q⟩ := h
    refine ⟨_, (pss_cons (ps_set (i := 1) sc_l_text.nd rfl (Or.inl rfl) (pe_op op_cat (pe_lst (pa_cons pe_str pa_nil)) (pe_lc (own := [(("_law_number" : Str), 2)]) (g := (gName 2)) (tt := tYes) (by rfl) sc_l_text.nd (pi_tup (pe_slice sl_tupA (pv 0) po_none (po_some pe_int))) (blkOk_by (own := [(("_law_number" : Str), 2)]) (N := N_l_text) (sc := defScope s_l_text) (by decide +kernel)) (fun _ _ _ _ _ => (pg_name (i := 2) sc_l_text.nd rfl (Or.inl rfl))) (fun _ _ _ _ _ => pts_nil) (fun _ _ _ _ _ => (pe_callTy call_str_int (by rfl) T.b_str (by decide +kernel) (pa_cons (pv 2) pa_nil))))))
      (pss_one (ps_ret (pe_join pe_str (pe_op op_cat (pv 1) (pe_lc (own := [(("_law_title_here" : Str), 3)]) (g := (gName 3)) (tt := tYes) (by rfl) sc_l_text.nd (pi_tup (pe_ix ix_tup (pv 0) pe_int (fun _ _ => rfl))) (blkOk_by (own := [(("_law_title_here" : Str), 3)]) (N := N_l_text) (sc := defScope s_l_text) (by decide +kernel)) (fun _ _ _ _ _ => (pg_name (i := 3) sc_l_text.nd rfl (Or.inl rfl))) (fun _ _ _ _ _ => pts_nil) (fun _ _ _ _ _ => (by exact (pe_m1 PySem.F.slot_str_join PySem.F.type_str_join (Nl.mt_joinK (K := K) rfl) pe_str (pe_lc (own := [(("_law_number" : Str), 2)]) (g := (gName 2)) (tt := tYes) (by rfl) sc_l_text.nd (Nl.pi_tupK (K := K) rfl (pv 3)) (blkOk_by (own := [(("_law_number" : Str), 2)]) (N := N_l_text) (sc := (Nl.sc s_l_text 1 [1, 1])) (by decide +kernel)) (fun _ _ _ _ _ => (pg_name (i := 2) sc_l_text.nd rfl (Or.inl rfl))) (fun _ _ _ _ _ => pts_nil) (fun _ _ _ _ _ => (pe_callTy call_str_int (by rfl) T.b_str (by decide +kernel) (pa_cons (pv 2) pa_nil))))))))))))), ?_⟩
    obtain ⟨r1, r2, r3, r4, r5, r6, rt, rl⟩ := man_rg M
    obtain ⟨u, as, ht, hu, tr⟩ := M.at_
    have las := tr.len
    generalize Mf.names xs = ts at *
    refine ⟨Dw.sz_ rfl, fun l1 hl1 => ?_⟩
    have s0 := Dw.same_upd (o := .lst [.str "picture"]) hl1
    have e0 : (upd H l1 (.lst [.str "picture"])) l1 = some (.lst [.str "picture"]) := upd_same
    generalize upd H l1 (.lst [.str "picture"]) = H0 at s0 e0 ⊢
    refine ⟨_, rfl, 6, rfl, Mf.sl_any (Dw.st_of (s0 _ _ ht)) fun p H1 s1 hp1 => ?_⟩
    have hp1 : SqT K H1 p ([ver, (xs.length : Int), (Sm.sumsI xs).1, (Sm.sumsI xs).2, num, sl].map V.int) := by
      rw [show cutV [V.int ver, V.int (xs.length : Int), V.int (Sm.sumsI xs).1, V.int (Sm.sumsI xs).2, V.int num, V.int sl, V.ref u] none (some 6) = [ver, (xs.length : Int), (Sm.sumsI xs).1, (Sm.sumsI xs).2, num, sl].map V.int from Dw.cut_take _ 6] at hp1
      exact hp1
    refine ⟨p, rfl, ⟨_, hp1⟩, fun D3 hD3 => lc_tup (K := K) (a := p) (xs := [ver, (xs.length : Int), (Sm.sumsI xs).1, (Sm.sumsI xs).2, num, sl].map V.int) (fun j H' => Same H1 H' ∧ H' D3 = some (.lst (((Tx.nums ver (xs.length : Int) (Sm.sumsI xs).1 (Sm.sumsI xs).2 num sl).take j).map V.str))) ⟨Dw.same_upd hD3, upd_same⟩ (fun j H' _ ⟨s, _⟩ => Dw.same_tup s hp1) ?_ ?_⟩
    · rintro j y H4 hj ⟨s4, e4⟩
      have hlj := (List.getElem?_eq_some_iff.mp hj).1
      have hlj : j < 6 := hlj
      obtain ⟨n, hn, hj2, rfl⟩ : ∃ n, Tx.Rg n ∧ (Tx.nums ver (xs.length : Int) (Sm.sumsI xs).1 (Sm.sumsI xs).2 num sl)[j]? = some (Tx.num n) ∧ y = .int n := by
        match j, hj with
        | 0, h => exact ⟨_, r1, rfl, (Option.some.inj h).symm⟩
        | 1, h => exact ⟨_, r2, rfl, (Option.some.inj h).symm⟩
        | 2, h => exact ⟨_, r3, rfl, (Option.some.inj h).symm⟩
        | 3, h => exact ⟨_, r4, rfl, (Option.some.inj h).symm⟩
        | 4, h => exact ⟨_, r5, rfl, (Option.some.inj h).symm⟩
        | 5, h => exact ⟨_, r6, rfl, (Option.some.inj h).symm⟩
      refine ⟨rfl, _, rfl, n, rfl, Tx.num_log hn.1 hn.2, _, e4, Dw.size_lt (by rw [List.length_map, List.length_take]; show min j 6 < 100000; omega), Dw.same_mut s4 hD3, ?_⟩
      rw [upd_same, List.take_add_one, hj2, List.map_append]
      rfl
    · rintro H2 ⟨s2, e2⟩
      have e2 : H2 D3 = some (.lst ((Tx.nums ver (xs.length : Int) (Sm.sumsI xs).1 (Sm.sumsI xs).2 num sl).map V.str)) := e2
      refine ⟨l1, D3, _, _, rfl, rfl, s2 _ _ (s1 _ _ e0), e2, Dw.sz_ rfl, fun l2 hl2 => ?_⟩
      have s2b := Dw.same_upd (o := .lst ([V.str "picture"] ++ (Tx.nums ver (xs.length : Int) (Sm.sumsI xs).1 (Sm.sumsI xs).2 num sl).map V.str)) hl2
      have el2 : (upd H2 l2 (.lst ([V.str "picture"] ++ (Tx.nums ver (xs.length : Int) (Sm.sumsI xs).1 (Sm.sumsI xs).2 num sl).map V.str))) l2 = some (.lst ([V.str "picture"] ++ (Tx.nums ver (xs.length : Int) (Sm.sumsI xs).1 (Sm.sumsI xs).2 num sl).map V.str)) := upd_same
      have S2 := ((s0.trans s1).trans s2).trans s2b
      generalize upd H2 l2 (.lst ([V.str "picture"] ++ (Tx.nums ver (xs.length : Int) (Sm.sumsI xs).1 (Sm.sumsI xs).2 num sl).map V.str)) = H2 at S2 el2 ⊢
      have hu2 := S2 _ _ hu
      have tr2 := tr.mono S2
      refine ⟨⟨_, rfl⟩, _, rfl, _, rfl, t, _, 6, _, rfl, rfl, Dw.st_of (S2 _ _ ht), rfl, u, rfl, ⟨_, Dw.st_of hu2⟩, fun D hD => lc_tup (K := K) (a := u) (xs := as.map V.ref) (fun i H' => Same H2 H' ∧ H' D = some (.lst (((ts.take i).map Tx.title).map V.str))) ⟨Dw.same_upd hD, upd_same⟩ (fun i H' _ ⟨s, _⟩ => Dw.same_tup s (Dw.st_of hu2)) ?_ ?_⟩
      · rintro i y H3 hi ⟨s3, e3⟩
        obtain ⟨b, hb, rfl⟩ := Dw.get_map_ref hi
        obtain ⟨z, hz, hbz⟩ := tr2.at hb
        have hlt := (List.getElem?_eq_some_iff.mp hz).1
        have rz := rt z (List.mem_of_getElem? hz)
        have hb3 := s3 _ _ hbz
        refine ⟨rfl, ⟨_, rfl⟩, _, rfl, b, rfl, ⟨_, Dw.st_of hb3⟩, fun D2 hD2 => lc_tup (K := K) (a := b) (xs := [z.1, z.2.1, z.2.2].map V.int) (fun j H' => Same H3 H' ∧ H' D2 = some (.lst (([Tx.num z.1, Tx.num z.2.1, Tx.num z.2.2].take j).map V.str))) ⟨Dw.same_upd hD2, upd_same⟩ (fun j H' _ ⟨s, _⟩ => Dw.same_tup s (Dw.st_of hb3)) ?_ ?_⟩
        · rintro j y H4 hj ⟨s4, e4⟩
          have hlj := (List.getElem?_eq_some_iff.mp hj).1
          have hlj : j < 3 := hlj
          obtain ⟨n, hn, hj2, rfl⟩ : ∃ n, Tx.Rg n ∧ [Tx.num z.1, Tx.num z.2.1, Tx.num z.2.2][j]? = some (Tx.num n) ∧ y = .int n := by
            match j, hj with
            | 0, h => exact ⟨_, rz.1, rfl, (Option.some.inj h).symm⟩
            | 1, h => exact ⟨_, rz.2.1, rfl, (Option.some.inj h).symm⟩
            | 2, h => exact ⟨_, rz.2.2, rfl, (Option.some.inj h).symm⟩
          refine ⟨rfl, _, rfl, n, rfl, Tx.num_log hn.1 hn.2, _, e4, Dw.size_lt (by rw [List.length_map, List.length_take]; show min j 3 < 100000; omega), Dw.same_mut s4 hD2, ?_⟩
          rw [upd_same, List.take_add_one, hj2, List.map_append]
          rfl
        · rintro H4 ⟨s4, e4⟩
          have h1 := Tx.num_len rz.1.1 rz.1.2
          have h2 := Tx.num_len rz.2.1.1 rz.2.1.2
          have h3 := Tx.num_len rz.2.2.1 rz.2.2.2
          refine ⟨_, D2, [Tx.num z.1, Tx.num z.2.1, Tx.num z.2.2], rfl, rfl, .inl (Dw.sq_of e4), by rw [Tx.comma_len]; show (Tx.num z.1).length + ((Tx.num z.2.1).length + ((Tx.num z.2.2).length + 0)) + 3 * 1 ≤ 16777216; omega, ?_⟩
          refine ⟨_, s4 _ _ e3, Dw.size_lt (by rw [List.length_map, List.length_map, List.length_take]; omega), Dw.same_mut (s3.trans s4) hD, ?_⟩
          rw [upd_same, List.take_add_one, hz, List.map_append, List.map_append]
          rfl
      · rintro H3 ⟨s3, e3⟩
        rw [List.length_map, las, List.take_length] at e3
        have hw := Tx.words_sum r1 r2 r3 r4 r5 r6 rt rl
        have ew : ([V.str "picture"] ++ (Tx.nums ver (xs.length : Int) (Sm.sumsI xs).1 (Sm.sumsI xs).2 num sl).map V.str) ++ (ts.map Tx.title).map V.str = (Tx.words ver (xs.length : Int) (Sm.sumsI xs).1 (Sm.sumsI xs).2 num sl ts).map V.str := by
          unfold Tx.words
          rw [List.append_assoc, List.map_cons, List.map_append]
          rfl
        refine ⟨l2, D, _, _, rfl, rfl, s3 _ _ el2, e3, Dw.size_ok ?_, fun l3 hl3 => ?_⟩
        · rw [List.length_map, List.length_map]
          show 7 + ts.length ≤ 100000
          omega
        · have s5 := Dw.same_upd (o := .lst (([V.str "picture"] ++ (Tx.nums ver (xs.length : Int) (Sm.sumsI xs).1 (Sm.sumsI xs).2 num sl).map V.str) ++ (ts.map Tx.title).map V.str)) hl3
          refine ⟨_, l3, Tx.words ver (xs.length : Int) (Sm.sumsI xs).1 (Sm.sumsI xs).2 num sl ts, rfl, rfl, .inl (Dw.sq_of ?_), Nat.le_trans hw (by decide), q _ ((S2.trans s3).trans s5)⟩
          rw [← ew]
          exact upd_same


theorem Pj_seal {k : Int} (hk : 1 ≤ k ∧ k < 9973) (xs : List Int) : 0 ≤ Sm.sealI k xs ∧ Sm.sealI k xs ≤ 9972 := by
  have := Sm.seal_range k xs k ⟨by omega, hk.2⟩
  unfold Sm.sealI
  omega
def spLaw (K : PySem.W.Frag) : Sp := fun vs H Q _ => ∃ (sa : Addr) (ns : List Int), vs = [.ref sa] ∧ SqL K H sa (ns.map V.int) ∧ ns.length ≤ 63 ∧ ∀ H', Q (.bl true) H'
theorem ManOk.tups {H H' : Hp} {t : Addr} {ver : Int} {xs : List Int} {num s : Int} (k : ∀ a u, H a = some (.tup u) → H' a = some (.tup u)) (M : ManOk H t ver xs num s) : ManOk H' t ver xs num s := by
  obtain ⟨u, as, h1, h2, tr⟩ := M.at_
  exact ⟨⟨u, as, k _ _ h1, k _ _ h2, tr.keep k⟩, M.v0, M.v1, M.lo, M.hi, M.rg, M.n0, M.n1, M.s0, M.s1⟩
theorem G_law {a : Ad} (T : Top K mg a) : FnOk P w K mg base CX0 6 a.f_law a.d_law P_law (spLaw K) := by
  refine T.F_law.ok sc_law (fun vs H Q E h => ?_) (fun cdv A outer s H vs Q E hr h => ?_)
  · obtain ⟨_, _, rfl, _⟩ := h
    rfl
  · obtain ⟨sa, ns, rfl, hS, hlen, q⟩ := h
    refine ⟨_, (pss_cons (ps_set (i := 1) sc_law.nd rfl (Or.inl rfl) (pe_lst (pa_cons (pv 0) (pa_cons pe_int (pa_cons pe_int (pa_cons pe_int pa_nil))))))
      (pss_cons (ps_set (i := 2) sc_law.nd rfl (Or.inl rfl) (pe_lst pa_nil))
      (pss_cons (ps_for PassesOwn.never rfl (pi_range1 (by rfl) T.b_range (pa_cons pe_int pa_nil)) (pg_name (i := 3) sc_law.nd rfl (Or.inl rfl))
        (pss_cons (ps_set (i := 4) sc_law.nd rfl (Or.inl rfl) (pe_call (G_l_keys T) (hr.mono (by omega)) (by rfl) T.g_l_keys T.F_l_keys.kp T.B_l_keys .nil pass0 (pa_cons (pv 1) pa_nil)))
      (pss_one (ps_expr (pe_bm PySem.F.plainAttrs_list PySem.F.slot_list_append PySem.F.type_list_append mt_append (pv 2) (pa_cons (pe_call (G_l_manifest T) (hr.mono (by omega)) (by rfl) T.g_l_manifest T.F_l_manifest.kp T.B_l_manifest .nil pass0 (pa_cons (pv 4) (pa_cons (pe_call (G_l_picture T) (hr.mono (by omega)) (by rfl) T.g_l_picture T.F_l_picture.kp T.B_l_picture .nil pass0 (pa_cons (pv 1) (pa_cons (pv 4) (pa_cons pe_int pa_nil)))) pa_nil))) pa_nil))))))
      (pss_cons (ps_for PassesOwn.never rfl (pi_list (pe_op op_cat (pv 2) (pe_slice sl_list (pv 2) po_none (po_some pe_int)))) (pg_name (i := 5) sc_law.nd rfl (Or.inl rfl))
        (pss_cons (ps_set (i := 6) sc_law.nd rfl (Or.inl rfl) (pe_call (G_l_text T) (hr.mono (by omega)) (by rfl) T.g_l_text T.F_l_text.kp T.B_l_text .nil pass0 (pa_cons (pv 5) pa_nil)))
      (pss_one (ps_if (PW.pt (pw_or (pt_not (pt_val (pe_call (G_l_alike T) (hr.mono (by omega)) (by rfl) T.g_l_alike T.F_l_alike.kp T.B_l_alike .nil pass0 (pa_cons (pe_call (G_written T) (hr.mono (by omega)) (by rfl) T.g_written T.F_written.kp T.B_written .nil pass0 (pa_cons (pv 5) pa_nil)) (pa_cons (pv 6) pa_nil))))) (pw_or1 (pt_not (pt_val (pe_call (G_l_alike T) (hr.mono (by omega)) (by rfl) T.g_l_alike T.F_l_alike.kp T.B_l_alike .nil pass0 (pa_cons (pe_call (G_read T) (hr.mono (by omega)) (by rfl) T.g_read T.F_read.kp T.B_read .nil pass0 (pa_cons (pv 6) pa_nil)) (pa_cons (pv 5) pa_nil))))))))
        (pss_one (ps_ret pe_bl))
        pss_nil))))
      (pss_one (ps_ret pe_bl)))))), ?_⟩
    refine ⟨.ref sa, rfl, Dw.sz_ rfl, fun r hr0 => ?_⟩
    have D0 : Dw.Dr K H ns sa r (upd H r (.lst [.ref sa, .int 0, .int 0, .int 0])) := Dw.Dr.start hr0 hS hlen
    generalize upd H r (.lst [.ref sa, .int 0, .int 0, .int 0]) = H1 at D0 ⊢
    refine ⟨Dw.sz_ rfl, fun l hl => ?_⟩
    have D1 := D0.new (o := .lst []) hl
    have nlr := D0.ne hl
    have flr := D0.free hl
    have hl1 : (upd H1 l (.lst [])) l = some (.lst []) := upd_same
    generalize upd H1 l (.lst []) = H2 at D1 hl1 ⊢
    refine ⟨5, rfl, by decide, by decide, for_range (lo := 0) (n := 5) (fun i σ H' => ∃ (v3 v4 : Option V) (ts : List Addr), σ = [some (.ref sa), some (.ref r), some (.ref l), v3, v4, none, none] ∧ Dw.Dr K H ns sa r H' ∧ H' l = some (.lst (ts.map V.ref)) ∧ ts.length = i ∧ ∀ t ∈ ts, ∃ ver xs num s, ManOk H' t ver xs num s) ⟨_, _, [], rfl, D1, hl1, rfl, fun t h => by cases h⟩ ?_ ?_⟩
    · rintro i σ H3 hi ⟨v3, v4, ts, rfl, D3, hl3, lts, mts⟩
      refine ⟨_, rfl, H, ns, sa, r, rfl, D3, fun H4 kt ks D4 k4 nkt ktr hk kl kh kr => ?_⟩
      have hl4 := k4 _ _ nlr hl3
      have keep : ∀ {Ha Hb : Hp}, Dw.Dr K H ns sa r Ha → Dw.Keep r Ha Hb → ∀ a u, Ha a = some (.tup u) → Hb a = some (.tup u) := fun {Ha Hb} D k a u e => by
        obtain ⟨_, _, _, hr, _⟩ := D.row
        exact k _ _ (ne_of e hr (by intro z; cases z)) e
      refine ⟨_, rfl, .inl ⟨rfl, _, Dw.sq_of hl4⟩, ?_⟩
      refine ⟨_, rfl, _, rfl, _, rfl, H, ns, sa, r, kt, ks, 999, rfl, D4, hk, kl, kh, by decide, by decide, fun H5 pt c ver xs num D5 k5 npt ptr nc cr hp hc v0 v1 l0 l1 rg n0 n1 => ?_⟩
      have KA : Mf.KeysAt K H5 kt ks := ⟨Dw.st_of (k5 _ _ ktr hk), kl, kh, kr⟩
      have PA : Mf.PicAt K H5 pt ver xs num ks.length := ⟨⟨c, Dw.st_of hp, Dw.st_of hc⟩, v0, by omega, l0, l1, rg, n0, n1⟩
      obtain ⟨k, hk2, _, k0, k1⟩ := KA.at n0 (by omega)
      have hsl := Pj_seal ⟨k0, k1⟩ [ver, (xs.length : Int), (Sm.sumsI xs).1, (Sm.sumsI xs).2, num]
      refine ⟨kt, pt, ks, xs, ver, num, k, rfl, KA, PA, hk2, k0, k1, fun H6 t s6 nt mt => ?_⟩
      have hl6 := s6 _ _ (k5 _ _ nlr hl4)
      refine ⟨l, _, _, rfl, rfl, hl6, Dw.size_lt (by rw [List.length_map]; omega), ?_⟩
      have kl6 : ∀ a u, H6 a = some (.tup u) → (upd H6 l (.lst (ts.map V.ref ++ [.ref t]))) a = some (.tup u) := fun a u e => by
        rw [upd_ne (ne_of e hl6 (by intro z; cases z))]
        exact e
      have M : ManOk H6 t ver xs num (Mf.sealOf k ver xs num) := ⟨mt, v0, by omega, l0, l1, rg, n0, by omega, hsl.1, hsl.2⟩
      refine ⟨_, _, ts ++ [t], rfl, (D5.mono s6).mut nlr flr, by rw [upd_same, List.map_append]; rfl, by rw [List.length_append, lts]; rfl, fun t' ht' => ?_⟩
      rcases List.mem_append.mp ht' with h | h
      · obtain ⟨v', x', n', s', M'⟩ := mts t' h
        exact ⟨v', x', n', s', (((M'.tups (keep D3 k4)).tups (keep D4 k5)).mono s6).tups kl6⟩
      · rw [List.mem_singleton.mp h]
        exact ⟨_, _, _, _, M.tups kl6⟩
    · rintro σ H3 ⟨v3, v4, ts, rfl, D3, hl3, lts, mts⟩
      refine ⟨_, rfl, _, rfl, 2, rfl, l, _, rfl, Dw.sq_of hl3, fun lb hlb => ?_⟩
      rw [show cutV (ts.map V.ref) none (some 2) = (ts.take 2).map V.ref from (Dw.cut_take _ 2).trans List.map_take.symm]
      have s4 := Dw.same_upd (o := .lst ((ts.take 2).map V.ref)) hlb
      refine ⟨l, lb, _, _, rfl, rfl, s4 _ _ hl3, upd_same, Dw.size_ok (by rw [List.length_map, List.length_map, List.length_take]; omega), fun lc hlc => ?_⟩
      have s5 := Dw.same_upd (o := .lst (ts.map V.ref ++ (ts.take 2).map V.ref)) hlc
      have S5 := s4.trans s5
      have hlc5 : (upd (upd H3 lb (.lst ((ts.take 2).map V.ref))) lc (.lst (ts.map V.ref ++ (ts.take 2).map V.ref))) lc = some (.lst ((ts ++ ts.take 2).map V.ref)) := by rw [upd_same, List.map_append]
      generalize upd (upd H3 lb (.lst ((ts.take 2).map V.ref))) lc (.lst (ts.map V.ref ++ (ts.take 2).map V.ref)) = H5 at S5 hlc5 ⊢
      have mall : ∀ t ∈ ts ++ ts.take 2, ∃ ver xs num s, ManOk H5 t ver xs num s := fun t ht => by
        have ht' : t ∈ ts := (List.mem_append.mp ht).elim (fun h => h) List.mem_of_mem_take
        obtain ⟨v', x', n', s', M'⟩ := mts t ht'
        exact ⟨v', x', n', s', M'.mono S5⟩
      refine ⟨lc, rfl, ⟨_, Dw.sq_of hlc5⟩, for_list (K := K) (a := lc) (xs := (ts ++ ts.take 2).map V.ref) (fun i σ H' => ∃ (v5 v6 : Option V), σ = [some (.ref sa), some (.ref r), some (.ref l), v3, v4, v5, v6] ∧ Same H5 H') ⟨_, _, rfl, fun _ _ e => e⟩ (fun i σ H' _ ⟨_, _, _, s⟩ => s.seq (Dw.sq_of hlc5)) ?_ ?_⟩
      · rintro i y σ H6 hi ⟨v5, v6, rfl, s6⟩
        obtain ⟨t, ht, rfl⟩ := Dw.get_map_ref hi
        obtain ⟨ver, xs, num, sl, M⟩ := mall t (List.mem_of_getElem? ht)
        have M6 := M.mono s6
        have lx := M.hi
        refine ⟨_, rfl, t, ver, xs, num, sl, rfl, M6, fun H7 s7 => ?_⟩
        have M7 := M6.mono s7
        refine ⟨_, rfl, t, ver, xs, num, sl, rfl, M7, fun H8 s8 => ?_⟩
        refine ⟨_, rfl, _, _, .str _, rfl, .str _, .str _, by simp [PyData.depth], fun H9 s9 => ⟨_, rfl, iteF ?_⟩⟩
        have M9 := (M7.mono s8).mono s9
        refine ⟨_, rfl, ver, xs, num, sl, rfl, ⟨M9.v0, M9.v1⟩, ⟨M9.lo, M9.hi⟩, M9.rg, ⟨M9.n0, M9.n1⟩, ⟨M9.s0, M9.s1⟩, fun H10 t2 s10 M10 => ?_⟩
        refine ⟨_, rfl, _, _, Mf.manD ver xs num sl, rfl, M10.at_.td (by omega), (M9.mono s10).at_.td (by omega), Mf.manD_depth _ _ _ _, fun H11 s11 => ⟨_, rfl, iteF ?_⟩⟩
        exact ⟨_, _, rfl, ((((s6.trans s7).trans s8).trans s9).trans s10).trans s11⟩
      · rintro σ H6 ⟨v5, v6, rfl, s6⟩
        exact q _

end
theorem exm_self {K : PySem.W.Frag} {C : Addr} (b : PySem.W.subIn K (.ref C) (.type "BaseException") = some true) (i : PySem.W.isClsIn K C = true) (t : PySem.W.typeIn K (.ref C) = some (.type "type")) (s : PySem.W.subIn K (.ref C) (.ref C) = some true) :
    PySem.W.exmOne K (.ref C) (.ref C) = some true := by
  have i' : (PySem.W.clsIn K C).isSome = true := i
  simp [PySem.W.exmOne, PySem.W.kitCls, b, t, s, i']

theorem all_mk {l : PySem.W.OpenLaw} {w : World} {K : PySem.W.Frag} {h : Heap} {mg : Str → Option Value} {fa : Addr} (X : K.In h) (G : h.Ns mainGlobals mg) (hfa : mg "law" = some (.ref fa))
    {f1 : Addr} {od1 an1 : Option Addr} {sl1 : Array (Option Value)} {oc1 kV1 dc1 pm1 cd1 ct1 : Value}
    (a1 : PySem.W.nsIn K mainGlobals "is_number" = some (some (.ref f1)))
    (l1 : K.lookup f1 = some ⟨oc1, od1, .func (PySem.W.fnOf "is_number" "is_number" (defArgs s_is_number) (defBody s_is_number) (defScope s_is_number) .none kV1 dc1 pm1 an1 cd1 ct1), sl1⟩) (c1 : PySem.W.codeIn K cd1 "is_number" = true) (k1 : PySem.W.keepIn K (.ref f1) = true)
    {f2 : Addr} {od2 an2 : Option Addr} {sl2 : Array (Option Value)} {oc2 kV2 dc2 pm2 cd2 ct2 : Value}
    (a2 : PySem.W.nsIn K mainGlobals "is_row" = some (some (.ref f2)))
    (l2 : K.lookup f2 = some ⟨oc2, od2, .func (PySem.W.fnOf "is_row" "is_row" (defArgs s_is_row) (defBody s_is_row) (defScope s_is_row) .none kV2 dc2 pm2 an2 cd2 ct2), sl2⟩) (c2 : PySem.W.codeIn K cd2 "is_row" = true) (k2 : PySem.W.keepIn K (.ref f2) = true)
    {f3 : Addr} {od3 an3 : Option Addr} {sl3 : Array (Option Value)} {oc3 kV3 dc3 pm3 cd3 ct3 : Value}
    (a3 : PySem.W.nsIn K mainGlobals "joined" = some (some (.ref f3)))
    (l3 : K.lookup f3 = some ⟨oc3, od3, .func (PySem.W.fnOf "joined" "joined" (defArgs s_joined) (defBody s_joined) (defScope s_joined) .none kV3 dc3 pm3 an3 cd3 ct3), sl3⟩) (c3 : PySem.W.codeIn K cd3 "joined" = true) (k3 : PySem.W.keepIn K (.ref f3) = true)
    {f4 : Addr} {od4 an4 : Option Addr} {sl4 : Array (Option Value)} {oc4 kV4 dc4 pm4 cd4 ct4 : Value}
    (a4 : PySem.W.nsIn K mainGlobals "check_manifest" = some (some (.ref f4)))
    (l4 : K.lookup f4 = some ⟨oc4, od4, .func (PySem.W.fnOf "check_manifest" "check_manifest" (defArgs s_check_manifest) (defBody s_check_manifest) (defScope s_check_manifest) .none kV4 dc4 pm4 an4 cd4 ct4), sl4⟩) (c4 : PySem.W.codeIn K cd4 "check_manifest" = true) (k4 : PySem.W.keepIn K (.ref f4) = true)
    {f5 : Addr} {od5 an5 : Option Addr} {sl5 : Array (Option Value)} {oc5 kV5 dc5 pm5 cd5 ct5 : Value}
    (a5 : PySem.W.nsIn K mainGlobals "are_names" = some (some (.ref f5)))
    (l5 : K.lookup f5 = some ⟨oc5, od5, .func (PySem.W.fnOf "are_names" "are_names" (defArgs s_are_names) (defBody s_are_names) (defScope s_are_names) .none kV5 dc5 pm5 an5 cd5 ct5), sl5⟩) (c5 : PySem.W.codeIn K cd5 "are_names" = true) (k5 : PySem.W.keepIn K (.ref f5) = true)
    {f6 : Addr} {od6 an6 : Option Addr} {sl6 : Array (Option Value)} {oc6 kV6 dc6 pm6 cd6 ct6 : Value}
    (a6 : PySem.W.nsIn K mainGlobals "written" = some (some (.ref f6)))
    (l6 : K.lookup f6 = some ⟨oc6, od6, .func (PySem.W.fnOf "written" "written" (defArgs s_written) (defBody s_written) (defScope s_written) .none kV6 dc6 pm6 an6 cd6 ct6), sl6⟩) (c6 : PySem.W.codeIn K cd6 "written" = true) (k6 : PySem.W.keepIn K (.ref f6) = true)
    {f7 : Addr} {od7 an7 : Option Addr} {sl7 : Array (Option Value)} {oc7 kV7 dc7 pm7 cd7 ct7 : Value}
    (a7 : PySem.W.nsIn K mainGlobals "read" = some (some (.ref f7)))
    (l7 : K.lookup f7 = some ⟨oc7, od7, .func (PySem.W.fnOf "read" "read" (defArgs s_read) (defBody s_read) (defScope s_read) .none kV7 dc7 pm7 an7 cd7 ct7), sl7⟩) (c7 : PySem.W.codeIn K cd7 "read" = true) (k7 : PySem.W.keepIn K (.ref f7) = true)
    {f8 : Addr} {od8 an8 : Option Addr} {sl8 : Array (Option Value)} {oc8 kV8 dc8 pm8 cd8 ct8 : Value}
    (a8 : PySem.W.nsIn K mainGlobals "can_stand" = some (some (.ref f8)))
    (l8 : K.lookup f8 = some ⟨oc8, od8, .func (PySem.W.fnOf "can_stand" "can_stand" (defArgs s_can_stand) (defBody s_can_stand) (defScope s_can_stand) .none kV8 dc8 pm8 an8 cd8 ct8), sl8⟩) (c8 : PySem.W.codeIn K cd8 "can_stand" = true) (k8 : PySem.W.keepIn K (.ref f8) = true)
    {f9 : Addr} {od9 an9 : Option Addr} {sl9 : Array (Option Value)} {oc9 kV9 dc9 pm9 cd9 ct9 : Value}
    (a9 : PySem.W.nsIn K mainGlobals "is_written_number" = some (some (.ref f9)))
    (l9 : K.lookup f9 = some ⟨oc9, od9, .func (PySem.W.fnOf "is_written_number" "is_written_number" (defArgs s_is_written_number) (defBody s_is_written_number) (defScope s_is_written_number) .none kV9 dc9 pm9 an9 cd9 ct9), sl9⟩) (c9 : PySem.W.codeIn K cd9 "is_written_number" = true) (k9 : PySem.W.keepIn K (.ref f9) = true)
    {f10 : Addr} {od10 an10 : Option Addr} {sl10 : Array (Option Value)} {oc10 kV10 dc10 pm10 cd10 ct10 : Value}
    (a10 : PySem.W.nsIn K mainGlobals "_law_taken" = some (some (.ref f10)))
    (l10 : K.lookup f10 = some ⟨oc10, od10, .func (PySem.W.fnOf "_law_taken" "_law_taken" (defArgs s_l_taken) (defBody s_l_taken) (defScope s_l_taken) .none kV10 dc10 pm10 an10 cd10 ct10), sl10⟩) (c10 : PySem.W.codeIn K cd10 "_law_taken" = true) (k10 : PySem.W.keepIn K (.ref f10) = true)
    {f11 : Addr} {od11 an11 : Option Addr} {sl11 : Array (Option Value)} {oc11 kV11 dc11 pm11 cd11 ct11 : Value}
    (a11 : PySem.W.nsIn K mainGlobals "_law_alike" = some (some (.ref f11)))
    (l11 : K.lookup f11 = some ⟨oc11, od11, .func (PySem.W.fnOf "_law_alike" "_law_alike" (defArgs s_l_alike) (defBody s_l_alike) (defScope s_l_alike) .none kV11 dc11 pm11 an11 cd11 ct11), sl11⟩) (c11 : PySem.W.codeIn K cd11 "_law_alike" = true) (k11 : PySem.W.keepIn K (.ref f11) = true)
    {f12 : Addr} {od12 an12 : Option Addr} {sl12 : Array (Option Value)} {oc12 kV12 dc12 pm12 cd12 ct12 : Value}
    (a12 : PySem.W.nsIn K mainGlobals "_law_worth" = some (some (.ref f12)))
    (l12 : K.lookup f12 = some ⟨oc12, od12, .func (PySem.W.fnOf "_law_worth" "_law_worth" (defArgs s_l_worth) (defBody s_l_worth) (defScope s_l_worth) .none kV12 dc12 pm12 an12 cd12 ct12), sl12⟩) (c12 : PySem.W.codeIn K cd12 "_law_worth" = true) (k12 : PySem.W.keepIn K (.ref f12) = true)
    {f13 : Addr} {od13 an13 : Option Addr} {sl13 : Array (Option Value)} {oc13 kV13 dc13 pm13 cd13 ct13 : Value}
    (a13 : PySem.W.nsIn K mainGlobals "_law_sums" = some (some (.ref f13)))
    (l13 : K.lookup f13 = some ⟨oc13, od13, .func (PySem.W.fnOf "_law_sums" "_law_sums" (defArgs s_l_sums) (defBody s_l_sums) (defScope s_l_sums) .none kV13 dc13 pm13 an13 cd13 ct13), sl13⟩) (c13 : PySem.W.codeIn K cd13 "_law_sums" = true) (k13 : PySem.W.keepIn K (.ref f13) = true)
    {f14 : Addr} {od14 an14 : Option Addr} {sl14 : Array (Option Value)} {oc14 kV14 dc14 pm14 cd14 ct14 : Value}
    (a14 : PySem.W.nsIn K mainGlobals "_law_seal" = some (some (.ref f14)))
    (l14 : K.lookup f14 = some ⟨oc14, od14, .func (PySem.W.fnOf "_law_seal" "_law_seal" (defArgs s_l_seal) (defBody s_l_seal) (defScope s_l_seal) .none kV14 dc14 pm14 an14 cd14 ct14), sl14⟩) (c14 : PySem.W.codeIn K cd14 "_law_seal" = true) (k14 : PySem.W.keepIn K (.ref f14) = true)
    {f15 : Addr} {od15 an15 : Option Addr} {sl15 : Array (Option Value)} {oc15 kV15 dc15 pm15 cd15 ct15 : Value}
    (a15 : PySem.W.nsIn K mainGlobals "_law_title" = some (some (.ref f15)))
    (l15 : K.lookup f15 = some ⟨oc15, od15, .func (PySem.W.fnOf "_law_title" "_law_title" (defArgs s_l_title) (defBody s_l_title) (defScope s_l_title) .none kV15 dc15 pm15 an15 cd15 ct15), sl15⟩) (c15 : PySem.W.codeIn K cd15 "_law_title" = true) (k15 : PySem.W.keepIn K (.ref f15) = true)
    {f16 : Addr} {od16 an16 : Option Addr} {sl16 : Array (Option Value)} {oc16 kV16 dc16 pm16 cd16 ct16 : Value}
    (a16 : PySem.W.nsIn K mainGlobals "_law_pieces" = some (some (.ref f16)))
    (l16 : K.lookup f16 = some ⟨oc16, od16, .func (PySem.W.fnOf "_law_pieces" "_law_pieces" (defArgs s_l_pieces) (defBody s_l_pieces) (defScope s_l_pieces) .none kV16 dc16 pm16 an16 cd16 ct16), sl16⟩) (c16 : PySem.W.codeIn K cd16 "_law_pieces" = true) (k16 : PySem.W.keepIn K (.ref f16) = true)
    {f17 : Addr} {od17 an17 : Option Addr} {sl17 : Array (Option Value)} {oc17 kV17 dc17 pm17 cd17 ct17 : Value}
    (a17 : PySem.W.nsIn K mainGlobals "_law_head" = some (some (.ref f17)))
    (l17 : K.lookup f17 = some ⟨oc17, od17, .func (PySem.W.fnOf "_law_head" "_law_head" (defArgs s_l_head) (defBody s_l_head) (defScope s_l_head) .none kV17 dc17 pm17 an17 cd17 ct17), sl17⟩) (c17 : PySem.W.codeIn K cd17 "_law_head" = true) (k17 : PySem.W.keepIn K (.ref f17) = true)
    {f18 : Addr} {od18 an18 : Option Addr} {sl18 : Array (Option Value)} {oc18 kV18 dc18 pm18 cd18 ct18 : Value}
    (a18 : PySem.W.nsIn K mainGlobals "_law_manifest" = some (some (.ref f18)))
    (l18 : K.lookup f18 = some ⟨oc18, od18, .func (PySem.W.fnOf "_law_manifest" "_law_manifest" (defArgs s_l_manifest) (defBody s_l_manifest) (defScope s_l_manifest) .none kV18 dc18 pm18 an18 cd18 ct18), sl18⟩) (c18 : PySem.W.codeIn K cd18 "_law_manifest" = true) (k18 : PySem.W.keepIn K (.ref f18) = true)
    {f19 : Addr} {od19 an19 : Option Addr} {sl19 : Array (Option Value)} {oc19 kV19 dc19 pm19 cd19 ct19 : Value}
    (a19 : PySem.W.nsIn K mainGlobals "_law_keys" = some (some (.ref f19)))
    (l19 : K.lookup f19 = some ⟨oc19, od19, .func (PySem.W.fnOf "_law_keys" "_law_keys" (defArgs s_l_keys) (defBody s_l_keys) (defScope s_l_keys) .none kV19 dc19 pm19 an19 cd19 ct19), sl19⟩) (c19 : PySem.W.codeIn K cd19 "_law_keys" = true) (k19 : PySem.W.keepIn K (.ref f19) = true)
    {f20 : Addr} {od20 an20 : Option Addr} {sl20 : Array (Option Value)} {oc20 kV20 dc20 pm20 cd20 ct20 : Value}
    (a20 : PySem.W.nsIn K mainGlobals "_law_picture" = some (some (.ref f20)))
    (l20 : K.lookup f20 = some ⟨oc20, od20, .func (PySem.W.fnOf "_law_picture" "_law_picture" (defArgs s_l_picture) (defBody s_l_picture) (defScope s_l_picture) .none kV20 dc20 pm20 an20 cd20 ct20), sl20⟩) (c20 : PySem.W.codeIn K cd20 "_law_picture" = true) (k20 : PySem.W.keepIn K (.ref f20) = true)
    {f21 : Addr} {od21 an21 : Option Addr} {sl21 : Array (Option Value)} {oc21 kV21 dc21 pm21 cd21 ct21 : Value}
    (a21 : PySem.W.nsIn K mainGlobals "_law_text" = some (some (.ref f21)))
    (l21 : K.lookup f21 = some ⟨oc21, od21, .func (PySem.W.fnOf "_law_text" "_law_text" (defArgs s_l_text) (defBody s_l_text) (defScope s_l_text) .none kV21 dc21 pm21 an21 cd21 ct21), sl21⟩) (c21 : PySem.W.codeIn K cd21 "_law_text" = true) (k21 : PySem.W.keepIn K (.ref f21) = true)
    {f22 : Addr} {od22 an22 : Option Addr} {sl22 : Array (Option Value)} {oc22 kV22 dc22 pm22 cd22 ct22 : Value}
    (a22 : PySem.W.nsIn K mainGlobals "law" = some (some (.ref f22)))
    (l22 : K.lookup f22 = some ⟨oc22, od22, .func (PySem.W.fnOf "law" "law" (defArgs s_law) (defBody s_law) (defScope s_law) .none kV22 dc22 pm22 an22 cd22 ct22), sl22⟩) (c22 : PySem.W.codeIn K cd22 "law" = true) (k22 : PySem.W.keepIn K (.ref f22) = true)
    (z_all : PySem.W.nsIn K mainGlobals "all" = some none)
    (z_bool : PySem.W.nsIn K mainGlobals "bool" = some none)
    (z_enumerate : PySem.W.nsIn K mainGlobals "enumerate" = some none)
    (z_int : PySem.W.nsIn K mainGlobals "int" = some none)
    (z_isinstance : PySem.W.nsIn K mainGlobals "isinstance" = some none)
    (z_len : PySem.W.nsIn K mainGlobals "len" = some none)
    (z_list : PySem.W.nsIn K mainGlobals "list" = some none)
    (z_min : PySem.W.nsIn K mainGlobals "min" = some none)
    (z_range : PySem.W.nsIn K mainGlobals "range" = some none)
    (z_reversed : PySem.W.nsIn K mainGlobals "reversed" = some none)
    (z_str : PySem.W.nsIn K mainGlobals "str" = some none)
    (z_sum : PySem.W.nsIn K mainGlobals "sum" = some none)
    (z_tuple : PySem.W.nsIn K mainGlobals "tuple" = some none)
    {t_FIRST_WORD : Tok} (y_FIRST_WORD : PySem.W.nsIn K mainGlobals "FIRST_WORD" = some (some (.str "picture" t_FIRST_WORD)))
    {t_GREATEST_VERSION : Tok} (y_GREATEST_VERSION : PySem.W.nsIn K mainGlobals "GREATEST_VERSION" = some (some (.int 999 t_GREATEST_VERSION)))
    {t_GREATEST_WORTH : Tok} (y_GREATEST_WORTH : PySem.W.nsIn K mainGlobals "GREATEST_WORTH" = some (some (.int 9972 t_GREATEST_WORTH)))
    {t_MOST_FIGURES : Tok} (y_MOST_FIGURES : PySem.W.nsIn K mainGlobals "MOST_FIGURES" = some (some (.int 4 t_MOST_FIGURES)))
    {t_MOST_KEYS : Tok} (y_MOST_KEYS : PySem.W.nsIn K mainGlobals "MOST_KEYS" = some (some (.int 4 t_MOST_KEYS)))
    {t_MOST_LENGTH : Tok} (y_MOST_LENGTH : PySem.W.nsIn K mainGlobals "MOST_LENGTH" = some (some (.int 12 t_MOST_LENGTH)))
    {t_NAME_PARTS : Tok} (y_NAME_PARTS : PySem.W.nsIn K mainGlobals "NAME_PARTS" = some (some (.int 3 t_NAME_PARTS)))
    {t_NUMBERS : Tok} (y_NUMBERS : PySem.W.nsIn K mainGlobals "NUMBERS" = some (some (.int 6 t_NUMBERS)))
    {t_PIECE_CELLS : Tok} (y_PIECE_CELLS : PySem.W.nsIn K mainGlobals "PIECE_CELLS" = some (some (.int 3 t_PIECE_CELLS)))
    {t_RESTS_BY : Tok} (y_RESTS_BY : PySem.W.nsIn K mainGlobals "RESTS_BY" = some (some (.int 9973 t_RESTS_BY)))
    : ∃ fd : FuncData, (∀ (s : Shared) (v : Value), BindsTo s fd ⟨[v], []⟩ [("_law_script", v)]) ∧ ∀ base : Heap, K.In base → base.Ns mainGlobals mg → FnOk l.prog w K mg base CX0 6 fa fd ["_law_script"] (spLaw K) := by
  have e := hfa.symm.trans (PySem.W.mg_of X G a22)
  cases e
  have F1 := fun_mk (st := s_is_number) l1 c1 k1
  have b1 := F1.binds (ps := P_is_number) fun _ _ _ _ _ _ us hl => match us, hl with | [_, _, _], _ => rfl
  have F2 := fun_mk (st := s_is_row) l2 c2 k2
  have b2 := F2.binds (ps := P_is_row) fun _ _ _ _ _ _ us hl => match us, hl with | [_, _, _], _ => rfl
  have F3 := fun_mk (st := s_joined) l3 c3 k3
  have b3 := F3.binds (ps := P_joined) fun _ _ _ _ _ _ us hl => match us, hl with | [_], _ => rfl
  have F4 := fun_mk (st := s_check_manifest) l4 c4 k4
  have b4 := F4.binds (ps := P_check_manifest) fun _ _ _ _ _ _ us hl => match us, hl with | [_], _ => rfl
  have F5 := fun_mk (st := s_are_names) l5 c5 k5
  have b5 := F5.binds (ps := P_are_names) fun _ _ _ _ _ _ us hl => match us, hl with | [_, _], _ => rfl
  have F6 := fun_mk (st := s_written) l6 c6 k6
  have b6 := F6.binds (ps := P_written) fun _ _ _ _ _ _ us hl => match us, hl with | [_], _ => rfl
  have F7 := fun_mk (st := s_read) l7 c7 k7
  have b7 := F7.binds (ps := P_read) fun _ _ _ _ _ _ us hl => match us, hl with | [_], _ => rfl
  have F8 := fun_mk (st := s_can_stand) l8 c8 k8
  have b8 := F8.binds (ps := P_can_stand) fun _ _ _ _ _ _ us hl => match us, hl with | [_, _], _ => rfl
  have F9 := fun_mk (st := s_is_written_number) l9 c9 k9
  have b9 := F9.binds (ps := P_is_written_number) fun _ _ _ _ _ _ us hl => match us, hl with | [_], _ => rfl
  have F10 := fun_mk (st := s_l_taken) l10 c10 k10
  have b10 := F10.binds (ps := P_l_taken) fun _ _ _ _ _ _ us hl => match us, hl with | [_, _], _ => rfl
  have F11 := fun_mk (st := s_l_alike) l11 c11 k11
  have b11 := F11.binds (ps := P_l_alike) fun _ _ _ _ _ _ us hl => match us, hl with | [_, _], _ => rfl
  have F12 := fun_mk (st := s_l_worth) l12 c12 k12
  have b12 := F12.binds (ps := P_l_worth) fun _ _ _ _ _ _ us hl => match us, hl with | [_], _ => rfl
  have F13 := fun_mk (st := s_l_sums) l13 c13 k13
  have b13 := F13.binds (ps := P_l_sums) fun _ _ _ _ _ _ us hl => match us, hl with | [_], _ => rfl
  have F14 := fun_mk (st := s_l_seal) l14 c14 k14
  have b14 := F14.binds (ps := P_l_seal) fun _ _ _ _ _ _ us hl => match us, hl with | [_, _], _ => rfl
  have F15 := fun_mk (st := s_l_title) l15 c15 k15
  have b15 := F15.binds (ps := P_l_title) fun _ _ _ _ _ _ us hl => match us, hl with | [_], _ => rfl
  have F16 := fun_mk (st := s_l_pieces) l16 c16 k16
  have b16 := F16.binds (ps := P_l_pieces) fun _ _ _ _ _ _ us hl => match us, hl with | [_], _ => rfl
  have F17 := fun_mk (st := s_l_head) l17 c17 k17
  have b17 := F17.binds (ps := P_l_head) fun _ _ _ _ _ _ us hl => match us, hl with | [_, _], _ => rfl
  have F18 := fun_mk (st := s_l_manifest) l18 c18 k18
  have b18 := F18.binds (ps := P_l_manifest) fun _ _ _ _ _ _ us hl => match us, hl with | [_, _], _ => rfl
  have F19 := fun_mk (st := s_l_keys) l19 c19 k19
  have b19 := F19.binds (ps := P_l_keys) fun _ _ _ _ _ _ us hl => match us, hl with | [_], _ => rfl
  have F20 := fun_mk (st := s_l_picture) l20 c20 k20
  have b20 := F20.binds (ps := P_l_picture) fun _ _ _ _ _ _ us hl => match us, hl with | [_, _, _], _ => rfl
  have F21 := fun_mk (st := s_l_text) l21 c21 k21
  have b21 := F21.binds (ps := P_l_text) fun _ _ _ _ _ _ us hl => match us, hl with | [_], _ => rfl
  have F22 := fun_mk (st := s_law) l22 c22 k22
  have b22 := F22.binds (ps := P_law) fun _ _ _ _ _ _ us hl => match us, hl with | [_], _ => rfl
  have T : Top K mg ⟨f1, _, f2, _, f3, _, f4, _, f5, _, f6, _, f7, _, f8, _, f9, _, f10, _, f11, _, f12, _, f13, _, f14, _, f15, _, f16, _, f17, _, f18, _, f19, _, f20, _, f21, _, _, _, t_FIRST_WORD, t_GREATEST_VERSION, t_GREATEST_WORTH, t_MOST_FIGURES, t_MOST_KEYS, t_MOST_LENGTH, t_NAME_PARTS, t_NUMBERS, t_PIECE_CELLS, t_RESTS_BY⟩ := ⟨F1, b1, PySem.W.mg_of X G a1, F2, b2, PySem.W.mg_of X G a2, F3, b3, PySem.W.mg_of X G a3, F4, b4, PySem.W.mg_of X G a4, F5, b5, PySem.W.mg_of X G a5, F6, b6, PySem.W.mg_of X G a6, F7, b7, PySem.W.mg_of X G a7, F8, b8, PySem.W.mg_of X G a8, F9, b9, PySem.W.mg_of X G a9, F10, b10, PySem.W.mg_of X G a10, F11, b11, PySem.W.mg_of X G a11, F12, b12, PySem.W.mg_of X G a12, F13, b13, PySem.W.mg_of X G a13, F14, b14, PySem.W.mg_of X G a14, F15, b15, PySem.W.mg_of X G a15, F16, b16, PySem.W.mg_of X G a16, F17, b17, PySem.W.mg_of X G a17, F18, b18, PySem.W.mg_of X G a18, F19, b19, PySem.W.mg_of X G a19, F20, b20, PySem.W.mg_of X G a20, F21, b21, PySem.W.mg_of X G a21, F22, b22, PySem.W.mg_of X G a22, PySem.W.mg_none_of X G z_all, PySem.W.mg_none_of X G z_bool, PySem.W.mg_none_of X G z_enumerate, PySem.W.mg_none_of X G z_int, PySem.W.mg_none_of X G z_isinstance, PySem.W.mg_none_of X G z_len, PySem.W.mg_none_of X G z_list, PySem.W.mg_none_of X G z_min, PySem.W.mg_none_of X G z_range, PySem.W.mg_none_of X G z_reversed, PySem.W.mg_none_of X G z_str, PySem.W.mg_none_of X G z_sum, PySem.W.mg_none_of X G z_tuple, PySem.W.mg_of X G y_FIRST_WORD, PySem.W.mg_of X G y_GREATEST_VERSION, PySem.W.mg_of X G y_GREATEST_WORTH, PySem.W.mg_of X G y_MOST_FIGURES, PySem.W.mg_of X G y_MOST_KEYS, PySem.W.mg_of X G y_MOST_LENGTH, PySem.W.mg_of X G y_NAME_PARTS, PySem.W.mg_of X G y_NUMBERS, PySem.W.mg_of X G y_PIECE_CELLS, PySem.W.mg_of X G y_RESTS_BY⟩
  exact ⟨PySem.W.fnOf "law" "law" (defArgs s_law) (defBody s_law) (defScope s_law) .none kV22 dc22 pm22 an22 cd22 ct22, fun s v => .of_eq rfl, fun base _ _ => G_law T⟩
end K30
open PySem PySem.W PyProof.Rows
set_option maxRecDepth 100000 in
set_option maxHeartbeats 0 in
theorem PySem.Challenge.cw_twoimages_k30_written_and_read_holds : PySem.Challenge.rw_twoimages_k30_written_and_read.Holds := by
  w_on; o_law; k_head; (case hw => w_witness2)
  k_fill
  refine L2.walk_of (l := PySem.Challenge.rw_twoimages_k30_written_and_read) (n := 63) (k := 6) (x := "_law_script") (CX := fun _ => L2.CX0) (sp := fun w => K30.spLaw _) rfl (by decide) rfl ⟨rfl, by decide, by decide⟩ (fun w h Y => PySem.W.kIn_of Y) ?F (fun _ _ a ns hl _ hS => ⟨a, ns, rfl, hS, hl, fun _ => rfl⟩) (fun _ _ _ _ _ h => h)
  case F =>
    intro w mg fa h KX G hmg
    refine' K30.all_mk KX G hmg ?a1 ?l1 ?c1 ?k1 ?a2 ?l2 ?c2 ?k2 ?a3 ?l3 ?c3 ?k3 ?a4 ?l4 ?c4 ?k4 ?a5 ?l5 ?c5 ?k5 ?a6 ?l6 ?c6 ?k6 ?a7 ?l7 ?c7 ?k7 ?a8 ?l8 ?c8 ?k8 ?a9 ?l9 ?c9 ?k9 ?a10 ?l10 ?c10 ?k10 ?a11 ?l11 ?c11 ?k11 ?a12 ?l12 ?c12 ?k12 ?a13 ?l13 ?c13 ?k13 ?a14 ?l14 ?c14 ?k14 ?a15 ?l15 ?c15 ?k15 ?a16 ?l16 ?c16 ?k16 ?a17 ?l17 ?c17 ?k17 ?a18 ?l18 ?c18 ?k18 ?a19 ?l19 ?c19 ?k19 ?a20 ?l20 ?c20 ?k20 ?a21 ?l21 ?c21 ?k21 ?a22 ?l22 ?c22 ?k22 ?z_all ?z_bool ?z_enumerate ?z_int ?z_isinstance ?z_len ?z_list ?z_min ?z_range ?z_reversed ?z_str ?z_sum ?z_tuple ?y_FIRST_WORD ?y_GREATEST_VERSION ?y_GREATEST_WORTH ?y_MOST_FIGURES ?y_MOST_KEYS ?y_MOST_LENGTH ?y_NAME_PARTS ?y_NUMBERS ?y_PIECE_CELLS ?y_RESTS_BY
    (case a1 => k_is); (case l1 => k_is); (case c1 => k_is); (case k1 => k_is); (case a2 => k_is); (case l2 => k_is); (case c2 => k_is); (case k2 => k_is); (case a3 => k_is); (case l3 => k_is); (case c3 => k_is); (case k3 => k_is); (case a4 => k_is); (case l4 => k_is); (case c4 => k_is); (case k4 => k_is); (case a5 => k_is); (case l5 => k_is); (case c5 => k_is); (case k5 => k_is); (case a6 => k_is); (case l6 => k_is); (case c6 => k_is); (case k6 => k_is); (case a7 => k_is); (case l7 => k_is); (case c7 => k_is); (case k7 => k_is); (case a8 => k_is); (case l8 => k_is); (case c8 => k_is); (case k8 => k_is); (case a9 => k_is); (case l9 => k_is); (case c9 => k_is); (case k9 => k_is); (case a10 => k_is); (case l10 => k_is); (case c10 => k_is); (case k10 => k_is); (case a11 => k_is); (case l11 => k_is); (case c11 => k_is); (case k11 => k_is); (case a12 => k_is); (case l12 => k_is); (case c12 => k_is); (case k12 => k_is); (case a13 => k_is); (case l13 => k_is); (case c13 => k_is); (case k13 => k_is); (case a14 => k_is); (case l14 => k_is); (case c14 => k_is); (case k14 => k_is); (case a15 => k_is); (case l15 => k_is); (case c15 => k_is); (case k15 => k_is); (case a16 => k_is); (case l16 => k_is); (case c16 => k_is); (case k16 => k_is); (case a17 => k_is); (case l17 => k_is); (case c17 => k_is); (case k17 => k_is); (case a18 => k_is); (case l18 => k_is); (case c18 => k_is); (case k18 => k_is); (case a19 => k_is); (case l19 => k_is); (case c19 => k_is); (case k19 => k_is); (case a20 => k_is); (case l20 => k_is); (case c20 => k_is); (case k20 => k_is); (case a21 => k_is); (case l21 => k_is); (case c21 => k_is); (case k21 => k_is); (case a22 => k_is); (case l22 => k_is); (case c22 => k_is); (case k22 => k_is); (case z_all => k_is); (case z_bool => k_is); (case z_enumerate => k_is); (case z_int => k_is); (case z_isinstance => k_is); (case z_len => k_is); (case z_list => k_is); (case z_min => k_is); (case z_range => k_is); (case z_reversed => k_is); (case z_str => k_is); (case z_sum => k_is); (case z_tuple => k_is); (case y_FIRST_WORD => k_is); (case y_GREATEST_VERSION => k_is); (case y_GREATEST_WORTH => k_is); (case y_MOST_FIGURES => k_is); (case y_MOST_KEYS => k_is); (case y_MOST_LENGTH => k_is); (case y_NAME_PARTS => k_is); (case y_NUMBERS => k_is); (case y_PIECE_CELLS => k_is); (case y_RESTS_BY => k_is)

