import PyProof.Rows.All
import Wide.All
import OpenK.AllK
import Wide.FinOn
import HandS.ForMost
import HandS.Codes
import HandS.IsInst
import KE.GoesEnumKw
import HandS.ForExc
import HandS.SortKw
import HandS.Flow
import HandS.Deep
import PyProof.P3In
import KE.DataMinMax
import HandS.Star
import PySem.Challenge.RW_twoimages_k08_whole_the_elder_or_the_new
set_option Elab.async false
set_option linter.all false
set_option autoImplicit false
set_option maxRecDepth 100000
/-! the mathematics of sums and seals: plain lists of ints -/
namespace Sm
def step (p : Int × Int) (x : Int) : Int × Int := ((p.1 + x + 1) % 9973, (p.2 + (p.1 + x + 1) % 9973) % 9973)
def sumsI (xs : List Int) : Int × Int := xs.foldl step (0, 0)
def sl (k t x : Int) : Int := (t * k + x + 1) % 9973
def sealI (k : Int) (xs : List Int) : Int := xs.foldl (sl k) k
/-- the weights -/
def w1 : List Int → Int
  | [] => 0
  | x :: r => (x + 1) + w1 r
def w2 : List Int → Int
  | [] => 0
  | x :: r => ((r.length : Int) + 1) * (x + 1) + w2 r
theorem fold_w : ∀ (xs : List Int) (a b : Int), xs.foldl step (a % 9973, b % 9973) = ((a + w1 xs) % 9973, (b + (xs.length : Int) * a + w2 xs) % 9973)
  | [], a, b => by simp [w1, w2]
  | x :: r, a, b => by
    have e : step (a % 9973, b % 9973) x = ((a + (x + 1)) % 9973, (b + (a + (x + 1))) % 9973) := by
      unfold step
      simp only
      refine Prod.ext ?_ ?_
      · show (a % 9973 + x + 1) % 9973 = (a + (x + 1)) % 9973
        omega
      · show (b % 9973 + (a % 9973 + x + 1) % 9973) % 9973 = (b + (a + (x + 1))) % 9973
        omega
    rw [List.foldl_cons, e, fold_w r]
    refine Prod.ext ?_ ?_
    · show (a + (x + 1) + w1 r) % 9973 = (a + ((x + 1) + w1 r)) % 9973
      congr 1
      omega
    · show (b + (a + (x + 1)) + (r.length : Int) * (a + (x + 1)) + w2 r) % 9973 = (b + ((x :: r).length : Int) * a + (((r.length : Int) + 1) * (x + 1) + w2 r)) % 9973
      congr 1
      rw [List.length_cons]
      have e1 : ((r.length + 1 : Nat) : Int) * a = (r.length : Int) * a + a := by
        rw [Int.natCast_add, Int.add_mul]
        simp
      have e2 : ((r.length : Int) + 1) * (x + 1) = (r.length : Int) * (x + 1) + (x + 1) := by
        rw [Int.add_mul, Int.one_mul]
      have e3 : (r.length : Int) * (a + (x + 1)) = (r.length : Int) * a + (r.length : Int) * (x + 1) := Int.mul_add _ _ _
      rw [e1, e2, e3]
      omega
theorem sums_w (xs : List Int) : sumsI xs = (w1 xs % 9973, w2 xs % 9973) := by
  have h := fold_w xs 0 0
  unfold sumsI
  rw [show ((0 : Int), (0 : Int)) = (0 % 9973, 0 % 9973) from rfl, h]
  refine Prod.ext ?_ ?_
  · show (0 + w1 xs) % 9973 = _
    rw [Int.zero_add]
  · show (0 + (xs.length : Int) * 0 + w2 xs) % 9973 = _
    rw [Int.mul_zero, Int.add_zero, Int.zero_add]
/-- a number put at a place: what the weights become -/
theorem w1_set : ∀ (xs : List Int) (i : Nat) (x y : Int), xs[i]? = some x → w1 (xs.set i y) = w1 xs + (y - x)
  | [], i, x, y, h => by simp at h
  | a :: r, 0, x, y, h => by
    have e : a = x := by simpa using h
    subst e
    show (y + 1) + w1 r = (a + 1) + w1 r + (y - a)
    omega
  | a :: r, i + 1, x, y, h => by
    have ih := w1_set r i x y (by simpa using h)
    show (a + 1) + w1 (r.set i y) = (a + 1) + w1 r + (y - x)
    omega
theorem w2_set : ∀ (xs : List Int) (i : Nat) (x y : Int), xs[i]? = some x → w2 (xs.set i y) = w2 xs + ((xs.length : Int) - i) * (y - x)
  | [], i, x, y, h => by simp at h
  | a :: r, 0, x, y, h => by
    have e : a = x := by simpa using h
    subst e
    show ((r.length : Int) + 1) * (y + 1) + w2 r = ((r.length : Int) + 1) * (a + 1) + w2 r + ((((a :: r).length : Nat) : Int) - ((0 : Nat) : Int)) * (y - a)
    rw [List.length_cons, show (((r.length + 1 : Nat)) : Int) - ((0 : Nat) : Int) = (r.length : Int) + 1 by omega]
    rw [Int.mul_sub, Int.mul_add, Int.mul_add]
    omega
  | a :: r, i + 1, x, y, h => by
    have ih := w2_set r i x y (by simpa using h)
    show (((r.set i y).length : Int) + 1) * (a + 1) + w2 (r.set i y) = ((r.length : Int) + 1) * (a + 1) + w2 r + ((((a :: r).length : Nat) : Int) - ((i + 1 : Nat) : Int)) * (y - x)
    rw [List.length_set, List.length_cons, show (((r.length + 1 : Nat)) : Int) - ((i + 1 : Nat) : Int) = (r.length : Int) - i by omega, ih]
    omega
/-! the prime -/
def chk : Nat → Bool
  | 0 => true
  | k + 1 => (Nat.gcd (k + 1) 9973 == 1) && chk k
theorem chk_ok : chk 9972 = true := by decide +kernel
theorem chk_at : ∀ n k : Nat, chk n = true → 0 < k → k ≤ n → Nat.gcd k 9973 = 1
  | 0, k, _, h0, h1 => by omega
  | n + 1, k, h, h0, h1 => by
    unfold chk at h
    rw [Bool.and_eq_true] at h
    by_cases e : k = n + 1
    · subst e
      exact eq_of_beq h.1
    · exact chk_at n k h.2 h0 (by omega)
theorem cop_small (k : Nat) (h : k < 9973) : k = 0 ∨ Nat.gcd k 9973 = 1 := by
  by_cases e : k = 0
  · exact .inl e
  · exact .inr (chk_at 9972 k chk_ok (by omega) (by omega))
theorem dvd_small {k : Nat} (h0 : 0 < k) (h1 : k < 9973) {m : Nat} (h : 9973 ∣ k * m) : 9973 ∣ m := by
  have g : Nat.gcd 9973 k = 1 := by
    rw [Nat.gcd_comm]
    rcases cop_small k h1 with e | e
    · omega
    · exact e
  exact Nat.Coprime.dvd_of_dvd_mul_left (n := m) (m := k) (k := 9973) g h
/-- a product of a small factor that isn't nought and a small difference is no multiple -/
theorem no_mult {c d : Int} (hc0 : c ≠ 0) (hc1 : -9973 < c) (hc2 : c < 9973) (hd1 : -9973 < d) (hd2 : d < 9973) (h : (c * d) % 9973 = 0) : d = 0 := by
  have h1 : (9973 : Int) ∣ c * d := Int.dvd_of_emod_eq_zero h
  have h2 : 9973 ∣ c.natAbs * d.natAbs := by
    rw [← Int.natAbs_mul]
    exact Int.natAbs_dvd_natAbs.mpr h1
  have h3 : 9973 ∣ d.natAbs := dvd_small (by omega) (by omega) h2
  have h4 : d.natAbs = 0 := Nat.eq_zero_of_dvd_of_lt h3 (by omega)
  omega
/-- one number changed -/
theorem one_ne {xs : List Int} {i : Nat} {x y : Int} (h : xs[i]? = some x) (hne : y ≠ x) (hx : 0 ≤ x ∧ x < 9973) (hy : 0 ≤ y ∧ y < 9973) : sumsI (xs.set i y) ≠ sumsI xs := by
  intro e
  rw [sums_w, sums_w] at e
  have e1 : w1 (xs.set i y) % 9973 = w1 xs % 9973 := congrArg Prod.fst e
  rw [w1_set xs i x y h] at e1
  omega
/-- two numbers changed -/
theorem two_ne {xs : List Int} {i j : Nat} {x y u v : Int} (h : xs[i]? = some x) (hij : i ≠ j) (h' : xs[j]? = some u) (hl : xs.length ≤ 1000) (hne : y ≠ x) (hx : 0 ≤ x ∧ x < 9973) (hy : 0 ≤ y ∧ y < 9973) (hu : 0 ≤ u ∧ u < 9973) (hv : 0 ≤ v ∧ v < 9973) :
    sumsI ((xs.set i y).set j v) ≠ sumsI xs := by
  intro e
  have hi : i < xs.length := (List.getElem?_eq_some_iff.mp h).1
  have hj : j < xs.length := (List.getElem?_eq_some_iff.mp h').1
  have h2 : (xs.set i y)[j]? = some u := by
    rw [List.getElem?_set_ne hij]
    exact h'
  rw [sums_w, sums_w] at e
  have e1 : w1 ((xs.set i y).set j v) % 9973 = w1 xs % 9973 := congrArg Prod.fst e
  have e2 : w2 ((xs.set i y).set j v) % 9973 = w2 xs % 9973 := congrArg Prod.snd e
  rw [w1_set _ j u v h2, w1_set xs i x y h] at e1
  rw [w2_set _ j u v h2, w2_set xs i x y h, List.length_set] at e2
  -- the differences
  have hd : ∃ q : Int, (v - u) = 9973 * q - (y - x) := ⟨((y - x) + (v - u)) / 9973, by omega⟩
  obtain ⟨q, hq⟩ := hd
  rw [hq] at e2
  have e3 : ((xs.length : Int) - i) * (y - x) + ((xs.length : Int) - j) * (9973 * q - (y - x)) = ((j : Int) - i) * (y - x) + 9973 * (((xs.length : Int) - j) * q) := by
    have a1 : ((xs.length : Int) - j) * (9973 * q - (y - x)) = 9973 * (((xs.length : Int) - j) * q) - ((xs.length : Int) - j) * (y - x) := by
      rw [Int.mul_sub, Int.mul_left_comm]
    have a2 : ((xs.length : Int) - i) * (y - x) = ((xs.length : Int) - j) * (y - x) + ((j : Int) - i) * (y - x) := by
      rw [← Int.add_mul]
      congr 1
      omega
    rw [a1, a2]
    omega
  have e4 : (((j : Int) - i) * (y - x)) % 9973 = 0 := by
    rw [Int.add_assoc, e3] at e2
    omega
  have := no_mult (c := (j : Int) - i) (d := y - x) (by omega) (by omega) (by omega) (by omega) (by omega) e4
  omega
/-! the seal -/
theorem sl_range (k t x : Int) : 0 ≤ sl k t x ∧ sl k t x < 9973 := by
  unfold sl
  omega
theorem seal_range : ∀ (k : Int) (xs : List Int) (t : Int), (0 ≤ t ∧ t < 9973) → 0 ≤ xs.foldl (sl k) t ∧ xs.foldl (sl k) t < 9973
  | _, [], _, h => h
  | k, x :: r, t, _ => seal_range k r (sl k t x) (sl_range k t x)
theorem sl_inj {k t u x : Int} (hk : 1 ≤ k ∧ k < 9973) (ht : 0 ≤ t ∧ t < 9973) (hu : 0 ≤ u ∧ u < 9973) (h : sl k t x = sl k u x) : t = u := by
  unfold sl at h
  have e : (k * (t - u)) % 9973 = 0 := by
    rw [Int.mul_sub, Int.mul_comm k t, Int.mul_comm k u]
    omega
  have := no_mult (c := k) (d := t - u) (by omega) (by omega) (by omega) (by omega) (by omega) e
  omega
theorem fold_ne {k : Int} (hk : 1 ≤ k ∧ k < 9973) : ∀ (xs : List Int) (t u : Int), (0 ≤ t ∧ t < 9973) → (0 ≤ u ∧ u < 9973) → t ≠ u → xs.foldl (sl k) t ≠ xs.foldl (sl k) u
  | [], _, _, _, _, h => h
  | x :: r, t, u, ht, hu, h => fold_ne hk r _ _ (sl_range k t x) (sl_range k u x) fun e => h (sl_inj hk ht hu e)
theorem fold_set_ne {k : Int} (hk : 1 ≤ k ∧ k < 9973) : ∀ (xs : List Int) (i : Nat) (t x y : Int), (0 ≤ t ∧ t < 9973) → xs[i]? = some x → y ≠ x → (0 ≤ x ∧ x < 9973) → (0 ≤ y ∧ y < 9973) → (xs.set i y).foldl (sl k) t ≠ xs.foldl (sl k) t
  | [], i, t, x, y, _, h, _, _, _ => by simp at h
  | a :: r, 0, t, x, y, ht, h, hne, hx, hy => by
    have e : a = x := by simpa using h
    subst e
    refine fold_ne hk r _ _ (sl_range k t y) (sl_range k t a) fun e => ?_
    unfold sl at e
    omega
  | a :: r, i + 1, t, x, y, ht, h, hne, hx, hy => fold_set_ne hk r i (sl k t a) x y (sl_range k t a) (by simpa using h) hne hx hy
theorem seal_ne {k : Int} (hk : 1 ≤ k ∧ k < 9973) {xs : List Int} {i : Nat} {x y : Int} (h : xs[i]? = some x) (hne : y ≠ x) (hx : 0 ≤ x ∧ x < 9973) (hy : 0 ≤ y ∧ y < 9973) : sealI k (xs.set i y) ≠ sealI k xs :=
  fold_set_ne hk xs i k x y (by omega) h hne hx hy
theorem set_self {xs : List Int} {i : Nat} {x : Int} (h : xs[i]? = some x) : xs.set i x = xs := by
  refine List.ext_getElem? fun j => ?_
  by_cases e : i = j
  · subst e
    rw [List.getElem?_set_self (List.getElem?_eq_some_iff.mp h).1, h]
  · rw [List.getElem?_set_ne e]
/-- two unlike numbers exchanged -/
theorem swap_ne {xs : List Int} {i j : Nat} {x u : Int} (h : xs[i]? = some x) (h' : xs[j]? = some u) (hl : xs.length ≤ 1000) (hx : 0 ≤ x ∧ x < 9973) (hu : 0 ≤ u ∧ u < 9973) (hne : (xs.set i u).set j x ≠ xs) :
    sumsI ((xs.set i u).set j x) ≠ sumsI xs := by
  have hxu : u ≠ x := fun e => hne (by
    subst e
    rw [set_self h, set_self h'])
  have hij : i ≠ j := fun e => by
    subst e
    rw [h] at h'
    exact hxu (Option.some.inj h').symm
  exact two_ne h hij h' hl hxu hx hu hu hx
/-! sums and seals reckoned otherwise -/
theorem drop_at {xs : List Int} {i : Nat} {x : Int} (h : xs[i]? = some x) : xs.drop i = x :: xs.drop (i + 1) := by
  obtain ⟨hi, e⟩ := List.getElem?_eq_some_iff.mp h
  rw [List.drop_eq_getElem_cons hi, e]
theorem w1_drop {xs : List Int} {i : Nat} {x : Int} (h : xs[i]? = some x) : w1 (xs.drop i) = (x + 1) + w1 (xs.drop (i + 1)) := by
  rw [drop_at h]
  rfl
theorem w2_drop {xs : List Int} {i : Nat} {x : Int} (h : xs[i]? = some x) : w2 (xs.drop i) = ((xs.length : Int) - i) * (x + 1) + w2 (xs.drop (i + 1)) := by
  have hi := (List.getElem?_eq_some_iff.mp h).1
  rw [drop_at h]
  show (((xs.drop (i + 1)).length : Int) + 1) * (x + 1) + w2 (xs.drop (i + 1)) = _
  rw [List.length_drop]
  congr 2
  omega
theorem w1_append : ∀ (u c : List Int), w1 (u ++ c) = w1 u + w1 c
  | [], c => by simp [w1]
  | x :: r, c => by
    show (x + 1) + w1 (r ++ c) = (x + 1) + w1 r + w1 c
    rw [w1_append r c]
    omega
theorem w2_append : ∀ (u c : List Int), w2 (u ++ c) = w2 u + (c.length : Int) * w1 u + w2 c
  | [], c => by simp [w1, w2]
  | x :: r, c => by
    show (((r ++ c).length : Int) + 1) * (x + 1) + w2 (r ++ c) = ((r.length : Int) + 1) * (x + 1) + w2 r + (c.length : Int) * ((x + 1) + w1 r) + w2 c
    rw [w2_append r c, List.length_append]
    have e1 : (((r.length + c.length : Nat) : Int) + 1) * (x + 1) = ((r.length : Int) + 1) * (x + 1) + (c.length : Int) * (x + 1) := by
      rw [← Int.add_mul]
      congr 1
      omega
    have e2 : (c.length : Int) * ((x + 1) + w1 r) = (c.length : Int) * (x + 1) + (c.length : Int) * w1 r := Int.mul_add _ _ _
    rw [e1, e2]
    omega
theorem mul_mod (a b c : Int) : (a % 9973 * b + c) % 9973 = (a * b + c) % 9973 := by
  have h := Int.emod_add_mul_ediv a 9973
  have e : a * b + c = (a % 9973 * b + c) + 9973 * (a / 9973 * b) := by
    have : a * b = a % 9973 * b + 9973 * (a / 9973 * b) := by
      rw [← Int.mul_assoc, ← Int.add_mul, h]
    omega
  rw [e, Int.add_mul_emod_self_left]
/-- a step of joined -/
def jst (p : Int × Int) (t : Int × Int × Int) : Int × Int := ((p.1 + t.1) % 9973, (p.2 + p.1 * t.2.2 + t.2.1) % 9973)
theorem jst_sums (u c : List Int) : jst (sumsI u) ((sumsI c).1, (sumsI c).2, (c.length : Int)) = sumsI (u ++ c) := by
  rw [sums_w, sums_w, sums_w, w1_append, w2_append]
  refine Prod.ext ?_ ?_
  · show (w1 u % 9973 + w1 c % 9973) % 9973 = (w1 u + w1 c) % 9973
    omega
  · show (w2 u % 9973 + w1 u % 9973 * (c.length : Int) + w2 c % 9973) % 9973 = (w2 u + (c.length : Int) * w1 u + w2 c) % 9973
    have h := mul_mod (w1 u) (c.length : Int) (w2 u + w2 c)
    rw [Int.mul_comm (c.length : Int)]
    omega
/-- a seal, from its end on -/
def hz (k : Int) : List Int → Int
  | [] => 0
  | x :: r => (x + 1) * k ^ r.length + hz k r
theorem fold_hz (k : Int) : ∀ (xs : List Int) (t : Int), (0 ≤ t ∧ t < 9973) → xs.foldl (sl k) t = (t * k ^ xs.length + hz k xs) % 9973
  | [], t, h => by
    show t = (t * k ^ 0 + 0) % 9973
    rw [Int.pow_zero, Int.mul_one]
    omega
  | x :: r, t, h => by
    have ih := fold_hz k r (sl k t x) (sl_range k t x)
    rw [List.foldl_cons, ih]
    show ((t * k + x + 1) % 9973 * k ^ r.length + hz k r) % 9973 = (t * k ^ (r.length + 1) + ((x + 1) * k ^ r.length + hz k r)) % 9973
    rw [mul_mod]
    congr 1
    rw [Int.pow_succ, Int.add_assoc (t * k), Int.add_mul, Int.mul_assoc t k, Int.mul_comm k, Int.add_assoc]
theorem seal_hz {k : Int} (hk : 1 ≤ k ∧ k < 9973) (xs : List Int) : (hz k xs + k * k ^ xs.length) % 9973 = sealI k xs := by
  unfold sealI
  rw [fold_hz k xs k (by omega), Int.add_comm]
theorem hz_drop {k : Int} {xs : List Int} {i : Nat} {x : Int} (h : xs[i]? = some x) : hz k (xs.drop i) = hz k (xs.drop (i + 1)) + (x + 1) * k ^ (xs.length - (i + 1)) := by
  rw [drop_at h]
  show (x + 1) * k ^ (xs.drop (i + 1)).length + hz k (xs.drop (i + 1)) = _
  rw [List.length_drop, Int.add_comm]
end Sm

set_option maxRecDepth 100000
/-! the law's row of drawn numbers; heaps -/
namespace Dw
open PySem PySem.Spec PyProof.Rows L2
/-- all but r stays -/
def Keep (r : Addr) (H H' : Hp) : Prop := ∀ b o, b ≠ r → H b = some o → H' b = some o
theorem Keep.refl (r : Addr) (H : Hp) : Keep r H H := fun _ _ _ h => h
theorem Keep.trans {r : Addr} {H H1 H2 : Hp} (a : Keep r H H1) (b : Keep r H1 H2) : Keep r H H2 := fun c o n h => b c o n (a c o n h)
theorem Keep.same {r : Addr} {H H' : Hp} (s : Same H H') : Keep r H H' := fun b o _ h => s b o h
theorem Keep.put {r : Addr} {H : Hp} {o : HO} : Keep r H (upd H r o) := fun b u n h => by
  rw [upd_ne n]
  exact h
theorem Keep.seq {K : PySem.W.Frag} {r c : Addr} {H H' : Hp} {xs : List V} (k : Keep r H H') (n : c ≠ r) (h : SqL K H c xs) : SqL K H' c xs := by
  rcases h with (h | ⟨o, h⟩) | h
  · exact .inl (.inl (k _ _ n h))
  · exact .inl (.inr ⟨o, k _ _ n h⟩)
  · exact .inr h
theorem same_upd {H : Hp} {p : Addr} {o : HO} (h : H p = none) : Same H (upd H p o) := fun b x e => by
  rw [upd_ne (ne_of_none e h)]
  exact e
theorem same_mut {H H' : Hp} {p : Addr} {o : HO} (s : Same H H') (h : H p = none) : Same H (upd H' p o) := fun b x e => by
  rw [upd_ne (ne_of_none e h)]
  exact s _ _ e
theorem sq_of {K : PySem.W.Frag} {H : Hp} {a : Addr} {xs : List V} (h : H a = some (.lst xs)) : SqL K H a xs := .inl (.inl h)
theorem st_of {K : PySem.W.Frag} {H : Hp} {a : Addr} {xs : List V} (h : H a = some (.tup xs)) : SqT K H a xs := .inl (.inl h)
/-- no table of code objects -/
def NT (o : HO) : Prop := ∀ ps, o ≠ .tbl ps
theorem NT.lst {xs : List V} : NT (.lst xs) := fun _ z => by cases z
theorem NT.tup {xs : List V} : NT (.tup xs) := fun _ z => by cases z
theorem NT.ins {C dx : Addr} {fs : List (Str × V)} : NT (.ins C dx fs) := fun _ z => by cases z
theorem NT.dK {kvs : List (Key × V)} : NT (.dK kvs) := fun _ z => by cases z
theorem NT.frz {o : Obj} {u : HO} : NT (.frz o u) := fun _ z => by cases z
/-- all that was tracked is as it was, but for tables -/
def SameN (H H' : Hp) : Prop := ∀ b o, NT o → H b = some o → H' b = some o
/-- nothing but a table stands there -/
def Fr0 (H : Hp) (p : Addr) : Prop := ∀ o, H p = some o → ¬ NT o
theorem Fr0.of {H : Hp} {p : Addr} (h : H p = none) : Fr0 H p := fun o e => by
  rw [h] at e
  cases e
theorem SameN.of {H H' : Hp} (s : Same H H') : SameN H H' := fun b o _ h => s b o h
theorem SameN.trans {H H1 H2 : Hp} (a : SameN H H1) (b : SameN H1 H2) : SameN H H2 := fun c o n h => b c o n (a c o n h)
theorem SameN.seq {K : PySem.W.Frag} {H H' : Hp} {a : Addr} {xs : List V} (e : SameN H H') (h : SqL K H a xs) : SqL K H' a xs := by
  rcases h with (h | ⟨o, h⟩) | h
  · exact .inl (.inl (e _ _ NT.lst h))
  · exact .inl (.inr ⟨o, e _ _ NT.frz h⟩)
  · exact .inr h
theorem SameN.free {H H' : Hp} {p : Addr} (e : SameN H H') (h : H' p = none) : Fr0 H p := fun o ho n => by
  rw [e p o n ho] at h
  cases h
theorem SameN.mut {H H' : Hp} {p : Addr} {o : HO} (s : SameN H H') (h : Fr0 H p) : SameN H (upd H' p o) := fun b u n e => by
  by_cases z : b = p
  · exact absurd n (h u (by rw [← z]; exact e))
  · rw [upd_ne z]
    exact s b u n e
/-- the row that numbers are drawn with stands at r; it was not there in H0, in which the script stands at a -/
structure Dr (K : PySem.W.Frag) (H0 : Hp) (ns : List Int) (a r : Addr) (H : Hp) : Prop where
  row : ∃ p q z : Int, H r = some (.lst [.ref a, .int p, .int q, .int z]) ∧ 0 ≤ p ∧ 0 ≤ q ∧ q < 2147483647
  scr : SqL K H0 a (ns.map V.int)
  same : SameN H0 H
  fresh : Fr0 H0 r
  len : ns.length ≤ 63
section
variable {K : PySem.W.Frag} {H0 : Hp} {ns : List Int} {a r p : Addr} {H H' : Hp} {o : HO}
theorem Dr.start (h : H r = none) (hS : SqL K H a (ns.map V.int)) (hl : ns.length ≤ 63) : Dr K H ns a r (upd H r (.lst [.ref a, .int 0, .int 0, .int 0])) :=
  ⟨⟨0, 0, 0, upd_same, by decide, by decide, by decide⟩, hS, .of (same_upd h), .of h, hl⟩
theorem Dr.seq (D : Dr K H0 ns a r H) : SqL K H a (ns.map V.int) := D.same.seq D.scr
theorem Dr.monoN (D : Dr K H0 ns a r H) (s : SameN H H') : Dr K H0 ns a r H' := by
  obtain ⟨p, q, z, h, b⟩ := D.row
  exact ⟨⟨p, q, z, s _ _ NT.lst h, b⟩, D.scr, D.same.trans s, D.fresh, D.len⟩
theorem Dr.mono (D : Dr K H0 ns a r H) (s : Same H H') : Dr K H0 ns a r H' := D.monoN (.of s)
theorem Dr.new (D : Dr K H0 ns a r H) (h : H p = none) : Dr K H0 ns a r (upd H p o) := D.mono (same_upd h)
theorem Dr.mut (D : Dr K H0 ns a r H) (n : p ≠ r) (h : Fr0 H0 p) : Dr K H0 ns a r (upd H p o) := by
  obtain ⟨i, q, z, e, b⟩ := D.row
  exact ⟨⟨i, q, z, by rw [upd_ne n.symm]; exact e, b⟩, D.scr, D.same.mut h, D.fresh, D.len⟩
theorem Dr.put (D : Dr K H0 ns a r H) {p q z : Int} (h0 : 0 ≤ p) (h1 : 0 ≤ q) (h2 : q < 2147483647) : Dr K H0 ns a r (upd H r (.lst [.ref a, .int p, .int q, .int z])) :=
  ⟨⟨p, q, z, upd_same, h0, h1, h2⟩, D.scr, D.same.mut D.fresh, D.fresh, D.len⟩
/-- what is new in H is not r -/
theorem Dr.ne (D : Dr K H0 ns a r H) (h : H p = none) : p ≠ r := by
  obtain ⟨_, _, _, e, _⟩ := D.row
  exact (ne_of_none e h).symm
theorem Dr.free (D : Dr K H0 ns a r H) (h : H p = none) : Fr0 H0 p := D.same.free h
/-- what may change elsewhere: places that hold nothing in H0, but for tables -/
theorem Dr.but {S : List Addr} (D : Dr K H0 ns a r H) (k : ∀ b o, b ∉ S → NT o → H b = some o → H' b = some o) (hr : r ∉ S) (h : ∀ b ∈ S, Fr0 H0 b) : Dr K H0 ns a r H' := by
  obtain ⟨i, q, z, e, b⟩ := D.row
  refine ⟨⟨i, q, z, k _ _ hr NT.lst e, b⟩, D.scr, fun c u n hu => ?_, D.fresh, D.len⟩
  by_cases m : c ∈ S
  · exact absurd n (h c m u hu)
  · exact k c u m n (D.same c u n hu)
end
/-- the promise of what draws a number below m -/
def spTaken (K : PySem.W.Frag) : Sp := fun vs H Q _ => ∃ (H0 : Hp) (ns : List Int) (a r : Addr) (m : Int), vs = [.ref r, .int m] ∧ Dr K H0 ns a r H ∧ 0 < m ∧ m < 1073741824 ∧
  ∀ (v : Int) (H' : Hp), Dr K H0 ns a r H' → Keep r H H' → 0 ≤ v → v < m → Q (.int v) H'
/-- the promise of what draws a number below a written m -/
def spDraw (m : Int) (K : PySem.W.Frag) : Sp := fun vs H Q _ => ∃ (H0 : Hp) (ns : List Int) (a r : Addr), vs = [.ref r] ∧ Dr K H0 ns a r H ∧
  ∀ (v : Int) (H' : Hp), Dr K H0 ns a r H' → Keep r H H' → 0 ≤ v → v < m → Q (.int v) H'
/-! ### data: numbers, None, lists of them -/
/-- what a cell holds: a number, or None -/
def cel : V → Bool
  | .int _ => true
  | .non => true
  | _ => false
def dat : V → PyData
  | .int i => .int i
  | .bl b => .bool b
  | .str x => .str x
  | _ => .none
theorem Dp.dat {K : PySem.W.Frag} {H : Hp} : ∀ {v : V}, cel v = true → Dp K H v (dat v)
  | .int i, _ => .int i
  | .non, _ => .non
theorem dpAll_dat {K : PySem.W.Frag} {H : Hp} : ∀ {xs : List V}, (∀ v ∈ xs, cel v = true) → DpAll K H xs (xs.map dat)
  | [], _ => .nil
  | x :: r, h => .cons (Dp.dat (h x List.mem_cons_self)) (dpAll_dat fun v m => h v (List.mem_cons_of_mem _ m))
theorem lay_dat : ∀ {v : V}, cel v = true → (dat v).canLay0 = true ∧ (dat v).depth = 0
  | .int i, _ => ⟨by simp only [dat, PyData.canLay0], by simp only [dat, PyData.depth]⟩
  | .non, _ => ⟨by simp only [dat, PyData.canLay0], by simp only [dat, PyData.depth]⟩
theorem layAll_dat : ∀ {xs : List V}, (∀ v ∈ xs, cel v = true) → PyData.canLayAll0 (xs.map dat) = true ∧ PyData.depthAll (xs.map dat) = 0
  | [], _ => ⟨by simp only [List.map_nil, PyData.canLayAll0], by simp only [List.map_nil, PyData.depthAll]⟩
  | x :: r, h => by
    obtain ⟨a, b⟩ := lay_dat (h x List.mem_cons_self)
    obtain ⟨c, d⟩ := layAll_dat (xs := r) fun v m => h v (List.mem_cons_of_mem _ m)
    constructor
    · rw [List.map_cons, PyData.canLayAll0, a, c]
      rfl
    · rw [List.map_cons, PyData.depthAll, b, d]
      rfl
theorem shaped_l {xs : List V} (h : ∀ v ∈ xs, cel v = true) : SeqAt.shaped (.list (xs.map dat)) = true := by
  obtain ⟨a, b⟩ := layAll_dat h
  unfold SeqAt.shaped
  rw [PyData.canLay0, PyData.depth, a, b]
  rfl
theorem shaped_t {xs : List V} (h : ∀ v ∈ xs, cel v = true) : SeqAt.shaped (.tuple (xs.map dat)) = true := by
  obtain ⟨a, b⟩ := layAll_dat h
  unfold SeqAt.shaped
  rw [PyData.canLay0, PyData.depth, a, b]
  rfl
theorem eqv_dat : ∀ {v u : V}, cel v = true → cel u = true → PyData.eqv (dat v) (dat u) = decide (v = u)
  | .int i, .int j, _, _ => by
    simp only [dat, PyData.eqv, V.int.injEq]
    by_cases e : i = j <;> simp [e]
  | .int i, .non, _, _ => by simp [dat, PyData.eqv]
  | .non, .int j, _, _ => by simp [dat, PyData.eqv]
  | .non, .non, _, _ => by simp [dat, PyData.eqv]
theorem eqvAll_dat : ∀ {xs ys : List V}, (∀ v ∈ xs, cel v = true) → (∀ v ∈ ys, cel v = true) → PyData.eqvAll (xs.map dat) (ys.map dat) = decide (xs = ys)
  | [], [], _, _ => by simp [PyData.eqvAll]
  | [], _ :: _, _, _ => by simp [PyData.eqvAll]
  | _ :: _, [], _, _ => by simp [PyData.eqvAll]
  | x :: r, y :: t, hx, hy => by
    rw [List.map_cons, List.map_cons, PyData.eqvAll, eqv_dat (hx x List.mem_cons_self) (hy y List.mem_cons_self), eqvAll_dat (xs := r) (ys := t) (fun v m => hx v (List.mem_cons_of_mem _ m)) (fun v m => hy v (List.mem_cons_of_mem _ m))]
    by_cases e : x = y
    · subst e
      by_cases e2 : r = t <;> simp [e2]
    · simp [e]
theorem eqv_l {xs ys : List V} (hx : ∀ v ∈ xs, cel v = true) (hy : ∀ v ∈ ys, cel v = true) : PyData.eqv (.list (xs.map dat)) (.list (ys.map dat)) = decide (xs = ys) := by
  rw [PyData.eqv]
  exact eqvAll_dat hx hy
theorem eqv_t {xs ys : List V} (hx : ∀ v ∈ xs, cel v = true) (hy : ∀ v ∈ ys, cel v = true) : PyData.eqv (.tuple (xs.map dat)) (.tuple (ys.map dat)) = decide (xs = ys) := by
  rw [PyData.eqv]
  exact eqvAll_dat hx hy
theorem cel_ints {xs : List Int} : ∀ v ∈ xs.map V.int, cel v = true := fun v h => by
  obtain ⟨i, _, rfl⟩ := List.mem_map.mp h
  rfl
theorem map_int_inj : ∀ {xs ys : List Int}, xs.map V.int = ys.map V.int → xs = ys
  | [], [], _ => rfl
  | [], _ :: _, h => by simp at h
  | _ :: _, [], h => by simp at h
  | x :: r, y :: t, h => by
    rw [List.map_cons, List.map_cons] at h
    injection h with h1 h2
    injection h1 with h1
    rw [h1, map_int_inj h2]
theorem dp_l {K : PySem.W.Frag} {H : Hp} {p : Addr} {xs : List V} (h : SqL K H p xs) (hx : ∀ v ∈ xs, cel v = true) : Dp K H (.ref p) (.list (xs.map dat)) := .lst h (dpAll_dat hx)
theorem dp_t {K : PySem.W.Frag} {H : Hp} {p : Addr} {xs : List V} (h : SqT K H p xs) (hx : ∀ v ∈ xs, cel v = true) : Dp K H (.ref p) (.tuple (xs.map dat)) := .tup h (dpAll_dat hx)
/-! ### places -/
theorem ixN_nat {n j : Nat} (h : j < n) : ixN n (j : Int) = some j := by
  unfold ixN
  rw [if_pos (by omega), if_pos (by omega)]
  rfl
theorem at_map {xs : List Int} {j : Nat} {x : Int} (h : xs[j]? = some x) : atI (xs.map V.int) (j : Int) = some (.int x) := atI_nat (by rw [List.getElem?_map, h]; rfl)
theorem map_take_succ {xs : List Int} {i : Nat} {x : Int} (h : xs[i]? = some x) : xs.take (i + 1) = xs.take i ++ [x] := by
  rw [List.take_add_one, h]
  rfl
theorem get_map {xs : List Int} {i : Nat} {y : V} (h : (xs.map V.int)[i]? = some y) : ∃ x, xs[i]? = some x ∧ y = .int x := by
  rw [List.getElem?_map] at h
  cases e : xs[i]? with
  | none =>
    rw [e] at h
    cases h
  | some z =>
    rw [e] at h
    exact ⟨z, rfl, (Option.some.inj h).symm⟩
theorem get_map_ref {xs : List Addr} {i : Nat} {y : V} (h : (xs.map V.ref)[i]? = some y) : ∃ x, xs[i]? = some x ∧ y = .ref x := by
  rw [List.getElem?_map] at h
  cases e : xs[i]? with
  | none =>
    rw [e] at h
    cases h
  | some z =>
    rw [e] at h
    exact ⟨z, rfl, (Option.some.inj h).symm⟩
theorem size_ok {n : Nat} (h : n ≤ 100000) : n ≤ sizeLine := Nat.le_trans h (by decide)
theorem sz_ {n : Nat} (h : Nat.ble n 100000 = true) : n ≤ sizeLine := size_ok (Nat.le_of_ble_eq_true h)
theorem size_lt {n : Nat} (h : n < 100000) : n < sizeLine := Nat.lt_of_lt_of_le h (by decide)
/-! ### rules that name the text's part K, for what stands within a comprehension -/
section
variable {X : Cx} {K : PySem.W.Frag}
theorem op_eqDK (hK : X.K = K) (hu : X.A.units + 64 < cLine) : OpR X (compareOp .Eq) (rEqD K) := hK ▸ op_eqD hu
theorem op_neDK (hK : X.K = K) (hu : X.A.units + 64 < cLine) : OpR X (compareOp .NotEq) (rNeD K) := hK ▸ op_neD hu
theorem ix_listK (hK : X.K = K) : IxR X (rIxL K) := hK ▸ ix_list
theorem ix_tupK (hK : X.K = K) : IxR X (rIxT K) := hK ▸ ix_tup
theorem ix_seqK (hK : X.K = K) : IxR X (rIx K) := hK ▸ ix_seq
theorem pe_fldK {e : Expr} {f : Str} {pos : Pos} {ta : TE} (hK : X.K = K) (he : PE X e ta) (hb : attributeBase e f X.env (eval e X.env) = eval e X.env) : PE X (.Attribute e f pos) (tFld K ta f) := hK ▸ pe_fld he hb
theorem call_len_seqK (hK : X.K = K) : CallR X (.builtin "len") (fun xs H Q => ∃ p ys, xs = [.ref p] ∧ (SqL K H p ys ∨ SqT K H p ys) ∧ Q (.int ys.length) H) := hK ▸ call_len_seq
end
/-! ### data that is tracked, as alike looks at it -/
mutual
inductive Td (H : Hp) : V → PyData → Prop
  | non : Td H .non .none
  | bl (b : Bool) : Td H (.bl b) (.bool b)
  | int (i : Int) : Td H (.int i) (.int i)
  | str (x : Str) : Td H (.str x) (.str x)
  | lst {a : Addr} {xs : List V} {ds : List PyData} : H a = some (.lst xs) → xs.length ≤ 100000 → TdAll H xs ds → Td H (.ref a) (.list ds)
  | tup {a : Addr} {xs : List V} {ds : List PyData} : H a = some (.tup xs) → xs.length ≤ 100000 → TdAll H xs ds → Td H (.ref a) (.tuple ds)
inductive TdAll (H : Hp) : List V → List PyData → Prop
  | nil : TdAll H [] []
  | cons {v : V} {vs : List V} {d : PyData} {ds : List PyData} : Td H v d → TdAll H vs ds → TdAll H (v :: vs) (d :: ds)
end
mutual
theorem Td.mono {H H' : Hp} (s : Same H H') : ∀ {v : V} {d : PyData}, Td H v d → Td H' v d
  | _, _, .non => .non
  | _, _, .bl b => .bl b
  | _, _, .int i => .int i
  | _, _, .str x => .str x
  | _, _, .lst h l t => .lst (s _ _ h) l (TdAll.mono s t)
  | _, _, .tup h l t => .tup (s _ _ h) l (TdAll.mono s t)
theorem TdAll.mono {H H' : Hp} (s : Same H H') : ∀ {vs : List V} {ds : List PyData}, TdAll H vs ds → TdAll H' vs ds
  | _, _, .nil => .nil
  | _, _, .cons a b => .cons (Td.mono s a) (TdAll.mono s b)
end
theorem TdAll.len {H : Hp} : ∀ {vs : List V} {ds : List PyData}, TdAll H vs ds → vs.length = ds.length
  | _, _, .nil => rfl
  | _, _, .cons _ b => by
    rw [List.length_cons, List.length_cons, TdAll.len b]
theorem TdAll.at {H : Hp} : ∀ {vs : List V} {ds : List PyData} {i : Nat} {d : PyData}, TdAll H vs ds → ds[i]? = some d → ∃ v, vs[i]? = some v ∧ Td H v d
  | _, _, _, _, .nil, h => by simp at h
  | _, _, 0, _, .cons a _, h => by
    have e := Option.some.inj h
    subst e
    exact ⟨_, rfl, a⟩
  | _, _, i + 1, _, .cons _ b, h => by
    obtain ⟨v, h1, h2⟩ := TdAll.at (i := i) b (by simpa using h)
    exact ⟨v, by simpa using h1, h2⟩
theorem TdAll.cel {H : Hp} : ∀ {vs : List V}, (∀ v ∈ vs, cel v = true) → TdAll H vs (vs.map dat)
  | [], _ => .nil
  | .int i :: r, h => .cons (.int i) (TdAll.cel fun v m => h v (List.mem_cons_of_mem _ m))
  | .non :: r, h => .cons .non (TdAll.cel fun v m => h v (List.mem_cons_of_mem _ m))
  | .bl b :: r, h => by cases h _ List.mem_cons_self
  | .str b :: r, h => by cases h _ List.mem_cons_self
  | .byt b :: r, h => by cases h _ List.mem_cons_self
  | .flt b :: r, h => by cases h _ List.mem_cons_self
  | .ref b :: r, h => by cases h _ List.mem_cons_self
  | .ty b :: r, h => by cases h _ List.mem_cons_self
theorem depth_at : ∀ {ds : List PyData} {i : Nat} {d : PyData}, ds[i]? = some d → d.depth ≤ PyData.depthAll ds
  | [], _, _, h => by simp at h
  | a :: r, 0, d, h => by
    have e := Option.some.inj h
    subst e
    rw [PyData.depthAll]
    exact Nat.le_max_left _ _
  | a :: r, i + 1, d, h => by
    have := depth_at (ds := r) (i := i) (d := d) (by simpa using h)
    rw [PyData.depthAll]
    exact Nat.le_trans this (Nat.le_max_right _ _)
/-- the promise of alike for two things that are: n is more than their depth -/
def spAlike (n : Nat) : Sp := fun vs H Q _ => ∃ (x y : V) (d : PyData), vs = [x, y] ∧ Td H x d ∧ Td H y d ∧ d.depth < n ∧ ∀ H', Same H H' → Q (.bl true) H'
theorem alike_zero {P : Program} {w : World} {K : PySem.W.Frag} {mg : Str → Option Value} {base : Heap} {f : Addr} {fd : FuncData} {ps : List Str} : FnOk P w K mg base CX0 0 f fd ps (spAlike 0) :=
  ⟨fun _ _ _ _ ⟨_, _, _, _, _, _, h, _⟩ => absurd h (Nat.not_lt_zero _), fun _ _ _ _ _ _ _ _ _ _ _ _ _ ⟨_, _, _, _, _, _, h, _⟩ => absurd h (Nat.not_lt_zero _)⟩
/-! ### isinstance: what it tells of None, bools, ints, texts, lists, tuples -/
theorem ty_nt : kitB "NoneType" "tuple" = some false := by decide +kernel
theorem ty_nl : kitB "NoneType" "list" = some false := by decide +kernel
theorem ty_nb : kitB "NoneType" "bool" = some false := by decide +kernel
theorem ty_ns : kitB "NoneType" "str" = some false := by decide +kernel
theorem ty_ni : kitB "NoneType" "int" = some false := by decide +kernel
theorem ty_bt : kitB "bool" "tuple" = some false := by decide +kernel
theorem ty_bl : kitB "bool" "list" = some false := by decide +kernel
theorem ty_bb : kitB "bool" "bool" = some true := by decide +kernel
theorem ty_it : kitB "int" "tuple" = some false := by decide +kernel
theorem ty_il : kitB "int" "list" = some false := by decide +kernel
theorem ty_ib : kitB "int" "bool" = some false := by decide +kernel
theorem ty_is : kitB "int" "str" = some false := by decide +kernel
theorem ty_ii : kitB "int" "int" = some true := by decide +kernel
theorem ty_st : kitB "str" "tuple" = some false := by decide +kernel
theorem ty_sl : kitB "str" "list" = some false := by decide +kernel
theorem ty_sb : kitB "str" "bool" = some false := by decide +kernel
theorem ty_ss : kitB "str" "str" = some true := by decide +kernel
theorem ty_lt : kitB "list" "tuple" = some false := by decide +kernel
theorem ty_ll : kitB "list" "list" = some true := by decide +kernel
theorem ty_tt : kitB "tuple" "tuple" = some true := by decide +kernel
theorem any_l {K : PySem.W.Frag} : PySem.W.kitAny K (.type "list") [.type "tuple", .type "list"] = some true := by
  simp only [PySem.W.kitAny, kit_ty ty_lt, kit_ty ty_ll]
theorem any_t {K : PySem.W.Frag} : PySem.W.kitAny K (.type "tuple") [.type "tuple", .type "list"] = some true := by
  simp only [PySem.W.kitAny, kit_ty ty_tt]
theorem cel_cases : ∀ {v : V}, cel v = true → (∃ x, v = .int x) ∨ v = .non
  | .int i, _ => .inl ⟨i, rfl⟩
  | .non, _ => .inr rfl
theorem same_tup {K : PySem.W.Frag} {H H' : Hp} {c : Addr} {xs : List V} (s : Same H H') (h : SqT K H c xs) : SqT K H' c xs := by
  rcases h with (h | ⟨o, h⟩) | h
  · exact .inl (.inl (s _ _ h))
  · exact .inl (.inr ⟨o, s _ _ h⟩)
  · exact .inr h
theorem inV_ints : ∀ {xs : List Int}, inV .non (xs.map V.int) = false
  | [] => rfl
  | x :: r => by
    have ih := inV_ints (xs := r)
    unfold inV at ih ⊢
    rw [List.map_cons, List.any_cons, ih]
    rfl
theorem flat_ints : ∀ {xs : List Int}, (xs.map V.int).all flatV = true
  | [] => rfl
  | x :: r => by
    rw [List.map_cons, List.all_cons, flat_ints (xs := r)]
    rfl
theorem cut_take (xs : List V) (k : Nat) : cutV xs none (some (k : Int)) = xs.take k := by
  unfold cutV
  rw [HT.sIx_none, HT.sIx_nat, List.drop_zero, Nat.sub_zero, ← List.take_eq_take_min]
theorem cut_drop (xs : List V) (k : Nat) : cutV xs (some (k : Int)) none = xs.drop k := by
  unfold cutV
  rw [HT.sIx_none, HT.sIx_nat]
  by_cases h : k ≤ xs.length
  · rw [Nat.min_eq_left h, List.take_of_length_le (by rw [List.length_drop]; omega)]
  · rw [Nat.min_eq_right (by omega), List.drop_of_length_le (Nat.le_refl _), List.drop_of_length_le (by omega), List.take_nil]
theorem dep_t {xs : List V} (h : ∀ v ∈ xs, cel v = true) : (PyData.tuple (xs.map dat)).depth < 5 := by
  rw [PyData.depth, (layAll_dat h).2]
  decide
theorem dep_l {xs : List V} (h : ∀ v ∈ xs, cel v = true) : (PyData.list (xs.map dat)).depth < 5 := by
  rw [PyData.depth, (layAll_dat h).2]
  decide
theorem dep_i {i : Int} : (PyData.int i).depth < 5 := by
  rw [PyData.depth]
  decide
theorem Dr.ne_ints {K : PySem.W.Frag} {H0 : Hp} {ns : List Int} {a r b : Addr} {H : Hp} {xs : List Int} (D : Dr K H0 ns a r H) (h : H b = some (.lst (xs.map V.int))) : b ≠ r := by
  obtain ⟨_, _, _, e, _⟩ := D.row
  refine ne_of h e fun z => ?_
  injection z with z
  cases xs with
  | nil => cases z
  | cons x t =>
    rw [List.map_cons] at z
    injection z with z _
    cases z
theorem Dr.ne_tup {K : PySem.W.Frag} {H0 : Hp} {ns : List Int} {a r b : Addr} {H : Hp} {xs : List V} (D : Dr K H0 ns a r H) (h : H b = some (.tup xs)) : b ≠ r := by
  obtain ⟨_, _, _, e, _⟩ := D.row
  exact ne_of h e fun z => by cases z
theorem cut_take' {xs : List V} {j : Int} {k : Nat} (e : j = (k : Int)) : cutV xs none (some j) = xs.take k := by
  rw [e]
  exact cut_take xs k
theorem cut_drop' {xs : List V} {j : Int} {k : Nat} (e : j = (k : Int)) : cutV xs (some j) none = xs.drop k := by
  rw [e]
  exact cut_drop xs k
theorem cut_mem {xs : List V} {lo hi : Option Int} {v : V} (h : v ∈ cutV xs lo hi) : v ∈ xs := by
  unfold cutV at h
  exact List.mem_of_mem_drop (List.mem_of_mem_take h)
end Dw

set_option maxRecDepth 100000
set_option maxHeartbeats 4000000
/-! for at, x in enumerate(xs, start=k): a rule of our own -/
namespace En
open PySem PySem.Spec PyProof.Rows L2
/-- a built-in type called with keywords -/
theorem call_type_kw {M : Model} {A : Around} {E : Value → Shared → Prop} {s : Shared} {pos : Pos} {T : String} {first : List Value} {args : List (Bool × Sem Value)} {kws : List (Option Str × Sem Value)} {Q : Value → Shared → Prop}
    (hp : args.any (·.1) = false) (hk : kws.any (·.1.isNone) = false)
    (h : wpAny M A (evalArgs (.type T) true args kws) (fun a s1 => wpAny M A (call (.type T) (first ++ a.pos) a.kw) Q E s1) E s) : wpAny M A (callWith pos (.type T) first args kws) Q E s := by
  unfold callWith
  refine wpAny_bind (wpAny_holding (wpAny_mono h (fun a s1 h1 => wpAny_bind (wpAny_standAt ?_)) fun _ _ z => z))
  simp only [hp, hk, Bool.or_false]
  refine wpAny_bind (wpAny_pure ?_)
  exact wpAny_bind (wpAny_mono h1 (fun r s2 hr => wpAny_bind (wpAny_holding (wpAny_point (wpAny_pure hr)))) fun _ _ z => z)
/-- its turns: k + i and the i-th item, in a new pair -/
def ItS (K : PySem.W.Frag) (a : Addr) (k : Int) : It where
  go := fun i H => ∃ (xs : List V) (x : V), SqL K H a xs ∧ xs[i]? = some x
  yld := fun i H v H' => ∃ (T : Addr) (x : V), v = .ref T ∧ H T = none ∧ H' = upd H T (.tup [.int (k + (i : Nat)), x]) ∧ ∀ xs, SqL K H a xs → xs[i]? = some x
  stop := fun i H => ∃ xs : List V, SqL K H a xs ∧ xs.length = i
theorem turns {P : Program} {w : World} {K : PySem.W.Frag} {elts : List Expr} {kk : Nat} {tpos : Pos} (k : Int) (a e it : Addr) (hai : a ≠ it) (hae : a ≠ e) :
    Turn P w K (.Tuple elts kk tpos) (ItS K a k) [e, it] e (fun i h => (∃ old, IsEnum h e it (k + (i : Nat)) old) ∧ h.IsListIter it a i ∧ e ≠ it) where
  mem := List.mem_cons_self
  obj := fun i h st b hb => by
    obtain ⟨⟨old, he⟩, ⟨o, ho, hc, hd⟩, _⟩ := st
    rcases List.mem_cons.mp hb with z | z
    · rw [z]
      exact ⟨_, he, fun v q => nomatch q⟩
    · rw [List.mem_singleton.mp z]
      exact ⟨o, ho, fun v q => by rw [hd] at q; cases q⟩
  keep := fun i h h' st kp => by
    obtain ⟨⟨old, he⟩, hi, hne⟩ := st
    exact ⟨⟨old, kp e List.mem_cons_self _ he⟩, hi.at fun o q => kp it (List.mem_cons_of_mem _ List.mem_cons_self) o q, hne⟩
  item := by
    intro X hP hw hK hc i pins s σ H E I hf st hg
    subst hP hw hK
    obtain ⟨⟨old, he⟩, hit, hne⟩ := st
    obtain ⟨xs, x, hq, hx⟩ := hg
    obtain ⟨its, rv, p, hz⟩ := I.list hq
    obtain ⟨u, hu, ru⟩ := rv.get hx
    have hel : e < s.heap.objs.size := Heap.lt_size he
    have hil : it < s.heap.objs.size := by
      obtain ⟨_, q, _⟩ := hit
      exact Heap.lt_size q
    have hlt : i < its.toArray.size := by
      rw [List.size_toArray]
      exact (List.getElem?_eq_some_iff.mp hu).1
    have hea : e ∉ [it, a] := fun m => by
      rcases List.mem_cons.mp m with z | z
      · exact hne z
      · exact hae (List.mem_singleton.mp z).symm
    refine wpAny_pyNext_enum_itemC (Draws.list (show X.A.in1.handled = none from I.ok.hd hc) it a hai its.toArray) he ⟨hit, p.isList⟩ hlt hne hea fun y h' tk hy ho hit' hT hsz hk => ?_
    have ey : y = u := by
      have h1 : its[i]? = some y := by simpa using hy
      exact Option.some.inj (h1.symm.trans hu)
    subst ey
    refine ⟨_, rfl, wpAny_letOwnedTupleGo_enum (s := { s with heap := h', toks := tk + 1 }) ho fun h2 he2 sb => ?_⟩
    have hT2 : h2.get? s.heap.objs.size = some { cls := .type "tuple", data := .seq #[.int (k + (i : Nat)) tk, y] } := (sb.2 _ (Nat.ne_of_gt hel)).trans hT
    have fresh := I.hok.fresh (Nat.le_refl s.heap.objs.size)
    have nw : ObjOk X.prog X.w (upd H s.heap.objs.size (.tup [.int (k + (i : Nat)), x])) h2 s.heap.objs.size (.tup [.int (k + (i : Nat)), x]) :=
      ⟨by show 2 ≤ sizeLine; decide, [.int (k + (i : Nat)) tk, y], .cons ⟨_, rfl⟩ (.cons ru .nil), ⟨_, hT2, rfl, _, rfl⟩⟩
    have J : Inv X pins σ (upd H s.heap.objs.size (.tup [.int (k + (i : Nat)), x])) { s with heap := h2, toks := tk + 1 } := by
      refine I.turnedNew (ch := [e, it]) (fun b ob hb q => ?_) hf (Nat.le_refl _) nw
      have n1 : b ≠ e := fun z => hb (by rw [z]; exact List.mem_cons_self)
      have n2 : b ≠ it := fun z => hb (by rw [z]; exact List.mem_cons_of_mem _ List.mem_cons_self)
      exact (sb.2 b n1).trans (hk b ob n1 n2 q)
    refine ⟨.ref s.heap.objs.size, _, J, rfl, ⟨_, x, rfl, fresh, rfl, fun ys hys => by rw [I.list_inj hys hq]; exact hx⟩, ⟨⟨y, ?_⟩, hit'.1.at fun o q => (sb.2 it (Ne.symm hne)).trans q, hne⟩, fun b hb => ?_⟩
    · have e1 : k + ((i + 1 : Nat) : Int) = k + (i : Nat) + 1 := by omega
      rw [e1]
      exact he2
    · have hb' : b < s.heap.objs.size := by
        rcases List.mem_cons.mp hb with z | z
        · rw [z]
          exact hel
        · rw [List.mem_singleton.mp z]
          exact hil
      rw [upd_ne (Nat.ne_of_lt hb')]
      exact (hf b hb).1
  done := by
    intro X hP hw hK hc i pins s σ H E I hf st hg
    subst hP hw hK
    obtain ⟨⟨old, he⟩, hit, hne⟩ := st
    obtain ⟨xs, hq, hx⟩ := hg
    obtain ⟨its, rv, p, hz⟩ := I.list hq
    obtain ⟨f0, f1, f2, f3, f4, f5⟩ := hf it (List.mem_cons_of_mem _ List.mem_cons_self)
    have hl : i = its.toArray.size := by
      rw [List.size_toArray, ← rv.length]
      exact hx.symm
    refine wpAny_pyNext_enum_endD (Draws.list (show X.A.in1.handled = none from I.ok.hd hc) it a hai its.toArray) he ⟨hl ▸ hit, p.isList⟩ fun h' eb => ⟨rfl, ?_⟩
    exact I.turned (t' := s.toks) (fun b o hb q => eb b o hb q) f0 f1 f3 f4 f5
  self := fun A i s Q E st h => by
    obtain ⟨⟨_, he⟩, _⟩ := st
    exact wpAny_pyIter_enum he h
/-- enumerate(e, start=k) in a for -/
def iEnumS (K : PySem.W.Frag) (te tk : TE) : TI := fun σ H R => te σ H fun x H1 => tk σ H1 fun y H2 => ∃ (a : Addr) (xs : List V) (k : Int), x = .ref a ∧ y = .int k ∧ -(2 ^ 62) ≤ k ∧ k < 2 ^ 62 ∧ SqL K H2 a xs ∧ R (ItS K a k) H2
theorem pi_enumS {X : Cx} {e ek : Expr} {te tk : TE} {p pos kp tpos : Pos} {elts : List Expr} {kk : Nat} (hg : Gl X "enumerate") (hm : X.mg "enumerate" = none) (he : PE X e te) (hk : PE X ek tk)
    (hs : starEach [e] X.env = (false, eval e X.env) :: starEach [] X.env := by rfl) :
    PI X (.Tuple elts kk tpos) (.Call (.Name "enumerate" p) [e] [⟨some (Str.ofString "start"), ek, kp⟩] pos) (iEnumS X.K te tk) := by
  refine ⟨fun pins s σ H R I h => ?_⟩
  refine wpAny_Call_Name_kw (ld_blt I hg hm boot_enumerate ?_)
  refine call_type_kw (by rw [hs]; rfl) (by rfl) ?_
  rw [hs]
  refine evalArgs_kwB (by rfl) ?_
  show wpAny _ _ (spliced ((false, eval e X.env) :: backTo pos (starEach [] X.env))) _ _ s
  refine Calls.spliced_cons (thn (he.run pins s σ H _ I h) fun u s1 ⟨x, H1, I1, r1, q1⟩ => ?_)
  refine Calls.spliced_nil ?_
  refine kws_cons (thn (hk.run pins s1 σ H1 _ I1 q1) fun v s2 ⟨y, H2, I2, r2, q2⟩ => ?_)
  refine kws_nil ?_
  obtain ⟨a, xs, k, ex, ey, k0, k1, hq, q⟩ := q2
  subst ex ey
  cases r1
  obtain ⟨t, rfl⟩ := r2
  obtain ⟨its, rv, p', hz⟩ := I2.list hq
  have hal : a < s2.heap.objs.size := by
    obtain ⟨o, ho, _⟩ := p'.isList
    exact Heap.lt_size ho
  show wpAny _ _ (call (.type "enumerate") [.ref a] [(Str.ofString "start", .int k t)]) _ _ _
  refine enum_begins_start (begins_list a its.toArray) p'.isList (by omega) (by omega) fun h' hen hit hsz hkp => wpAny_pyIter_enum hen ?_
  have I3 : Inv X pins σ H2 { s2 with heap := h' } := I2.kept (t' := s2.toks) hkp
  have e0 : k = k + ((0 : Nat) : Int) := by omega
  refine ⟨s2.heap.objs.size + 1, [s2.heap.objs.size + 1, s2.heap.objs.size], _, _, H2, rfl, I3, turns k a (s2.heap.objs.size + 1) s2.heap.objs.size (Nat.ne_of_lt hal) (Nat.ne_of_lt (Nat.lt_succ_of_lt hal)), ⟨⟨.none, e0 ▸ hen⟩, ⟨_, hit, rfl, rfl⟩, Nat.succ_ne_self _⟩, fun b hb => ?_, q⟩
  have hle : s2.heap.objs.size ≤ b := by
    rcases List.mem_cons.mp hb with z | z
    · rw [z]
      exact Nat.le_add_right _ _
    · rw [List.mem_singleton.mp z]
      exact Nat.le_refl _
  exact I2.fpOk hle (I2.hok.fresh hle)
/-- the reading of such a loop: an invariant over turn, slots, heap; the pair of a turn is at T -/
theorem for_enumS {K : PySem.W.Frag} {a : Addr} {k : Int} {xs : List V} {g : TG} {tb : TS} {D : Ends} {σ : L2.St} {H : Hp} (Pv : Nat → L2.St → Hp → Prop) (h0 : Pv 0 σ H) (hl : ∀ i σ H, i ≤ xs.length → Pv i σ H → SqL K H a xs)
    (hs : ∀ i x σ H T, xs[i]? = some x → Pv i σ H → H T = none → g (.ref T) σ (upd H T (.tup [.int (k + (i : Nat)), x])) fun σ2 H2 => tb { D with nx := Pv (i + 1), ct := Pv (i + 1), bk := D.nx } σ2 H2)
    (hd : ∀ σ H, Pv xs.length σ H → D.nx σ H) :
    ∃ W : Nat → Nat → L2.St → Hp → Prop, (∃ m, W 0 m σ H) ∧ ∀ i m σ H, W i m σ H →
      ((ItS K a k).stop i H ∧ D.nx σ H) ∨ ((ItS K a k).go i H ∧ ∃ N : L2.St → Hp → Prop, (∀ σ' H', N σ' H' → ∃ m', m' < m ∧ W (i + 1) m' σ' H') ∧ ∀ x H', (ItS K a k).yld i H x H' → g x σ H' fun σ2 H2 => tb { D with nx := N, ct := N, bk := D.nx } σ2 H2) := by
  refine ⟨fun i m σ H => i + m = xs.length ∧ Pv i σ H, ⟨xs.length, Nat.zero_add _, h0⟩, fun i m σ H hw => ?_⟩
  obtain ⟨em, pv⟩ := hw
  have q := hl i σ H (by omega) pv
  by_cases hi : i < xs.length
  · refine .inr ⟨⟨xs, xs[i], q, List.getElem?_eq_getElem hi⟩, Pv (i + 1), fun σ' H' p' => ⟨m - 1, by omega, by omega, p'⟩, fun y H' hy => ?_⟩
    obtain ⟨T, x, rfl, nT, rfl, fx⟩ := hy
    exact hs i x σ H T (fx xs q) pv nT
  · have ei : i = xs.length := by omega
    subst ei
    exact .inl ⟨⟨xs, q, rfl⟩, hd σ H pv⟩
/-- d.update(e), e another dict -/
def rUpdate : V → List V → Hp → VK → Prop := fun x vs H Q => ∃ (d o : Addr) (kvs more : List (Key × V)), x = .ref d ∧ vs = [.ref o] ∧ d ≠ o ∧ H d = some (.dK kvs) ∧ H o = some (.dK more) ∧ kvs.length + more.length ≤ sizeLine ∧ Q .non (upd H d (.dK (mergeK kvs more)))
theorem len_putK {kvs : List (Key × V)} {k : Key} {v : V} : (putK kvs k v).length ≤ kvs.length + 1 := length_putK kvs k v
theorem len_mergeK : ∀ (more kvs : List (Key × V)), (mergeK kvs more).length ≤ kvs.length + more.length
  | [], kvs => Nat.le_refl _
  | q :: r, kvs => by
    have h := len_mergeK r (putK kvs q.1 q.2)
    have h2 := len_putK (kvs := kvs) (k := q.1) (v := q.2)
    rw [List.length_cons]
    show (mergeK (putK kvs q.1 q.2) r).length ≤ _
    omega
theorem mt_update {X : Cx} : MtM X "dict.update" rUpdate := by
  intro pins s σ H x vs v us Q I rx rv h
  obtain ⟨d, o, kvs, more, rfl, rfl, hne, hd, ho, hz, q⟩ := h
  cases rx
  obtain ⟨u, rfl, ru⟩ := rv.one
  cases ru
  obtain ⟨z1, hs1, vs1, r1, d1⟩ := dk_of I.hok hd
  obtain ⟨z2, hs2, vs2, r2, d2⟩ := dk_of I.hok ho
  have l1 : kvs.length = vs1.length := Paired.length r1
  have l2 : more.length = vs2.length := Paired.length r2
  refine call_meetsIn F.slot_dict_update d1.typeIs F.entry_dict_update (F.args_dict_update_2 _ _) (meets_dict_update (mixKind X.prog X.w) d o hne hs2) ⟨vs1, vs2, d1, d2, by omega, fun h' e1 e2 sb => ?_⟩
  have he : ∃ q, h'.get? d = some q := by
    obtain ⟨q, _, _, hq, _⟩ := e1
    exact ⟨q, hq⟩
  have hl : (mergeK kvs more).length ≤ sizeLine := Nat.le_trans (len_mergeK more kvs) hz
  exact ⟨.non, _, d_write I (by rw [hd]; exact True.intro) sb he (dk_new hl hs1 (KV.merge r2 r1) e1), rfl, q⟩
end En

set_option maxRecDepth 100000
set_option maxHeartbeats 4000000
/-! a memory: what it holds, what a write makes of it -/
namespace Mm
open PySem PySem.Spec PyProof.Rows L2
/-- all but these places stays -/
def But (S : List Addr) (H H' : Hp) : Prop := ∀ b o, b ∉ S → H b = some o → H' b = some o
theorem But.refl (S : List Addr) (H : Hp) : But S H H := fun _ _ _ h => h
theorem But.trans {S : List Addr} {H H1 H2 : Hp} (a : But S H H1) (b : But S H1 H2) : But S H H2 := fun c o n h => b c o n (a c o n h)
theorem But.same {S : List Addr} {H H' : Hp} (s : Same H H') : But S H H' := fun b o _ h => s b o h
theorem But.upd {S : List Addr} {H : Hp} {p : Addr} {o : HO} (h : p ∈ S) : But S H (L2.upd H p o) := fun b u n e => by
  rw [upd_ne (fun z => n (by rw [z]; exact h))]
  exact e
theorem But.more {S S' : List Addr} {H H' : Hp} (k : But S H H') (h : ∀ b ∈ S, b ∈ S') : But S' H H' := fun b o n e => k b o (fun m => n (h b m)) e
theorem But.sameOf {S : List Addr} {H0 H H' : Hp} (k : But S H H') (s : Same H0 H) (f : ∀ b ∈ S, H0 b = none) : Same H0 H' := fun b o e => k b o (fun m => by rw [f b m] at e; cases e) (s b o e)
/-- all but these places and tables stays -/
def ButN (S : List Addr) (H H' : Hp) : Prop := ∀ b o, b ∉ S → Dw.NT o → H b = some o → H' b = some o
theorem But.n {S : List Addr} {H H' : Hp} (k : But S H H') : ButN S H H' := fun b o n _ h => k b o n h
theorem ButN.trans {S : List Addr} {H H1 H2 : Hp} (a : ButN S H H1) (b : ButN S H1 H2) : ButN S H H2 := fun c o n t h => b c o n t (a c o n t h)
theorem ButN.more {S S' : List Addr} {H H' : Hp} (k : ButN S H H') (h : ∀ b ∈ S, b ∈ S') : ButN S' H H' := fun b o n t e => k b o (fun m => n (h b m)) t e
def leftV : Option Nat → V
  | none => .non
  | some k => .int (k : Int)
structure Mem where
  cells : List V
  many : Int
  up : Bool
  left : Option Nat
  torn : Str
def tornTo (t : Str) (cs : List V) (j : Nat) (v : Int) : List V := if t = "broken" then cs.set j .non else if t = "new" then cs.set j (.int v) else cs
/-- a write: what is behind it, and whether it was whole -/
def Mem.write (m : Mem) (j : Nat) (v : Int) : Mem × Bool :=
  if m.up = true then
    if m.left = some 0 then (⟨tornTo m.torn m.cells j v, m.many, false, none, m.torn⟩, false)
    else (⟨m.cells.set j (.int v), m.many + 1, true, m.left.map (· - 1), m.torn⟩, true)
  else (m, false)
theorem write_down {m : Mem} {j : Nat} {v : Int} (h : m.up = false) : m.write j v = (m, false) := by
  unfold Mem.write
  rw [if_neg (by rw [h]; decide)]
theorem write_cut {m : Mem} {j : Nat} {v : Int} (h : m.up = true) (h0 : m.left = some 0) : m.write j v = (⟨tornTo m.torn m.cells j v, m.many, false, none, m.torn⟩, false) := by
  unfold Mem.write
  rw [if_pos h, if_pos h0]
theorem write_ok {m : Mem} {j : Nat} {v : Int} (h : m.up = true) (h0 : ¬ m.left = some 0) : m.write j v = (⟨m.cells.set j (.int v), m.many + 1, true, m.left.map (· - 1), m.torn⟩, true) := by
  unfold Mem.write
  rw [if_pos h, if_neg h0]
theorem torn_len (t : Str) (cs : List V) (j : Nat) (v : Int) : (tornTo t cs j v).length = cs.length := by
  unfold tornTo
  split
  · rw [List.length_set]
  · split
    · rw [List.length_set]
    · rfl
theorem write_len (m : Mem) (j : Nat) (v : Int) : (m.write j v).1.cells.length = m.cells.length := by
  by_cases h : m.up = true
  · by_cases h0 : m.left = some 0
    · rw [write_cut h h0]
      exact torn_len _ _ _ _
    · rw [write_ok h h0]
      exact List.length_set
  · rw [write_down (Bool.eq_false_iff.mpr h)]
/-- rows put: those that aren't there already -/
def Mem.putGo : Mem → Nat → Int → List Int → Mem × Option Int
  | m, _, n, [] => (m, some n)
  | m, j, n, v :: r => if m.cells[j]? = some (.int v) then Mem.putGo m (j + 1) n r else
      if (m.write j v).2 = true then Mem.putGo (m.write j v).1 (j + 1) (n + 1) r else ((m.write j v).1, none)
theorem putGo_cons {m : Mem} {j : Nat} {n v : Int} {r : List Int} : m.putGo j n (v :: r) = if m.cells[j]? = some (.int v) then Mem.putGo m (j + 1) n r else
    if (m.write j v).2 = true then Mem.putGo (m.write j v).1 (j + 1) (n + 1) r else ((m.write j v).1, none) := rfl
def Mem.put (m : Mem) (j : Nat) (ws : List Int) : Mem × Option Int := if m.up = true then m.putGo j 0 ws else (m, none)
theorem putGo_len : ∀ (ws : List Int) (m : Mem) (j : Nat) (n : Int), (m.putGo j n ws).1.cells.length = m.cells.length
  | [], _, _, _ => rfl
  | v :: r, m, j, n => by
    unfold Mem.putGo
    split
    · exact putGo_len r m (j + 1) n
    · split
      · rw [putGo_len r _ (j + 1) (n + 1), write_len]
      · exact write_len m j v
theorem leftV_zero {o : Option Nat} : leftV o = .int 0 ↔ o = some 0 := by
  cases o with
  | none => simp [leftV]
  | some k =>
    simp only [leftV, V.int.injEq, Option.some.injEq]
    omega
theorem leftV_non {o : Option Nat} : leftV o = .non ↔ o = none := by
  cases o with
  | none => simp [leftV]
  | some k => simp [leftV]
/-! ### its object -/
theorem lk_here {k : Str} {v : V} {r : List (Str × V)} : List.lookup k ((k, v) :: r) = some v := by
  have e : (k == k) = true := beq_self_eq_true k
  simp only [List.lookup, e]
theorem lk_past {k g : Str} {v : V} {r : List (Str × V)} (h : (k == g) = false) : List.lookup k ((g, v) :: r) = List.lookup k r := by
  simp only [List.lookup, h]
theorem put_here {f : Str} {v x : V} {r : List (Str × V)} : putF f v ((f, x) :: r) = (f, v) :: r := if_pos rfl
theorem put_past {f g : Str} {v x : V} {r : List (Str × V)} (h : ¬ g = f) : putF f v ((g, x) :: r) = (g, x) :: putF f v r := if_neg h
/-- its attributes, in the order in which __init__ sets them -/
def mf (l : Addr) (n : Int) (u : Bool) (a : V) (t : Str) : List (Str × V) := [("_cells", .ref l), ("_whole_writes", .int n), ("_has_power", .bl u), ("_ahead", a), ("_torn", .str t)]
section
variable {l : Addr} {n n' : Int} {u u' : Bool} {a a' : V} {t t' : Str}
theorem mf_cells : (mf l n u a t).lookup ("_cells" : Str) = some (.ref l) := lk_here
theorem mf_many : (mf l n u a t).lookup ("_whole_writes" : Str) = some (.int n) := (lk_past (by decide +kernel)).trans lk_here
theorem mf_up : (mf l n u a t).lookup ("_has_power" : Str) = some (.bl u) := (lk_past (by decide +kernel)).trans ((lk_past (by decide +kernel)).trans lk_here)
theorem mf_ahead : (mf l n u a t).lookup ("_ahead" : Str) = some a := (lk_past (by decide +kernel)).trans ((lk_past (by decide +kernel)).trans ((lk_past (by decide +kernel)).trans lk_here))
theorem mf_torn : (mf l n u a t).lookup ("_torn" : Str) = some (.str t) := (lk_past (by decide +kernel)).trans ((lk_past (by decide +kernel)).trans ((lk_past (by decide +kernel)).trans ((lk_past (by decide +kernel)).trans lk_here)))
theorem mf_no {x : Str} (h1 : (x == ("_cells" : Str)) = false) (h2 : (x == ("_whole_writes" : Str)) = false) (h3 : (x == ("_has_power" : Str)) = false) (h4 : (x == ("_ahead" : Str)) = false) (h5 : (x == ("_torn" : Str)) = false) : (mf l n u a t).lookup x = none :=
  (lk_past h1).trans ((lk_past h2).trans ((lk_past h3).trans ((lk_past h4).trans ((lk_past h5).trans rfl))))
theorem put_many : putF "_whole_writes" (.int n') (mf l n u a t) = mf l n' u a t := (put_past (by decide +kernel)).trans (congrArg _ put_here)
theorem put_up : putF "_has_power" (.bl u') (mf l n u a t) = mf l n u' a t := (put_past (by decide +kernel)).trans (congrArg _ ((put_past (by decide +kernel)).trans (congrArg _ put_here)))
theorem put_ahead : putF "_ahead" a' (mf l n u a t) = mf l n u a' t := (put_past (by decide +kernel)).trans (congrArg _ ((put_past (by decide +kernel)).trans (congrArg _ ((put_past (by decide +kernel)).trans (congrArg _ put_here)))))
theorem put_torn : putF "_torn" (.str t') (mf l n u a t) = mf l n u a t' := (put_past (by decide +kernel)).trans (congrArg _ ((put_past (by decide +kernel)).trans (congrArg _ ((put_past (by decide +kernel)).trans (congrArg _ ((put_past (by decide +kernel)).trans (congrArg _ put_here)))))))
theorem put_new : putF "_torn" (.str t) (putF "_ahead" a (putF "_has_power" (.bl u) (putF "_whole_writes" (.int n) (putF "_cells" (.ref l) [])))) = mf l n u a t := by
  rw [show putF "_cells" (.ref l) [] = [(("_cells" : Str), V.ref l)] from rfl,
    show putF "_whole_writes" (.int n) [(("_cells" : Str), V.ref l)] = [(("_cells" : Str), V.ref l), ("_whole_writes", .int n)] from (put_past (by decide +kernel)).trans rfl,
    show putF "_has_power" (.bl u) [(("_cells" : Str), V.ref l), ("_whole_writes", .int n)] = [(("_cells" : Str), V.ref l), ("_whole_writes", .int n), ("_has_power", .bl u)] from (put_past (by decide +kernel)).trans (congrArg _ ((put_past (by decide +kernel)).trans rfl)),
    show putF "_ahead" a [(("_cells" : Str), V.ref l), ("_whole_writes", .int n), ("_has_power", .bl u)] = [(("_cells" : Str), V.ref l), ("_whole_writes", .int n), ("_has_power", .bl u), ("_ahead", a)] from (put_past (by decide +kernel)).trans (congrArg _ ((put_past (by decide +kernel)).trans (congrArg _ ((put_past (by decide +kernel)).trans rfl))))]
  exact (put_past (by decide +kernel)).trans (congrArg _ ((put_past (by decide +kernel)).trans (congrArg _ ((put_past (by decide +kernel)).trans (congrArg _ ((put_past (by decide +kernel)).trans rfl))))))
theorem mf_few : (mf l n u a t).length < 1000 := by
  show 5 < 1000
  decide
end
/-- a memory m stands at p, its cells in the list at l -/
structure MemAt (C p l : Addr) (m : Mem) (H : Hp) : Prop where
  ob : ∃ (dx : Addr) (a : V), H p = some (.ins C dx (mf l m.many m.up a m.torn)) ∧ (m.up = true → a = leftV m.left)
  ls : H l = some (.lst m.cells)
  cel : ∀ v ∈ m.cells, Dw.cel v = true
  len : m.cells.length ≤ 400
section
variable {C p l : Addr} {m : Mem} {H H' : Hp}
theorem MemAt.ne (M : MemAt C p l m H) : p ≠ l := by
  obtain ⟨dx, a, h, _⟩ := M.ob
  exact ne_of h M.ls (by intro z; cases z)
theorem MemAt.but {S : List Addr} (M : MemAt C p l m H) (k : But S H H') (hp : p ∉ S) (hl : l ∉ S) : MemAt C p l m H' := by
  obtain ⟨dx, a, h, e⟩ := M.ob
  exact ⟨⟨dx, a, k _ _ hp h, e⟩, k _ _ hl M.ls, M.cel, M.len⟩
theorem MemAt.butN {S : List Addr} (M : MemAt C p l m H) (k : ButN S H H') (hp : p ∉ S) (hl : l ∉ S) : MemAt C p l m H' := by
  obtain ⟨dx, a, h, e⟩ := M.ob
  exact ⟨⟨dx, a, k _ _ hp Dw.NT.ins h, e⟩, k _ _ hl Dw.NT.lst M.ls, M.cel, M.len⟩
theorem MemAt.mono (M : MemAt C p l m H) (k : Same H H') : MemAt C p l m H' := M.but (S := []) (But.same k) (by simp) (by simp)
theorem MemAt.at (M : MemAt C p l m H) {j : Nat} (h : j < m.cells.length) : ∃ v, m.cells[j]? = some v ∧ Dw.cel v = true :=
  ⟨m.cells[j], List.getElem?_eq_getElem h, M.cel _ (List.getElem_mem h)⟩
/-- its cells another list -/
theorem MemAt.setCells (M : MemAt C p l m H) {cs : List V} (hc : ∀ v ∈ cs, Dw.cel v = true) (hl : cs.length = m.cells.length) : MemAt C p l { m with cells := cs } (upd H l (.lst cs)) := by
  obtain ⟨dx, a, h, e⟩ := M.ob
  exact ⟨⟨dx, a, by rw [upd_ne M.ne]; exact h, e⟩, upd_same, hc, by show cs.length ≤ 400; rw [hl]; exact M.len⟩
theorem cel_set {cs : List V} {j : Nat} {v : V} (h : ∀ x ∈ cs, Dw.cel x = true) (hv : Dw.cel v = true) : ∀ x ∈ cs.set j v, Dw.cel x = true := fun x hx => by
  rcases List.mem_or_eq_of_mem_set hx with z | z
  · exact h x z
  · rw [z]
    exact hv
theorem cel_torn {t : Str} {cs : List V} {j : Nat} {v : Int} (h : ∀ x ∈ cs, Dw.cel x = true) : ∀ x ∈ tornTo t cs j v, Dw.cel x = true := by
  unfold tornTo
  split
  · exact cel_set h rfl
  · split
    · exact cel_set h rfl
    · exact h
end
/-- what calls that surely let nothing out ask -/
theorem passN {P : Program} {w : World} {X : Cx} : Passes (L2.CX P w) X E0 := fun _ _ _ _ _ _ _ h => by
  obtain ⟨_, _, _, _, _, _, _, _, _, _, _, _, z⟩ := h
  exact z.elim
theorem flat_rep {α : Type} (x : α) : ∀ n : Nat, (List.replicate n [x]).flatten = List.replicate n x
  | 0 => rfl
  | n + 1 => by
    rw [List.replicate_succ, List.flatten_cons, flat_rep x n]
    rfl
/-! ### what is promised of its methods -/
def spPlace (C : Addr) : Sp := fun vs H Q _ => ∃ (p l : Addr) (m : Mem) (j : Nat), vs = [.ref p, .int (j : Int)] ∧ MemAt C p l m H ∧ j < m.cells.length ∧ Q .non H
def spWorth : Sp := fun vs H Q _ => ∃ v : Int, vs = [.int v] ∧ 0 ≤ v ∧ v ≤ 9972 ∧ Q .non H
def spPower (C CS : Addr) : Sp := fun vs H Q E => ∃ (p l : Addr) (m : Mem), vs = [.ref p] ∧ MemAt C p l m H ∧ (m.up = true → Q .non H) ∧ (m.up = false → E (.ref CS) none H)
def spLose (C CS : Addr) : Sp := fun vs H Q E => ∃ (p l : Addr) (m : Mem) (j : Nat) (v : Int), vs = [.ref p, .int (j : Int), .int v] ∧ MemAt C p l m H ∧ j < m.cells.length ∧
  ∀ H', MemAt C p l ⟨tornTo m.torn m.cells j v, m.many, false, none, m.torn⟩ H' → But [p, l] H H' → E (.ref CS) none H'
def spWrite (C CS : Addr) : Sp := fun vs H Q E => ∃ (p l : Addr) (m : Mem) (j : Nat) (v : Int), vs = [.ref p, .int (j : Int), .int v] ∧ MemAt C p l m H ∧ j < m.cells.length ∧ 0 ≤ v ∧ v ≤ 9972 ∧
  ∀ H', MemAt C p l (m.write j v).1 H' → But [p, l] H H' → ((m.write j v).2 = true → Q .non H') ∧ ((m.write j v).2 = false → E (.ref CS) none H')
def spPut (K : PySem.W.Frag) (C CS : Addr) : Sp := fun vs H Q E => ∃ (p l b : Addr) (m : Mem) (j : Nat) (ws : List Int), vs = [.ref p, .int (j : Int), .ref b] ∧ MemAt C p l m H ∧ SqL K H b (ws.map V.int) ∧ b ≠ l ∧ j + ws.length ≤ m.cells.length ∧ (∀ v ∈ ws, 0 ≤ v ∧ v ≤ 9972) ∧
  ∀ H', MemAt C p l (m.put j ws).1 H' → But [p, l] H H' → (∀ n, (m.put j ws).2 = some n → Q (.int n) H') ∧ ((m.put j ws).2 = none → E (.ref CS) none H')
def spRead (C CS : Addr) : Sp := fun vs H Q E => ∃ (p l : Addr) (m : Mem) (j : Nat), vs = [.ref p, .int (j : Int)] ∧ MemAt C p l m H ∧ j < m.cells.length ∧ (m.up = true → ∀ v, m.cells[j]? = some v → Q v H) ∧ (m.up = false → E (.ref CS) none H)
def spRow (C CS : Addr) : Sp := fun vs H Q E => ∃ (p l : Addr) (m : Mem) (j n : Nat), vs = [.ref p, .int (j : Int), .int (n : Int)] ∧ MemAt C p l m H ∧ j + n ≤ m.cells.length ∧
  (m.up = true → ∀ H' c, Same H H' → H c = none → H' c = some (.lst ((m.cells.drop j).take n)) → Q (.ref c) H') ∧ (m.up = false → E (.ref CS) none H)
def spSpoil (C : Addr) : Sp := fun vs H Q _ => ∃ (p l : Addr) (m : Mem) (j : Nat) (x : V), vs = [.ref p, .int (j : Int), x] ∧ MemAt C p l m H ∧ j < m.cells.length ∧ (x = .non ∨ ∃ v, x = .int v ∧ 0 ≤ v ∧ v ≤ 9972) ∧
  ∀ H', MemAt C p l { m with cells := m.cells.set j x } H' → But [p, l] H H' → Q .non H'
def spCut (C : Addr) : Sp := fun vs H Q _ => ∃ (p l : Addr) (m : Mem) (k : Nat) (t : Str), vs = [.ref p, .int (k : Int), .str t] ∧ MemAt C p l m H ∧ k ≤ 100000 ∧ (t = "old" ∨ t = "broken" ∨ t = "new") ∧
  ∀ H', MemAt C p l { m with left := some k, torn := t } H' → But [p, l] H H' → Q .non H'
def spUp (C : Addr) : Sp := fun vs H Q _ => ∃ (p l : Addr) (m : Mem), vs = [.ref p] ∧ MemAt C p l m H ∧ ∀ H', MemAt C p l { m with up := true, left := none } H' → But [p, l] H H' → Q .non H'
def spCells (C : Addr) : Sp := fun vs H Q _ => ∃ (p l : Addr) (m : Mem), vs = [.ref p] ∧ MemAt C p l m H ∧ ∀ H' c, Same H H' → H c = none → H' c = some (.lst m.cells) → Q (.ref c) H'
def spWrites (C : Addr) : Sp := fun vs H Q _ => ∃ (p l : Addr) (m : Mem), vs = [.ref p] ∧ MemAt C p l m H ∧ Q (.int m.many) H
def spInit (C : Addr) : Sp := fun vs H Q _ => ∃ (p dx : Addr) (n : Nat), vs = [.ref p, .int (n : Int)] ∧ H p = some (.ins C dx []) ∧ 1 ≤ n ∧ n ≤ 400 ∧
  ∀ H' l, MemAt C p l ⟨List.replicate n (.int 0), 0, true, none, "old"⟩ H' → H l = none → But [p] H H' → Q .non H'
end Mm

set_option maxRecDepth 100000
set_option maxHeartbeats 4000000
/-! max(xs, default=None): a rule of our own -/
namespace Mx
open PySem PySem.Spec PyProof.Rows L2
theorem foldl_max : ∀ (ys : List Int) (y : Int), ys.foldl max y ∈ y :: ys ∧ ∀ z ∈ y :: ys, z ≤ ys.foldl max y
  | [], y => ⟨List.mem_cons_self, fun z h => by rw [List.mem_singleton.mp h]; exact Int.le_refl _⟩
  | x :: r, y => by
    obtain ⟨m, g⟩ := foldl_max r (max y x)
    refine ⟨?_, fun z hz => ?_⟩
    · rw [List.foldl_cons]
      rcases List.mem_cons.mp m with e | e
      · rw [e]
        rcases Int.le_total y x with h | h
        · rw [Int.max_eq_right h]
          exact List.mem_cons_of_mem _ List.mem_cons_self
        · rw [Int.max_eq_left h]
          exact List.mem_cons_self
      · exact List.mem_cons_of_mem _ (List.mem_cons_of_mem _ e)
    · rw [List.foldl_cons]
      have h0 := g (max y x) List.mem_cons_self
      rcases List.mem_cons.mp hz with e | e
      · rw [e]
        exact Int.le_trans (Int.le_max_left y x) h0
      · rcases List.mem_cons.mp e with e | e
        · rw [e]
          exact Int.le_trans (Int.le_max_right y x) h0
        · exact g z (List.mem_cons_of_mem _ e)
theorem depth_ints : ∀ (ns : List Int), PyData.depthAll (ns.map PyData.int) = 0
  | [] => by rw [List.map_nil, PyData.depthAll]
  | x :: r => by
    rw [List.map_cons, PyData.depthAll, depth_ints r, PyData.depth]
    rfl
theorem alike_ints (ns : List Int) : PySem.W.AlikeAll (ns.map PyData.int) := by
  refine ⟨fun x hx y hy => ?_, fun x hx => ?_⟩
  · obtain ⟨i, _, rfl⟩ := List.mem_map.mp hx
    obtain ⟨j, _, rfl⟩ := List.mem_map.mp hy
    rfl
  · obtain ⟨i, _, rfl⟩ := List.mem_map.mp hx
    intro z
    cases z
theorem dp_ints {K : PySem.W.Frag} {H : Hp} : ∀ (ns : List Int), DpAll K H (ns.map V.int) (ns.map PyData.int)
  | [] => .nil
  | x :: r => .cons (.int x) (dp_ints r)
def rMaxDf (K : PySem.W.Frag) : List V → List V → Hp → VK → Prop := fun vs zs H Q => ∃ (a : Addr) (ns : List Int), vs = [V.ref a] ∧ zs = [.non] ∧ SqL K H a (ns.map V.int) ∧
  (ns = [] → Q .non H) ∧ ∀ m, m ∈ ns → (∀ y, y ∈ ns → y ≤ m) → Q (.int m) H
theorem cr_maxDf {X : Cx} (hc : X.calm = true) (hu : X.A.units + 64 < cLine) : CallRK X (.builtin "max") [Str.ofString "default"] (rMaxDf X.K) := by
  intro pins s σ H vs zs us ws Q I r rz h
  obtain ⟨a, ns, rfl, rfl, hs, q0, q⟩ := h
  obtain rfl := Vals.ref1 r
  obtain ⟨w1, rfl, e1⟩ := vals1 rz
  obtain rfl : w1 = Value.none := e1
  obtain ⟨its, rv, hl, hz⟩ := I.list hs
  obtain ⟨as, hr⟩ := Dp.readsAll I (ns.map PyData.int) (ns.map V.int) its (dp_ints ns) rv
  refine PySem.W.max_list_default (I.ok.hd hc) hl.isList (xs := ns.map PyData.int) (as := as) (by simpa using hr) (alike_ints ns) (by rw [depth_ints]; omega) (fun e h' tk hk => ?_) (fun y ys i v h' tk bs e hv rd hk => ?_)
  · exact ⟨.non, H, I.kept hk, rfl, q0 (by cases ns with | nil => rfl | cons x t => cases e)⟩
  · cases ns with
    | nil => cases e
    | cons x t =>
      rw [List.map_cons] at e
      injection e with e1 e2
      subst e1 e2
      rw [PySem.W.maxD_ints] at rd
      obtain ⟨m, g⟩ := foldl_max t x
      generalize t.foldl max x = M at rd m g
      cases rd with
      | int i tt => exact ⟨.int _, H, I.kept hk, ⟨_, rfl⟩, q M m g⟩
/-- x not in (a, b, ..), deep -/
def rNotInDT (K : PySem.W.Frag) : R2 := fun x y H Q => ∃ d ds, Dp K H x d ∧ Dp K H y (.tuple ds) ∧ SeqAt.shaped d = true ∧ SeqAt.shaped (.tuple ds) = true ∧ Q (.bl (!ds.any fun z => PyData.eqv z d)) H
theorem op_notInDT {X : Cx} {k : Nat} (hr : Room k X.A) : OpR X (compareOp .NotIn) (rNotInDT X.K) := by
  intro pins s σ H x y v u Q I rx ry h
  obtain ⟨d, ds, hd, he, sd, se, q⟩ := h
  obtain ⟨as, r1⟩ := Dp.reads I d x v hd rx
  obtain ⟨bs, r2⟩ := Dp.reads I (.tuple ds) y u he ry
  exact SeqAt.notIn_tuple_reads r2 r1 (SeqAt.canLay_of_shaped se) (SeqAt.canLay_of_shaped sd) (room_in_shaped sd (by have := hr.un; omega)) ⟨.bl _, H, I, rfl, q⟩
end Mx

set_option maxRecDepth 100000
set_option maxHeartbeats 4000000
/-! counters: what two cells tell; what is promised of count and raise_to -/
namespace Ct
open PySem PySem.Spec PyProof.Rows L2
/-- a cell of a memory: broken, or a number that a cell can hold -/
def okc (v : V) : Prop := v = .non ∨ ∃ x : Int, v = .int x ∧ 0 ≤ x ∧ x ≤ 9972
theorem okc.cel {v : V} (h : okc v) : Dw.cel v = true := by
  rcases h with rfl | ⟨x, rfl, _⟩ <;> rfl
def rk : V → Int
  | .int i => i
  | _ => -1
theorem rk_lo {v : V} (h : okc v) : -1 ≤ rk v := by
  rcases h with rfl | ⟨x, rfl, h0, _⟩
  · exact Int.le_refl _
  · show -1 ≤ x
    omega
/-- a number as a counter tells it -/
def numV (t : Int) : V := if t < 0 then .non else .int t
def top (x y : V) : Int := if rk x ≤ rk y then rk y else rk x
def cntV (x y : V) : V := numV (top x y)
/-- the numbers of a row that are there -/
def whole : List V → List Int
  | [] => []
  | .int i :: r => i :: whole r
  | _ :: r => whole r
theorem whole_app : ∀ (xs ys : List V), whole (xs ++ ys) = whole xs ++ whole ys
  | [], _ => rfl
  | .int i :: r, ys => congrArg (i :: ·) (whole_app r ys)
  | .non :: r, ys => whole_app r ys
  | .bl _ :: r, ys => whole_app r ys
  | .str _ :: r, ys => whole_app r ys
  | .byt _ :: r, ys => whole_app r ys
  | .flt _ :: r, ys => whole_app r ys
  | .ref _ :: r, ys => whole_app r ys
  | .ty _ :: r, ys => whole_app r ys
theorem whole_len : ∀ (xs : List V), (whole xs).length ≤ xs.length
  | [] => Nat.le_refl _
  | .int i :: r => Nat.succ_le_succ (whole_len r)
  | .non :: r => Nat.le_succ_of_le (whole_len r)
  | .bl _ :: r => Nat.le_succ_of_le (whole_len r)
  | .str _ :: r => Nat.le_succ_of_le (whole_len r)
  | .byt _ :: r => Nat.le_succ_of_le (whole_len r)
  | .flt _ :: r => Nat.le_succ_of_le (whole_len r)
  | .ref _ :: r => Nat.le_succ_of_le (whole_len r)
  | .ty _ :: r => Nat.le_succ_of_le (whole_len r)
/-- the greatest of two cells' numbers -/
theorem whole_nil {x y : V} (hx : okc x) (hy : okc y) (h : whole [x, y] = []) : cntV x y = .non := by
  rcases hx with rfl | ⟨i, rfl, i0, _⟩ <;> rcases hy with rfl | ⟨j, rfl, j0, _⟩
  · rfl
  · cases h
  · cases h
  · cases h
theorem numV_pos {t : Int} (h : 0 ≤ t) : numV t = .int t := if_neg (by omega)
theorem numV_neg {t : Int} (h : t < 0) : numV t = .non := if_pos h
theorem top_le {x y : V} (h : rk x ≤ rk y) : top x y = rk y := if_pos h
theorem top_gt {x y : V} (h : ¬ rk x ≤ rk y) : top x y = rk x := if_neg h
theorem whole_max {x y : V} (hx : okc x) (hy : okc y) {m : Int} (h : m ∈ whole [x, y]) (g : ∀ z, z ∈ whole [x, y] → z ≤ m) : cntV x y = .int m := by
  show numV (top x y) = _
  rcases hx with rfl | ⟨i, rfl, i0, _⟩ <;> rcases hy with rfl | ⟨j, rfl, j0, _⟩
  · cases h
  · have e : m = j := List.mem_singleton.mp h
    subst e
    rw [top_le (by show (-1 : Int) ≤ m; omega)]
    exact numV_pos j0
  · have e : m = i := List.mem_singleton.mp h
    subst e
    rw [top_gt (by show ¬ m ≤ (-1 : Int); omega)]
    exact numV_pos i0
  · have g1 := g i List.mem_cons_self
    have g2 := g j (List.mem_cons_of_mem _ List.mem_cons_self)
    rcases List.mem_cons.mp h with e | e
    · subst e
      by_cases z : m ≤ j
      · have : m = j := by omega
        subst this
        rw [top_le (by exact Int.le_refl _)]
        exact numV_pos j0
      · rw [top_gt (by exact z)]
        exact numV_pos i0
    · have e := List.mem_singleton.mp e
      subst e
      rw [top_le (by exact g1)]
      exact numV_pos j0
theorem top_lo {x y : V} (hx : okc x) (hy : okc y) : -1 ≤ top x y := by
  have := rk_lo hx
  have := rk_lo hy
  unfold top
  split <;> omega
theorem rk_hi {v : V} (h : okc v) : rk v ≤ 9972 := by
  rcases h with rfl | ⟨x, rfl, _, h1⟩
  · show (-1 : Int) ≤ 9972
    decide
  · exact h1
theorem top_hi {x y : V} (hx : okc x) (hy : okc y) : top x y ≤ 9972 := by
  have := rk_hi hx
  have := rk_hi hy
  unfold top
  split <;> omega
theorem cut2 {cs : List V} {j : Nat} {x y : V} (hx : cs[j]? = some x) (hy : cs[j + 1]? = some y) : (cs.drop j).take 2 = [x, y] := by
  rw [show (2 : Nat) = 0 + 1 + 1 from rfl, List.take_add_one, List.take_add_one, List.take_zero, List.getElem?_drop, List.getElem?_drop]
  rw [show j + 0 = j from rfl, show j + (0 + 1) = j + 1 from rfl, hx, hy]
  rfl
theorem cutV2 {cs : List V} {j : Nat} {x y : V} {hi : Int} (hh : hi = (j : Int) + 2) (hx : cs[j]? = some x) (hy : cs[j + 1]? = some y) : cutV cs (some (j : Int)) (some hi) = [x, y] := by
  have l := (List.getElem?_eq_some_iff.mp hy).1
  have e : hi = ((j + 2 : Nat) : Int) := by omega
  subst e
  unfold cutV
  rw [HT.sIx_nat, HT.sIx_nat, Nat.min_eq_left (by omega), Nat.min_eq_left (by omega), show j + 2 - j = 2 by omega]
  exact cut2 hx hy
theorem take_next {xs : List V} {i : Nat} {x : V} (h : xs[i]? = some x) : xs.take (i + 1) = xs.take i ++ [x] := by
  rw [List.take_add_one, h]
  rfl
theorem okc2 {x y z : V} (hx : okc x) (hy : okc y) {i : Nat} (h : [x, y][i]? = some z) : okc z := by
  rcases List.mem_cons.mp (List.mem_of_getElem? h) with e | e
  · rw [e]
    exact hx
  · rw [List.mem_singleton.mp e]
    exact hy
theorem numV_cel (t : Int) : Dw.cel (numV t) = true := by
  unfold numV
  split <;> rfl
/-- here or 0 -/
theorem or_num (K : PySem.W.Frag) (H : Hp) (x y : V) (hx : okc x) (hy : okc y) : ∃ (k : Bool) (z : Int), TruV K (cntV x y) H k ∧ 0 ≤ z ∧ z ≤ 9972 ∧ (k = true → cntV x y = .int z) ∧ (k = false → z = 0) := by
  have h1 := top_lo hx hy
  have h2 := top_hi hx hy
  by_cases h : top x y < 0
  · exact ⟨false, 0, by rw [show cntV x y = .non from numV_neg h]; rfl, by decide, by decide, fun z => (by cases z), fun _ => rfl⟩
  · have e : cntV x y = .int (top x y) := numV_pos (by omega)
    by_cases h0 : top x y = 0
    · exact ⟨false, 0, by rw [e, h0]; rfl, by decide, by decide, fun z => (by cases z), fun _ => rfl⟩
    · refine ⟨true, top x y, ?_, by omega, h2, fun _ => e, fun z => by cases z⟩
      rw [e]
      show true = (top x y != 0)
      simp [h0]
/-- which of both cells a raising writes -/
def less (x y : V) (j : Nat) : Nat := if rk x ≤ rk y then j else j + 1
/-- what a raising makes of the cells, of the count of writes, and what it tells -/
def rcs (x y : V) (j : Nat) (cs : List V) (v : Int) : List V := if v ≤ top x y then cs else cs.set (less x y j) (.int v)
def rn (x y : V) (n : Nat) (v : Int) : Nat := if v ≤ top x y then n else n + 1
def rb (x y : V) (v : Int) : Bool := !decide (v ≤ top x y)
/-- what is promised of the look at what is handed in -/
def spHanded (K : PySem.W.Frag) (C : Addr) : Sp := fun vs H Q _ => ∃ (p l b : Addr) (m : Mm.Mem) (j n : Nat) (ws : List Int), vs = [.ref p, .int (j : Int), .int (n : Int), .ref b] ∧ Mm.MemAt C p l m H ∧ SqL K H b (ws.map V.int) ∧ j + n ≤ m.cells.length ∧ (∀ v ∈ ws, 0 ≤ v ∧ v ≤ 9972) ∧ ∀ H', Same H H' → Q .non H'
def spHandedT (K : PySem.W.Frag) (C : Addr) : Sp := fun vs H Q _ => ∃ (p l b : Addr) (m : Mm.Mem) (j n : Nat) (ws : List Int), vs = [.ref p, .int (j : Int), .int (n : Int), .ref b] ∧ Mm.MemAt C p l m H ∧ SqT K H b (ws.map V.int) ∧ j + n ≤ m.cells.length ∧ (∀ v ∈ ws, 0 ≤ v ∧ v ≤ 9972) ∧ ∀ H', Same H H' → Q .non H'
def spRank : Sp := fun vs H Q _ => ∃ x : V, vs = [x] ∧ okc x ∧ Q (.int (rk x)) H
def spCount (C CS : Addr) : Sp := fun vs H Q E => ∃ (p l : Addr) (m : Mm.Mem) (j : Nat) (x y : V), vs = [.ref p, .int (j : Int)] ∧ Mm.MemAt C p l m H ∧ m.cells[j]? = some x ∧ m.cells[j + 1]? = some y ∧ okc x ∧ okc y ∧
  (m.up = true → ∀ H', Same H H' → Q (cntV x y) H') ∧ (m.up = false → E (.ref CS) none H)
/-- a counter raised -/
def raise (m : Mm.Mem) (x y : V) (j : Nat) (v : Int) : Mm.Mem × Option Bool :=
  if m.up = true then (if v ≤ top x y then (m, some false) else ((m.write (less x y j) v).1, if (m.write (less x y j) v).2 = true then some true else none)) else (m, none)
def spRaise (C CS : Addr) : Sp := fun vs H Q E => ∃ (p l : Addr) (m : Mm.Mem) (j : Nat) (v : Int) (x y : V), vs = [.ref p, .int (j : Int), .int v] ∧ Mm.MemAt C p l m H ∧ m.cells[j]? = some x ∧ m.cells[j + 1]? = some y ∧ okc x ∧ okc y ∧ 0 ≤ v ∧ v ≤ 9972 ∧
  ∀ H', Mm.MemAt C p l (raise m x y j v).1 H' → Mm.But [p, l] H H' → (∀ b, (raise m x y j v).2 = some b → Q (.bl b) H') ∧ ((raise m x y j v).2 = none → E (.ref CS) none H')
theorem Dr_ne_cells {K : PySem.W.Frag} {H0 : Hp} {ns : List Int} {a r b : Addr} {H : Hp} {cs : List V} (D : Dw.Dr K H0 ns a r H) (hc : ∀ v ∈ cs, Dw.cel v = true) (h : H b = some (.lst cs)) : b ≠ r := by
  obtain ⟨_, _, _, e, _⟩ := D.row
  refine ne_of h e fun z => ?_
  injection z with z
  have := hc (.ref a) (by rw [z]; exact List.mem_cons_self)
  cases this
/-- a law's memory, and the row that it draws with -/
structure Lw (K : PySem.W.Frag) (H0 : Hp) (ns : List Int) (sa r C p l : Addr) (m : Mm.Mem) (H : Hp) : Prop where
  dr : Dw.Dr K H0 ns sa r H
  me : Mm.MemAt C p l m H
  ok : ∀ v ∈ m.cells, okc v
  fp : Dw.Fr0 H0 p
  fl : Dw.Fr0 H0 l
section
variable {K : PySem.W.Frag} {H0 : Hp} {ns : List Int} {sa r C p l : Addr} {m m' : Mm.Mem} {H H' : Hp}
theorem Lw.npr (I : Lw K H0 ns sa r C p l m H) : p ≠ r := by
  obtain ⟨_, _, _, e, _⟩ := I.dr.row
  obtain ⟨_, _, h, _⟩ := I.me.ob
  exact ne_of h e (by intro z; cases z)
theorem Lw.nlr (I : Lw K H0 ns sa r C p l m H) : l ≠ r := Dr_ne_cells I.dr I.me.cel I.me.ls
theorem Lw.mono (I : Lw K H0 ns sa r C p l m H) (s : Same H H') : Lw K H0 ns sa r C p l m H' := ⟨I.dr.mono s, I.me.mono s, I.ok, I.fp, I.fl⟩
theorem Lw.keep (I : Lw K H0 ns sa r C p l m H) (D : Dw.Dr K H0 ns sa r H') (k : Dw.Keep r H H') : Lw K H0 ns sa r C p l m H' :=
  ⟨D, I.me.but (S := [r]) (fun b o n h => k b o (fun z => n (by rw [z]; exact List.mem_cons_self)) h) (fun z => I.npr (List.mem_singleton.mp z)) (fun z => I.nlr (List.mem_singleton.mp z)), I.ok, I.fp, I.fl⟩
theorem Lw.run (I : Lw K H0 ns sa r C p l m H) (M : Mm.MemAt C p l m' H') (k : Mm.But [p, l] H H') (ok : ∀ v ∈ m'.cells, okc v) : Lw K H0 ns sa r C p l m' H' :=
  ⟨I.dr.but k.n (by simp [I.npr.symm, I.nlr.symm]) (fun b hb => by
    simp only [List.mem_cons, List.not_mem_nil, or_false] at hb
    rcases hb with rfl | rfl
    · exact I.fp
    · exact I.fl), M, ok, I.fp, I.fl⟩
theorem Lw.mut {c : Addr} {o : HO} (I : Lw K H0 ns sa r C p l m H) (n1 : c ≠ r) (n2 : c ≠ p) (n3 : c ≠ l) (f : Dw.Fr0 H0 c) : Lw K H0 ns sa r C p l m (upd H c o) :=
  ⟨I.dr.mut n1 f, I.me.but (S := [c]) (Mm.But.upd List.mem_cons_self) (by simp [n2.symm]) (by simp [n3.symm]), I.ok, I.fp, I.fl⟩
theorem Lw.at (I : Lw K H0 ns sa r C p l m H) {j : Nat} (h : j < m.cells.length) : ∃ v, m.cells[j]? = some v ∧ okc v := ⟨m.cells[j], List.getElem?_eq_getElem h, I.ok _ (List.getElem_mem h)⟩
end
theorem ok_set {cs : List V} {j : Nat} {v : V} (h : ∀ x ∈ cs, okc x) (hv : okc v) : ∀ x ∈ cs.set j v, okc x := fun x hx => by
  rcases List.mem_or_eq_of_mem_set hx with z | z
  · exact h x z
  · rw [z]
    exact hv
theorem ok_torn {t : Str} {cs : List V} {j : Nat} {v : Int} (h : ∀ x ∈ cs, okc x) (v0 : 0 ≤ v) (v1 : v ≤ 9972) : ∀ x ∈ Mm.tornTo t cs j v, okc x := by
  unfold Mm.tornTo
  split
  · exact ok_set h (.inl rfl)
  · split
    · exact ok_set h (.inr ⟨v, rfl, v0, v1⟩)
    · exact h
theorem ok_write {m : Mm.Mem} {j : Nat} {v : Int} (h : ∀ x ∈ m.cells, okc x) (v0 : 0 ≤ v) (v1 : v ≤ 9972) : ∀ x ∈ (m.write j v).1.cells, okc x := by
  by_cases hu : m.up = true
  · by_cases h0 : m.left = some 0
    · rw [Mm.write_cut hu h0]
      exact ok_torn h v0 v1
    · rw [Mm.write_ok hu h0]
      exact ok_set h (.inr ⟨v, rfl, v0, v1⟩)
  · rw [Mm.write_down (Bool.eq_false_iff.mpr hu)]
    exact h
theorem ok_rep (n : Nat) : ∀ x ∈ List.replicate n (V.int 0), okc x := fun x hx => by
  rw [List.eq_of_mem_replicate hx]
  exact .inr ⟨0, rfl, by decide, by decide⟩
/-- writes all done, in a memory that has power and no cut due -/
theorem write_free {m : Mm.Mem} {j : Nat} {v : Int} (hu : m.up = true) (hl : m.left = none) : m.write j v = (⟨m.cells.set j (.int v), m.many + 1, true, none, m.torn⟩, true) := by
  rw [Mm.write_ok hu (by rw [hl]; intro z; cases z), hl]
  rfl
theorem raise_free {cs : List V} {n : Int} {t : Str} {x y : V} {j : Nat} {v : Int} : raise ⟨cs, n, true, none, t⟩ x y j v = (⟨rcs x y j cs v, if v ≤ top x y then n else n + 1, true, none, t⟩, some (rb x y v)) := by
  unfold raise rcs rb
  rw [if_pos rfl]
  by_cases h : v ≤ top x y
  · rw [if_pos h, if_pos h, if_pos h, decide_eq_true h]
    rfl
  · rw [if_neg h, if_neg h, if_neg h, decide_eq_false h, write_free rfl rfl]
    rfl
theorem rcs_len {x y : V} {j : Nat} {cs : List V} {v : Int} : (rcs x y j cs v).length = cs.length := by
  unfold rcs
  split
  · rfl
  · exact List.length_set
theorem rcs_ok {x y : V} {j : Nat} {cs : List V} {v : Int} (h : ∀ z ∈ cs, okc z) (v0 : 0 ≤ v) (v1 : v ≤ 9972) : ∀ z ∈ rcs x y j cs v, okc z := by
  unfold rcs
  split
  · exact h
  · exact ok_set h (.inr ⟨v, rfl, v0, v1⟩)
/-- a number for a cell, or None -/
theorem at_cell {w t u : Int} (w0 : 0 ≤ w) (w1 : w < 9973) (t0 : 0 ≤ t) (t1 : t < 3) (u0 : 0 ≤ u) (u1 : u < 3) : ∃ x : V, atI [V.int w, V.int t, V.non] u = some x ∧ okc x := by
  have e : u = 0 ∨ u = 1 ∨ u = 2 := by omega
  rcases e with rfl | rfl | rfl
  · exact ⟨_, rfl, .inr ⟨w, rfl, w0, by omega⟩⟩
  · exact ⟨_, rfl, .inr ⟨t, rfl, t0, by omega⟩⟩
  · exact ⟨_, rfl, .inl rfl⟩
theorem at_two {w t u : Int} (u0 : 0 ≤ u) (u1 : u < 2) : ∃ x : Int, atI [V.int w, V.int t] u = some (.int x) ∧ (x = w ∨ x = t) := by
  have e : u = 0 ∨ u = 1 := by omega
  rcases e with rfl | rfl
  · exact ⟨_, rfl, .inl rfl⟩
  · exact ⟨_, rfl, .inr rfl⟩
theorem dep_c {v : V} (h : Dw.cel v = true) : (Dw.dat v).depth < 5 := by
  rw [(Dw.lay_dat h).2]
  decide
theorem td_cel {H : Hp} : ∀ {v : V}, Dw.cel v = true → Dw.Td H v (Dw.dat v)
  | .int i, _ => .int i
  | .non, _ => .non
end Ct

set_option maxRecDepth 100000
set_option maxHeartbeats 4000000
/-! books: pages, records, the writes of a noting -/
namespace Bk
open PySem PySem.Spec PyProof.Rows L2
/-! ### writes one behind the other -/
def setW (cs : List V) (w : Nat × Int) : List V := cs.set w.1 (.int w.2)
def setAll (cs : List V) (ws : List (Nat × Int)) : List V := ws.foldl setW cs
def wrs : Mm.Mem → List (Nat × Int) → Mm.Mem × Bool
  | m, [] => (m, true)
  | m, w :: r => if (m.write w.1 w.2).2 = true then wrs (m.write w.1 w.2).1 r else ((m.write w.1 w.2).1, false)
theorem wrs_cons {m : Mm.Mem} {w : Nat × Int} {r : List (Nat × Int)} : wrs m (w :: r) = if (m.write w.1 w.2).2 = true then wrs (m.write w.1 w.2).1 r else ((m.write w.1 w.2).1, false) := rfl
theorem wrs_len : ∀ (ws : List (Nat × Int)) (m : Mm.Mem), (wrs m ws).1.cells.length = m.cells.length
  | [], _ => rfl
  | w :: r, m => by
    rw [wrs_cons]
    split
    · rw [wrs_len r, Mm.write_len]
    · exact Mm.write_len _ _ _
theorem wrs_down : ∀ {ws : List (Nat × Int)} {m : Mm.Mem}, m.up = false → ws ≠ [] → wrs m ws = (m, false)
  | [], _, _, h => absurd rfl h
  | w :: r, m, hu, _ => by
    rw [wrs_cons, Mm.write_down hu]
    rfl
theorem setAll_len : ∀ (ws : List (Nat × Int)) (cs : List V), (setAll cs ws).length = cs.length
  | [], _ => rfl
  | w :: r, cs => by
    show (setAll (setW cs w) r).length = _
    rw [setAll_len r]
    exact List.length_set
theorem setAll_ok : ∀ (ws : List (Nat × Int)) (cs : List V), (∀ v ∈ cs, Ct.okc v) → (∀ w ∈ ws, 0 ≤ w.2 ∧ w.2 ≤ 9972) → ∀ v ∈ setAll cs ws, Ct.okc v
  | [], _, h, _ => h
  | w :: r, cs, h, hw => setAll_ok r (setW cs w) (Ct.ok_set h (.inr ⟨w.2, rfl, (hw w List.mem_cons_self).1, (hw w List.mem_cons_self).2⟩)) fun u hu => hw u (List.mem_cons_of_mem _ hu)
theorem wrs_ok : ∀ (ws : List (Nat × Int)) (m : Mm.Mem), (∀ v ∈ m.cells, Ct.okc v) → (∀ w ∈ ws, 0 ≤ w.2 ∧ w.2 ≤ 9972) → ∀ v ∈ (wrs m ws).1.cells, Ct.okc v
  | [], _, h, _ => h
  | w :: r, m, h, hw => by
    obtain ⟨h0, h1⟩ := hw w List.mem_cons_self
    rw [wrs_cons]
    split
    · exact wrs_ok r _ (Ct.ok_write h h0 h1) fun u hu => hw u (List.mem_cons_of_mem _ hu)
    · exact Ct.ok_write h h0 h1
theorem wrs_free : ∀ (ws : List (Nat × Int)) (cs : List V) (n : Int) (t : Str), wrs ⟨cs, n, true, none, t⟩ ws = (⟨setAll cs ws, n + (ws.length : Nat), true, none, t⟩, true)
  | [], cs, n, t => by
    show (_, _) = (_, _)
    rw [show n + (([] : List (Nat × Int)).length : Nat) = n from Int.add_zero n]
    rfl
  | w :: r, cs, n, t => by
    rw [wrs_cons, Ct.write_free rfl rfl, if_pos rfl, wrs_free r]
    rw [show n + 1 + (r.length : Nat) = n + ((w :: r).length : Nat) by rw [List.length_cons]; omega]
    rfl
theorem wrs_late : ∀ (ws : List (Nat × Int)) (cs : List V) (n : Int) (t : Str) (k : Nat), ws.length ≤ k → wrs ⟨cs, n, true, some k, t⟩ ws = (⟨setAll cs ws, n + (ws.length : Nat), true, some (k - ws.length), t⟩, true)
  | [], cs, n, t, k, _ => by
    show (_, _) = (_, _)
    rw [show n + (([] : List (Nat × Int)).length : Nat) = n from Int.add_zero n]
    rfl
  | w :: r, cs, n, t, k, h => by
    rw [List.length_cons] at h
    rw [wrs_cons, Mm.write_ok rfl (by intro z; injection z with z; omega), if_pos rfl]
    have ih := wrs_late r (cs.set w.1 (.int w.2)) (n + 1) t (k - 1) (by omega)
    show wrs ⟨cs.set w.1 (.int w.2), n + 1, true, some (k - 1), t⟩ r = _
    rw [ih, show n + 1 + (r.length : Nat) = n + ((w :: r).length : Nat) by rw [List.length_cons]; omega, show k - 1 - r.length = k - (w :: r).length by rw [List.length_cons]; omega]
    rfl
theorem wrs_cut : ∀ (ws : List (Nat × Int)) (cs : List V) (n : Int) (t : Str) (k : Nat) (w : Nat × Int), ws[k]? = some w → wrs ⟨cs, n, true, some k, t⟩ ws = (⟨Mm.tornTo t (setAll cs (ws.take k)) w.1 w.2, n + (k : Nat), false, none, t⟩, false)
  | [], _, _, _, _, _, h => by simp at h
  | u :: r, cs, n, t, 0, w, h => by
    have e : u = w := Option.some.inj h
    subst e
    rw [wrs_cons, Mm.write_cut rfl rfl, if_neg (by intro z; cases z)]
    rw [show n + ((0 : Nat) : Int) = n from Int.add_zero n]
    rfl
  | u :: r, cs, n, t, k + 1, w, h => by
    rw [wrs_cons, Mm.write_ok rfl (by intro z; injection z with z; omega), if_pos rfl]
    have ih := wrs_cut r (cs.set u.1 (.int u.2)) (n + 1) t k w (by simpa using h)
    show wrs ⟨cs.set u.1 (.int u.2), n + 1, true, some k, t⟩ r = _
    rw [ih, show n + 1 + (k : Nat) = n + ((k + 1 : Nat) : Int) by omega]
    rfl
/-! ### pages -/
/-- a page's number, 0 if it is none -/
def pgN : List V → Int
  | [.int a, .int b, .int c, .int d, .int e, .int f] => if Sm.sumsI [a, b, c, d] = (e, f) then a else 0
  | _ => 0
def pgR : List V → Int × Int × Int
  | [_, .int b, .int c, .int d, _, _] => (b, c, d)
  | _ => (0, 0, 0)
def pg (cs : List V) (j : Nat) : List V := (cs.drop j).take 6
/-- the page with the greatest number: number and record -/
def newest (p q : List V) : Option (Nat × Int × Int × Int × Int) :=
  if pgN p = 0 ∧ pgN q = 0 then none else if pgN q ≤ pgN p then some (0, pgN p, pgR p) else some (1, pgN q, pgR q)
def recO (p q : List V) : Option (Int × Int × Int) := (newest p q).map fun x => x.2.2
/-- which page a noting writes -/
def pw (p q : List V) : Nat := if pgN p = 0 ∧ pgN q = 0 then 0 else if pgN q ≤ pgN p then 1 else 0
/-- its number -/
def nn (p q : List V) : Int := 1 + (if pgN p ≤ pgN q then pgN q else pgN p)
/-- the writes of a noting -/
def noteW (f : Nat) (n b c d : Int) : List (Nat × Int) := [(f, 0), (f + 1, b), (f + 2, c), (f + 3, d), (f + 4, (Sm.sumsI [n, b, c, d]).1), (f + 5, (Sm.sumsI [n, b, c, d]).2), (f, n)]
theorem pgN_lo {p : List V} (h : ∀ v ∈ p, Ct.okc v) : 0 ≤ pgN p := by
  unfold pgN
  split
  · split
    · rcases h _ List.mem_cons_self with z | ⟨x, z, h0, _⟩
      · cases z
      · injection z with z
        subst z
        exact h0
    · exact Int.le_refl _
  · exact Int.le_refl _
theorem pgN_hi {p : List V} (h : ∀ v ∈ p, Ct.okc v) : pgN p ≤ 9972 := by
  unfold pgN
  split
  · split
    · rcases h _ List.mem_cons_self with z | ⟨x, z, _, h1⟩
      · cases z
      · injection z with z
        subst z
        exact h1
    · decide
  · decide
theorem pgN_zero {r : List V} : pgN (.int 0 :: r) = 0 := by
  unfold pgN
  split
  · rename_i h
    injection h with h _
    injection h with h
    subst h
    exact ite_self _
  · rfl
theorem pgN_non {r : List V} : pgN (.non :: r) = 0 := by
  unfold pgN
  split
  · rename_i h
    injection h with h _
    cases h
  · rfl
theorem pgN_of {a b c d e f : Int} (h : Sm.sumsI [a, b, c, d] = (e, f)) : pgN [.int a, .int b, .int c, .int d, .int e, .int f] = a := if_pos h
theorem pgN_not {a b c d e f : Int} (h : ¬ Sm.sumsI [a, b, c, d] = (e, f)) : pgN [.int a, .int b, .int c, .int d, .int e, .int f] = 0 := if_neg h
/-- a page with a broken cell is none -/
theorem pgN_broken {p : List V} (h : V.non ∈ p) : pgN p = 0 := by
  unfold pgN
  split
  · simp at h
  · rfl
theorem pg_len {cs : List V} {j : Nat} (h : j + 6 ≤ cs.length) : (pg cs j).length = 6 := by
  unfold pg
  rw [List.length_take, List.length_drop]
  omega
theorem pg_mem {cs : List V} {j : Nat} {v : V} (h : v ∈ pg cs j) : v ∈ cs := List.mem_of_mem_drop (List.mem_of_mem_take h)
theorem pg_at {cs : List V} {j k : Nat} (h : k < 6) : (pg cs j)[k]? = cs[j + k]? := by
  unfold pg
  rw [List.getElem?_take, if_pos h, List.getElem?_drop]
theorem pg_in {cs : List V} {j k : Nat} {v : V} (h : k < 6) : pg (cs.set (j + k) v) j = (pg cs j).set k v := by
  refine List.ext_getElem? fun i => ?_
  by_cases hi : i < 6
  · rw [pg_at hi, List.getElem?_set, List.getElem?_set, pg_at hi]
    by_cases e : k = i
    · subst e
      rw [if_pos rfl, if_pos rfl]
      unfold pg
      rw [List.length_take, List.length_drop]
      by_cases l : j + k < cs.length
      · rw [if_pos l, if_pos (by omega)]
      · rw [if_neg l, if_neg (by omega)]
    · rw [if_neg (by omega), if_neg e]
  · rw [List.getElem?_eq_none (by unfold pg; rw [List.length_take]; omega), List.getElem?_eq_none (by rw [List.length_set]; unfold pg; rw [List.length_take]; omega)]
theorem pg_out {cs : List V} {i j : Nat} {v : V} (h : i < j ∨ j + 6 ≤ i) : pg (cs.set i v) j = pg cs j := by
  refine List.ext_getElem? fun k => ?_
  by_cases hk : k < 6
  · rw [pg_at hk, pg_at hk, List.getElem?_set_ne (by omega)]
  · rw [List.getElem?_eq_none (by unfold pg; rw [List.length_take]; omega), List.getElem?_eq_none (by unfold pg; rw [List.length_take]; omega)]
theorem six : ∀ {p : List V}, p.length = 6 → ∃ a b c d e f, p = [a, b, c, d, e, f]
  | [a, b, c, d, e, f], _ => ⟨a, b, c, d, e, f, rfl⟩
  | [], h => by cases h
  | [_], h => by cases h
  | [_, _], h => by cases h
  | [_, _, _], h => by cases h
  | [_, _, _, _], h => by cases h
  | [_, _, _, _, _], h => by cases h
  | _ :: _ :: _ :: _ :: _ :: _ :: _ :: _, h => by simp at h
/-- writes within a page -/
theorem pg_all_in {j : Nat} : ∀ (rs : List (Nat × Int)) (cs : List V), (∀ w ∈ rs, w.1 < 6) → pg (setAll cs (rs.map fun w => (j + w.1, w.2))) j = setAll (pg cs j) rs
  | [], _, _ => rfl
  | w :: r, cs, h => by
    show pg (setAll (cs.set (j + w.1) (.int w.2)) (r.map fun w => (j + w.1, w.2))) j = setAll ((pg cs j).set w.1 (.int w.2)) r
    rw [pg_all_in r _ fun u hu => h u (List.mem_cons_of_mem _ hu), pg_in (h w List.mem_cons_self)]
theorem pg_all_out {i j : Nat} (hij : i + 6 ≤ j ∨ j + 6 ≤ i) : ∀ (rs : List (Nat × Int)) (cs : List V), (∀ w ∈ rs, w.1 < 6) → pg (setAll cs (rs.map fun w => (i + w.1, w.2))) j = pg cs j
  | [], _, _ => rfl
  | w :: r, cs, h => by
    have hw := h w List.mem_cons_self
    show pg (setAll (cs.set (i + w.1) (.int w.2)) (r.map fun w => (i + w.1, w.2))) j = pg cs j
    rw [pg_all_out hij r _ fun u hu => h u (List.mem_cons_of_mem _ hu), pg_out (by omega)]
theorem pg_torn_in {t : Str} {cs : List V} {j k : Nat} {v : Int} (h : k < 6) : pg (Mm.tornTo t cs (j + k) v) j = Mm.tornTo t (pg cs j) k v := by
  unfold Mm.tornTo
  split
  · exact pg_in h
  · split
    · exact pg_in h
    · rfl
theorem pg_torn_out {t : Str} {cs : List V} {i j : Nat} {v : Int} (h : i < j ∨ j + 6 ≤ i) : pg (Mm.tornTo t cs i v) j = pg cs j := by
  unfold Mm.tornTo
  split
  · exact pg_out h
  · split
    · exact pg_out h
    · rfl
/-- the same, counted from the page's first cell -/
def rel (n b c d : Int) : List (Nat × Int) := [(0, 0), (1, b), (2, c), (3, d), (4, (Sm.sumsI [n, b, c, d]).1), (5, (Sm.sumsI [n, b, c, d]).2), (0, n)]
theorem note_rel {f : Nat} {n b c d : Int} : noteW f n b c d = (rel n b c d).map fun w => (f + w.1, w.2) := rfl
theorem rel_lt {n b c d : Int} : ∀ w ∈ rel n b c d, w.1 < 6 := fun w h => by
  simp only [rel, List.mem_cons, List.not_mem_nil, or_false] at h
  rcases h with rfl | rfl | rfl | rfl | rfl | rfl | rfl
  · exact Nat.le_of_ble_eq_true rfl
  · exact Nat.le_of_ble_eq_true rfl
  · exact Nat.le_of_ble_eq_true rfl
  · exact Nat.le_of_ble_eq_true rfl
  · exact Nat.le_of_ble_eq_true rfl
  · exact Nat.le_of_ble_eq_true rfl
  · exact Nat.le_of_ble_eq_true rfl
theorem sums_rng (xs : List Int) : 0 ≤ (Sm.sumsI xs).1 ∧ (Sm.sumsI xs).1 ≤ 9972 ∧ 0 ≤ (Sm.sumsI xs).2 ∧ (Sm.sumsI xs).2 ≤ 9972 := by
  rw [Sm.sums_w]
  show 0 ≤ Sm.w1 xs % 9973 ∧ Sm.w1 xs % 9973 ≤ 9972 ∧ 0 ≤ Sm.w2 xs % 9973 ∧ Sm.w2 xs % 9973 ≤ 9972
  omega
theorem note_rng {f : Nat} {n b c d : Int} (hn : 0 ≤ n ∧ n ≤ 9972) (hb : 0 ≤ b ∧ b ≤ 9972) (hc : 0 ≤ c ∧ c ≤ 9972) (hd : 0 ≤ d ∧ d ≤ 9972) : ∀ w ∈ noteW f n b c d, 0 ≤ w.2 ∧ w.2 ≤ 9972 := fun w h => by
  obtain ⟨s0, s1, s2, s3⟩ := sums_rng [n, b, c, d]
  simp only [noteW, List.mem_cons, List.not_mem_nil, or_false] at h
  rcases h with rfl | rfl | rfl | rfl | rfl | rfl | rfl
  · exact ⟨Int.le_refl 0, (by decide : (0 : Int) ≤ 9972)⟩
  · exact hb
  · exact hc
  · exact hd
  · exact ⟨s0, s1⟩
  · exact ⟨s2, s3⟩
  · exact hn
/-- a page wholly written -/
theorem full {p : List V} (h : p.length = 6) {n b c d : Int} : setAll p (rel n b c d) = [.int n, .int b, .int c, .int d, .int (Sm.sumsI [n, b, c, d]).1, .int (Sm.sumsI [n, b, c, d]).2] := by
  obtain ⟨x0, x1, x2, x3, x4, x5, rfl⟩ := six h
  rfl
theorem full_N {p : List V} (h : p.length = 6) {n b c d : Int} : pgN (setAll p (rel n b c d)) = n ∧ pgR (setAll p (rel n b c d)) = (b, c, d) := by
  rw [full h]
  exact ⟨pgN_of rfl, rfl⟩
/-- a page of which a noting was stopped: as it was, or none, or wholly written -/
theorem part {p : List V} (h : p.length = 6) {n b c d : Int} {k : Nat} {w : Nat × Int} {t : Str} (hw : (rel n b c d)[k]? = some w) (ht : t = "old" ∨ t = "broken" ∨ t = "new") :
    Mm.tornTo t (setAll p ((rel n b c d).take k)) w.1 w.2 = p ∨ pgN (Mm.tornTo t (setAll p ((rel n b c d).take k)) w.1 w.2) = 0 ∨ Mm.tornTo t (setAll p ((rel n b c d).take k)) w.1 w.2 = setAll p (rel n b c d) := by
  obtain ⟨x0, x1, x2, x3, x4, x5, rfl⟩ := six h
  have tO : ∀ (cs : List V) (j : Nat) (v : Int), Mm.tornTo "old" cs j v = cs := fun cs j v => (if_neg (by decide +kernel)).trans (if_neg (by decide +kernel))
  have tB : ∀ (cs : List V) (j : Nat) (v : Int), Mm.tornTo "broken" cs j v = cs.set j .non := fun cs j v => if_pos rfl
  have tN : ∀ (cs : List V) (j : Nat) (v : Int), Mm.tornTo "new" cs j v = cs.set j (.int v) := fun cs j v => (if_neg (by decide +kernel)).trans (if_pos rfl)
  match k, hw with
  | 0, hw =>
    have e := Option.some.inj hw
    subst e
    rcases ht with rfl | rfl | rfl
    · exact .inl (tO _ _ _)
    · rw [tB]
      exact .inr (.inl pgN_non)
    · rw [tN]
      exact .inr (.inl pgN_zero)
  | 1, hw =>
    have e := Option.some.inj hw
    subst e
    rcases ht with rfl | rfl | rfl
    · rw [tO]; exact .inr (.inl pgN_zero)
    · rw [tB]; exact .inr (.inl pgN_zero)
    · rw [tN]; exact .inr (.inl pgN_zero)
  | 2, hw =>
    have e := Option.some.inj hw
    subst e
    rcases ht with rfl | rfl | rfl
    · rw [tO]; exact .inr (.inl pgN_zero)
    · rw [tB]; exact .inr (.inl pgN_zero)
    · rw [tN]; exact .inr (.inl pgN_zero)
  | 3, hw =>
    have e := Option.some.inj hw
    subst e
    rcases ht with rfl | rfl | rfl
    · rw [tO]; exact .inr (.inl pgN_zero)
    · rw [tB]; exact .inr (.inl pgN_zero)
    · rw [tN]; exact .inr (.inl pgN_zero)
  | 4, hw =>
    have e := Option.some.inj hw
    subst e
    rcases ht with rfl | rfl | rfl
    · rw [tO]; exact .inr (.inl pgN_zero)
    · rw [tB]; exact .inr (.inl pgN_zero)
    · rw [tN]; exact .inr (.inl pgN_zero)
  | 5, hw =>
    have e := Option.some.inj hw
    subst e
    rcases ht with rfl | rfl | rfl
    · rw [tO]; exact .inr (.inl pgN_zero)
    · rw [tB]; exact .inr (.inl pgN_zero)
    · rw [tN]; exact .inr (.inl pgN_zero)
  | 6, hw =>
    have e := Option.some.inj hw
    subst e
    rcases ht with rfl | rfl | rfl
    · rw [tO]; exact .inr (.inl pgN_zero)
    · rw [tB]; exact .inr (.inl pgN_non)
    · rw [tN]; exact .inr (.inr rfl)
  | k + 7, hw => simp [rel] at hw
theorem pg_ints {p : List V} (h : pgN p ≠ 0) : ∃ a b c d e f : Int, p = [.int a, .int b, .int c, .int d, .int e, .int f] ∧ pgR p = (b, c, d) ∧ pgN p = a := by
  unfold pgN at h
  split at h
  · rename_i a b c d e f
    by_cases z : Sm.sumsI [a, b, c, d] = (e, f)
    · exact ⟨a, b, c, d, e, f, rfl, rfl, pgN_of z⟩
    · rw [if_neg z] at h
      exact absurd rfl h
  · exact absurd rfl h
theorem cut_mid (xs : List V) (a b : Nat) (h : a ≤ b) : cutV xs (some (a : Int)) (some (b : Int)) = (xs.drop a).take (b - a) := by
  unfold cutV
  rw [HT.sIx_nat, HT.sIx_nat]
  by_cases ha : a ≤ xs.length
  · rw [Nat.min_eq_left ha]
    by_cases hb : b ≤ xs.length
    · rw [Nat.min_eq_left hb]
    · rw [Nat.min_eq_right (by omega), List.take_of_length_le (by rw [List.length_drop]; omega), List.take_of_length_le (by rw [List.length_drop]; omega)]
  · rw [Nat.min_eq_right (show xs.length ≤ a by omega), List.drop_of_length_le (Nat.le_refl _), List.drop_of_length_le (show xs.length ≤ a by omega), List.take_nil, List.take_nil]
theorem pg_row0 (cs : List V) (j : Nat) : ((cs.drop j).take 12).take 6 = pg cs j := by
  unfold pg
  rw [List.take_take]
  rfl
theorem pg_row6 (cs : List V) (j : Nat) : ((cs.drop j).take 12).drop 6 = pg cs (j + 6) := by
  unfold pg
  rw [List.drop_take, List.drop_drop]
/-- the newest page, as it is told -/
def newV (p q : List V) : V := if pgN p = 0 ∧ pgN q = 0 then .non else if pgN q ≤ pgN p then .int 0 else .int 1
/-! ### promises of books -/
def spPages (C CS : Addr) : Sp := fun vs H Q E => ∃ (p l : Addr) (m : Mm.Mem) (j : Nat), vs = [.ref p, .int (j : Int)] ∧ Mm.MemAt C p l m H ∧ j + 12 ≤ m.cells.length ∧
  (m.up = true → ∀ H' b u v, Same H H' → H' b = some (.lst [.ref u, .ref v]) → H' u = some (.lst (pg m.cells j)) → H' v = some (.lst (pg m.cells (j + 6))) → Q (.ref b) H') ∧ (m.up = false → E (.ref CS) none H)
def spNumberOf (K : PySem.W.Frag) : Sp := fun vs H Q _ => ∃ (b : Addr) (p : List V), vs = [.ref b] ∧ SqL K H b p ∧ p.length = 6 ∧ (∀ v ∈ p, Ct.okc v) ∧ ∀ H', Same H H' → Q (.int (pgN p)) H'
def spNewestOf (K : PySem.W.Frag) : Sp := fun vs H Q _ => ∃ (b u v : Addr) (p q : List V), vs = [.ref b] ∧ SqL K H b [.ref u, .ref v] ∧ SqL K H u p ∧ SqL K H v q ∧ p.length = 6 ∧ q.length = 6 ∧ (∀ v ∈ p, Ct.okc v) ∧ (∀ v ∈ q, Ct.okc v) ∧ ∀ H', Same H H' → Q (newV p q) H'
def spToWrite (K : PySem.W.Frag) : Sp := fun vs H Q _ => ∃ (b u v : Addr) (p q : List V), vs = [.ref b] ∧ SqL K H b [.ref u, .ref v] ∧ SqL K H u p ∧ SqL K H v q ∧ p.length = 6 ∧ q.length = 6 ∧ (∀ v ∈ p, Ct.okc v) ∧ (∀ v ∈ q, Ct.okc v) ∧ ∀ H', Same H H' → Q (.int (pw p q : Nat)) H'
/-! ### what a noting makes of the record -/
def recAt (cs : List V) (j : Nat) : Option (Int × Int × Int) := recO (pg cs j) (pg cs (j + 6))
def fst6 (cs : List V) (j : Nat) : Nat := j + 6 * pw (pg cs j) (pg cs (j + 6))
def nextN (cs : List V) (j : Nat) : Int := nn (pg cs j) (pg cs (j + 6))
def noteAt (cs : List V) (j : Nat) (b c d : Int) : List (Nat × Int) := noteW (fst6 cs j) (nextN cs j) b c d
theorem nn_pos {p q : List V} (hp : ∀ v ∈ p, Ct.okc v) (hq : ∀ v ∈ q, Ct.okc v) : 1 ≤ nn p q ∧ pgN p < nn p q ∧ pgN q < nn p q := by
  have := pgN_lo hp
  have := pgN_lo hq
  unfold nn
  split <;> omega
/-- the record behind: pages p', q', the one that was written new -/
theorem rec_new {p q p' q' : List V} {b c d : Int} (hp : ∀ v ∈ p, Ct.okc v) (hq : ∀ v ∈ q, Ct.okc v) (h : (pw p q = 0 ∧ q' = q ∧ pgN p' = nn p q ∧ pgR p' = (b, c, d)) ∨ (pw p q = 1 ∧ p' = p ∧ pgN q' = nn p q ∧ pgR q' = (b, c, d))) : recO p' q' = some (b, c, d) := by
  obtain ⟨n1, n2, n3⟩ := nn_pos hp hq
  unfold recO newest
  rcases h with ⟨_, rfl, e1, e2⟩ | ⟨_, rfl, e1, e2⟩
  · rw [if_neg (by omega), if_pos (by omega), e2]
    rfl
  · rw [if_neg (by omega), if_neg (by omega), e2]
    rfl
/-- .. none -/
theorem rec_old {p q p' q' : List V} (hp : ∀ v ∈ p, Ct.okc v) (hq : ∀ v ∈ q, Ct.okc v) (h : (pw p q = 0 ∧ q' = q ∧ pgN p' = 0) ∨ (pw p q = 1 ∧ p' = p ∧ pgN q' = 0)) : recO p' q' = recO p q := by
  have l1 := pgN_lo hp
  have l2 := pgN_lo hq
  unfold pw at h
  unfold recO newest
  by_cases h0 : pgN p = 0 ∧ pgN q = 0
  · rw [if_pos h0] at h ⊢
    rcases h with ⟨_, rfl, e⟩ | ⟨z, _⟩
    · rw [if_pos ⟨e, h0.2⟩]
    · cases z
  · rw [if_neg h0] at h ⊢
    by_cases hle : pgN q ≤ pgN p
    · rw [if_pos hle] at h ⊢
      rcases h with ⟨z, _⟩ | ⟨_, rfl, e⟩
      · cases z
      · rw [if_neg (by omega), if_pos (by omega)]
    · rw [if_neg hle] at h ⊢
      rcases h with ⟨_, rfl, e⟩ | ⟨z, _⟩
      · rw [if_neg (by omega), if_neg (by omega)]
      · cases z
theorem pw_two (p q : List V) : pw p q = 0 ∨ pw p q = 1 := by
  unfold pw
  split
  · exact .inl rfl
  · split
    · exact .inr rfl
    · exact .inl rfl
section
variable {cs : List V} {j : Nat} {b c d : Int}
theorem pg_ok (ok : ∀ v ∈ cs, Ct.okc v) (i : Nat) : ∀ v ∈ pg cs i, Ct.okc v := fun v h => ok v (pg_mem h)
theorem note_whole (hl : j + 12 ≤ cs.length) (ok : ∀ v ∈ cs, Ct.okc v) : recAt (setAll cs (noteAt cs j b c d)) j = some (b, c, d) := by
  have okp : ∀ v ∈ pg cs j, Ct.okc v := fun v h => ok v (pg_mem h)
  have okq : ∀ v ∈ pg cs (j + 6), Ct.okc v := fun v h => ok v (pg_mem h)
  unfold recAt noteAt
  rw [note_rel]
  refine rec_new (p := pg cs j) (q := pg cs (j + 6)) okp okq ?_
  rcases pw_two (pg cs j) (pg cs (j + 6)) with e | e
  · have ef : fst6 cs j = j := by
      unfold fst6
      rw [e]
      rfl
    rw [ef, pg_all_in _ _ rel_lt, pg_all_out (.inl (Nat.le_refl _)) _ _ rel_lt]
    obtain ⟨h1, h2⟩ := full_N (p := pg cs j) (n := nextN cs j) (b := b) (c := c) (d := d) (pg_len (by omega))
    exact .inl ⟨e, rfl, h1, h2⟩
  · have ef : fst6 cs j = j + 6 := by
      unfold fst6
      rw [e]
    rw [ef, pg_all_in _ _ rel_lt, pg_all_out (.inr (Nat.le_refl _)) _ _ rel_lt]
    obtain ⟨h1, h2⟩ := full_N (p := pg cs (j + 6)) (n := nextN cs j) (b := b) (c := c) (d := d) (pg_len (by omega))
    exact .inr ⟨e, rfl, h1, h2⟩
theorem note_part (hl : j + 12 ≤ cs.length) (ok : ∀ v ∈ cs, Ct.okc v) {k : Nat} {w : Nat × Int} {t : Str} (hw : (noteAt cs j b c d)[k]? = some w) (ht : t = "old" ∨ t = "broken" ∨ t = "new") :
    recAt (Mm.tornTo t (setAll cs ((noteAt cs j b c d).take k)) w.1 w.2) j = recAt cs j ∨ recAt (Mm.tornTo t (setAll cs ((noteAt cs j b c d).take k)) w.1 w.2) j = some (b, c, d) := by
  have okp : ∀ v ∈ pg cs j, Ct.okc v := fun v h => ok v (pg_mem h)
  have okq : ∀ v ∈ pg cs (j + 6), Ct.okc v := fun v h => ok v (pg_mem h)
  unfold noteAt at hw ⊢
  rw [note_rel, List.getElem?_map] at hw
  rw [note_rel, ← List.map_take]
  cases hr : (rel (nextN cs j) b c d)[k]? with
  | none =>
    rw [hr] at hw
    cases hw
  | some u =>
    rw [hr] at hw
    have e := Option.some.inj hw
    subst e
    have hu := rel_lt u (List.mem_of_getElem? hr)
    have htk : ∀ w ∈ (rel (nextN cs j) b c d).take k, w.1 < 6 := fun w hw => rel_lt w (List.mem_of_mem_take hw)
    unfold recAt
    dsimp only
    rcases pw_two (pg cs j) (pg cs (j + 6)) with e | e
    · have ef : fst6 cs j = j := by
        unfold fst6
        rw [e]
        rfl
      rw [ef, pg_torn_in hu, pg_torn_out (by omega), pg_all_in _ _ htk, pg_all_out (.inl (Nat.le_refl _)) _ _ htk]
      rcases part (p := pg cs j) (pg_len (by omega)) hr ht with z | z | z
      · rw [z]
        exact .inl rfl
      · exact .inl (rec_old okp okq (.inl ⟨e, rfl, z⟩))
      · rw [z]
        obtain ⟨h1, h2⟩ := full_N (p := pg cs j) (n := nextN cs j) (b := b) (c := c) (d := d) (pg_len (by omega))
        exact .inr (rec_new okp okq (.inl ⟨e, rfl, h1, h2⟩))
    · have ef : fst6 cs j = j + 6 := by
        unfold fst6
        rw [e]
      rw [ef, pg_torn_in hu, pg_torn_out (i := j + 6 + u.1) (j := j) (by omega), pg_all_in _ _ htk, pg_all_out (.inr (Nat.le_refl _)) _ _ htk]
      rcases part (p := pg cs (j + 6)) (pg_len (by omega)) hr ht with z | z | z
      · rw [z]
        exact .inl rfl
      · exact .inl (rec_old okp okq (.inr ⟨e, rfl, z⟩))
      · rw [z]
        obtain ⟨h1, h2⟩ := full_N (p := pg cs (j + 6)) (n := nextN cs j) (b := b) (c := c) (d := d) (pg_len (by omega))
        exact .inr (rec_new okp okq (.inr ⟨e, rfl, h1, h2⟩))
end
/-! ### the law's own looks -/
def nstep (acc : Option (Nat × Int × Int × Int × Int)) (w : Nat) (p : List V) : Option (Nat × Int × Int × Int × Int) :=
  if pgN p = 0 then acc else match acc with
    | none => some (w, pgN p, pgR p)
    | some x => if x.2.1 < pgN p then some (w, pgN p, pgR p) else some x
theorem newest_steps {p q : List V} (hp : ∀ v ∈ p, Ct.okc v) (hq : ∀ v ∈ q, Ct.okc v) : nstep (nstep none 0 p) 1 q = newest p q := by
  have := pgN_lo hp
  have := pgN_lo hq
  unfold nstep newest
  by_cases h0 : pgN p = 0
  · rw [if_pos h0]
    by_cases h1 : pgN q = 0
    · rw [if_pos h1, if_pos ⟨h0, h1⟩]
    · rw [if_neg h1, if_neg (by omega), if_neg (by omega)]
  · rw [if_neg h0, if_neg (by omega : ¬ (pgN p = 0 ∧ pgN q = 0))]
    dsimp only
    by_cases h1 : pgN q = 0
    · rw [if_pos h1, if_pos (by omega)]
    · rw [if_neg h1]
      by_cases h2 : pgN p < pgN q
      · rw [if_pos h2, if_neg (by omega)]
      · rw [if_neg h2, if_pos (by omega)]
theorem newest_pw {p q : List V} : (newest p q = none ∧ pw p q = 0 ∧ (0 ≤ pgN p → 0 ≤ pgN q → nn p q = 1)) ∨ (∃ n r, newest p q = some (0, n, r) ∧ pw p q = 1 ∧ nn p q = 1 + n) ∨ (∃ n r, newest p q = some (1, n, r) ∧ pw p q = 0 ∧ nn p q = 1 + n) := by
  unfold newest pw nn
  by_cases h0 : pgN p = 0 ∧ pgN q = 0
  · rw [if_pos h0, if_pos h0]
    refine .inl ⟨rfl, rfl, fun _ _ => ?_⟩
    rw [h0.1, h0.2]
    rfl
  · rw [if_neg h0, if_neg h0]
    by_cases h1 : pgN q ≤ pgN p
    · rw [if_pos h1, if_pos h1]
      refine .inr (.inl ⟨_, _, rfl, rfl, ?_⟩)
      split
      · have : pgN p = pgN q := by omega
        rw [this]
      · rfl
    · rw [if_neg h1, if_neg h1]
      refine .inr (.inr ⟨_, _, rfl, rfl, ?_⟩)
      rw [if_pos (by omega)]
/-- what newest tells, as it stands -/
def NewV (H : Hp) (x : V) : Option (Nat × Int × Int × Int × Int) → Prop
  | none => x = .non
  | some r => ∃ t u : Addr, x = .ref t ∧ H t = some (.tup [.int (r.1 : Nat), .int r.2.1, .ref u]) ∧ H u = some (.tup [.int r.2.2.1, .int r.2.2.2.1, .int r.2.2.2.2])
theorem NewV.mono {H H' : Hp} {x : V} (s : Same H H') : ∀ {o : Option (Nat × Int × Int × Int × Int)}, NewV H x o → NewV H' x o
  | none, h => h
  | some _, ⟨t, u, e, h1, h2⟩ => ⟨t, u, e, s _ _ h1, s _ _ h2⟩
/-- tuples of a place and a number -/
def Pairs (H : Hp) : List Addr → List (Nat × Int) → Prop
  | [], [] => True
  | a :: as, w :: ws => H a = some (.tup [.int (w.1 : Nat), .int w.2]) ∧ Pairs H as ws
  | _, _ => False
theorem Pairs.mono {H H' : Hp} (s : Same H H') : ∀ {as : List Addr} {ws : List (Nat × Int)}, Pairs H as ws → Pairs H' as ws
  | [], [], _ => True.intro
  | _ :: _, _ :: _, ⟨h, r⟩ => ⟨s _ _ h, Pairs.mono s r⟩
theorem Pairs.keep {H H' : Hp} (k : ∀ a u, H a = some (.tup u) → H' a = some (.tup u)) : ∀ {as : List Addr} {ws : List (Nat × Int)}, Pairs H as ws → Pairs H' as ws
  | [], [], _ => True.intro
  | _ :: _, _ :: _, ⟨h, r⟩ => ⟨k _ _ h, Pairs.keep k r⟩
theorem note_lt {cs : List V} {j : Nat} {b c d : Int} : ∀ w ∈ noteAt cs j b c d, w.1 < j + 12 := fun w h => by
  have hp : fst6 cs j ≤ j + 6 := by
    unfold fst6
    unfold pw
    split
    · omega
    · split <;> omega
  unfold noteAt at h
  rw [note_rel] at h
  obtain ⟨u, hu, rfl⟩ := List.mem_map.mp h
  have := rel_lt u hu
  show fst6 cs j + u.1 < j + 12
  omega
theorem setAll_next {cs : List V} {ws : List (Nat × Int)} {m : Nat} {w : Nat × Int} (h : ws[m]? = some w) : setAll cs (ws.take (m + 1)) = (setAll cs (ws.take m)).set w.1 (.int w.2) := by
  rw [List.take_add_one, h]
  unfold setAll
  rw [List.foldl_append]
  rfl
theorem Pairs.app {H : Hp} : ∀ {as bs : List Addr} {ws us : List (Nat × Int)}, Pairs H as ws → Pairs H bs us → Pairs H (as ++ bs) (ws ++ us)
  | [], _, [], _, _, h => h
  | _ :: _, _, _ :: _, _, ⟨h, r⟩, g => ⟨h, Pairs.app r g⟩
theorem Pairs.len {H : Hp} : ∀ {as : List Addr} {ws : List (Nat × Int)}, Pairs H as ws → as.length = ws.length
  | [], [], _ => rfl
  | _ :: _, _ :: _, ⟨_, r⟩ => congrArg (· + 1) (Pairs.len r)
theorem Pairs.at {H : Hp} : ∀ {as : List Addr} {ws : List (Nat × Int)} {i : Nat} {a : Addr}, Pairs H as ws → as[i]? = some a → ∃ w, ws[i]? = some w ∧ H a = some (.tup [.int (w.1 : Nat), .int w.2])
  | [], [], _, _, _, h => by simp at h
  | _ :: _, w :: _, 0, _, ⟨h, _⟩, e => by
    have e := Option.some.inj e
    subst e
    exact ⟨w, rfl, h⟩
  | _ :: as, _ :: ws, i + 1, a, ⟨_, r⟩, e => by
    obtain ⟨w, h1, h2⟩ := Pairs.at (i := i) r (by simpa using e)
    exact ⟨w, by simpa using h1, h2⟩
theorem flat_ok : ∀ {cs : List V}, (∀ v ∈ cs, Ct.okc v) → cs.all flatV = true
  | [], _ => rfl
  | v :: r, h => by
    rw [List.all_cons, flat_ok fun u m => h u (List.mem_cons_of_mem _ m)]
    rcases h v List.mem_cons_self with rfl | ⟨x, rfl, _⟩ <;> rfl
theorem inV_non : ∀ {cs : List V}, (∀ v ∈ cs, Ct.okc v) → inV .non cs = decide (V.non ∈ cs)
  | [], _ => rfl
  | v :: r, h => by
    have ih := inV_non (cs := r) fun u m => h u (List.mem_cons_of_mem _ m)
    unfold inV at ih ⊢
    rw [List.any_cons, ih]
    rcases h v List.mem_cons_self with rfl | ⟨x, rfl, _⟩
    · simp [eqV]
    · simp [eqV]
theorem all_ints : ∀ {cs : List V}, (∀ v ∈ cs, Ct.okc v) → ¬ V.non ∈ cs → ∃ xs : List Int, cs = xs.map V.int ∧ ∀ x ∈ xs, 0 ≤ x ∧ x ≤ 9972
  | [], _, _ => ⟨[], rfl, fun _ h => by cases h⟩
  | v :: r, h, n => by
    obtain ⟨xs, e, b⟩ := all_ints (cs := r) (fun u m => h u (List.mem_cons_of_mem _ m)) (fun m => n (List.mem_cons_of_mem _ m))
    rcases h v List.mem_cons_self with rfl | ⟨x, rfl, x0, x1⟩
    · exact absurd List.mem_cons_self n
    · refine ⟨x :: xs, by rw [e]; rfl, fun y hy => ?_⟩
      rcases List.mem_cons.mp hy with z | z
      · rw [z]
        exact ⟨x0, x1⟩
      · exact b y z
theorem sixI : ∀ {p : List Int}, p.length = 6 → ∃ a b c d e f, p = [a, b, c, d, e, f]
  | [a, b, c, d, e, f], _ => ⟨a, b, c, d, e, f, rfl⟩
  | [], h => by cases h
  | [_], h => by cases h
  | [_, _], h => by cases h
  | [_, _, _], h => by cases h
  | [_, _, _, _], h => by cases h
  | [_, _, _, _, _], h => by cases h
  | _ :: _ :: _ :: _ :: _ :: _ :: _ :: _, h => by simp at h
/-- a record told: None, or a tuple of three -/
def RecV (H : Hp) (x : V) : Option (Int × Int × Int) → Prop
  | none => x = .non
  | some r => ∃ t : Addr, x = .ref t ∧ H t = some (.tup [.int r.1, .int r.2.1, .int r.2.2])
def spRecord (C CS : Addr) : Sp := fun vs H Q E => ∃ (p l : Addr) (m : Mm.Mem) (j : Nat), vs = [.ref p, .int (j : Int)] ∧ Mm.MemAt C p l m H ∧ j + 12 ≤ m.cells.length ∧ (∀ v ∈ m.cells, Ct.okc v) ∧
  (m.up = true → ∀ H' x, Same H H' → RecV H' x (recAt m.cells j) → (∀ t, x = .ref t → H t = none) → Q x H') ∧ (m.up = false → E (.ref CS) none H)
def spNote (K : PySem.W.Frag) (C CS : Addr) : Sp := fun vs H Q E => ∃ (p l t : Addr) (m : Mm.Mem) (j : Nat) (b c d : Int), vs = [.ref p, .int (j : Int), .ref t] ∧ Mm.MemAt C p l m H ∧ SqT K H t [.int b, .int c, .int d] ∧ j + 12 ≤ m.cells.length ∧ (∀ v ∈ m.cells, Ct.okc v) ∧
  (0 ≤ b ∧ b ≤ 9972) ∧ (0 ≤ c ∧ c ≤ 9972) ∧ (0 ≤ d ∧ d ≤ 9972) ∧ nextN m.cells j ≤ 9972 ∧
  ∀ H', Mm.MemAt C p l (wrs m (noteAt m.cells j b c d)).1 H' → Mm.But [p, l] H H' → ((wrs m (noteAt m.cells j b c d)).2 = true → Q .non H') ∧ ((wrs m (noteAt m.cells j b c d)).2 = false → E (.ref CS) none H')
end Bk

set_option maxRecDepth 100000
set_option maxHeartbeats 4000000
set_option pp.maxSteps 1500
namespace K08
open PySem PySem.Spec PyProof.Rows L2
def topS (i : Nat) : Stmt := PySem.Challenge.pw_twoimages_k08_whole_the_elder_or_the_new.main.body.getD i (.Pass ⟨0, 0, 0, 0⟩)
abbrev s_check_worth : Stmt := topS 13
abbrev N_check_worth : List Str := ["worth"]
abbrev P_check_worth : List Str := ["worth"]
theorem sc_check_worth : FnScope N_check_worth P_check_worth (defScope s_check_worth) := ⟨rfl, rfl, rfl, by decide +kernel, rfl, by decide +kernel, by decide +kernel⟩
abbrev s_Memory___init__ : Stmt := inClass (topS 14) 0
abbrev N_Memory___init__ : List Str := ["self", "size"]
abbrev P_Memory___init__ : List Str := ["self", "size"]
theorem sc_Memory___init__ : FnScope N_Memory___init__ P_Memory___init__ (defScope s_Memory___init__) := ⟨rfl, rfl, rfl, by decide +kernel, rfl, by decide +kernel, by decide +kernel⟩
abbrev s_Memory_row : Stmt := inClass (topS 14) 2
abbrev N_Memory_row : List Str := ["self", "place", "many", "at"]
abbrev P_Memory_row : List Str := ["self", "place", "many"]
theorem sc_Memory_row : FnScope N_Memory_row P_Memory_row (defScope s_Memory_row) := ⟨rfl, rfl, rfl, by decide +kernel, rfl, by decide +kernel, by decide +kernel⟩
abbrev s_Memory_write : Stmt := inClass (topS 14) 3
abbrev N_Memory_write : List Str := ["self", "place", "worth"]
abbrev P_Memory_write : List Str := ["self", "place", "worth"]
theorem sc_Memory_write : FnScope N_Memory_write P_Memory_write (defScope s_Memory_write) := ⟨rfl, rfl, rfl, by decide +kernel, rfl, by decide +kernel, by decide +kernel⟩
abbrev s_Memory_cut : Stmt := inClass (topS 14) 6
abbrev N_Memory_cut : List Str := ["self", "many", "torn"]
abbrev P_Memory_cut : List Str := ["self", "many", "torn"]
theorem sc_Memory_cut : FnScope N_Memory_cut P_Memory_cut (defScope s_Memory_cut) := ⟨rfl, rfl, rfl, by decide +kernel, rfl, by decide +kernel, by decide +kernel⟩
abbrev s_Memory_up : Stmt := inClass (topS 14) 7
abbrev N_Memory_up : List Str := ["self"]
abbrev P_Memory_up : List Str := ["self"]
theorem sc_Memory_up : FnScope N_Memory_up P_Memory_up (defScope s_Memory_up) := ⟨rfl, rfl, rfl, by decide +kernel, rfl, by decide +kernel, by decide +kernel⟩
abbrev s_Memory_cells : Stmt := inClass (topS 14) 8
abbrev N_Memory_cells : List Str := ["self"]
abbrev P_Memory_cells : List Str := ["self"]
theorem sc_Memory_cells : FnScope N_Memory_cells P_Memory_cells (defScope s_Memory_cells) := ⟨rfl, rfl, rfl, by decide +kernel, rfl, by decide +kernel, by decide +kernel⟩
abbrev s_Memory__check_place : Stmt := inClass (topS 14) 10
abbrev N_Memory__check_place : List Str := ["self", "place"]
abbrev P_Memory__check_place : List Str := ["self", "place"]
theorem sc_Memory__check_place : FnScope N_Memory__check_place P_Memory__check_place (defScope s_Memory__check_place) := ⟨rfl, rfl, rfl, by decide +kernel, rfl, by decide +kernel, by decide +kernel⟩
abbrev s_Memory__check_power : Stmt := inClass (topS 14) 11
abbrev N_Memory__check_power : List Str := ["self"]
abbrev P_Memory__check_power : List Str := ["self"]
theorem sc_Memory__check_power : FnScope N_Memory__check_power P_Memory__check_power (defScope s_Memory__check_power) := ⟨rfl, rfl, rfl, by decide +kernel, rfl, by decide +kernel, by decide +kernel⟩
abbrev s_Memory__lose_power : Stmt := inClass (topS 14) 12
abbrev N_Memory__lose_power : List Str := ["self", "place", "worth"]
abbrev P_Memory__lose_power : List Str := ["self", "place", "worth"]
theorem sc_Memory__lose_power : FnScope N_Memory__lose_power P_Memory__lose_power (defScope s_Memory__lose_power) := ⟨rfl, rfl, rfl, by decide +kernel, rfl, by decide +kernel, by decide +kernel⟩
abbrev s_check_handed : Stmt := topS 16
abbrev N_check_handed : List Str := ["memory", "place", "many", "row", "worth"]
abbrev P_check_handed : List Str := ["memory", "place", "many", "row"]
theorem sc_check_handed : FnScope N_check_handed P_check_handed (defScope s_check_handed) := ⟨rfl, rfl, rfl, by decide +kernel, rfl, by decide +kernel, by decide +kernel⟩
abbrev s_sums : Stmt := topS 19
abbrev N_sums : List Str := ["row", "one", "two", "worth"]
abbrev P_sums : List Str := ["row"]
theorem sc_sums : FnScope N_sums P_sums (defScope s_sums) := ⟨rfl, rfl, rfl, by decide +kernel, rfl, by decide +kernel, by decide +kernel⟩
abbrev s_record : Stmt := topS 24
abbrev N_record : List Str := ["memory", "place", "pages", "newest"]
abbrev P_record : List Str := ["memory", "place"]
theorem sc_record : FnScope N_record P_record (defScope s_record) := ⟨rfl, rfl, rfl, by decide +kernel, rfl, by decide +kernel, by decide +kernel⟩
abbrev s_note : Stmt := topS 25
abbrev N_note : List Str := ["memory", "place", "row", "pages", "number", "one", "two", "first", "at", "worth", "page"]
abbrev P_note : List Str := ["memory", "place", "row"]
theorem sc_note : FnScope N_note P_note (defScope s_note) := ⟨rfl, rfl, rfl, by decide +kernel, rfl, by decide +kernel, by decide +kernel⟩
abbrev s_both_pages : Stmt := topS 26
abbrev N_both_pages : List Str := ["memory", "place", "cells"]
abbrev P_both_pages : List Str := ["memory", "place"]
theorem sc_both_pages : FnScope N_both_pages P_both_pages (defScope s_both_pages) := ⟨rfl, rfl, rfl, by decide +kernel, rfl, by decide +kernel, by decide +kernel⟩
abbrev s_number_of : Stmt := topS 27
abbrev N_number_of : List Str := ["page"]
abbrev P_number_of : List Str := ["page"]
theorem sc_number_of : FnScope N_number_of P_number_of (defScope s_number_of) := ⟨rfl, rfl, rfl, by decide +kernel, rfl, by decide +kernel, by decide +kernel⟩
abbrev s_newest_of : Stmt := topS 28
abbrev N_newest_of : List Str := ["pages", "first", "second", "page"]
abbrev P_newest_of : List Str := ["pages"]
theorem sc_newest_of : FnScope N_newest_of P_newest_of (defScope s_newest_of) := ⟨rfl, rfl, rfl, by decide +kernel, rfl, by decide +kernel, by decide +kernel⟩
abbrev s_page_to_write : Stmt := topS 29
abbrev N_page_to_write : List Str := ["pages", "newest"]
abbrev P_page_to_write : List Str := ["pages"]
theorem sc_page_to_write : FnScope N_page_to_write P_page_to_write (defScope s_page_to_write) := ⟨rfl, rfl, rfl, by decide +kernel, rfl, by decide +kernel, by decide +kernel⟩
abbrev s_l_taken : Stmt := topS 31
abbrev N_l_taken : List Str := ["_law_row", "_law_many", "_law_found", "_law_cell"]
abbrev P_l_taken : List Str := ["_law_row", "_law_many"]
theorem sc_l_taken : FnScope N_l_taken P_l_taken (defScope s_l_taken) := ⟨rfl, rfl, rfl, by decide +kernel, rfl, by decide +kernel, by decide +kernel⟩
abbrev s_l_sums : Stmt := topS 32
abbrev N_l_sums : List Str := ["_law_some", "_law_one", "_law_two", "_law_number", "_law_k"]
abbrev P_l_sums : List Str := ["_law_some"]
theorem sc_l_sums : FnScope N_l_sums P_l_sums (defScope s_l_sums) := ⟨rfl, rfl, rfl, by decide +kernel, rfl, by decide +kernel, by decide +kernel⟩
abbrev s_l_newest : Stmt := topS 33
abbrev N_l_newest : List Str := ["_law_cells", "_law_place", "_law_found", "_law_which", "_law_row"]
abbrev P_l_newest : List Str := ["_law_cells", "_law_place"]
theorem sc_l_newest : FnScope N_l_newest P_l_newest (defScope s_l_newest) := ⟨rfl, rfl, rfl, by decide +kernel, rfl, by decide +kernel, by decide +kernel⟩
abbrev s_l_noted : Stmt := topS 34
abbrev N_l_noted : List Str := ["_law_cells", "_law_place", "_law_three", "_law_here", "_law_begin", "_law_number", "_law_told", "_law_k"]
abbrev P_l_noted : List Str := ["_law_cells", "_law_place", "_law_three"]
theorem sc_l_noted : FnScope N_l_noted P_l_noted (defScope s_l_noted) := ⟨rfl, rfl, rfl, by decide +kernel, rfl, by decide +kernel, by decide +kernel⟩
abbrev s_l_stopped : Stmt := topS 35
abbrev N_l_stopped : List Str := ["_law_cells", "_law_log", "_law_left", "_law_torn", "_law_found", "_law_place", "_law_worth"]
abbrev P_l_stopped : List Str := ["_law_cells", "_law_log", "_law_left", "_law_torn"]
theorem sc_l_stopped : FnScope N_l_stopped P_l_stopped (defScope s_l_stopped) := ⟨rfl, rfl, rfl, by decide +kernel, rfl, by decide +kernel, by decide +kernel⟩
abbrev s_l_is_whole : Stmt := topS 36
abbrev N_l_is_whole : List Str := ["_law_memory", "_law_told"]
abbrev P_l_is_whole : List Str := ["_law_memory", "_law_told"]
theorem sc_l_is_whole : FnScope N_l_is_whole P_l_is_whole (defScope s_l_is_whole) := ⟨rfl, rfl, rfl, by decide +kernel, rfl, by decide +kernel, by decide +kernel⟩
abbrev s_law : Stmt := topS 37
abbrev N_law : List Str := ["_law_script", "_law_row", "_law_memory", "_law_elder", "_law_turn", "_law_new", "_law_log", "_law_left", "_law_torn", "_law_cells", "_law_at", "_law_worth", "_law_whole", "_law_here"]
abbrev P_law : List Str := ["_law_script"]
theorem sc_law : FnScope N_law P_law (defScope s_law) := ⟨rfl, rfl, rfl, by decide +kernel, rfl, by decide +kernel, by decide +kernel⟩
structure Ad where
  f_check_worth : Addr
  d_check_worth : FuncData
  f_Memory___init__ : Addr
  d_Memory___init__ : FuncData
  f_Memory_row : Addr
  d_Memory_row : FuncData
  f_Memory_write : Addr
  d_Memory_write : FuncData
  f_Memory_cut : Addr
  d_Memory_cut : FuncData
  f_Memory_up : Addr
  d_Memory_up : FuncData
  f_Memory_cells : Addr
  d_Memory_cells : FuncData
  f_Memory__check_place : Addr
  d_Memory__check_place : FuncData
  f_Memory__check_power : Addr
  d_Memory__check_power : FuncData
  f_Memory__lose_power : Addr
  d_Memory__lose_power : FuncData
  f_check_handed : Addr
  d_check_handed : FuncData
  f_sums : Addr
  d_sums : FuncData
  f_record : Addr
  d_record : FuncData
  f_note : Addr
  d_note : FuncData
  f_both_pages : Addr
  d_both_pages : FuncData
  f_number_of : Addr
  d_number_of : FuncData
  f_newest_of : Addr
  d_newest_of : FuncData
  f_page_to_write : Addr
  d_page_to_write : FuncData
  f_l_taken : Addr
  d_l_taken : FuncData
  f_l_sums : Addr
  d_l_sums : FuncData
  f_l_newest : Addr
  d_l_newest : FuncData
  f_l_noted : Addr
  d_l_noted : FuncData
  f_l_stopped : Addr
  d_l_stopped : FuncData
  f_l_is_whole : Addr
  d_l_is_whole : FuncData
  f_law : Addr
  d_law : FuncData
  t_BOOK_CELLS : Tok
  t_GREATEST_WORTH : Tok
  t_LATEST_CUT : Tok
  t_MOST_CELLS : Tok
  t_PAGE_CELLS : Tok
  t_RESTS_BY : Tok
  t_SUMMED_CELLS : Tok
  t_TORN : Addr
  C_Memory : Addr
  C_Stopped : Addr
structure Top (K : PySem.W.Frag) (mg : Str → Option Value) (a : Ad) : Prop where
  F_check_worth : Fun K "check_worth" "check_worth" s_check_worth a.f_check_worth a.d_check_worth
  B_check_worth : Binds K a.d_check_worth P_check_worth []
  g_check_worth : mg "check_worth" = some (.ref a.f_check_worth)
  F_Memory___init__ : Fun K "__init__" "Memory.__init__" s_Memory___init__ a.f_Memory___init__ a.d_Memory___init__
  B_Memory___init__ : Binds K a.d_Memory___init__ P_Memory___init__ []
  mk_Memory : Mk K a.C_Memory a.f_Memory___init__
  F_Memory_row : Fun K "row" "Memory.row" s_Memory_row a.f_Memory_row a.d_Memory_row
  B_Memory_row : Binds K a.d_Memory_row P_Memory_row []
  m_Memory_row : Meth K a.C_Memory "row" a.f_Memory_row
  F_Memory_write : Fun K "write" "Memory.write" s_Memory_write a.f_Memory_write a.d_Memory_write
  B_Memory_write : Binds K a.d_Memory_write P_Memory_write []
  m_Memory_write : Meth K a.C_Memory "write" a.f_Memory_write
  F_Memory_cut : Fun K "cut" "Memory.cut" s_Memory_cut a.f_Memory_cut a.d_Memory_cut
  B_Memory_cut : Binds K a.d_Memory_cut P_Memory_cut []
  m_Memory_cut : Meth K a.C_Memory "cut" a.f_Memory_cut
  F_Memory_up : Fun K "up" "Memory.up" s_Memory_up a.f_Memory_up a.d_Memory_up
  B_Memory_up : Binds K a.d_Memory_up P_Memory_up []
  m_Memory_up : Meth K a.C_Memory "up" a.f_Memory_up
  F_Memory_cells : Fun K "cells" "Memory.cells" s_Memory_cells a.f_Memory_cells a.d_Memory_cells
  B_Memory_cells : Binds K a.d_Memory_cells P_Memory_cells []
  m_Memory_cells : Meth K a.C_Memory "cells" a.f_Memory_cells
  F_Memory__check_place : Fun K "_check_place" "Memory._check_place" s_Memory__check_place a.f_Memory__check_place a.d_Memory__check_place
  B_Memory__check_place : Binds K a.d_Memory__check_place P_Memory__check_place []
  m_Memory__check_place : Meth K a.C_Memory "_check_place" a.f_Memory__check_place
  F_Memory__check_power : Fun K "_check_power" "Memory._check_power" s_Memory__check_power a.f_Memory__check_power a.d_Memory__check_power
  B_Memory__check_power : Binds K a.d_Memory__check_power P_Memory__check_power []
  m_Memory__check_power : Meth K a.C_Memory "_check_power" a.f_Memory__check_power
  F_Memory__lose_power : Fun K "_lose_power" "Memory._lose_power" s_Memory__lose_power a.f_Memory__lose_power a.d_Memory__lose_power
  B_Memory__lose_power : Binds K a.d_Memory__lose_power P_Memory__lose_power []
  m_Memory__lose_power : Meth K a.C_Memory "_lose_power" a.f_Memory__lose_power
  F_check_handed : Fun K "check_handed" "check_handed" s_check_handed a.f_check_handed a.d_check_handed
  B_check_handed : Binds K a.d_check_handed P_check_handed []
  g_check_handed : mg "check_handed" = some (.ref a.f_check_handed)
  F_sums : Fun K "sums" "sums" s_sums a.f_sums a.d_sums
  B_sums : Binds K a.d_sums P_sums []
  g_sums : mg "sums" = some (.ref a.f_sums)
  F_record : Fun K "record" "record" s_record a.f_record a.d_record
  B_record : Binds K a.d_record P_record []
  g_record : mg "record" = some (.ref a.f_record)
  F_note : Fun K "note" "note" s_note a.f_note a.d_note
  B_note : Binds K a.d_note P_note []
  g_note : mg "note" = some (.ref a.f_note)
  F_both_pages : Fun K "both_pages" "both_pages" s_both_pages a.f_both_pages a.d_both_pages
  B_both_pages : Binds K a.d_both_pages P_both_pages []
  g_both_pages : mg "both_pages" = some (.ref a.f_both_pages)
  F_number_of : Fun K "number_of" "number_of" s_number_of a.f_number_of a.d_number_of
  B_number_of : Binds K a.d_number_of P_number_of []
  g_number_of : mg "number_of" = some (.ref a.f_number_of)
  F_newest_of : Fun K "newest_of" "newest_of" s_newest_of a.f_newest_of a.d_newest_of
  B_newest_of : Binds K a.d_newest_of P_newest_of []
  g_newest_of : mg "newest_of" = some (.ref a.f_newest_of)
  F_page_to_write : Fun K "page_to_write" "page_to_write" s_page_to_write a.f_page_to_write a.d_page_to_write
  B_page_to_write : Binds K a.d_page_to_write P_page_to_write []
  g_page_to_write : mg "page_to_write" = some (.ref a.f_page_to_write)
  F_l_taken : Fun K "_law_taken" "_law_taken" s_l_taken a.f_l_taken a.d_l_taken
  B_l_taken : Binds K a.d_l_taken P_l_taken []
  g_l_taken : mg "_law_taken" = some (.ref a.f_l_taken)
  F_l_sums : Fun K "_law_sums" "_law_sums" s_l_sums a.f_l_sums a.d_l_sums
  B_l_sums : Binds K a.d_l_sums P_l_sums []
  g_l_sums : mg "_law_sums" = some (.ref a.f_l_sums)
  F_l_newest : Fun K "_law_newest" "_law_newest" s_l_newest a.f_l_newest a.d_l_newest
  B_l_newest : Binds K a.d_l_newest P_l_newest []
  g_l_newest : mg "_law_newest" = some (.ref a.f_l_newest)
  F_l_noted : Fun K "_law_noted" "_law_noted" s_l_noted a.f_l_noted a.d_l_noted
  B_l_noted : Binds K a.d_l_noted P_l_noted []
  g_l_noted : mg "_law_noted" = some (.ref a.f_l_noted)
  F_l_stopped : Fun K "_law_stopped" "_law_stopped" s_l_stopped a.f_l_stopped a.d_l_stopped
  B_l_stopped : Binds K a.d_l_stopped P_l_stopped []
  g_l_stopped : mg "_law_stopped" = some (.ref a.f_l_stopped)
  F_l_is_whole : Fun K "_law_is_whole" "_law_is_whole" s_l_is_whole a.f_l_is_whole a.d_l_is_whole
  B_l_is_whole : Binds K a.d_l_is_whole P_l_is_whole []
  g_l_is_whole : mg "_law_is_whole" = some (.ref a.f_l_is_whole)
  F_law : Fun K "law" "law" s_law a.f_law a.d_law
  B_law : Binds K a.d_law P_law []
  g_law : mg "law" = some (.ref a.f_law)
  cl_Memory : Cls K a.C_Memory
  g_Memory : mg "Memory" = some (.ref a.C_Memory)
  n_Memory__cells : NoAttr K a.C_Memory "_cells"
  n_Memory__whole_writes : NoAttr K a.C_Memory "_whole_writes"
  n_Memory__has_power : NoAttr K a.C_Memory "_has_power"
  n_Memory__ahead : NoAttr K a.C_Memory "_ahead"
  n_Memory__torn : NoAttr K a.C_Memory "_torn"
  g_Stopped : mg "Stopped" = some (.ref a.C_Stopped)
  x_Stopped : PySem.W.excIn K a.C_Stopped [.type "ValueError", .type "Exception", .type "BaseException", .type "object"] "ValueError.__new__" = true
  k_Stopped : PySem.W.keepIn K (.ref a.C_Stopped) = true
  b_Stopped : PySem.W.subIn K (.ref a.C_Stopped) (.type "BaseException") = some true
  t_Stopped : PySem.W.typeIn K (.ref a.C_Stopped) = some (.type "type")
  e_Stopped : PySem.W.exmOne K (.ref a.C_Stopped) (.ref a.C_Stopped) = some true
  b_enumerate : mg "enumerate" = none
  b_int : mg "int" = none
  b_len : mg "len" = none
  b_list : mg "list" = none
  b_max : mg "max" = none
  b_range : mg "range" = none
  b_sum : mg "sum" = none
  b_tuple : mg "tuple" = none
  c_BOOK_CELLS : mg "BOOK_CELLS" = some (.int 12 a.t_BOOK_CELLS)
  c_GREATEST_WORTH : mg "GREATEST_WORTH" = some (.int 9972 a.t_GREATEST_WORTH)
  c_LATEST_CUT : mg "LATEST_CUT" = some (.int 100000 a.t_LATEST_CUT)
  c_MOST_CELLS : mg "MOST_CELLS" = some (.int 400 a.t_MOST_CELLS)
  c_PAGE_CELLS : mg "PAGE_CELLS" = some (.int 6 a.t_PAGE_CELLS)
  c_RESTS_BY : mg "RESTS_BY" = some (.int 9973 a.t_RESTS_BY)
  c_SUMMED_CELLS : mg "SUMMED_CELLS" = some (.int 4 a.t_SUMMED_CELLS)
  c_TORN : mg "TORN" = some (.ref a.t_TORN)
  w_TORN : ∀ H : Hp, SqT K H a.t_TORN [.str "old", .str "broken", .str "new"]
section
variable {P : Program} {w : World} {K : PySem.W.Frag} {mg : Str → Option Value} {base : Heap}
theorem G_l_taken {a : Ad} (T : Top K mg a) : FnOk P w K mg base CX0 1 a.f_l_taken a.d_l_taken P_l_taken (Dw.spTaken K) := by
  refine T.F_l_taken.ok sc_l_taken (fun vs H Q E h => ?_) (fun cdv A outer s H vs Q E hr h => ?_)
  · obtain ⟨_, _, _, _, _, rfl, _⟩ := h
    rfl
  · obtain ⟨H0, ns, sa, r, m, rfl, D, hm0, hm1, q⟩ := h
    obtain ⟨p, u, z, hR, hp, hu0, hu1⟩ := D.row
    have sR : SqL K H r [.ref sa, .int p, .int u, .int z] := Dw.sq_of hR
    refine ⟨_, (pss_cons (ps_if (pt_cmpR op_gt (pe_ix ix_list (pv 0) pe_int (fun _ _ => rfl)) pe_int (nomark _))
        (pss_cons (ps_set (i := 2) sc_l_taken.nd rfl (Or.inl rfl) (pe_op op_mod (pe_ix ix_list (pv 0) pe_int (fun _ _ => rfl)) (pv 1)))
      (pss_cons (ps_asg (pe_op op_fdiv (pe_ix ix_list (pv 0) pe_int (fun _ _ => rfl)) (pv 1)) (pg_sub (pv 0) pe_int set_list))
      (pss_one (ps_ret (pv 2)))))
        pss_nil)
      (pss_cons (ps_asg (pe_op op_add (pe_ix ix_list (pv 0) pe_int (fun _ _ => rfl)) pe_int) (pg_sub (pv 0) pe_int set_list))
      (pss_cons (ps_if (pt_cmpR op_gt (pe_ix ix_list (pv 0) pe_int (fun _ _ => rfl)) (pe_callB call_len_seq (by rfl) T.b_len PySem.boot_len (pa_cons (pe_ix ix_list (pv 0) pe_int (fun _ _ => rfl)) pa_nil)) (nomark _))
        (pss_cons (ps_asg (pe_op op_mod (pe_op op_add (pe_op op_mul (pe_ix ix_list (pv 0) pe_int (fun _ _ => rfl)) pe_int) pe_int) pe_int) (pg_sub (pv 0) pe_int set_list))
      (pss_one (ps_ret (pe_op op_mod (pe_op op_fdiv (pe_ix ix_list (pv 0) pe_int (fun _ _ => rfl)) pe_int) (pv 1)))))
        pss_nil)
      (pss_cons (ps_set (i := 3) sc_l_taken.nd rfl (Or.inl rfl) (pe_ix ix_list (pe_ix ix_list (pv 0) pe_int (fun _ _ => rfl)) (pe_op op_sub (pe_ix ix_list (pv 0) pe_int (fun _ _ => rfl)) pe_int) (fun _ _ => rfl)))
      (pss_cons (ps_asg (pe_op op_mod (pe_op op_add (pe_op op_add (pe_op op_mul (pe_ix ix_list (pv 0) pe_int (fun _ _ => rfl)) pe_int) (pv 3)) pe_int) pe_int) (pg_sub (pv 0) pe_int set_list))
      (pss_cons (ps_if (pt_cmpR op_ge (pv 3) (pe_op op_pow pe_int pe_int) (nomark _))
        (pss_one (ps_asg (pe_op op_fdiv (pv 3) (pv 1)) (pg_sub (pv 0) pe_int set_list)))
        pss_nil)
      (pss_one (ps_ret (pe_op op_mod (pv 3) (pv 1)))))))))), ?_⟩
    refine ⟨.ref r, rfl, r, _, 3, .int z, rfl, rfl, sR, atI_nat (j := 3) rfl, z, 0, rfl, rfl, _, rfl, ite2 (fun hz => ?_) (fun hz => ?_)⟩
    · refine ⟨.ref r, rfl, r, _, 3, .int z, rfl, rfl, sR, atI_nat (j := 3) rfl, .int m, rfl, z, m, rfl, rfl, hm0, ?_⟩
      refine ⟨.ref r, rfl, r, _, 3, .int z, rfl, rfl, sR, atI_nat (j := 3) rfl, .int m, rfl, z, m, rfl, rfl, ⟨hm0, hm1⟩, .ref r, rfl, r, _, 3, 3, rfl, rfl, hR, rfl, ?_⟩
      exact ⟨_, rfl, q (z % m) _ (D.put (p := p) (q := u) (z := z / m) hp hu0 hu1) Dw.Keep.put (Int.emod_nonneg _ (by omega)) (Int.emod_lt_of_pos _ hm0)⟩
    · -- the next cell
      refine ⟨.ref r, rfl, r, _, 1, .int p, rfl, rfl, sR, atI_nat (j := 1) rfl, p, 1, rfl, rfl, .ref r, rfl, r, _, 1, 1, rfl, rfl, hR, rfl, ?_⟩
      have D1 : Dw.Dr K H0 ns sa r (upd H r (.lst [.ref sa, .int (p + 1), .int u, .int z])) := D.put (by omega) hu0 hu1
      have sR1 : SqL K (upd H r (.lst [.ref sa, .int (p + 1), .int u, .int z])) r [.ref sa, .int (p + 1), .int u, .int z] := Dw.sq_of upd_same
      have hA : SqL K (upd H r (.lst [.ref sa, .int (p + 1), .int u, .int z])) sa (ns.map V.int) := D1.seq
      refine ⟨.ref r, rfl, r, _, 1, .int (p + 1), rfl, rfl, sR1, atI_nat (j := 1) rfl, .ref r, rfl, r, _, 0, .ref sa, rfl, rfl, sR1, atI_nat (j := 0) rfl, sa, _, rfl, .inl hA, p + 1, _, rfl, rfl, _, rfl, ite2 (fun hl => ?_) (fun hl => ?_)⟩
      · refine ⟨.ref r, rfl, r, _, 2, .int u, rfl, rfl, sR1, atI_nat (j := 2) rfl, u, 48271, rfl, rfl, .inr ⟨by decide, by decide⟩, u * 48271, 11, rfl, rfl, _, 2147483647, rfl, rfl, (by show (0 : Int) < 2147483647; decide), .ref r, rfl, r, _, 2, 2, rfl, rfl, upd_same, rfl, ?_⟩
        have D2 : Dw.Dr K H0 ns sa r (upd (upd H r (.lst [.ref sa, .int (p + 1), .int u, .int z])) r (.lst [.ref sa, .int (p + 1), .int ((u * 48271 + 11) % 2147483647), .int z])) := D1.put (by omega) (by omega) (by omega)
        refine ⟨.ref r, rfl, r, _, 2, .int ((u * 48271 + 11) % 2147483647), rfl, rfl, Dw.sq_of upd_same, atI_nat (j := 2) rfl, _, 7, rfl, rfl, ⟨by decide, by decide⟩, .int m, rfl, _, m, rfl, rfl, hm0, ?_⟩
        exact q _ _ D2 (Dw.Keep.put.trans Dw.Keep.put) (Int.emod_nonneg _ (by omega)) (Int.emod_lt_of_pos _ hm0)
      · have hlt : p < (ns.length : Int) := by
          have h1 := of_decide_eq_false (Bool.eq_false_iff.mpr hl)
          rw [List.length_map] at h1
          omega
        obtain ⟨c, hc⟩ : ∃ c, ns[p.toNat]? = some c := ⟨_, List.getElem?_eq_getElem (show p.toNat < ns.length by omega)⟩
        have hat : atI (ns.map V.int) (p + 1 - 1) = some (.int c) := at_of (j := p.toNat) (by omega) (by rw [List.getElem?_map, hc]; rfl)
        refine ⟨.ref r, rfl, r, _, 0, .ref sa, rfl, rfl, sR1, atI_nat (j := 0) rfl, .ref r, rfl, r, _, 1, .int (p + 1), rfl, rfl, sR1, atI_nat (j := 1) rfl, p + 1, 1, rfl, rfl, sa, _, _, _, rfl, rfl, hA, hat, ?_⟩
        refine ⟨.ref r, rfl, r, _, 2, .int u, rfl, rfl, sR1, atI_nat (j := 2) rfl, u, 48271, rfl, rfl, .inr ⟨by decide, by decide⟩, .int c, rfl, u * 48271, c, rfl, rfl, _, 11, rfl, rfl, _, 2147483647, rfl, rfl, (by show (0 : Int) < 2147483647; decide), .ref r, rfl, r, _, 2, 2, rfl, rfl, upd_same, rfl, ?_⟩
        have D2 : Dw.Dr K H0 ns sa r (upd (upd H r (.lst [.ref sa, .int (p + 1), .int u, .int z])) r (.lst [.ref sa, .int (p + 1), .int ((u * 48271 + c + 11) % 2147483647), .int z])) := D1.put (by omega) (by omega) (by omega)
        refine ⟨.int c, rfl, 10, 18, rfl, rfl, ⟨by decide, by decide, by decide⟩, c, _, rfl, rfl, _, rfl, ite2 (fun hg => ?_) (fun hg => ?_)⟩
        · refine ⟨.int c, rfl, .int m, rfl, c, m, rfl, rfl, ⟨hm0, hm1⟩, .ref r, rfl, r, _, 3, 3, rfl, rfl, upd_same, rfl, ?_⟩
          have D3 := D2.put (p := p + 1) (q := (u * 48271 + c + 11) % 2147483647) (z := c / m) (by omega) (by omega) (by omega)
          exact ⟨.int c, rfl, .int m, rfl, c, m, rfl, rfl, hm0, q _ _ D3 ((Dw.Keep.put.trans Dw.Keep.put).trans Dw.Keep.put) (Int.emod_nonneg _ (by omega)) (Int.emod_lt_of_pos _ hm0)⟩
        · exact ⟨.int c, rfl, .int m, rfl, c, m, rfl, rfl, hm0, q _ _ D2 (Dw.Keep.put.trans Dw.Keep.put) (Int.emod_nonneg _ (by omega)) (Int.emod_lt_of_pos _ hm0)⟩

theorem G_check_worth {a : Ad} (T : Top K mg a) : FnOk P w K mg base CX0 1 a.f_check_worth a.d_check_worth P_check_worth Mm.spWorth := by
  refine T.F_check_worth.ok sc_check_worth (fun vs H Q E h => ?_) (fun cdv A outer s H vs Q E hr h => ?_)
  · obtain ⟨_, rfl, _⟩ := h
    rfl
  · obtain ⟨v, rfl, v0, v1, q⟩ := h
    refine ⟨_, (pss_one (ps_if (pt_not (pt_chain op_le op_le pe_int (pv 0) (pe_glob (v := .int 9972) rfl T.c_GREATEST_WORTH ⟨_, rfl⟩)))
        (pss_one ps_never)
        pss_nil)), ?_⟩
    refine ⟨_, rfl, 0, v, rfl, rfl, _, rfl, ite2 (fun _ => ?_) (fun e => absurd (decide_eq_true v0) e)⟩
    exact ⟨v, 9972, rfl, rfl, _, rfl, iteNS v1 q⟩
theorem G_Memory__check_place {a : Ad} (T : Top K mg a) : FnOk P w K mg base CX0 1 a.f_Memory__check_place a.d_Memory__check_place P_Memory__check_place (Mm.spPlace a.C_Memory) := by
  refine T.F_Memory__check_place.ok sc_Memory__check_place (fun vs H Q E h => ?_) (fun cdv A outer s H vs Q E hr h => ?_)
  · obtain ⟨_, _, _, _, rfl, _⟩ := h
    rfl
  · obtain ⟨p, l, m, j, rfl, M, hj, q⟩ := h
    obtain ⟨dx, ah, hp, _⟩ := M.ob
    refine ⟨_, (pss_one (ps_if (pt_not (pt_chain op_le op_lt pe_int (pv 1) (pe_callB call_len_seq (by rfl) T.b_len PySem.boot_len (pa_cons (pe_fld (pv 0) rfl) pa_nil))))
        (pss_one ps_never)
        pss_nil)), ?_⟩
    refine ⟨_, rfl, 0, (j : Int), rfl, rfl, _, rfl, ite2 (fun _ => ?_) (fun e => absurd (decide_eq_true (by omega)) e)⟩
    refine ⟨.ref p, rfl, p, _, dx, _, _, rfl, hp, T.cl_Memory, T.n_Memory__cells, Mm.mf_cells, l, _, rfl, .inl (Dw.sq_of M.ls), (j : Int), _, rfl, rfl, _, rfl, iteNS (by omega) q⟩
theorem G_Memory__check_power {a : Ad} (T : Top K mg a) : FnOk P w K mg base (L2.CX P w) 1 a.f_Memory__check_power a.d_Memory__check_power P_Memory__check_power (Mm.spPower a.C_Memory a.C_Stopped) := by
  refine T.F_Memory__check_power.okX sc_Memory__check_power (fun vs H Q E h => ?_) (fun cdv A outer s H vs Q E hr h => ?_)
  · obtain ⟨_, _, _, rfl, _⟩ := h
    rfl
  · obtain ⟨p, l, m, rfl, M, q1, q0⟩ := h
    obtain ⟨dx, ah, hp, _⟩ := M.ob
    refine ⟨_, (pss_one (ps_if (pt_not (pt_val (pe_fld (pv 0) rfl)))
        (pss_one (ps_raise rfl (takes_of rfl rfl rfl rfl) (pmk_own PySem.F.excBase_ValueError T.x_Stopped T.g_Stopped T.k_Stopped (raises_own T.b_Stopped T.t_Stopped) (by exact rfl))))
        pss_nil)), ?_⟩
    refine ⟨.ref p, rfl, p, _, dx, _, _, rfl, hp, T.cl_Memory, T.n_Memory__has_power, Mm.mf_up, m.up, rfl, ?_⟩
    cases hu : m.up with
    | true => exact q1 hu
    | false => exact q0 hu
theorem G_Memory__lose_power {a : Ad} (T : Top K mg a) : FnOk P w K mg base (L2.CX P w) 1 a.f_Memory__lose_power a.d_Memory__lose_power P_Memory__lose_power (Mm.spLose a.C_Memory a.C_Stopped) := by
  refine T.F_Memory__lose_power.okX sc_Memory__lose_power (fun vs H Q E h => ?_) (fun cdv A outer s H vs Q E hr h => ?_)
  · obtain ⟨_, _, _, _, _, rfl, _⟩ := h
    rfl
  · obtain ⟨p, l, m, j, v, rfl, M, hj, q⟩ := h
    obtain ⟨dx, ah, hp, _⟩ := M.ob
    have nlp := M.ne
    refine ⟨_, (pss_cons (ps_fld (pv 0) pe_bl rfl)
      (C8.pss_cut (ps_if (pt_cmpR op_eq (pe_fld (pv 0) rfl) pe_str (nomark _))
        (pss_one (ps_asg pe_non (pg_sub (pe_fld (pv 0) rfl) (pv 1) set_list)))
        (pss_one (ps_if (pt_cmpR op_eq (pe_fld (pv 0) rfl) pe_str (nomark _))
        (pss_one (ps_asg (pv 2) (pg_sub (pe_fld (pv 0) rfl) (pv 1) set_list)))
        pss_nil)))
      (pss_one (ps_raise rfl (takes_of rfl rfl rfl rfl) (pmk_own PySem.F.excBase_ValueError T.x_Stopped T.g_Stopped T.k_Stopped (raises_own T.b_Stopped T.t_Stopped) (by exact rfl)))))), ?_⟩
    refine ⟨.ref p, rfl, p, _, dx, _, rfl, hp, T.cl_Memory, T.n_Memory__has_power, Mm.mf_few, ?_⟩
    have hp1 : (upd H p (.ins a.C_Memory dx (putF "_has_power" (.bl false) (Mm.mf l m.many m.up ah m.torn)))) p = some (.ins a.C_Memory dx (Mm.mf l m.many false ah m.torn)) := by rw [upd_same, Mm.put_up]
    have hl1 : (upd H p (.ins a.C_Memory dx (putF "_has_power" (.bl false) (Mm.mf l m.many m.up ah m.torn)))) l = some (.lst m.cells) := by rw [upd_ne nlp.symm]; exact M.ls
    have k1 : Mm.But [p, l] H (upd H p (.ins a.C_Memory dx (putF "_has_power" (.bl false) (Mm.mf l m.many m.up ah m.torn)))) := Mm.But.upd List.mem_cons_self
    generalize upd H p (.ins a.C_Memory dx (putF "_has_power" (.bl false) (Mm.mf l m.many m.up ah m.torn))) = H1 at hp1 hl1 k1 ⊢
    have hix : ixN m.cells.length (j : Int) = some j := Dw.ixN_nat hj
    have fin : ∀ H2, H2 p = some (.ins a.C_Memory dx (Mm.mf l m.many false ah m.torn)) → H2 l = some (.lst (Mm.tornTo m.torn m.cells j v)) → Mm.But [p, l] H H2 → E (.ref a.C_Stopped) none H2 := fun H2 e1 e2 k => q H2 ⟨⟨dx, ah, e1, fun z => (by cases z)⟩, e2, Mm.cel_torn M.cel, by show (Mm.tornTo m.torn m.cells j v).length ≤ 400; rw [Mm.torn_len]; exact M.len⟩ k
    refine ⟨fun σ' H2 => σ' = [some (.ref p), some (.int (j : Int)), some (.int v)] ∧ H2 p = some (.ins a.C_Memory dx (Mm.mf l m.many false ah m.torn)) ∧ H2 l = some (.lst (Mm.tornTo m.torn m.cells j v)) ∧ Mm.But [p, l] H H2, ?_, fun σ' H2 ⟨_, e1, e2, k⟩ => fin H2 e1 e2 k⟩
    refine ⟨.ref p, rfl, p, _, dx, _, _, rfl, hp1, T.cl_Memory, T.n_Memory__torn, Mm.mf_torn, rfl, _, rfl, ite2 (fun e => ?_) (fun e => ?_)⟩
    · have et : m.torn = "broken" := V.str.inj (of_decide_eq_true e)
      refine ⟨.ref p, rfl, p, _, dx, _, _, rfl, hp1, T.cl_Memory, T.n_Memory__cells, Mm.mf_cells, .int (j : Int), rfl, l, _, (j : Int), j, rfl, rfl, hl1, hix, ?_⟩
      refine ⟨rfl, by rw [upd_ne nlp]; exact hp1, ?_, k1.trans (Mm.But.upd (List.mem_cons_of_mem _ List.mem_cons_self))⟩
      rw [upd_same, et]
      unfold Mm.tornTo
      rw [if_pos rfl]
    · have nt : ¬ m.torn = "broken" := fun z => e (decide_eq_true (by rw [z]))
      refine ⟨.ref p, rfl, p, _, dx, _, _, rfl, hp1, T.cl_Memory, T.n_Memory__torn, Mm.mf_torn, rfl, _, rfl, ite2 (fun e2 => ?_) (fun e2 => ?_)⟩
      · have et : m.torn = "new" := V.str.inj (of_decide_eq_true e2)
        refine ⟨.int v, rfl, .ref p, rfl, p, _, dx, _, _, rfl, hp1, T.cl_Memory, T.n_Memory__cells, Mm.mf_cells, .int (j : Int), rfl, l, _, (j : Int), j, rfl, rfl, hl1, hix, ?_⟩
        refine ⟨rfl, by rw [upd_ne nlp]; exact hp1, ?_, k1.trans (Mm.But.upd (List.mem_cons_of_mem _ List.mem_cons_self))⟩
        rw [upd_same]
        unfold Mm.tornTo
        rw [if_neg nt, if_pos et]
      · have nt2 : ¬ m.torn = "new" := fun z => e2 (decide_eq_true (by rw [z]))
        refine ⟨rfl, hp1, ?_, k1⟩
        unfold Mm.tornTo
        rw [if_neg nt, if_neg nt2]
        exact hl1
theorem G_Memory_write {a : Ad} (T : Top K mg a) : FnOk P w K mg base (L2.CX P w) 2 a.f_Memory_write a.d_Memory_write P_Memory_write (Mm.spWrite a.C_Memory a.C_Stopped) := by
  refine T.F_Memory_write.okX sc_Memory_write (fun vs H Q E h => ?_) (fun cdv A outer s H vs Q E hr h => ?_)
  · obtain ⟨_, _, _, _, _, rfl, _⟩ := h
    rfl
  · obtain ⟨p, l, m, j, v, rfl, M, hj, v0, v1, q⟩ := h
    obtain ⟨dx, ah, hp, hah⟩ := M.ob
    have nlp := M.ne
    refine ⟨_, (pss_cons (ps_expr (pe_meth (pv 0) T.cl_Memory T.m_Memory__check_place (G_Memory__check_place T) (hr.mono (by omega)) T.B_Memory__check_place .nil pass0 (pa_cons (pv 1) pa_nil)))
      (pss_cons (ps_expr (pe_call (G_check_worth T) (hr.mono (by omega)) (by rfl) T.g_check_worth T.F_check_worth.kp T.B_check_worth .nil pass0 (pa_cons (pv 2) pa_nil)))
      (pss_cons (ps_expr (pe_meth0 (pv 0) T.cl_Memory T.m_Memory__check_power (G_Memory__check_power T) (hr.mono (by omega)) T.B_Memory__check_power .nil (passes_call (takes_of rfl rfl rfl rfl) fun _ _ _ _ h => h)))
      (C8.pss_cut (ps_if (pt_cmpR op_eq (pe_fld (pv 0) rfl) pe_int (nomark _))
        (pss_one (ps_expr (pe_meth (pv 0) T.cl_Memory T.m_Memory__lose_power (G_Memory__lose_power T) (hr.mono (by omega)) T.B_Memory__lose_power .nil (passes_call (takes_of rfl rfl rfl rfl) fun _ _ _ _ h => h) (pa_cons (pv 1) (pa_cons (pv 2) pa_nil)))))
        pss_nil)
      (C8.pss_cut (ps_if (pt_cmpR op_notN (pe_fld (pv 0) rfl) pe_non (nomark _))
        (pss_one (ps_fldaug (pv 0) pe_int in_sub))
        pss_nil)
      (pss_cons (ps_asg (pv 2) (pg_sub (pe_fld (pv 0) rfl) (pv 1) set_list))
      (pss_one (ps_fldaug (pv 0) pe_int in_add)))))))), ?_⟩
    refine ⟨.ref p, rfl, p, dx, _, rfl, hp, Mm.mf_no (by decide +kernel) (by decide +kernel) (by decide +kernel) (by decide +kernel) (by decide +kernel), _, rfl, p, l, m, j, rfl, M, hj, ?_⟩
    refine ⟨_, rfl, v, rfl, v0, v1, ?_⟩
    refine ⟨.ref p, rfl, p, dx, _, rfl, hp, Mm.mf_no (by decide +kernel) (by decide +kernel) (by decide +kernel) (by decide +kernel) (by decide +kernel), p, l, m, rfl, M, fun hu => ?_, fun hu => ?_⟩
    · have ea := hah hu
      subst ea
      refine ⟨fun σ' H2 => σ' = [some (.ref p), some (.int (j : Int)), some (.int v)] ∧ H2 = H ∧ ¬ m.left = some 0, ?_, ?_⟩
      · have hsc : scal (Mm.leftV m.left) (.int 0) = true := by
          cases m.left <;> rfl
        refine ⟨.ref p, rfl, p, _, dx, _, _, rfl, hp, T.cl_Memory, T.n_Memory__ahead, Mm.mf_ahead, hsc, _, rfl, ite2 (fun e => ?_) (fun e => ?_)⟩
        · have e0 : m.left = some 0 := Mm.leftV_zero.mp (of_decide_eq_true e)
          refine ⟨.ref p, rfl, p, dx, _, rfl, hp, Mm.mf_no (by decide +kernel) (by decide +kernel) (by decide +kernel) (by decide +kernel) (by decide +kernel), _, rfl, _, rfl, p, l, m, j, v, rfl, M, hj, fun H' M' k => ?_⟩
          have qq := q H' (by rw [Mm.write_cut hu e0]; exact M') k
          exact qq.2 (by rw [Mm.write_cut hu e0])
        · exact ⟨rfl, rfl, fun z => e (decide_eq_true (Mm.leftV_zero.mpr z))⟩
      · rintro σ' H2 ⟨rfl, rfl, h0⟩
        refine ⟨fun σ' H3 => σ' = [some (.ref p), some (.int (j : Int)), some (.int v)] ∧ H3 p = some (.ins a.C_Memory dx (Mm.mf l m.many m.up (Mm.leftV (m.left.map (· - 1))) m.torn)) ∧ H3 l = some (.lst m.cells) ∧ Mm.But [p, l] H2 H3, ?_, ?_⟩
        · refine ⟨.ref p, rfl, p, _, dx, _, _, rfl, hp, T.cl_Memory, T.n_Memory__ahead, Mm.mf_ahead, rfl, _, rfl, ?_⟩
          cases hl : m.left with
          | none =>
            refine iteNS (c := V.non = V.non) rfl ⟨rfl, ?_, M.ls, Mm.But.refl _ _⟩
            rw [hl] at hp
            exact hp
          | some k =>
            have hk : k ≠ 0 := fun z => h0 (by rw [hl, z])
            rw [hl] at hp
            refine ite2 (fun _ => ?_) (fun e => absurd (by rfl) e)
            refine ⟨.ref p, rfl, p, _, dx, _, _, rfl, hp, T.cl_Memory, T.n_Memory__ahead, Mm.mf_ahead, (k : Int), 1, rfl, rfl, dx, _, hp, Mm.mf_few, ?_⟩
            refine ⟨rfl, ?_, by rw [upd_ne nlp.symm]; exact M.ls, Mm.But.upd List.mem_cons_self⟩
            rw [upd_same, Mm.put_ahead]
            have ek : (k : Int) - 1 = ((k - 1 : Nat) : Int) := by omega
            rw [ek]
            rfl
        · rintro σ' H3 ⟨rfl, hp3, hl3, k3⟩
          refine ⟨.int v, rfl, .ref p, rfl, p, _, dx, _, _, rfl, hp3, T.cl_Memory, T.n_Memory__cells, Mm.mf_cells, .int (j : Int), rfl, l, _, (j : Int), j, rfl, rfl, hl3, Dw.ixN_nat hj, ?_⟩
          have hp4 : (upd H3 l (.lst (m.cells.set j (.int v)))) p = some (.ins a.C_Memory dx (Mm.mf l m.many m.up (Mm.leftV (m.left.map (· - 1))) m.torn)) := by rw [upd_ne nlp]; exact hp3
          refine ⟨.ref p, rfl, p, _, dx, _, _, rfl, hp4, T.cl_Memory, T.n_Memory__whole_writes, Mm.mf_many, m.many, 1, rfl, rfl, dx, _, hp4, Mm.mf_few, ?_⟩
          have qq := q (upd (upd H3 l (.lst (m.cells.set j (.int v)))) p (.ins a.C_Memory dx (putF "_whole_writes" (.int (m.many + 1)) (Mm.mf l m.many m.up (Mm.leftV (m.left.map (· - 1))) m.torn)))) ?_ ?_
          · exact qq.1 (by rw [Mm.write_ok hu h0])
          · rw [Mm.write_ok hu h0]
            refine ⟨⟨dx, _, ?_, fun _ => rfl⟩, by rw [upd_ne nlp.symm, upd_same], Mm.cel_set M.cel rfl, by show (m.cells.set j _).length ≤ 400; rw [List.length_set]; exact M.len⟩
            rw [upd_same, Mm.put_many, hu]
          · exact (k3.trans (Mm.But.upd (List.mem_cons_of_mem _ List.mem_cons_self))).trans (Mm.But.upd List.mem_cons_self)
    · have qq := q H (by rw [Mm.write_down hu]; exact M) (Mm.But.refl _ _)
      exact qq.2 (by rw [Mm.write_down hu])

theorem no_attr {x : Str} {l : Addr} {n : Int} {u : Bool} {v : V} {t : Str} (h : (!(x == ("_cells" : Str)) && !(x == ("_whole_writes" : Str)) && !(x == ("_has_power" : Str)) && !(x == ("_ahead" : Str)) && !(x == ("_torn" : Str))) = true) : (Mm.mf l n u v t).lookup x = none := by
  simp only [Bool.and_eq_true, Bool.not_eq_true'] at h
  exact Mm.mf_no h.1.1.1.1 h.1.1.1.2 h.1.1.2 h.1.2 h.2
theorem G_Memory_row {a : Ad} (T : Top K mg a) : FnOk P w K mg base (L2.CX P w) 2 a.f_Memory_row a.d_Memory_row P_Memory_row (Mm.spRow a.C_Memory a.C_Stopped) := by
  refine T.F_Memory_row.okX sc_Memory_row (fun vs H Q E h => ?_) (fun cdv A outer s H vs Q E hr h => ?_)
  · obtain ⟨_, _, _, _, _, rfl, _⟩ := h
    rfl
  · obtain ⟨p, l, m, j, n, rfl, M, hj, q1, q0⟩ := h
    obtain ⟨dx, ah, hp, _⟩ := M.ob
    have hlen := M.len
    refine ⟨_, (pss_cons (ps_for (passes_of rfl) rfl (pi_range2 (by rfl) T.b_range (pa_cons (pv 1) (pa_cons (pe_op op_add (pv 1) (pv 2)) pa_nil))) (pg_name (i := 3) sc_Memory_row.nd rfl (Or.inl rfl))
        (pss_one (ps_expr (pe_meth (pv 0) T.cl_Memory T.m_Memory__check_place (G_Memory__check_place T) (hr.mono (by omega)) T.B_Memory__check_place .nil pass0 (pa_cons (pv 3) pa_nil)))))
      (pss_cons (ps_expr (pe_meth0 (pv 0) T.cl_Memory T.m_Memory__check_power (G_Memory__check_power T) (hr.mono (by omega)) T.B_Memory__check_power .nil (passes_call (takes_of rfl rfl rfl rfl) fun _ _ _ _ h => h)))
      (pss_one (ps_ret (pe_lc (own := [(("at" : Str), 3)]) (g := (gName 3)) (tt := tYes) (by rfl) sc_Memory_row.nd (pi_range2 (by rfl) T.b_range (pa_cons (pv 1) (pa_cons (pe_op op_add (pv 1) (pv 2)) pa_nil))) (blkOk_by (own := [(("at" : Str), 3)]) (N := N_Memory_row) (sc := defScope s_Memory_row) (by decide +kernel)) (fun _ _ _ _ _ => (pg_name (i := 3) sc_Memory_row.nd rfl (Or.inl rfl))) (fun _ _ _ _ _ => pts_nil) (fun _ _ _ _ _ => (pe_ix (Dw.ix_listK (K := K) rfl) (Dw.pe_fldK (K := K) rfl (pv 0) rfl) (pv 3) (fun _ _ => rfl)))))))), ?_⟩
    refine ⟨_, rfl, _, rfl, _, rfl, (j : Int), (n : Int), rfl, rfl, (j : Int), (j : Int) + n, rfl, ⟨by omega, by omega, by omega, by omega⟩, for_range (lo := (j : Int)) (n := ((j : Int) + n - j).toNat) (fun i σ H' => ∃ v3, σ = [some (.ref p), some (.int (j : Int)), some (.int (n : Int)), v3] ∧ H' = H) ⟨_, rfl, rfl⟩ ?_ ?_⟩
    · rintro i σ H' hi ⟨v3, rfl, rfl⟩
      refine ⟨.ref p, rfl, p, dx, _, rfl, hp, no_attr (by decide +kernel), _, rfl, p, l, m, j + i, ?_, M, by omega, _, rfl, rfl⟩
      rw [Int.natCast_add]
      rfl
    · rintro σ H' ⟨v3, rfl, rfl⟩
      refine ⟨.ref p, rfl, p, dx, _, rfl, hp, no_attr (by decide +kernel), p, l, m, rfl, M, fun hu => ?_, q0⟩
      refine ⟨_, rfl, _, rfl, _, rfl, (j : Int), (n : Int), rfl, rfl, (j : Int), (j : Int) + n, rfl, ⟨by omega, by omega, by omega, by omega⟩, fun D hD => lc_range (lo := (j : Int)) (n := ((j : Int) + n - j).toNat) (fun i H'' => Same H' H'' ∧ H'' D = some (.lst ((m.cells.drop j).take i))) ⟨Dw.same_upd hD, upd_same⟩ ?_ ?_⟩
      · rintro i H1 hi ⟨s1, e1⟩
        obtain ⟨v, hv, _⟩ := M.at (j := j + i) (by omega)
        refine ⟨rfl, _, rfl, p, _, dx, _, _, rfl, s1 _ _ hp, T.cl_Memory, T.n_Memory__cells, Mm.mf_cells, _, rfl, l, _, (j : Int) + i, v, rfl, rfl, Dw.sq_of (s1 _ _ M.ls), at_of (j := j + i) (by omega) hv, ?_⟩
        refine ⟨_, e1, Dw.size_lt (by rw [List.length_take]; omega), Dw.same_mut s1 hD, ?_⟩
        rw [upd_same, List.take_add_one, List.getElem?_drop, hv]
        rfl
      · rintro H1 ⟨s1, e1⟩
        refine q1 hu H1 D s1 hD ?_
        rw [e1, show ((j : Int) + n - j).toNat = n by omega]
theorem G_Memory_cut {a : Ad} (T : Top K mg a) : FnOk P w K mg base CX0 1 a.f_Memory_cut a.d_Memory_cut P_Memory_cut (Mm.spCut a.C_Memory) := by
  refine T.F_Memory_cut.ok sc_Memory_cut (fun vs H Q E h => ?_) (fun cdv A outer s H vs Q E hr h => ?_)
  · obtain ⟨_, _, _, _, _, rfl, _⟩ := h
    rfl
  · obtain ⟨p, l, m, k, t, rfl, M, hk, ht, q⟩ := h
    obtain ⟨dx, ah, hp, hah⟩ := M.ob
    have nlp := M.ne
    refine ⟨_, (pss_cons (ps_if (PW.pt (pw_or (pt_not (pt_chain op_le op_le pe_int (pv 1) (pe_glob (v := .int 100000) rfl T.c_LATEST_CUT ⟨_, rfl⟩))) (pw_or1 (pt_cmpR op_notIn_seq (pv 2) (pe_glob (v := .ref a.t_TORN) rfl T.c_TORN rfl) (by rfl)))))
        (pss_one ps_never)
        pss_nil)
      (pss_cons (ps_fld (pv 0) (pv 1) rfl)
      (pss_one (ps_fld (pv 0) (pv 2) rfl)))), ?_⟩
    refine ⟨_, rfl, 0, (k : Int), rfl, rfl, _, rfl, ite2 (fun _ => ?_) (fun e => absurd (decide_eq_true (by omega)) e)⟩
    refine ⟨(k : Int), 100000, rfl, rfl, _, rfl, iteNS (by omega) ?_⟩
    have hin : inV (.str t) [.str "old", .str "broken", .str "new"] = true := by
      rcases ht with rfl | rfl | rfl <;> decide +kernel
    refine ⟨_, rfl, a.t_TORN, _, rfl, .inr (T.w_TORN _), rfl, rfl, _, rfl, ?_⟩
    rw [show (if true = true then !inV (.str t) [.str "old", .str "broken", .str "new"] else inV (.str t) [.str "old", .str "broken", .str "new"]) = false by rw [hin]; rfl]
    refine iteF ?_
    refine ⟨_, rfl, .ref p, rfl, p, _, dx, _, rfl, hp, T.cl_Memory, T.n_Memory__ahead, Mm.mf_few, ?_⟩
    refine ⟨_, rfl, .ref p, rfl, p, _, dx, _, rfl, upd_same, T.cl_Memory, T.n_Memory__torn, by rw [Mm.put_ahead]; exact Mm.mf_few, ?_⟩
    refine q _ ⟨⟨dx, .int (k : Int), ?_, fun _ => rfl⟩, by rw [upd_ne nlp.symm, upd_ne nlp.symm]; exact M.ls, M.cel, M.len⟩ ((Mm.But.upd List.mem_cons_self).trans (Mm.But.upd List.mem_cons_self))
    rw [upd_same, Mm.put_ahead, Mm.put_torn]
theorem G_Memory_up {a : Ad} (T : Top K mg a) : FnOk P w K mg base CX0 1 a.f_Memory_up a.d_Memory_up P_Memory_up (Mm.spUp a.C_Memory) := by
  refine T.F_Memory_up.ok sc_Memory_up (fun vs H Q E h => ?_) (fun cdv A outer s H vs Q E hr h => ?_)
  · obtain ⟨_, _, _, rfl, _⟩ := h
    rfl
  · obtain ⟨p, l, m, rfl, M, q⟩ := h
    obtain ⟨dx, ah, hp, hah⟩ := M.ob
    have nlp := M.ne
    refine ⟨_, (pss_cons (ps_fld (pv 0) pe_bl rfl)
      (pss_one (ps_fld (pv 0) pe_non rfl))), ?_⟩
    refine ⟨.ref p, rfl, p, _, dx, _, rfl, hp, T.cl_Memory, T.n_Memory__has_power, Mm.mf_few, ?_⟩
    refine ⟨.ref p, rfl, p, _, dx, _, rfl, upd_same, T.cl_Memory, T.n_Memory__ahead, by rw [Mm.put_up]; exact Mm.mf_few, ?_⟩
    refine q _ ⟨⟨dx, .non, ?_, fun _ => rfl⟩, by rw [upd_ne nlp.symm, upd_ne nlp.symm]; exact M.ls, M.cel, M.len⟩ ((Mm.But.upd List.mem_cons_self).trans (Mm.But.upd List.mem_cons_self))
    rw [upd_same, Mm.put_up, Mm.put_ahead]
theorem G_Memory_cells {a : Ad} (T : Top K mg a) : FnOk P w K mg base CX0 1 a.f_Memory_cells a.d_Memory_cells P_Memory_cells (Mm.spCells a.C_Memory) := by
  refine T.F_Memory_cells.ok sc_Memory_cells (fun vs H Q E h => ?_) (fun cdv A outer s H vs Q E hr h => ?_)
  · obtain ⟨_, _, _, rfl, _⟩ := h
    rfl
  · obtain ⟨p, l, m, rfl, M, q⟩ := h
    obtain ⟨dx, ah, hp, hah⟩ := M.ob
    refine ⟨_, (pss_one (ps_ret (pe_callTy call_list_of (by rfl) T.b_list (by decide +kernel) (pa_cons (pe_fld (pv 0) rfl) pa_nil)))), ?_⟩
    exact ⟨.ref p, rfl, p, _, dx, _, _, rfl, hp, T.cl_Memory, T.n_Memory__cells, Mm.mf_cells, l, _, rfl, .inl (Dw.sq_of M.ls), fun c hc => q _ c (Dw.same_upd hc) hc upd_same⟩
theorem G_Memory___init__ {a : Ad} (T : Top K mg a) : FnOk P w K mg base CX0 1 a.f_Memory___init__ a.d_Memory___init__ P_Memory___init__ (Mm.spInit a.C_Memory) := by
  refine T.F_Memory___init__.ok sc_Memory___init__ (fun vs H Q E h => ?_) (fun cdv A outer s H vs Q E hr h => ?_)
  · obtain ⟨_, _, _, rfl, _⟩ := h
    rfl
  · obtain ⟨p, dx, n, rfl, hp, n1, n4, q⟩ := h
    refine ⟨_, (pss_cons (ps_if (pt_not (pt_chain op_le op_le pe_int (pv 1) (pe_glob (v := .int 400) rfl T.c_MOST_CELLS ⟨_, rfl⟩)))
        (pss_one ps_never)
        pss_nil)
      (pss_cons (ps_fld (pv 0) (pe_op op_rep (pe_lst (pa_cons pe_int pa_nil)) (pv 1)) rfl)
      (pss_cons (ps_fld (pv 0) pe_int rfl)
      (pss_cons (ps_fld (pv 0) pe_bl rfl)
      (pss_cons (ps_fld (pv 0) pe_non rfl)
      (pss_one (ps_fld (pv 0) pe_str rfl))))))), ?_⟩
    refine ⟨_, rfl, 1, (n : Int), rfl, rfl, _, rfl, ite2 (fun _ => ?_) (fun e => absurd (decide_eq_true (by omega)) e)⟩
    refine ⟨(n : Int), 400, rfl, rfl, _, rfl, iteNS (by omega) ?_⟩
    refine ⟨Dw.sz_ rfl, fun c hc => ?_⟩
    have npc : p ≠ c := ne_of_none hp hc
    refine ⟨_, rfl, c, (n : Int), [.int 0], rfl, rfl, upd_same, by omega, by omega, Dw.size_ok (by simp; omega), fun l hl => ?_⟩
    have s1 : Same H (upd H c (.lst [.int 0])) := Dw.same_upd hc
    have hl0 : H l = none := s1.free hl
    have npl : p ≠ l := ne_of_none hp hl0
    have hp1 : (upd (upd H c (.lst [.int 0])) l (.lst (List.replicate (n : Int).toNat [V.int 0]).flatten)) p = some (.ins a.C_Memory dx []) := by rw [upd_ne npl, upd_ne npc]; exact hp
    have hl1 : (upd (upd H c (.lst [.int 0])) l (.lst (List.replicate (n : Int).toNat [V.int 0]).flatten)) l = some (.lst (List.replicate n (.int 0))) := by
      rw [upd_same, Int.toNat_natCast, Mm.flat_rep]
    have s2 := s1.trans (Dw.same_upd (o := .lst (List.replicate (n : Int).toNat [V.int 0]).flatten) hl)
    generalize upd (upd H c (.lst [.int 0])) l (.lst (List.replicate (n : Int).toNat [V.int 0]).flatten) = H1 at hp1 hl1 s2 ⊢
    refine ⟨.ref p, rfl, p, _, dx, _, rfl, hp1, T.cl_Memory, T.n_Memory__cells, (by show 0 < 1000; decide), ?_⟩
    refine ⟨.ref p, rfl, p, _, dx, _, rfl, upd_same, T.cl_Memory, T.n_Memory__whole_writes, Nat.lt_of_le_of_lt (length_putF _ _ _) (by decide), ?_⟩
    refine ⟨.ref p, rfl, p, _, dx, _, rfl, upd_same, T.cl_Memory, T.n_Memory__has_power, Nat.lt_of_le_of_lt (length_putF _ _ _) (Nat.succ_lt_succ (Nat.lt_of_le_of_lt (length_putF _ _ _) (by decide : 1 < 999))), ?_⟩
    refine ⟨.ref p, rfl, p, _, dx, _, rfl, upd_same, T.cl_Memory, T.n_Memory__ahead, Nat.lt_of_le_of_lt (length_putF _ _ _) (Nat.succ_lt_succ (Nat.lt_of_le_of_lt (length_putF _ _ _) (Nat.succ_lt_succ (Nat.lt_of_le_of_lt (length_putF _ _ _) (by decide : 1 < 998))))), ?_⟩
    refine ⟨.ref p, rfl, p, _, dx, _, rfl, upd_same, T.cl_Memory, T.n_Memory__torn, Nat.lt_of_le_of_lt (length_putF _ _ _) (Nat.succ_lt_succ (Nat.lt_of_le_of_lt (length_putF _ _ _) (Nat.succ_lt_succ (Nat.lt_of_le_of_lt (length_putF _ _ _) (Nat.succ_lt_succ (Nat.lt_of_le_of_lt (length_putF _ _ _) (by decide : 1 < 997))))))), ?_⟩
    refine q _ l ⟨⟨dx, .non, ?_, fun _ => rfl⟩, ?_, ?_, ?_⟩ hl0 ?_
    · rw [upd_same, Mm.put_new]
    · rw [upd_ne npl.symm, upd_ne npl.symm, upd_ne npl.symm, upd_ne npl.symm, upd_ne npl.symm]
      exact hl1
    · intro x hx
      rw [List.eq_of_mem_replicate hx]
      rfl
    · show (List.replicate n (V.int 0)).length ≤ 400
      rw [List.length_replicate]
      exact n4
    · have u : ∀ (H2 : Hp) (o : HO), Mm.But [p] H2 (upd H2 p o) := fun _ _ => Mm.But.upd List.mem_cons_self
      exact ((((((Mm.But.same s2).trans (u _ _)).trans (u _ _)).trans (u _ _)).trans (u _ _)).trans (u _ _))

theorem G_check_handed {a : Ad} (T : Top K mg a) : FnOk P w K mg base CX0 2 a.f_check_handed a.d_check_handed P_check_handed (Ct.spHandedT K a.C_Memory) := by
  refine T.F_check_handed.ok sc_check_handed (fun vs H Q E h => ?_) (fun cdv A outer s H vs Q E hr h => ?_)
  · obtain ⟨_, _, _, _, _, _, _, rfl, _⟩ := h
    rfl
  · obtain ⟨p, l, b, m, j, n, ws, rfl, M, hB, hj, hws, q⟩ := h
    obtain ⟨dx, ah, hp, _⟩ := M.ob
    refine ⟨_, (pss_cons (ps_if (pt_not (pt_chain op_le op_le pe_int (pv 1) (pe_op op_sub (pe_callB call_len_seq (by rfl) T.b_len PySem.boot_len (pa_cons (pe_meth0 (pv 0) T.cl_Memory T.m_Memory_cells (G_Memory_cells T) (hr.mono (by omega)) T.B_Memory_cells .nil pass0) pa_nil)) (pv 2))))
        (pss_one ps_never)
        pss_nil)
      (pss_one (ps_for PassesOwn.never rfl (pi_tup (pv 3)) (pg_name (i := 4) sc_check_handed.nd rfl (Or.inl rfl))
        (pss_one (ps_expr (pe_call (G_check_worth T) (hr.mono (by omega)) (by rfl) T.g_check_worth T.F_check_worth.kp T.B_check_worth .nil pass0 (pa_cons (pv 4) pa_nil))))))), ?_⟩
    refine ⟨_, rfl, 0, (j : Int), rfl, rfl, _, rfl, ite2 (fun _ => ?_) (fun e => absurd (decide_eq_true (by omega)) e)⟩
    refine ⟨.ref p, rfl, p, dx, _, rfl, hp, no_attr (by decide +kernel), p, l, m, rfl, M, fun H1 c s1 nc hc => ?_⟩
    refine ⟨c, _, rfl, .inl (Dw.sq_of hc), _, rfl, _, _, rfl, rfl, (j : Int), _, rfl, rfl, _, rfl, iteNS (by omega) ?_⟩
    refine ⟨.ref b, rfl, b, rfl, ⟨_, Dw.same_tup s1 hB⟩, for_tup (xs := ws.map V.int) (fun i σ H' => ∃ v4, σ = [some (.ref p), some (.int (j : Int)), some (.int (n : Int)), some (.ref b), v4] ∧ H' = H1) ⟨_, rfl, rfl⟩ (fun i σ H' _ ⟨_, _, z⟩ => by rw [z]; exact Dw.same_tup s1 hB) ?_ ?_⟩
    · rintro i y σ H' hi ⟨v4, rfl, rfl⟩
      obtain ⟨x, hx, rfl⟩ := Dw.get_map hi
      obtain ⟨x0, x1⟩ := hws x (List.mem_of_getElem? hx)
      exact ⟨_, rfl, x, rfl, x0, x1, _, rfl, rfl⟩
    · rintro σ H' ⟨v4, rfl, rfl⟩
      exact q _ s1

/-- sums of a list or tuple of what cells hold -/
def spSums (K : PySem.W.Frag) : Sp := fun vs H Q _ => ∃ (c : Addr) (cs : List V), vs = [.ref c] ∧ (SqL K H c cs ∨ SqT K H c cs) ∧ (∀ v ∈ cs, Dw.cel v = true) ∧ (V.non ∈ cs → Q .non H) ∧
  ∀ xs : List Int, cs = xs.map V.int → ∀ (H' : Hp) (t : Addr), Same H H' → H t = none → H' t = some (.tup [.int (Sm.sumsI xs).1, .int (Sm.sumsI xs).2]) → Q (.ref t) H'
theorem G_sums {a : Ad} (T : Top K mg a) : FnOk P w K mg base CX0 1 a.f_sums a.d_sums P_sums (spSums K) := by
  refine T.F_sums.ok sc_sums (fun vs H Q E h => ?_) (fun cdv A outer s H vs Q E hr h => ?_)
  · obtain ⟨_, _, rfl, _⟩ := h
    rfl
  · obtain ⟨c, cs, rfl, hC, hcel, qn, q⟩ := h
    rcases hC with hC | hC
    · refine ⟨_, (pss_cons (ps_set (i := 1) sc_sums.nd rfl (Or.inl rfl) pe_int)
      (pss_cons (ps_set (i := 2) sc_sums.nd rfl (Or.inl rfl) pe_int)
      (pss_cons (ps_for PassesOwn.never rfl (pi_list (pv 0)) (pg_name (i := 3) sc_sums.nd rfl (Or.inl rfl))
        (pss_cons (ps_if (pt_cmpR op_isN (pv 3) pe_non (nomark _))
        (pss_one (ps_ret pe_non))
        pss_nil)
      (pss_cons (ps_set (i := 1) sc_sums.nd rfl (Or.inl rfl) (pe_op op_mod (pe_op op_add (pe_op op_add (pv 1) (pv 3)) pe_int) (pe_glob (v := .int 9973) rfl T.c_RESTS_BY ⟨_, rfl⟩)))
      (pss_one (ps_set (i := 2) sc_sums.nd rfl (Or.inl rfl) (pe_op op_mod (pe_op op_add (pv 2) (pv 1)) (pe_glob (v := .int 9973) rfl T.c_RESTS_BY ⟨_, rfl⟩)))))))
      (pss_one (ps_ret (pe_tup (pa_cons (pv 1) (pa_cons (pv 2) pa_nil)))))))), ?_⟩
      refine ⟨.ref c, rfl, c, rfl, ⟨_, hC⟩, for_list (K := K) (a := c) (xs := cs) (fun i σ H' => ∃ (ys : List Int) (v3 : Option V), cs.take i = ys.map V.int ∧ σ = [some (.ref c), some (.int (Sm.sumsI ys).1), some (.int (Sm.sumsI ys).2), v3] ∧ H' = H)
        ⟨[], none, rfl, rfl, rfl⟩ (fun i σ H' _ ⟨_, _, _, _, e⟩ => e ▸ hC) ?_ ?_⟩
      · rintro i y σ H' hi ⟨ys, v3, hy, rfl, rfl⟩
        rcases Dw.cel_cases (hcel y (List.mem_of_getElem? hi)) with ⟨x, rfl⟩ | rfl
        · refine ⟨_, rfl, rfl, _, rfl, ite2 (fun e => absurd (of_decide_eq_true e) (by intro z; cases z)) (fun _ => ?_)⟩
          refine ⟨_, rfl, _, rfl, _, _, rfl, rfl, _, 1, rfl, rfl, _, 9973, rfl, rfl, (by show (0 : Int) < 9973; decide), ?_⟩
          refine ⟨_, rfl, _, rfl, _, _, rfl, rfl, _, 9973, rfl, rfl, (by show (0 : Int) < 9973; decide), ?_⟩
          refine ⟨ys ++ [x], some (.int x), ?_, ?_, rfl⟩
          · rw [List.take_add_one, hi, hy, List.map_append]
            rfl
          · unfold Sm.sumsI
            rw [List.foldl_append]
            rfl
        · refine ⟨_, rfl, rfl, _, rfl, ite2 (fun _ => ?_) (fun e => absurd (decide_eq_true rfl) e)⟩
          exact qn (List.mem_of_getElem? hi)
      · rintro σ H' ⟨ys, v3, hy, rfl, rfl⟩
        rw [List.take_length] at hy
        refine ⟨_, rfl, _, rfl, Dw.sz_ rfl, fun t ht => ?_⟩
        exact q ys hy _ t (Dw.same_upd ht) ht upd_same
    · refine ⟨_, (pss_cons (ps_set (i := 1) sc_sums.nd rfl (Or.inl rfl) pe_int)
      (pss_cons (ps_set (i := 2) sc_sums.nd rfl (Or.inl rfl) pe_int)
      (pss_cons (ps_for PassesOwn.never rfl (pi_tup (pv 0)) (pg_name (i := 3) sc_sums.nd rfl (Or.inl rfl))
        (pss_cons (ps_if (pt_cmpR op_isN (pv 3) pe_non (nomark _))
        (pss_one (ps_ret pe_non))
        pss_nil)
      (pss_cons (ps_set (i := 1) sc_sums.nd rfl (Or.inl rfl) (pe_op op_mod (pe_op op_add (pe_op op_add (pv 1) (pv 3)) pe_int) (pe_glob (v := .int 9973) rfl T.c_RESTS_BY ⟨_, rfl⟩)))
      (pss_one (ps_set (i := 2) sc_sums.nd rfl (Or.inl rfl) (pe_op op_mod (pe_op op_add (pv 2) (pv 1)) (pe_glob (v := .int 9973) rfl T.c_RESTS_BY ⟨_, rfl⟩)))))))
      (pss_one (ps_ret (pe_tup (pa_cons (pv 1) (pa_cons (pv 2) pa_nil)))))))), ?_⟩
      refine ⟨.ref c, rfl, c, rfl, ⟨_, hC⟩, for_tup (K := K) (a := c) (xs := cs) (fun i σ H' => ∃ (ys : List Int) (v3 : Option V), cs.take i = ys.map V.int ∧ σ = [some (.ref c), some (.int (Sm.sumsI ys).1), some (.int (Sm.sumsI ys).2), v3] ∧ H' = H)
        ⟨[], none, rfl, rfl, rfl⟩ (fun i σ H' _ ⟨_, _, _, _, e⟩ => e ▸ hC) ?_ ?_⟩
      · rintro i y σ H' hi ⟨ys, v3, hy, rfl, rfl⟩
        rcases Dw.cel_cases (hcel y (List.mem_of_getElem? hi)) with ⟨x, rfl⟩ | rfl
        · refine ⟨_, rfl, rfl, _, rfl, ite2 (fun e => absurd (of_decide_eq_true e) (by intro z; cases z)) (fun _ => ?_)⟩
          refine ⟨_, rfl, _, rfl, _, _, rfl, rfl, _, 1, rfl, rfl, _, 9973, rfl, rfl, (by show (0 : Int) < 9973; decide), ?_⟩
          refine ⟨_, rfl, _, rfl, _, _, rfl, rfl, _, 9973, rfl, rfl, (by show (0 : Int) < 9973; decide), ?_⟩
          refine ⟨ys ++ [x], some (.int x), ?_, ?_, rfl⟩
          · rw [List.take_add_one, hi, hy, List.map_append]
            rfl
          · unfold Sm.sumsI
            rw [List.foldl_append]
            rfl
        · refine ⟨_, rfl, rfl, _, rfl, ite2 (fun _ => ?_) (fun e => absurd (decide_eq_true rfl) e)⟩
          exact qn (List.mem_of_getElem? hi)
      · rintro σ H' ⟨ys, v3, hy, rfl, rfl⟩
        rw [List.take_length] at hy
        refine ⟨_, rfl, _, rfl, Dw.sz_ rfl, fun t ht => ?_⟩
        exact q ys hy _ t (Dw.same_upd ht) ht upd_same
/-- the same for ints alone -/
def spSumsI (K : PySem.W.Frag) : Sp := fun vs H Q _ => ∃ (c : Addr) (xs : List Int), vs = [.ref c] ∧ (SqL K H c (xs.map V.int) ∨ SqT K H c (xs.map V.int)) ∧
  ∀ (H' : Hp) (t : Addr), Same H H' → H t = none → H' t = some (.tup [.int (Sm.sumsI xs).1, .int (Sm.sumsI xs).2]) → Q (.ref t) H'
theorem sums_int {vs : List V} {H : Hp} {Q : VK} {E : XK} (h : spSumsI K vs H Q E) : spSums K vs H Q E := by
  obtain ⟨c, xs, rfl, hC, q⟩ := h
  refine ⟨c, _, rfl, hC, Dw.cel_ints, fun m => ?_, fun ys e => ?_⟩
  · obtain ⟨_, _, z⟩ := List.mem_map.mp m
    cases z
  · rw [← Dw.map_int_inj e]
    exact q
theorem G_sumsI {a : Ad} (T : Top K mg a) : FnOk P w K mg base CX0 1 a.f_sums a.d_sums P_sums (spSumsI K) := (G_sums T).imp fun _ _ _ _ => sums_int

theorem G_both_pages {a : Ad} (T : Top K mg a) : FnOk P w K mg base (L2.CX P w) 3 a.f_both_pages a.d_both_pages P_both_pages (Bk.spPages a.C_Memory a.C_Stopped) := by
  refine T.F_both_pages.okX sc_both_pages (fun vs H Q E h => ?_) (fun cdv A outer s H vs Q E hr h => ?_)
  · obtain ⟨_, _, _, _, rfl, _⟩ := h
    rfl
  · obtain ⟨p, l, m, j, rfl, M, hj, q1, q0⟩ := h
    obtain ⟨dx, ah, hp, _⟩ := M.ob
    refine ⟨_, (pss_cons (ps_set (i := 2) sc_both_pages.nd rfl (Or.inl rfl) (pe_meth (pv 0) T.cl_Memory T.m_Memory_row (G_Memory_row T) (hr.mono (by omega)) T.B_Memory_row .nil (passes_call (takes_of rfl rfl rfl rfl) fun _ _ _ _ h => h) (pa_cons (pv 1) (pa_cons (pe_glob (v := .int 12) rfl T.c_BOOK_CELLS ⟨_, rfl⟩) pa_nil))))
      (pss_one (ps_ret (pe_lst (pa_cons (pe_slice sl_list (pv 2) po_none (po_some (pe_glob (v := .int 6) rfl T.c_PAGE_CELLS ⟨_, rfl⟩))) (pa_cons (pe_slice sl_list (pv 2) (po_some (pe_glob (v := .int 6) rfl T.c_PAGE_CELLS ⟨_, rfl⟩)) po_none) pa_nil)))))), ?_⟩
    refine ⟨.ref p, rfl, p, dx, _, rfl, hp, no_attr (by decide +kernel), _, rfl, p, l, m, j, 12, rfl, M, by omega, fun hu H1 c s1 nc hc => ?_, q0⟩
    refine ⟨_, rfl, 6, rfl, c, _, rfl, Dw.sq_of hc, fun u hu1 => ?_⟩
    rw [show cutV ((m.cells.drop j).take 12) none (some 6) = Bk.pg m.cells j from (Dw.cut_take _ 6).trans (Bk.pg_row0 _ _)]
    have s2 := Dw.same_upd (o := .lst (Bk.pg m.cells j)) hu1
    refine ⟨_, rfl, 6, rfl, c, _, rfl, Dw.sq_of (s2 _ _ hc), fun v hv1 => ?_⟩
    rw [show cutV ((m.cells.drop j).take 12) (some 6) none = Bk.pg m.cells (j + 6) from (Dw.cut_drop _ 6).trans (Bk.pg_row6 _ _)]
    have s3 := Dw.same_upd (o := .lst (Bk.pg m.cells (j + 6))) hv1
    refine ⟨Dw.sz_ rfl, fun b hb => ?_⟩
    have s4 := Dw.same_upd (o := .lst [.ref u, .ref v]) hb
    exact q1 hu _ b u v (((s1.trans s2).trans s3).trans s4) upd_same (s4 _ _ (s3 _ _ upd_same)) (s4 _ _ upd_same)
theorem four : ∀ {xs : List Int}, xs.length = 4 → ∃ a b c d, xs = [a, b, c, d]
  | [a, b, c, d], _ => ⟨a, b, c, d, rfl⟩
  | [], h => by cases h
  | [_], h => by cases h
  | [_, _], h => by cases h
  | [_, _, _], h => by cases h
  | _ :: _ :: _ :: _ :: _ :: _, h => by simp at h
theorem G_number_of {a : Ad} (T : Top K mg a) : FnOk P w K mg base CX0 2 a.f_number_of a.d_number_of P_number_of (Bk.spNumberOf K) := by
  refine T.F_number_of.ok sc_number_of (fun vs H Q E h => ?_) (fun cdv A outer s H vs Q E hr h => ?_)
  · obtain ⟨_, _, rfl, _⟩ := h
    rfl
  · obtain ⟨b, pl, rfl, hB, hl, ok, q⟩ := h
    refine ⟨_, (pss_cons (ps_if (pt_cmpR (op_neD hr.units) (pe_call (G_sums T) (hr.mono (by omega)) (by rfl) T.g_sums T.F_sums.kp T.B_sums .nil pass0 (pa_cons (pe_slice sl_list (pv 0) po_none (po_some (pe_glob (v := .int 4) rfl T.c_SUMMED_CELLS ⟨_, rfl⟩))) pa_nil)) (pe_callTy call_tuple_of (by rfl) T.b_tuple (by decide +kernel) (pa_cons (pe_slice sl_list (pv 0) (po_some (pe_glob (v := .int 4) rfl T.c_SUMMED_CELLS ⟨_, rfl⟩)) po_none) pa_nil)) (nomark _))
        (pss_one (ps_ret pe_int))
        pss_nil)
      (pss_one (ps_ret (pe_ix ix_list (pv 0) pe_int (fun _ _ => rfl))))), ?_⟩
    obtain ⟨x0, x1, x2, x3, x4, x5, rfl⟩ := Bk.six hl
    have h0 := ok x0 (by simp)
    have h1 := ok x1 (by simp)
    have h2 := ok x2 (by simp)
    have h3 := ok x3 (by simp)
    have h4 := ok x4 (by simp)
    have h5 := ok x5 (by simp)
    refine ⟨_, rfl, 4, rfl, b, _, rfl, hB, fun c hc => ?_⟩
    rw [show cutV [x0, x1, x2, x3, x4, x5] none (some 4) = [x0, x1, x2, x3] from Dw.cut_take _ 4]
    have s1 := Dw.same_upd (o := .lst [x0, x1, x2, x3]) hc
    have cel4 : ∀ v ∈ [x0, x1, x2, x3], Dw.cel v = true := fun v hv => (ok v (by simp only [List.mem_cons, List.not_mem_nil, or_false] at hv ⊢; rcases hv with z | z | z | z <;> simp [z])).cel
    have cel2 : ∀ v ∈ [x4, x5], Dw.cel v = true := fun v hv => (ok v (by simp only [List.mem_cons, List.not_mem_nil, or_false] at hv ⊢; rcases hv with z | z <;> simp [z])).cel
    refine ⟨c, _, rfl, .inl (Dw.sq_of upd_same), cel4, fun hn => ?_, fun xs hxs H2 t s2 nt ht => ?_⟩
    · refine ⟨_, rfl, 4, rfl, b, _, rfl, s1.seq hB, fun e he => ?_⟩
      rw [show cutV [x0, x1, x2, x3, x4, x5] (some 4) none = [x4, x5] from Dw.cut_drop _ 4]
      have s3 := Dw.same_upd (o := .lst [x4, x5]) he
      refine ⟨e, _, rfl, .inl ⟨Dw.sq_of upd_same, fun f hf => ?_⟩⟩
      have s4 := Dw.same_upd (o := .tup [x4, x5]) hf
      refine ⟨_, _, .non, Dw.dp_t (Dw.st_of upd_same) cel2, rfl, Dw.shaped_t cel2, _, rfl, ?_⟩
      refine ite2 (fun _ => ?_) (fun z => absurd (by rfl) z)
      have qq := q _ ((s1.trans s3).trans s4)
      rw [Bk.pgN_broken (by simp only [List.mem_cons, List.not_mem_nil, or_false] at hn ⊢; rcases hn with z | z | z | z <;> simp [← z])] at qq
      exact qq
    · have S2 := s1.trans s2
      refine ⟨_, rfl, 4, rfl, b, _, rfl, S2.seq hB, fun e he => ?_⟩
      rw [show cutV [x0, x1, x2, x3, x4, x5] (some 4) none = [x4, x5] from Dw.cut_drop _ 4]
      have s3 := Dw.same_upd (o := .lst [x4, x5]) he
      refine ⟨e, _, rfl, .inl ⟨Dw.sq_of upd_same, fun f hf => ?_⟩⟩
      have s4 := Dw.same_upd (o := .tup [x4, x5]) hf
      refine ⟨_, _, Dw.dp_t (xs := [.int (Sm.sumsI xs).1, .int (Sm.sumsI xs).2]) (Dw.st_of (s4 _ _ (s3 _ _ ht))) (Dw.cel_ints (xs := [(Sm.sumsI xs).1, (Sm.sumsI xs).2])), Dw.dp_t (Dw.st_of upd_same) cel2, Dw.shaped_t (Dw.cel_ints (xs := [(Sm.sumsI xs).1, (Sm.sumsI xs).2])), Dw.shaped_t cel2, _, rfl, ?_⟩
      rw [Dw.eqv_t (xs := [.int (Sm.sumsI xs).1, .int (Sm.sumsI xs).2]) (ys := [x4, x5]) (Dw.cel_ints (xs := [(Sm.sumsI xs).1, (Sm.sumsI xs).2])) cel2]
      have S4 := (S2.trans s3).trans s4
      have hxl : xs.length = 4 := by
        have z := congrArg List.length hxs
        rw [List.length_map] at z
        exact z.symm
      obtain ⟨i0, i1, i2, i3, rfl⟩ := four hxl
      injection hxs with e0 hxs
      injection hxs with e1 hxs
      injection hxs with e2 hxs
      injection hxs with e3 hxs
      subst e0 e1 e2 e3
      by_cases hz : ([.int (Sm.sumsI [i0, i1, i2, i3]).1, .int (Sm.sumsI [i0, i1, i2, i3]).2] : List V) = [x4, x5]
      · refine iteNS hz ?_
        injection hz with e4 hz
        injection hz with e5 _
        subst e4 e5
        have qq := q _ S4
        rw [show Bk.pgN [.int i0, .int i1, .int i2, .int i3, .int (Sm.sumsI [i0, i1, i2, i3]).1, .int (Sm.sumsI [i0, i1, i2, i3]).2] = i0 from Bk.pgN_of rfl] at qq
        exact ⟨_, rfl, b, _, 0, _, rfl, rfl, S4.seq hB, rfl, qq⟩
      · refine ite2 (fun _ => ?_) (fun z => absurd (by rw [decide_eq_false hz]; rfl) z)
        have qq := q _ S4
        have e : Bk.pgN [.int i0, .int i1, .int i2, .int i3, x4, x5] = 0 := by
          rcases h4 with rfl | ⟨j4, rfl, _⟩
          · exact Bk.pgN_broken (by simp)
          · rcases h5 with rfl | ⟨j5, rfl, _⟩
            · exact Bk.pgN_broken (by simp)
            · exact Bk.pgN_not fun y => hz (by rw [y])
        rw [e] at qq
        exact qq
theorem G_newest_of {a : Ad} (T : Top K mg a) : FnOk P w K mg base CX0 3 a.f_newest_of a.d_newest_of P_newest_of (Bk.spNewestOf K) := by
  refine T.F_newest_of.ok sc_newest_of (fun vs H Q E h => ?_) (fun cdv A outer s H vs Q E hr h => ?_)
  · obtain ⟨_, _, _, _, _, rfl, _⟩ := h
    rfl
  · obtain ⟨b, u, v, p, q, rfl, hB, hu, hv, lp, lq, op, oq, qq⟩ := h
    refine ⟨_, (pss_cons (ps_asg (pe_lc (own := [(("page" : Str), 3)]) (g := (gName 3)) (tt := tYes) (by rfl) sc_newest_of.nd (pi_list (pv 0)) (blkOk_by (own := [(("page" : Str), 3)]) (N := N_newest_of) (sc := defScope s_newest_of) (by decide +kernel)) (fun _ _ _ _ _ => (pg_name (i := 3) sc_newest_of.nd rfl (Or.inl rfl))) (fun _ _ _ _ _ => pts_nil) (fun _ _ _ _ _ => (pe_call (G_number_of T) (hr.mono (by omega)) (by rfl) T.g_number_of T.F_number_of.kp T.B_number_of .nil pass0 (pa_cons (pv 3) pa_nil)))) (pg_lst rfl (pgs_cons (pg_name (i := 1) sc_newest_of.nd rfl (Or.inl rfl)) (pgs_cons (pg_name (i := 2) sc_newest_of.nd rfl (Or.inl rfl)) pgs_nil))))
      (pss_cons (ps_if (PW.pt (pw_and (pt_cmpR op_eq (pv 1) pe_int (nomark _)) (pw_and1 (pt_cmpR op_eq (pv 2) pe_int (nomark _)))))
        (pss_one (ps_ret pe_non))
        pss_nil)
      (pss_one (ps_ret (pe_ifExp (pt_cmpR op_ge (pv 1) (pv 2) (nomark _)) pe_int pe_int))))), ?_⟩
    refine ⟨_, rfl, b, rfl, ⟨_, hB⟩, fun D hD => lc_list (K := K) (a := b) (xs := [.ref u, .ref v]) (fun i H' => Same H H' ∧ H' D = some (.lst (([Bk.pgN p, Bk.pgN q].take i).map V.int))) ⟨Dw.same_upd hD, upd_same⟩ (fun i H' _ ⟨s, _⟩ => s.seq hB) ?_ ?_⟩
    · rintro i z H3 hi ⟨s3, e3⟩
      have hi2 : i = 0 ∨ i = 1 := by
        have := (List.getElem?_eq_some_iff.mp hi).1
        have h2 : ([V.ref u, .ref v] : List V).length = 2 := rfl
        omega
      rcases hi2 with rfl | rfl
      · have e := Option.some.inj hi
        subst e
        refine ⟨rfl, _, rfl, u, p, rfl, s3.seq hu, lp, op, fun H4 s4 => ⟨_, s4 _ _ e3, Dw.size_lt (show ((List.map V.int (List.take _ [Bk.pgN p, Bk.pgN q])).length) < 100000 by rw [List.length_map, List.length_take]; exact Nat.lt_of_le_of_lt (Nat.min_le_left _ _) (by decide)), Dw.same_mut (s3.trans s4) hD, ?_⟩⟩
        rw [upd_same]
        rfl
      · have e := Option.some.inj hi
        subst e
        refine ⟨rfl, _, rfl, v, q, rfl, s3.seq hv, lq, oq, fun H4 s4 => ⟨_, s4 _ _ e3, Dw.size_lt (show ((List.map V.int (List.take _ [Bk.pgN p, Bk.pgN q])).length) < 100000 by rw [List.length_map, List.length_take]; exact Nat.lt_of_le_of_lt (Nat.min_le_left _ _) (by decide)), Dw.same_mut (s3.trans s4) hD, ?_⟩⟩
        rw [upd_same]
        rfl
    · rintro H3 ⟨s3, e3⟩
      have q3 := qq H3 s3
      refine ⟨D, _, rfl, Dw.sq_of e3, rfl, _, _, rfl, _, _, rfl, rfl, ?_⟩
      unfold Bk.newV at q3
      by_cases hp0 : Bk.pgN p = 0
      · by_cases hq0 : Bk.pgN q = 0
        · rw [if_pos ⟨hp0, hq0⟩] at q3
          exact ⟨_, rfl, rfl, _, rfl, ite2 (fun _ => ⟨_, rfl, rfl, _, rfl, ite2 (fun _ => q3) (fun z => absurd (decide_eq_true (congrArg V.int hq0)) z)⟩) (fun z => absurd (decide_eq_true (congrArg V.int hp0)) z)⟩
        · rw [if_neg (fun z => hq0 z.2)] at q3
          refine ⟨_, rfl, rfl, _, rfl, ite2 (fun _ => ⟨_, rfl, rfl, _, rfl, ite2 (fun z => absurd (V.int.inj (of_decide_eq_true z)) hq0) (fun _ => ?_)⟩) (fun z => absurd (decide_eq_true (congrArg V.int hp0)) z)⟩
          refine ⟨_, rfl, _, rfl, _, _, rfl, rfl, _, rfl, ite2 (fun z => ?_) (fun z => ?_)⟩
          · rw [if_pos (of_decide_eq_true z)] at q3
            exact q3
          · rw [if_neg (fun y => z (decide_eq_true y))] at q3
            exact q3
      · rw [if_neg (fun z => hp0 z.1)] at q3
        refine ⟨_, rfl, rfl, _, rfl, ite2 (fun z => absurd (V.int.inj (of_decide_eq_true z)) hp0) (fun _ => ?_)⟩
        refine ⟨_, rfl, _, rfl, _, _, rfl, rfl, _, rfl, ite2 (fun z => ?_) (fun z => ?_)⟩
        · rw [if_pos (of_decide_eq_true z)] at q3
          exact q3
        · rw [if_neg (fun y => z (decide_eq_true y))] at q3
          exact q3
theorem newV_cases (p q : List V) : (Bk.newV p q = .non ∧ Bk.recO p q = none ∧ Bk.pw p q = 0) ∨ (Bk.newV p q = .int 0 ∧ Bk.recO p q = some (Bk.pgR p) ∧ Bk.pw p q = 1 ∧ (0 ≤ Bk.pgN p → 0 ≤ Bk.pgN q → Bk.pgN p ≠ 0)) ∨ (Bk.newV p q = .int 1 ∧ Bk.recO p q = some (Bk.pgR q) ∧ Bk.pw p q = 0 ∧ (0 ≤ Bk.pgN p → 0 ≤ Bk.pgN q → Bk.pgN q ≠ 0)) := by
  unfold Bk.newV Bk.recO Bk.newest Bk.pw
  by_cases h0 : Bk.pgN p = 0 ∧ Bk.pgN q = 0
  · rw [if_pos h0, if_pos h0, if_pos h0]
    exact .inl ⟨rfl, rfl, rfl⟩
  · rw [if_neg h0, if_neg h0, if_neg h0]
    by_cases hle : Bk.pgN q ≤ Bk.pgN p
    · rw [if_pos hle, if_pos hle, if_pos hle]
      exact .inr (.inl ⟨rfl, rfl, rfl, fun _ _ => by omega⟩)
    · rw [if_neg hle, if_neg hle, if_neg hle]
      exact .inr (.inr ⟨rfl, rfl, rfl, fun _ _ => by omega⟩)
theorem G_page_to_write {a : Ad} (T : Top K mg a) : FnOk P w K mg base CX0 4 a.f_page_to_write a.d_page_to_write P_page_to_write (Bk.spToWrite K) := by
  refine T.F_page_to_write.ok sc_page_to_write (fun vs H Q E h => ?_) (fun cdv A outer s H vs Q E hr h => ?_)
  · obtain ⟨_, _, _, _, _, rfl, _⟩ := h
    rfl
  · obtain ⟨b, u, v, p, q, rfl, hB, hu, hv, lp, lq, op, oq, qq⟩ := h
    refine ⟨_, (pss_cons (ps_set (i := 1) sc_page_to_write.nd rfl (Or.inl rfl) (pe_call (G_newest_of T) (hr.mono (by omega)) (by rfl) T.g_newest_of T.F_newest_of.kp T.B_newest_of .nil pass0 (pa_cons (pv 0) pa_nil)))
      (pss_cons (ps_if (pt_cmpR op_isN (pv 1) pe_non (nomark _))
        (pss_one (ps_ret pe_int))
        pss_nil)
      (pss_one (ps_ret (pe_op op_sub pe_int (pv 1)))))), ?_⟩
    refine ⟨_, rfl, b, u, v, p, q, rfl, hB, hu, hv, lp, lq, op, oq, fun H1 s1 => ?_⟩
    have q1 := qq H1 s1
    rcases newV_cases p q with ⟨e1, _, e2⟩ | ⟨e1, _, e2, _⟩ | ⟨e1, _, e2, _⟩
    · rw [e1]
      rw [e2] at q1
      exact ⟨_, rfl, rfl, _, rfl, ite2 (fun _ => q1) (fun z => absurd (by rfl) z)⟩
    · rw [e1]
      rw [e2] at q1
      exact ⟨_, rfl, rfl, _, rfl, ite2 (fun z => by cases of_decide_eq_true z) (fun _ => ⟨_, rfl, 1, 0, rfl, rfl, q1⟩)⟩
    · rw [e1]
      rw [e2] at q1
      exact ⟨_, rfl, rfl, _, rfl, ite2 (fun z => by cases of_decide_eq_true z) (fun _ => ⟨_, rfl, 1, 1, rfl, rfl, q1⟩)⟩
theorem G_record {a : Ad} (T : Top K mg a) : FnOk P w K mg base (L2.CX P w) 4 a.f_record a.d_record P_record (Bk.spRecord a.C_Memory a.C_Stopped) := by
  refine T.F_record.okX sc_record (fun vs H Q E h => ?_) (fun cdv A outer s H vs Q E hr h => ?_)
  · obtain ⟨_, _, _, _, rfl, _⟩ := h
    rfl
  · obtain ⟨p, l, m, j, rfl, M, hj, ok, q1, q0⟩ := h
    refine ⟨_, (pss_cons (ps_set (i := 2) sc_record.nd rfl (Or.inl rfl) (pe_call (G_both_pages T) (hr.mono (by omega)) (by rfl) T.g_both_pages T.F_both_pages.kp T.B_both_pages .nil (passes_call (takes_of rfl rfl rfl rfl) fun _ _ _ _ h => h) (pa_cons (pv 0) (pa_cons (pv 1) pa_nil))))
      (pss_cons (ps_set (i := 3) sc_record.nd rfl (Or.inl rfl) (pe_call (G_newest_of T) (hr.mono (by omega)) (by rfl) T.g_newest_of T.F_newest_of.kp T.B_newest_of .nil pass0 (pa_cons (pv 2) pa_nil)))
      (pss_cons (ps_if (pt_cmpR op_isN (pv 3) pe_non (nomark _))
        (pss_one (ps_ret pe_non))
        pss_nil)
      (pss_one (ps_ret (pe_callTy call_tuple_of (by rfl) T.b_tuple (by decide +kernel) (pa_cons (pe_slice sl_list (pe_ix ix_list (pv 2) (pv 3) (fun _ _ => rfl)) (po_some pe_int) (po_some (pe_glob (v := .int 4) rfl T.c_SUMMED_CELLS ⟨_, rfl⟩))) pa_nil))))))), ?_⟩
    refine ⟨_, rfl, _, rfl, p, l, m, j, rfl, M, hj, fun hu H1 b u v s1 hb hu1 hv1 => ?_, q0⟩
    have op := Bk.pg_ok ok j
    have oq := Bk.pg_ok ok (j + 6)
    refine ⟨_, rfl, b, u, v, _, _, rfl, Dw.sq_of hb, Dw.sq_of hu1, Dw.sq_of hv1, Bk.pg_len (by omega), Bk.pg_len (by omega), op, oq, fun H2 s2 => ?_⟩
    have n0 := Bk.pgN_lo op
    have n1 := Bk.pgN_lo oq
    have S2 := s1.trans s2
    rcases newV_cases (Bk.pg m.cells j) (Bk.pg m.cells (j + 6)) with ⟨e1, e2, _⟩ | ⟨e1, e2, _, e3⟩ | ⟨e1, e2, _, e3⟩
    · rw [e1]
      refine ⟨_, rfl, rfl, _, rfl, ite2 (fun _ => ?_) (fun z => absurd (by rfl) z)⟩
      exact q1 hu H2 .non S2 (by unfold Bk.recAt; rw [e2]; rfl) (fun t z => by cases z)
    · rw [e1]
      refine ⟨_, rfl, rfl, _, rfl, ite2 (fun z => by cases of_decide_eq_true z) (fun _ => ?_)⟩
      obtain ⟨c0, c1, c2, c3, c4, c5, ep, er, _⟩ := Bk.pg_ints (e3 n0 n1)
      rw [ep] at hu1
      refine ⟨_, rfl, _, rfl, b, _, 0, .ref u, rfl, rfl, Dw.sq_of (s2 _ _ hb), rfl, 1, rfl, 4, rfl, u, _, rfl, Dw.sq_of (s2 _ _ hu1), fun f hf => ?_⟩
      rw [show cutV [V.int c0, V.int c1, V.int c2, V.int c3, V.int c4, V.int c5] (some 1) (some 4) = [.int c1, .int c2, .int c3] from Bk.cut_mid _ 1 4 (by decide)]
      have s3 := Dw.same_upd (o := .lst [.int c1, .int c2, .int c3]) hf
      refine ⟨f, _, rfl, .inl ⟨Dw.sq_of upd_same, fun g hg => ?_⟩⟩
      have s4 := Dw.same_upd (o := .tup [.int c1, .int c2, .int c3]) hg
      refine q1 hu _ (.ref g) ((S2.trans s3).trans s4) ?_ (fun t z => by injection z with z; rw [← z]; exact (S2.trans s3).free hg)
      unfold Bk.recAt
      rw [e2, er]
      exact ⟨g, rfl, upd_same⟩
    · rw [e1]
      refine ⟨_, rfl, rfl, _, rfl, ite2 (fun z => by cases of_decide_eq_true z) (fun _ => ?_)⟩
      obtain ⟨c0, c1, c2, c3, c4, c5, ep, er, _⟩ := Bk.pg_ints (e3 n0 n1)
      rw [ep] at hv1
      refine ⟨_, rfl, _, rfl, b, _, 1, .ref v, rfl, rfl, Dw.sq_of (s2 _ _ hb), rfl, 1, rfl, 4, rfl, v, _, rfl, Dw.sq_of (s2 _ _ hv1), fun f hf => ?_⟩
      rw [show cutV [V.int c0, V.int c1, V.int c2, V.int c3, V.int c4, V.int c5] (some 1) (some 4) = [.int c1, .int c2, .int c3] from Bk.cut_mid _ 1 4 (by decide)]
      have s3 := Dw.same_upd (o := .lst [.int c1, .int c2, .int c3]) hf
      refine ⟨f, _, rfl, .inl ⟨Dw.sq_of upd_same, fun g hg => ?_⟩⟩
      have s4 := Dw.same_upd (o := .tup [.int c1, .int c2, .int c3]) hg
      refine q1 hu _ (.ref g) ((S2.trans s3).trans s4) ?_ (fun t z => by injection z with z; rw [← z]; exact (S2.trans s3).free hg)
      unfold Bk.recAt
      rw [e2, er]
      exact ⟨g, rfl, upd_same⟩
theorem G_note {a : Ad} (T : Top K mg a) : FnOk P w K mg base (L2.CX P w) 5 a.f_note a.d_note P_note (Bk.spNote K a.C_Memory a.C_Stopped) := by
  refine T.F_note.okX sc_note (fun vs H Q E h => ?_) (fun cdv A outer s H vs Q E hr h => ?_)
  · obtain ⟨_, _, _, _, _, _, _, _, rfl, _⟩ := h
    rfl
  · obtain ⟨p, l, t, m, j, b, c, d, rfl, M, ht, hj, ok, hb, hc, hd, hn, q⟩ := h
    obtain ⟨dx, ah, hp, _⟩ := M.ob
    refine ⟨_, (pss_cons (ps_expr (pe_call (G_check_handed T) (hr.mono (by omega)) (by rfl) T.g_check_handed T.F_check_handed.kp T.B_check_handed .nil pass0 (pa_cons (pv 0) (pa_cons (pv 1) (pa_cons (pe_glob (v := .int 12) rfl T.c_BOOK_CELLS ⟨_, rfl⟩) (pa_cons (pv 2) pa_nil))))))
      (pss_cons (ps_set (i := 3) sc_note.nd rfl (Or.inl rfl) (pe_call (G_both_pages T) (hr.mono (by omega)) (by rfl) T.g_both_pages T.F_both_pages.kp T.B_both_pages .nil (passes_call (takes_of rfl rfl rfl rfl) fun _ _ _ _ h => h) (pa_cons (pv 0) (pa_cons (pv 1) pa_nil))))
      (pss_cons (ps_set (i := 4) sc_note.nd rfl (Or.inl rfl) (pe_op op_add pe_int (pe_callB (cr_max rfl) (by rfl) T.b_max (by decide +kernel) (pa_cons (pe_lc (own := [(("page" : Str), 10)]) (g := (gName 10)) (tt := tYes) (by rfl) sc_note.nd (pi_list (pv 3)) (blkOk_by (own := [(("page" : Str), 10)]) (N := N_note) (sc := defScope s_note) (by decide +kernel)) (fun _ _ _ _ _ => (pg_name (i := 10) sc_note.nd rfl (Or.inl rfl))) (fun _ _ _ _ _ => pts_nil) (fun _ _ _ _ _ => (pe_call (G_number_of T) (hr.mono (by omega)) (by rfl) T.g_number_of T.F_number_of.kp T.B_number_of .nil pass0 (pa_cons (pv 10) pa_nil)))) pa_nil))))
      (pss_cons (ps_expr (pe_call (G_check_worth T) (hr.mono (by omega)) (by rfl) T.g_check_worth T.F_check_worth.kp T.B_check_worth .nil pass0 (pa_cons (pv 4) pa_nil)))
      (pss_cons (ps_asg (pe_call (G_sumsI T) (hr.mono (by omega)) (by rfl) T.g_sums T.F_sums.kp T.B_sums .nil pass0 (pa_cons (pe_lst (pa_cons (pv 4) (StX.pa_star (pv 2) pa_nil))) pa_nil)) (pg_tup rfl (pgs_cons (pg_name (i := 5) sc_note.nd rfl (Or.inl rfl)) (pgs_cons (pg_name (i := 6) sc_note.nd rfl (Or.inl rfl)) pgs_nil))))
      (pss_cons (ps_set (i := 7) sc_note.nd rfl (Or.inl rfl) (pe_op op_add (pv 1) (pe_op op_mul (pe_glob (v := .int 6) rfl T.c_PAGE_CELLS ⟨_, rfl⟩) (pe_call (G_page_to_write T) (hr.mono (by omega)) (by rfl) T.g_page_to_write T.F_page_to_write.kp T.B_page_to_write .nil pass0 (pa_cons (pv 3) pa_nil)))))
      (pss_cons (ps_for (passes_of rfl) rfl (En.pi_enumS (by rfl) T.b_enumerate (pe_lst (pa_cons pe_int (StX.pa_star (pv 2) (pa_cons (pv 5) (pa_cons (pv 6) pa_nil))))) (pv 7)) (pg_tup rfl (pgs_cons (pg_name (i := 8) sc_note.nd rfl (Or.inl rfl)) (pgs_cons (pg_name (i := 9) sc_note.nd rfl (Or.inl rfl)) pgs_nil)))
        (pss_one (ps_expr (pe_meth (pv 0) T.cl_Memory T.m_Memory_write (G_Memory_write T) (hr.mono (by omega)) T.B_Memory_write .nil (passes_call (takes_of rfl rfl rfl rfl) fun _ _ _ _ h => h) (pa_cons (pv 8) (pa_cons (pv 9) pa_nil))))))
      (pss_one (ps_expr (pe_meth (pv 0) T.cl_Memory T.m_Memory_write (G_Memory_write T) (hr.mono (by omega)) T.B_Memory_write .nil (passes_call (takes_of rfl rfl rfl rfl) fun _ _ _ _ h => h) (pa_cons (pv 7) (pa_cons (pv 4) pa_nil)))))))))))), ?_⟩
    refine ⟨_, rfl, _, rfl, _, rfl, p, l, t, m, j, 12, [b, c, d], rfl, M, ht, hj, fun v hv => ?_, fun H1 s1 => ?_⟩
    · simp only [List.mem_cons, List.not_mem_nil, or_false] at hv
      rcases hv with rfl | rfl | rfl
      · exact hb
      · exact hc
      · exact hd
    have M1 := M.mono s1
    refine ⟨_, rfl, _, rfl, p, l, m, j, rfl, M1, hj, fun hu H2 pb pu pv s2 hpb hpu hpv => ?_, fun hu => ?_⟩
    · have S2 := s1.trans s2
      have op := Bk.pg_ok ok j
      have oq := Bk.pg_ok ok (j + 6)
      have lp : (Bk.pg m.cells j).length = 6 := Bk.pg_len (by omega)
      have lq : (Bk.pg m.cells (j + 6)).length = 6 := Bk.pg_len (by omega)
      refine ⟨_, rfl, pb, rfl, ⟨_, Dw.sq_of hpb⟩, fun D hD => lc_list (K := K) (a := pb) (xs := [.ref pu, .ref pv]) (fun i H' => Same H2 H' ∧ H' D = some (.lst (([Bk.pgN (Bk.pg m.cells j), Bk.pgN (Bk.pg m.cells (j + 6))].take i).map V.int))) ⟨Dw.same_upd hD, upd_same⟩ (fun i H' _ ⟨s, _⟩ => s.seq (Dw.sq_of hpb)) ?_ ?_⟩
      · rintro i z H3 hi ⟨s3, e3⟩
        have hi2 : i = 0 ∨ i = 1 := by
          have := (List.getElem?_eq_some_iff.mp hi).1
          have h2 : ([V.ref pu, .ref pv] : List V).length = 2 := rfl
          omega
        have hsz : ∀ k, ((List.map V.int (List.take k [Bk.pgN (Bk.pg m.cells j), Bk.pgN (Bk.pg m.cells (j + 6))])).length) < sizeLine := fun k => Dw.size_lt (by rw [List.length_map, List.length_take]; exact Nat.lt_of_le_of_lt (Nat.min_le_right _ _) (by decide : 2 < 100000))
        rcases hi2 with rfl | rfl
        · have e := Option.some.inj hi
          subst e
          refine ⟨rfl, _, rfl, pu, _, rfl, s3.seq (Dw.sq_of hpu), lp, op, fun H4 s4 => ⟨_, s4 _ _ e3, hsz _, Dw.same_mut (s3.trans s4) hD, ?_⟩⟩
          rw [upd_same]
          rfl
        · have e := Option.some.inj hi
          subst e
          refine ⟨rfl, _, rfl, pv, _, rfl, s3.seq (Dw.sq_of hpv), lq, oq, fun H4 s4 => ⟨_, s4 _ _ e3, hsz _, Dw.same_mut (s3.trans s4) hD, ?_⟩⟩
          rw [upd_same]
          rfl
      · rintro H3 ⟨s3, e3⟩
        have S3 := S2.trans s3
        refine ⟨D, [Bk.pgN (Bk.pg m.cells j), Bk.pgN (Bk.pg m.cells (j + 6))], rfl, Dw.sq_of e3, Nat.succ_pos _, fun mm hm hg => ⟨_, _, rfl, rfl, ?_⟩⟩
        have g1 := hg _ List.mem_cons_self
        have g2 := hg _ (List.mem_cons_of_mem _ List.mem_cons_self)
        have emm : 1 + mm = Bk.nextN m.cells j := by
          unfold Bk.nextN Bk.nn
          rcases List.mem_cons.mp hm with z | z
          · split <;> omega
          · have z := List.mem_singleton.mp z
            split <;> omega
        have n1 := (Bk.nn_pos op oq).1
        have n1 : 1 ≤ Bk.nextN m.cells j := n1
        rw [← emm] at hn n1
        have hS := Bk.sums_rng [1 + mm, b, c, d]
        -- the sums
        refine ⟨_, rfl, 1 + mm, rfl, by omega, hn, ?_⟩
        refine ⟨_, rfl, _, rfl, t, _, rfl, .inl (Dw.same_tup S3 ht), Dw.sz_ rfl, fun l1 hl1 => ?_⟩
        have s4 := Dw.same_upd (o := .lst ([1 + mm, b, c, d].map V.int)) hl1
        refine ⟨l1, [1 + mm, b, c, d], rfl, .inl (Dw.sq_of upd_same), fun H5 t5 s5 n5 h5 => ?_⟩
        have S5 := (S3.trans s4).trans s5
        refine ⟨t5, _, rfl, Dw.st_of h5, rfl, _, [_], rfl, _, [], rfl, rfl, ?_⟩
        -- the page
        refine ⟨_, rfl, _, rfl, pb, pu, pv, _, _, rfl, ((s3.trans s4).trans s5).seq (Dw.sq_of hpb), ((s3.trans s4).trans s5).seq (Dw.sq_of hpu), ((s3.trans s4).trans s5).seq (Dw.sq_of hpv), lp, lq, op, oq, fun H6 s6 => ?_⟩
        have S6 := S5.trans s6
        have hpw : (Bk.pw (Bk.pg m.cells j) (Bk.pg m.cells (j + 6))) ≤ 1 := by
          rcases Bk.pw_two (Bk.pg m.cells j) (Bk.pg m.cells (j + 6)) with z | z <;> omega
        have hF : (j : Int) + 6 * (Bk.pw (Bk.pg m.cells j) (Bk.pg m.cells (j + 6)) : Nat) = (Bk.fst6 m.cells j : Nat) := by
          unfold Bk.fst6
          omega
        refine ⟨6, _, rfl, rfl, .inl ⟨by decide, by decide⟩, (j : Int), _, rfl, rfl, ?_⟩
        have hfl : Bk.fst6 m.cells j + 6 ≤ m.cells.length := by
          unfold Bk.fst6
          omega
        have hlen := M.len
        have ews : Bk.noteAt m.cells j b c d = Bk.noteW (Bk.fst6 m.cells j) (1 + mm) b c d := by
          unfold Bk.noteAt
          rw [emm]
        rw [ews] at q
        have rng := Bk.note_rng (f := Bk.fst6 m.cells j) (n := 1 + mm) ⟨by omega, hn⟩ hb hc hd
        generalize hG : Bk.fst6 m.cells j = f at hF hfl q rng
        generalize hW : Bk.noteW f (1 + mm) b c d = ws at q rng
        have hws : ∀ (i : Nat) (x : Int), [0, b, c, d, (Sm.sumsI [1 + mm, b, c, d]).1, (Sm.sumsI [1 + mm, b, c, d]).2][i]? = some x → ws[i]? = some (f + i, x) := fun i x hx => by
          rw [← hW]
          match i, hx with
          | 0, hx => rw [← Option.some.inj hx]; rfl
          | 1, hx => rw [← Option.some.inj hx]; rfl
          | 2, hx => rw [← Option.some.inj hx]; rfl
          | 3, hx => rw [← Option.some.inj hx]; rfl
          | 4, hx => rw [← Option.some.inj hx]; rfl
          | 5, hx => rw [← Option.some.inj hx]; rfl
          | i + 6, hx => simp at hx
        have hw6 : ws.drop 6 = [(f, 1 + mm)] := by
          rw [← hW]
          rfl
        refine ⟨_, rfl, t, _, rfl, .inl (Dw.same_tup S6 ht), _, rfl, _, rfl, Dw.sz_ rfl, fun B hB => ?_⟩
        have s7 := Dw.same_upd (o := .lst ([0, b, c, d, (Sm.sumsI [1 + mm, b, c, d]).1, (Sm.sumsI [1 + mm, b, c, d]).2].map V.int)) hB
        have S7 := S6.trans s7
        have M7 := M.mono S7
        have nBp : B ≠ p := (ne_of_none (S6 _ _ hp) hB).symm
        have nBl : B ≠ l := (ne_of_none (S6 _ _ M.ls) hB).symm
        have hB7 : (upd H6 B (.lst ([0, b, c, d, (Sm.sumsI [1 + mm, b, c, d]).1, (Sm.sumsI [1 + mm, b, c, d]).2].map V.int))) B = some (.lst ([0, b, c, d, (Sm.sumsI [1 + mm, b, c, d]).1, (Sm.sumsI [1 + mm, b, c, d]).2].map V.int)) := upd_same
        refine ⟨_, rfl, B, _, _, rfl, rfl, by omega, by omega, Dw.sq_of hB7, En.for_enumS (K := K) (a := B) (xs := [0, b, c, d, (Sm.sumsI [1 + mm, b, c, d]).1, (Sm.sumsI [1 + mm, b, c, d]).2].map V.int)
          (fun i σ H2 => ∃ (v8 v9 : Option V) (m2 : Mm.Mem), σ = [some (.ref p), some (.int (j : Int)), some (.ref t), some (.ref pb), some (.int (1 + mm)), some (.int (Sm.sumsI [1 + mm, b, c, d]).1), some (.int (Sm.sumsI [1 + mm, b, c, d]).2), some (.int ((j : Int) + 6 * (Bk.pw (Bk.pg m.cells j) (Bk.pg m.cells (j + 6)) : Nat))), v8, v9, none] ∧ Mm.But [p, l] H H2 ∧ H2 B = some (.lst ([0, b, c, d, (Sm.sumsI [1 + mm, b, c, d]).1, (Sm.sumsI [1 + mm, b, c, d]).2].map V.int)) ∧ Mm.MemAt a.C_Memory p l m2 H2 ∧ m2.cells.length = m.cells.length ∧ Bk.wrs m2 (ws.drop i) = Bk.wrs m ws)
          ⟨_, _, m, rfl, Mm.But.same S7, hB7, M7, rfl, rfl⟩ (fun i σ H2 _ ⟨_, _, _, _, _, hb2, _⟩ => Dw.sq_of hb2) ?_ ?_⟩
        · rintro i y σ H8 t8 hi ⟨v8, v9, m2, rfl, k8, hB8, M8, el, ep⟩ ht8
          obtain ⟨x, hx, rfl⟩ := Dw.get_map hi
          have hwi := hws i x hx
          have hil : i < 6 := (List.getElem?_eq_some_iff.mp hx).1
          have hd8 : ws.drop i = (f + i, x) :: ws.drop (i + 1) := by
            obtain ⟨hi, e⟩ := List.getElem?_eq_some_iff.mp hwi
            rw [List.drop_eq_getElem_cons hi, e]
          obtain ⟨x0, x1⟩ := rng _ (List.mem_of_getElem? hwi)
          rw [hd8, Bk.wrs_cons] at ep
          have s9 : Same H8 (upd H8 t8 (.tup [.int ((j : Int) + 6 * (Bk.pw (Bk.pg m.cells j) (Bk.pg m.cells (j + 6)) : Nat) + (i : Nat)), .int x])) := Dw.same_upd ht8
          have k9 := k8.trans (Mm.But.same s9)
          have M9 := M8.mono s9
          have hB9 := s9 _ _ hB8
          obtain ⟨dx9, ah9, hp9, _⟩ := M9.ob
          refine ⟨t8, _, rfl, Dw.st_of upd_same, rfl, _, [_], rfl, _, [], rfl, rfl, ?_⟩
          generalize upd H8 t8 (.tup [.int ((j : Int) + 6 * (Bk.pw (Bk.pg m.cells j) (Bk.pg m.cells (j + 6)) : Nat) + (i : Nat)), .int x]) = H9 at k9 M9 hp9 hB9 ⊢
          refine ⟨.ref p, rfl, p, dx9, _, rfl, hp9, no_attr (by decide +kernel), _, rfl, _, rfl, p, l, m2, f + i, x, ?_, M9, by omega, x0, x1, fun H10 M10 k10 => ⟨fun hw => ?_, fun hw => ?_⟩⟩
          · rw [hF, ← Int.natCast_add]
            rfl
          · rw [if_pos hw] at ep
            exact ⟨_, _, _, rfl, k9.trans k10, k10 _ _ (by simp [nBp, nBl]) hB9, M10, by rw [Mm.write_len]; exact el, ep⟩
          · rw [if_neg (by rw [hw]; decide)] at ep
            have qq := q H10 (by rw [← ep]; exact M10) (k9.trans k10)
            exact qq.2 (by rw [← ep])
        · rintro σ H8 ⟨v8, v9, m2, rfl, k8, hB8, M8, el, ep⟩
          rw [show ws.drop (([0, b, c, d, (Sm.sumsI [1 + mm, b, c, d]).1, (Sm.sumsI [1 + mm, b, c, d]).2].map V.int).length) = ws.drop 6 from rfl, hw6, Bk.wrs_cons] at ep
          obtain ⟨dx8, ah8, hp8, _⟩ := M8.ob
          refine ⟨.ref p, rfl, p, dx8, _, rfl, hp8, no_attr (by decide +kernel), _, rfl, _, rfl, p, l, m2, f, 1 + mm, ?_, M8, by omega, by omega, hn, fun H10 M10 k10 => ⟨fun hw => ?_, fun hw => ?_⟩⟩
          · rw [hF]
            rfl
          · rw [if_pos hw] at ep
            have qq := q H10 (by rw [← ep]; exact M10) (k8.trans k10)
            exact qq.1 (by rw [← ep]; rfl)
          · rw [if_neg (by rw [hw]; decide)] at ep
            have qq := q H10 (by rw [← ep]; exact M10) (k8.trans k10)
            exact qq.2 (by rw [← ep])
    · have hne : Bk.noteAt m.cells j b c d ≠ [] := by
        unfold Bk.noteAt Bk.noteW
        intro z
        cases z
      have eR := Bk.wrs_down hu hne
      have qq := q H1 (by rw [eR]; exact M1) (Mm.But.same s1)
      exact qq.2 (by rw [eR])

/-- the law's own sums of a list of ints -/
def spLSums (K : PySem.W.Frag) : Sp := fun vs H Q _ => ∃ (c : Addr) (xs : List Int), vs = [.ref c] ∧ SqL K H c (xs.map V.int) ∧ xs.length ≤ 1000 ∧
  ∀ (H' : Hp) (t : Addr), Same H H' → H t = none → H' t = some (.tup [.int (Sm.sumsI xs).1, .int (Sm.sumsI xs).2]) → Q (.ref t) H'
theorem G_l_sums {a : Ad} (T : Top K mg a) : FnOk P w K mg base CX0 1 a.f_l_sums a.d_l_sums P_l_sums (spLSums K) := by
  refine T.F_l_sums.ok sc_l_sums (fun vs H Q E h => ?_) (fun cdv A outer s H vs Q E hr h => ?_)
  · obtain ⟨_, _, rfl, _⟩ := h
    rfl
  · obtain ⟨c, xs, rfl, hC, hlen, q⟩ := h
    refine ⟨_, (pss_cons (ps_if (pt_cmpR op_in_seq pe_non (pv 0) (by rfl))
        (pss_one (ps_ret pe_non))
        pss_nil)
      (pss_cons (ps_set (i := 1) sc_l_sums.nd rfl (Or.inl rfl) (pe_callB (cr_sum rfl) (by rfl) T.b_sum (by decide +kernel) (pa_cons (pe_lc (own := [(("_law_number" : Str), 3)]) (g := (gName 3)) (tt := tYes) (by rfl) sc_l_sums.nd (pi_list (pv 0)) (blkOk_by (own := [(("_law_number" : Str), 3)]) (N := N_l_sums) (sc := defScope s_l_sums) (by decide +kernel)) (fun _ _ _ _ _ => (pg_name (i := 3) sc_l_sums.nd rfl (Or.inl rfl))) (fun _ _ _ _ _ => pts_nil) (fun _ _ _ _ _ => (pe_op op_add (pv 3) pe_int))) pa_nil)))
      (pss_cons (ps_set (i := 2) sc_l_sums.nd rfl (Or.inl rfl) (pe_callB (cr_sum rfl) (by rfl) T.b_sum (by decide +kernel) (pa_cons (pe_lc (own := [(("_law_k" : Str), 4)]) (g := (gName 4)) (tt := tYes) (by rfl) sc_l_sums.nd (pi_range1 (by rfl) T.b_range (pa_cons (pe_callB call_len_seq (by rfl) T.b_len PySem.boot_len (pa_cons (pv 0) pa_nil)) pa_nil)) (blkOk_by (own := [(("_law_k" : Str), 4)]) (N := N_l_sums) (sc := defScope s_l_sums) (by decide +kernel)) (fun _ _ _ _ _ => (pg_name (i := 4) sc_l_sums.nd rfl (Or.inl rfl))) (fun _ _ _ _ _ => pts_nil) (fun _ _ _ _ _ => (pe_op op_mul (pe_op op_sub (pe_callB (Dw.call_len_seqK (K := K) rfl) (by rfl) T.b_len PySem.boot_len (pa_cons (pv 0) pa_nil)) (pv 4)) (pe_op op_add (pe_ix (Dw.ix_listK (K := K) rfl) (pv 0) (pv 4) (fun _ _ => rfl)) pe_int)))) pa_nil)))
      (pss_one (ps_ret (pe_tup (pa_cons (pe_op op_mod (pv 1) pe_int) (pa_cons (pe_op op_mod (pv 2) pe_int) pa_nil)))))))), ?_⟩
    refine ⟨.ref c, rfl, c, _, rfl, .inl hC, rfl, Dw.flat_ints, _, rfl, ?_⟩
    rw [show (if false = true then !inV .non (xs.map V.int) else inV .non (xs.map V.int)) = false from Dw.inV_ints]
    refine iteF ?_
    -- one
    refine ⟨.ref c, rfl, c, rfl, ⟨_, hC⟩, fun D hD => lc_list (K := K) (a := c) (xs := xs.map V.int) (fun i H' => Same H H' ∧ ∃ ys : List Int, H' D = some (.lst (ys.map V.int)) ∧ ys.length = i ∧ ys.sum + Sm.w1 (xs.drop i) = Sm.w1 xs)
      ⟨Dw.same_upd hD, [], upd_same, rfl, by simp⟩ (fun i H' _ ⟨s, _⟩ => s.seq hC) ?_ ?_⟩
    · rintro i y H1 hi ⟨s1, ys, h1, l1, e1⟩
      obtain ⟨x, hx, rfl⟩ := Dw.get_map hi
      have hlt := (List.getElem?_eq_some_iff.mp hx).1
      refine ⟨rfl, _, rfl, x, 1, rfl, rfl, _, h1, Dw.size_lt (by rw [List.length_map]; omega), Dw.same_mut s1 hD, ys ++ [x + 1], ?_, by rw [List.length_append, l1]; rfl, ?_⟩
      · rw [upd_same, List.map_append]
        rfl
      · rw [Sm.w1_drop hx] at e1
        rw [List.sum_append, List.sum_singleton]
        omega
    rintro H1 ⟨s1, ys, h1, l1, e1⟩
    rw [List.length_map] at l1 e1
    rw [List.drop_length] at e1
    have hw1 : ys.sum = Sm.w1 xs := by
      rw [← e1]
      exact (Int.add_zero _).symm
    refine ⟨D, ys, rfl, Dw.sq_of h1, ?_⟩
    -- two
    refine ⟨.ref c, rfl, c, _, rfl, .inl (s1.seq hC), _, rfl, by rw [List.length_map]; omega, by rw [List.length_map]; omega, fun B hB => lc_range (lo := 0) (n := (xs.map V.int).length) (fun i H' => Same H1 H' ∧ ∃ zs : List Int, H' B = some (.lst (zs.map V.int)) ∧ zs.length = i ∧ zs.sum + Sm.w2 (xs.drop i) = Sm.w2 xs)
      ⟨Dw.same_upd hB, [], upd_same, rfl, by simp⟩ ?_ ?_⟩
    · rintro i H2 hi ⟨s2, zs, h2, l2, e2⟩
      rw [List.length_map] at hi
      have hx := List.getElem?_eq_getElem hi
      have hc2 := (s1.trans s2).seq hC
      refine ⟨rfl, _, rfl, c, _, rfl, .inl hc2, _, rfl, _, (0 + (i : Int)), rfl, rfl, _, rfl, _, rfl, c, _, (0 + (i : Int)), _, rfl, rfl, hc2, by rw [Int.zero_add]; exact Dw.at_map hx, _, 1, rfl, rfl, _, _, rfl, rfl, .inl ⟨by rw [List.length_map]; omega, by rw [List.length_map]; omega⟩, ?_⟩
      refine ⟨_, h2, Dw.size_lt (by rw [List.length_map]; omega), Dw.same_mut s2 hB, zs ++ [((xs.length : Int) - i) * (xs[i] + 1)], ?_, by rw [List.length_append, l2]; rfl, ?_⟩
      · rw [upd_same, List.map_append, List.length_map, Int.zero_add]
        rfl
      · rw [Sm.w2_drop hx] at e2
        rw [List.sum_append, List.sum_singleton]
        omega
    rintro H2 ⟨s2, zs, h2, l2, e2⟩
    rw [List.length_map] at l2 e2
    rw [List.drop_length] at e2
    have hw2 : zs.sum = Sm.w2 xs := by
      rw [← e2]
      exact (Int.add_zero _).symm
    refine ⟨B, zs, rfl, Dw.sq_of h2, ?_⟩
    refine ⟨_, rfl, _, 9973, rfl, rfl, (by show (0 : Int) < 9973; decide), _, rfl, _, 9973, rfl, rfl, (by show (0 : Int) < 9973; decide), Dw.sz_ rfl, fun t ht => ?_⟩
    refine q _ t ((s1.trans s2).trans (Dw.same_upd ht)) ((s1.trans s2).free ht) ?_
    rw [upd_same, hw1, hw2, Sm.sums_w]

def spLNew (C : Addr) : Sp := fun vs H Q _ => ∃ (c : Addr) (cs : List V) (j : Nat), vs = [.ref c, .int (j : Int)] ∧ H c = some (.lst cs) ∧ j + 12 ≤ cs.length ∧ cs.length ≤ 400 ∧ (∀ v ∈ cs, Ct.okc v) ∧
  ∀ H' x, Same H H' → Bk.NewV H' x (Bk.newest (Bk.pg cs j) (Bk.pg cs (j + 6))) → Q x H'
theorem G_l_newest {a : Ad} (T : Top K mg a) : FnOk P w K mg base CX0 2 a.f_l_newest a.d_l_newest P_l_newest (spLNew a.C_Memory) := by
  refine T.F_l_newest.ok sc_l_newest (fun vs H Q E h => ?_) (fun cdv A outer s H vs Q E hr h => ?_)
  · obtain ⟨_, _, _, rfl, _⟩ := h
    rfl
  · obtain ⟨c, cs, j, rfl, hc, hj, hlen, ok, q⟩ := h
    refine ⟨_, (pss_cons (ps_set (i := 2) sc_l_newest.nd rfl (Or.inl rfl) pe_non)
      (pss_cons (ps_for PassesOwn.never rfl (pi_range1 (by rfl) T.b_range (pa_cons pe_int pa_nil)) (pg_name (i := 3) sc_l_newest.nd rfl (Or.inl rfl))
        (pss_cons (ps_set (i := 4) sc_l_newest.nd rfl (Or.inl rfl) (pe_slice sl_list (pv 0) (po_some (pe_op op_add (pv 1) (pe_op op_mul pe_int (pv 3)))) (po_some (pe_op op_add (pe_op op_add (pv 1) (pe_op op_mul pe_int (pv 3))) pe_int))))
      (pss_one (ps_if (PW.pt (pw_and (pt_cmpR op_notIn_seq pe_non (pv 4) (by rfl)) (pw_and (pt_cmpR op_gt (pe_ix ix_list (pv 4) pe_int (fun _ _ => rfl)) pe_int (nomark _)) (pw_and1 (pt_cmpR (op_eqD hr.units) (pe_call (G_l_sums T) (hr.mono (by omega)) (by rfl) T.g_l_sums T.F_l_sums.kp T.B_l_sums .nil pass0 (pa_cons (pe_slice sl_list (pv 4) po_none (po_some pe_int)) pa_nil)) (pe_tup (pa_cons (pe_ix ix_list (pv 4) pe_int (fun _ _ => rfl)) (pa_cons (pe_ix ix_list (pv 4) pe_int (fun _ _ => rfl)) pa_nil))) (nomark _))))))
        (pss_one (ps_if (PW.pt (pw_or (pt_cmpR op_isN (pv 2) pe_non (nomark _)) (pw_or1 (pt_cmpR op_gt (pe_ix ix_list (pv 4) pe_int (fun _ _ => rfl)) (pe_ix ix_tup (pv 2) pe_int (fun _ _ => rfl)) (nomark _)))))
        (pss_one (ps_set (i := 2) sc_l_newest.nd rfl (Or.inl rfl) (pe_tup (pa_cons (pv 3) (pa_cons (pe_ix ix_list (pv 4) pe_int (fun _ _ => rfl)) (pa_cons (pe_callTy call_tuple_of (by rfl) T.b_tuple (by decide +kernel) (pa_cons (pe_slice sl_list (pv 4) (po_some pe_int) (po_some pe_int)) pa_nil)) pa_nil))))))
        pss_nil))
        pss_nil))))
      (pss_one (ps_ret (pv 2))))), ?_⟩
    have op := Bk.pg_ok ok j
    have oq := Bk.pg_ok ok (j + 6)
    refine ⟨2, rfl, by decide, by decide, for_range (lo := 0) (n := 2) (fun i σ H' => ∃ (v : V) (v3 v4 : Option V), σ = [some (.ref c), some (.int (j : Int)), some v, v3, v4] ∧ Same H H' ∧ Bk.NewV H' v (if i = 0 then none else if i = 1 then Bk.nstep none 0 (Bk.pg cs j) else Bk.nstep (Bk.nstep none 0 (Bk.pg cs j)) 1 (Bk.pg cs (j + 6)))) ⟨.non, _, _, rfl, Same.refl _, rfl⟩ ?_ ?_⟩
    · rintro i σ H1 hi ⟨v, v3, v4, rfl, s1, nv⟩
      have key : ∀ (acc : Option (Nat × Int × Int × Int × Int)), Bk.NewV H1 v acc → (if i + 1 = 0 then none else if i + 1 = 1 then Bk.nstep none 0 (Bk.pg cs j) else Bk.nstep (Bk.nstep none 0 (Bk.pg cs j)) 1 (Bk.pg cs (j + 6))) = Bk.nstep acc i (Bk.pg cs (j + 6 * i)) → True := fun _ _ _ => True.intro
      obtain ⟨acc, hacc, hnext⟩ : ∃ acc, Bk.NewV H1 v acc ∧ (if i + 1 = 0 then none else if i + 1 = 1 then Bk.nstep none 0 (Bk.pg cs j) else Bk.nstep (Bk.nstep none 0 (Bk.pg cs j)) 1 (Bk.pg cs (j + 6))) = Bk.nstep acc i (Bk.pg cs (j + 6 * i)) := by
        have e : i = 0 ∨ i = 1 := by omega
        rcases e with rfl | rfl
        · exact ⟨_, nv, rfl⟩
        · exact ⟨_, nv, rfl⟩
      have oi := Bk.pg_ok ok (j + 6 * i)
      have li : (Bk.pg cs (j + 6 * i)).length = 6 := Bk.pg_len (by omega)
      rw [hnext]
      refine ⟨_, rfl, _, rfl, _, rfl, 6, _, rfl, rfl, .inl ⟨by decide, by decide⟩, _, _, rfl, rfl, _, rfl, ?_⟩
      refine ⟨_, rfl, _, rfl, 6, _, rfl, rfl, .inl ⟨by decide, by decide⟩, _, _, rfl, rfl, _, 6, rfl, rfl, _, rfl, c, _, rfl, Dw.sq_of (s1 _ _ hc), fun b hb => ?_⟩
      rw [show cutV cs (some ((j : Int) + 6 * (0 + (i : Int)))) (some ((j : Int) + 6 * (0 + (i : Int)) + 6)) = Bk.pg cs (j + 6 * i) from by
        rw [show (j : Int) + 6 * (0 + (i : Int)) = ((j + 6 * i : Nat) : Int) by omega, show ((j + 6 * i : Nat) : Int) + 6 = ((j + 6 * i + 6 : Nat) : Int) by omega, Bk.cut_mid _ _ _ (by omega), show j + 6 * i + 6 - (j + 6 * i) = 6 by omega]
        rfl]
      have sb := Dw.same_upd (o := .lst (Bk.pg cs (j + 6 * i))) hb
      have hb2 : (upd H1 b (.lst (Bk.pg cs (j + 6 * i)))) b = some (.lst (Bk.pg cs (j + 6 * i))) := upd_same
      have S2 := s1.trans sb
      have nv2 := hacc.mono sb
      generalize upd H1 b (.lst (Bk.pg cs (j + 6 * i))) = H2 at S2 nv2 hb2 ⊢
      generalize Bk.pg cs (j + 6 * i) = pl at oi li hb2 ⊢
      -- what stays
      have stay : ∀ H3, Same H2 H3 → Bk.nstep acc i pl = acc → ∃ (v' : V) (v3' v4' : Option V), [some (V.ref c), some (.int (j : Int)), some v, some (.int (0 + (i : Int))), some (.ref b)] = [some (.ref c), some (.int (j : Int)), some v', v3', v4'] ∧ Same H H3 ∧ Bk.NewV H3 v' (Bk.nstep acc i pl) := fun H3 s3 e => by
        rw [e]
        exact ⟨_, _, _, rfl, S2.trans s3, nv2.mono s3⟩
      refine ⟨_, rfl, b, _, rfl, .inl (Dw.sq_of hb2), rfl, Bk.flat_ok oi, _, rfl, ?_⟩
      rw [Bk.inV_non oi]
      by_cases hn : V.non ∈ pl
      · have e0 := Bk.pgN_broken hn
        rw [show (if true = true then !decide (V.non ∈ pl) else decide (V.non ∈ pl)) = false by simp [hn]]
        exact iteF (stay H2 (Same.refl _) (if_pos e0))
      · rw [show (if true = true then !decide (V.non ∈ pl) else decide (V.non ∈ pl)) = true by simp [hn]]
        refine iteT ?_
        obtain ⟨xs, rfl, hxs⟩ := Bk.all_ints oi hn
        rw [List.length_map] at li
        obtain ⟨i0, i1, i2, i3, i4, i5, rfl⟩ := Bk.sixI li
        have h0 := (hxs i0 List.mem_cons_self).1
        refine ⟨_, rfl, b, _, 0, _, rfl, rfl, Dw.sq_of hb2, rfl, _, 0, rfl, rfl, _, rfl, ite2 (fun hp => ?_) (fun hp => ?_)⟩
        · have hp := of_decide_eq_true hp
          refine ⟨_, rfl, 4, rfl, b, _, rfl, Dw.sq_of hb2, fun d hd => ?_⟩
          rw [show cutV ([i0, i1, i2, i3, i4, i5].map V.int) none (some 4) = [i0, i1, i2, i3].map V.int from Dw.cut_take _ 4]
          have sd := Dw.same_upd (o := .lst ([i0, i1, i2, i3].map V.int)) hd
          refine ⟨d, [i0, i1, i2, i3], rfl, Dw.sq_of upd_same, by show 4 ≤ 1000; decide, fun H4 t s4 nt ht => ?_⟩
          have S4 := sd.trans s4
          refine ⟨_, rfl, b, _, 4, _, rfl, rfl, Dw.sq_of (S4 _ _ hb2), rfl, _, rfl, b, _, 5, _, rfl, rfl, Dw.sq_of (S4 _ _ hb2), rfl, Dw.sz_ rfl, fun u hu => ?_⟩
          have su := Dw.same_upd (o := .tup [.int i4, .int i5]) hu
          have S5 := S4.trans su
          have ht5 := su _ _ ht
          have hb5 := S5 _ _ hb2
          refine ⟨_, _, Dw.dp_t (xs := [.int (Sm.sumsI [i0, i1, i2, i3]).1, .int (Sm.sumsI [i0, i1, i2, i3]).2]) (Dw.st_of ht5) (Dw.cel_ints (xs := [(Sm.sumsI [i0, i1, i2, i3]).1, (Sm.sumsI [i0, i1, i2, i3]).2])), Dw.dp_t (xs := [.int i4, .int i5]) (Dw.st_of upd_same) (Dw.cel_ints (xs := [i4, i5])), Dw.shaped_t (Dw.cel_ints (xs := [(Sm.sumsI [i0, i1, i2, i3]).1, (Sm.sumsI [i0, i1, i2, i3]).2])), Dw.shaped_t (Dw.cel_ints (xs := [i4, i5])), _, rfl, ?_⟩
          rw [Dw.eqv_t (xs := [.int (Sm.sumsI [i0, i1, i2, i3]).1, .int (Sm.sumsI [i0, i1, i2, i3]).2]) (ys := [.int i4, .int i5]) (Dw.cel_ints (xs := [(Sm.sumsI [i0, i1, i2, i3]).1, (Sm.sumsI [i0, i1, i2, i3]).2])) (Dw.cel_ints (xs := [i4, i5]))]
          generalize upd H4 u (.tup [.int i4, .int i5]) = H5 at S5 hb5 ⊢
          by_cases hz : ([.int (Sm.sumsI [i0, i1, i2, i3]).1, .int (Sm.sumsI [i0, i1, i2, i3]).2] : List V) = [.int i4, .int i5]
          · refine ite2 (fun _ => ?_) (fun z => absurd (decide_eq_true hz) z)
            injection hz with z4 hz
            injection hz with z5 _
            injection z4 with z4
            injection z5 with z5
            have eN : Bk.pgN ([i0, i1, i2, i3, i4, i5].map V.int) = i0 := Bk.pgN_of (by rw [← z4, ← z5])
            have hR : Bk.pgR ([i0, i1, i2, i3, i4, i5].map V.int) = (i1, i2, i3) := rfl
            have nv5 := nv2.mono S5
            -- taken
            have take : Bk.nstep acc i ([i0, i1, i2, i3, i4, i5].map V.int) = some (i, i0, i1, i2, i3) → ∀ (t1 t2 : Addr), ∀ H7, Same H5 H7 → H7 t2 = some (.tup [.int i1, .int i2, .int i3]) → H7 t1 = some (.tup [.int (0 + (i : Int)), .int i0, .ref t2]) →
                ∃ (v' : V) (v3' v4' : Option V), [some (V.ref c), some (.int (j : Int)), some (.ref t1), some (.int (0 + (i : Int))), some (.ref b)] = [some (.ref c), some (.int (j : Int)), some v', v3', v4'] ∧ Same H H7 ∧ Bk.NewV H7 v' (Bk.nstep acc i ([i0, i1, i2, i3, i4, i5].map V.int)) := fun e t1 t2 H7 s7 h2 h1 => by
              rw [e]
              refine ⟨_, _, _, rfl, (S2.trans S5).trans s7, t1, t2, rfl, ?_, h2⟩
              rw [h1, Int.zero_add]
            cases acc with
            | none =>
              have ev : v = .non := nv5
              subst ev
              refine ⟨_, rfl, rfl, _, rfl, ite2 (fun _ => iteT ?_) (fun z => absurd (by rfl) z)⟩
              refine ⟨_, rfl, _, rfl, b, _, 0, _, rfl, rfl, Dw.sq_of hb5, rfl, _, rfl, 1, rfl, 4, rfl, b, _, rfl, Dw.sq_of hb5, fun d2 hd2 => ?_⟩
              rw [show cutV ([i0, i1, i2, i3, i4, i5].map V.int) (some 1) (some 4) = [.int i1, .int i2, .int i3] from Bk.cut_mid _ 1 4 (by decide)]
              have s6 := Dw.same_upd (o := .lst [.int i1, .int i2, .int i3]) hd2
              refine ⟨d2, _, rfl, .inl ⟨Dw.sq_of upd_same, fun f hf => ?_⟩⟩
              have s7 := Dw.same_upd (o := .tup [.int i1, .int i2, .int i3]) hf
              refine ⟨Dw.sz_ rfl, fun t1 ht1 => ?_⟩
              have s8 := Dw.same_upd (o := .tup [.int (0 + (i : Int)), .int i0, .ref f]) ht1
              exact take (by unfold Bk.nstep; rw [if_neg (by rw [eN]; omega), eN, hR]) t1 f _ ((s6.trans s7).trans s8) (s8 _ _ upd_same) upd_same
            | some x =>
              obtain ⟨t0, u0, rfl, hx1, hx2⟩ := nv5
              refine ⟨_, rfl, rfl, _, rfl, ite2 (fun z => by cases of_decide_eq_true z) (fun _ => ⟨_, rfl, b, _, 0, _, rfl, rfl, Dw.sq_of hb5, rfl, _, rfl, t0, _, 1, _, rfl, rfl, Dw.st_of hx1, rfl, _, _, rfl, rfl, _, rfl, ite2 (fun hlt => ?_) (fun hlt => ?_)⟩)⟩
              · have hlt := of_decide_eq_true hlt
                refine ⟨_, rfl, _, rfl, b, _, 0, _, rfl, rfl, Dw.sq_of hb5, rfl, _, rfl, 1, rfl, 4, rfl, b, _, rfl, Dw.sq_of hb5, fun d2 hd2 => ?_⟩
                rw [show cutV ([i0, i1, i2, i3, i4, i5].map V.int) (some 1) (some 4) = [.int i1, .int i2, .int i3] from Bk.cut_mid _ 1 4 (by decide)]
                have s6 := Dw.same_upd (o := .lst [.int i1, .int i2, .int i3]) hd2
                refine ⟨d2, _, rfl, .inl ⟨Dw.sq_of upd_same, fun f hf => ?_⟩⟩
                have s7 := Dw.same_upd (o := .tup [.int i1, .int i2, .int i3]) hf
                refine ⟨Dw.sz_ rfl, fun t1 ht1 => ?_⟩
                have s8 := Dw.same_upd (o := .tup [.int (0 + (i : Int)), .int i0, .ref f]) ht1
                exact take (by unfold Bk.nstep; rw [if_neg (by rw [eN]; omega), eN, hR]; exact if_pos hlt) t1 f _ ((s6.trans s7).trans s8) (s8 _ _ upd_same) upd_same
              · have hlt : ¬ x.2.1 < i0 := fun y => hlt (decide_eq_true y)
                refine stay H5 S5 ?_
                unfold Bk.nstep
                rw [if_neg (by rw [eN]; omega), eN]
                exact if_neg hlt
          · have eN : Bk.pgN ([i0, i1, i2, i3, i4, i5].map V.int) = 0 := Bk.pgN_not fun z => hz (by rw [z])
            exact ite2 (fun z => absurd (of_decide_eq_true z) hz) (fun _ => stay H5 S5 (if_pos eN))
        · have hp : i0 = 0 := by
            have := of_decide_eq_false (Bool.eq_false_iff.mpr hp)
            omega
          have eN : Bk.pgN ([i0, i1, i2, i3, i4, i5].map V.int) = 0 := by
            rw [hp]
            exact Bk.pgN_zero
          exact stay H2 (Same.refl _) (if_pos eN)
    · rintro σ H1 ⟨v, v3, v4, rfl, s1, nv⟩
      refine ⟨_, rfl, q H1 v s1 ?_⟩
      rw [← Bk.newest_steps op oq]
      exact nv
def spLNoted : Sp := fun vs H Q _ => ∃ (c t : Addr) (cs : List V) (j : Nat) (b1 b2 b3 : Int), vs = [.ref c, .int (j : Int), .ref t] ∧ H c = some (.lst cs) ∧ H t = some (.tup [.int b1, .int b2, .int b3]) ∧ j + 12 ≤ cs.length ∧ cs.length ≤ 400 ∧ (∀ v ∈ cs, Ct.okc v) ∧
  ∀ H' (wl : Addr) (as : List Addr), Same H H' → H wl = none → H' wl = some (.lst (as.map V.ref)) → Bk.Pairs H' as (Bk.noteAt cs j b1 b2 b3) → Q (.ref wl) H'
theorem G_l_noted {a : Ad} (T : Top K mg a) : FnOk P w K mg base CX0 3 a.f_l_noted a.d_l_noted P_l_noted spLNoted := by
  refine T.F_l_noted.ok sc_l_noted (fun vs H Q E h => ?_) (fun cdv A outer s H vs Q E hr h => ?_)
  · obtain ⟨_, _, _, _, _, _, _, rfl, _⟩ := h
    rfl
  · obtain ⟨c, t, cs, j, b1, b2, b3, rfl, hc, ht, hj, hlen, ok, q⟩ := h
    refine ⟨_, (pss_cons (ps_set (i := 3) sc_l_noted.nd rfl (Or.inl rfl) (pe_call (G_l_newest T) (hr.mono (by omega)) (by rfl) T.g_l_newest T.F_l_newest.kp T.B_l_newest .nil pass0 (pa_cons (pv 0) (pa_cons (pv 1) pa_nil))))
      (C8.pss_cut (ps_set (i := 4) sc_l_noted.nd rfl (Or.inr rfl) (pe_op op_add (pv 1) (pe_op op_mul pe_int (pe_callTy call_int1 (by rfl) T.b_int (by decide +kernel) (pa_cons (pe_and (pe_cmpR op_notN (pv 3) pe_non (nomark _)) (pe_one (pe_cmpR op_eq (pe_ix ix_tup (pv 3) pe_int (fun _ _ => rfl)) pe_int (nomark _)))) pa_nil)))))
      (C8.pss_cut (ps_set (i := 5) sc_l_noted.nd rfl (Or.inl rfl) (pe_ifExp (pt_cmpR op_isN (pv 3) pe_non (nomark _)) pe_int (pe_op op_add (pe_ix ix_tup (pv 3) pe_int (fun _ _ => rfl)) pe_int)))
      (pss_cons (ps_set (i := 6) sc_l_noted.nd rfl (Or.inr rfl) (pe_op op_cat (pe_lst (pa_cons (pv 5) pa_nil)) (pe_callTy call_list_of (by rfl) T.b_list (by decide +kernel) (pa_cons (pv 2) pa_nil))))
      (pss_cons (ps_set (i := 6) sc_l_noted.nd rfl (Or.inr rfl) (pe_op op_cat (pv 6) (pe_callTy call_list_of (by rfl) T.b_list (by decide +kernel) (pa_cons (pe_call (G_l_sums T) (hr.mono (by omega)) (by rfl) T.g_l_sums T.F_l_sums.kp T.B_l_sums .nil pass0 (pa_cons (pv 6) pa_nil)) pa_nil))))
      (pss_one (ps_ret (pe_op op_cat (pe_op op_cat (pe_lst (pa_cons (pe_tup (pa_cons (pv 4) (pa_cons pe_int pa_nil))) pa_nil)) (pe_lc (own := [(("_law_k" : Str), 7)]) (g := (gName 7)) (tt := tYes) (by rfl) sc_l_noted.nd (pi_range2 (by rfl) T.b_range (pa_cons pe_int (pa_cons pe_int pa_nil))) (blkOk_by (own := [(("_law_k" : Str), 7)]) (N := N_l_noted) (sc := defScope s_l_noted) (by decide +kernel)) (fun _ _ _ _ _ => (pg_name (i := 7) sc_l_noted.nd rfl (Or.inl rfl))) (fun _ _ _ _ _ => pts_nil) (fun _ _ _ _ _ => (pe_tup (pa_cons (pe_op op_add (pv 4) (pv 7)) (pa_cons (pe_ix (Dw.ix_listK (K := K) rfl) (pv 6) (pv 7) (fun _ _ => rfl)) pa_nil)))))) (pe_lst (pa_cons (pe_tup (pa_cons (pv 4) (pa_cons (pv 5) pa_nil))) pa_nil)))))))))), ?_⟩
    have op := Bk.pg_ok ok j
    have oq := Bk.pg_ok ok (j + 6)
    have n0 := Bk.pgN_lo op
    have n1 := Bk.pgN_lo oq
    refine ⟨_, rfl, _, rfl, c, cs, j, rfl, hc, hj, hlen, ok, fun H1 x s1 nv => ?_⟩
    -- begin and number
    have beg : ∃ (k : Bool) (n : Int), Bk.fst6 cs j = j + 6 * (if k = true then 1 else 0) ∧ Bk.nextN cs j = n ∧ ((x = .non ∧ k = false ∧ n = 1) ∨ ∃ (t0 u0 : Addr) (w : Nat) (m : Int) , x = .ref t0 ∧ H1 t0 = some (.tup [.int (w : Nat), .int m, .ref u0]) ∧ n = m + 1 ∧ ((w = 0 ∧ k = true) ∨ (w = 1 ∧ k = false))) := by
      unfold Bk.fst6 Bk.nextN
      rcases Bk.newest_pw (p := Bk.pg cs j) (q := Bk.pg cs (j + 6)) with ⟨e, e2, e3⟩ | ⟨n, r, e, e2, e3⟩ | ⟨n, r, e, e2, e3⟩
      · rw [e] at nv
        rw [e2, e3 n0 n1]
        exact ⟨false, 1, rfl, rfl, .inl ⟨nv, rfl, rfl⟩⟩
      · rw [e] at nv
        obtain ⟨t0, u0, e4, e5, _⟩ := nv
        rw [e2, e3]
        exact ⟨true, 1 + n, rfl, rfl, .inr ⟨t0, u0, 0, n, e4, e5, by omega, .inl ⟨rfl, rfl⟩⟩⟩
      · rw [e] at nv
        obtain ⟨t0, u0, e4, e5, _⟩ := nv
        rw [e2, e3]
        exact ⟨false, 1 + n, rfl, rfl, .inr ⟨t0, u0, 1, n, e4, e5, by omega, .inr ⟨rfl, rfl⟩⟩⟩
    obtain ⟨k, n, hF, hN, hx⟩ := beg
    refine ⟨fun σ' H' => σ' = [some (.ref c), some (.int (j : Int)), some (.ref t), some x, some (.int (Bk.fst6 cs j : Nat)), none, none, none] ∧ H' = H1, ?_, ?_⟩
    · have fin : ∀ kk : Bool, kk = k → (j : Int) + 6 * (if kk = true then 1 else 0) = (Bk.fst6 cs j : Nat) := by
        rintro kk rfl
        rw [hF]
        cases kk with
        | true =>
          rw [if_pos rfl, if_pos rfl]
          omega
        | false =>
          rw [if_neg (by decide), if_neg (by decide)]
          omega
      rcases hx with ⟨rfl, rfl, rfl⟩ | ⟨t0, u0, w, m, rfl, h0, rfl, ⟨rfl, rfl⟩ | ⟨rfl, rfl⟩⟩
      · refine ⟨_, rfl, _, rfl, rfl, false, rfl, iteF (.inr ⟨false, rfl, 6, _, rfl, rfl, .inl ⟨by decide, by decide⟩, _, _, rfl, rfl, ?_, rfl⟩)⟩
        rw [← fin false rfl]
        rfl
      · refine ⟨_, rfl, _, rfl, rfl, true, rfl, iteT ⟨_, rfl, t0, _, 0, _, rfl, rfl, Dw.st_of h0, rfl, rfl, .inr ⟨true, rfl, 6, _, rfl, rfl, .inl ⟨by decide, by decide⟩, _, _, rfl, rfl, ?_, rfl⟩⟩⟩
        rw [← fin true rfl]
        rfl
      · refine ⟨_, rfl, _, rfl, rfl, true, rfl, iteT ⟨_, rfl, t0, _, 0, _, rfl, rfl, Dw.st_of h0, rfl, rfl, .inr ⟨false, rfl, 6, _, rfl, rfl, .inl ⟨by decide, by decide⟩, _, _, rfl, rfl, ?_, rfl⟩⟩⟩
        rw [← fin false rfl]
        rfl
    · rintro σ' H' ⟨rfl, rfl⟩
      refine ⟨fun σ' H2 => σ' = [some (.ref c), some (.int (j : Int)), some (.ref t), some x, some (.int (Bk.fst6 cs j : Nat)), some (.int n), none, none] ∧ H2 = H', ?_, ?_⟩
      · rcases hx with ⟨rfl, rfl, rfl⟩ | ⟨t0, u0, w, m, rfl, h0, rfl, _⟩
        · exact ⟨_, rfl, rfl, _, rfl, ite2 (fun _ => ⟨rfl, rfl⟩) (fun z => absurd (by rfl) z)⟩
        · exact ⟨_, rfl, rfl, _, rfl, ite2 (fun z => by cases of_decide_eq_true z) (fun _ => ⟨_, rfl, t0, _, 1, _, rfl, rfl, Dw.st_of h0, rfl, _, 1, rfl, rfl, rfl, rfl⟩)⟩
      · rintro σ' H2 ⟨rfl, rfl⟩
        have ews : Bk.noteAt cs j b1 b2 b3 = Bk.noteW (Bk.fst6 cs j) n b1 b2 b3 := by
          unfold Bk.noteAt
          rw [hN]
        rw [ews] at q
        generalize Bk.fst6 cs j = f at q ⊢
        have S0 : Same H H2 := s1
        refine ⟨_, rfl, Dw.sz_ rfl, fun l1 hl1 => ?_⟩
        have s2 := Dw.same_upd (o := .lst [.int n]) hl1
        refine ⟨_, rfl, t, _, rfl, .inr (Dw.st_of (s2 _ _ (S0 _ _ ht))), fun l2 hl2 => ?_⟩
        have s3 := Dw.same_upd (o := .lst [.int b1, .int b2, .int b3]) hl2
        refine ⟨l1, l2, _, _, rfl, rfl, s3 _ _ upd_same, upd_same, Dw.sz_ rfl, fun l3 hl3 => ?_⟩
        have s4 := Dw.same_upd (o := .lst ([.int n] ++ [.int b1, .int b2, .int b3])) hl3
        have S4 := ((S0.trans s2).trans s3).trans s4
        have h3 : (upd (upd (upd H2 l1 (.lst [.int n])) l2 (.lst [.int b1, .int b2, .int b3])) l3 (.lst ([.int n] ++ [.int b1, .int b2, .int b3]))) l3 = some (.lst ([n, b1, b2, b3].map V.int)) := upd_same
        generalize upd (upd (upd H2 l1 (.lst [.int n])) l2 (.lst [.int b1, .int b2, .int b3])) l3 (.lst ([.int n] ++ [.int b1, .int b2, .int b3])) = H4 at S4 h3 ⊢
        refine ⟨_, rfl, _, rfl, l3, [n, b1, b2, b3], rfl, Dw.sq_of h3, by show 4 ≤ 1000; decide, fun H5 t5 s5 n5 h5 => ?_⟩
        refine ⟨t5, _, rfl, .inr (Dw.st_of h5), fun l6 hl6 => ?_⟩
        have s6 := Dw.same_upd (o := .lst [.int (Sm.sumsI [n, b1, b2, b3]).1, .int (Sm.sumsI [n, b1, b2, b3]).2]) hl6
        refine ⟨l3, l6, _, _, rfl, rfl, s6 _ _ (s5 _ _ h3), upd_same, Dw.sz_ rfl, fun l7 hl7 => ?_⟩
        have s7 := Dw.same_upd (o := .lst ([n, b1, b2, b3].map V.int ++ [.int (Sm.sumsI [n, b1, b2, b3]).1, .int (Sm.sumsI [n, b1, b2, b3]).2])) hl7
        have S7 := ((S4.trans s5).trans s6).trans s7
        have h7 : (upd (upd H5 l6 (.lst [.int (Sm.sumsI [n, b1, b2, b3]).1, .int (Sm.sumsI [n, b1, b2, b3]).2])) l7 (.lst ([n, b1, b2, b3].map V.int ++ [.int (Sm.sumsI [n, b1, b2, b3]).1, .int (Sm.sumsI [n, b1, b2, b3]).2]))) l7 = some (.lst ([n, b1, b2, b3, (Sm.sumsI [n, b1, b2, b3]).1, (Sm.sumsI [n, b1, b2, b3]).2].map V.int)) := upd_same
        generalize upd (upd H5 l6 (.lst [.int (Sm.sumsI [n, b1, b2, b3]).1, .int (Sm.sumsI [n, b1, b2, b3]).2])) l7 (.lst ([n, b1, b2, b3].map V.int ++ [.int (Sm.sumsI [n, b1, b2, b3]).1, .int (Sm.sumsI [n, b1, b2, b3]).2])) = H7 at S7 h7 ⊢
        -- the first
        refine ⟨_, rfl, Dw.sz_ rfl, fun ta hta => ⟨Dw.sz_ rfl, fun la hla => ?_⟩⟩
        have s8 := Dw.same_upd (o := .tup [.int (f : Nat), .int 0]) hta
        have s9 := Dw.same_upd (o := .lst [.ref ta]) hla
        have S9 := (S7.trans s8).trans s9
        have pa : Bk.Pairs (upd (upd H7 ta (.tup [.int (f : Nat), .int 0])) la (.lst [.ref ta])) [ta] [(f, 0)] := ⟨s9 _ _ upd_same, True.intro⟩
        have hla9 : (upd (upd H7 ta (.tup [.int (f : Nat), .int 0])) la (.lst [.ref ta])) la = some (.lst [.ref ta]) := upd_same
        have h9 := s9 _ _ (s8 _ _ h7)
        generalize upd (upd H7 ta (.tup [.int (f : Nat), .int 0])) la (.lst [.ref ta]) = H9 at S9 pa hla9 h9 ⊢
        -- the next five
        refine ⟨1, 6, rfl, ⟨by decide, by decide, by decide, by decide⟩, fun D hD => lc_range (lo := 1) (n := 5) (fun i H' => Same H9 H' ∧ ∃ as : List Addr, H' D = some (.lst (as.map V.ref)) ∧ Bk.Pairs H' as (((Bk.noteW f n b1 b2 b3).drop 1).take i)) ⟨Dw.same_upd hD, [], upd_same, True.intro⟩ ?_ ?_⟩
        · rintro i H10 hi ⟨s10, as, hD10, pr⟩
          obtain ⟨wv, hwv⟩ : ∃ wv, [n, b1, b2, b3, (Sm.sumsI [n, b1, b2, b3]).1, (Sm.sumsI [n, b1, b2, b3]).2][i + 1]? = some wv := ⟨_, List.getElem?_eq_getElem (show i + 1 < 6 by omega)⟩
          have hwn : ((Bk.noteW f n b1 b2 b3).drop 1)[i]? = some (f + (i + 1), wv) := by
            match i, hi, hwv with
            | 0, _, h => rw [← Option.some.inj h]; rfl
            | 1, _, h => rw [← Option.some.inj h]; rfl
            | 2, _, h => rw [← Option.some.inj h]; rfl
            | 3, _, h => rw [← Option.some.inj h]; rfl
            | 4, _, h => rw [← Option.some.inj h]; rfl
            | i + 5, h, _ => omega
          have hlen5 := pr.len
          rw [List.length_take] at hlen5
          refine ⟨rfl, _, rfl, _, rfl, _, _, rfl, rfl, _, rfl, _, rfl, l7, _, _, _, rfl, rfl, Dw.sq_of (s10 _ _ h9), at_of (j := i + 1) (by omega) (by rw [List.getElem?_map, hwv]; rfl), Dw.sz_ rfl, fun te hte => ?_⟩
          have s11 := Dw.same_upd (o := .tup [.int ((f : Nat) + (1 + (i : Int))), .int wv]) hte
          refine ⟨_, s11 _ _ hD10, Dw.size_lt (by rw [List.length_map]; omega), Dw.same_mut (s10.trans s11) hD, as ++ [te], by rw [upd_same, List.map_append]; rfl, ?_⟩
          rw [List.take_add_one, hwn]
          have nDt : D ≠ te := ne_of_none hD10 hte
          have keepP : ∀ {as : List Addr} {ws : List (Nat × Int)} {H H' : Hp}, (∀ a u, H a = some (.tup u) → H' a = some (.tup u)) → Bk.Pairs H as ws → Bk.Pairs H' as ws := by
            intro as
            induction as with
            | nil => intro ws H H' k p; cases ws with
              | nil => exact True.intro
              | cons _ _ => exact p.elim
            | cons a r ih => intro ws H H' k p; cases ws with
              | nil => exact p.elim
              | cons u us => exact ⟨k _ _ p.1, ih k p.2⟩
          refine Bk.Pairs.app (keepP (fun a u e => ?_) pr) ⟨?_, True.intro⟩
          · rw [upd_ne (ne_of (s11 _ _ e) (s11 _ _ hD10) (by intro z; cases z))]
            exact s11 _ _ e
          · rw [upd_ne nDt.symm, upd_same]
            show some (HO.tup [V.int ((f : Int) + (1 + (i : Int))), V.int wv]) = some (HO.tup [V.int ((f + (i + 1) : Nat) : Int), V.int wv])
            rw [show (f : Int) + (1 + (i : Int)) = ((f + (i + 1) : Nat) : Int) by omega]
        · rintro H10 ⟨s10, as, hD10, pr⟩
          have hlen5 := pr.len
          have pr : Bk.Pairs H10 as [(f + 1, b1), (f + 2, b2), (f + 3, b3), (f + 4, (Sm.sumsI [n, b1, b2, b3]).1), (f + 5, (Sm.sumsI [n, b1, b2, b3]).2)] := pr
          have hlen5 : as.length = 5 := hlen5
          refine ⟨la, D, _, _, rfl, rfl, s10 _ _ hla9, hD10, Dw.size_ok (by rw [List.length_map, hlen5]; exact (by decide : 1 + 5 ≤ 100000)), fun lb hlb => ?_⟩
          have s11 := Dw.same_upd (o := .lst ([.ref ta] ++ as.map V.ref)) hlb
          refine ⟨_, rfl, _, rfl, Dw.sz_ rfl, fun tc htc => ⟨Dw.sz_ rfl, fun lc hlc => ?_⟩⟩
          have s12 := Dw.same_upd (o := .tup [.int (f : Nat), .int n]) htc
          have s13 := Dw.same_upd (o := .lst [.ref tc]) hlc
          refine ⟨lb, lc, _, _, rfl, rfl, s13 _ _ (s12 _ _ upd_same), upd_same, Dw.size_ok (by rw [List.length_append, List.length_map, hlen5]; exact (by decide : 1 + 5 + 1 ≤ 100000)), fun wl hwl => ?_⟩
          have s14 := Dw.same_upd (o := .lst ([.ref ta] ++ as.map V.ref ++ [.ref tc])) hwl
          have S13 := (((S9.trans s10).trans s11).trans s12).trans s13
          refine q _ wl ([ta] ++ as ++ [tc]) (S13.trans s14) (S13.free hwl) ?_ ?_
          · rw [upd_same, List.map_append, List.map_append]
            rfl
          · exact Bk.Pairs.app (us := [(f, n)]) (Bk.Pairs.app (us := [(f + 1, b1), (f + 2, b2), (f + 3, b3), (f + 4, (Sm.sumsI [n, b1, b2, b3]).1), (f + 5, (Sm.sumsI [n, b1, b2, b3]).2)]) (pa.mono (((s10.trans s11).trans s12).trans s13 |>.trans s14)) (pr.mono ((s11.trans s12).trans s13 |>.trans s14))) ⟨s14 _ _ (s13 _ _ upd_same), True.intro⟩

def spWhole (K : PySem.W.Frag) (C : Addr) : Sp := fun vs H Q _ => ∃ (p l t : Addr) (m : Mm.Mem) (b c d : Int), vs = [.ref p, .ref t] ∧ Mm.MemAt C p l m H ∧ SqT K H t [.int b, .int c, .int d] ∧ 14 ≤ m.cells.length ∧ (∀ v ∈ m.cells, Ct.okc v) ∧
  (0 ≤ b ∧ b ≤ 9972) ∧ (0 ≤ c ∧ c ≤ 9972) ∧ (0 ≤ d ∧ d ≤ 9972) ∧ Bk.nextN m.cells 2 ≤ 9972 ∧
  ∀ H', Mm.MemAt C p l (Bk.wrs m (Bk.noteAt m.cells 2 b c d)).1 H' → Mm.But [p, l] H H' → Q (.bl (Bk.wrs m (Bk.noteAt m.cells 2 b c d)).2) H'
theorem G_l_is_whole {a : Ad} (T : Top K mg a) : FnOk P w K mg base CX0 6 a.f_l_is_whole a.d_l_is_whole P_l_is_whole (spWhole K a.C_Memory) := by
  refine T.F_l_is_whole.ok sc_l_is_whole (fun vs H Q E h => ?_) (fun cdv A outer s H vs Q E hr h => ?_)
  · obtain ⟨_, _, _, _, _, _, _, rfl, _⟩ := h
    rfl
  · obtain ⟨p, l, t, m, b, c, d, rfl, M, ht, hl, ok, hb, hc, hd, hn, q⟩ := h
    refine ⟨_, (pss_cons (ps_try_only rfl rfl ⟨rfl, by decide, .inl T.g_Stopped⟩ takes0 (fun W pn xe tk _ => (pss_one (ps_expr (pe_callS (G_note T) (hr.mono (by omega)) (by rfl) T.g_note T.F_note.kp T.B_note (fun σ => passAt tk σ) (pa_cons (pv 0) (pa_cons pe_int (pa_cons (pv 1) pa_nil))))))) (fun ea eoe ecls ed epn _ _ => (pss_one (ps_ret pe_bl))))
      (pss_one (ps_ret pe_bl))), ?_⟩
    refine ⟨_, rfl, _, rfl, p, l, t, m, 2, b, c, d, rfl, M, ht, hl, ok, hb, hc, hd, hn, fun H' M' k' => ⟨fun hb => ?_, fun hn => ?_⟩⟩
    · have qq := q H' M' k'
      rw [hb] at qq
      exact qq
    · have qq := q H' M' k'
      rw [hn] at qq
      exact ⟨true, T.e_Stopped, fun _ a ha => qq, fun z => (by cases z)⟩
def spStopped : Sp := fun vs H Q _ => ∃ (c wl : Addr) (as : List Addr) (cs : List V) (ws : List (Nat × Int)) (k : Nat) (t : Str) (w : Nat × Int), vs = [.ref c, .ref wl, .int (k : Int), .str t] ∧ H c = some (.lst cs) ∧ H wl = some (.lst (as.map V.ref)) ∧ Bk.Pairs H as ws ∧ ws[k]? = some w ∧ ws.length ≤ 1000 ∧ cs.length ≤ 1000 ∧ (∀ u ∈ ws, u.1 < cs.length) ∧ (t = "old" ∨ t = "broken" ∨ t = "new") ∧
  ∀ H' f, Same H H' → H f = none → H' f = some (.lst (Mm.tornTo t (Bk.setAll cs (ws.take k)) w.1 w.2)) → Q (.ref f) H'
theorem G_l_stopped {a : Ad} (T : Top K mg a) : FnOk P w K mg base CX0 1 a.f_l_stopped a.d_l_stopped P_l_stopped spStopped := by
  refine T.F_l_stopped.ok sc_l_stopped (fun vs H Q E h => ?_) (fun cdv A outer s H vs Q E hr h => ?_)
  · obtain ⟨_, _, _, _, _, _, _, _, rfl, _⟩ := h
    rfl
  · obtain ⟨c, wl, as, cs, ws, k, t, w, rfl, hc, hwl, pr, hw, lws, lcs, hlt, ht, q⟩ := h
    refine ⟨_, (pss_cons (ps_set (i := 4) sc_l_stopped.nd rfl (Or.inl rfl) (pe_callTy call_list_of (by rfl) T.b_list (by decide +kernel) (pa_cons (pv 0) pa_nil)))
      (pss_cons (ps_for PassesOwn.never rfl (pi_list (pe_slice sl_list (pv 1) po_none (po_some (pv 2)))) (pg_tup rfl (pgs_cons (pg_name (i := 5) sc_l_stopped.nd rfl (Or.inl rfl)) (pgs_cons (pg_name (i := 6) sc_l_stopped.nd rfl (Or.inl rfl)) pgs_nil)))
        (pss_one (ps_asg (pv 6) (pg_sub (pv 4) (pv 5) set_list))))
      (pss_cons (ps_asg (pe_ix ix_list (pv 1) (pv 2) (fun _ _ => rfl)) (pg_tup rfl (pgs_cons (pg_name (i := 5) sc_l_stopped.nd rfl (Or.inl rfl)) (pgs_cons (pg_name (i := 6) sc_l_stopped.nd rfl (Or.inl rfl)) pgs_nil))))
      (pss_cons (ps_asg (pe_dget (hu_of hr) (pe_disp (pps_cons pe_str (pe_ix ix_list (pv 4) (pv 5) (fun _ _ => rfl)) (pps_cons pe_str pe_non (pps_cons pe_str (pv 6) pps_nil))) (by rfl) (by rfl) (fun z => by cases z) (by decide)) (pv 3) (fun _ _ => rfl)) (pg_sub (pv 4) (pv 5) set_list))
      (pss_one (ps_ret (pv 4))))))), ?_⟩
    have hk := (List.getElem?_eq_some_iff.mp hw).1
    refine ⟨_, rfl, c, _, rfl, .inl (Dw.sq_of hc), fun f hf => ?_⟩
    have sf := Dw.same_upd (o := .lst cs) hf
    have nwf : wl ≠ f := ne_of_none hwl hf
    refine ⟨_, rfl, _, rfl, (k : Int), rfl, wl, _, rfl, Dw.sq_of (sf _ _ hwl), fun sl hsl => ?_⟩
    rw [show cutV (as.map V.ref) none (some (k : Int)) = (as.map V.ref).take k from Dw.cut_take _ k]
    have ss := Dw.same_upd (o := .lst ((as.map V.ref).take k)) hsl
    have nfs : f ≠ sl := ne_of_none (upd_same (H := H)) hsl
    have las := pr.len
    have kt : ∀ {H1 : Hp} {xs ys : List V}, H1 f = some (.lst xs) → ∀ b u, H1 b = some (.tup u) → (upd H1 f (.lst ys)) b = some (.tup u) := fun {H1 xs ys} e b u eb => by
      rw [upd_ne (ne_of eb e (by intro z; cases z))]
      exact eb
    refine ⟨sl, rfl, ⟨_, Dw.sq_of upd_same⟩, for_list (K := K) (a := sl) (xs := (as.map V.ref).take k) (fun i σ H' => ∃ v5 v6 : Option V, σ = [some (.ref c), some (.ref wl), some (.int (k : Int)), some (.str t), some (.ref f), v5, v6] ∧ Same H H' ∧ H' f = some (.lst (Bk.setAll cs (ws.take i))) ∧ H' sl = some (.lst ((as.map V.ref).take k)))
      ⟨_, _, rfl, sf.trans ss, ss _ _ upd_same, upd_same⟩ (fun i σ H' _ ⟨_, _, _, _, _, e⟩ => Dw.sq_of e) ?_ ?_⟩
    · rintro i y σ H1 hi ⟨v5, v6, rfl, s1, hf1, hs1⟩
      have hik : i < k := by
        have := (List.getElem?_eq_some_iff.mp hi).1
        rw [List.length_take] at this
        omega
      rw [List.getElem?_take, if_pos hik] at hi
      obtain ⟨ta, hta, rfl⟩ := Dw.get_map_ref hi
      obtain ⟨u, hu, htu⟩ := (pr.mono s1).at hta
      have hlu := hlt u (List.mem_of_getElem? hu)
      refine ⟨ta, _, rfl, Dw.st_of htu, rfl, _, [_], rfl, _, [], rfl, rfl, ?_⟩
      refine ⟨_, rfl, _, rfl, _, rfl, f, _, _, u.1, rfl, rfl, hf1, Dw.ixN_nat (by rw [Bk.setAll_len]; omega), ?_⟩
      exact ⟨_, _, rfl, Dw.same_mut s1 hf, by rw [upd_same, Bk.setAll_next hu], by rw [upd_ne nfs.symm]; exact hs1⟩
    · rintro σ H1 ⟨v5, v6, rfl, s1, hf1, hs1⟩
      rw [List.length_take, List.length_map, las, Nat.min_eq_left (by omega)] at hf1
      obtain ⟨ta, hta⟩ : ∃ ta, as[k]? = some ta := ⟨_, List.getElem?_eq_getElem (show k < as.length by omega)⟩
      obtain ⟨u, hu, htu⟩ := (pr.mono s1).at hta
      have eu : u = w := by
        rw [hw] at hu
        exact (Option.some.inj hu).symm
      subst eu
      have hlu := hlt u (List.mem_of_getElem? hw)
      have hlu2 : u.1 < (Bk.setAll cs (ws.take k)).length := by rw [Bk.setAll_len]; exact hlu
      obtain ⟨x, hx⟩ : ∃ x, (Bk.setAll cs (ws.take k))[u.1]? = some x := ⟨_, List.getElem?_eq_getElem hlu2⟩
      refine ⟨_, rfl, _, rfl, wl, _, (k : Int), .ref ta, rfl, rfl, Dw.sq_of (s1 _ _ hwl), atI_nat (by rw [List.getElem?_map, hta]; rfl), ?_⟩
      refine ⟨ta, _, rfl, Dw.st_of htu, rfl, _, [_], rfl, _, [], rfl, rfl, ?_⟩
      intro d hd
      have sd := Dw.same_upd (o := .dK []) hd
      refine ⟨_, rfl, _, rfl, f, _, _, x, rfl, rfl, Dw.sq_of (sd _ _ hf1), atI_nat hx, _, rfl, upd_same, [(Sum.inr "old", x), (Sum.inr "broken", .non), (Sum.inr "new", .int u.2)], rfl, Nat.le_of_ble_eq_true rfl, ?_⟩
      have hd2 : (upd (upd H1 d (.dK [])) d (.dK (mergeK [] [(Sum.inr "old", x), (Sum.inr "broken", .non), (Sum.inr "new", .int u.2)]))) d = some (.dK [(Sum.inr "old", x), (Sum.inr "broken", .non), (Sum.inr "new", .int u.2)]) := by
        rw [upd_same]
        kernel_rfl
      have s2 := Dw.same_mut (o := .dK (mergeK [] [(Sum.inr "old", x), (Sum.inr "broken", .non), (Sum.inr "new", .int u.2)])) sd hd
      have hf2 := s2 _ _ hf1
      have S2 := s1.trans s2
      generalize upd (upd H1 d (.dK [])) d (.dK (mergeK [] [(Sum.inr "old", x), (Sum.inr "broken", .non), (Sum.inr "new", .int u.2)])) = H2 at hd2 hf2 S2 ⊢
      have hv : ∃ y, valV [((Sum.inr "old" : Key), x), (Sum.inr "broken", .non), (Sum.inr "new", V.int u.2)] (Sum.inr t) = some y ∧ (Bk.setAll cs (ws.take k)).set u.1 y = Mm.tornTo t (Bk.setAll cs (ws.take k)) u.1 u.2 := by
        unfold Mm.tornTo
        rcases ht with z | z | z
        · rw [z, if_neg (by decide +kernel), if_neg (by decide +kernel)]
          refine ⟨x, by kernel_rfl, ?_⟩
          refine List.ext_getElem? fun i => ?_
          by_cases e : u.1 = i
          · subst e
            rw [List.getElem?_set_self hlu2, hx]
          · rw [List.getElem?_set_ne e]
        · rw [z, if_pos rfl]
          exact ⟨.non, by kernel_rfl, rfl⟩
        · rw [z, if_neg (by decide +kernel), if_pos rfl]
          exact ⟨.int u.2, by kernel_rfl, rfl⟩
      obtain ⟨y, hy, ey⟩ := hv
      refine ⟨_, rfl, d, y, rfl, ?_, ?_⟩
      · have g := DGet.k (k := Sum.inr t) hd2
        rw [hy] at g
        exact g
      refine ⟨_, rfl, _, rfl, f, _, _, u.1, rfl, rfl, hf2, Dw.ixN_nat hlu2, _, rfl, ?_⟩
      exact q _ f (Dw.same_mut S2 hf) hf (by rw [upd_same, ey])
theorem up_le {k : Int} {p q : List V} (hp : Bk.pgN p ≤ k) (hq : Bk.pgN q ≤ k) : Bk.nn p q ≤ k + 1 := by
  unfold Bk.nn
  split <;> omega
/-- numbers grow by one at most -/
theorem bound_whole {cs : List V} {j : Nat} {b c d k : Int} (hl : j + 12 ≤ cs.length) (hp : Bk.pgN (Bk.pg cs j) ≤ k) (hq : Bk.pgN (Bk.pg cs (j + 6)) ≤ k) :
    Bk.pgN (Bk.pg (Bk.setAll cs (Bk.noteAt cs j b c d)) j) ≤ k + 1 ∧ Bk.pgN (Bk.pg (Bk.setAll cs (Bk.noteAt cs j b c d)) (j + 6)) ≤ k + 1 := by
  have hn := up_le hp hq
  unfold Bk.noteAt
  rw [Bk.note_rel]
  rcases Bk.pw_two (Bk.pg cs j) (Bk.pg cs (j + 6)) with e | e
  · have ef : Bk.fst6 cs j = j := by
      unfold Bk.fst6
      rw [e]
      rfl
    rw [ef, Bk.pg_all_in _ _ Bk.rel_lt, Bk.pg_all_out (.inl (Nat.le_refl _)) _ _ Bk.rel_lt, (Bk.full_N (Bk.pg_len (by omega))).1]
    exact ⟨hn, by omega⟩
  · have ef : Bk.fst6 cs j = j + 6 := by
      unfold Bk.fst6
      rw [e]
    rw [ef, Bk.pg_all_in _ _ Bk.rel_lt, Bk.pg_all_out (.inr (Nat.le_refl _)) _ _ Bk.rel_lt, (Bk.full_N (Bk.pg_len (by omega))).1]
    exact ⟨by omega, hn⟩
theorem bound_part {cs : List V} {j : Nat} {b c d k : Int} (k0 : 0 ≤ k) (hl : j + 12 ≤ cs.length) (hp : Bk.pgN (Bk.pg cs j) ≤ k) (hq : Bk.pgN (Bk.pg cs (j + 6)) ≤ k) {i : Nat} {w : Nat × Int} {t : Str} (hw : (Bk.noteAt cs j b c d)[i]? = some w) (ht : t = "old" ∨ t = "broken" ∨ t = "new") :
    Bk.pgN (Bk.pg (Mm.tornTo t (Bk.setAll cs ((Bk.noteAt cs j b c d).take i)) w.1 w.2) j) ≤ k + 1 ∧ Bk.pgN (Bk.pg (Mm.tornTo t (Bk.setAll cs ((Bk.noteAt cs j b c d).take i)) w.1 w.2) (j + 6)) ≤ k + 1 := by
  have hn := up_le hp hq
  unfold Bk.noteAt at hw ⊢
  rw [Bk.note_rel, List.getElem?_map] at hw
  rw [Bk.note_rel, ← List.map_take]
  cases hr : (Bk.rel (Bk.nextN cs j) b c d)[i]? with
  | none =>
    rw [hr] at hw
    cases hw
  | some u =>
    rw [hr] at hw
    have e := Option.some.inj hw
    subst e
    have hu := Bk.rel_lt u (List.mem_of_getElem? hr)
    have htk : ∀ w ∈ (Bk.rel (Bk.nextN cs j) b c d).take i, w.1 < 6 := fun w hw => Bk.rel_lt w (List.mem_of_mem_take hw)
    have one : ∀ p : List V, p.length = 6 → Bk.pgN p ≤ k → Bk.pgN (Mm.tornTo t (Bk.setAll p ((Bk.rel (Bk.nextN cs j) b c d).take i)) u.1 u.2) ≤ k + 1 := fun p lp hp => by
      rcases Bk.part lp hr ht with z | z | z
      · rw [z]
        omega
      · rw [z]
        omega
      · rw [z, (Bk.full_N lp).1]
        exact hn
    dsimp only
    rcases Bk.pw_two (Bk.pg cs j) (Bk.pg cs (j + 6)) with e | e
    · have ef : Bk.fst6 cs j = j := by
        unfold Bk.fst6
        rw [e]
        rfl
      rw [ef, Bk.pg_torn_in hu, Bk.pg_torn_out (by omega), Bk.pg_all_in _ _ htk, Bk.pg_all_out (.inl (Nat.le_refl _)) _ _ htk]
      exact ⟨one _ (Bk.pg_len (by omega)) hp, by omega⟩
    · have ef : Bk.fst6 cs j = j + 6 := by
        unfold Bk.fst6
        rw [e]
      rw [ef, Bk.pg_torn_in hu, Bk.pg_torn_out (i := j + 6 + u.1) (j := j) (by omega), Bk.pg_all_in _ _ htk, Bk.pg_all_out (.inr (Nat.le_refl _)) _ _ htk]
      exact ⟨by omega, one _ (Bk.pg_len (by omega)) hq⟩

def spLaw (K : PySem.W.Frag) : Sp := fun vs H Q _ => ∃ (sa : Addr) (ns : List Int), vs = [.ref sa] ∧ SqL K H sa (ns.map V.int) ∧ ns.length ≤ 63 ∧ ∀ H', Q (.bl true) H'
/-- a record as data -/
def recD : Option (Int × Int × Int) → PyData
  | none => .none
  | some r => .tuple (([r.1, r.2.1, r.2.2].map V.int).map Dw.dat)
theorem rec_dp {K : PySem.W.Frag} {H : Hp} {x : V} : ∀ {o : Option (Int × Int × Int)}, Bk.RecV H x o → Dp K H x (recD o)
  | none, h => by
    have h : x = .non := h
    subst h
    exact .non
  | some r, ⟨t, e, h⟩ => by
    subst e
    exact Dw.dp_t (xs := [r.1, r.2.1, r.2.2].map V.int) (Dw.st_of h) Dw.cel_ints
theorem rec_shaped : ∀ (o : Option (Int × Int × Int)), SeqAt.shaped (recD o) = true
  | none => rfl
  | some r => Dw.shaped_t Dw.cel_ints
theorem rec_eqv : ∀ (a b : Option (Int × Int × Int)), PyData.eqv (recD a) (recD b) = decide (a = b)
  | none, none => by simp [recD, PyData.eqv]
  | none, some r => by simp [recD, PyData.eqv]
  | some r, none => by simp [recD, PyData.eqv]
  | some (a, b, c), some (x, y, z) => by
    show PyData.eqv (.tuple (([a, b, c].map V.int).map Dw.dat)) (.tuple (([x, y, z].map V.int).map Dw.dat)) = _
    rw [Dw.eqv_t Dw.cel_ints Dw.cel_ints]
    simp
theorem rec_two {K : PySem.W.Frag} {H : Hp} {t : Addr} {x y : V} {a b : Option (Int × Int × Int)} (h : H t = some (.tup [x, y])) (hx : Bk.RecV H x a) (hy : Bk.RecV H y b) : Dp K H (.ref t) (.tuple [recD a, recD b]) := .tup (Dw.st_of h) (.cons (rec_dp hx) (.cons (rec_dp hy) .nil))
theorem two_shaped (a b : Option (Int × Int × Int)) : SeqAt.shaped (.tuple [recD a, recD b]) = true := by
  have lay : ∀ o : Option (Int × Int × Int), (recD o).canLay0 = true ∧ (recD o).depth ≤ 1 := fun o => by
    cases o with
    | none => exact ⟨by simp only [recD, PyData.canLay0], by simp only [recD, PyData.depth]; omega⟩
    | some r =>
      obtain ⟨h1, h2⟩ := Dw.layAll_dat (xs := [r.1, r.2.1, r.2.2].map V.int) Dw.cel_ints
      unfold recD
      rw [PyData.canLay0, PyData.depth, h1, h2]
      exact ⟨rfl, Nat.le_refl _⟩
  obtain ⟨a1, a2⟩ := lay a
  obtain ⟨b1, b2⟩ := lay b
  unfold SeqAt.shaped
  rw [PyData.canLay0, PyData.depth, PyData.canLayAll0, PyData.canLayAll0, PyData.canLayAll0, PyData.depthAll, PyData.depthAll, PyData.depthAll, a1, b1]
  simp
  omega
theorem recV_keep {H H' : Hp} {x : V} (k : ∀ a u, H a = some (.tup u) → H' a = some (.tup u)) : ∀ {o : Option (Int × Int × Int)}, Bk.RecV H x o → Bk.RecV H' x o
  | none, h => h
  | some _, ⟨t, e, h⟩ => ⟨t, e, k _ _ h⟩
section
variable {H0 H H' : Hp} {ns : List Int} {sa r C p l : Addr} {m : Mm.Mem}
theorem tk_keep (I : Ct.Lw K H0 ns sa r C p l m H) (k : Dw.Keep r H H') : ∀ b u, H b = some (.tup u) → H' b = some (.tup u) := fun b u e => k b _ (I.dr.ne_tup e) e
theorem tk_but (I : Ct.Lw K H0 ns sa r C p l m H) (k : Mm.But [p, l] H H') : ∀ b u, H b = some (.tup u) → H' b = some (.tup u) := fun b u e => by
  obtain ⟨_, _, hp, _⟩ := I.me.ob
  exact k b _ (by simp [ne_of e hp (by intro z; cases z), ne_of e I.me.ls (by intro z; cases z)]) e
end
theorem G_law {a : Ad} (T : Top K mg a) : FnOk P w K mg base CX0 7 a.f_law a.d_law P_law (spLaw K) := by
  refine T.F_law.ok sc_law (fun vs H Q E h => ?_) (fun cdv A outer s H vs Q E hr h => ?_)
  · obtain ⟨_, _, rfl, _⟩ := h
    rfl
  · obtain ⟨sa, ns, rfl, hS, hlen, q⟩ := h
    refine ⟨_, (pss_cons (ps_set (i := 1) sc_law.nd rfl (Or.inl rfl) (pe_lst (pa_cons (pv 0) (pa_cons pe_int (pa_cons pe_int (pa_cons pe_int pa_nil))))))
      (pss_cons (ps_set (i := 2) sc_law.nd rfl (Or.inl rfl) (pe_make T.mk_Memory (G_Memory___init__ T) (hr.mono (by omega)) (by rfl) T.g_Memory T.B_Memory___init__ .nil pass0 (pa_cons pe_int pa_nil)))
      (pss_cons (ps_set (i := 3) sc_law.nd rfl (Or.inl rfl) pe_non)
      (pss_cons (ps_for PassesOwn.never rfl (pi_range1 (by rfl) T.b_range (pa_cons (pe_call (G_l_taken T) (hr.mono (by omega)) (by rfl) T.g_l_taken T.F_l_taken.kp T.B_l_taken .nil pass0 (pa_cons (pv 1) (pa_cons pe_int pa_nil))) pa_nil)) (pg_name (i := 4) sc_law.nd rfl (Or.inl rfl))
        (pss_cons (ps_set (i := 5) sc_law.nd rfl (Or.inl rfl) (pe_tup (pa_cons (pe_call (G_l_taken T) (hr.mono (by omega)) (by rfl) T.g_l_taken T.F_l_taken.kp T.B_l_taken .nil pass0 (pa_cons (pv 1) (pa_cons pe_int pa_nil))) (pa_cons (pe_call (G_l_taken T) (hr.mono (by omega)) (by rfl) T.g_l_taken T.F_l_taken.kp T.B_l_taken .nil pass0 (pa_cons (pv 1) (pa_cons pe_int pa_nil))) (pa_cons (pe_call (G_l_taken T) (hr.mono (by omega)) (by rfl) T.g_l_taken T.F_l_taken.kp T.B_l_taken .nil pass0 (pa_cons (pv 1) (pa_cons pe_int pa_nil))) pa_nil)))))
      (pss_cons (ps_set (i := 6) sc_law.nd rfl (Or.inl rfl) (pe_call (G_l_noted T) (hr.mono (by omega)) (by rfl) T.g_l_noted T.F_l_noted.kp T.B_l_noted .nil pass0 (pa_cons (pe_meth0 (pv 2) T.cl_Memory T.m_Memory_cells (G_Memory_cells T) (hr.mono (by omega)) T.B_Memory_cells .nil pass0) (pa_cons pe_int (pa_cons (pv 5) pa_nil)))))
      (pss_cons (ps_set (i := 7) sc_law.nd rfl (Or.inl rfl) (pe_call (G_l_taken T) (hr.mono (by omega)) (by rfl) T.g_l_taken T.F_l_taken.kp T.B_l_taken .nil pass0 (pa_cons (pv 1) (pa_cons pe_int pa_nil))))
      (pss_cons (ps_set (i := 8) sc_law.nd rfl (Or.inl rfl) (pe_ix ix_list (pe_lst (pa_cons pe_str (pa_cons pe_str (pa_cons pe_str pa_nil)))) (pe_call (G_l_taken T) (hr.mono (by omega)) (by rfl) T.g_l_taken T.F_l_taken.kp T.B_l_taken .nil pass0 (pa_cons (pv 1) (pa_cons pe_int pa_nil))) (fun _ _ => rfl)))
      (pss_cons (ps_set (i := 9) sc_law.nd rfl (Or.inl rfl) (pe_meth0 (pv 2) T.cl_Memory T.m_Memory_cells (G_Memory_cells T) (hr.mono (by omega)) T.B_Memory_cells .nil pass0))
      (C8.pss_cut (ps_if (pt_cmpR op_lt (pv 7) (pe_callB call_len_seq (by rfl) T.b_len PySem.boot_len (pa_cons (pv 6) pa_nil)) (nomark _))
        (pss_one (ps_set (i := 9) sc_law.nd rfl (Or.inl rfl) (pe_call (G_l_stopped T) (hr.mono (by omega)) (by rfl) T.g_l_stopped T.F_l_stopped.kp T.B_l_stopped .nil pass0 (pa_cons (pv 9) (pa_cons (pv 6) (pa_cons (pv 7) (pa_cons (pv 8) pa_nil)))))))
        (pss_one (ps_for PassesOwn.never rfl (pi_list (pv 6)) (pg_tup rfl (pgs_cons (pg_name (i := 10) sc_law.nd rfl (Or.inl rfl)) (pgs_cons (pg_name (i := 11) sc_law.nd rfl (Or.inl rfl)) pgs_nil)))
        (pss_one (ps_asg (pv 11) (pg_sub (pv 9) (pv 10) set_list))))))
      (pss_cons (ps_expr (pe_meth (pv 2) T.cl_Memory T.m_Memory_cut (G_Memory_cut T) (hr.mono (by omega)) T.B_Memory_cut .nil pass0 (pa_cons (pv 7) (pa_cons (pv 8) pa_nil))))
      (pss_cons (ps_set (i := 12) sc_law.nd rfl (Or.inl rfl) (pe_call (G_l_is_whole T) (hr.mono (by omega)) (by rfl) T.g_l_is_whole T.F_l_is_whole.kp T.B_l_is_whole .nil pass0 (pa_cons (pv 2) (pa_cons (pv 5) pa_nil))))
      (pss_cons (ps_expr (pe_meth0 (pv 2) T.cl_Memory T.m_Memory_up (G_Memory_up T) (hr.mono (by omega)) T.B_Memory_up .nil pass0))
      (pss_cons (ps_if (PW.pt (pw_or (pt_cmpR (op_neD hr.units) (pe_meth0 (pv 2) T.cl_Memory T.m_Memory_cells (G_Memory_cells T) (hr.mono (by omega)) T.B_Memory_cells .nil pass0) (pv 9) (nomark _)) (pw_or1 (pt_cmpR op_ne (pv 12) (pe_cmpR op_ge (pv 7) (pe_callB call_len_seq (by rfl) T.b_len PySem.boot_len (pa_cons (pv 6) pa_nil)) (nomark _)) (nomark _)))))
        (pss_one (ps_ret pe_bl))
        pss_nil)
      (pss_cons (ps_set (i := 13) sc_law.nd rfl (Or.inl rfl) (pe_call (G_record T) (hr.mono (by omega)) (by rfl) T.g_record T.F_record.kp T.B_record .nil Mm.passN (pa_cons (pv 2) (pa_cons pe_int pa_nil))))
      (pss_cons (ps_if (PW.pt (pw_or (pt_cmpR (Mx.op_notInDT hr) (pv 13) (pe_tup (pa_cons (pv 3) (pa_cons (pv 5) pa_nil))) (by rfl)) (pw_or1 (PW.pt (pw_and (pt_val (pv 12)) (pw_and1 (pt_cmpR (op_neD hr.units) (pv 13) (pv 5) (nomark _))))))))
        (pss_one (ps_ret pe_bl))
        pss_nil)
      (pss_one (ps_set (i := 3) sc_law.nd rfl (Or.inl rfl) (pv 13))))))))))))))))
      (pss_one (ps_ret pe_bl)))))), ?_⟩
    refine ⟨.ref sa, rfl, Dw.sz_ rfl, fun r hr0 => ?_⟩
    have D0 : Dw.Dr K H ns sa r (upd H r (.lst [.ref sa, .int 0, .int 0, .int 0])) := Dw.Dr.start hr0 hS hlen
    generalize upd H r (.lst [.ref sa, .int 0, .int 0, .int 0]) = H3 at D0 ⊢
    refine fun p dx np ndx nex => ?_
    have S3 : Same H3 (upd (upd H3 dx (.own p)) p (.ins a.C_Memory dx [])) := fun b o e => by
      rw [upd_ne (ne_of_none e np), upd_ne (ne_of_none e ndx)]
      exact e
    refine ⟨p, dx, 16, rfl, upd_same, by omega, by omega, fun H4 l M4 hl4 k4 => ⟨rfl, ?_⟩⟩
    have S4 : Same H3 H4 := fun b o e => k4 b o (by simp [ne_of_none e np]) (S3 b o e)
    have I4 : Ct.Lw K H ns sa r a.C_Memory p l ⟨List.replicate 16 (.int 0), 0, true, none, "old"⟩ H4 := ⟨D0.mono S4, M4, Ct.ok_rep 16, D0.free np, D0.free (S3.free hl4)⟩
    refine ⟨.ref r, rfl, H, ns, sa, r, 21, rfl, I4.dr, by decide, by decide, fun u H5 D5 k5 u0 u9 => ?_⟩
    have I5 := I4.keep D5 k5
    have r0 : Bk.recAt (List.replicate 16 (V.int 0)) 2 = none := by
      have e1 : Bk.pg (List.replicate 16 (V.int 0)) 2 = .int 0 :: [.int 0, .int 0, .int 0, .int 0, .int 0] := rfl
      have e2 : Bk.pg (List.replicate 16 (V.int 0)) (2 + 6) = .int 0 :: [.int 0, .int 0, .int 0, .int 0, .int 0] := rfl
      unfold Bk.recAt Bk.recO Bk.newest
      rw [e1, e2, if_pos ⟨Bk.pgN_zero, Bk.pgN_zero⟩]
      rfl
    refine ⟨u, rfl, by omega, by omega, for_range (lo := 0) (n := u.toNat) (fun i σ H' => ∃ (v4 v5 v6 v7 v8 v9 v10 v11 v12 v13 : Option V) (el : V) (cs : List V) (n : Int) (t : Str), σ = [some (.ref sa), some (.ref r), some (.ref p), some el, v4, v5, v6, v7, v8, v9, v10, v11, v12, v13] ∧ Ct.Lw K H ns sa r a.C_Memory p l ⟨cs, n, true, none, t⟩ H' ∧ cs.length = 16 ∧ Bk.RecV H' el (Bk.recAt cs 2) ∧ Bk.pgN (Bk.pg cs 2) ≤ (i : Int) ∧ Bk.pgN (Bk.pg cs (2 + 6)) ≤ (i : Int) ∧ (t = "old" ∨ t = "broken" ∨ t = "new"))
      ⟨_, _, _, _, _, _, _, _, _, _, .non, List.replicate 16 (.int 0), 0, "old", rfl, I5, rfl, by rw [r0]; rfl, Int.le_of_eq (Bk.pgN_zero (r := [.int 0, .int 0, .int 0, .int 0, .int 0])), Int.le_of_eq (Bk.pgN_zero (r := [.int 0, .int 0, .int 0, .int 0, .int 0])), .inl rfl⟩ ?_ ?_⟩
    · rintro i σ H6 hi ⟨v4, v5, v6, v7, v8, v9, v10, v11, v12, v13, el, cs, n, t, rfl, I6, lc, rv6, g0, g1, ht⟩
      have hi20 : i ≤ 20 := by omega
      have hnx : Bk.nextN cs 2 ≤ 9972 := by
        have := up_le g0 g1
        have : Bk.nextN cs 2 ≤ (i : Int) + 1 := this
        omega
      -- new
      refine ⟨.ref r, rfl, H, ns, sa, r, 2, rfl, I6.dr, by decide, by decide, fun b1 H7 D7 k7 b10 b19 => ?_⟩
      have rv7 := recV_keep (tk_keep I6 k7) rv6
      have I7 := I6.keep D7 k7
      refine ⟨.ref r, rfl, H, ns, sa, r, 2, rfl, I7.dr, by decide, by decide, fun b2 H8 D8 k8 b20 b29 => ?_⟩
      have rv8 := recV_keep (tk_keep I7 k8) rv7
      have I8 := I7.keep D8 k8
      refine ⟨.ref r, rfl, H, ns, sa, r, 4, rfl, I8.dr, by decide, by decide, fun b3 H9 D9 k9 b30 b39 => ?_⟩
      have rv9 := recV_keep (tk_keep I8 k9) rv8
      have I9 := I8.keep D9 k9
      refine ⟨Dw.sz_ rfl, fun t3 ht3 => ?_⟩
      have s10 := Dw.same_upd (o := .tup [.int b1, .int b2, .int b3]) ht3
      have I10 := I9.mono s10
      have rv10 := recV_keep (fun b u e => s10 b _ e) rv9
      have h10 : (upd H9 t3 (.tup [.int b1, .int b2, .int b3])) t3 = some (.tup [.int b1, .int b2, .int b3]) := upd_same
      generalize upd H9 t3 (.tup [.int b1, .int b2, .int b3]) = H10 at I10 rv10 h10 ⊢
      -- log
      obtain ⟨dx10, ah10, hp10, _⟩ := I10.me.ob
      refine ⟨.ref p, rfl, p, dx10, _, rfl, hp10, no_attr (by decide +kernel), p, l, _, rfl, I10.me, fun H11 c1 s11 nc1 hc1 => ?_⟩
      refine ⟨_, rfl, c1, t3, cs, 2, b1, b2, b3, rfl, hc1, s11 _ _ h10, by omega, by omega, I10.ok, fun H12 wl as s12 nwl hwl pr => ?_⟩
      have S12 := s11.trans s12
      have I12 := I10.mono S12
      have rv12 := recV_keep (fun b u e => S12 b _ e) rv10
      have h12 := S12 _ _ h10
      have fwl : Dw.Fr0 H wl := (I10.mono s11).dr.free nwl
      have nwr : wl ≠ r := (I10.mono s11).dr.ne nwl
      have nwp : wl ≠ p := (ne_of_none (s11 _ _ hp10) nwl).symm
      have nwL : wl ≠ l := (ne_of_none (s11 _ _ I10.me.ls) nwl).symm
      -- left
      refine ⟨.ref r, rfl, H, ns, sa, r, 12, rfl, I12.dr, by decide, by decide, fun lf H13 D13 k13 l0 l9 => ?_⟩
      have rv13 := recV_keep (tk_keep I12 k13) rv12
      have pr13 := pr.keep (tk_keep I12 k13)
      have h13 := tk_keep I12 k13 _ _ h12
      have hwl13 := k13 _ _ nwr hwl
      have I13 := I12.keep D13 k13
      obtain ⟨k, rfl⟩ : ∃ k : Nat, lf = (k : Int) := ⟨lf.toNat, by omega⟩
      -- torn
      refine ⟨Dw.sz_ rfl, fun l2 hl2 => ?_⟩
      have nl2 := D13.ne hl2
      have s14 := Dw.same_upd (o := .lst [.str "old", .str "broken", .str "new"]) hl2
      have I14 := I13.mono s14
      refine ⟨.ref r, rfl, H, ns, sa, r, 3, rfl, I14.dr, by decide, by decide, fun b H15 D15 k15 bb0 bb9 => ?_⟩
      have K15 : ∀ x u, H13 x = some (.tup u) → H15 x = some (.tup u) := fun x u e => tk_keep I14 k15 x u (s14 _ _ e)
      have rv15 := recV_keep K15 rv13
      have pr15 := pr13.keep K15
      have h15 := K15 _ _ h13
      have hwl15 := k15 _ _ nwr (s14 _ _ hwl13)
      have I15 := I14.keep D15 k15
      have hL2 : H15 l2 = some (.lst [.str "old", .str "broken", .str "new"]) := k15 _ _ nl2 upd_same
      have hat : ∃ tt : Str, atI [V.str "old", V.str "broken", V.str "new"] b = some (.str tt) ∧ (tt = "old" ∨ tt = "broken" ∨ tt = "new") := by
        have e : b = 0 ∨ b = 1 ∨ b = 2 := by omega
        rcases e with rfl | rfl | rfl
        · exact ⟨_, rfl, .inl rfl⟩
        · exact ⟨_, rfl, .inr (.inl rfl)⟩
        · exact ⟨_, rfl, .inr (.inr rfl)⟩
      obtain ⟨tt, hat, htt⟩ := hat
      refine ⟨l2, _, b, _, rfl, rfl, Dw.sq_of hL2, hat, ?_⟩
      -- cells
      obtain ⟨dx15, ah15, hp15, _⟩ := I15.me.ob
      refine ⟨.ref p, rfl, p, dx15, _, rfl, hp15, no_attr (by decide +kernel), p, l, _, rfl, I15.me, fun H16 c2 s16 nc2 hc2 => ?_⟩
      have rv16 := recV_keep (fun b u e => s16 b _ e) rv15
      have pr16 := pr15.keep (fun b u e => s16 b _ e)
      have h16 := s16 _ _ h15
      have hwl16 := s16 _ _ hwl15
      have I16 := I15.mono s16
      have las := pr.len
      have las : as.length = 7 := las
      have lws : (Bk.noteAt cs 2 b1 b2 b3).length = 7 := rfl
      have ok6 : ∀ v ∈ cs, Ct.okc v := I16.ok
      have n0 : 0 ≤ Bk.nextN cs 2 := by
        have := (Bk.nn_pos (Bk.pg_ok ok6 2) (Bk.pg_ok ok6 (2 + 6))).1
        have : 1 ≤ Bk.nextN cs 2 := this
        omega
      have rng := Bk.note_rng (f := Bk.fst6 cs 2) ⟨n0, hnx⟩ ⟨b10, by omega⟩ ⟨b20, by omega⟩ ⟨b30, by omega⟩
      have out : ∃ (m' : Mm.Mem) (wh : Bool), Bk.wrs ⟨cs, n, true, some k, tt⟩ (Bk.noteAt cs 2 b1 b2 b3) = (m', wh) ∧ wh = decide (7 ≤ k) ∧ m'.torn = tt ∧ m'.cells.length = 16 ∧ Bk.pgN (Bk.pg m'.cells 2) ≤ (i : Int) + 1 ∧ Bk.pgN (Bk.pg m'.cells (2 + 6)) ≤ (i : Int) + 1 ∧ (Bk.recAt m'.cells 2 = Bk.recAt cs 2 ∨ Bk.recAt m'.cells 2 = some (b1, b2, b3)) ∧ (wh = true → Bk.recAt m'.cells 2 = some (b1, b2, b3)) ∧
          (∀ w, (Bk.noteAt cs 2 b1 b2 b3)[k]? = some w → m'.cells = Mm.tornTo tt (Bk.setAll cs ((Bk.noteAt cs 2 b1 b2 b3).take k)) w.1 w.2) ∧ (7 ≤ k → m'.cells = Bk.setAll cs (Bk.noteAt cs 2 b1 b2 b3)) := by
        by_cases hk : k < 7
        · obtain ⟨w, hw⟩ : ∃ w, (Bk.noteAt cs 2 b1 b2 b3)[k]? = some w := ⟨_, List.getElem?_eq_getElem (by rw [lws]; exact hk)⟩
          obtain ⟨g2, g3⟩ := bound_part (Int.natCast_nonneg i) (by omega) g0 g1 hw htt
          refine ⟨_, _, Bk.wrs_cut _ cs n tt k w hw, (decide_eq_false (by omega)).symm, rfl, by show (Mm.tornTo _ _ _ _).length = 16; rw [Mm.torn_len, Bk.setAll_len]; exact lc, g2, g3, Bk.note_part (by omega) ok6 hw htt, fun z => (by cases z), fun w' hw' => ?_, fun z => by omega⟩
          rw [hw] at hw'
          rw [Option.some.inj hw']
        · obtain ⟨g2, g3⟩ := bound_whole (b := b1) (c := b2) (d := b3) (by omega) g0 g1
          have e := Bk.note_whole (b := b1) (c := b2) (d := b3) (show 2 + 12 ≤ cs.length by omega) ok6
          refine ⟨_, _, Bk.wrs_late _ cs n tt k (by rw [lws]; omega), (decide_eq_true (by omega)).symm, rfl, by show (Bk.setAll _ _).length = 16; rw [Bk.setAll_len]; exact lc, g2, g3, .inr e, fun _ => e, fun w' hw' => ?_, fun z => rfl⟩
          have := (List.getElem?_eq_some_iff.mp hw').1
          rw [lws] at this
          omega
      obtain ⟨m', wh, eW, ewh, etn, lm, gm0, gm1, hor, hwh, hcut, hlate⟩ := out
      have okm := Bk.wrs_ok (Bk.noteAt cs 2 b1 b2 b3) ⟨cs, n, true, some k, tt⟩ ok6 rng
      rw [eW] at okm
      have nc2p : c2 ≠ p := (ne_of_none hp15 nc2).symm
      have nc2l : c2 ≠ l := (ne_of_none I15.me.ls nc2).symm
      have nc2r := I15.dr.ne nc2
      have fc2 := I15.dr.free nc2
      have nwc : wl ≠ c2 := ne_of_none hwl15 nc2
      refine ⟨fun σ' H' => ∃ (cc : Addr) (v10 v11 : Option V), σ' = [some (.ref sa), some (.ref r), some (.ref p), some el, some (.int (0 + (i : Int))), some (.ref t3), some (.ref wl), some (.int (k : Int)), some (.str tt), some (.ref cc), v10, v11, v12, v13] ∧ Ct.Lw K H ns sa r a.C_Memory p l ⟨cs, n, true, none, t⟩ H' ∧ H' cc = some (.lst m'.cells) ∧ Bk.RecV H' el (Bk.recAt cs 2) ∧ H' t3 = some (.tup [.int b1, .int b2, .int b3]) ∧ H' wl = some (.lst (as.map V.ref)) ∧ cc ≠ p ∧ cc ≠ l, ?_, ?_⟩
      · refine ⟨_, rfl, _, rfl, wl, _, rfl, .inl (Dw.sq_of hwl16), _, _, rfl, rfl, _, rfl, ?_⟩
        rw [List.length_map, las]
        refine ite2 (fun hk => ?_) (fun hk => ?_)
        · have hk : (k : Int) < (7 : Nat) := of_decide_eq_true hk
          obtain ⟨w, hw⟩ : ∃ w, (Bk.noteAt cs 2 b1 b2 b3)[k]? = some w := ⟨_, List.getElem?_eq_getElem (by rw [lws]; omega)⟩
          refine ⟨_, rfl, _, rfl, _, rfl, _, rfl, c2, wl, as, cs, _, k, tt, w, rfl, hc2, hwl16, pr16, hw, by rw [lws]; decide, by omega, fun u hu => by have := Bk.note_lt u hu; omega, htt, fun H17 f s17 nf hf => ?_⟩
          rw [← hcut w hw] at hf
          obtain ⟨dx16, ah16, hp16, _⟩ := I16.me.ob
          exact ⟨f, _, _, rfl, I16.mono s17, hf, recV_keep (fun b u e => s17 b _ e) rv16, s17 _ _ h16, s17 _ _ hwl16, (ne_of_none hp16 nf).symm, (ne_of_none I16.me.ls nf).symm⟩
        · have hk : 7 ≤ k := by
            have : ¬ (k : Int) < (7 : Nat) := fun y => hk (decide_eq_true y)
            omega
          refine ⟨_, rfl, wl, rfl, ⟨_, Dw.sq_of hwl16⟩, for_list (K := K) (a := wl) (xs := as.map V.ref) (fun m σ H' => ∃ v10 v11 : Option V, σ = [some (.ref sa), some (.ref r), some (.ref p), some el, some (.int (0 + (i : Int))), some (.ref t3), some (.ref wl), some (.int (k : Int)), some (.str tt), some (.ref c2), v10, v11, v12, v13] ∧ Ct.Lw K H ns sa r a.C_Memory p l ⟨cs, n, true, none, t⟩ H' ∧ H' c2 = some (.lst (Bk.setAll cs ((Bk.noteAt cs 2 b1 b2 b3).take m))) ∧ Bk.RecV H' el (Bk.recAt cs 2) ∧ H' t3 = some (.tup [.int b1, .int b2, .int b3]) ∧ H' wl = some (.lst (as.map V.ref)) ∧ Bk.Pairs H' as (Bk.noteAt cs 2 b1 b2 b3))
            ⟨_, _, rfl, I16, hc2, rv16, h16, hwl16, pr16⟩ (fun m σ H' _ ⟨_, _, _, _, _, _, _, e, _⟩ => Dw.sq_of e) ?_ ?_⟩
          · rintro m y1 σ H21 hm ⟨v10', v11', rfl, I21, h21, rv21, ht21, hwl21, pr21⟩
            obtain ⟨ta, hta, rfl⟩ := Dw.get_map_ref hm
            obtain ⟨w0, hw0, hta2⟩ := pr21.at hta
            have hlt := Bk.note_lt w0 (List.mem_of_getElem? hw0)
            refine ⟨ta, _, rfl, Dw.st_of hta2, rfl, _, [_], rfl, _, [], rfl, rfl, ?_⟩
            refine ⟨_, rfl, _, rfl, _, rfl, c2, _, _, w0.1, rfl, rfl, h21, Dw.ixN_nat (by rw [Bk.setAll_len]; omega), ?_⟩
            have kt : ∀ b u, H21 b = some (.tup u) → (upd H21 c2 (.lst ((Bk.setAll cs ((Bk.noteAt cs 2 b1 b2 b3).take m)).set w0.1 (.int w0.2)))) b = some (.tup u) := fun b u e => by
              rw [upd_ne (ne_of e h21 (by intro z; cases z))]
              exact e
            exact ⟨_, _, rfl, I21.mut nc2r nc2p nc2l fc2, by rw [upd_same, Bk.setAll_next hw0], recV_keep kt rv21, kt _ _ ht21, by rw [upd_ne nwc]; exact hwl21, pr21.keep kt⟩
          · rintro σ H21 ⟨v10', v11', rfl, I21, h21, rv21, ht21, hwl21, pr21⟩
            rw [List.length_map, las, List.take_of_length_le (Nat.le_refl 7), ← hlate hk] at h21
            exact ⟨c2, _, _, rfl, I21, h21, rv21, ht21, hwl21, nc2p, nc2l⟩
      · rintro σ' H17 ⟨cc, v10', v11', rfl, I17, hcc17, rv17, ht17, hwl17, ncp, ncl⟩
        obtain ⟨dx17, ah17, hp17, _⟩ := I17.me.ob
        refine ⟨.ref p, rfl, p, dx17, _, rfl, hp17, no_attr (by decide +kernel), _, rfl, _, rfl, p, l, _, k, tt, rfl, I17.me, by omega, htt, fun H18 M18 k18 => ?_⟩
        have I18 := I17.run M18 k18 I17.ok
        have ht18 := tk_but I17 k18 _ _ ht17
        have rv18 := recV_keep (tk_but I17 k18) rv17
        have hcc18 := k18 _ _ (by simp [ncp, ncl]) hcc17
        have hwl18 := k18 _ _ (by simp [nwp, nwL]) hwl17
        refine ⟨_, rfl, _, rfl, p, l, t3, _, b1, b2, b3, rfl, I18.me, Dw.st_of ht18, by show 14 ≤ cs.length; omega, ok6, ⟨b10, by omega⟩, ⟨b20, by omega⟩, ⟨b30, by omega⟩, hnx, fun H19 M19 k19 => ?_⟩
        dsimp only at M19 ⊢
        rw [eW] at M19 ⊢
        dsimp only at M19 ⊢
        have I19 := I18.run M19 k19 okm
        have ht19 := tk_but I18 k19 _ _ ht18
        have rv19 := recV_keep (tk_but I18 k19) rv18
        have hcc19 := k19 _ _ (by simp [ncp, ncl]) hcc18
        have hwl19 := k19 _ _ (by simp [nwp, nwL]) hwl18
        obtain ⟨dx19, ah19, hp19, _⟩ := I19.me.ob
        refine ⟨.ref p, rfl, p, dx19, _, rfl, hp19, no_attr (by decide +kernel), p, l, _, rfl, I19.me, fun H20 M20 k20 => ?_⟩
        have I20 := I19.run M20 k20 okm
        have ht20 := tk_but I19 k20 _ _ ht19
        have rv20 := recV_keep (tk_but I19 k20) rv19
        have hcc20 := k20 _ _ (by simp [ncp, ncl]) hcc19
        have hwl20 := k20 _ _ (by simp [nwp, nwL]) hwl19
        obtain ⟨dx20, ah20, hp20, _⟩ := I20.me.ob
        refine ⟨.ref p, rfl, p, dx20, _, rfl, hp20, no_attr (by decide +kernel), p, l, _, rfl, I20.me, fun H21 c21 s21 n21 h21 => ?_⟩
        have I21 := I20.mono s21
        refine ⟨_, rfl, _, _, Dw.dp_l (Dw.sq_of h21) I21.me.cel, Dw.dp_l (Dw.sq_of (s21 _ _ hcc20)) I21.me.cel, Dw.shaped_l I21.me.cel, Dw.shaped_l I21.me.cel, _, rfl, ?_⟩
        rw [Dw.eqv_l I21.me.cel I21.me.cel]
        refine iteNS rfl ?_
        refine ⟨_, rfl, _, rfl, _, rfl, wl, _, rfl, .inl (Dw.sq_of (s21 _ _ hwl20)), _, _, rfl, rfl, rfl, _, rfl, ?_⟩
        rw [List.length_map, las]
        refine iteNS (by rw [ewh]; congr 1; exact decide_eq_decide.mpr (by omega)) ?_
        refine ⟨_, rfl, p, l, _, 2, rfl, I21.me, by show 2 + 12 ≤ m'.cells.length; omega, okm, fun _ H22 y s22 ry _ => ?_, fun z => by cases z⟩
        have I22 := I21.mono s22
        have S22 := s21.trans s22
        have rv22 := recV_keep (fun b u e => S22 b _ e) rv20
        have ht22 := S22 _ _ ht20
        refine ⟨_, rfl, _, rfl, _, rfl, Dw.sz_ rfl, fun te hte => ?_⟩
        have s23 := Dw.same_upd (o := .tup [el, .ref t3]) hte
        have rv23 := recV_keep (fun b u e => s23 b _ e) rv22
        have ry23 := recV_keep (fun b u e => s23 b _ e) ry
        have ht23 := s23 _ _ ht22
        have I23 := I22.mono s23
        have hte23 : (upd H22 te (.tup [el, .ref t3])) te = some (.tup [el, .ref t3]) := upd_same
        generalize upd H22 te (.tup [el, .ref t3]) = H23 at rv23 ry23 ht23 I23 hte23 ⊢
        have rn : Bk.RecV H23 (.ref t3) (some (b1, b2, b3)) := ⟨t3, rfl, ht23⟩
        refine ⟨_, _, rec_dp ry23, rec_two hte23 rv23 rn, rec_shaped _, two_shaped _ _, _, rfl, ?_⟩
        have hin : (!([recD (Bk.recAt cs 2), recD (some (b1, b2, b3))].any fun z => PyData.eqv z (recD (Bk.recAt m'.cells 2)))) = false := by
          rw [List.any_cons, List.any_cons, List.any_nil, rec_eqv, rec_eqv]
          rcases hor with z | z <;> simp [z]
        rw [hin]
        refine iteF ⟨_, rfl, wh, rfl, ?_⟩
        have fin : ∃ (w4 w5 w6 w7 w8 w9 w10 w11 w12 w13 : Option V) (el' : V) (cs' : List V) (n' : Int) (t' : Str), [some (V.ref sa), some (.ref r), some (.ref p), some y, some (.int (0 + (i : Int))), some (.ref t3), some (.ref wl), some (.int (k : Int)), some (.str tt), some (.ref cc), v10', v11', some (.bl wh), some y] = [some (.ref sa), some (.ref r), some (.ref p), some el', w4, w5, w6, w7, w8, w9, w10, w11, w12, w13] ∧ Ct.Lw K H ns sa r a.C_Memory p l ⟨cs', n', true, none, t'⟩ H23 ∧ cs'.length = 16 ∧ Bk.RecV H23 el' (Bk.recAt cs' 2) ∧ Bk.pgN (Bk.pg cs' 2) ≤ ((i + 1 : Nat) : Int) ∧ Bk.pgN (Bk.pg cs' (2 + 6)) ≤ ((i + 1 : Nat) : Int) ∧ (t' = "old" ∨ t' = "broken" ∨ t' = "new") :=
          ⟨_, _, _, _, _, _, _, _, _, _, y, m'.cells, m'.many, m'.torn, rfl, I23, lm, ry23, by omega, by omega, by rw [etn]; exact htt⟩
        cases wh with
        | false => exact iteF ⟨_, rfl, fin⟩
        | true =>
          refine iteT ⟨_, rfl, _, rfl, _, _, rec_dp ry23, rec_dp rn, rec_shaped _, rec_shaped _, _, rfl, ?_⟩
          rw [rec_eqv]
          exact iteNS (hwh rfl) ⟨_, rfl, fin⟩
    · rintro σ H6 ⟨v4, v5, v6, v7, v8, v9, v10, v11, v12, v13, el, cs, n, t, rfl, I6, lc, rv6, g0, g1, ht⟩
      exact q _

end
theorem exm_self {K : PySem.W.Frag} {C : Addr} (b : PySem.W.subIn K (.ref C) (.type "BaseException") = some true) (i : PySem.W.isClsIn K C = true) (t : PySem.W.typeIn K (.ref C) = some (.type "type")) (s : PySem.W.subIn K (.ref C) (.ref C) = some true) :
    PySem.W.exmOne K (.ref C) (.ref C) = some true := by
  have i' : (PySem.W.clsIn K C).isSome = true := i
  simp [PySem.W.exmOne, PySem.W.kitCls, b, t, s, i']

theorem all_mk {l : PySem.W.OpenLaw} {w : World} {K : PySem.W.Frag} {h : Heap} {mg : Str → Option Value} {fa : Addr} (X : K.In h) (G : h.Ns mainGlobals mg) (hfa : mg "law" = some (.ref fa))
    {C_Memory : Addr} (a_Memory : PySem.W.nsIn K mainGlobals "Memory" = some (some (.ref C_Memory)))
    {C_Stopped : Addr} (a_Stopped : PySem.W.nsIn K mainGlobals "Stopped" = some (some (.ref C_Stopped)))
    {f1 : Addr} {od1 an1 : Option Addr} {sl1 : Array (Option Value)} {oc1 kV1 dc1 pm1 cd1 ct1 : Value}
    (a1 : PySem.W.nsIn K mainGlobals "check_worth" = some (some (.ref f1)))
    (l1 : K.lookup f1 = some ⟨oc1, od1, .func (PySem.W.fnOf "check_worth" "check_worth" (defArgs s_check_worth) (defBody s_check_worth) (defScope s_check_worth) .none kV1 dc1 pm1 an1 cd1 ct1), sl1⟩) (c1 : PySem.W.codeIn K cd1 "check_worth" = true) (k1 : PySem.W.keepIn K (.ref f1) = true)
    {f2 : Addr} {od2 an2 : Option Addr} {sl2 : Array (Option Value)} {oc2 kV2 dc2 pm2 cd2 ct2 : Value}
    (a2 : PySem.W.findIn K (.ref C_Memory) "__init__" = some (some (.ref f2)))
    (i2 : PySem.W.isFn K (.ref f2) = true)
    (l2 : K.lookup f2 = some ⟨oc2, od2, .func (PySem.W.fnOf "__init__" "Memory.__init__" (defArgs s_Memory___init__) (defBody s_Memory___init__) (defScope s_Memory___init__) .none kV2 dc2 pm2 an2 cd2 ct2), sl2⟩) (c2 : PySem.W.codeIn K cd2 "Memory.__init__" = true) (k2 : PySem.W.keepIn K (.ref f2) = true)
    {f3 : Addr} {od3 an3 : Option Addr} {sl3 : Array (Option Value)} {oc3 kV3 dc3 pm3 cd3 ct3 : Value}
    (a3 : PySem.W.findIn K (.ref C_Memory) "row" = some (some (.ref f3)))
    (i3 : PySem.W.isFn K (.ref f3) = true)
    (l3 : K.lookup f3 = some ⟨oc3, od3, .func (PySem.W.fnOf "row" "Memory.row" (defArgs s_Memory_row) (defBody s_Memory_row) (defScope s_Memory_row) .none kV3 dc3 pm3 an3 cd3 ct3), sl3⟩) (c3 : PySem.W.codeIn K cd3 "Memory.row" = true) (k3 : PySem.W.keepIn K (.ref f3) = true)
    {f4 : Addr} {od4 an4 : Option Addr} {sl4 : Array (Option Value)} {oc4 kV4 dc4 pm4 cd4 ct4 : Value}
    (a4 : PySem.W.findIn K (.ref C_Memory) "write" = some (some (.ref f4)))
    (i4 : PySem.W.isFn K (.ref f4) = true)
    (l4 : K.lookup f4 = some ⟨oc4, od4, .func (PySem.W.fnOf "write" "Memory.write" (defArgs s_Memory_write) (defBody s_Memory_write) (defScope s_Memory_write) .none kV4 dc4 pm4 an4 cd4 ct4), sl4⟩) (c4 : PySem.W.codeIn K cd4 "Memory.write" = true) (k4 : PySem.W.keepIn K (.ref f4) = true)
    {f5 : Addr} {od5 an5 : Option Addr} {sl5 : Array (Option Value)} {oc5 kV5 dc5 pm5 cd5 ct5 : Value}
    (a5 : PySem.W.findIn K (.ref C_Memory) "cut" = some (some (.ref f5)))
    (i5 : PySem.W.isFn K (.ref f5) = true)
    (l5 : K.lookup f5 = some ⟨oc5, od5, .func (PySem.W.fnOf "cut" "Memory.cut" (defArgs s_Memory_cut) (defBody s_Memory_cut) (defScope s_Memory_cut) .none kV5 dc5 pm5 an5 cd5 ct5), sl5⟩) (c5 : PySem.W.codeIn K cd5 "Memory.cut" = true) (k5 : PySem.W.keepIn K (.ref f5) = true)
    {f6 : Addr} {od6 an6 : Option Addr} {sl6 : Array (Option Value)} {oc6 kV6 dc6 pm6 cd6 ct6 : Value}
    (a6 : PySem.W.findIn K (.ref C_Memory) "up" = some (some (.ref f6)))
    (i6 : PySem.W.isFn K (.ref f6) = true)
    (l6 : K.lookup f6 = some ⟨oc6, od6, .func (PySem.W.fnOf "up" "Memory.up" (defArgs s_Memory_up) (defBody s_Memory_up) (defScope s_Memory_up) .none kV6 dc6 pm6 an6 cd6 ct6), sl6⟩) (c6 : PySem.W.codeIn K cd6 "Memory.up" = true) (k6 : PySem.W.keepIn K (.ref f6) = true)
    {f7 : Addr} {od7 an7 : Option Addr} {sl7 : Array (Option Value)} {oc7 kV7 dc7 pm7 cd7 ct7 : Value}
    (a7 : PySem.W.findIn K (.ref C_Memory) "cells" = some (some (.ref f7)))
    (i7 : PySem.W.isFn K (.ref f7) = true)
    (l7 : K.lookup f7 = some ⟨oc7, od7, .func (PySem.W.fnOf "cells" "Memory.cells" (defArgs s_Memory_cells) (defBody s_Memory_cells) (defScope s_Memory_cells) .none kV7 dc7 pm7 an7 cd7 ct7), sl7⟩) (c7 : PySem.W.codeIn K cd7 "Memory.cells" = true) (k7 : PySem.W.keepIn K (.ref f7) = true)
    {f8 : Addr} {od8 an8 : Option Addr} {sl8 : Array (Option Value)} {oc8 kV8 dc8 pm8 cd8 ct8 : Value}
    (a8 : PySem.W.findIn K (.ref C_Memory) "_check_place" = some (some (.ref f8)))
    (i8 : PySem.W.isFn K (.ref f8) = true)
    (l8 : K.lookup f8 = some ⟨oc8, od8, .func (PySem.W.fnOf "_check_place" "Memory._check_place" (defArgs s_Memory__check_place) (defBody s_Memory__check_place) (defScope s_Memory__check_place) .none kV8 dc8 pm8 an8 cd8 ct8), sl8⟩) (c8 : PySem.W.codeIn K cd8 "Memory._check_place" = true) (k8 : PySem.W.keepIn K (.ref f8) = true)
    {f9 : Addr} {od9 an9 : Option Addr} {sl9 : Array (Option Value)} {oc9 kV9 dc9 pm9 cd9 ct9 : Value}
    (a9 : PySem.W.findIn K (.ref C_Memory) "_check_power" = some (some (.ref f9)))
    (i9 : PySem.W.isFn K (.ref f9) = true)
    (l9 : K.lookup f9 = some ⟨oc9, od9, .func (PySem.W.fnOf "_check_power" "Memory._check_power" (defArgs s_Memory__check_power) (defBody s_Memory__check_power) (defScope s_Memory__check_power) .none kV9 dc9 pm9 an9 cd9 ct9), sl9⟩) (c9 : PySem.W.codeIn K cd9 "Memory._check_power" = true) (k9 : PySem.W.keepIn K (.ref f9) = true)
    {f10 : Addr} {od10 an10 : Option Addr} {sl10 : Array (Option Value)} {oc10 kV10 dc10 pm10 cd10 ct10 : Value}
    (a10 : PySem.W.findIn K (.ref C_Memory) "_lose_power" = some (some (.ref f10)))
    (i10 : PySem.W.isFn K (.ref f10) = true)
    (l10 : K.lookup f10 = some ⟨oc10, od10, .func (PySem.W.fnOf "_lose_power" "Memory._lose_power" (defArgs s_Memory__lose_power) (defBody s_Memory__lose_power) (defScope s_Memory__lose_power) .none kV10 dc10 pm10 an10 cd10 ct10), sl10⟩) (c10 : PySem.W.codeIn K cd10 "Memory._lose_power" = true) (k10 : PySem.W.keepIn K (.ref f10) = true)
    {f11 : Addr} {od11 an11 : Option Addr} {sl11 : Array (Option Value)} {oc11 kV11 dc11 pm11 cd11 ct11 : Value}
    (a11 : PySem.W.nsIn K mainGlobals "check_handed" = some (some (.ref f11)))
    (l11 : K.lookup f11 = some ⟨oc11, od11, .func (PySem.W.fnOf "check_handed" "check_handed" (defArgs s_check_handed) (defBody s_check_handed) (defScope s_check_handed) .none kV11 dc11 pm11 an11 cd11 ct11), sl11⟩) (c11 : PySem.W.codeIn K cd11 "check_handed" = true) (k11 : PySem.W.keepIn K (.ref f11) = true)
    {f12 : Addr} {od12 an12 : Option Addr} {sl12 : Array (Option Value)} {oc12 kV12 dc12 pm12 cd12 ct12 : Value}
    (a12 : PySem.W.nsIn K mainGlobals "sums" = some (some (.ref f12)))
    (l12 : K.lookup f12 = some ⟨oc12, od12, .func (PySem.W.fnOf "sums" "sums" (defArgs s_sums) (defBody s_sums) (defScope s_sums) .none kV12 dc12 pm12 an12 cd12 ct12), sl12⟩) (c12 : PySem.W.codeIn K cd12 "sums" = true) (k12 : PySem.W.keepIn K (.ref f12) = true)
    {f13 : Addr} {od13 an13 : Option Addr} {sl13 : Array (Option Value)} {oc13 kV13 dc13 pm13 cd13 ct13 : Value}
    (a13 : PySem.W.nsIn K mainGlobals "record" = some (some (.ref f13)))
    (l13 : K.lookup f13 = some ⟨oc13, od13, .func (PySem.W.fnOf "record" "record" (defArgs s_record) (defBody s_record) (defScope s_record) .none kV13 dc13 pm13 an13 cd13 ct13), sl13⟩) (c13 : PySem.W.codeIn K cd13 "record" = true) (k13 : PySem.W.keepIn K (.ref f13) = true)
    {f14 : Addr} {od14 an14 : Option Addr} {sl14 : Array (Option Value)} {oc14 kV14 dc14 pm14 cd14 ct14 : Value}
    (a14 : PySem.W.nsIn K mainGlobals "note" = some (some (.ref f14)))
    (l14 : K.lookup f14 = some ⟨oc14, od14, .func (PySem.W.fnOf "note" "note" (defArgs s_note) (defBody s_note) (defScope s_note) .none kV14 dc14 pm14 an14 cd14 ct14), sl14⟩) (c14 : PySem.W.codeIn K cd14 "note" = true) (k14 : PySem.W.keepIn K (.ref f14) = true)
    {f15 : Addr} {od15 an15 : Option Addr} {sl15 : Array (Option Value)} {oc15 kV15 dc15 pm15 cd15 ct15 : Value}
    (a15 : PySem.W.nsIn K mainGlobals "both_pages" = some (some (.ref f15)))
    (l15 : K.lookup f15 = some ⟨oc15, od15, .func (PySem.W.fnOf "both_pages" "both_pages" (defArgs s_both_pages) (defBody s_both_pages) (defScope s_both_pages) .none kV15 dc15 pm15 an15 cd15 ct15), sl15⟩) (c15 : PySem.W.codeIn K cd15 "both_pages" = true) (k15 : PySem.W.keepIn K (.ref f15) = true)
    {f16 : Addr} {od16 an16 : Option Addr} {sl16 : Array (Option Value)} {oc16 kV16 dc16 pm16 cd16 ct16 : Value}
    (a16 : PySem.W.nsIn K mainGlobals "number_of" = some (some (.ref f16)))
    (l16 : K.lookup f16 = some ⟨oc16, od16, .func (PySem.W.fnOf "number_of" "number_of" (defArgs s_number_of) (defBody s_number_of) (defScope s_number_of) .none kV16 dc16 pm16 an16 cd16 ct16), sl16⟩) (c16 : PySem.W.codeIn K cd16 "number_of" = true) (k16 : PySem.W.keepIn K (.ref f16) = true)
    {f17 : Addr} {od17 an17 : Option Addr} {sl17 : Array (Option Value)} {oc17 kV17 dc17 pm17 cd17 ct17 : Value}
    (a17 : PySem.W.nsIn K mainGlobals "newest_of" = some (some (.ref f17)))
    (l17 : K.lookup f17 = some ⟨oc17, od17, .func (PySem.W.fnOf "newest_of" "newest_of" (defArgs s_newest_of) (defBody s_newest_of) (defScope s_newest_of) .none kV17 dc17 pm17 an17 cd17 ct17), sl17⟩) (c17 : PySem.W.codeIn K cd17 "newest_of" = true) (k17 : PySem.W.keepIn K (.ref f17) = true)
    {f18 : Addr} {od18 an18 : Option Addr} {sl18 : Array (Option Value)} {oc18 kV18 dc18 pm18 cd18 ct18 : Value}
    (a18 : PySem.W.nsIn K mainGlobals "page_to_write" = some (some (.ref f18)))
    (l18 : K.lookup f18 = some ⟨oc18, od18, .func (PySem.W.fnOf "page_to_write" "page_to_write" (defArgs s_page_to_write) (defBody s_page_to_write) (defScope s_page_to_write) .none kV18 dc18 pm18 an18 cd18 ct18), sl18⟩) (c18 : PySem.W.codeIn K cd18 "page_to_write" = true) (k18 : PySem.W.keepIn K (.ref f18) = true)
    {f19 : Addr} {od19 an19 : Option Addr} {sl19 : Array (Option Value)} {oc19 kV19 dc19 pm19 cd19 ct19 : Value}
    (a19 : PySem.W.nsIn K mainGlobals "_law_taken" = some (some (.ref f19)))
    (l19 : K.lookup f19 = some ⟨oc19, od19, .func (PySem.W.fnOf "_law_taken" "_law_taken" (defArgs s_l_taken) (defBody s_l_taken) (defScope s_l_taken) .none kV19 dc19 pm19 an19 cd19 ct19), sl19⟩) (c19 : PySem.W.codeIn K cd19 "_law_taken" = true) (k19 : PySem.W.keepIn K (.ref f19) = true)
    {f20 : Addr} {od20 an20 : Option Addr} {sl20 : Array (Option Value)} {oc20 kV20 dc20 pm20 cd20 ct20 : Value}
    (a20 : PySem.W.nsIn K mainGlobals "_law_sums" = some (some (.ref f20)))
    (l20 : K.lookup f20 = some ⟨oc20, od20, .func (PySem.W.fnOf "_law_sums" "_law_sums" (defArgs s_l_sums) (defBody s_l_sums) (defScope s_l_sums) .none kV20 dc20 pm20 an20 cd20 ct20), sl20⟩) (c20 : PySem.W.codeIn K cd20 "_law_sums" = true) (k20 : PySem.W.keepIn K (.ref f20) = true)
    {f21 : Addr} {od21 an21 : Option Addr} {sl21 : Array (Option Value)} {oc21 kV21 dc21 pm21 cd21 ct21 : Value}
    (a21 : PySem.W.nsIn K mainGlobals "_law_newest" = some (some (.ref f21)))
    (l21 : K.lookup f21 = some ⟨oc21, od21, .func (PySem.W.fnOf "_law_newest" "_law_newest" (defArgs s_l_newest) (defBody s_l_newest) (defScope s_l_newest) .none kV21 dc21 pm21 an21 cd21 ct21), sl21⟩) (c21 : PySem.W.codeIn K cd21 "_law_newest" = true) (k21 : PySem.W.keepIn K (.ref f21) = true)
    {f22 : Addr} {od22 an22 : Option Addr} {sl22 : Array (Option Value)} {oc22 kV22 dc22 pm22 cd22 ct22 : Value}
    (a22 : PySem.W.nsIn K mainGlobals "_law_noted" = some (some (.ref f22)))
    (l22 : K.lookup f22 = some ⟨oc22, od22, .func (PySem.W.fnOf "_law_noted" "_law_noted" (defArgs s_l_noted) (defBody s_l_noted) (defScope s_l_noted) .none kV22 dc22 pm22 an22 cd22 ct22), sl22⟩) (c22 : PySem.W.codeIn K cd22 "_law_noted" = true) (k22 : PySem.W.keepIn K (.ref f22) = true)
    {f23 : Addr} {od23 an23 : Option Addr} {sl23 : Array (Option Value)} {oc23 kV23 dc23 pm23 cd23 ct23 : Value}
    (a23 : PySem.W.nsIn K mainGlobals "_law_stopped" = some (some (.ref f23)))
    (l23 : K.lookup f23 = some ⟨oc23, od23, .func (PySem.W.fnOf "_law_stopped" "_law_stopped" (defArgs s_l_stopped) (defBody s_l_stopped) (defScope s_l_stopped) .none kV23 dc23 pm23 an23 cd23 ct23), sl23⟩) (c23 : PySem.W.codeIn K cd23 "_law_stopped" = true) (k23 : PySem.W.keepIn K (.ref f23) = true)
    {f24 : Addr} {od24 an24 : Option Addr} {sl24 : Array (Option Value)} {oc24 kV24 dc24 pm24 cd24 ct24 : Value}
    (a24 : PySem.W.nsIn K mainGlobals "_law_is_whole" = some (some (.ref f24)))
    (l24 : K.lookup f24 = some ⟨oc24, od24, .func (PySem.W.fnOf "_law_is_whole" "_law_is_whole" (defArgs s_l_is_whole) (defBody s_l_is_whole) (defScope s_l_is_whole) .none kV24 dc24 pm24 an24 cd24 ct24), sl24⟩) (c24 : PySem.W.codeIn K cd24 "_law_is_whole" = true) (k24 : PySem.W.keepIn K (.ref f24) = true)
    {f25 : Addr} {od25 an25 : Option Addr} {sl25 : Array (Option Value)} {oc25 kV25 dc25 pm25 cd25 ct25 : Value}
    (a25 : PySem.W.nsIn K mainGlobals "law" = some (some (.ref f25)))
    (l25 : K.lookup f25 = some ⟨oc25, od25, .func (PySem.W.fnOf "law" "law" (defArgs s_law) (defBody s_law) (defScope s_law) .none kV25 dc25 pm25 an25 cd25 ct25), sl25⟩) (c25 : PySem.W.codeIn K cd25 "law" = true) (k25 : PySem.W.keepIn K (.ref f25) = true)
    (pg_Memory : PySem.W.plainGet K C_Memory Str.empty = true) (hd_Memory : PySem.W.hasDictIn K C_Memory = true) (po_Memory : PySem.W.plainOver K C_Memory = true) (sa_Memory : PySem.W.findIn K (.ref C_Memory) "__setattr__" = some (some (.builtin "object.__setattr__"))) (mk_Memory : PySem.W.makesIn K C_Memory = true) (kc_Memory : PySem.W.keepIn K (.ref C_Memory) = true)
    (n_Memory__cells : PySem.W.findIn K (.ref C_Memory) "_cells" = some none)
    (n_Memory__whole_writes : PySem.W.findIn K (.ref C_Memory) "_whole_writes" = some none)
    (n_Memory__has_power : PySem.W.findIn K (.ref C_Memory) "_has_power" = some none)
    (n_Memory__ahead : PySem.W.findIn K (.ref C_Memory) "_ahead" = some none)
    (n_Memory__torn : PySem.W.findIn K (.ref C_Memory) "_torn" = some none)
    (x_Stopped : PySem.W.excIn K C_Stopped [.type "ValueError", .type "Exception", .type "BaseException", .type "object"] "ValueError.__new__" = true) (kx_Stopped : PySem.W.keepIn K (.ref C_Stopped) = true) (bx_Stopped : PySem.W.subIn K (.ref C_Stopped) (.type "BaseException") = some true) (tx_Stopped : PySem.W.typeIn K (.ref C_Stopped) = some (.type "type"))
    (ix_Stopped : PySem.W.isClsIn K C_Stopped = true) (sx_Stopped : PySem.W.subIn K (.ref C_Stopped) (.ref C_Stopped) = some true)
    (z_enumerate : PySem.W.nsIn K mainGlobals "enumerate" = some none)
    (z_int : PySem.W.nsIn K mainGlobals "int" = some none)
    (z_len : PySem.W.nsIn K mainGlobals "len" = some none)
    (z_list : PySem.W.nsIn K mainGlobals "list" = some none)
    (z_max : PySem.W.nsIn K mainGlobals "max" = some none)
    (z_range : PySem.W.nsIn K mainGlobals "range" = some none)
    (z_sum : PySem.W.nsIn K mainGlobals "sum" = some none)
    (z_tuple : PySem.W.nsIn K mainGlobals "tuple" = some none)
    {t_BOOK_CELLS : Tok} (y_BOOK_CELLS : PySem.W.nsIn K mainGlobals "BOOK_CELLS" = some (some (.int 12 t_BOOK_CELLS)))
    {t_GREATEST_WORTH : Tok} (y_GREATEST_WORTH : PySem.W.nsIn K mainGlobals "GREATEST_WORTH" = some (some (.int 9972 t_GREATEST_WORTH)))
    {t_LATEST_CUT : Tok} (y_LATEST_CUT : PySem.W.nsIn K mainGlobals "LATEST_CUT" = some (some (.int 100000 t_LATEST_CUT)))
    {t_MOST_CELLS : Tok} (y_MOST_CELLS : PySem.W.nsIn K mainGlobals "MOST_CELLS" = some (some (.int 400 t_MOST_CELLS)))
    {t_PAGE_CELLS : Tok} (y_PAGE_CELLS : PySem.W.nsIn K mainGlobals "PAGE_CELLS" = some (some (.int 6 t_PAGE_CELLS)))
    {t_RESTS_BY : Tok} (y_RESTS_BY : PySem.W.nsIn K mainGlobals "RESTS_BY" = some (some (.int 9973 t_RESTS_BY)))
    {t_SUMMED_CELLS : Tok} (y_SUMMED_CELLS : PySem.W.nsIn K mainGlobals "SUMMED_CELLS" = some (some (.int 4 t_SUMMED_CELLS)))
    {t_TORN : Addr} (y_TORN : PySem.W.nsIn K mainGlobals "TORN" = some (some (.ref t_TORN))) {od_TORN : Option Addr} {nn_TORN : Nat} {ss_TORN : Array (Option Value)} {u_TORN0 u_TORN1 u_TORN2 : Tok} (lt_TORN : K.lookup t_TORN = some ⟨.type "tuple", od_TORN, .seq #[.str "old" u_TORN0, .str "broken" u_TORN1, .str "new" u_TORN2] nn_TORN, ss_TORN⟩)
    : ∃ fd : FuncData, (∀ (s : Shared) (v : Value), BindsTo s fd ⟨[v], []⟩ [("_law_script", v)]) ∧ ∀ base : Heap, K.In base → base.Ns mainGlobals mg → FnOk l.prog w K mg base CX0 7 fa fd ["_law_script"] (spLaw K) := by
  have e := hfa.symm.trans (PySem.W.mg_of X G a25)
  cases e
  have F1 := fun_mk (st := s_check_worth) l1 c1 k1
  have b1 := F1.binds (ps := P_check_worth) fun _ _ _ _ _ _ us hl => match us, hl with | [_], _ => rfl
  have F2 := fun_mk (st := s_Memory___init__) l2 c2 k2
  have b2 := F2.binds (ps := P_Memory___init__) fun _ _ _ _ _ _ us hl => match us, hl with | [_, _], _ => rfl
  have F3 := fun_mk (st := s_Memory_row) l3 c3 k3
  have b3 := F3.binds (ps := P_Memory_row) fun _ _ _ _ _ _ us hl => match us, hl with | [_, _, _], _ => rfl
  have F4 := fun_mk (st := s_Memory_write) l4 c4 k4
  have b4 := F4.binds (ps := P_Memory_write) fun _ _ _ _ _ _ us hl => match us, hl with | [_, _, _], _ => rfl
  have F5 := fun_mk (st := s_Memory_cut) l5 c5 k5
  have b5 := F5.binds (ps := P_Memory_cut) fun _ _ _ _ _ _ us hl => match us, hl with | [_, _, _], _ => rfl
  have F6 := fun_mk (st := s_Memory_up) l6 c6 k6
  have b6 := F6.binds (ps := P_Memory_up) fun _ _ _ _ _ _ us hl => match us, hl with | [_], _ => rfl
  have F7 := fun_mk (st := s_Memory_cells) l7 c7 k7
  have b7 := F7.binds (ps := P_Memory_cells) fun _ _ _ _ _ _ us hl => match us, hl with | [_], _ => rfl
  have F8 := fun_mk (st := s_Memory__check_place) l8 c8 k8
  have b8 := F8.binds (ps := P_Memory__check_place) fun _ _ _ _ _ _ us hl => match us, hl with | [_, _], _ => rfl
  have F9 := fun_mk (st := s_Memory__check_power) l9 c9 k9
  have b9 := F9.binds (ps := P_Memory__check_power) fun _ _ _ _ _ _ us hl => match us, hl with | [_], _ => rfl
  have F10 := fun_mk (st := s_Memory__lose_power) l10 c10 k10
  have b10 := F10.binds (ps := P_Memory__lose_power) fun _ _ _ _ _ _ us hl => match us, hl with | [_, _, _], _ => rfl
  have F11 := fun_mk (st := s_check_handed) l11 c11 k11
  have b11 := F11.binds (ps := P_check_handed) fun _ _ _ _ _ _ us hl => match us, hl with | [_, _, _, _], _ => rfl
  have F12 := fun_mk (st := s_sums) l12 c12 k12
  have b12 := F12.binds (ps := P_sums) fun _ _ _ _ _ _ us hl => match us, hl with | [_], _ => rfl
  have F13 := fun_mk (st := s_record) l13 c13 k13
  have b13 := F13.binds (ps := P_record) fun _ _ _ _ _ _ us hl => match us, hl with | [_, _], _ => rfl
  have F14 := fun_mk (st := s_note) l14 c14 k14
  have b14 := F14.binds (ps := P_note) fun _ _ _ _ _ _ us hl => match us, hl with | [_, _, _], _ => rfl
  have F15 := fun_mk (st := s_both_pages) l15 c15 k15
  have b15 := F15.binds (ps := P_both_pages) fun _ _ _ _ _ _ us hl => match us, hl with | [_, _], _ => rfl
  have F16 := fun_mk (st := s_number_of) l16 c16 k16
  have b16 := F16.binds (ps := P_number_of) fun _ _ _ _ _ _ us hl => match us, hl with | [_], _ => rfl
  have F17 := fun_mk (st := s_newest_of) l17 c17 k17
  have b17 := F17.binds (ps := P_newest_of) fun _ _ _ _ _ _ us hl => match us, hl with | [_], _ => rfl
  have F18 := fun_mk (st := s_page_to_write) l18 c18 k18
  have b18 := F18.binds (ps := P_page_to_write) fun _ _ _ _ _ _ us hl => match us, hl with | [_], _ => rfl
  have F19 := fun_mk (st := s_l_taken) l19 c19 k19
  have b19 := F19.binds (ps := P_l_taken) fun _ _ _ _ _ _ us hl => match us, hl with | [_, _], _ => rfl
  have F20 := fun_mk (st := s_l_sums) l20 c20 k20
  have b20 := F20.binds (ps := P_l_sums) fun _ _ _ _ _ _ us hl => match us, hl with | [_], _ => rfl
  have F21 := fun_mk (st := s_l_newest) l21 c21 k21
  have b21 := F21.binds (ps := P_l_newest) fun _ _ _ _ _ _ us hl => match us, hl with | [_, _], _ => rfl
  have F22 := fun_mk (st := s_l_noted) l22 c22 k22
  have b22 := F22.binds (ps := P_l_noted) fun _ _ _ _ _ _ us hl => match us, hl with | [_, _, _], _ => rfl
  have F23 := fun_mk (st := s_l_stopped) l23 c23 k23
  have b23 := F23.binds (ps := P_l_stopped) fun _ _ _ _ _ _ us hl => match us, hl with | [_, _, _, _], _ => rfl
  have F24 := fun_mk (st := s_l_is_whole) l24 c24 k24
  have b24 := F24.binds (ps := P_l_is_whole) fun _ _ _ _ _ _ us hl => match us, hl with | [_, _], _ => rfl
  have F25 := fun_mk (st := s_law) l25 c25 k25
  have b25 := F25.binds (ps := P_law) fun _ _ _ _ _ _ us hl => match us, hl with | [_], _ => rfl
  have T : Top K mg ⟨f1, _, f2, _, f3, _, f4, _, f5, _, f6, _, f7, _, f8, _, f9, _, f10, _, f11, _, f12, _, f13, _, f14, _, f15, _, f16, _, f17, _, f18, _, f19, _, f20, _, f21, _, f22, _, f23, _, f24, _, _, _, t_BOOK_CELLS, t_GREATEST_WORTH, t_LATEST_CUT, t_MOST_CELLS, t_PAGE_CELLS, t_RESTS_BY, t_SUMMED_CELLS, t_TORN, C_Memory, C_Stopped⟩ := ⟨F1, b1, PySem.W.mg_of X G a1, F2, b2, ⟨mk_Memory, a2, i2, kc_Memory⟩, F3, b3, ⟨a3, i3, k3⟩, F4, b4, ⟨a4, i4, k4⟩, F5, b5, ⟨a5, i5, k5⟩, F6, b6, ⟨a6, i6, k6⟩, F7, b7, ⟨a7, i7, k7⟩, F8, b8, ⟨a8, i8, k8⟩, F9, b9, ⟨a9, i9, k9⟩, F10, b10, ⟨a10, i10, k10⟩, F11, b11, PySem.W.mg_of X G a11, F12, b12, PySem.W.mg_of X G a12, F13, b13, PySem.W.mg_of X G a13, F14, b14, PySem.W.mg_of X G a14, F15, b15, PySem.W.mg_of X G a15, F16, b16, PySem.W.mg_of X G a16, F17, b17, PySem.W.mg_of X G a17, F18, b18, PySem.W.mg_of X G a18, F19, b19, PySem.W.mg_of X G a19, F20, b20, PySem.W.mg_of X G a20, F21, b21, PySem.W.mg_of X G a21, F22, b22, PySem.W.mg_of X G a22, F23, b23, PySem.W.mg_of X G a23, F24, b24, PySem.W.mg_of X G a24, F25, b25, PySem.W.mg_of X G a25, ⟨pg_Memory, hd_Memory, po_Memory, sa_Memory⟩, PySem.W.mg_of X G a_Memory, n_Memory__cells, n_Memory__whole_writes, n_Memory__has_power, n_Memory__ahead, n_Memory__torn, PySem.W.mg_of X G a_Stopped, x_Stopped, kx_Stopped, bx_Stopped, tx_Stopped, (exm_self bx_Stopped ix_Stopped tx_Stopped sx_Stopped), PySem.W.mg_none_of X G z_enumerate, PySem.W.mg_none_of X G z_int, PySem.W.mg_none_of X G z_len, PySem.W.mg_none_of X G z_list, PySem.W.mg_none_of X G z_max, PySem.W.mg_none_of X G z_range, PySem.W.mg_none_of X G z_sum, PySem.W.mg_none_of X G z_tuple, PySem.W.mg_of X G y_BOOK_CELLS, PySem.W.mg_of X G y_GREATEST_WORTH, PySem.W.mg_of X G y_LATEST_CUT, PySem.W.mg_of X G y_MOST_CELLS, PySem.W.mg_of X G y_PAGE_CELLS, PySem.W.mg_of X G y_RESTS_BY, PySem.W.mg_of X G y_SUMMED_CELLS, PySem.W.mg_of X G y_TORN, (fun _ => .inr ⟨_, _, _, lt_TORN, rfl, rfl, Dw.sz_ rfl, (.cons ⟨_, rfl⟩ (.cons ⟨_, rfl⟩ (.cons ⟨_, rfl⟩ .nil)))⟩)⟩
  exact ⟨PySem.W.fnOf "law" "law" (defArgs s_law) (defBody s_law) (defScope s_law) .none kV25 dc25 pm25 an25 cd25 ct25, fun s v => .of_eq rfl, fun base _ _ => G_law T⟩
end K08
open PySem PySem.W PyProof.Rows
set_option maxRecDepth 100000 in
set_option maxHeartbeats 0 in
theorem PySem.Challenge.cw_twoimages_k08_whole_the_elder_or_the_new_holds : PySem.Challenge.rw_twoimages_k08_whole_the_elder_or_the_new.Holds := by
  w_on; o_law; k_head; (case hw => w_witness2)
  k_fill
  refine L2.walk_of (l := PySem.Challenge.rw_twoimages_k08_whole_the_elder_or_the_new) (n := 63) (k := 7) (x := "_law_script") (CX := fun _ => L2.CX0) (sp := fun w => K08.spLaw _) rfl (by decide) rfl ⟨rfl, by decide, by decide⟩ (fun w h Y => PySem.W.kIn_of Y) ?F (fun _ _ a ns hl _ hS => ⟨a, ns, rfl, hS, hl, fun _ => rfl⟩) (fun _ _ _ _ _ h => h)
  case F =>
    intro w mg fa h KX G hmg
    refine' K08.all_mk KX G hmg ?a_Memory ?a_Stopped ?a1 ?l1 ?c1 ?k1 ?a2 ?i2 ?l2 ?c2 ?k2 ?a3 ?i3 ?l3 ?c3 ?k3 ?a4 ?i4 ?l4 ?c4 ?k4 ?a5 ?i5 ?l5 ?c5 ?k5 ?a6 ?i6 ?l6 ?c6 ?k6 ?a7 ?i7 ?l7 ?c7 ?k7 ?a8 ?i8 ?l8 ?c8 ?k8 ?a9 ?i9 ?l9 ?c9 ?k9 ?a10 ?i10 ?l10 ?c10 ?k10 ?a11 ?l11 ?c11 ?k11 ?a12 ?l12 ?c12 ?k12 ?a13 ?l13 ?c13 ?k13 ?a14 ?l14 ?c14 ?k14 ?a15 ?l15 ?c15 ?k15 ?a16 ?l16 ?c16 ?k16 ?a17 ?l17 ?c17 ?k17 ?a18 ?l18 ?c18 ?k18 ?a19 ?l19 ?c19 ?k19 ?a20 ?l20 ?c20 ?k20 ?a21 ?l21 ?c21 ?k21 ?a22 ?l22 ?c22 ?k22 ?a23 ?l23 ?c23 ?k23 ?a24 ?l24 ?c24 ?k24 ?a25 ?l25 ?c25 ?k25 ?pg_Memory ?hd_Memory ?po_Memory ?sa_Memory ?mk_Memory ?kc_Memory ?n_Memory__cells ?n_Memory__whole_writes ?n_Memory__has_power ?n_Memory__ahead ?n_Memory__torn ?x_Stopped ?kx_Stopped ?bx_Stopped ?tx_Stopped ?ix_Stopped ?sx_Stopped ?z_enumerate ?z_int ?z_len ?z_list ?z_max ?z_range ?z_sum ?z_tuple ?y_BOOK_CELLS ?y_GREATEST_WORTH ?y_LATEST_CUT ?y_MOST_CELLS ?y_PAGE_CELLS ?y_RESTS_BY ?y_SUMMED_CELLS ?y_TORN ?lt_TORN
    (case a_Memory => k_is); (case a_Stopped => k_is); (case a1 => k_is); (case l1 => k_is); (case c1 => k_is); (case k1 => k_is); (case a2 => k_is); (case i2 => k_is); (case l2 => k_is); (case c2 => k_is); (case k2 => k_is); (case a3 => k_is); (case i3 => k_is); (case l3 => k_is); (case c3 => k_is); (case k3 => k_is); (case a4 => k_is); (case i4 => k_is); (case l4 => k_is); (case c4 => k_is); (case k4 => k_is); (case a5 => k_is); (case i5 => k_is); (case l5 => k_is); (case c5 => k_is); (case k5 => k_is); (case a6 => k_is); (case i6 => k_is); (case l6 => k_is); (case c6 => k_is); (case k6 => k_is); (case a7 => k_is); (case i7 => k_is); (case l7 => k_is); (case c7 => k_is); (case k7 => k_is); (case a8 => k_is); (case i8 => k_is); (case l8 => k_is); (case c8 => k_is); (case k8 => k_is); (case a9 => k_is); (case i9 => k_is); (case l9 => k_is); (case c9 => k_is); (case k9 => k_is); (case a10 => k_is); (case i10 => k_is); (case l10 => k_is); (case c10 => k_is); (case k10 => k_is); (case a11 => k_is); (case l11 => k_is); (case c11 => k_is); (case k11 => k_is); (case a12 => k_is); (case l12 => k_is); (case c12 => k_is); (case k12 => k_is); (case a13 => k_is); (case l13 => k_is); (case c13 => k_is); (case k13 => k_is); (case a14 => k_is); (case l14 => k_is); (case c14 => k_is); (case k14 => k_is); (case a15 => k_is); (case l15 => k_is); (case c15 => k_is); (case k15 => k_is); (case a16 => k_is); (case l16 => k_is); (case c16 => k_is); (case k16 => k_is); (case a17 => k_is); (case l17 => k_is); (case c17 => k_is); (case k17 => k_is); (case a18 => k_is); (case l18 => k_is); (case c18 => k_is); (case k18 => k_is); (case a19 => k_is); (case l19 => k_is); (case c19 => k_is); (case k19 => k_is); (case a20 => k_is); (case l20 => k_is); (case c20 => k_is); (case k20 => k_is); (case a21 => k_is); (case l21 => k_is); (case c21 => k_is); (case k21 => k_is); (case a22 => k_is); (case l22 => k_is); (case c22 => k_is); (case k22 => k_is); (case a23 => k_is); (case l23 => k_is); (case c23 => k_is); (case k23 => k_is); (case a24 => k_is); (case l24 => k_is); (case c24 => k_is); (case k24 => k_is); (case a25 => k_is); (case l25 => k_is); (case c25 => k_is); (case k25 => k_is); (case pg_Memory => k_is); (case hd_Memory => k_is); (case po_Memory => k_is); (case sa_Memory => k_is); (case mk_Memory => k_is); (case kc_Memory => k_is); (case n_Memory__cells => k_is); (case n_Memory__whole_writes => k_is); (case n_Memory__has_power => k_is); (case n_Memory__ahead => k_is); (case n_Memory__torn => k_is); (case x_Stopped => k_exc); (case kx_Stopped => k_is); (case bx_Stopped => k_is); (case tx_Stopped => k_is); (case ix_Stopped => k_is); (case sx_Stopped => k_is); (case z_enumerate => k_is); (case z_int => k_is); (case z_len => k_is); (case z_list => k_is); (case z_max => k_is); (case z_range => k_is); (case z_sum => k_is); (case z_tuple => k_is); (case y_BOOK_CELLS => k_is); (case y_GREATEST_WORTH => k_is); (case y_LATEST_CUT => k_is); (case y_MOST_CELLS => k_is); (case y_PAGE_CELLS => k_is); (case y_RESTS_BY => k_is); (case y_SUMMED_CELLS => k_is); (case y_TORN => k_is); (case lt_TORN => k_is)

