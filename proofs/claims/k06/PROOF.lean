import PyProof.Rows.All
import Wide.All
import OpenK.AllK
import Wide.FinOn
import HandS.ForMost
import HandS.Codes
import HandS.IsInst
import HandS.ForExc
import HandS.SortKw
import HandS.Flow
import KE.DataMinMax
import PySem.Challenge.RW_twoimages_k06_whole_a_counter_never_goes
set_option Elab.async false
set_option linter.all false
set_option autoImplicit false
set_option maxRecDepth 100000
/-! the mathematics of sums and seals: plain lists of ints -/
namespace Sm
def step (p : Int × Int) (x : Int) : Int × Int := ((p.1 + x + 1) % 9973, (p.2 + (p.1 + x + 1) % 9973) % 9973)
def sumsI (xs : List Int) : Int × Int := xs.foldl step (0, 0)
def sl (k t x : Int) : Int := (t * k + x + 1) % 9973
def sealI (k : Int) (xs : List Int) : Int := xs.foldl (sl k) k
/-- the weights -/
def w1 : List Int → Int
  | [] => 0
  | x :: r => (x + 1) + w1 r
def w2 : List Int → Int
  | [] => 0
  | x :: r => ((r.length : Int) + 1) * (x + 1) + w2 r
theorem fold_w : ∀ (xs : List Int) (a b : Int), xs.foldl step (a % 9973, b % 9973) = ((a + w1 xs) % 9973, (b + (xs.length : Int) * a + w2 xs) % 9973)
  | [], a, b => by simp [w1, w2]
  | x :: r, a, b => by
    have e : step (a % 9973, b % 9973) x = ((a + (x + 1)) % 9973, (b + (a + (x + 1))) % 9973) := by
      unfold step
      simp only
      refine Prod.ext ?_ ?_
      · show (a % 9973 + x + 1) % 9973 = (a + (x + 1)) % 9973
        omega
      · show (b % 9973 + (a % 9973 + x + 1) % 9973) % 9973 = (b + (a + (x + 1))) % 9973
        omega
    rw [List.foldl_cons, e, fold_w r]
    refine Prod.ext ?_ ?_
    · show (a + (x + 1) + w1 r) % 9973 = (a + ((x + 1) + w1 r)) % 9973
      congr 1
      omega
    · show (b + (a + (x + 1)) + (r.length : Int) * (a + (x + 1)) + w2 r) % 9973 = (b + ((x :: r).length : Int) * a + (((r.length : Int) + 1) * (x + 1) + w2 r)) % 9973
      congr 1
      rw [List.length_cons]
      have e1 : ((r.length + 1 : Nat) : Int) * a = (r.length : Int) * a + a := by
        rw [Int.natCast_add, Int.add_mul]
        simp
      have e2 : ((r.length : Int) + 1) * (x + 1) = (r.length : Int) * (x + 1) + (x + 1) := by
        rw [Int.add_mul, Int.one_mul]
      have e3 : (r.length : Int) * (a + (x + 1)) = (r.length : Int) * a + (r.length : Int) * (x + 1) := Int.mul_add _ _ _
      rw [e1, e2, e3]
      omega
theorem sums_w (xs : List Int) : sumsI xs = (w1 xs % 9973, w2 xs % 9973) := by
  have h := fold_w xs 0 0
  unfold sumsI
  rw [show ((0 : Int), (0 : Int)) = (0 % 9973, 0 % 9973) from rfl, h]
  refine Prod.ext ?_ ?_
  · show (0 + w1 xs) % 9973 = _
    rw [Int.zero_add]
  · show (0 + (xs.length : Int) * 0 + w2 xs) % 9973 = _
    rw [Int.mul_zero, Int.add_zero, Int.zero_add]
/-- a number put at a place: what the weights become -/
theorem w1_set : ∀ (xs : List Int) (i : Nat) (x y : Int), xs[i]? = some x → w1 (xs.set i y) = w1 xs + (y - x)
  | [], i, x, y, h => by simp at h
  | a :: r, 0, x, y, h => by
    have e : a = x := by simpa using h
    subst e
    show (y + 1) + w1 r = (a + 1) + w1 r + (y - a)
    omega
  | a :: r, i + 1, x, y, h => by
    have ih := w1_set r i x y (by simpa using h)
    show (a + 1) + w1 (r.set i y) = (a + 1) + w1 r + (y - x)
    omega
theorem w2_set : ∀ (xs : List Int) (i : Nat) (x y : Int), xs[i]? = some x → w2 (xs.set i y) = w2 xs + ((xs.length : Int) - i) * (y - x)
  | [], i, x, y, h => by simp at h
  | a :: r, 0, x, y, h => by
    have e : a = x := by simpa using h
    subst e
    show ((r.length : Int) + 1) * (y + 1) + w2 r = ((r.length : Int) + 1) * (a + 1) + w2 r + ((((a :: r).length : Nat) : Int) - ((0 : Nat) : Int)) * (y - a)
    rw [List.length_cons, show (((r.length + 1 : Nat)) : Int) - ((0 : Nat) : Int) = (r.length : Int) + 1 by omega]
    rw [Int.mul_sub, Int.mul_add, Int.mul_add]
    omega
  | a :: r, i + 1, x, y, h => by
    have ih := w2_set r i x y (by simpa using h)
    show (((r.set i y).length : Int) + 1) * (a + 1) + w2 (r.set i y) = ((r.length : Int) + 1) * (a + 1) + w2 r + ((((a :: r).length : Nat) : Int) - ((i + 1 : Nat) : Int)) * (y - x)
    rw [List.length_set, List.length_cons, show (((r.length + 1 : Nat)) : Int) - ((i + 1 : Nat) : Int) = (r.length : Int) - i by omega, ih]
    omega
/-! the prime -/
def chk : Nat → Bool
  | 0 => true
  | k + 1 => (Nat.gcd (k + 1) 9973 == 1) && chk k
theorem chk_ok : chk 9972 = true := by decide +kernel
theorem chk_at : ∀ n k : Nat, chk n = true → 0 < k → k ≤ n → Nat.gcd k 9973 = 1
  | 0, k, _, h0, h1 => by omega
  | n + 1, k, h, h0, h1 => by
    unfold chk at h
    rw [Bool.and_eq_true] at h
    by_cases e : k = n + 1
    · subst e
      exact eq_of_beq h.1
    · exact chk_at n k h.2 h0 (by omega)
theorem cop_small (k : Nat) (h : k < 9973) : k = 0 ∨ Nat.gcd k 9973 = 1 := by
  by_cases e : k = 0
  · exact .inl e
  · exact .inr (chk_at 9972 k chk_ok (by omega) (by omega))
theorem dvd_small {k : Nat} (h0 : 0 < k) (h1 : k < 9973) {m : Nat} (h : 9973 ∣ k * m) : 9973 ∣ m := by
  have g : Nat.gcd 9973 k = 1 := by
    rw [Nat.gcd_comm]
    rcases cop_small k h1 with e | e
    · omega
    · exact e
  exact Nat.Coprime.dvd_of_dvd_mul_left (n := m) (m := k) (k := 9973) g h
/-- a product of a small factor that isn't nought and a small difference is no multiple -/
theorem no_mult {c d : Int} (hc0 : c ≠ 0) (hc1 : -9973 < c) (hc2 : c < 9973) (hd1 : -9973 < d) (hd2 : d < 9973) (h : (c * d) % 9973 = 0) : d = 0 := by
  have h1 : (9973 : Int) ∣ c * d := Int.dvd_of_emod_eq_zero h
  have h2 : 9973 ∣ c.natAbs * d.natAbs := by
    rw [← Int.natAbs_mul]
    exact Int.natAbs_dvd_natAbs.mpr h1
  have h3 : 9973 ∣ d.natAbs := dvd_small (by omega) (by omega) h2
  have h4 : d.natAbs = 0 := Nat.eq_zero_of_dvd_of_lt h3 (by omega)
  omega
/-- one number changed -/
theorem one_ne {xs : List Int} {i : Nat} {x y : Int} (h : xs[i]? = some x) (hne : y ≠ x) (hx : 0 ≤ x ∧ x < 9973) (hy : 0 ≤ y ∧ y < 9973) : sumsI (xs.set i y) ≠ sumsI xs := by
  intro e
  rw [sums_w, sums_w] at e
  have e1 : w1 (xs.set i y) % 9973 = w1 xs % 9973 := congrArg Prod.fst e
  rw [w1_set xs i x y h] at e1
  omega
/-- two numbers changed -/
theorem two_ne {xs : List Int} {i j : Nat} {x y u v : Int} (h : xs[i]? = some x) (hij : i ≠ j) (h' : xs[j]? = some u) (hl : xs.length ≤ 1000) (hne : y ≠ x) (hx : 0 ≤ x ∧ x < 9973) (hy : 0 ≤ y ∧ y < 9973) (hu : 0 ≤ u ∧ u < 9973) (hv : 0 ≤ v ∧ v < 9973) :
    sumsI ((xs.set i y).set j v) ≠ sumsI xs := by
  intro e
  have hi : i < xs.length := (List.getElem?_eq_some_iff.mp h).1
  have hj : j < xs.length := (List.getElem?_eq_some_iff.mp h').1
  have h2 : (xs.set i y)[j]? = some u := by
    rw [List.getElem?_set_ne hij]
    exact h'
  rw [sums_w, sums_w] at e
  have e1 : w1 ((xs.set i y).set j v) % 9973 = w1 xs % 9973 := congrArg Prod.fst e
  have e2 : w2 ((xs.set i y).set j v) % 9973 = w2 xs % 9973 := congrArg Prod.snd e
  rw [w1_set _ j u v h2, w1_set xs i x y h] at e1
  rw [w2_set _ j u v h2, w2_set xs i x y h, List.length_set] at e2
  -- the differences
  have hd : ∃ q : Int, (v - u) = 9973 * q - (y - x) := ⟨((y - x) + (v - u)) / 9973, by omega⟩
  obtain ⟨q, hq⟩ := hd
  rw [hq] at e2
  have e3 : ((xs.length : Int) - i) * (y - x) + ((xs.length : Int) - j) * (9973 * q - (y - x)) = ((j : Int) - i) * (y - x) + 9973 * (((xs.length : Int) - j) * q) := by
    have a1 : ((xs.length : Int) - j) * (9973 * q - (y - x)) = 9973 * (((xs.length : Int) - j) * q) - ((xs.length : Int) - j) * (y - x) := by
      rw [Int.mul_sub, Int.mul_left_comm]
    have a2 : ((xs.length : Int) - i) * (y - x) = ((xs.length : Int) - j) * (y - x) + ((j : Int) - i) * (y - x) := by
      rw [← Int.add_mul]
      congr 1
      omega
    rw [a1, a2]
    omega
  have e4 : (((j : Int) - i) * (y - x)) % 9973 = 0 := by
    rw [Int.add_assoc, e3] at e2
    omega
  have := no_mult (c := (j : Int) - i) (d := y - x) (by omega) (by omega) (by omega) (by omega) (by omega) e4
  omega
/-! the seal -/
theorem sl_range (k t x : Int) : 0 ≤ sl k t x ∧ sl k t x < 9973 := by
  unfold sl
  omega
theorem seal_range : ∀ (k : Int) (xs : List Int) (t : Int), (0 ≤ t ∧ t < 9973) → 0 ≤ xs.foldl (sl k) t ∧ xs.foldl (sl k) t < 9973
  | _, [], _, h => h
  | k, x :: r, t, _ => seal_range k r (sl k t x) (sl_range k t x)
theorem sl_inj {k t u x : Int} (hk : 1 ≤ k ∧ k < 9973) (ht : 0 ≤ t ∧ t < 9973) (hu : 0 ≤ u ∧ u < 9973) (h : sl k t x = sl k u x) : t = u := by
  unfold sl at h
  have e : (k * (t - u)) % 9973 = 0 := by
    rw [Int.mul_sub, Int.mul_comm k t, Int.mul_comm k u]
    omega
  have := no_mult (c := k) (d := t - u) (by omega) (by omega) (by omega) (by omega) (by omega) e
  omega
theorem fold_ne {k : Int} (hk : 1 ≤ k ∧ k < 9973) : ∀ (xs : List Int) (t u : Int), (0 ≤ t ∧ t < 9973) → (0 ≤ u ∧ u < 9973) → t ≠ u → xs.foldl (sl k) t ≠ xs.foldl (sl k) u
  | [], _, _, _, _, h => h
  | x :: r, t, u, ht, hu, h => fold_ne hk r _ _ (sl_range k t x) (sl_range k u x) fun e => h (sl_inj hk ht hu e)
theorem fold_set_ne {k : Int} (hk : 1 ≤ k ∧ k < 9973) : ∀ (xs : List Int) (i : Nat) (t x y : Int), (0 ≤ t ∧ t < 9973) → xs[i]? = some x → y ≠ x → (0 ≤ x ∧ x < 9973) → (0 ≤ y ∧ y < 9973) → (xs.set i y).foldl (sl k) t ≠ xs.foldl (sl k) t
  | [], i, t, x, y, _, h, _, _, _ => by simp at h
  | a :: r, 0, t, x, y, ht, h, hne, hx, hy => by
    have e : a = x := by simpa using h
    subst e
    refine fold_ne hk r _ _ (sl_range k t y) (sl_range k t a) fun e => ?_
    unfold sl at e
    omega
  | a :: r, i + 1, t, x, y, ht, h, hne, hx, hy => fold_set_ne hk r i (sl k t a) x y (sl_range k t a) (by simpa using h) hne hx hy
theorem seal_ne {k : Int} (hk : 1 ≤ k ∧ k < 9973) {xs : List Int} {i : Nat} {x y : Int} (h : xs[i]? = some x) (hne : y ≠ x) (hx : 0 ≤ x ∧ x < 9973) (hy : 0 ≤ y ∧ y < 9973) : sealI k (xs.set i y) ≠ sealI k xs :=
  fold_set_ne hk xs i k x y (by omega) h hne hx hy
theorem set_self {xs : List Int} {i : Nat} {x : Int} (h : xs[i]? = some x) : xs.set i x = xs := by
  refine List.ext_getElem? fun j => ?_
  by_cases e : i = j
  · subst e
    rw [List.getElem?_set_self (List.getElem?_eq_some_iff.mp h).1, h]
  · rw [List.getElem?_set_ne e]
/-- two unlike numbers exchanged -/
theorem swap_ne {xs : List Int} {i j : Nat} {x u : Int} (h : xs[i]? = some x) (h' : xs[j]? = some u) (hl : xs.length ≤ 1000) (hx : 0 ≤ x ∧ x < 9973) (hu : 0 ≤ u ∧ u < 9973) (hne : (xs.set i u).set j x ≠ xs) :
    sumsI ((xs.set i u).set j x) ≠ sumsI xs := by
  have hxu : u ≠ x := fun e => hne (by
    subst e
    rw [set_self h, set_self h'])
  have hij : i ≠ j := fun e => by
    subst e
    rw [h] at h'
    exact hxu (Option.some.inj h').symm
  exact two_ne h hij h' hl hxu hx hu hu hx
/-! sums and seals reckoned otherwise -/
theorem drop_at {xs : List Int} {i : Nat} {x : Int} (h : xs[i]? = some x) : xs.drop i = x :: xs.drop (i + 1) := by
  obtain ⟨hi, e⟩ := List.getElem?_eq_some_iff.mp h
  rw [List.drop_eq_getElem_cons hi, e]
theorem w1_drop {xs : List Int} {i : Nat} {x : Int} (h : xs[i]? = some x) : w1 (xs.drop i) = (x + 1) + w1 (xs.drop (i + 1)) := by
  rw [drop_at h]
  rfl
theorem w2_drop {xs : List Int} {i : Nat} {x : Int} (h : xs[i]? = some x) : w2 (xs.drop i) = ((xs.length : Int) - i) * (x + 1) + w2 (xs.drop (i + 1)) := by
  have hi := (List.getElem?_eq_some_iff.mp h).1
  rw [drop_at h]
  show (((xs.drop (i + 1)).length : Int) + 1) * (x + 1) + w2 (xs.drop (i + 1)) = _
  rw [List.length_drop]
  congr 2
  omega
theorem w1_append : ∀ (u c : List Int), w1 (u ++ c) = w1 u + w1 c
  | [], c => by simp [w1]
  | x :: r, c => by
    show (x + 1) + w1 (r ++ c) = (x + 1) + w1 r + w1 c
    rw [w1_append r c]
    omega
theorem w2_append : ∀ (u c : List Int), w2 (u ++ c) = w2 u + (c.length : Int) * w1 u + w2 c
  | [], c => by simp [w1, w2]
  | x :: r, c => by
    show (((r ++ c).length : Int) + 1) * (x + 1) + w2 (r ++ c) = ((r.length : Int) + 1) * (x + 1) + w2 r + (c.length : Int) * ((x + 1) + w1 r) + w2 c
    rw [w2_append r c, List.length_append]
    have e1 : (((r.length + c.length : Nat) : Int) + 1) * (x + 1) = ((r.length : Int) + 1) * (x + 1) + (c.length : Int) * (x + 1) := by
      rw [← Int.add_mul]
      congr 1
      omega
    have e2 : (c.length : Int) * ((x + 1) + w1 r) = (c.length : Int) * (x + 1) + (c.length : Int) * w1 r := Int.mul_add _ _ _
    rw [e1, e2]
    omega
theorem mul_mod (a b c : Int) : (a % 9973 * b + c) % 9973 = (a * b + c) % 9973 := by
  have h := Int.emod_add_mul_ediv a 9973
  have e : a * b + c = (a % 9973 * b + c) + 9973 * (a / 9973 * b) := by
    have : a * b = a % 9973 * b + 9973 * (a / 9973 * b) := by
      rw [← Int.mul_assoc, ← Int.add_mul, h]
    omega
  rw [e, Int.add_mul_emod_self_left]
/-- a step of joined -/
def jst (p : Int × Int) (t : Int × Int × Int) : Int × Int := ((p.1 + t.1) % 9973, (p.2 + p.1 * t.2.2 + t.2.1) % 9973)
theorem jst_sums (u c : List Int) : jst (sumsI u) ((sumsI c).1, (sumsI c).2, (c.length : Int)) = sumsI (u ++ c) := by
  rw [sums_w, sums_w, sums_w, w1_append, w2_append]
  refine Prod.ext ?_ ?_
  · show (w1 u % 9973 + w1 c % 9973) % 9973 = (w1 u + w1 c) % 9973
    omega
  · show (w2 u % 9973 + w1 u % 9973 * (c.length : Int) + w2 c % 9973) % 9973 = (w2 u + (c.length : Int) * w1 u + w2 c) % 9973
    have h := mul_mod (w1 u) (c.length : Int) (w2 u + w2 c)
    rw [Int.mul_comm (c.length : Int)]
    omega
/-- a seal, from its end on -/
def hz (k : Int) : List Int → Int
  | [] => 0
  | x :: r => (x + 1) * k ^ r.length + hz k r
theorem fold_hz (k : Int) : ∀ (xs : List Int) (t : Int), (0 ≤ t ∧ t < 9973) → xs.foldl (sl k) t = (t * k ^ xs.length + hz k xs) % 9973
  | [], t, h => by
    show t = (t * k ^ 0 + 0) % 9973
    rw [Int.pow_zero, Int.mul_one]
    omega
  | x :: r, t, h => by
    have ih := fold_hz k r (sl k t x) (sl_range k t x)
    rw [List.foldl_cons, ih]
    show ((t * k + x + 1) % 9973 * k ^ r.length + hz k r) % 9973 = (t * k ^ (r.length + 1) + ((x + 1) * k ^ r.length + hz k r)) % 9973
    rw [mul_mod]
    congr 1
    rw [Int.pow_succ, Int.add_assoc (t * k), Int.add_mul, Int.mul_assoc t k, Int.mul_comm k, Int.add_assoc]
theorem seal_hz {k : Int} (hk : 1 ≤ k ∧ k < 9973) (xs : List Int) : (hz k xs + k * k ^ xs.length) % 9973 = sealI k xs := by
  unfold sealI
  rw [fold_hz k xs k (by omega), Int.add_comm]
theorem hz_drop {k : Int} {xs : List Int} {i : Nat} {x : Int} (h : xs[i]? = some x) : hz k (xs.drop i) = hz k (xs.drop (i + 1)) + (x + 1) * k ^ (xs.length - (i + 1)) := by
  rw [drop_at h]
  show (x + 1) * k ^ (xs.drop (i + 1)).length + hz k (xs.drop (i + 1)) = _
  rw [List.length_drop, Int.add_comm]
end Sm

set_option maxRecDepth 100000
/-! the law's row of drawn numbers; heaps -/
namespace Dw
open PySem PySem.Spec PyProof.Rows L2
/-- all but r stays -/
def Keep (r : Addr) (H H' : Hp) : Prop := ∀ b o, b ≠ r → H b = some o → H' b = some o
theorem Keep.refl (r : Addr) (H : Hp) : Keep r H H := fun _ _ _ h => h
theorem Keep.trans {r : Addr} {H H1 H2 : Hp} (a : Keep r H H1) (b : Keep r H1 H2) : Keep r H H2 := fun c o n h => b c o n (a c o n h)
theorem Keep.same {r : Addr} {H H' : Hp} (s : Same H H') : Keep r H H' := fun b o _ h => s b o h
theorem Keep.put {r : Addr} {H : Hp} {o : HO} : Keep r H (upd H r o) := fun b u n h => by
  rw [upd_ne n]
  exact h
theorem Keep.seq {K : PySem.W.Frag} {r c : Addr} {H H' : Hp} {xs : List V} (k : Keep r H H') (n : c ≠ r) (h : SqL K H c xs) : SqL K H' c xs := by
  rcases h with (h | ⟨o, h⟩) | h
  · exact .inl (.inl (k _ _ n h))
  · exact .inl (.inr ⟨o, k _ _ n h⟩)
  · exact .inr h
theorem same_upd {H : Hp} {p : Addr} {o : HO} (h : H p = none) : Same H (upd H p o) := fun b x e => by
  rw [upd_ne (ne_of_none e h)]
  exact e
theorem same_mut {H H' : Hp} {p : Addr} {o : HO} (s : Same H H') (h : H p = none) : Same H (upd H' p o) := fun b x e => by
  rw [upd_ne (ne_of_none e h)]
  exact s _ _ e
theorem sq_of {K : PySem.W.Frag} {H : Hp} {a : Addr} {xs : List V} (h : H a = some (.lst xs)) : SqL K H a xs := .inl (.inl h)
theorem st_of {K : PySem.W.Frag} {H : Hp} {a : Addr} {xs : List V} (h : H a = some (.tup xs)) : SqT K H a xs := .inl (.inl h)
/-- no table of code objects -/
def NT (o : HO) : Prop := ∀ ps, o ≠ .tbl ps
theorem NT.lst {xs : List V} : NT (.lst xs) := fun _ z => by cases z
theorem NT.tup {xs : List V} : NT (.tup xs) := fun _ z => by cases z
theorem NT.ins {C dx : Addr} {fs : List (Str × V)} : NT (.ins C dx fs) := fun _ z => by cases z
theorem NT.dK {kvs : List (Key × V)} : NT (.dK kvs) := fun _ z => by cases z
theorem NT.frz {o : Obj} {u : HO} : NT (.frz o u) := fun _ z => by cases z
/-- all that was tracked is as it was, but for tables -/
def SameN (H H' : Hp) : Prop := ∀ b o, NT o → H b = some o → H' b = some o
/-- nothing but a table stands there -/
def Fr0 (H : Hp) (p : Addr) : Prop := ∀ o, H p = some o → ¬ NT o
theorem Fr0.of {H : Hp} {p : Addr} (h : H p = none) : Fr0 H p := fun o e => by
  rw [h] at e
  cases e
theorem SameN.of {H H' : Hp} (s : Same H H') : SameN H H' := fun b o _ h => s b o h
theorem SameN.trans {H H1 H2 : Hp} (a : SameN H H1) (b : SameN H1 H2) : SameN H H2 := fun c o n h => b c o n (a c o n h)
theorem SameN.seq {K : PySem.W.Frag} {H H' : Hp} {a : Addr} {xs : List V} (e : SameN H H') (h : SqL K H a xs) : SqL K H' a xs := by
  rcases h with (h | ⟨o, h⟩) | h
  · exact .inl (.inl (e _ _ NT.lst h))
  · exact .inl (.inr ⟨o, e _ _ NT.frz h⟩)
  · exact .inr h
theorem SameN.free {H H' : Hp} {p : Addr} (e : SameN H H') (h : H' p = none) : Fr0 H p := fun o ho n => by
  rw [e p o n ho] at h
  cases h
theorem SameN.mut {H H' : Hp} {p : Addr} {o : HO} (s : SameN H H') (h : Fr0 H p) : SameN H (upd H' p o) := fun b u n e => by
  by_cases z : b = p
  · exact absurd n (h u (by rw [← z]; exact e))
  · rw [upd_ne z]
    exact s b u n e
/-- the row that numbers are drawn with stands at r; it was not there in H0, in which the script stands at a -/
structure Dr (K : PySem.W.Frag) (H0 : Hp) (ns : List Int) (a r : Addr) (H : Hp) : Prop where
  row : ∃ p q z : Int, H r = some (.lst [.ref a, .int p, .int q, .int z]) ∧ 0 ≤ p ∧ 0 ≤ q ∧ q < 2147483647
  scr : SqL K H0 a (ns.map V.int)
  same : SameN H0 H
  fresh : Fr0 H0 r
  len : ns.length ≤ 63
section
variable {K : PySem.W.Frag} {H0 : Hp} {ns : List Int} {a r p : Addr} {H H' : Hp} {o : HO}
theorem Dr.start (h : H r = none) (hS : SqL K H a (ns.map V.int)) (hl : ns.length ≤ 63) : Dr K H ns a r (upd H r (.lst [.ref a, .int 0, .int 0, .int 0])) :=
  ⟨⟨0, 0, 0, upd_same, by decide, by decide, by decide⟩, hS, .of (same_upd h), .of h, hl⟩
theorem Dr.seq (D : Dr K H0 ns a r H) : SqL K H a (ns.map V.int) := D.same.seq D.scr
theorem Dr.monoN (D : Dr K H0 ns a r H) (s : SameN H H') : Dr K H0 ns a r H' := by
  obtain ⟨p, q, z, h, b⟩ := D.row
  exact ⟨⟨p, q, z, s _ _ NT.lst h, b⟩, D.scr, D.same.trans s, D.fresh, D.len⟩
theorem Dr.mono (D : Dr K H0 ns a r H) (s : Same H H') : Dr K H0 ns a r H' := D.monoN (.of s)
theorem Dr.new (D : Dr K H0 ns a r H) (h : H p = none) : Dr K H0 ns a r (upd H p o) := D.mono (same_upd h)
theorem Dr.mut (D : Dr K H0 ns a r H) (n : p ≠ r) (h : Fr0 H0 p) : Dr K H0 ns a r (upd H p o) := by
  obtain ⟨i, q, z, e, b⟩ := D.row
  exact ⟨⟨i, q, z, by rw [upd_ne n.symm]; exact e, b⟩, D.scr, D.same.mut h, D.fresh, D.len⟩
theorem Dr.put (D : Dr K H0 ns a r H) {p q z : Int} (h0 : 0 ≤ p) (h1 : 0 ≤ q) (h2 : q < 2147483647) : Dr K H0 ns a r (upd H r (.lst [.ref a, .int p, .int q, .int z])) :=
  ⟨⟨p, q, z, upd_same, h0, h1, h2⟩, D.scr, D.same.mut D.fresh, D.fresh, D.len⟩
/-- what is new in H is not r -/
theorem Dr.ne (D : Dr K H0 ns a r H) (h : H p = none) : p ≠ r := by
  obtain ⟨_, _, _, e, _⟩ := D.row
  exact (ne_of_none e h).symm
theorem Dr.free (D : Dr K H0 ns a r H) (h : H p = none) : Fr0 H0 p := D.same.free h
/-- what may change elsewhere: places that hold nothing in H0, but for tables -/
theorem Dr.but {S : List Addr} (D : Dr K H0 ns a r H) (k : ∀ b o, b ∉ S → NT o → H b = some o → H' b = some o) (hr : r ∉ S) (h : ∀ b ∈ S, Fr0 H0 b) : Dr K H0 ns a r H' := by
  obtain ⟨i, q, z, e, b⟩ := D.row
  refine ⟨⟨i, q, z, k _ _ hr NT.lst e, b⟩, D.scr, fun c u n hu => ?_, D.fresh, D.len⟩
  by_cases m : c ∈ S
  · exact absurd n (h c m u hu)
  · exact k c u m n (D.same c u n hu)
end
/-- the promise of what draws a number below m -/
def spTaken (K : PySem.W.Frag) : Sp := fun vs H Q _ => ∃ (H0 : Hp) (ns : List Int) (a r : Addr) (m : Int), vs = [.ref r, .int m] ∧ Dr K H0 ns a r H ∧ 0 < m ∧ m < 1073741824 ∧
  ∀ (v : Int) (H' : Hp), Dr K H0 ns a r H' → Keep r H H' → 0 ≤ v → v < m → Q (.int v) H'
/-- the promise of what draws a number below a written m -/
def spDraw (m : Int) (K : PySem.W.Frag) : Sp := fun vs H Q _ => ∃ (H0 : Hp) (ns : List Int) (a r : Addr), vs = [.ref r] ∧ Dr K H0 ns a r H ∧
  ∀ (v : Int) (H' : Hp), Dr K H0 ns a r H' → Keep r H H' → 0 ≤ v → v < m → Q (.int v) H'
/-! ### data: numbers, None, lists of them -/
/-- what a cell holds: a number, or None -/
def cel : V → Bool
  | .int _ => true
  | .non => true
  | _ => false
def dat : V → PyData
  | .int i => .int i
  | .bl b => .bool b
  | .str x => .str x
  | _ => .none
theorem Dp.dat {K : PySem.W.Frag} {H : Hp} : ∀ {v : V}, cel v = true → Dp K H v (dat v)
  | .int i, _ => .int i
  | .non, _ => .non
theorem dpAll_dat {K : PySem.W.Frag} {H : Hp} : ∀ {xs : List V}, (∀ v ∈ xs, cel v = true) → DpAll K H xs (xs.map dat)
  | [], _ => .nil
  | x :: r, h => .cons (Dp.dat (h x List.mem_cons_self)) (dpAll_dat fun v m => h v (List.mem_cons_of_mem _ m))
theorem lay_dat : ∀ {v : V}, cel v = true → (dat v).canLay0 = true ∧ (dat v).depth = 0
  | .int i, _ => ⟨by simp only [dat, PyData.canLay0], by simp only [dat, PyData.depth]⟩
  | .non, _ => ⟨by simp only [dat, PyData.canLay0], by simp only [dat, PyData.depth]⟩
theorem layAll_dat : ∀ {xs : List V}, (∀ v ∈ xs, cel v = true) → PyData.canLayAll0 (xs.map dat) = true ∧ PyData.depthAll (xs.map dat) = 0
  | [], _ => ⟨by simp only [List.map_nil, PyData.canLayAll0], by simp only [List.map_nil, PyData.depthAll]⟩
  | x :: r, h => by
    obtain ⟨a, b⟩ := lay_dat (h x List.mem_cons_self)
    obtain ⟨c, d⟩ := layAll_dat (xs := r) fun v m => h v (List.mem_cons_of_mem _ m)
    constructor
    · rw [List.map_cons, PyData.canLayAll0, a, c]
      rfl
    · rw [List.map_cons, PyData.depthAll, b, d]
      rfl
theorem shaped_l {xs : List V} (h : ∀ v ∈ xs, cel v = true) : SeqAt.shaped (.list (xs.map dat)) = true := by
  obtain ⟨a, b⟩ := layAll_dat h
  unfold SeqAt.shaped
  rw [PyData.canLay0, PyData.depth, a, b]
  rfl
theorem shaped_t {xs : List V} (h : ∀ v ∈ xs, cel v = true) : SeqAt.shaped (.tuple (xs.map dat)) = true := by
  obtain ⟨a, b⟩ := layAll_dat h
  unfold SeqAt.shaped
  rw [PyData.canLay0, PyData.depth, a, b]
  rfl
theorem eqv_dat : ∀ {v u : V}, cel v = true → cel u = true → PyData.eqv (dat v) (dat u) = decide (v = u)
  | .int i, .int j, _, _ => by
    simp only [dat, PyData.eqv, V.int.injEq]
    by_cases e : i = j <;> simp [e]
  | .int i, .non, _, _ => by simp [dat, PyData.eqv]
  | .non, .int j, _, _ => by simp [dat, PyData.eqv]
  | .non, .non, _, _ => by simp [dat, PyData.eqv]
theorem eqvAll_dat : ∀ {xs ys : List V}, (∀ v ∈ xs, cel v = true) → (∀ v ∈ ys, cel v = true) → PyData.eqvAll (xs.map dat) (ys.map dat) = decide (xs = ys)
  | [], [], _, _ => by simp [PyData.eqvAll]
  | [], _ :: _, _, _ => by simp [PyData.eqvAll]
  | _ :: _, [], _, _ => by simp [PyData.eqvAll]
  | x :: r, y :: t, hx, hy => by
    rw [List.map_cons, List.map_cons, PyData.eqvAll, eqv_dat (hx x List.mem_cons_self) (hy y List.mem_cons_self), eqvAll_dat (xs := r) (ys := t) (fun v m => hx v (List.mem_cons_of_mem _ m)) (fun v m => hy v (List.mem_cons_of_mem _ m))]
    by_cases e : x = y
    · subst e
      by_cases e2 : r = t <;> simp [e2]
    · simp [e]
theorem eqv_l {xs ys : List V} (hx : ∀ v ∈ xs, cel v = true) (hy : ∀ v ∈ ys, cel v = true) : PyData.eqv (.list (xs.map dat)) (.list (ys.map dat)) = decide (xs = ys) := by
  rw [PyData.eqv]
  exact eqvAll_dat hx hy
theorem eqv_t {xs ys : List V} (hx : ∀ v ∈ xs, cel v = true) (hy : ∀ v ∈ ys, cel v = true) : PyData.eqv (.tuple (xs.map dat)) (.tuple (ys.map dat)) = decide (xs = ys) := by
  rw [PyData.eqv]
  exact eqvAll_dat hx hy
theorem cel_ints {xs : List Int} : ∀ v ∈ xs.map V.int, cel v = true := fun v h => by
  obtain ⟨i, _, rfl⟩ := List.mem_map.mp h
  rfl
theorem map_int_inj : ∀ {xs ys : List Int}, xs.map V.int = ys.map V.int → xs = ys
  | [], [], _ => rfl
  | [], _ :: _, h => by simp at h
  | _ :: _, [], h => by simp at h
  | x :: r, y :: t, h => by
    rw [List.map_cons, List.map_cons] at h
    injection h with h1 h2
    injection h1 with h1
    rw [h1, map_int_inj h2]
theorem dp_l {K : PySem.W.Frag} {H : Hp} {p : Addr} {xs : List V} (h : SqL K H p xs) (hx : ∀ v ∈ xs, cel v = true) : Dp K H (.ref p) (.list (xs.map dat)) := .lst h (dpAll_dat hx)
theorem dp_t {K : PySem.W.Frag} {H : Hp} {p : Addr} {xs : List V} (h : SqT K H p xs) (hx : ∀ v ∈ xs, cel v = true) : Dp K H (.ref p) (.tuple (xs.map dat)) := .tup h (dpAll_dat hx)
/-! ### places -/
theorem ixN_nat {n j : Nat} (h : j < n) : ixN n (j : Int) = some j := by
  unfold ixN
  rw [if_pos (by omega), if_pos (by omega)]
  rfl
theorem at_map {xs : List Int} {j : Nat} {x : Int} (h : xs[j]? = some x) : atI (xs.map V.int) (j : Int) = some (.int x) := atI_nat (by rw [List.getElem?_map, h]; rfl)
theorem map_take_succ {xs : List Int} {i : Nat} {x : Int} (h : xs[i]? = some x) : xs.take (i + 1) = xs.take i ++ [x] := by
  rw [List.take_add_one, h]
  rfl
theorem get_map {xs : List Int} {i : Nat} {y : V} (h : (xs.map V.int)[i]? = some y) : ∃ x, xs[i]? = some x ∧ y = .int x := by
  rw [List.getElem?_map] at h
  cases e : xs[i]? with
  | none =>
    rw [e] at h
    cases h
  | some z =>
    rw [e] at h
    exact ⟨z, rfl, (Option.some.inj h).symm⟩
theorem get_map_ref {xs : List Addr} {i : Nat} {y : V} (h : (xs.map V.ref)[i]? = some y) : ∃ x, xs[i]? = some x ∧ y = .ref x := by
  rw [List.getElem?_map] at h
  cases e : xs[i]? with
  | none =>
    rw [e] at h
    cases h
  | some z =>
    rw [e] at h
    exact ⟨z, rfl, (Option.some.inj h).symm⟩
theorem size_ok {n : Nat} (h : n ≤ 100000) : n ≤ sizeLine := Nat.le_trans h (by decide)
theorem sz_ {n : Nat} (h : Nat.ble n 100000 = true) : n ≤ sizeLine := size_ok (Nat.le_of_ble_eq_true h)
theorem size_lt {n : Nat} (h : n < 100000) : n < sizeLine := Nat.lt_of_lt_of_le h (by decide)
/-! ### rules that name the text's part K, for what stands within a comprehension -/
section
variable {X : Cx} {K : PySem.W.Frag}
theorem op_eqDK (hK : X.K = K) (hu : X.A.units + 64 < cLine) : OpR X (compareOp .Eq) (rEqD K) := hK ▸ op_eqD hu
theorem op_neDK (hK : X.K = K) (hu : X.A.units + 64 < cLine) : OpR X (compareOp .NotEq) (rNeD K) := hK ▸ op_neD hu
theorem ix_listK (hK : X.K = K) : IxR X (rIxL K) := hK ▸ ix_list
theorem ix_tupK (hK : X.K = K) : IxR X (rIxT K) := hK ▸ ix_tup
theorem ix_seqK (hK : X.K = K) : IxR X (rIx K) := hK ▸ ix_seq
theorem pe_fldK {e : Expr} {f : Str} {pos : Pos} {ta : TE} (hK : X.K = K) (he : PE X e ta) (hb : attributeBase e f X.env (eval e X.env) = eval e X.env) : PE X (.Attribute e f pos) (tFld K ta f) := hK ▸ pe_fld he hb
theorem call_len_seqK (hK : X.K = K) : CallR X (.builtin "len") (fun xs H Q => ∃ p ys, xs = [.ref p] ∧ (SqL K H p ys ∨ SqT K H p ys) ∧ Q (.int ys.length) H) := hK ▸ call_len_seq
end
/-! ### data that is tracked, as alike looks at it -/
mutual
inductive Td (H : Hp) : V → PyData → Prop
  | non : Td H .non .none
  | bl (b : Bool) : Td H (.bl b) (.bool b)
  | int (i : Int) : Td H (.int i) (.int i)
  | str (x : Str) : Td H (.str x) (.str x)
  | lst {a : Addr} {xs : List V} {ds : List PyData} : H a = some (.lst xs) → xs.length ≤ 100000 → TdAll H xs ds → Td H (.ref a) (.list ds)
  | tup {a : Addr} {xs : List V} {ds : List PyData} : H a = some (.tup xs) → xs.length ≤ 100000 → TdAll H xs ds → Td H (.ref a) (.tuple ds)
inductive TdAll (H : Hp) : List V → List PyData → Prop
  | nil : TdAll H [] []
  | cons {v : V} {vs : List V} {d : PyData} {ds : List PyData} : Td H v d → TdAll H vs ds → TdAll H (v :: vs) (d :: ds)
end
mutual
theorem Td.mono {H H' : Hp} (s : Same H H') : ∀ {v : V} {d : PyData}, Td H v d → Td H' v d
  | _, _, .non => .non
  | _, _, .bl b => .bl b
  | _, _, .int i => .int i
  | _, _, .str x => .str x
  | _, _, .lst h l t => .lst (s _ _ h) l (TdAll.mono s t)
  | _, _, .tup h l t => .tup (s _ _ h) l (TdAll.mono s t)
theorem TdAll.mono {H H' : Hp} (s : Same H H') : ∀ {vs : List V} {ds : List PyData}, TdAll H vs ds → TdAll H' vs ds
  | _, _, .nil => .nil
  | _, _, .cons a b => .cons (Td.mono s a) (TdAll.mono s b)
end
theorem TdAll.len {H : Hp} : ∀ {vs : List V} {ds : List PyData}, TdAll H vs ds → vs.length = ds.length
  | _, _, .nil => rfl
  | _, _, .cons _ b => by
    rw [List.length_cons, List.length_cons, TdAll.len b]
theorem TdAll.at {H : Hp} : ∀ {vs : List V} {ds : List PyData} {i : Nat} {d : PyData}, TdAll H vs ds → ds[i]? = some d → ∃ v, vs[i]? = some v ∧ Td H v d
  | _, _, _, _, .nil, h => by simp at h
  | _, _, 0, _, .cons a _, h => by
    have e := Option.some.inj h
    subst e
    exact ⟨_, rfl, a⟩
  | _, _, i + 1, _, .cons _ b, h => by
    obtain ⟨v, h1, h2⟩ := TdAll.at (i := i) b (by simpa using h)
    exact ⟨v, by simpa using h1, h2⟩
theorem TdAll.cel {H : Hp} : ∀ {vs : List V}, (∀ v ∈ vs, cel v = true) → TdAll H vs (vs.map dat)
  | [], _ => .nil
  | .int i :: r, h => .cons (.int i) (TdAll.cel fun v m => h v (List.mem_cons_of_mem _ m))
  | .non :: r, h => .cons .non (TdAll.cel fun v m => h v (List.mem_cons_of_mem _ m))
  | .bl b :: r, h => by cases h _ List.mem_cons_self
  | .str b :: r, h => by cases h _ List.mem_cons_self
  | .byt b :: r, h => by cases h _ List.mem_cons_self
  | .flt b :: r, h => by cases h _ List.mem_cons_self
  | .ref b :: r, h => by cases h _ List.mem_cons_self
  | .ty b :: r, h => by cases h _ List.mem_cons_self
theorem depth_at : ∀ {ds : List PyData} {i : Nat} {d : PyData}, ds[i]? = some d → d.depth ≤ PyData.depthAll ds
  | [], _, _, h => by simp at h
  | a :: r, 0, d, h => by
    have e := Option.some.inj h
    subst e
    rw [PyData.depthAll]
    exact Nat.le_max_left _ _
  | a :: r, i + 1, d, h => by
    have := depth_at (ds := r) (i := i) (d := d) (by simpa using h)
    rw [PyData.depthAll]
    exact Nat.le_trans this (Nat.le_max_right _ _)
/-- the promise of alike for two things that are: n is more than their depth -/
def spAlike (n : Nat) : Sp := fun vs H Q _ => ∃ (x y : V) (d : PyData), vs = [x, y] ∧ Td H x d ∧ Td H y d ∧ d.depth < n ∧ ∀ H', Same H H' → Q (.bl true) H'
theorem alike_zero {P : Program} {w : World} {K : PySem.W.Frag} {mg : Str → Option Value} {base : Heap} {f : Addr} {fd : FuncData} {ps : List Str} : FnOk P w K mg base CX0 0 f fd ps (spAlike 0) :=
  ⟨fun _ _ _ _ ⟨_, _, _, _, _, _, h, _⟩ => absurd h (Nat.not_lt_zero _), fun _ _ _ _ _ _ _ _ _ _ _ _ _ ⟨_, _, _, _, _, _, h, _⟩ => absurd h (Nat.not_lt_zero _)⟩
/-! ### isinstance: what it tells of None, bools, ints, texts, lists, tuples -/
theorem ty_nt : kitB "NoneType" "tuple" = some false := by decide +kernel
theorem ty_nl : kitB "NoneType" "list" = some false := by decide +kernel
theorem ty_nb : kitB "NoneType" "bool" = some false := by decide +kernel
theorem ty_ns : kitB "NoneType" "str" = some false := by decide +kernel
theorem ty_ni : kitB "NoneType" "int" = some false := by decide +kernel
theorem ty_bt : kitB "bool" "tuple" = some false := by decide +kernel
theorem ty_bl : kitB "bool" "list" = some false := by decide +kernel
theorem ty_bb : kitB "bool" "bool" = some true := by decide +kernel
theorem ty_it : kitB "int" "tuple" = some false := by decide +kernel
theorem ty_il : kitB "int" "list" = some false := by decide +kernel
theorem ty_ib : kitB "int" "bool" = some false := by decide +kernel
theorem ty_is : kitB "int" "str" = some false := by decide +kernel
theorem ty_ii : kitB "int" "int" = some true := by decide +kernel
theorem ty_st : kitB "str" "tuple" = some false := by decide +kernel
theorem ty_sl : kitB "str" "list" = some false := by decide +kernel
theorem ty_sb : kitB "str" "bool" = some false := by decide +kernel
theorem ty_ss : kitB "str" "str" = some true := by decide +kernel
theorem ty_lt : kitB "list" "tuple" = some false := by decide +kernel
theorem ty_ll : kitB "list" "list" = some true := by decide +kernel
theorem ty_tt : kitB "tuple" "tuple" = some true := by decide +kernel
theorem any_l {K : PySem.W.Frag} : PySem.W.kitAny K (.type "list") [.type "tuple", .type "list"] = some true := by
  simp only [PySem.W.kitAny, kit_ty ty_lt, kit_ty ty_ll]
theorem any_t {K : PySem.W.Frag} : PySem.W.kitAny K (.type "tuple") [.type "tuple", .type "list"] = some true := by
  simp only [PySem.W.kitAny, kit_ty ty_tt]
theorem cel_cases : ∀ {v : V}, cel v = true → (∃ x, v = .int x) ∨ v = .non
  | .int i, _ => .inl ⟨i, rfl⟩
  | .non, _ => .inr rfl
theorem same_tup {K : PySem.W.Frag} {H H' : Hp} {c : Addr} {xs : List V} (s : Same H H') (h : SqT K H c xs) : SqT K H' c xs := by
  rcases h with (h | ⟨o, h⟩) | h
  · exact .inl (.inl (s _ _ h))
  · exact .inl (.inr ⟨o, s _ _ h⟩)
  · exact .inr h
theorem inV_ints : ∀ {xs : List Int}, inV .non (xs.map V.int) = false
  | [] => rfl
  | x :: r => by
    have ih := inV_ints (xs := r)
    unfold inV at ih ⊢
    rw [List.map_cons, List.any_cons, ih]
    rfl
theorem flat_ints : ∀ {xs : List Int}, (xs.map V.int).all flatV = true
  | [] => rfl
  | x :: r => by
    rw [List.map_cons, List.all_cons, flat_ints (xs := r)]
    rfl
theorem cut_take (xs : List V) (k : Nat) : cutV xs none (some (k : Int)) = xs.take k := by
  unfold cutV
  rw [HT.sIx_none, HT.sIx_nat, List.drop_zero, Nat.sub_zero, ← List.take_eq_take_min]
theorem cut_drop (xs : List V) (k : Nat) : cutV xs (some (k : Int)) none = xs.drop k := by
  unfold cutV
  rw [HT.sIx_none, HT.sIx_nat]
  by_cases h : k ≤ xs.length
  · rw [Nat.min_eq_left h, List.take_of_length_le (by rw [List.length_drop]; omega)]
  · rw [Nat.min_eq_right (by omega), List.drop_of_length_le (Nat.le_refl _), List.drop_of_length_le (by omega), List.take_nil]
theorem dep_t {xs : List V} (h : ∀ v ∈ xs, cel v = true) : (PyData.tuple (xs.map dat)).depth < 5 := by
  rw [PyData.depth, (layAll_dat h).2]
  decide
theorem dep_l {xs : List V} (h : ∀ v ∈ xs, cel v = true) : (PyData.list (xs.map dat)).depth < 5 := by
  rw [PyData.depth, (layAll_dat h).2]
  decide
theorem dep_i {i : Int} : (PyData.int i).depth < 5 := by
  rw [PyData.depth]
  decide
theorem Dr.ne_ints {K : PySem.W.Frag} {H0 : Hp} {ns : List Int} {a r b : Addr} {H : Hp} {xs : List Int} (D : Dr K H0 ns a r H) (h : H b = some (.lst (xs.map V.int))) : b ≠ r := by
  obtain ⟨_, _, _, e, _⟩ := D.row
  refine ne_of h e fun z => ?_
  injection z with z
  cases xs with
  | nil => cases z
  | cons x t =>
    rw [List.map_cons] at z
    injection z with z _
    cases z
theorem Dr.ne_tup {K : PySem.W.Frag} {H0 : Hp} {ns : List Int} {a r b : Addr} {H : Hp} {xs : List V} (D : Dr K H0 ns a r H) (h : H b = some (.tup xs)) : b ≠ r := by
  obtain ⟨_, _, _, e, _⟩ := D.row
  exact ne_of h e fun z => by cases z
theorem cut_take' {xs : List V} {j : Int} {k : Nat} (e : j = (k : Int)) : cutV xs none (some j) = xs.take k := by
  rw [e]
  exact cut_take xs k
theorem cut_drop' {xs : List V} {j : Int} {k : Nat} (e : j = (k : Int)) : cutV xs (some j) none = xs.drop k := by
  rw [e]
  exact cut_drop xs k
theorem cut_mem {xs : List V} {lo hi : Option Int} {v : V} (h : v ∈ cutV xs lo hi) : v ∈ xs := by
  unfold cutV at h
  exact List.mem_of_mem_drop (List.mem_of_mem_take h)
end Dw

set_option maxRecDepth 100000
set_option maxHeartbeats 4000000
/-! a memory: what it holds, what a write makes of it -/
namespace Mm
open PySem PySem.Spec PyProof.Rows L2
/-- all but these places stays -/
def But (S : List Addr) (H H' : Hp) : Prop := ∀ b o, b ∉ S → H b = some o → H' b = some o
theorem But.refl (S : List Addr) (H : Hp) : But S H H := fun _ _ _ h => h
theorem But.trans {S : List Addr} {H H1 H2 : Hp} (a : But S H H1) (b : But S H1 H2) : But S H H2 := fun c o n h => b c o n (a c o n h)
theorem But.same {S : List Addr} {H H' : Hp} (s : Same H H') : But S H H' := fun b o _ h => s b o h
theorem But.upd {S : List Addr} {H : Hp} {p : Addr} {o : HO} (h : p ∈ S) : But S H (L2.upd H p o) := fun b u n e => by
  rw [upd_ne (fun z => n (by rw [z]; exact h))]
  exact e
theorem But.more {S S' : List Addr} {H H' : Hp} (k : But S H H') (h : ∀ b ∈ S, b ∈ S') : But S' H H' := fun b o n e => k b o (fun m => n (h b m)) e
theorem But.sameOf {S : List Addr} {H0 H H' : Hp} (k : But S H H') (s : Same H0 H) (f : ∀ b ∈ S, H0 b = none) : Same H0 H' := fun b o e => k b o (fun m => by rw [f b m] at e; cases e) (s b o e)
/-- all but these places and tables stays -/
def ButN (S : List Addr) (H H' : Hp) : Prop := ∀ b o, b ∉ S → Dw.NT o → H b = some o → H' b = some o
theorem But.n {S : List Addr} {H H' : Hp} (k : But S H H') : ButN S H H' := fun b o n _ h => k b o n h
theorem ButN.trans {S : List Addr} {H H1 H2 : Hp} (a : ButN S H H1) (b : ButN S H1 H2) : ButN S H H2 := fun c o n t h => b c o n t (a c o n t h)
theorem ButN.more {S S' : List Addr} {H H' : Hp} (k : ButN S H H') (h : ∀ b ∈ S, b ∈ S') : ButN S' H H' := fun b o n t e => k b o (fun m => n (h b m)) t e
def leftV : Option Nat → V
  | none => .non
  | some k => .int (k : Int)
structure Mem where
  cells : List V
  many : Int
  up : Bool
  left : Option Nat
  torn : Str
def tornTo (t : Str) (cs : List V) (j : Nat) (v : Int) : List V := if t = "broken" then cs.set j .non else if t = "new" then cs.set j (.int v) else cs
/-- a write: what is behind it, and whether it was whole -/
def Mem.write (m : Mem) (j : Nat) (v : Int) : Mem × Bool :=
  if m.up = true then
    if m.left = some 0 then (⟨tornTo m.torn m.cells j v, m.many, false, none, m.torn⟩, false)
    else (⟨m.cells.set j (.int v), m.many + 1, true, m.left.map (· - 1), m.torn⟩, true)
  else (m, false)
theorem write_down {m : Mem} {j : Nat} {v : Int} (h : m.up = false) : m.write j v = (m, false) := by
  unfold Mem.write
  rw [if_neg (by rw [h]; decide)]
theorem write_cut {m : Mem} {j : Nat} {v : Int} (h : m.up = true) (h0 : m.left = some 0) : m.write j v = (⟨tornTo m.torn m.cells j v, m.many, false, none, m.torn⟩, false) := by
  unfold Mem.write
  rw [if_pos h, if_pos h0]
theorem write_ok {m : Mem} {j : Nat} {v : Int} (h : m.up = true) (h0 : ¬ m.left = some 0) : m.write j v = (⟨m.cells.set j (.int v), m.many + 1, true, m.left.map (· - 1), m.torn⟩, true) := by
  unfold Mem.write
  rw [if_pos h, if_neg h0]
theorem torn_len (t : Str) (cs : List V) (j : Nat) (v : Int) : (tornTo t cs j v).length = cs.length := by
  unfold tornTo
  split
  · rw [List.length_set]
  · split
    · rw [List.length_set]
    · rfl
theorem write_len (m : Mem) (j : Nat) (v : Int) : (m.write j v).1.cells.length = m.cells.length := by
  by_cases h : m.up = true
  · by_cases h0 : m.left = some 0
    · rw [write_cut h h0]
      exact torn_len _ _ _ _
    · rw [write_ok h h0]
      exact List.length_set
  · rw [write_down (Bool.eq_false_iff.mpr h)]
/-- rows put: those that aren't there already -/
def Mem.putGo : Mem → Nat → Int → List Int → Mem × Option Int
  | m, _, n, [] => (m, some n)
  | m, j, n, v :: r => if m.cells[j]? = some (.int v) then Mem.putGo m (j + 1) n r else
      if (m.write j v).2 = true then Mem.putGo (m.write j v).1 (j + 1) (n + 1) r else ((m.write j v).1, none)
theorem putGo_cons {m : Mem} {j : Nat} {n v : Int} {r : List Int} : m.putGo j n (v :: r) = if m.cells[j]? = some (.int v) then Mem.putGo m (j + 1) n r else
    if (m.write j v).2 = true then Mem.putGo (m.write j v).1 (j + 1) (n + 1) r else ((m.write j v).1, none) := rfl
def Mem.put (m : Mem) (j : Nat) (ws : List Int) : Mem × Option Int := if m.up = true then m.putGo j 0 ws else (m, none)
theorem putGo_len : ∀ (ws : List Int) (m : Mem) (j : Nat) (n : Int), (m.putGo j n ws).1.cells.length = m.cells.length
  | [], _, _, _ => rfl
  | v :: r, m, j, n => by
    unfold Mem.putGo
    split
    · exact putGo_len r m (j + 1) n
    · split
      · rw [putGo_len r _ (j + 1) (n + 1), write_len]
      · exact write_len m j v
theorem leftV_zero {o : Option Nat} : leftV o = .int 0 ↔ o = some 0 := by
  cases o with
  | none => simp [leftV]
  | some k =>
    simp only [leftV, V.int.injEq, Option.some.injEq]
    omega
theorem leftV_non {o : Option Nat} : leftV o = .non ↔ o = none := by
  cases o with
  | none => simp [leftV]
  | some k => simp [leftV]
/-! ### its object -/
theorem lk_here {k : Str} {v : V} {r : List (Str × V)} : List.lookup k ((k, v) :: r) = some v := by
  have e : (k == k) = true := beq_self_eq_true k
  simp only [List.lookup, e]
theorem lk_past {k g : Str} {v : V} {r : List (Str × V)} (h : (k == g) = false) : List.lookup k ((g, v) :: r) = List.lookup k r := by
  simp only [List.lookup, h]
theorem put_here {f : Str} {v x : V} {r : List (Str × V)} : putF f v ((f, x) :: r) = (f, v) :: r := if_pos rfl
theorem put_past {f g : Str} {v x : V} {r : List (Str × V)} (h : ¬ g = f) : putF f v ((g, x) :: r) = (g, x) :: putF f v r := if_neg h
/-- its attributes, in the order in which __init__ sets them -/
def mf (l : Addr) (n : Int) (u : Bool) (a : V) (t : Str) : List (Str × V) := [("_cells", .ref l), ("_whole_writes", .int n), ("_has_power", .bl u), ("_ahead", a), ("_torn", .str t)]
section
variable {l : Addr} {n n' : Int} {u u' : Bool} {a a' : V} {t t' : Str}
theorem mf_cells : (mf l n u a t).lookup ("_cells" : Str) = some (.ref l) := lk_here
theorem mf_many : (mf l n u a t).lookup ("_whole_writes" : Str) = some (.int n) := (lk_past (by decide +kernel)).trans lk_here
theorem mf_up : (mf l n u a t).lookup ("_has_power" : Str) = some (.bl u) := (lk_past (by decide +kernel)).trans ((lk_past (by decide +kernel)).trans lk_here)
theorem mf_ahead : (mf l n u a t).lookup ("_ahead" : Str) = some a := (lk_past (by decide +kernel)).trans ((lk_past (by decide +kernel)).trans ((lk_past (by decide +kernel)).trans lk_here))
theorem mf_torn : (mf l n u a t).lookup ("_torn" : Str) = some (.str t) := (lk_past (by decide +kernel)).trans ((lk_past (by decide +kernel)).trans ((lk_past (by decide +kernel)).trans ((lk_past (by decide +kernel)).trans lk_here)))
theorem mf_no {x : Str} (h1 : (x == ("_cells" : Str)) = false) (h2 : (x == ("_whole_writes" : Str)) = false) (h3 : (x == ("_has_power" : Str)) = false) (h4 : (x == ("_ahead" : Str)) = false) (h5 : (x == ("_torn" : Str)) = false) : (mf l n u a t).lookup x = none :=
  (lk_past h1).trans ((lk_past h2).trans ((lk_past h3).trans ((lk_past h4).trans ((lk_past h5).trans rfl))))
theorem put_many : putF "_whole_writes" (.int n') (mf l n u a t) = mf l n' u a t := (put_past (by decide +kernel)).trans (congrArg _ put_here)
theorem put_up : putF "_has_power" (.bl u') (mf l n u a t) = mf l n u' a t := (put_past (by decide +kernel)).trans (congrArg _ ((put_past (by decide +kernel)).trans (congrArg _ put_here)))
theorem put_ahead : putF "_ahead" a' (mf l n u a t) = mf l n u a' t := (put_past (by decide +kernel)).trans (congrArg _ ((put_past (by decide +kernel)).trans (congrArg _ ((put_past (by decide +kernel)).trans (congrArg _ put_here)))))
theorem put_torn : putF "_torn" (.str t') (mf l n u a t) = mf l n u a t' := (put_past (by decide +kernel)).trans (congrArg _ ((put_past (by decide +kernel)).trans (congrArg _ ((put_past (by decide +kernel)).trans (congrArg _ ((put_past (by decide +kernel)).trans (congrArg _ put_here)))))))
theorem put_new : putF "_torn" (.str t) (putF "_ahead" a (putF "_has_power" (.bl u) (putF "_whole_writes" (.int n) (putF "_cells" (.ref l) [])))) = mf l n u a t := by
  rw [show putF "_cells" (.ref l) [] = [(("_cells" : Str), V.ref l)] from rfl,
    show putF "_whole_writes" (.int n) [(("_cells" : Str), V.ref l)] = [(("_cells" : Str), V.ref l), ("_whole_writes", .int n)] from (put_past (by decide +kernel)).trans rfl,
    show putF "_has_power" (.bl u) [(("_cells" : Str), V.ref l), ("_whole_writes", .int n)] = [(("_cells" : Str), V.ref l), ("_whole_writes", .int n), ("_has_power", .bl u)] from (put_past (by decide +kernel)).trans (congrArg _ ((put_past (by decide +kernel)).trans rfl)),
    show putF "_ahead" a [(("_cells" : Str), V.ref l), ("_whole_writes", .int n), ("_has_power", .bl u)] = [(("_cells" : Str), V.ref l), ("_whole_writes", .int n), ("_has_power", .bl u), ("_ahead", a)] from (put_past (by decide +kernel)).trans (congrArg _ ((put_past (by decide +kernel)).trans (congrArg _ ((put_past (by decide +kernel)).trans rfl))))]
  exact (put_past (by decide +kernel)).trans (congrArg _ ((put_past (by decide +kernel)).trans (congrArg _ ((put_past (by decide +kernel)).trans (congrArg _ ((put_past (by decide +kernel)).trans rfl))))))
theorem mf_few : (mf l n u a t).length < 1000 := by
  show 5 < 1000
  decide
end
/-- a memory m stands at p, its cells in the list at l -/
structure MemAt (C p l : Addr) (m : Mem) (H : Hp) : Prop where
  ob : ∃ (dx : Addr) (a : V), H p = some (.ins C dx (mf l m.many m.up a m.torn)) ∧ (m.up = true → a = leftV m.left)
  ls : H l = some (.lst m.cells)
  cel : ∀ v ∈ m.cells, Dw.cel v = true
  len : m.cells.length ≤ 400
section
variable {C p l : Addr} {m : Mem} {H H' : Hp}
theorem MemAt.ne (M : MemAt C p l m H) : p ≠ l := by
  obtain ⟨dx, a, h, _⟩ := M.ob
  exact ne_of h M.ls (by intro z; cases z)
theorem MemAt.but {S : List Addr} (M : MemAt C p l m H) (k : But S H H') (hp : p ∉ S) (hl : l ∉ S) : MemAt C p l m H' := by
  obtain ⟨dx, a, h, e⟩ := M.ob
  exact ⟨⟨dx, a, k _ _ hp h, e⟩, k _ _ hl M.ls, M.cel, M.len⟩
theorem MemAt.butN {S : List Addr} (M : MemAt C p l m H) (k : ButN S H H') (hp : p ∉ S) (hl : l ∉ S) : MemAt C p l m H' := by
  obtain ⟨dx, a, h, e⟩ := M.ob
  exact ⟨⟨dx, a, k _ _ hp Dw.NT.ins h, e⟩, k _ _ hl Dw.NT.lst M.ls, M.cel, M.len⟩
theorem MemAt.mono (M : MemAt C p l m H) (k : Same H H') : MemAt C p l m H' := M.but (S := []) (But.same k) (by simp) (by simp)
theorem MemAt.at (M : MemAt C p l m H) {j : Nat} (h : j < m.cells.length) : ∃ v, m.cells[j]? = some v ∧ Dw.cel v = true :=
  ⟨m.cells[j], List.getElem?_eq_getElem h, M.cel _ (List.getElem_mem h)⟩
/-- its cells another list -/
theorem MemAt.setCells (M : MemAt C p l m H) {cs : List V} (hc : ∀ v ∈ cs, Dw.cel v = true) (hl : cs.length = m.cells.length) : MemAt C p l { m with cells := cs } (upd H l (.lst cs)) := by
  obtain ⟨dx, a, h, e⟩ := M.ob
  exact ⟨⟨dx, a, by rw [upd_ne M.ne]; exact h, e⟩, upd_same, hc, by show cs.length ≤ 400; rw [hl]; exact M.len⟩
theorem cel_set {cs : List V} {j : Nat} {v : V} (h : ∀ x ∈ cs, Dw.cel x = true) (hv : Dw.cel v = true) : ∀ x ∈ cs.set j v, Dw.cel x = true := fun x hx => by
  rcases List.mem_or_eq_of_mem_set hx with z | z
  · exact h x z
  · rw [z]
    exact hv
theorem cel_torn {t : Str} {cs : List V} {j : Nat} {v : Int} (h : ∀ x ∈ cs, Dw.cel x = true) : ∀ x ∈ tornTo t cs j v, Dw.cel x = true := by
  unfold tornTo
  split
  · exact cel_set h rfl
  · split
    · exact cel_set h rfl
    · exact h
end
/-- what calls that surely let nothing out ask -/
theorem passN {P : Program} {w : World} {X : Cx} : Passes (L2.CX P w) X E0 := fun _ _ _ _ _ _ _ h => by
  obtain ⟨_, _, _, _, _, _, _, _, _, _, _, _, z⟩ := h
  exact z.elim
theorem flat_rep {α : Type} (x : α) : ∀ n : Nat, (List.replicate n [x]).flatten = List.replicate n x
  | 0 => rfl
  | n + 1 => by
    rw [List.replicate_succ, List.flatten_cons, flat_rep x n]
    rfl
/-! ### what is promised of its methods -/
def spPlace (C : Addr) : Sp := fun vs H Q _ => ∃ (p l : Addr) (m : Mem) (j : Nat), vs = [.ref p, .int (j : Int)] ∧ MemAt C p l m H ∧ j < m.cells.length ∧ Q .non H
def spWorth : Sp := fun vs H Q _ => ∃ v : Int, vs = [.int v] ∧ 0 ≤ v ∧ v ≤ 9972 ∧ Q .non H
def spPower (C CS : Addr) : Sp := fun vs H Q E => ∃ (p l : Addr) (m : Mem), vs = [.ref p] ∧ MemAt C p l m H ∧ (m.up = true → Q .non H) ∧ (m.up = false → E (.ref CS) none H)
def spLose (C CS : Addr) : Sp := fun vs H Q E => ∃ (p l : Addr) (m : Mem) (j : Nat) (v : Int), vs = [.ref p, .int (j : Int), .int v] ∧ MemAt C p l m H ∧ j < m.cells.length ∧
  ∀ H', MemAt C p l ⟨tornTo m.torn m.cells j v, m.many, false, none, m.torn⟩ H' → But [p, l] H H' → E (.ref CS) none H'
def spWrite (C CS : Addr) : Sp := fun vs H Q E => ∃ (p l : Addr) (m : Mem) (j : Nat) (v : Int), vs = [.ref p, .int (j : Int), .int v] ∧ MemAt C p l m H ∧ j < m.cells.length ∧ 0 ≤ v ∧ v ≤ 9972 ∧
  ∀ H', MemAt C p l (m.write j v).1 H' → But [p, l] H H' → ((m.write j v).2 = true → Q .non H') ∧ ((m.write j v).2 = false → E (.ref CS) none H')
def spPut (K : PySem.W.Frag) (C CS : Addr) : Sp := fun vs H Q E => ∃ (p l b : Addr) (m : Mem) (j : Nat) (ws : List Int), vs = [.ref p, .int (j : Int), .ref b] ∧ MemAt C p l m H ∧ SqL K H b (ws.map V.int) ∧ b ≠ l ∧ j + ws.length ≤ m.cells.length ∧ (∀ v ∈ ws, 0 ≤ v ∧ v ≤ 9972) ∧
  ∀ H', MemAt C p l (m.put j ws).1 H' → But [p, l] H H' → (∀ n, (m.put j ws).2 = some n → Q (.int n) H') ∧ ((m.put j ws).2 = none → E (.ref CS) none H')
def spRead (C CS : Addr) : Sp := fun vs H Q E => ∃ (p l : Addr) (m : Mem) (j : Nat), vs = [.ref p, .int (j : Int)] ∧ MemAt C p l m H ∧ j < m.cells.length ∧ (m.up = true → ∀ v, m.cells[j]? = some v → Q v H) ∧ (m.up = false → E (.ref CS) none H)
def spRow (C CS : Addr) : Sp := fun vs H Q E => ∃ (p l : Addr) (m : Mem) (j n : Nat), vs = [.ref p, .int (j : Int), .int (n : Int)] ∧ MemAt C p l m H ∧ j + n ≤ m.cells.length ∧
  (m.up = true → ∀ H' c, Same H H' → H c = none → H' c = some (.lst ((m.cells.drop j).take n)) → Q (.ref c) H') ∧ (m.up = false → E (.ref CS) none H)
def spSpoil (C : Addr) : Sp := fun vs H Q _ => ∃ (p l : Addr) (m : Mem) (j : Nat) (x : V), vs = [.ref p, .int (j : Int), x] ∧ MemAt C p l m H ∧ j < m.cells.length ∧ (x = .non ∨ ∃ v, x = .int v ∧ 0 ≤ v ∧ v ≤ 9972) ∧
  ∀ H', MemAt C p l { m with cells := m.cells.set j x } H' → But [p, l] H H' → Q .non H'
def spCut (C : Addr) : Sp := fun vs H Q _ => ∃ (p l : Addr) (m : Mem) (k : Nat) (t : Str), vs = [.ref p, .int (k : Int), .str t] ∧ MemAt C p l m H ∧ k ≤ 100000 ∧ (t = "old" ∨ t = "broken" ∨ t = "new") ∧
  ∀ H', MemAt C p l { m with left := some k, torn := t } H' → But [p, l] H H' → Q .non H'
def spUp (C : Addr) : Sp := fun vs H Q _ => ∃ (p l : Addr) (m : Mem), vs = [.ref p] ∧ MemAt C p l m H ∧ ∀ H', MemAt C p l { m with up := true, left := none } H' → But [p, l] H H' → Q .non H'
def spCells (C : Addr) : Sp := fun vs H Q _ => ∃ (p l : Addr) (m : Mem), vs = [.ref p] ∧ MemAt C p l m H ∧ ∀ H' c, Same H H' → H c = none → H' c = some (.lst m.cells) → Q (.ref c) H'
def spWrites (C : Addr) : Sp := fun vs H Q _ => ∃ (p l : Addr) (m : Mem), vs = [.ref p] ∧ MemAt C p l m H ∧ Q (.int m.many) H
def spInit (C : Addr) : Sp := fun vs H Q _ => ∃ (p dx : Addr) (n : Nat), vs = [.ref p, .int (n : Int)] ∧ H p = some (.ins C dx []) ∧ 1 ≤ n ∧ n ≤ 400 ∧
  ∀ H' l, MemAt C p l ⟨List.replicate n (.int 0), 0, true, none, "old"⟩ H' → H l = none → But [p] H H' → Q .non H'
end Mm

set_option maxRecDepth 100000
set_option maxHeartbeats 4000000
/-! max(xs, default=None): a rule of our own -/
namespace Mx
open PySem PySem.Spec PyProof.Rows L2
theorem foldl_max : ∀ (ys : List Int) (y : Int), ys.foldl max y ∈ y :: ys ∧ ∀ z ∈ y :: ys, z ≤ ys.foldl max y
  | [], y => ⟨List.mem_cons_self, fun z h => by rw [List.mem_singleton.mp h]; exact Int.le_refl _⟩
  | x :: r, y => by
    obtain ⟨m, g⟩ := foldl_max r (max y x)
    refine ⟨?_, fun z hz => ?_⟩
    · rw [List.foldl_cons]
      rcases List.mem_cons.mp m with e | e
      · rw [e]
        rcases Int.le_total y x with h | h
        · rw [Int.max_eq_right h]
          exact List.mem_cons_of_mem _ List.mem_cons_self
        · rw [Int.max_eq_left h]
          exact List.mem_cons_self
      · exact List.mem_cons_of_mem _ (List.mem_cons_of_mem _ e)
    · rw [List.foldl_cons]
      have h0 := g (max y x) List.mem_cons_self
      rcases List.mem_cons.mp hz with e | e
      · rw [e]
        exact Int.le_trans (Int.le_max_left y x) h0
      · rcases List.mem_cons.mp e with e | e
        · rw [e]
          exact Int.le_trans (Int.le_max_right y x) h0
        · exact g z (List.mem_cons_of_mem _ e)
theorem depth_ints : ∀ (ns : List Int), PyData.depthAll (ns.map PyData.int) = 0
  | [] => by rw [List.map_nil, PyData.depthAll]
  | x :: r => by
    rw [List.map_cons, PyData.depthAll, depth_ints r, PyData.depth]
    rfl
theorem alike_ints (ns : List Int) : PySem.W.AlikeAll (ns.map PyData.int) := by
  refine ⟨fun x hx y hy => ?_, fun x hx => ?_⟩
  · obtain ⟨i, _, rfl⟩ := List.mem_map.mp hx
    obtain ⟨j, _, rfl⟩ := List.mem_map.mp hy
    rfl
  · obtain ⟨i, _, rfl⟩ := List.mem_map.mp hx
    intro z
    cases z
theorem dp_ints {K : PySem.W.Frag} {H : Hp} : ∀ (ns : List Int), DpAll K H (ns.map V.int) (ns.map PyData.int)
  | [] => .nil
  | x :: r => .cons (.int x) (dp_ints r)
def rMaxDf (K : PySem.W.Frag) : List V → List V → Hp → VK → Prop := fun vs zs H Q => ∃ (a : Addr) (ns : List Int), vs = [V.ref a] ∧ zs = [.non] ∧ SqL K H a (ns.map V.int) ∧
  (ns = [] → Q .non H) ∧ ∀ m, m ∈ ns → (∀ y, y ∈ ns → y ≤ m) → Q (.int m) H
theorem cr_maxDf {X : Cx} (hc : X.calm = true) (hu : X.A.units + 64 < cLine) : CallRK X (.builtin "max") [Str.ofString "default"] (rMaxDf X.K) := by
  intro pins s σ H vs zs us ws Q I r rz h
  obtain ⟨a, ns, rfl, rfl, hs, q0, q⟩ := h
  obtain rfl := Vals.ref1 r
  obtain ⟨w1, rfl, e1⟩ := vals1 rz
  obtain rfl : w1 = Value.none := e1
  obtain ⟨its, rv, hl, hz⟩ := I.list hs
  obtain ⟨as, hr⟩ := Dp.readsAll I (ns.map PyData.int) (ns.map V.int) its (dp_ints ns) rv
  refine PySem.W.max_list_default (I.ok.hd hc) hl.isList (xs := ns.map PyData.int) (as := as) (by simpa using hr) (alike_ints ns) (by rw [depth_ints]; omega) (fun e h' tk hk => ?_) (fun y ys i v h' tk bs e hv rd hk => ?_)
  · exact ⟨.non, H, I.kept hk, rfl, q0 (by cases ns with | nil => rfl | cons x t => cases e)⟩
  · cases ns with
    | nil => cases e
    | cons x t =>
      rw [List.map_cons] at e
      injection e with e1 e2
      subst e1 e2
      rw [PySem.W.maxD_ints] at rd
      obtain ⟨m, g⟩ := foldl_max t x
      generalize t.foldl max x = M at rd m g
      cases rd with
      | int i tt => exact ⟨.int _, H, I.kept hk, ⟨_, rfl⟩, q M m g⟩
end Mx

set_option maxRecDepth 100000
set_option maxHeartbeats 4000000
/-! counters: what two cells tell; what is promised of count and raise_to -/
namespace Ct
open PySem PySem.Spec PyProof.Rows L2
/-- a cell of a memory: broken, or a number that a cell can hold -/
def okc (v : V) : Prop := v = .non ∨ ∃ x : Int, v = .int x ∧ 0 ≤ x ∧ x ≤ 9972
theorem okc.cel {v : V} (h : okc v) : Dw.cel v = true := by
  rcases h with rfl | ⟨x, rfl, _⟩ <;> rfl
def rk : V → Int
  | .int i => i
  | _ => -1
theorem rk_lo {v : V} (h : okc v) : -1 ≤ rk v := by
  rcases h with rfl | ⟨x, rfl, h0, _⟩
  · exact Int.le_refl _
  · show -1 ≤ x
    omega
/-- a number as a counter tells it -/
def numV (t : Int) : V := if t < 0 then .non else .int t
def top (x y : V) : Int := if rk x ≤ rk y then rk y else rk x
def cntV (x y : V) : V := numV (top x y)
/-- the numbers of a row that are there -/
def whole : List V → List Int
  | [] => []
  | .int i :: r => i :: whole r
  | _ :: r => whole r
theorem whole_app : ∀ (xs ys : List V), whole (xs ++ ys) = whole xs ++ whole ys
  | [], _ => rfl
  | .int i :: r, ys => congrArg (i :: ·) (whole_app r ys)
  | .non :: r, ys => whole_app r ys
  | .bl _ :: r, ys => whole_app r ys
  | .str _ :: r, ys => whole_app r ys
  | .byt _ :: r, ys => whole_app r ys
  | .flt _ :: r, ys => whole_app r ys
  | .ref _ :: r, ys => whole_app r ys
  | .ty _ :: r, ys => whole_app r ys
theorem whole_len : ∀ (xs : List V), (whole xs).length ≤ xs.length
  | [] => Nat.le_refl _
  | .int i :: r => Nat.succ_le_succ (whole_len r)
  | .non :: r => Nat.le_succ_of_le (whole_len r)
  | .bl _ :: r => Nat.le_succ_of_le (whole_len r)
  | .str _ :: r => Nat.le_succ_of_le (whole_len r)
  | .byt _ :: r => Nat.le_succ_of_le (whole_len r)
  | .flt _ :: r => Nat.le_succ_of_le (whole_len r)
  | .ref _ :: r => Nat.le_succ_of_le (whole_len r)
  | .ty _ :: r => Nat.le_succ_of_le (whole_len r)
/-- the greatest of two cells' numbers -/
theorem whole_nil {x y : V} (hx : okc x) (hy : okc y) (h : whole [x, y] = []) : cntV x y = .non := by
  rcases hx with rfl | ⟨i, rfl, i0, _⟩ <;> rcases hy with rfl | ⟨j, rfl, j0, _⟩
  · rfl
  · cases h
  · cases h
  · cases h
theorem numV_pos {t : Int} (h : 0 ≤ t) : numV t = .int t := if_neg (by omega)
theorem numV_neg {t : Int} (h : t < 0) : numV t = .non := if_pos h
theorem top_le {x y : V} (h : rk x ≤ rk y) : top x y = rk y := if_pos h
theorem top_gt {x y : V} (h : ¬ rk x ≤ rk y) : top x y = rk x := if_neg h
theorem whole_max {x y : V} (hx : okc x) (hy : okc y) {m : Int} (h : m ∈ whole [x, y]) (g : ∀ z, z ∈ whole [x, y] → z ≤ m) : cntV x y = .int m := by
  show numV (top x y) = _
  rcases hx with rfl | ⟨i, rfl, i0, _⟩ <;> rcases hy with rfl | ⟨j, rfl, j0, _⟩
  · cases h
  · have e : m = j := List.mem_singleton.mp h
    subst e
    rw [top_le (by show (-1 : Int) ≤ m; omega)]
    exact numV_pos j0
  · have e : m = i := List.mem_singleton.mp h
    subst e
    rw [top_gt (by show ¬ m ≤ (-1 : Int); omega)]
    exact numV_pos i0
  · have g1 := g i List.mem_cons_self
    have g2 := g j (List.mem_cons_of_mem _ List.mem_cons_self)
    rcases List.mem_cons.mp h with e | e
    · subst e
      by_cases z : m ≤ j
      · have : m = j := by omega
        subst this
        rw [top_le (by exact Int.le_refl _)]
        exact numV_pos j0
      · rw [top_gt (by exact z)]
        exact numV_pos i0
    · have e := List.mem_singleton.mp e
      subst e
      rw [top_le (by exact g1)]
      exact numV_pos j0
theorem top_lo {x y : V} (hx : okc x) (hy : okc y) : -1 ≤ top x y := by
  have := rk_lo hx
  have := rk_lo hy
  unfold top
  split <;> omega
theorem rk_hi {v : V} (h : okc v) : rk v ≤ 9972 := by
  rcases h with rfl | ⟨x, rfl, _, h1⟩
  · show (-1 : Int) ≤ 9972
    decide
  · exact h1
theorem top_hi {x y : V} (hx : okc x) (hy : okc y) : top x y ≤ 9972 := by
  have := rk_hi hx
  have := rk_hi hy
  unfold top
  split <;> omega
theorem cut2 {cs : List V} {j : Nat} {x y : V} (hx : cs[j]? = some x) (hy : cs[j + 1]? = some y) : (cs.drop j).take 2 = [x, y] := by
  rw [show (2 : Nat) = 0 + 1 + 1 from rfl, List.take_add_one, List.take_add_one, List.take_zero, List.getElem?_drop, List.getElem?_drop]
  rw [show j + 0 = j from rfl, show j + (0 + 1) = j + 1 from rfl, hx, hy]
  rfl
theorem cutV2 {cs : List V} {j : Nat} {x y : V} {hi : Int} (hh : hi = (j : Int) + 2) (hx : cs[j]? = some x) (hy : cs[j + 1]? = some y) : cutV cs (some (j : Int)) (some hi) = [x, y] := by
  have l := (List.getElem?_eq_some_iff.mp hy).1
  have e : hi = ((j + 2 : Nat) : Int) := by omega
  subst e
  unfold cutV
  rw [HT.sIx_nat, HT.sIx_nat, Nat.min_eq_left (by omega), Nat.min_eq_left (by omega), show j + 2 - j = 2 by omega]
  exact cut2 hx hy
theorem take_next {xs : List V} {i : Nat} {x : V} (h : xs[i]? = some x) : xs.take (i + 1) = xs.take i ++ [x] := by
  rw [List.take_add_one, h]
  rfl
theorem okc2 {x y z : V} (hx : okc x) (hy : okc y) {i : Nat} (h : [x, y][i]? = some z) : okc z := by
  rcases List.mem_cons.mp (List.mem_of_getElem? h) with e | e
  · rw [e]
    exact hx
  · rw [List.mem_singleton.mp e]
    exact hy
theorem numV_cel (t : Int) : Dw.cel (numV t) = true := by
  unfold numV
  split <;> rfl
/-- here or 0 -/
theorem or_num (K : PySem.W.Frag) (H : Hp) (x y : V) (hx : okc x) (hy : okc y) : ∃ (k : Bool) (z : Int), TruV K (cntV x y) H k ∧ 0 ≤ z ∧ z ≤ 9972 ∧ (k = true → cntV x y = .int z) ∧ (k = false → z = 0) := by
  have h1 := top_lo hx hy
  have h2 := top_hi hx hy
  by_cases h : top x y < 0
  · exact ⟨false, 0, by rw [show cntV x y = .non from numV_neg h]; rfl, by decide, by decide, fun z => (by cases z), fun _ => rfl⟩
  · have e : cntV x y = .int (top x y) := numV_pos (by omega)
    by_cases h0 : top x y = 0
    · exact ⟨false, 0, by rw [e, h0]; rfl, by decide, by decide, fun z => (by cases z), fun _ => rfl⟩
    · refine ⟨true, top x y, ?_, by omega, h2, fun _ => e, fun z => by cases z⟩
      rw [e]
      show true = (top x y != 0)
      simp [h0]
/-- which of both cells a raising writes -/
def less (x y : V) (j : Nat) : Nat := if rk x ≤ rk y then j else j + 1
/-- what a raising makes of the cells, of the count of writes, and what it tells -/
def rcs (x y : V) (j : Nat) (cs : List V) (v : Int) : List V := if v ≤ top x y then cs else cs.set (less x y j) (.int v)
def rn (x y : V) (n : Nat) (v : Int) : Nat := if v ≤ top x y then n else n + 1
def rb (x y : V) (v : Int) : Bool := !decide (v ≤ top x y)
/-- what is promised of the look at what is handed in -/
def spHanded (K : PySem.W.Frag) (C : Addr) : Sp := fun vs H Q _ => ∃ (p l b : Addr) (m : Mm.Mem) (j n : Nat) (ws : List Int), vs = [.ref p, .int (j : Int), .int (n : Int), .ref b] ∧ Mm.MemAt C p l m H ∧ SqL K H b (ws.map V.int) ∧ j + n ≤ m.cells.length ∧ (∀ v ∈ ws, 0 ≤ v ∧ v ≤ 9972) ∧ ∀ H', Same H H' → Q .non H'
def spHandedT (K : PySem.W.Frag) (C : Addr) : Sp := fun vs H Q _ => ∃ (p l b : Addr) (m : Mm.Mem) (j n : Nat) (ws : List Int), vs = [.ref p, .int (j : Int), .int (n : Int), .ref b] ∧ Mm.MemAt C p l m H ∧ SqT K H b (ws.map V.int) ∧ j + n ≤ m.cells.length ∧ (∀ v ∈ ws, 0 ≤ v ∧ v ≤ 9972) ∧ ∀ H', Same H H' → Q .non H'
def spRank : Sp := fun vs H Q _ => ∃ x : V, vs = [x] ∧ okc x ∧ Q (.int (rk x)) H
def spCount (C CS : Addr) : Sp := fun vs H Q E => ∃ (p l : Addr) (m : Mm.Mem) (j : Nat) (x y : V), vs = [.ref p, .int (j : Int)] ∧ Mm.MemAt C p l m H ∧ m.cells[j]? = some x ∧ m.cells[j + 1]? = some y ∧ okc x ∧ okc y ∧
  (m.up = true → ∀ H', Same H H' → Q (cntV x y) H') ∧ (m.up = false → E (.ref CS) none H)
/-- a counter raised -/
def raise (m : Mm.Mem) (x y : V) (j : Nat) (v : Int) : Mm.Mem × Option Bool :=
  if m.up = true then (if v ≤ top x y then (m, some false) else ((m.write (less x y j) v).1, if (m.write (less x y j) v).2 = true then some true else none)) else (m, none)
def spRaise (C CS : Addr) : Sp := fun vs H Q E => ∃ (p l : Addr) (m : Mm.Mem) (j : Nat) (v : Int) (x y : V), vs = [.ref p, .int (j : Int), .int v] ∧ Mm.MemAt C p l m H ∧ m.cells[j]? = some x ∧ m.cells[j + 1]? = some y ∧ okc x ∧ okc y ∧ 0 ≤ v ∧ v ≤ 9972 ∧
  ∀ H', Mm.MemAt C p l (raise m x y j v).1 H' → Mm.But [p, l] H H' → (∀ b, (raise m x y j v).2 = some b → Q (.bl b) H') ∧ ((raise m x y j v).2 = none → E (.ref CS) none H')
theorem Dr_ne_cells {K : PySem.W.Frag} {H0 : Hp} {ns : List Int} {a r b : Addr} {H : Hp} {cs : List V} (D : Dw.Dr K H0 ns a r H) (hc : ∀ v ∈ cs, Dw.cel v = true) (h : H b = some (.lst cs)) : b ≠ r := by
  obtain ⟨_, _, _, e, _⟩ := D.row
  refine ne_of h e fun z => ?_
  injection z with z
  have := hc (.ref a) (by rw [z]; exact List.mem_cons_self)
  cases this
/-- a law's memory, and the row that it draws with -/
structure Lw (K : PySem.W.Frag) (H0 : Hp) (ns : List Int) (sa r C p l : Addr) (m : Mm.Mem) (H : Hp) : Prop where
  dr : Dw.Dr K H0 ns sa r H
  me : Mm.MemAt C p l m H
  ok : ∀ v ∈ m.cells, okc v
  fp : Dw.Fr0 H0 p
  fl : Dw.Fr0 H0 l
section
variable {K : PySem.W.Frag} {H0 : Hp} {ns : List Int} {sa r C p l : Addr} {m m' : Mm.Mem} {H H' : Hp}
theorem Lw.npr (I : Lw K H0 ns sa r C p l m H) : p ≠ r := by
  obtain ⟨_, _, _, e, _⟩ := I.dr.row
  obtain ⟨_, _, h, _⟩ := I.me.ob
  exact ne_of h e (by intro z; cases z)
theorem Lw.nlr (I : Lw K H0 ns sa r C p l m H) : l ≠ r := Dr_ne_cells I.dr I.me.cel I.me.ls
theorem Lw.mono (I : Lw K H0 ns sa r C p l m H) (s : Same H H') : Lw K H0 ns sa r C p l m H' := ⟨I.dr.mono s, I.me.mono s, I.ok, I.fp, I.fl⟩
theorem Lw.keep (I : Lw K H0 ns sa r C p l m H) (D : Dw.Dr K H0 ns sa r H') (k : Dw.Keep r H H') : Lw K H0 ns sa r C p l m H' :=
  ⟨D, I.me.but (S := [r]) (fun b o n h => k b o (fun z => n (by rw [z]; exact List.mem_cons_self)) h) (fun z => I.npr (List.mem_singleton.mp z)) (fun z => I.nlr (List.mem_singleton.mp z)), I.ok, I.fp, I.fl⟩
theorem Lw.run (I : Lw K H0 ns sa r C p l m H) (M : Mm.MemAt C p l m' H') (k : Mm.But [p, l] H H') (ok : ∀ v ∈ m'.cells, okc v) : Lw K H0 ns sa r C p l m' H' :=
  ⟨I.dr.but k.n (by simp [I.npr.symm, I.nlr.symm]) (fun b hb => by
    simp only [List.mem_cons, List.not_mem_nil, or_false] at hb
    rcases hb with rfl | rfl
    · exact I.fp
    · exact I.fl), M, ok, I.fp, I.fl⟩
theorem Lw.at (I : Lw K H0 ns sa r C p l m H) {j : Nat} (h : j < m.cells.length) : ∃ v, m.cells[j]? = some v ∧ okc v := ⟨m.cells[j], List.getElem?_eq_getElem h, I.ok _ (List.getElem_mem h)⟩
end
theorem ok_set {cs : List V} {j : Nat} {v : V} (h : ∀ x ∈ cs, okc x) (hv : okc v) : ∀ x ∈ cs.set j v, okc x := fun x hx => by
  rcases List.mem_or_eq_of_mem_set hx with z | z
  · exact h x z
  · rw [z]
    exact hv
theorem ok_torn {t : Str} {cs : List V} {j : Nat} {v : Int} (h : ∀ x ∈ cs, okc x) (v0 : 0 ≤ v) (v1 : v ≤ 9972) : ∀ x ∈ Mm.tornTo t cs j v, okc x := by
  unfold Mm.tornTo
  split
  · exact ok_set h (.inl rfl)
  · split
    · exact ok_set h (.inr ⟨v, rfl, v0, v1⟩)
    · exact h
theorem ok_write {m : Mm.Mem} {j : Nat} {v : Int} (h : ∀ x ∈ m.cells, okc x) (v0 : 0 ≤ v) (v1 : v ≤ 9972) : ∀ x ∈ (m.write j v).1.cells, okc x := by
  by_cases hu : m.up = true
  · by_cases h0 : m.left = some 0
    · rw [Mm.write_cut hu h0]
      exact ok_torn h v0 v1
    · rw [Mm.write_ok hu h0]
      exact ok_set h (.inr ⟨v, rfl, v0, v1⟩)
  · rw [Mm.write_down (Bool.eq_false_iff.mpr hu)]
    exact h
theorem ok_rep (n : Nat) : ∀ x ∈ List.replicate n (V.int 0), okc x := fun x hx => by
  rw [List.eq_of_mem_replicate hx]
  exact .inr ⟨0, rfl, by decide, by decide⟩
/-- writes all done, in a memory that has power and no cut due -/
theorem write_free {m : Mm.Mem} {j : Nat} {v : Int} (hu : m.up = true) (hl : m.left = none) : m.write j v = (⟨m.cells.set j (.int v), m.many + 1, true, none, m.torn⟩, true) := by
  rw [Mm.write_ok hu (by rw [hl]; intro z; cases z), hl]
  rfl
theorem raise_free {cs : List V} {n : Int} {t : Str} {x y : V} {j : Nat} {v : Int} : raise ⟨cs, n, true, none, t⟩ x y j v = (⟨rcs x y j cs v, if v ≤ top x y then n else n + 1, true, none, t⟩, some (rb x y v)) := by
  unfold raise rcs rb
  rw [if_pos rfl]
  by_cases h : v ≤ top x y
  · rw [if_pos h, if_pos h, if_pos h, decide_eq_true h]
    rfl
  · rw [if_neg h, if_neg h, if_neg h, decide_eq_false h, write_free rfl rfl]
    rfl
theorem rcs_len {x y : V} {j : Nat} {cs : List V} {v : Int} : (rcs x y j cs v).length = cs.length := by
  unfold rcs
  split
  · rfl
  · exact List.length_set
theorem rcs_ok {x y : V} {j : Nat} {cs : List V} {v : Int} (h : ∀ z ∈ cs, okc z) (v0 : 0 ≤ v) (v1 : v ≤ 9972) : ∀ z ∈ rcs x y j cs v, okc z := by
  unfold rcs
  split
  · exact h
  · exact ok_set h (.inr ⟨v, rfl, v0, v1⟩)
/-- a number for a cell, or None -/
theorem at_cell {w t u : Int} (w0 : 0 ≤ w) (w1 : w < 9973) (t0 : 0 ≤ t) (t1 : t < 3) (u0 : 0 ≤ u) (u1 : u < 3) : ∃ x : V, atI [V.int w, V.int t, V.non] u = some x ∧ okc x := by
  have e : u = 0 ∨ u = 1 ∨ u = 2 := by omega
  rcases e with rfl | rfl | rfl
  · exact ⟨_, rfl, .inr ⟨w, rfl, w0, by omega⟩⟩
  · exact ⟨_, rfl, .inr ⟨t, rfl, t0, by omega⟩⟩
  · exact ⟨_, rfl, .inl rfl⟩
theorem at_two {w t u : Int} (u0 : 0 ≤ u) (u1 : u < 2) : ∃ x : Int, atI [V.int w, V.int t] u = some (.int x) ∧ (x = w ∨ x = t) := by
  have e : u = 0 ∨ u = 1 := by omega
  rcases e with rfl | rfl
  · exact ⟨_, rfl, .inl rfl⟩
  · exact ⟨_, rfl, .inr rfl⟩
theorem dep_c {v : V} (h : Dw.cel v = true) : (Dw.dat v).depth < 5 := by
  rw [(Dw.lay_dat h).2]
  decide
theorem td_cel {H : Hp} : ∀ {v : V}, Dw.cel v = true → Dw.Td H v (Dw.dat v)
  | .int i, _ => .int i
  | .non, _ => .non
end Ct

set_option maxRecDepth 100000
set_option maxHeartbeats 4000000
set_option pp.maxSteps 1500
namespace K06
open PySem PySem.Spec PyProof.Rows L2
def topS (i : Nat) : Stmt := PySem.Challenge.pw_twoimages_k06_whole_a_counter_never_goes.main.body.getD i (.Pass ⟨0, 0, 0, 0⟩)
abbrev s_check_worth : Stmt := topS 13
abbrev N_check_worth : List Str := ["worth"]
abbrev P_check_worth : List Str := ["worth"]
theorem sc_check_worth : FnScope N_check_worth P_check_worth (defScope s_check_worth) := ⟨rfl, rfl, rfl, by decide +kernel, rfl, by decide +kernel, by decide +kernel⟩
abbrev s_Memory___init__ : Stmt := inClass (topS 14) 0
abbrev N_Memory___init__ : List Str := ["self", "size"]
abbrev P_Memory___init__ : List Str := ["self", "size"]
theorem sc_Memory___init__ : FnScope N_Memory___init__ P_Memory___init__ (defScope s_Memory___init__) := ⟨rfl, rfl, rfl, by decide +kernel, rfl, by decide +kernel, by decide +kernel⟩
abbrev s_Memory_row : Stmt := inClass (topS 14) 2
abbrev N_Memory_row : List Str := ["self", "place", "many", "at"]
abbrev P_Memory_row : List Str := ["self", "place", "many"]
theorem sc_Memory_row : FnScope N_Memory_row P_Memory_row (defScope s_Memory_row) := ⟨rfl, rfl, rfl, by decide +kernel, rfl, by decide +kernel, by decide +kernel⟩
abbrev s_Memory_write : Stmt := inClass (topS 14) 3
abbrev N_Memory_write : List Str := ["self", "place", "worth"]
abbrev P_Memory_write : List Str := ["self", "place", "worth"]
theorem sc_Memory_write : FnScope N_Memory_write P_Memory_write (defScope s_Memory_write) := ⟨rfl, rfl, rfl, by decide +kernel, rfl, by decide +kernel, by decide +kernel⟩
abbrev s_Memory_cut : Stmt := inClass (topS 14) 6
abbrev N_Memory_cut : List Str := ["self", "many", "torn"]
abbrev P_Memory_cut : List Str := ["self", "many", "torn"]
theorem sc_Memory_cut : FnScope N_Memory_cut P_Memory_cut (defScope s_Memory_cut) := ⟨rfl, rfl, rfl, by decide +kernel, rfl, by decide +kernel, by decide +kernel⟩
abbrev s_Memory_up : Stmt := inClass (topS 14) 7
abbrev N_Memory_up : List Str := ["self"]
abbrev P_Memory_up : List Str := ["self"]
theorem sc_Memory_up : FnScope N_Memory_up P_Memory_up (defScope s_Memory_up) := ⟨rfl, rfl, rfl, by decide +kernel, rfl, by decide +kernel, by decide +kernel⟩
abbrev s_Memory_cells : Stmt := inClass (topS 14) 8
abbrev N_Memory_cells : List Str := ["self"]
abbrev P_Memory_cells : List Str := ["self"]
theorem sc_Memory_cells : FnScope N_Memory_cells P_Memory_cells (defScope s_Memory_cells) := ⟨rfl, rfl, rfl, by decide +kernel, rfl, by decide +kernel, by decide +kernel⟩
abbrev s_Memory__check_place : Stmt := inClass (topS 14) 10
abbrev N_Memory__check_place : List Str := ["self", "place"]
abbrev P_Memory__check_place : List Str := ["self", "place"]
theorem sc_Memory__check_place : FnScope N_Memory__check_place P_Memory__check_place (defScope s_Memory__check_place) := ⟨rfl, rfl, rfl, by decide +kernel, rfl, by decide +kernel, by decide +kernel⟩
abbrev s_Memory__check_power : Stmt := inClass (topS 14) 11
abbrev N_Memory__check_power : List Str := ["self"]
abbrev P_Memory__check_power : List Str := ["self"]
theorem sc_Memory__check_power : FnScope N_Memory__check_power P_Memory__check_power (defScope s_Memory__check_power) := ⟨rfl, rfl, rfl, by decide +kernel, rfl, by decide +kernel, by decide +kernel⟩
abbrev s_Memory__lose_power : Stmt := inClass (topS 14) 12
abbrev N_Memory__lose_power : List Str := ["self", "place", "worth"]
abbrev P_Memory__lose_power : List Str := ["self", "place", "worth"]
theorem sc_Memory__lose_power : FnScope N_Memory__lose_power P_Memory__lose_power (defScope s_Memory__lose_power) := ⟨rfl, rfl, rfl, by decide +kernel, rfl, by decide +kernel, by decide +kernel⟩
abbrev s_check_handed : Stmt := topS 16
abbrev N_check_handed : List Str := ["memory", "place", "many", "row", "worth"]
abbrev P_check_handed : List Str := ["memory", "place", "many", "row"]
theorem sc_check_handed : FnScope N_check_handed P_check_handed (defScope s_check_handed) := ⟨rfl, rfl, rfl, by decide +kernel, rfl, by decide +kernel, by decide +kernel⟩
abbrev s_count : Stmt := topS 19
abbrev N_count : List Str := ["memory", "place", "whole", "worth"]
abbrev P_count : List Str := ["memory", "place"]
theorem sc_count : FnScope N_count P_count (defScope s_count) := ⟨rfl, rfl, rfl, by decide +kernel, rfl, by decide +kernel, by decide +kernel⟩
abbrev s_raise_to : Stmt := topS 20
abbrev N_raise_to : List Str := ["memory", "place", "number", "first", "second", "lesser", "worth"]
abbrev P_raise_to : List Str := ["memory", "place", "number"]
theorem sc_raise_to : FnScope N_raise_to P_raise_to (defScope s_raise_to) := ⟨rfl, rfl, rfl, by decide +kernel, rfl, by decide +kernel, by decide +kernel⟩
abbrev s_rank : Stmt := topS 21
abbrev N_rank : List Str := ["worth"]
abbrev P_rank : List Str := ["worth"]
theorem sc_rank : FnScope N_rank P_rank (defScope s_rank) := ⟨rfl, rfl, rfl, by decide +kernel, rfl, by decide +kernel, by decide +kernel⟩
abbrev s_l_taken : Stmt := topS 23
abbrev N_l_taken : List Str := ["_law_row", "_law_many", "_law_found", "_law_cell"]
abbrev P_l_taken : List Str := ["_law_row", "_law_many"]
theorem sc_l_taken : FnScope N_l_taken P_l_taken (defScope s_l_taken) := ⟨rfl, rfl, rfl, by decide +kernel, rfl, by decide +kernel, by decide +kernel⟩
abbrev s_l_is_whole : Stmt := topS 24
abbrev N_l_is_whole : List Str := ["_law_memory", "_law_number"]
abbrev P_l_is_whole : List Str := ["_law_memory", "_law_number"]
theorem sc_l_is_whole : FnScope N_l_is_whole P_l_is_whole (defScope s_l_is_whole) := ⟨rfl, rfl, rfl, by decide +kernel, rfl, by decide +kernel, by decide +kernel⟩
abbrev s_law : Stmt := topS 25
abbrev N_law : List Str := ["_law_script", "_law_row", "_law_memory", "_law_told", "_law_turn", "_law_number", "_law_whole", "_law_here"]
abbrev P_law : List Str := ["_law_script"]
theorem sc_law : FnScope N_law P_law (defScope s_law) := ⟨rfl, rfl, rfl, by decide +kernel, rfl, by decide +kernel, by decide +kernel⟩
structure Ad where
  f_check_worth : Addr
  d_check_worth : FuncData
  f_Memory___init__ : Addr
  d_Memory___init__ : FuncData
  f_Memory_row : Addr
  d_Memory_row : FuncData
  f_Memory_write : Addr
  d_Memory_write : FuncData
  f_Memory_cut : Addr
  d_Memory_cut : FuncData
  f_Memory_up : Addr
  d_Memory_up : FuncData
  f_Memory_cells : Addr
  d_Memory_cells : FuncData
  f_Memory__check_place : Addr
  d_Memory__check_place : FuncData
  f_Memory__check_power : Addr
  d_Memory__check_power : FuncData
  f_Memory__lose_power : Addr
  d_Memory__lose_power : FuncData
  f_check_handed : Addr
  d_check_handed : FuncData
  f_count : Addr
  d_count : FuncData
  f_raise_to : Addr
  d_raise_to : FuncData
  f_rank : Addr
  d_rank : FuncData
  f_l_taken : Addr
  d_l_taken : FuncData
  f_l_is_whole : Addr
  d_l_is_whole : FuncData
  f_law : Addr
  d_law : FuncData
  t_COUNTER_CELLS : Tok
  t_GREATEST_WORTH : Tok
  t_LATEST_CUT : Tok
  t_MOST_CELLS : Tok
  t_TORN : Addr
  C_Memory : Addr
  C_Stopped : Addr
structure Top (K : PySem.W.Frag) (mg : Str → Option Value) (a : Ad) : Prop where
  F_check_worth : Fun K "check_worth" "check_worth" s_check_worth a.f_check_worth a.d_check_worth
  B_check_worth : Binds K a.d_check_worth P_check_worth []
  g_check_worth : mg "check_worth" = some (.ref a.f_check_worth)
  F_Memory___init__ : Fun K "__init__" "Memory.__init__" s_Memory___init__ a.f_Memory___init__ a.d_Memory___init__
  B_Memory___init__ : Binds K a.d_Memory___init__ P_Memory___init__ []
  mk_Memory : Mk K a.C_Memory a.f_Memory___init__
  F_Memory_row : Fun K "row" "Memory.row" s_Memory_row a.f_Memory_row a.d_Memory_row
  B_Memory_row : Binds K a.d_Memory_row P_Memory_row []
  m_Memory_row : Meth K a.C_Memory "row" a.f_Memory_row
  F_Memory_write : Fun K "write" "Memory.write" s_Memory_write a.f_Memory_write a.d_Memory_write
  B_Memory_write : Binds K a.d_Memory_write P_Memory_write []
  m_Memory_write : Meth K a.C_Memory "write" a.f_Memory_write
  F_Memory_cut : Fun K "cut" "Memory.cut" s_Memory_cut a.f_Memory_cut a.d_Memory_cut
  B_Memory_cut : Binds K a.d_Memory_cut P_Memory_cut []
  m_Memory_cut : Meth K a.C_Memory "cut" a.f_Memory_cut
  F_Memory_up : Fun K "up" "Memory.up" s_Memory_up a.f_Memory_up a.d_Memory_up
  B_Memory_up : Binds K a.d_Memory_up P_Memory_up []
  m_Memory_up : Meth K a.C_Memory "up" a.f_Memory_up
  F_Memory_cells : Fun K "cells" "Memory.cells" s_Memory_cells a.f_Memory_cells a.d_Memory_cells
  B_Memory_cells : Binds K a.d_Memory_cells P_Memory_cells []
  m_Memory_cells : Meth K a.C_Memory "cells" a.f_Memory_cells
  F_Memory__check_place : Fun K "_check_place" "Memory._check_place" s_Memory__check_place a.f_Memory__check_place a.d_Memory__check_place
  B_Memory__check_place : Binds K a.d_Memory__check_place P_Memory__check_place []
  m_Memory__check_place : Meth K a.C_Memory "_check_place" a.f_Memory__check_place
  F_Memory__check_power : Fun K "_check_power" "Memory._check_power" s_Memory__check_power a.f_Memory__check_power a.d_Memory__check_power
  B_Memory__check_power : Binds K a.d_Memory__check_power P_Memory__check_power []
  m_Memory__check_power : Meth K a.C_Memory "_check_power" a.f_Memory__check_power
  F_Memory__lose_power : Fun K "_lose_power" "Memory._lose_power" s_Memory__lose_power a.f_Memory__lose_power a.d_Memory__lose_power
  B_Memory__lose_power : Binds K a.d_Memory__lose_power P_Memory__lose_power []
  m_Memory__lose_power : Meth K a.C_Memory "_lose_power" a.f_Memory__lose_power
  F_check_handed : Fun K "check_handed" "check_handed" s_check_handed a.f_check_handed a.d_check_handed
  B_check_handed : Binds K a.d_check_handed P_check_handed []
  g_check_handed : mg "check_handed" = some (.ref a.f_check_handed)
  F_count : Fun K "count" "count" s_count a.f_count a.d_count
  B_count : Binds K a.d_count P_count []
  g_count : mg "count" = some (.ref a.f_count)
  F_raise_to : Fun K "raise_to" "raise_to" s_raise_to a.f_raise_to a.d_raise_to
  B_raise_to : Binds K a.d_raise_to P_raise_to []
  g_raise_to : mg "raise_to" = some (.ref a.f_raise_to)
  F_rank : Fun K "rank" "rank" s_rank a.f_rank a.d_rank
  B_rank : Binds K a.d_rank P_rank []
  g_rank : mg "rank" = some (.ref a.f_rank)
  F_l_taken : Fun K "_law_taken" "_law_taken" s_l_taken a.f_l_taken a.d_l_taken
  B_l_taken : Binds K a.d_l_taken P_l_taken []
  g_l_taken : mg "_law_taken" = some (.ref a.f_l_taken)
  F_l_is_whole : Fun K "_law_is_whole" "_law_is_whole" s_l_is_whole a.f_l_is_whole a.d_l_is_whole
  B_l_is_whole : Binds K a.d_l_is_whole P_l_is_whole []
  g_l_is_whole : mg "_law_is_whole" = some (.ref a.f_l_is_whole)
  F_law : Fun K "law" "law" s_law a.f_law a.d_law
  B_law : Binds K a.d_law P_law []
  g_law : mg "law" = some (.ref a.f_law)
  cl_Memory : Cls K a.C_Memory
  g_Memory : mg "Memory" = some (.ref a.C_Memory)
  n_Memory__cells : NoAttr K a.C_Memory "_cells"
  n_Memory__whole_writes : NoAttr K a.C_Memory "_whole_writes"
  n_Memory__has_power : NoAttr K a.C_Memory "_has_power"
  n_Memory__ahead : NoAttr K a.C_Memory "_ahead"
  n_Memory__torn : NoAttr K a.C_Memory "_torn"
  g_Stopped : mg "Stopped" = some (.ref a.C_Stopped)
  x_Stopped : PySem.W.excIn K a.C_Stopped [.type "ValueError", .type "Exception", .type "BaseException", .type "object"] "ValueError.__new__" = true
  k_Stopped : PySem.W.keepIn K (.ref a.C_Stopped) = true
  b_Stopped : PySem.W.subIn K (.ref a.C_Stopped) (.type "BaseException") = some true
  t_Stopped : PySem.W.typeIn K (.ref a.C_Stopped) = some (.type "type")
  e_Stopped : PySem.W.exmOne K (.ref a.C_Stopped) (.ref a.C_Stopped) = some true
  b_len : mg "len" = none
  b_list : mg "list" = none
  b_max : mg "max" = none
  b_range : mg "range" = none
  c_COUNTER_CELLS : mg "COUNTER_CELLS" = some (.int 2 a.t_COUNTER_CELLS)
  c_GREATEST_WORTH : mg "GREATEST_WORTH" = some (.int 9972 a.t_GREATEST_WORTH)
  c_LATEST_CUT : mg "LATEST_CUT" = some (.int 100000 a.t_LATEST_CUT)
  c_MOST_CELLS : mg "MOST_CELLS" = some (.int 400 a.t_MOST_CELLS)
  c_TORN : mg "TORN" = some (.ref a.t_TORN)
  w_TORN : ∀ H : Hp, SqT K H a.t_TORN [.str "old", .str "broken", .str "new"]
section
variable {P : Program} {w : World} {K : PySem.W.Frag} {mg : Str → Option Value} {base : Heap}
theorem G_l_taken {a : Ad} (T : Top K mg a) : FnOk P w K mg base CX0 1 a.f_l_taken a.d_l_taken P_l_taken (Dw.spTaken K) := by
  refine T.F_l_taken.ok sc_l_taken (fun vs H Q E h => ?_) (fun cdv A outer s H vs Q E hr h => ?_)
  · obtain ⟨_, _, _, _, _, rfl, _⟩ := h
    rfl
  · obtain ⟨H0, ns, sa, r, m, rfl, D, hm0, hm1, q⟩ := h
    obtain ⟨p, u, z, hR, hp, hu0, hu1⟩ := D.row
    have sR : SqL K H r [.ref sa, .int p, .int u, .int z] := Dw.sq_of hR
    refine ⟨_, (pss_cons (ps_if (pt_cmpR op_gt (pe_ix ix_list (pv 0) pe_int (fun _ _ => rfl)) pe_int (nomark _))
        (pss_cons (ps_set (i := 2) sc_l_taken.nd rfl (Or.inl rfl) (pe_op op_mod (pe_ix ix_list (pv 0) pe_int (fun _ _ => rfl)) (pv 1)))
      (pss_cons (ps_asg (pe_op op_fdiv (pe_ix ix_list (pv 0) pe_int (fun _ _ => rfl)) (pv 1)) (pg_sub (pv 0) pe_int set_list))
      (pss_one (ps_ret (pv 2)))))
        pss_nil)
      (pss_cons (ps_asg (pe_op op_add (pe_ix ix_list (pv 0) pe_int (fun _ _ => rfl)) pe_int) (pg_sub (pv 0) pe_int set_list))
      (pss_cons (ps_if (pt_cmpR op_gt (pe_ix ix_list (pv 0) pe_int (fun _ _ => rfl)) (pe_callB call_len_seq (by rfl) T.b_len PySem.boot_len (pa_cons (pe_ix ix_list (pv 0) pe_int (fun _ _ => rfl)) pa_nil)) (nomark _))
        (pss_cons (ps_asg (pe_op op_mod (pe_op op_add (pe_op op_mul (pe_ix ix_list (pv 0) pe_int (fun _ _ => rfl)) pe_int) pe_int) pe_int) (pg_sub (pv 0) pe_int set_list))
      (pss_one (ps_ret (pe_op op_mod (pe_op op_fdiv (pe_ix ix_list (pv 0) pe_int (fun _ _ => rfl)) pe_int) (pv 1)))))
        pss_nil)
      (pss_cons (ps_set (i := 3) sc_l_taken.nd rfl (Or.inl rfl) (pe_ix ix_list (pe_ix ix_list (pv 0) pe_int (fun _ _ => rfl)) (pe_op op_sub (pe_ix ix_list (pv 0) pe_int (fun _ _ => rfl)) pe_int) (fun _ _ => rfl)))
      (pss_cons (ps_asg (pe_op op_mod (pe_op op_add (pe_op op_add (pe_op op_mul (pe_ix ix_list (pv 0) pe_int (fun _ _ => rfl)) pe_int) (pv 3)) pe_int) pe_int) (pg_sub (pv 0) pe_int set_list))
      (pss_cons (ps_if (pt_cmpR op_ge (pv 3) (pe_op op_pow pe_int pe_int) (nomark _))
        (pss_one (ps_asg (pe_op op_fdiv (pv 3) (pv 1)) (pg_sub (pv 0) pe_int set_list)))
        pss_nil)
      (pss_one (ps_ret (pe_op op_mod (pv 3) (pv 1)))))))))), ?_⟩
    refine ⟨.ref r, rfl, r, _, 3, .int z, rfl, rfl, sR, atI_nat (j := 3) rfl, z, 0, rfl, rfl, _, rfl, ite2 (fun hz => ?_) (fun hz => ?_)⟩
    · refine ⟨.ref r, rfl, r, _, 3, .int z, rfl, rfl, sR, atI_nat (j := 3) rfl, .int m, rfl, z, m, rfl, rfl, hm0, ?_⟩
      refine ⟨.ref r, rfl, r, _, 3, .int z, rfl, rfl, sR, atI_nat (j := 3) rfl, .int m, rfl, z, m, rfl, rfl, ⟨hm0, hm1⟩, .ref r, rfl, r, _, 3, 3, rfl, rfl, hR, rfl, ?_⟩
      exact ⟨_, rfl, q (z % m) _ (D.put (p := p) (q := u) (z := z / m) hp hu0 hu1) Dw.Keep.put (Int.emod_nonneg _ (by omega)) (Int.emod_lt_of_pos _ hm0)⟩
    · -- the next cell
      refine ⟨.ref r, rfl, r, _, 1, .int p, rfl, rfl, sR, atI_nat (j := 1) rfl, p, 1, rfl, rfl, .ref r, rfl, r, _, 1, 1, rfl, rfl, hR, rfl, ?_⟩
      have D1 : Dw.Dr K H0 ns sa r (upd H r (.lst [.ref sa, .int (p + 1), .int u, .int z])) := D.put (by omega) hu0 hu1
      have sR1 : SqL K (upd H r (.lst [.ref sa, .int (p + 1), .int u, .int z])) r [.ref sa, .int (p + 1), .int u, .int z] := Dw.sq_of upd_same
      have hA : SqL K (upd H r (.lst [.ref sa, .int (p + 1), .int u, .int z])) sa (ns.map V.int) := D1.seq
      refine ⟨.ref r, rfl, r, _, 1, .int (p + 1), rfl, rfl, sR1, atI_nat (j := 1) rfl, .ref r, rfl, r, _, 0, .ref sa, rfl, rfl, sR1, atI_nat (j := 0) rfl, sa, _, rfl, .inl hA, p + 1, _, rfl, rfl, _, rfl, ite2 (fun hl => ?_) (fun hl => ?_)⟩
      · refine ⟨.ref r, rfl, r, _, 2, .int u, rfl, rfl, sR1, atI_nat (j := 2) rfl, u, 48271, rfl, rfl, .inr ⟨by decide, by decide⟩, u * 48271, 11, rfl, rfl, _, 2147483647, rfl, rfl, (by show (0 : Int) < 2147483647; decide), .ref r, rfl, r, _, 2, 2, rfl, rfl, upd_same, rfl, ?_⟩
        have D2 : Dw.Dr K H0 ns sa r (upd (upd H r (.lst [.ref sa, .int (p + 1), .int u, .int z])) r (.lst [.ref sa, .int (p + 1), .int ((u * 48271 + 11) % 2147483647), .int z])) := D1.put (by omega) (by omega) (by omega)
        refine ⟨.ref r, rfl, r, _, 2, .int ((u * 48271 + 11) % 2147483647), rfl, rfl, Dw.sq_of upd_same, atI_nat (j := 2) rfl, _, 7, rfl, rfl, ⟨by decide, by decide⟩, .int m, rfl, _, m, rfl, rfl, hm0, ?_⟩
        exact q _ _ D2 (Dw.Keep.put.trans Dw.Keep.put) (Int.emod_nonneg _ (by omega)) (Int.emod_lt_of_pos _ hm0)
      · have hlt : p < (ns.length : Int) := by
          have h1 := of_decide_eq_false (Bool.eq_false_iff.mpr hl)
          rw [List.length_map] at h1
          omega
        obtain ⟨c, hc⟩ : ∃ c, ns[p.toNat]? = some c := ⟨_, List.getElem?_eq_getElem (show p.toNat < ns.length by omega)⟩
        have hat : atI (ns.map V.int) (p + 1 - 1) = some (.int c) := at_of (j := p.toNat) (by omega) (by rw [List.getElem?_map, hc]; rfl)
        refine ⟨.ref r, rfl, r, _, 0, .ref sa, rfl, rfl, sR1, atI_nat (j := 0) rfl, .ref r, rfl, r, _, 1, .int (p + 1), rfl, rfl, sR1, atI_nat (j := 1) rfl, p + 1, 1, rfl, rfl, sa, _, _, _, rfl, rfl, hA, hat, ?_⟩
        refine ⟨.ref r, rfl, r, _, 2, .int u, rfl, rfl, sR1, atI_nat (j := 2) rfl, u, 48271, rfl, rfl, .inr ⟨by decide, by decide⟩, .int c, rfl, u * 48271, c, rfl, rfl, _, 11, rfl, rfl, _, 2147483647, rfl, rfl, (by show (0 : Int) < 2147483647; decide), .ref r, rfl, r, _, 2, 2, rfl, rfl, upd_same, rfl, ?_⟩
        have D2 : Dw.Dr K H0 ns sa r (upd (upd H r (.lst [.ref sa, .int (p + 1), .int u, .int z])) r (.lst [.ref sa, .int (p + 1), .int ((u * 48271 + c + 11) % 2147483647), .int z])) := D1.put (by omega) (by omega) (by omega)
        refine ⟨.int c, rfl, 10, 18, rfl, rfl, ⟨by decide, by decide, by decide⟩, c, _, rfl, rfl, _, rfl, ite2 (fun hg => ?_) (fun hg => ?_)⟩
        · refine ⟨.int c, rfl, .int m, rfl, c, m, rfl, rfl, ⟨hm0, hm1⟩, .ref r, rfl, r, _, 3, 3, rfl, rfl, upd_same, rfl, ?_⟩
          have D3 := D2.put (p := p + 1) (q := (u * 48271 + c + 11) % 2147483647) (z := c / m) (by omega) (by omega) (by omega)
          exact ⟨.int c, rfl, .int m, rfl, c, m, rfl, rfl, hm0, q _ _ D3 ((Dw.Keep.put.trans Dw.Keep.put).trans Dw.Keep.put) (Int.emod_nonneg _ (by omega)) (Int.emod_lt_of_pos _ hm0)⟩
        · exact ⟨.int c, rfl, .int m, rfl, c, m, rfl, rfl, hm0, q _ _ D2 (Dw.Keep.put.trans Dw.Keep.put) (Int.emod_nonneg _ (by omega)) (Int.emod_lt_of_pos _ hm0)⟩

theorem G_check_worth {a : Ad} (T : Top K mg a) : FnOk P w K mg base CX0 1 a.f_check_worth a.d_check_worth P_check_worth Mm.spWorth := by
  refine T.F_check_worth.ok sc_check_worth (fun vs H Q E h => ?_) (fun cdv A outer s H vs Q E hr h => ?_)
  · obtain ⟨_, rfl, _⟩ := h
    rfl
  · obtain ⟨v, rfl, v0, v1, q⟩ := h
    refine ⟨_, (pss_one (ps_if (pt_not (pt_chain op_le op_le pe_int (pv 0) (pe_glob (v := .int 9972) rfl T.c_GREATEST_WORTH ⟨_, rfl⟩)))
        (pss_one ps_never)
        pss_nil)), ?_⟩
    refine ⟨_, rfl, 0, v, rfl, rfl, _, rfl, ite2 (fun _ => ?_) (fun e => absurd (decide_eq_true v0) e)⟩
    exact ⟨v, 9972, rfl, rfl, _, rfl, iteNS v1 q⟩
theorem G_Memory__check_place {a : Ad} (T : Top K mg a) : FnOk P w K mg base CX0 1 a.f_Memory__check_place a.d_Memory__check_place P_Memory__check_place (Mm.spPlace a.C_Memory) := by
  refine T.F_Memory__check_place.ok sc_Memory__check_place (fun vs H Q E h => ?_) (fun cdv A outer s H vs Q E hr h => ?_)
  · obtain ⟨_, _, _, _, rfl, _⟩ := h
    rfl
  · obtain ⟨p, l, m, j, rfl, M, hj, q⟩ := h
    obtain ⟨dx, ah, hp, _⟩ := M.ob
    refine ⟨_, (pss_one (ps_if (pt_not (pt_chain op_le op_lt pe_int (pv 1) (pe_callB call_len_seq (by rfl) T.b_len PySem.boot_len (pa_cons (pe_fld (pv 0) rfl) pa_nil))))
        (pss_one ps_never)
        pss_nil)), ?_⟩
    refine ⟨_, rfl, 0, (j : Int), rfl, rfl, _, rfl, ite2 (fun _ => ?_) (fun e => absurd (decide_eq_true (by omega)) e)⟩
    refine ⟨.ref p, rfl, p, _, dx, _, _, rfl, hp, T.cl_Memory, T.n_Memory__cells, Mm.mf_cells, l, _, rfl, .inl (Dw.sq_of M.ls), (j : Int), _, rfl, rfl, _, rfl, iteNS (by omega) q⟩
theorem G_Memory__check_power {a : Ad} (T : Top K mg a) : FnOk P w K mg base (L2.CX P w) 1 a.f_Memory__check_power a.d_Memory__check_power P_Memory__check_power (Mm.spPower a.C_Memory a.C_Stopped) := by
  refine T.F_Memory__check_power.okX sc_Memory__check_power (fun vs H Q E h => ?_) (fun cdv A outer s H vs Q E hr h => ?_)
  · obtain ⟨_, _, _, rfl, _⟩ := h
    rfl
  · obtain ⟨p, l, m, rfl, M, q1, q0⟩ := h
    obtain ⟨dx, ah, hp, _⟩ := M.ob
    refine ⟨_, (pss_one (ps_if (pt_not (pt_val (pe_fld (pv 0) rfl)))
        (pss_one (ps_raise rfl (takes_of rfl rfl rfl rfl) (pmk_own PySem.F.excBase_ValueError T.x_Stopped T.g_Stopped T.k_Stopped (raises_own T.b_Stopped T.t_Stopped) (by exact rfl))))
        pss_nil)), ?_⟩
    refine ⟨.ref p, rfl, p, _, dx, _, _, rfl, hp, T.cl_Memory, T.n_Memory__has_power, Mm.mf_up, m.up, rfl, ?_⟩
    cases hu : m.up with
    | true => exact q1 hu
    | false => exact q0 hu
theorem G_Memory__lose_power {a : Ad} (T : Top K mg a) : FnOk P w K mg base (L2.CX P w) 1 a.f_Memory__lose_power a.d_Memory__lose_power P_Memory__lose_power (Mm.spLose a.C_Memory a.C_Stopped) := by
  refine T.F_Memory__lose_power.okX sc_Memory__lose_power (fun vs H Q E h => ?_) (fun cdv A outer s H vs Q E hr h => ?_)
  · obtain ⟨_, _, _, _, _, rfl, _⟩ := h
    rfl
  · obtain ⟨p, l, m, j, v, rfl, M, hj, q⟩ := h
    obtain ⟨dx, ah, hp, _⟩ := M.ob
    have nlp := M.ne
    refine ⟨_, (pss_cons (ps_fld (pv 0) pe_bl rfl)
      (C8.pss_cut (ps_if (pt_cmpR op_eq (pe_fld (pv 0) rfl) pe_str (nomark _))
        (pss_one (ps_asg pe_non (pg_sub (pe_fld (pv 0) rfl) (pv 1) set_list)))
        (pss_one (ps_if (pt_cmpR op_eq (pe_fld (pv 0) rfl) pe_str (nomark _))
        (pss_one (ps_asg (pv 2) (pg_sub (pe_fld (pv 0) rfl) (pv 1) set_list)))
        pss_nil)))
      (pss_one (ps_raise rfl (takes_of rfl rfl rfl rfl) (pmk_own PySem.F.excBase_ValueError T.x_Stopped T.g_Stopped T.k_Stopped (raises_own T.b_Stopped T.t_Stopped) (by exact rfl)))))), ?_⟩
    refine ⟨.ref p, rfl, p, _, dx, _, rfl, hp, T.cl_Memory, T.n_Memory__has_power, Mm.mf_few, ?_⟩
    have hp1 : (upd H p (.ins a.C_Memory dx (putF "_has_power" (.bl false) (Mm.mf l m.many m.up ah m.torn)))) p = some (.ins a.C_Memory dx (Mm.mf l m.many false ah m.torn)) := by rw [upd_same, Mm.put_up]
    have hl1 : (upd H p (.ins a.C_Memory dx (putF "_has_power" (.bl false) (Mm.mf l m.many m.up ah m.torn)))) l = some (.lst m.cells) := by rw [upd_ne nlp.symm]; exact M.ls
    have k1 : Mm.But [p, l] H (upd H p (.ins a.C_Memory dx (putF "_has_power" (.bl false) (Mm.mf l m.many m.up ah m.torn)))) := Mm.But.upd List.mem_cons_self
    generalize upd H p (.ins a.C_Memory dx (putF "_has_power" (.bl false) (Mm.mf l m.many m.up ah m.torn))) = H1 at hp1 hl1 k1 ⊢
    have hix : ixN m.cells.length (j : Int) = some j := Dw.ixN_nat hj
    have fin : ∀ H2, H2 p = some (.ins a.C_Memory dx (Mm.mf l m.many false ah m.torn)) → H2 l = some (.lst (Mm.tornTo m.torn m.cells j v)) → Mm.But [p, l] H H2 → E (.ref a.C_Stopped) none H2 := fun H2 e1 e2 k => q H2 ⟨⟨dx, ah, e1, fun z => (by cases z)⟩, e2, Mm.cel_torn M.cel, by show (Mm.tornTo m.torn m.cells j v).length ≤ 400; rw [Mm.torn_len]; exact M.len⟩ k
    refine ⟨fun σ' H2 => σ' = [some (.ref p), some (.int (j : Int)), some (.int v)] ∧ H2 p = some (.ins a.C_Memory dx (Mm.mf l m.many false ah m.torn)) ∧ H2 l = some (.lst (Mm.tornTo m.torn m.cells j v)) ∧ Mm.But [p, l] H H2, ?_, fun σ' H2 ⟨_, e1, e2, k⟩ => fin H2 e1 e2 k⟩
    refine ⟨.ref p, rfl, p, _, dx, _, _, rfl, hp1, T.cl_Memory, T.n_Memory__torn, Mm.mf_torn, rfl, _, rfl, ite2 (fun e => ?_) (fun e => ?_)⟩
    · have et : m.torn = "broken" := V.str.inj (of_decide_eq_true e)
      refine ⟨.ref p, rfl, p, _, dx, _, _, rfl, hp1, T.cl_Memory, T.n_Memory__cells, Mm.mf_cells, .int (j : Int), rfl, l, _, (j : Int), j, rfl, rfl, hl1, hix, ?_⟩
      refine ⟨rfl, by rw [upd_ne nlp]; exact hp1, ?_, k1.trans (Mm.But.upd (List.mem_cons_of_mem _ List.mem_cons_self))⟩
      rw [upd_same, et]
      unfold Mm.tornTo
      rw [if_pos rfl]
    · have nt : ¬ m.torn = "broken" := fun z => e (decide_eq_true (by rw [z]))
      refine ⟨.ref p, rfl, p, _, dx, _, _, rfl, hp1, T.cl_Memory, T.n_Memory__torn, Mm.mf_torn, rfl, _, rfl, ite2 (fun e2 => ?_) (fun e2 => ?_)⟩
      · have et : m.torn = "new" := V.str.inj (of_decide_eq_true e2)
        refine ⟨.int v, rfl, .ref p, rfl, p, _, dx, _, _, rfl, hp1, T.cl_Memory, T.n_Memory__cells, Mm.mf_cells, .int (j : Int), rfl, l, _, (j : Int), j, rfl, rfl, hl1, hix, ?_⟩
        refine ⟨rfl, by rw [upd_ne nlp]; exact hp1, ?_, k1.trans (Mm.But.upd (List.mem_cons_of_mem _ List.mem_cons_self))⟩
        rw [upd_same]
        unfold Mm.tornTo
        rw [if_neg nt, if_pos et]
      · have nt2 : ¬ m.torn = "new" := fun z => e2 (decide_eq_true (by rw [z]))
        refine ⟨rfl, hp1, ?_, k1⟩
        unfold Mm.tornTo
        rw [if_neg nt, if_neg nt2]
        exact hl1
theorem G_Memory_write {a : Ad} (T : Top K mg a) : FnOk P w K mg base (L2.CX P w) 2 a.f_Memory_write a.d_Memory_write P_Memory_write (Mm.spWrite a.C_Memory a.C_Stopped) := by
  refine T.F_Memory_write.okX sc_Memory_write (fun vs H Q E h => ?_) (fun cdv A outer s H vs Q E hr h => ?_)
  · obtain ⟨_, _, _, _, _, rfl, _⟩ := h
    rfl
  · obtain ⟨p, l, m, j, v, rfl, M, hj, v0, v1, q⟩ := h
    obtain ⟨dx, ah, hp, hah⟩ := M.ob
    have nlp := M.ne
    refine ⟨_, (pss_cons (ps_expr (pe_meth (pv 0) T.cl_Memory T.m_Memory__check_place (G_Memory__check_place T) (hr.mono (by omega)) T.B_Memory__check_place .nil pass0 (pa_cons (pv 1) pa_nil)))
      (pss_cons (ps_expr (pe_call (G_check_worth T) (hr.mono (by omega)) (by rfl) T.g_check_worth T.F_check_worth.kp T.B_check_worth .nil pass0 (pa_cons (pv 2) pa_nil)))
      (pss_cons (ps_expr (pe_meth0 (pv 0) T.cl_Memory T.m_Memory__check_power (G_Memory__check_power T) (hr.mono (by omega)) T.B_Memory__check_power .nil (passes_call (takes_of rfl rfl rfl rfl) fun _ _ _ _ h => h)))
      (C8.pss_cut (ps_if (pt_cmpR op_eq (pe_fld (pv 0) rfl) pe_int (nomark _))
        (pss_one (ps_expr (pe_meth (pv 0) T.cl_Memory T.m_Memory__lose_power (G_Memory__lose_power T) (hr.mono (by omega)) T.B_Memory__lose_power .nil (passes_call (takes_of rfl rfl rfl rfl) fun _ _ _ _ h => h) (pa_cons (pv 1) (pa_cons (pv 2) pa_nil)))))
        pss_nil)
      (C8.pss_cut (ps_if (pt_cmpR op_notN (pe_fld (pv 0) rfl) pe_non (nomark _))
        (pss_one (ps_fldaug (pv 0) pe_int in_sub))
        pss_nil)
      (pss_cons (ps_asg (pv 2) (pg_sub (pe_fld (pv 0) rfl) (pv 1) set_list))
      (pss_one (ps_fldaug (pv 0) pe_int in_add)))))))), ?_⟩
    refine ⟨.ref p, rfl, p, dx, _, rfl, hp, Mm.mf_no (by decide +kernel) (by decide +kernel) (by decide +kernel) (by decide +kernel) (by decide +kernel), _, rfl, p, l, m, j, rfl, M, hj, ?_⟩
    refine ⟨_, rfl, v, rfl, v0, v1, ?_⟩
    refine ⟨.ref p, rfl, p, dx, _, rfl, hp, Mm.mf_no (by decide +kernel) (by decide +kernel) (by decide +kernel) (by decide +kernel) (by decide +kernel), p, l, m, rfl, M, fun hu => ?_, fun hu => ?_⟩
    · have ea := hah hu
      subst ea
      refine ⟨fun σ' H2 => σ' = [some (.ref p), some (.int (j : Int)), some (.int v)] ∧ H2 = H ∧ ¬ m.left = some 0, ?_, ?_⟩
      · have hsc : scal (Mm.leftV m.left) (.int 0) = true := by
          cases m.left <;> rfl
        refine ⟨.ref p, rfl, p, _, dx, _, _, rfl, hp, T.cl_Memory, T.n_Memory__ahead, Mm.mf_ahead, hsc, _, rfl, ite2 (fun e => ?_) (fun e => ?_)⟩
        · have e0 : m.left = some 0 := Mm.leftV_zero.mp (of_decide_eq_true e)
          refine ⟨.ref p, rfl, p, dx, _, rfl, hp, Mm.mf_no (by decide +kernel) (by decide +kernel) (by decide +kernel) (by decide +kernel) (by decide +kernel), _, rfl, _, rfl, p, l, m, j, v, rfl, M, hj, fun H' M' k => ?_⟩
          have qq := q H' (by rw [Mm.write_cut hu e0]; exact M') k
          exact qq.2 (by rw [Mm.write_cut hu e0])
        · exact ⟨rfl, rfl, fun z => e (decide_eq_true (Mm.leftV_zero.mpr z))⟩
      · rintro σ' H2 ⟨rfl, rfl, h0⟩
        refine ⟨fun σ' H3 => σ' = [some (.ref p), some (.int (j : Int)), some (.int v)] ∧ H3 p = some (.ins a.C_Memory dx (Mm.mf l m.many m.up (Mm.leftV (m.left.map (· - 1))) m.torn)) ∧ H3 l = some (.lst m.cells) ∧ Mm.But [p, l] H2 H3, ?_, ?_⟩
        · refine ⟨.ref p, rfl, p, _, dx, _, _, rfl, hp, T.cl_Memory, T.n_Memory__ahead, Mm.mf_ahead, rfl, _, rfl, ?_⟩
          cases hl : m.left with
          | none =>
            refine iteNS (c := V.non = V.non) rfl ⟨rfl, ?_, M.ls, Mm.But.refl _ _⟩
            rw [hl] at hp
            exact hp
          | some k =>
            have hk : k ≠ 0 := fun z => h0 (by rw [hl, z])
            rw [hl] at hp
            refine ite2 (fun _ => ?_) (fun e => absurd (by rfl) e)
            refine ⟨.ref p, rfl, p, _, dx, _, _, rfl, hp, T.cl_Memory, T.n_Memory__ahead, Mm.mf_ahead, (k : Int), 1, rfl, rfl, dx, _, hp, Mm.mf_few, ?_⟩
            refine ⟨rfl, ?_, by rw [upd_ne nlp.symm]; exact M.ls, Mm.But.upd List.mem_cons_self⟩
            rw [upd_same, Mm.put_ahead]
            have ek : (k : Int) - 1 = ((k - 1 : Nat) : Int) := by omega
            rw [ek]
            rfl
        · rintro σ' H3 ⟨rfl, hp3, hl3, k3⟩
          refine ⟨.int v, rfl, .ref p, rfl, p, _, dx, _, _, rfl, hp3, T.cl_Memory, T.n_Memory__cells, Mm.mf_cells, .int (j : Int), rfl, l, _, (j : Int), j, rfl, rfl, hl3, Dw.ixN_nat hj, ?_⟩
          have hp4 : (upd H3 l (.lst (m.cells.set j (.int v)))) p = some (.ins a.C_Memory dx (Mm.mf l m.many m.up (Mm.leftV (m.left.map (· - 1))) m.torn)) := by rw [upd_ne nlp]; exact hp3
          refine ⟨.ref p, rfl, p, _, dx, _, _, rfl, hp4, T.cl_Memory, T.n_Memory__whole_writes, Mm.mf_many, m.many, 1, rfl, rfl, dx, _, hp4, Mm.mf_few, ?_⟩
          have qq := q (upd (upd H3 l (.lst (m.cells.set j (.int v)))) p (.ins a.C_Memory dx (putF "_whole_writes" (.int (m.many + 1)) (Mm.mf l m.many m.up (Mm.leftV (m.left.map (· - 1))) m.torn)))) ?_ ?_
          · exact qq.1 (by rw [Mm.write_ok hu h0])
          · rw [Mm.write_ok hu h0]
            refine ⟨⟨dx, _, ?_, fun _ => rfl⟩, by rw [upd_ne nlp.symm, upd_same], Mm.cel_set M.cel rfl, by show (m.cells.set j _).length ≤ 400; rw [List.length_set]; exact M.len⟩
            rw [upd_same, Mm.put_many, hu]
          · exact (k3.trans (Mm.But.upd (List.mem_cons_of_mem _ List.mem_cons_self))).trans (Mm.But.upd List.mem_cons_self)
    · have qq := q H (by rw [Mm.write_down hu]; exact M) (Mm.But.refl _ _)
      exact qq.2 (by rw [Mm.write_down hu])

theorem no_attr {x : Str} {l : Addr} {n : Int} {u : Bool} {v : V} {t : Str} (h : (!(x == ("_cells" : Str)) && !(x == ("_whole_writes" : Str)) && !(x == ("_has_power" : Str)) && !(x == ("_ahead" : Str)) && !(x == ("_torn" : Str))) = true) : (Mm.mf l n u v t).lookup x = none := by
  simp only [Bool.and_eq_true, Bool.not_eq_true'] at h
  exact Mm.mf_no h.1.1.1.1 h.1.1.1.2 h.1.1.2 h.1.2 h.2
theorem G_Memory_row {a : Ad} (T : Top K mg a) : FnOk P w K mg base (L2.CX P w) 2 a.f_Memory_row a.d_Memory_row P_Memory_row (Mm.spRow a.C_Memory a.C_Stopped) := by
  refine T.F_Memory_row.okX sc_Memory_row (fun vs H Q E h => ?_) (fun cdv A outer s H vs Q E hr h => ?_)
  · obtain ⟨_, _, _, _, _, rfl, _⟩ := h
    rfl
  · obtain ⟨p, l, m, j, n, rfl, M, hj, q1, q0⟩ := h
    obtain ⟨dx, ah, hp, _⟩ := M.ob
    have hlen := M.len
    refine ⟨_, (pss_cons (ps_for (passes_of rfl) rfl (pi_range2 (by rfl) T.b_range (pa_cons (pv 1) (pa_cons (pe_op op_add (pv 1) (pv 2)) pa_nil))) (pg_name (i := 3) sc_Memory_row.nd rfl (Or.inl rfl))
        (pss_one (ps_expr (pe_meth (pv 0) T.cl_Memory T.m_Memory__check_place (G_Memory__check_place T) (hr.mono (by omega)) T.B_Memory__check_place .nil pass0 (pa_cons (pv 3) pa_nil)))))
      (pss_cons (ps_expr (pe_meth0 (pv 0) T.cl_Memory T.m_Memory__check_power (G_Memory__check_power T) (hr.mono (by omega)) T.B_Memory__check_power .nil (passes_call (takes_of rfl rfl rfl rfl) fun _ _ _ _ h => h)))
      (pss_one (ps_ret (pe_lc (own := [(("at" : Str), 3)]) (g := (gName 3)) (tt := tYes) (by rfl) sc_Memory_row.nd (pi_range2 (by rfl) T.b_range (pa_cons (pv 1) (pa_cons (pe_op op_add (pv 1) (pv 2)) pa_nil))) (blkOk_by (own := [(("at" : Str), 3)]) (N := N_Memory_row) (sc := defScope s_Memory_row) (by decide +kernel)) (fun _ _ _ _ _ => (pg_name (i := 3) sc_Memory_row.nd rfl (Or.inl rfl))) (fun _ _ _ _ _ => pts_nil) (fun _ _ _ _ _ => (pe_ix (Dw.ix_listK (K := K) rfl) (Dw.pe_fldK (K := K) rfl (pv 0) rfl) (pv 3) (fun _ _ => rfl)))))))), ?_⟩
    refine ⟨_, rfl, _, rfl, _, rfl, (j : Int), (n : Int), rfl, rfl, (j : Int), (j : Int) + n, rfl, ⟨by omega, by omega, by omega, by omega⟩, for_range (lo := (j : Int)) (n := ((j : Int) + n - j).toNat) (fun i σ H' => ∃ v3, σ = [some (.ref p), some (.int (j : Int)), some (.int (n : Int)), v3] ∧ H' = H) ⟨_, rfl, rfl⟩ ?_ ?_⟩
    · rintro i σ H' hi ⟨v3, rfl, rfl⟩
      refine ⟨.ref p, rfl, p, dx, _, rfl, hp, no_attr (by decide +kernel), _, rfl, p, l, m, j + i, ?_, M, by omega, _, rfl, rfl⟩
      rw [Int.natCast_add]
      rfl
    · rintro σ H' ⟨v3, rfl, rfl⟩
      refine ⟨.ref p, rfl, p, dx, _, rfl, hp, no_attr (by decide +kernel), p, l, m, rfl, M, fun hu => ?_, q0⟩
      refine ⟨_, rfl, _, rfl, _, rfl, (j : Int), (n : Int), rfl, rfl, (j : Int), (j : Int) + n, rfl, ⟨by omega, by omega, by omega, by omega⟩, fun D hD => lc_range (lo := (j : Int)) (n := ((j : Int) + n - j).toNat) (fun i H'' => Same H' H'' ∧ H'' D = some (.lst ((m.cells.drop j).take i))) ⟨Dw.same_upd hD, upd_same⟩ ?_ ?_⟩
      · rintro i H1 hi ⟨s1, e1⟩
        obtain ⟨v, hv, _⟩ := M.at (j := j + i) (by omega)
        refine ⟨rfl, _, rfl, p, _, dx, _, _, rfl, s1 _ _ hp, T.cl_Memory, T.n_Memory__cells, Mm.mf_cells, _, rfl, l, _, (j : Int) + i, v, rfl, rfl, Dw.sq_of (s1 _ _ M.ls), at_of (j := j + i) (by omega) hv, ?_⟩
        refine ⟨_, e1, Dw.size_lt (by rw [List.length_take]; omega), Dw.same_mut s1 hD, ?_⟩
        rw [upd_same, List.take_add_one, List.getElem?_drop, hv]
        rfl
      · rintro H1 ⟨s1, e1⟩
        refine q1 hu H1 D s1 hD ?_
        rw [e1, show ((j : Int) + n - j).toNat = n by omega]
theorem G_Memory_cut {a : Ad} (T : Top K mg a) : FnOk P w K mg base CX0 1 a.f_Memory_cut a.d_Memory_cut P_Memory_cut (Mm.spCut a.C_Memory) := by
  refine T.F_Memory_cut.ok sc_Memory_cut (fun vs H Q E h => ?_) (fun cdv A outer s H vs Q E hr h => ?_)
  · obtain ⟨_, _, _, _, _, rfl, _⟩ := h
    rfl
  · obtain ⟨p, l, m, k, t, rfl, M, hk, ht, q⟩ := h
    obtain ⟨dx, ah, hp, hah⟩ := M.ob
    have nlp := M.ne
    refine ⟨_, (pss_cons (ps_if (PW.pt (pw_or (pt_not (pt_chain op_le op_le pe_int (pv 1) (pe_glob (v := .int 100000) rfl T.c_LATEST_CUT ⟨_, rfl⟩))) (pw_or1 (pt_cmpR op_notIn_seq (pv 2) (pe_glob (v := .ref a.t_TORN) rfl T.c_TORN rfl) (by rfl)))))
        (pss_one ps_never)
        pss_nil)
      (pss_cons (ps_fld (pv 0) (pv 1) rfl)
      (pss_one (ps_fld (pv 0) (pv 2) rfl)))), ?_⟩
    refine ⟨_, rfl, 0, (k : Int), rfl, rfl, _, rfl, ite2 (fun _ => ?_) (fun e => absurd (decide_eq_true (by omega)) e)⟩
    refine ⟨(k : Int), 100000, rfl, rfl, _, rfl, iteNS (by omega) ?_⟩
    have hin : inV (.str t) [.str "old", .str "broken", .str "new"] = true := by
      rcases ht with rfl | rfl | rfl <;> decide +kernel
    refine ⟨_, rfl, a.t_TORN, _, rfl, .inr (T.w_TORN _), rfl, rfl, _, rfl, ?_⟩
    rw [show (if true = true then !inV (.str t) [.str "old", .str "broken", .str "new"] else inV (.str t) [.str "old", .str "broken", .str "new"]) = false by rw [hin]; rfl]
    refine iteF ?_
    refine ⟨_, rfl, .ref p, rfl, p, _, dx, _, rfl, hp, T.cl_Memory, T.n_Memory__ahead, Mm.mf_few, ?_⟩
    refine ⟨_, rfl, .ref p, rfl, p, _, dx, _, rfl, upd_same, T.cl_Memory, T.n_Memory__torn, by rw [Mm.put_ahead]; exact Mm.mf_few, ?_⟩
    refine q _ ⟨⟨dx, .int (k : Int), ?_, fun _ => rfl⟩, by rw [upd_ne nlp.symm, upd_ne nlp.symm]; exact M.ls, M.cel, M.len⟩ ((Mm.But.upd List.mem_cons_self).trans (Mm.But.upd List.mem_cons_self))
    rw [upd_same, Mm.put_ahead, Mm.put_torn]
theorem G_Memory_up {a : Ad} (T : Top K mg a) : FnOk P w K mg base CX0 1 a.f_Memory_up a.d_Memory_up P_Memory_up (Mm.spUp a.C_Memory) := by
  refine T.F_Memory_up.ok sc_Memory_up (fun vs H Q E h => ?_) (fun cdv A outer s H vs Q E hr h => ?_)
  · obtain ⟨_, _, _, rfl, _⟩ := h
    rfl
  · obtain ⟨p, l, m, rfl, M, q⟩ := h
    obtain ⟨dx, ah, hp, hah⟩ := M.ob
    have nlp := M.ne
    refine ⟨_, (pss_cons (ps_fld (pv 0) pe_bl rfl)
      (pss_one (ps_fld (pv 0) pe_non rfl))), ?_⟩
    refine ⟨.ref p, rfl, p, _, dx, _, rfl, hp, T.cl_Memory, T.n_Memory__has_power, Mm.mf_few, ?_⟩
    refine ⟨.ref p, rfl, p, _, dx, _, rfl, upd_same, T.cl_Memory, T.n_Memory__ahead, by rw [Mm.put_up]; exact Mm.mf_few, ?_⟩
    refine q _ ⟨⟨dx, .non, ?_, fun _ => rfl⟩, by rw [upd_ne nlp.symm, upd_ne nlp.symm]; exact M.ls, M.cel, M.len⟩ ((Mm.But.upd List.mem_cons_self).trans (Mm.But.upd List.mem_cons_self))
    rw [upd_same, Mm.put_up, Mm.put_ahead]
theorem G_Memory_cells {a : Ad} (T : Top K mg a) : FnOk P w K mg base CX0 1 a.f_Memory_cells a.d_Memory_cells P_Memory_cells (Mm.spCells a.C_Memory) := by
  refine T.F_Memory_cells.ok sc_Memory_cells (fun vs H Q E h => ?_) (fun cdv A outer s H vs Q E hr h => ?_)
  · obtain ⟨_, _, _, rfl, _⟩ := h
    rfl
  · obtain ⟨p, l, m, rfl, M, q⟩ := h
    obtain ⟨dx, ah, hp, hah⟩ := M.ob
    refine ⟨_, (pss_one (ps_ret (pe_callTy call_list_of (by rfl) T.b_list (by decide +kernel) (pa_cons (pe_fld (pv 0) rfl) pa_nil)))), ?_⟩
    exact ⟨.ref p, rfl, p, _, dx, _, _, rfl, hp, T.cl_Memory, T.n_Memory__cells, Mm.mf_cells, l, _, rfl, .inl (Dw.sq_of M.ls), fun c hc => q _ c (Dw.same_upd hc) hc upd_same⟩
theorem G_Memory___init__ {a : Ad} (T : Top K mg a) : FnOk P w K mg base CX0 1 a.f_Memory___init__ a.d_Memory___init__ P_Memory___init__ (Mm.spInit a.C_Memory) := by
  refine T.F_Memory___init__.ok sc_Memory___init__ (fun vs H Q E h => ?_) (fun cdv A outer s H vs Q E hr h => ?_)
  · obtain ⟨_, _, _, rfl, _⟩ := h
    rfl
  · obtain ⟨p, dx, n, rfl, hp, n1, n4, q⟩ := h
    refine ⟨_, (pss_cons (ps_if (pt_not (pt_chain op_le op_le pe_int (pv 1) (pe_glob (v := .int 400) rfl T.c_MOST_CELLS ⟨_, rfl⟩)))
        (pss_one ps_never)
        pss_nil)
      (pss_cons (ps_fld (pv 0) (pe_op op_rep (pe_lst (pa_cons pe_int pa_nil)) (pv 1)) rfl)
      (pss_cons (ps_fld (pv 0) pe_int rfl)
      (pss_cons (ps_fld (pv 0) pe_bl rfl)
      (pss_cons (ps_fld (pv 0) pe_non rfl)
      (pss_one (ps_fld (pv 0) pe_str rfl))))))), ?_⟩
    refine ⟨_, rfl, 1, (n : Int), rfl, rfl, _, rfl, ite2 (fun _ => ?_) (fun e => absurd (decide_eq_true (by omega)) e)⟩
    refine ⟨(n : Int), 400, rfl, rfl, _, rfl, iteNS (by omega) ?_⟩
    refine ⟨Dw.sz_ rfl, fun c hc => ?_⟩
    have npc : p ≠ c := ne_of_none hp hc
    refine ⟨_, rfl, c, (n : Int), [.int 0], rfl, rfl, upd_same, by omega, by omega, Dw.size_ok (by simp; omega), fun l hl => ?_⟩
    have s1 : Same H (upd H c (.lst [.int 0])) := Dw.same_upd hc
    have hl0 : H l = none := s1.free hl
    have npl : p ≠ l := ne_of_none hp hl0
    have hp1 : (upd (upd H c (.lst [.int 0])) l (.lst (List.replicate (n : Int).toNat [V.int 0]).flatten)) p = some (.ins a.C_Memory dx []) := by rw [upd_ne npl, upd_ne npc]; exact hp
    have hl1 : (upd (upd H c (.lst [.int 0])) l (.lst (List.replicate (n : Int).toNat [V.int 0]).flatten)) l = some (.lst (List.replicate n (.int 0))) := by
      rw [upd_same, Int.toNat_natCast, Mm.flat_rep]
    have s2 := s1.trans (Dw.same_upd (o := .lst (List.replicate (n : Int).toNat [V.int 0]).flatten) hl)
    generalize upd (upd H c (.lst [.int 0])) l (.lst (List.replicate (n : Int).toNat [V.int 0]).flatten) = H1 at hp1 hl1 s2 ⊢
    refine ⟨.ref p, rfl, p, _, dx, _, rfl, hp1, T.cl_Memory, T.n_Memory__cells, (by show 0 < 1000; decide), ?_⟩
    refine ⟨.ref p, rfl, p, _, dx, _, rfl, upd_same, T.cl_Memory, T.n_Memory__whole_writes, Nat.lt_of_le_of_lt (length_putF _ _ _) (by decide), ?_⟩
    refine ⟨.ref p, rfl, p, _, dx, _, rfl, upd_same, T.cl_Memory, T.n_Memory__has_power, Nat.lt_of_le_of_lt (length_putF _ _ _) (Nat.succ_lt_succ (Nat.lt_of_le_of_lt (length_putF _ _ _) (by decide : 1 < 999))), ?_⟩
    refine ⟨.ref p, rfl, p, _, dx, _, rfl, upd_same, T.cl_Memory, T.n_Memory__ahead, Nat.lt_of_le_of_lt (length_putF _ _ _) (Nat.succ_lt_succ (Nat.lt_of_le_of_lt (length_putF _ _ _) (Nat.succ_lt_succ (Nat.lt_of_le_of_lt (length_putF _ _ _) (by decide : 1 < 998))))), ?_⟩
    refine ⟨.ref p, rfl, p, _, dx, _, rfl, upd_same, T.cl_Memory, T.n_Memory__torn, Nat.lt_of_le_of_lt (length_putF _ _ _) (Nat.succ_lt_succ (Nat.lt_of_le_of_lt (length_putF _ _ _) (Nat.succ_lt_succ (Nat.lt_of_le_of_lt (length_putF _ _ _) (Nat.succ_lt_succ (Nat.lt_of_le_of_lt (length_putF _ _ _) (by decide : 1 < 997))))))), ?_⟩
    refine q _ l ⟨⟨dx, .non, ?_, fun _ => rfl⟩, ?_, ?_, ?_⟩ hl0 ?_
    · rw [upd_same, Mm.put_new]
    · rw [upd_ne npl.symm, upd_ne npl.symm, upd_ne npl.symm, upd_ne npl.symm, upd_ne npl.symm]
      exact hl1
    · intro x hx
      rw [List.eq_of_mem_replicate hx]
      rfl
    · show (List.replicate n (V.int 0)).length ≤ 400
      rw [List.length_replicate]
      exact n4
    · have u : ∀ (H2 : Hp) (o : HO), Mm.But [p] H2 (upd H2 p o) := fun _ _ => Mm.But.upd List.mem_cons_self
      exact ((((((Mm.But.same s2).trans (u _ _)).trans (u _ _)).trans (u _ _)).trans (u _ _)).trans (u _ _))

theorem G_check_handed {a : Ad} (T : Top K mg a) : FnOk P w K mg base CX0 2 a.f_check_handed a.d_check_handed P_check_handed (Ct.spHanded K a.C_Memory) := by
  refine T.F_check_handed.ok sc_check_handed (fun vs H Q E h => ?_) (fun cdv A outer s H vs Q E hr h => ?_)
  · obtain ⟨_, _, _, _, _, _, _, rfl, _⟩ := h
    rfl
  · obtain ⟨p, l, b, m, j, n, ws, rfl, M, hB, hj, hws, q⟩ := h
    obtain ⟨dx, ah, hp, _⟩ := M.ob
    refine ⟨_, (pss_cons (ps_if (pt_not (pt_chain op_le op_le pe_int (pv 1) (pe_op op_sub (pe_callB call_len_seq (by rfl) T.b_len PySem.boot_len (pa_cons (pe_meth0 (pv 0) T.cl_Memory T.m_Memory_cells (G_Memory_cells T) (hr.mono (by omega)) T.B_Memory_cells .nil pass0) pa_nil)) (pv 2))))
        (pss_one ps_never)
        pss_nil)
      (pss_one (ps_for PassesOwn.never rfl (pi_list (pv 3)) (pg_name (i := 4) sc_check_handed.nd rfl (Or.inl rfl))
        (pss_one (ps_expr (pe_call (G_check_worth T) (hr.mono (by omega)) (by rfl) T.g_check_worth T.F_check_worth.kp T.B_check_worth .nil pass0 (pa_cons (pv 4) pa_nil))))))), ?_⟩
    refine ⟨_, rfl, 0, (j : Int), rfl, rfl, _, rfl, ite2 (fun _ => ?_) (fun e => absurd (decide_eq_true (by omega)) e)⟩
    refine ⟨.ref p, rfl, p, dx, _, rfl, hp, no_attr (by decide +kernel), p, l, m, rfl, M, fun H1 c s1 nc hc => ?_⟩
    refine ⟨c, _, rfl, .inl (Dw.sq_of hc), _, rfl, _, _, rfl, rfl, (j : Int), _, rfl, rfl, _, rfl, iteNS (by omega) ?_⟩
    refine ⟨.ref b, rfl, b, rfl, ⟨_, s1.seq hB⟩, for_list (xs := ws.map V.int) (fun i σ H' => ∃ v4, σ = [some (.ref p), some (.int (j : Int)), some (.int (n : Int)), some (.ref b), v4] ∧ H' = H1) ⟨_, rfl, rfl⟩ (fun i σ H' _ ⟨_, _, z⟩ => by rw [z]; exact s1.seq hB) ?_ ?_⟩
    · rintro i y σ H' hi ⟨v4, rfl, rfl⟩
      obtain ⟨x, hx, rfl⟩ := Dw.get_map hi
      obtain ⟨x0, x1⟩ := hws x (List.mem_of_getElem? hx)
      exact ⟨_, rfl, x, rfl, x0, x1, _, rfl, rfl⟩
    · rintro σ H' ⟨v4, rfl, rfl⟩
      exact q _ s1

theorem G_rank {a : Ad} (T : Top K mg a) : FnOk P w K mg base CX0 1 a.f_rank a.d_rank P_rank Ct.spRank := by
  refine T.F_rank.ok sc_rank (fun vs H Q E h => ?_) (fun cdv A outer s H vs Q E hr h => ?_)
  · obtain ⟨_, rfl, _⟩ := h
    rfl
  · obtain ⟨x, rfl, hx, q⟩ := h
    refine ⟨_, (pss_one (ps_ret (pe_ifExp (pt_cmpR op_isN (pv 0) pe_non (nomark _)) (pe_un un_neg pe_int) (pv 0)))), ?_⟩
    refine ⟨x, rfl, rfl, _, rfl, ?_⟩
    rcases hx with rfl | ⟨i, rfl, _⟩
    · exact ite2 (fun _ => ⟨1, rfl, q⟩) (fun e => absurd (by rfl) e)
    · exact ite2 (fun e => by cases of_decide_eq_true e) (fun _ => ⟨_, rfl, q⟩)
theorem G_count {a : Ad} (T : Top K mg a) : FnOk P w K mg base (L2.CX P w) 3 a.f_count a.d_count P_count (Ct.spCount a.C_Memory a.C_Stopped) := by
  refine T.F_count.okX sc_count (fun vs H Q E h => ?_) (fun cdv A outer s H vs Q E hr h => ?_)
  · obtain ⟨_, _, _, _, _, _, rfl, _⟩ := h
    rfl
  · obtain ⟨p, l, m, j, x, y, rfl, M, hx, hy, ox, oy, q1, q0⟩ := h
    obtain ⟨dx, ah, hp, _⟩ := M.ob
    have ly := (List.getElem?_eq_some_iff.mp hy).1
    refine ⟨_, (pss_cons (ps_setLc (i := 2) (own := [(("worth" : Str), 3)]) (g := (gName 3)) (by rfl) sc_count.nd rfl rfl (sw_true rfl rfl rfl (by decide +kernel)) (pi_list (pe_meth (pv 0) T.cl_Memory T.m_Memory_row (G_Memory_row T) (hr.mono (by omega)) T.B_Memory_row .nil (passes_call (takes_of rfl rfl rfl rfl) fun _ _ _ _ h => h) (pa_cons (pv 1) (pa_cons (pe_glob (v := .int 2) rfl T.c_COUNTER_CELLS ⟨_, rfl⟩) pa_nil)))) (blkOk_by (own := [(("worth" : Str), 3)]) (N := N_count) (sc := defScope s_count) (by decide +kernel)) (fun _ _ _ _ _ => (pg_name (i := 3) sc_count.nd rfl (Or.inl rfl))) (fun _ _ _ _ _ => (pts_one (pt_cmpR op_notN (pv 3) pe_non (nomark _)))) (fun _ _ _ _ _ => (pv 3)))
      (pss_one (ps_ret (pe_callBK (Mx.cr_maxDf rfl hr.units) (by rfl) T.b_max (by decide +kernel) (pa_cons (pv 2) pa_nil) (pk_cons pe_non pk_nil))))), ?_⟩
    refine ⟨.ref p, rfl, p, dx, _, rfl, hp, no_attr (by decide +kernel), _, rfl, p, l, m, j, 2, rfl, M, by omega, fun hu H1 c s1 nc hc => ?_, q0⟩
    rw [Ct.cut2 hx hy] at hc
    refine ⟨_, rfl, ⟨_, Dw.sq_of hc⟩, fun D hD => lc_list (K := K) (a := c) (xs := [x, y]) (fun i H' => Same H1 H' ∧ H' D = some (.lst ((Ct.whole ([x, y].take i)).map V.int))) ⟨Dw.same_upd hD, upd_same⟩ (fun i H' _ ⟨s, _⟩ => s.seq (Dw.sq_of hc)) ?_ ?_⟩
    · rintro i z H2 hi ⟨s2, e2⟩
      have hz := Ct.okc2 ox oy hi
      have hlt := (List.getElem?_eq_some_iff.mp hi).1
      refine ⟨rfl, z, rfl, rfl, _, rfl, ?_⟩
      rw [Ct.take_next hi, Ct.whole_app]
      rcases hz with rfl | ⟨n, rfl, _⟩
      · refine iteNS (c := V.non = V.non) rfl ⟨s2, ?_⟩
        rw [show Ct.whole [V.non] = [] from rfl, List.append_nil]
        exact e2
      · refine ite2 (fun _ => ?_) (fun e => absurd (by rfl) e)
        refine ⟨_, rfl, _, e2, Dw.size_lt ?_, Dw.same_mut s2 hD, ?_⟩
        · have h1 := Ct.whole_len ([x, y].take i)
          rw [List.length_take] at h1
          rw [List.length_map]
          have h2 : ([x, y] : List V).length = 2 := rfl
          omega
        · rw [upd_same, List.map_append]
          rfl
    · rintro H2 ⟨s2, e2⟩
      refine ⟨_, rfl, D, _, rfl, rfl, Dw.sq_of e2, fun e => ?_, fun n hn hg => ?_⟩
      · have qq := q1 hu H2 (s1.trans s2)
        rw [Ct.whole_nil ox oy e] at qq
        exact qq
      · have qq := q1 hu H2 (s1.trans s2)
        rw [Ct.whole_max ox oy hn hg] at qq
        exact qq
theorem G_raise_to {a : Ad} (T : Top K mg a) : FnOk P w K mg base (L2.CX P w) 4 a.f_raise_to a.d_raise_to P_raise_to (Ct.spRaise a.C_Memory a.C_Stopped) := by
  refine T.F_raise_to.okX sc_raise_to (fun vs H Q E h => ?_) (fun cdv A outer s H vs Q E hr h => ?_)
  · obtain ⟨_, _, _, _, _, _, _, rfl, _⟩ := h
    rfl
  · obtain ⟨p, l, m, j, v, x, y, rfl, M, hx, hy, ox, oy, v0, v1, q⟩ := h
    obtain ⟨dx, ah, hp, _⟩ := M.ob
    have ly := (List.getElem?_eq_some_iff.mp hy).1
    refine ⟨_, (pss_cons (ps_expr (pe_call (G_check_handed T) (hr.mono (by omega)) (by rfl) T.g_check_handed T.F_check_handed.kp T.B_check_handed .nil pass0 (pa_cons (pv 0) (pa_cons (pv 1) (pa_cons (pe_glob (v := .int 2) rfl T.c_COUNTER_CELLS ⟨_, rfl⟩) (pa_cons (pe_lst (pa_cons (pv 2) pa_nil)) pa_nil))))))
      (pss_cons (ps_asg (pe_lc (own := [(("worth" : Str), 6)]) (g := (gName 6)) (tt := tYes) (by rfl) sc_raise_to.nd (pi_list (pe_meth (pv 0) T.cl_Memory T.m_Memory_row (G_Memory_row T) (hr.mono (by omega)) T.B_Memory_row .nil (passes_call (takes_of rfl rfl rfl rfl) fun _ _ _ _ h => h) (pa_cons (pv 1) (pa_cons (pe_glob (v := .int 2) rfl T.c_COUNTER_CELLS ⟨_, rfl⟩) pa_nil)))) (blkOk_by (own := [(("worth" : Str), 6)]) (N := N_raise_to) (sc := defScope s_raise_to) (by decide +kernel)) (fun _ _ _ _ _ => (pg_name (i := 6) sc_raise_to.nd rfl (Or.inl rfl))) (fun _ _ _ _ _ => pts_nil) (fun _ _ _ _ _ => (pe_call (G_rank T) (hr.mono (by omega)) (by rfl) T.g_rank T.F_rank.kp T.B_rank .nil pass0 (pa_cons (pv 6) pa_nil)))) (pg_lst rfl (pgs_cons (pg_name (i := 3) sc_raise_to.nd rfl (Or.inl rfl)) (pgs_cons (pg_name (i := 4) sc_raise_to.nd rfl (Or.inl rfl)) pgs_nil))))
      (pss_cons (ps_if (pt_cmpR op_le (pv 2) (pe_callB (call_max2 rfl) (by rfl) T.b_max (by decide +kernel) (pa_cons (pv 3) (pa_cons (pv 4) pa_nil))) (nomark _))
        (pss_one (ps_ret pe_bl))
        pss_nil)
      (pss_cons (ps_set (i := 5) sc_raise_to.nd rfl (Or.inl rfl) (pe_ifExp (pt_cmpR op_le (pv 3) (pv 4) (nomark _)) (pv 1) (pe_op op_add (pv 1) pe_int)))
      (pss_cons (ps_expr (pe_meth (pv 0) T.cl_Memory T.m_Memory_write (G_Memory_write T) (hr.mono (by omega)) T.B_Memory_write .nil (passes_call (takes_of rfl rfl rfl rfl) fun _ _ _ _ h => h) (pa_cons (pv 5) (pa_cons (pv 2) pa_nil))))
      (pss_one (ps_ret pe_bl))))))), ?_⟩
    refine ⟨_, rfl, _, rfl, _, rfl, Dw.sz_ rfl, fun b hb => ?_⟩
    have sb := Dw.same_upd (o := .lst [.int v]) hb
    refine ⟨p, l, b, m, j, 2, [v], rfl, M.mono sb, Dw.sq_of upd_same, by omega, fun u hu => by rw [List.mem_singleton.mp hu]; exact ⟨v0, v1⟩, fun H1 s1 => ?_⟩
    have S1 := sb.trans s1
    have M1 := M.mono S1
    refine ⟨.ref p, rfl, p, dx, _, rfl, S1 _ _ hp, no_attr (by decide +kernel), _, rfl, p, l, m, j, 2, rfl, M1, by omega, fun hu H2 c s2 nc hc => ?_, fun hu => ?_⟩
    · rw [Ct.cut2 hx hy] at hc
      have eR : Ct.raise m x y j v = if v ≤ Ct.top x y then (m, some false) else ((m.write (Ct.less x y j) v).1, if (m.write (Ct.less x y j) v).2 = true then some true else none) := if_pos hu
      refine ⟨_, rfl, ⟨_, Dw.sq_of hc⟩, fun D hD => lc_list (K := K) (a := c) (xs := [x, y]) (fun i H' => Same H2 H' ∧ H' D = some (.lst ((([x, y].take i).map Ct.rk).map V.int))) ⟨Dw.same_upd hD, upd_same⟩ (fun i H' _ ⟨s, _⟩ => s.seq (Dw.sq_of hc)) ?_ ?_⟩
      · rintro i z H3 hi ⟨s3, e3⟩
        have hz := Ct.okc2 ox oy hi
        have hlt := (List.getElem?_eq_some_iff.mp hi).1
        refine ⟨rfl, z, rfl, z, rfl, hz, _, e3, Dw.size_lt ?_, Dw.same_mut s3 hD, ?_⟩
        · rw [List.length_map, List.length_map, List.length_take]
          have h2 : ([x, y] : List V).length = 2 := rfl
          omega
        · rw [upd_same, Ct.take_next hi, List.map_append, List.map_append]
          rfl
      · rintro H3 ⟨s3, e3⟩
        have S3 := (S1.trans s2).trans s3
        have M3 := M.mono S3
        refine ⟨D, _, rfl, Dw.sq_of e3, rfl, _, _, rfl, _, _, rfl, rfl, ?_⟩
        have et : (if Ct.rk y > Ct.rk x then Ct.rk y else Ct.rk x) = Ct.top x y := by
          unfold Ct.top
          split <;> split <;> omega
        refine ⟨_, rfl, _, rfl, _, rfl, _, _, rfl, v, _, rfl, rfl, _, rfl, ite2 (fun e => ?_) (fun e => ?_)⟩
        · have e := of_decide_eq_true e
          rw [et] at e
          have eR2 : Ct.raise m x y j v = (m, some false) := eR.trans (if_pos e)
          have qq := q H3 (by rw [eR2]; exact M3) (Mm.But.same S3)
          exact qq.1 false (by rw [eR2])
        · have e : ¬ v ≤ Ct.top x y := fun z => e (decide_eq_true (by rw [et]; exact z))
          have eR2 : Ct.raise m x y j v = ((m.write (Ct.less x y j) v).1, if (m.write (Ct.less x y j) v).2 = true then some true else none) := eR.trans (if_neg e)
          rw [eR2] at q
          have hl : Ct.less x y j < m.cells.length := by
            unfold Ct.less
            split <;> omega
          have fin : ∀ k : Nat, k = Ct.less x y j → ∀ (u : V), u = .int (k : Int) → Mm.spWrite a.C_Memory a.C_Stopped [.ref p, u, .int v] H3 (fun _ H4 => Q (.bl true) H4) E := by
            rintro k rfl u rfl
            refine ⟨p, l, m, Ct.less x y j, v, rfl, M3, hl, v0, v1, fun H4 M4 k4 => ?_⟩
            have qq := q H4 M4 ((Mm.But.same S3).trans k4)
            refine ⟨fun hw => ?_, fun hw => ?_⟩
            · exact qq.1 true (by dsimp only; rw [if_pos hw])
            · exact qq.2 (by dsimp only; rw [if_neg (by rw [hw]; decide)])
          have hp3 := S3 _ _ hp
          refine ⟨_, rfl, _, rfl, _, _, rfl, rfl, _, rfl, ite2 (fun z => ?_) (fun z => ?_)⟩
          · refine ⟨_, rfl, .ref p, rfl, p, dx, _, rfl, hp3, no_attr (by decide +kernel), _, rfl, _, rfl, fin j ?_ _ rfl⟩
            exact (if_pos (of_decide_eq_true z)).symm
          · refine ⟨_, rfl, (j : Int), 1, rfl, rfl, .ref p, rfl, p, dx, _, rfl, hp3, no_attr (by decide +kernel), _, rfl, _, rfl, fin (j + 1) ?_ _ ?_⟩
            · exact (if_neg (fun y => z (decide_eq_true y))).symm
            · rw [Int.natCast_add]
              rfl
    · have eR : Ct.raise m x y j v = (m, none) := if_neg (by rw [hu]; decide)
      have qq := q H1 (by rw [eR]; exact M1) (Mm.But.same S1)
      exact qq.2 (by rw [eR])

def spWhole (C : Addr) : Sp := fun vs H Q _ => ∃ (p l : Addr) (m : Mm.Mem) (v : Int) (x y : V), vs = [.ref p, .int v] ∧ Mm.MemAt C p l m H ∧ m.cells[3]? = some x ∧ m.cells[4]? = some y ∧ Ct.okc x ∧ Ct.okc y ∧ 0 ≤ v ∧ v ≤ 9972 ∧
  ∀ H', Mm.MemAt C p l (Ct.raise m x y 3 v).1 H' → Mm.But [p, l] H H' → Q (.bl (Ct.raise m x y 3 v).2.isSome) H'
theorem G_l_is_whole {a : Ad} (T : Top K mg a) : FnOk P w K mg base CX0 5 a.f_l_is_whole a.d_l_is_whole P_l_is_whole (spWhole a.C_Memory) := by
  refine T.F_l_is_whole.ok sc_l_is_whole (fun vs H Q E h => ?_) (fun cdv A outer s H vs Q E hr h => ?_)
  · obtain ⟨_, _, _, _, _, _, rfl, _⟩ := h
    rfl
  · obtain ⟨p, l, m, v, x, y, rfl, M, hx, hy, ox, oy, v0, v1, q⟩ := h
    refine ⟨_, (pss_cons (ps_try_only rfl rfl ⟨rfl, by decide, .inl T.g_Stopped⟩ takes0 (fun W pn xe tk _ => (pss_one (ps_expr (pe_callS (G_raise_to T) (hr.mono (by omega)) (by rfl) T.g_raise_to T.F_raise_to.kp T.B_raise_to (fun σ => passAt tk σ) (pa_cons (pv 0) (pa_cons pe_int (pa_cons (pv 1) pa_nil))))))) (fun ea eoe ecls ed epn _ _ => (pss_one (ps_ret pe_bl))))
      (pss_one (ps_ret pe_bl))), ?_⟩
    refine ⟨_, rfl, _, rfl, p, l, m, 3, v, x, y, rfl, M, hx, hy, ox, oy, v0, v1, fun H' M' k' => ⟨fun b hb => ?_, fun hn => ?_⟩⟩
    · have qq := q H' M' k'
      rw [hb] at qq
      exact qq
    · have qq := q H' M' k'
      rw [hn] at qq
      exact ⟨true, T.e_Stopped, fun _ a ha => qq, fun z => (by cases z)⟩
theorem numV_inj {t k : Int} (h : Ct.numV t = .int k) : t = k := by
  unfold Ct.numV at h
  by_cases z : t < 0
  · rw [if_pos z] at h
    cases h
  · rw [if_neg z] at h
    injection h
def row6 (x y : V) : List V := [.int 0, .int 0, .int 0, x, y, .int 0]
theorem cnt_l {y : V} {v : Int} (h : Ct.rk y < v) (v0 : 0 ≤ v) : Ct.cntV (.int v) y = .int v := by
  unfold Ct.cntV
  rw [Ct.top_gt (x := .int v) (y := y) (show ¬ v ≤ Ct.rk y by omega)]
  exact Ct.numV_pos v0
theorem cnt_r {x : V} {v : Int} (h : Ct.rk x ≤ v) (v0 : 0 ≤ v) : Ct.cntV x (.int v) = .int v := by
  unfold Ct.cntV
  rw [Ct.top_le (x := x) (y := .int v) (show Ct.rk x ≤ v from h)]
  exact Ct.numV_pos v0
theorem cnt_nl {y : V} (h : Ct.okc y) {k : Int} (e : Ct.rk y = k) (k0 : 0 ≤ k) : Ct.cntV .non y = .int k := by
  unfold Ct.cntV
  rw [Ct.top_le (x := .non) (y := y) (show (-1 : Int) ≤ Ct.rk y from Ct.rk_lo h), e]
  exact Ct.numV_pos k0
theorem cnt_nr {x : V} {k : Int} (e : Ct.rk x = k) (k0 : 0 ≤ k) : Ct.cntV x .non = .int k := by
  unfold Ct.cntV
  rw [Ct.top_gt (x := x) (y := .non) (show ¬ Ct.rk x ≤ -1 by omega), e]
  exact Ct.numV_pos k0
theorem step {x y : V} {n : Int} {t : Str} {left : Option Nat} {told v : Int} (ox : Ct.okc x) (oy : Ct.okc y) (hc : Ct.cntV x y = .int told) (hl : left = none ∨ left = some 0) (ht : t = "old" ∨ t = "broken" ∨ t = "new") (t0 : 0 ≤ told) (hv : told ≤ v) (v9 : v ≤ 9972) :
    ∃ (x' y' : V) (n' : Int) (u' : Bool) (l' : Option Nat), (Ct.raise ⟨row6 x y, n, true, left, t⟩ x y 3 v).1 = ⟨row6 x' y', n', u', l', t⟩ ∧ Ct.okc x' ∧ Ct.okc y' ∧ ((Ct.raise ⟨row6 x y, n, true, left, t⟩ x y 3 v).2.isSome = true → Ct.cntV x' y' = .int v) ∧ (Ct.cntV x' y' = .int told ∨ Ct.cntV x' y' = .int v) := by
  have et : Ct.top x y = told := numV_inj hc
  have ov : Ct.okc (.int v) := .inr ⟨v, rfl, by omega, v9⟩
  by_cases h : v ≤ Ct.top x y
  · have e : Ct.raise ⟨row6 x y, n, true, left, t⟩ x y 3 v = (⟨row6 x y, n, true, left, t⟩, some false) := (if_pos rfl).trans (if_pos h)
    rw [e]
    have : v = told := by omega
    subst this
    exact ⟨x, y, n, true, left, rfl, ox, oy, fun _ => hc, .inl hc⟩
  · have e : Ct.raise ⟨row6 x y, n, true, left, t⟩ x y 3 v = ((Mm.Mem.write ⟨row6 x y, n, true, left, t⟩ (Ct.less x y 3) v).1, if (Mm.Mem.write ⟨row6 x y, n, true, left, t⟩ (Ct.less x y 3) v).2 = true then some true else none) := (if_pos rfl).trans (if_neg h)
    rw [e]
    by_cases hle : Ct.rk x ≤ Ct.rk y
    · have e3 : Ct.less x y 3 = 3 := if_pos hle
      have ey : Ct.rk y = told := by rw [← et, Ct.top_le hle]
      have h1 : Ct.cntV (.int v) y = .int v := cnt_l (by omega) (by omega)
      rw [e3]
      rcases hl with rfl | rfl
      · rw [Ct.write_free rfl rfl]
        exact ⟨.int v, y, _, _, _, rfl, ov, oy, fun _ => h1, .inr h1⟩
      · rw [Mm.write_cut rfl rfl]
        rcases ht with rfl | rfl | rfl
        · exact ⟨x, y, _, _, _, rfl, ox, oy, fun z => (by cases z), .inl hc⟩
        · exact ⟨.non, y, _, _, _, rfl, .inl rfl, oy, fun z => (by cases z), .inl (cnt_nl oy ey t0)⟩
        · exact ⟨.int v, y, _, _, _, rfl, ov, oy, fun z => (by cases z), .inr h1⟩
    · have e3 : Ct.less x y 3 = 4 := if_neg hle
      have ex : Ct.rk x = told := by rw [← et, Ct.top_gt hle]
      have h1 : Ct.cntV x (.int v) = .int v := cnt_r (by omega) (by omega)
      rw [e3]
      rcases hl with rfl | rfl
      · rw [Ct.write_free rfl rfl]
        exact ⟨x, .int v, _, _, _, rfl, ox, ov, fun _ => h1, .inr h1⟩
      · rw [Mm.write_cut rfl rfl]
        rcases ht with rfl | rfl | rfl
        · exact ⟨x, y, _, _, _, rfl, ox, oy, fun z => (by cases z), .inl hc⟩
        · exact ⟨x, .non, _, _, _, rfl, ox, .inl rfl, fun z => (by cases z), .inl (cnt_nr ex t0)⟩
        · exact ⟨x, .int v, _, _, _, rfl, ox, ov, fun z => (by cases z), .inr h1⟩
def spLaw (K : PySem.W.Frag) : Sp := fun vs H Q _ => ∃ (sa : Addr) (ns : List Int), vs = [.ref sa] ∧ SqL K H sa (ns.map V.int) ∧ ns.length ≤ 63 ∧ ∀ H', Q (.bl true) H'
theorem G_law {a : Ad} (T : Top K mg a) : FnOk P w K mg base CX0 6 a.f_law a.d_law P_law (spLaw K) := by
  refine T.F_law.ok sc_law (fun vs H Q E h => ?_) (fun cdv A outer s H vs Q E hr h => ?_)
  · obtain ⟨_, _, rfl, _⟩ := h
    rfl
  · obtain ⟨sa, ns, rfl, hS, hlen, q⟩ := h
    refine ⟨_, (pss_cons (ps_set (i := 1) sc_law.nd rfl (Or.inl rfl) (pe_lst (pa_cons (pv 0) (pa_cons pe_int (pa_cons pe_int (pa_cons pe_int pa_nil))))))
      (pss_cons (ps_set (i := 2) sc_law.nd rfl (Or.inl rfl) (pe_make T.mk_Memory (G_Memory___init__ T) (hr.mono (by omega)) (by rfl) T.g_Memory T.B_Memory___init__ .nil pass0 (pa_cons pe_int pa_nil)))
      (pss_cons (ps_set (i := 3) sc_law.nd rfl (Or.inl rfl) pe_int)
      (pss_cons (ps_for PassesOwn.never rfl (pi_range1 (by rfl) T.b_range (pa_cons (pe_call (G_l_taken T) (hr.mono (by omega)) (by rfl) T.g_l_taken T.F_l_taken.kp T.B_l_taken .nil pass0 (pa_cons (pv 1) (pa_cons pe_int pa_nil))) pa_nil)) (pg_name (i := 4) sc_law.nd rfl (Or.inl rfl))
        (pss_cons (ps_set (i := 5) sc_law.nd rfl (Or.inl rfl) (pe_op op_add (pv 3) (pe_call (G_l_taken T) (hr.mono (by omega)) (by rfl) T.g_l_taken T.F_l_taken.kp T.B_l_taken .nil pass0 (pa_cons (pv 1) (pa_cons pe_int pa_nil)))))
      (C8.pss_cut (ps_if (pt_cmpR op_eq (pe_call (G_l_taken T) (hr.mono (by omega)) (by rfl) T.g_l_taken T.F_l_taken.kp T.B_l_taken .nil pass0 (pa_cons (pv 1) (pa_cons pe_int pa_nil))) pe_int (nomark _))
        (pss_one (ps_expr (pe_meth (pv 2) T.cl_Memory T.m_Memory_cut (G_Memory_cut T) (hr.mono (by omega)) T.B_Memory_cut .nil pass0 (pa_cons pe_int (pa_cons (pe_ix ix_list (pe_lst (pa_cons pe_str (pa_cons pe_str (pa_cons pe_str pa_nil)))) (pe_call (G_l_taken T) (hr.mono (by omega)) (by rfl) T.g_l_taken T.F_l_taken.kp T.B_l_taken .nil pass0 (pa_cons (pv 1) (pa_cons pe_int pa_nil))) (fun _ _ => rfl)) pa_nil)))))
        pss_nil)
      (pss_cons (ps_set (i := 6) sc_law.nd rfl (Or.inl rfl) (pe_call (G_l_is_whole T) (hr.mono (by omega)) (by rfl) T.g_l_is_whole T.F_l_is_whole.kp T.B_l_is_whole .nil pass0 (pa_cons (pv 2) (pa_cons (pv 5) pa_nil))))
      (pss_cons (ps_expr (pe_meth0 (pv 2) T.cl_Memory T.m_Memory_up (G_Memory_up T) (hr.mono (by omega)) T.B_Memory_up .nil pass0))
      (pss_cons (ps_set (i := 7) sc_law.nd rfl (Or.inl rfl) (pe_call (G_count T) (hr.mono (by omega)) (by rfl) T.g_count T.F_count.kp T.B_count .nil Mm.passN (pa_cons (pv 2) (pa_cons pe_int pa_nil))))
      (pss_cons (ps_if (PW.pt (pw_or (pt_cmpR op_notIn_seq (pv 7) (pe_tup (pa_cons (pv 3) (pa_cons (pv 5) pa_nil))) (by rfl)) (pw_or1 (PW.pt (pw_and (pt_val (pv 6)) (pw_and1 (pt_cmpR op_ne (pv 7) (pv 5) (nomark _))))))))
        (pss_one (ps_ret pe_bl))
        pss_nil)
      (pss_one (ps_set (i := 3) sc_law.nd rfl (Or.inl rfl) (pv 7))))))))))
      (pss_one (ps_ret (pe_and (pe_cmpR (op_eqD hr.units) (pe_slice sl_list (pe_meth0 (pv 2) T.cl_Memory T.m_Memory_cells (G_Memory_cells T) (hr.mono (by omega)) T.B_Memory_cells .nil pass0) po_none (po_some pe_int)) (pe_lst (pa_cons pe_int (pa_cons pe_int (pa_cons pe_int pa_nil)))) (nomark _)) (pe_one (pe_cmpR op_eq (pe_ix ix_list (pe_meth0 (pv 2) T.cl_Memory T.m_Memory_cells (G_Memory_cells T) (hr.mono (by omega)) T.B_Memory_cells .nil pass0) pe_int (fun _ _ => rfl)) pe_int (nomark _)))))))))), ?_⟩
    refine ⟨.ref sa, rfl, Dw.sz_ rfl, fun r hr0 => ?_⟩
    have D0 : Dw.Dr K H ns sa r (upd H r (.lst [.ref sa, .int 0, .int 0, .int 0])) := Dw.Dr.start hr0 hS hlen
    generalize upd H r (.lst [.ref sa, .int 0, .int 0, .int 0]) = H3 at D0 ⊢
    refine fun p dx np ndx nex => ?_
    have S3 : Same H3 (upd (upd H3 dx (.own p)) p (.ins a.C_Memory dx [])) := fun b o e => by
      rw [upd_ne (ne_of_none e np), upd_ne (ne_of_none e ndx)]
      exact e
    refine ⟨p, dx, 6, rfl, upd_same, by omega, by omega, fun H4 l M4 hl4 k4 => ⟨rfl, ?_⟩⟩
    have S4 : Same H3 H4 := fun b o e => k4 b o (by simp [ne_of_none e np]) (S3 b o e)
    have I4 : Ct.Lw K H ns sa r a.C_Memory p l ⟨row6 (.int 0) (.int 0), 0, true, none, "old"⟩ H4 := ⟨D0.mono S4, M4, Ct.ok_rep 6, D0.free np, D0.free (S3.free hl4)⟩
    have o0 : Ct.okc (.int 0) := .inr ⟨0, rfl, by decide, by decide⟩
    refine ⟨.ref r, rfl, H, ns, sa, r, 31, rfl, I4.dr, by decide, by decide, fun u H5 D5 k5 u0 u9 => ?_⟩
    have I5 := I4.keep D5 k5
    refine ⟨u, rfl, by omega, by omega, for_range (lo := 0) (n := u.toNat) (fun i σ H' => ∃ (v4 v5 v6 v7 : Option V) (told n : Int) (x y : V) (t : Str), σ = [some (.ref sa), some (.ref r), some (.ref p), some (.int told), v4, v5, v6, v7] ∧ Ct.Lw K H ns sa r a.C_Memory p l ⟨row6 x y, n, true, none, t⟩ H' ∧ Ct.okc x ∧ Ct.okc y ∧ Ct.cntV x y = .int told ∧ 0 ≤ told ∧ told ≤ 3 * (i : Int) ∧ (t = "old" ∨ t = "broken" ∨ t = "new"))
      ⟨_, _, _, _, 0, 0, .int 0, .int 0, "old", rfl, I5, o0, o0, cnt_r (by decide) (by decide), by decide, by decide, .inl rfl⟩ ?_ ?_⟩
    · rintro i σ H6 hi ⟨v4, v5, v6, v7, told, n, x, y, t, rfl, I6, ox, oy, hc, t0, t1, ht⟩
      refine ⟨_, rfl, .ref r, rfl, H, ns, sa, r, 4, rfl, I6.dr, by decide, by decide, fun d H7 D7 k7 d0 d9 => ⟨told, d, rfl, rfl, ?_⟩⟩
      have I7 := I6.keep D7 k7
      have hv0 : told ≤ told + d := by omega
      have hv9 : told + d ≤ 9972 := by omega
      have hv3 : told + d ≤ told + 3 := by omega
      refine ⟨fun σ' H' => ∃ (left : Option Nat) (t' : Str), σ' = [some (.ref sa), some (.ref r), some (.ref p), some (.int told), some (.int (0 + (i : Int))), some (.int (told + d)), v6, v7] ∧ Ct.Lw K H ns sa r a.C_Memory p l ⟨row6 x y, n, true, left, t'⟩ H' ∧ (left = none ∨ left = some 0) ∧ (t' = "old" ∨ t' = "broken" ∨ t' = "new"), ?_, ?_⟩
      · refine ⟨.ref r, rfl, H, ns, sa, r, 2, rfl, I7.dr, by decide, by decide, fun c H8 D8 k8 c0 c9 => ⟨rfl, _, rfl, ite2 (fun _ => ?_) (fun _ => ⟨none, t, rfl, I7.keep D8 k8, .inl rfl, ht⟩)⟩⟩
        have I8 := I7.keep D8 k8
        obtain ⟨dx8, ah8, hp8, _⟩ := I8.me.ob
        refine ⟨.ref p, rfl, p, dx8, _, rfl, hp8, no_attr (by decide +kernel), Dw.sz_ rfl, fun l2 hl2 => ?_⟩
        have nl2 := D8.ne hl2
        have I9 := I8.mono (Dw.same_upd (o := .lst [.str "old", .str "broken", .str "new"]) hl2)
        refine ⟨.ref r, rfl, H, ns, sa, r, 3, rfl, I9.dr, by decide, by decide, fun b H10 D10 k10 b0 b9 => ?_⟩
        have I10 := I9.keep D10 k10
        have hL2 : H10 l2 = some (.lst [.str "old", .str "broken", .str "new"]) := k10 _ _ nl2 upd_same
        have hat : ∃ tt : Str, atI [V.str "old", V.str "broken", V.str "new"] b = some (.str tt) ∧ (tt = "old" ∨ tt = "broken" ∨ tt = "new") := by
          have e : b = 0 ∨ b = 1 ∨ b = 2 := by omega
          rcases e with rfl | rfl | rfl
          · exact ⟨_, rfl, .inl rfl⟩
          · exact ⟨_, rfl, .inr (.inl rfl)⟩
          · exact ⟨_, rfl, .inr (.inr rfl)⟩
        obtain ⟨tt, hat, htt⟩ := hat
        refine ⟨l2, _, b, _, rfl, rfl, Dw.sq_of hL2, hat, p, l, _, 0, tt, rfl, I10.me, by decide, htt, fun H11 M11 k11 => ?_⟩
        exact ⟨some 0, tt, rfl, I10.run M11 k11 I10.ok, .inr rfl, htt⟩
      · rintro σ' H8 ⟨left, t', rfl, I8, hl, ht'⟩
        generalize told + d = v at hv0 hv9 hv3 ⊢
        refine ⟨_, rfl, _, rfl, p, l, _, v, x, y, rfl, I8.me, rfl, rfl, ox, oy, by omega, hv9, fun H9 M9 k9 => ?_⟩
        obtain ⟨x', y', n', u', l', e, ox', oy', hw, hor⟩ := step (n := n) ox oy hc hl ht' t0 hv0 hv9
        rw [e] at M9
        generalize (Ct.raise ⟨row6 x y, n, true, left, t'⟩ x y 3 v).2.isSome = wh at hw ⊢
        have hok : ∀ z ∈ row6 x' y', Ct.okc z := fun z hz => by
          simp only [row6, List.mem_cons, List.not_mem_nil, or_false] at hz
          rcases hz with rfl | rfl | rfl | rfl | rfl | rfl
          · exact o0
          · exact o0
          · exact o0
          · exact ox'
          · exact oy'
          · exact o0
        have I9 := I8.run M9 k9 hok
        obtain ⟨dx9, ah9, hp9, _⟩ := I9.me.ob
        refine ⟨.ref p, rfl, p, dx9, _, rfl, hp9, no_attr (by decide +kernel), p, l, _, rfl, I9.me, fun H10 M10 k10 => ?_⟩
        have I10 := I9.run M10 k10 hok
        refine ⟨_, rfl, p, l, _, 3, x', y', rfl, I10.me, rfl, rfl, ox', oy', fun hu H11 s11 => ?_, fun z => (by cases z)⟩
        have I11 := I10.mono s11
        obtain ⟨h, eh, hh⟩ : ∃ h, Ct.cntV x' y' = .int h ∧ (h = told ∨ h = v) := by
          rcases hor with z | z
          · exact ⟨told, z, .inl rfl⟩
          · exact ⟨v, z, .inr rfl⟩
        rw [eh]
        refine ⟨_, rfl, _, rfl, _, rfl, Dw.sz_ rfl, fun tt htt => ⟨tt, _, rfl, .inr (Dw.st_of upd_same), rfl, rfl, _, rfl, ?_⟩⟩
        have hin : inV (.int h) [.int told, .int v] = true := by
          rcases hh with z | z <;> simp [inV, eqV, z]
        rw [hin]
        refine iteF ⟨_, rfl, wh, rfl, ?_⟩
        have fin : ∃ (w4 w5 w6 w7 : Option V) (told' n'' : Int) (x'' y'' : V) (t'' : Str), [some (V.ref sa), some (.ref r), some (.ref p), some (.int h), some (.int (0 + (i : Int))), some (.int v), some (.bl wh), some (.int h)] = [some (.ref sa), some (.ref r), some (.ref p), some (.int told'), w4, w5, w6, w7] ∧ Ct.Lw K H ns sa r a.C_Memory p l ⟨row6 x'' y'', n'', true, none, t''⟩ (upd H11 tt (.tup [.int told, .int v])) ∧ Ct.okc x'' ∧ Ct.okc y'' ∧ Ct.cntV x'' y'' = .int told' ∧ 0 ≤ told' ∧ told' ≤ 3 * ((i + 1 : Nat) : Int) ∧ (t'' = "old" ∨ t'' = "broken" ∨ t'' = "new") :=
          ⟨_, _, _, _, h, n', x', y', t', rfl, I11.mono (Dw.same_upd htt), ox', oy', eh, by omega, by omega, ht'⟩
        cases wh with
        | false => exact iteF ⟨_, rfl, fin⟩
        | true =>
          have e1 := hw rfl
          rw [eh] at e1
          have e1 := V.int.inj e1
          subst e1
          refine iteT ⟨_, rfl, _, rfl, rfl, _, rfl, ?_⟩
          exact iteNS rfl ⟨_, rfl, fin⟩
    · rintro σ H6 ⟨v4, v5, v6, v7, told, n, x, y, t, rfl, I6, ox, oy, hc, t0, t1, ht⟩
      obtain ⟨dx6, ah6, hp6, _⟩ := I6.me.ob
      refine ⟨.ref p, rfl, p, dx6, _, rfl, hp6, no_attr (by decide +kernel), p, l, _, rfl, I6.me, fun H7 c7 s7 n7 h7 => ?_⟩
      have I7 := I6.mono s7
      refine ⟨3, rfl, c7, _, rfl, Dw.sq_of h7, fun b hb => ?_⟩
      rw [show cutV (row6 x y) none (some 3) = [0, 0, 0].map V.int from Dw.cut_take _ 3]
      have sb := Dw.same_upd (o := .lst ([0, 0, 0].map V.int)) hb
      refine ⟨Dw.sz_ rfl, fun z hz => ?_⟩
      have sz := Dw.same_upd (o := .lst ([0, 0, 0].map V.int)) hz
      refine ⟨_, _, Dw.dp_l (Dw.sq_of (sz _ _ upd_same)) Dw.cel_ints, Dw.dp_l (xs := [0, 0, 0].map V.int) (Dw.sq_of upd_same) Dw.cel_ints, Dw.shaped_l Dw.cel_ints, Dw.shaped_l Dw.cel_ints, _, rfl, ?_⟩
      rw [Dw.eqv_l Dw.cel_ints Dw.cel_ints, decide_eq_true rfl]
      refine iteT ?_
      have I8 := (I7.mono sb).mono sz
      obtain ⟨dx8, ah8, hp8, _⟩ := I8.me.ob
      exact ⟨.ref p, rfl, p, dx8, _, rfl, hp8, no_attr (by decide +kernel), p, l, _, rfl, I8.me, fun H9 c9 s9 n9 h9 => ⟨c9, _, 5, .int 0, rfl, rfl, Dw.sq_of h9, rfl, rfl, q _⟩⟩

end
theorem exm_self {K : PySem.W.Frag} {C : Addr} (b : PySem.W.subIn K (.ref C) (.type "BaseException") = some true) (i : PySem.W.isClsIn K C = true) (t : PySem.W.typeIn K (.ref C) = some (.type "type")) (s : PySem.W.subIn K (.ref C) (.ref C) = some true) :
    PySem.W.exmOne K (.ref C) (.ref C) = some true := by
  have i' : (PySem.W.clsIn K C).isSome = true := i
  simp [PySem.W.exmOne, PySem.W.kitCls, b, t, s, i']

theorem all_mk {l : PySem.W.OpenLaw} {w : World} {K : PySem.W.Frag} {h : Heap} {mg : Str → Option Value} {fa : Addr} (X : K.In h) (G : h.Ns mainGlobals mg) (hfa : mg "law" = some (.ref fa))
    {C_Memory : Addr} (a_Memory : PySem.W.nsIn K mainGlobals "Memory" = some (some (.ref C_Memory)))
    {C_Stopped : Addr} (a_Stopped : PySem.W.nsIn K mainGlobals "Stopped" = some (some (.ref C_Stopped)))
    {f1 : Addr} {od1 an1 : Option Addr} {sl1 : Array (Option Value)} {oc1 kV1 dc1 pm1 cd1 ct1 : Value}
    (a1 : PySem.W.nsIn K mainGlobals "check_worth" = some (some (.ref f1)))
    (l1 : K.lookup f1 = some ⟨oc1, od1, .func (PySem.W.fnOf "check_worth" "check_worth" (defArgs s_check_worth) (defBody s_check_worth) (defScope s_check_worth) .none kV1 dc1 pm1 an1 cd1 ct1), sl1⟩) (c1 : PySem.W.codeIn K cd1 "check_worth" = true) (k1 : PySem.W.keepIn K (.ref f1) = true)
    {f2 : Addr} {od2 an2 : Option Addr} {sl2 : Array (Option Value)} {oc2 kV2 dc2 pm2 cd2 ct2 : Value}
    (a2 : PySem.W.findIn K (.ref C_Memory) "__init__" = some (some (.ref f2)))
    (i2 : PySem.W.isFn K (.ref f2) = true)
    (l2 : K.lookup f2 = some ⟨oc2, od2, .func (PySem.W.fnOf "__init__" "Memory.__init__" (defArgs s_Memory___init__) (defBody s_Memory___init__) (defScope s_Memory___init__) .none kV2 dc2 pm2 an2 cd2 ct2), sl2⟩) (c2 : PySem.W.codeIn K cd2 "Memory.__init__" = true) (k2 : PySem.W.keepIn K (.ref f2) = true)
    {f3 : Addr} {od3 an3 : Option Addr} {sl3 : Array (Option Value)} {oc3 kV3 dc3 pm3 cd3 ct3 : Value}
    (a3 : PySem.W.findIn K (.ref C_Memory) "row" = some (some (.ref f3)))
    (i3 : PySem.W.isFn K (.ref f3) = true)
    (l3 : K.lookup f3 = some ⟨oc3, od3, .func (PySem.W.fnOf "row" "Memory.row" (defArgs s_Memory_row) (defBody s_Memory_row) (defScope s_Memory_row) .none kV3 dc3 pm3 an3 cd3 ct3), sl3⟩) (c3 : PySem.W.codeIn K cd3 "Memory.row" = true) (k3 : PySem.W.keepIn K (.ref f3) = true)
    {f4 : Addr} {od4 an4 : Option Addr} {sl4 : Array (Option Value)} {oc4 kV4 dc4 pm4 cd4 ct4 : Value}
    (a4 : PySem.W.findIn K (.ref C_Memory) "write" = some (some (.ref f4)))
    (i4 : PySem.W.isFn K (.ref f4) = true)
    (l4 : K.lookup f4 = some ⟨oc4, od4, .func (PySem.W.fnOf "write" "Memory.write" (defArgs s_Memory_write) (defBody s_Memory_write) (defScope s_Memory_write) .none kV4 dc4 pm4 an4 cd4 ct4), sl4⟩) (c4 : PySem.W.codeIn K cd4 "Memory.write" = true) (k4 : PySem.W.keepIn K (.ref f4) = true)
    {f5 : Addr} {od5 an5 : Option Addr} {sl5 : Array (Option Value)} {oc5 kV5 dc5 pm5 cd5 ct5 : Value}
    (a5 : PySem.W.findIn K (.ref C_Memory) "cut" = some (some (.ref f5)))
    (i5 : PySem.W.isFn K (.ref f5) = true)
    (l5 : K.lookup f5 = some ⟨oc5, od5, .func (PySem.W.fnOf "cut" "Memory.cut" (defArgs s_Memory_cut) (defBody s_Memory_cut) (defScope s_Memory_cut) .none kV5 dc5 pm5 an5 cd5 ct5), sl5⟩) (c5 : PySem.W.codeIn K cd5 "Memory.cut" = true) (k5 : PySem.W.keepIn K (.ref f5) = true)
    {f6 : Addr} {od6 an6 : Option Addr} {sl6 : Array (Option Value)} {oc6 kV6 dc6 pm6 cd6 ct6 : Value}
    (a6 : PySem.W.findIn K (.ref C_Memory) "up" = some (some (.ref f6)))
    (i6 : PySem.W.isFn K (.ref f6) = true)
    (l6 : K.lookup f6 = some ⟨oc6, od6, .func (PySem.W.fnOf "up" "Memory.up" (defArgs s_Memory_up) (defBody s_Memory_up) (defScope s_Memory_up) .none kV6 dc6 pm6 an6 cd6 ct6), sl6⟩) (c6 : PySem.W.codeIn K cd6 "Memory.up" = true) (k6 : PySem.W.keepIn K (.ref f6) = true)
    {f7 : Addr} {od7 an7 : Option Addr} {sl7 : Array (Option Value)} {oc7 kV7 dc7 pm7 cd7 ct7 : Value}
    (a7 : PySem.W.findIn K (.ref C_Memory) "cells" = some (some (.ref f7)))
    (i7 : PySem.W.isFn K (.ref f7) = true)
    (l7 : K.lookup f7 = some ⟨oc7, od7, .func (PySem.W.fnOf "cells" "Memory.cells" (defArgs s_Memory_cells) (defBody s_Memory_cells) (defScope s_Memory_cells) .none kV7 dc7 pm7 an7 cd7 ct7), sl7⟩) (c7 : PySem.W.codeIn K cd7 "Memory.cells" = true) (k7 : PySem.W.keepIn K (.ref f7) = true)
    {f8 : Addr} {od8 an8 : Option Addr} {sl8 : Array (Option Value)} {oc8 kV8 dc8 pm8 cd8 ct8 : Value}
    (a8 : PySem.W.findIn K (.ref C_Memory) "_check_place" = some (some (.ref f8)))
    (i8 : PySem.W.isFn K (.ref f8) = true)
    (l8 : K.lookup f8 = some ⟨oc8, od8, .func (PySem.W.fnOf "_check_place" "Memory._check_place" (defArgs s_Memory__check_place) (defBody s_Memory__check_place) (defScope s_Memory__check_place) .none kV8 dc8 pm8 an8 cd8 ct8), sl8⟩) (c8 : PySem.W.codeIn K cd8 "Memory._check_place" = true) (k8 : PySem.W.keepIn K (.ref f8) = true)
    {f9 : Addr} {od9 an9 : Option Addr} {sl9 : Array (Option Value)} {oc9 kV9 dc9 pm9 cd9 ct9 : Value}
    (a9 : PySem.W.findIn K (.ref C_Memory) "_check_power" = some (some (.ref f9)))
    (i9 : PySem.W.isFn K (.ref f9) = true)
    (l9 : K.lookup f9 = some ⟨oc9, od9, .func (PySem.W.fnOf "_check_power" "Memory._check_power" (defArgs s_Memory__check_power) (defBody s_Memory__check_power) (defScope s_Memory__check_power) .none kV9 dc9 pm9 an9 cd9 ct9), sl9⟩) (c9 : PySem.W.codeIn K cd9 "Memory._check_power" = true) (k9 : PySem.W.keepIn K (.ref f9) = true)
    {f10 : Addr} {od10 an10 : Option Addr} {sl10 : Array (Option Value)} {oc10 kV10 dc10 pm10 cd10 ct10 : Value}
    (a10 : PySem.W.findIn K (.ref C_Memory) "_lose_power" = some (some (.ref f10)))
    (i10 : PySem.W.isFn K (.ref f10) = true)
    (l10 : K.lookup f10 = some ⟨oc10, od10, .func (PySem.W.fnOf "_lose_power" "Memory._lose_power" (defArgs s_Memory__lose_power) (defBody s_Memory__lose_power) (defScope s_Memory__lose_power) .none kV10 dc10 pm10 an10 cd10 ct10), sl10⟩) (c10 : PySem.W.codeIn K cd10 "Memory._lose_power" = true) (k10 : PySem.W.keepIn K (.ref f10) = true)
    {f11 : Addr} {od11 an11 : Option Addr} {sl11 : Array (Option Value)} {oc11 kV11 dc11 pm11 cd11 ct11 : Value}
    (a11 : PySem.W.nsIn K mainGlobals "check_handed" = some (some (.ref f11)))
    (l11 : K.lookup f11 = some ⟨oc11, od11, .func (PySem.W.fnOf "check_handed" "check_handed" (defArgs s_check_handed) (defBody s_check_handed) (defScope s_check_handed) .none kV11 dc11 pm11 an11 cd11 ct11), sl11⟩) (c11 : PySem.W.codeIn K cd11 "check_handed" = true) (k11 : PySem.W.keepIn K (.ref f11) = true)
    {f12 : Addr} {od12 an12 : Option Addr} {sl12 : Array (Option Value)} {oc12 kV12 dc12 pm12 cd12 ct12 : Value}
    (a12 : PySem.W.nsIn K mainGlobals "count" = some (some (.ref f12)))
    (l12 : K.lookup f12 = some ⟨oc12, od12, .func (PySem.W.fnOf "count" "count" (defArgs s_count) (defBody s_count) (defScope s_count) .none kV12 dc12 pm12 an12 cd12 ct12), sl12⟩) (c12 : PySem.W.codeIn K cd12 "count" = true) (k12 : PySem.W.keepIn K (.ref f12) = true)
    {f13 : Addr} {od13 an13 : Option Addr} {sl13 : Array (Option Value)} {oc13 kV13 dc13 pm13 cd13 ct13 : Value}
    (a13 : PySem.W.nsIn K mainGlobals "raise_to" = some (some (.ref f13)))
    (l13 : K.lookup f13 = some ⟨oc13, od13, .func (PySem.W.fnOf "raise_to" "raise_to" (defArgs s_raise_to) (defBody s_raise_to) (defScope s_raise_to) .none kV13 dc13 pm13 an13 cd13 ct13), sl13⟩) (c13 : PySem.W.codeIn K cd13 "raise_to" = true) (k13 : PySem.W.keepIn K (.ref f13) = true)
    {f14 : Addr} {od14 an14 : Option Addr} {sl14 : Array (Option Value)} {oc14 kV14 dc14 pm14 cd14 ct14 : Value}
    (a14 : PySem.W.nsIn K mainGlobals "rank" = some (some (.ref f14)))
    (l14 : K.lookup f14 = some ⟨oc14, od14, .func (PySem.W.fnOf "rank" "rank" (defArgs s_rank) (defBody s_rank) (defScope s_rank) .none kV14 dc14 pm14 an14 cd14 ct14), sl14⟩) (c14 : PySem.W.codeIn K cd14 "rank" = true) (k14 : PySem.W.keepIn K (.ref f14) = true)
    {f15 : Addr} {od15 an15 : Option Addr} {sl15 : Array (Option Value)} {oc15 kV15 dc15 pm15 cd15 ct15 : Value}
    (a15 : PySem.W.nsIn K mainGlobals "_law_taken" = some (some (.ref f15)))
    (l15 : K.lookup f15 = some ⟨oc15, od15, .func (PySem.W.fnOf "_law_taken" "_law_taken" (defArgs s_l_taken) (defBody s_l_taken) (defScope s_l_taken) .none kV15 dc15 pm15 an15 cd15 ct15), sl15⟩) (c15 : PySem.W.codeIn K cd15 "_law_taken" = true) (k15 : PySem.W.keepIn K (.ref f15) = true)
    {f16 : Addr} {od16 an16 : Option Addr} {sl16 : Array (Option Value)} {oc16 kV16 dc16 pm16 cd16 ct16 : Value}
    (a16 : PySem.W.nsIn K mainGlobals "_law_is_whole" = some (some (.ref f16)))
    (l16 : K.lookup f16 = some ⟨oc16, od16, .func (PySem.W.fnOf "_law_is_whole" "_law_is_whole" (defArgs s_l_is_whole) (defBody s_l_is_whole) (defScope s_l_is_whole) .none kV16 dc16 pm16 an16 cd16 ct16), sl16⟩) (c16 : PySem.W.codeIn K cd16 "_law_is_whole" = true) (k16 : PySem.W.keepIn K (.ref f16) = true)
    {f17 : Addr} {od17 an17 : Option Addr} {sl17 : Array (Option Value)} {oc17 kV17 dc17 pm17 cd17 ct17 : Value}
    (a17 : PySem.W.nsIn K mainGlobals "law" = some (some (.ref f17)))
    (l17 : K.lookup f17 = some ⟨oc17, od17, .func (PySem.W.fnOf "law" "law" (defArgs s_law) (defBody s_law) (defScope s_law) .none kV17 dc17 pm17 an17 cd17 ct17), sl17⟩) (c17 : PySem.W.codeIn K cd17 "law" = true) (k17 : PySem.W.keepIn K (.ref f17) = true)
    (pg_Memory : PySem.W.plainGet K C_Memory Str.empty = true) (hd_Memory : PySem.W.hasDictIn K C_Memory = true) (po_Memory : PySem.W.plainOver K C_Memory = true) (sa_Memory : PySem.W.findIn K (.ref C_Memory) "__setattr__" = some (some (.builtin "object.__setattr__"))) (mk_Memory : PySem.W.makesIn K C_Memory = true) (kc_Memory : PySem.W.keepIn K (.ref C_Memory) = true)
    (n_Memory__cells : PySem.W.findIn K (.ref C_Memory) "_cells" = some none)
    (n_Memory__whole_writes : PySem.W.findIn K (.ref C_Memory) "_whole_writes" = some none)
    (n_Memory__has_power : PySem.W.findIn K (.ref C_Memory) "_has_power" = some none)
    (n_Memory__ahead : PySem.W.findIn K (.ref C_Memory) "_ahead" = some none)
    (n_Memory__torn : PySem.W.findIn K (.ref C_Memory) "_torn" = some none)
    (x_Stopped : PySem.W.excIn K C_Stopped [.type "ValueError", .type "Exception", .type "BaseException", .type "object"] "ValueError.__new__" = true) (kx_Stopped : PySem.W.keepIn K (.ref C_Stopped) = true) (bx_Stopped : PySem.W.subIn K (.ref C_Stopped) (.type "BaseException") = some true) (tx_Stopped : PySem.W.typeIn K (.ref C_Stopped) = some (.type "type"))
    (ix_Stopped : PySem.W.isClsIn K C_Stopped = true) (sx_Stopped : PySem.W.subIn K (.ref C_Stopped) (.ref C_Stopped) = some true)
    (z_len : PySem.W.nsIn K mainGlobals "len" = some none)
    (z_list : PySem.W.nsIn K mainGlobals "list" = some none)
    (z_max : PySem.W.nsIn K mainGlobals "max" = some none)
    (z_range : PySem.W.nsIn K mainGlobals "range" = some none)
    {t_COUNTER_CELLS : Tok} (y_COUNTER_CELLS : PySem.W.nsIn K mainGlobals "COUNTER_CELLS" = some (some (.int 2 t_COUNTER_CELLS)))
    {t_GREATEST_WORTH : Tok} (y_GREATEST_WORTH : PySem.W.nsIn K mainGlobals "GREATEST_WORTH" = some (some (.int 9972 t_GREATEST_WORTH)))
    {t_LATEST_CUT : Tok} (y_LATEST_CUT : PySem.W.nsIn K mainGlobals "LATEST_CUT" = some (some (.int 100000 t_LATEST_CUT)))
    {t_MOST_CELLS : Tok} (y_MOST_CELLS : PySem.W.nsIn K mainGlobals "MOST_CELLS" = some (some (.int 400 t_MOST_CELLS)))
    {t_TORN : Addr} (y_TORN : PySem.W.nsIn K mainGlobals "TORN" = some (some (.ref t_TORN))) {od_TORN : Option Addr} {nn_TORN : Nat} {ss_TORN : Array (Option Value)} {u_TORN0 u_TORN1 u_TORN2 : Tok} (lt_TORN : K.lookup t_TORN = some ⟨.type "tuple", od_TORN, .seq #[.str "old" u_TORN0, .str "broken" u_TORN1, .str "new" u_TORN2] nn_TORN, ss_TORN⟩)
    : ∃ fd : FuncData, (∀ (s : Shared) (v : Value), BindsTo s fd ⟨[v], []⟩ [("_law_script", v)]) ∧ ∀ base : Heap, K.In base → base.Ns mainGlobals mg → FnOk l.prog w K mg base CX0 6 fa fd ["_law_script"] (spLaw K) := by
  have e := hfa.symm.trans (PySem.W.mg_of X G a17)
  cases e
  have F1 := fun_mk (st := s_check_worth) l1 c1 k1
  have b1 := F1.binds (ps := P_check_worth) fun _ _ _ _ _ _ us hl => match us, hl with | [_], _ => rfl
  have F2 := fun_mk (st := s_Memory___init__) l2 c2 k2
  have b2 := F2.binds (ps := P_Memory___init__) fun _ _ _ _ _ _ us hl => match us, hl with | [_, _], _ => rfl
  have F3 := fun_mk (st := s_Memory_row) l3 c3 k3
  have b3 := F3.binds (ps := P_Memory_row) fun _ _ _ _ _ _ us hl => match us, hl with | [_, _, _], _ => rfl
  have F4 := fun_mk (st := s_Memory_write) l4 c4 k4
  have b4 := F4.binds (ps := P_Memory_write) fun _ _ _ _ _ _ us hl => match us, hl with | [_, _, _], _ => rfl
  have F5 := fun_mk (st := s_Memory_cut) l5 c5 k5
  have b5 := F5.binds (ps := P_Memory_cut) fun _ _ _ _ _ _ us hl => match us, hl with | [_, _, _], _ => rfl
  have F6 := fun_mk (st := s_Memory_up) l6 c6 k6
  have b6 := F6.binds (ps := P_Memory_up) fun _ _ _ _ _ _ us hl => match us, hl with | [_], _ => rfl
  have F7 := fun_mk (st := s_Memory_cells) l7 c7 k7
  have b7 := F7.binds (ps := P_Memory_cells) fun _ _ _ _ _ _ us hl => match us, hl with | [_], _ => rfl
  have F8 := fun_mk (st := s_Memory__check_place) l8 c8 k8
  have b8 := F8.binds (ps := P_Memory__check_place) fun _ _ _ _ _ _ us hl => match us, hl with | [_, _], _ => rfl
  have F9 := fun_mk (st := s_Memory__check_power) l9 c9 k9
  have b9 := F9.binds (ps := P_Memory__check_power) fun _ _ _ _ _ _ us hl => match us, hl with | [_], _ => rfl
  have F10 := fun_mk (st := s_Memory__lose_power) l10 c10 k10
  have b10 := F10.binds (ps := P_Memory__lose_power) fun _ _ _ _ _ _ us hl => match us, hl with | [_, _, _], _ => rfl
  have F11 := fun_mk (st := s_check_handed) l11 c11 k11
  have b11 := F11.binds (ps := P_check_handed) fun _ _ _ _ _ _ us hl => match us, hl with | [_, _, _, _], _ => rfl
  have F12 := fun_mk (st := s_count) l12 c12 k12
  have b12 := F12.binds (ps := P_count) fun _ _ _ _ _ _ us hl => match us, hl with | [_, _], _ => rfl
  have F13 := fun_mk (st := s_raise_to) l13 c13 k13
  have b13 := F13.binds (ps := P_raise_to) fun _ _ _ _ _ _ us hl => match us, hl with | [_, _, _], _ => rfl
  have F14 := fun_mk (st := s_rank) l14 c14 k14
  have b14 := F14.binds (ps := P_rank) fun _ _ _ _ _ _ us hl => match us, hl with | [_], _ => rfl
  have F15 := fun_mk (st := s_l_taken) l15 c15 k15
  have b15 := F15.binds (ps := P_l_taken) fun _ _ _ _ _ _ us hl => match us, hl with | [_, _], _ => rfl
  have F16 := fun_mk (st := s_l_is_whole) l16 c16 k16
  have b16 := F16.binds (ps := P_l_is_whole) fun _ _ _ _ _ _ us hl => match us, hl with | [_, _], _ => rfl
  have F17 := fun_mk (st := s_law) l17 c17 k17
  have b17 := F17.binds (ps := P_law) fun _ _ _ _ _ _ us hl => match us, hl with | [_], _ => rfl
  have T : Top K mg ⟨f1, _, f2, _, f3, _, f4, _, f5, _, f6, _, f7, _, f8, _, f9, _, f10, _, f11, _, f12, _, f13, _, f14, _, f15, _, f16, _, _, _, t_COUNTER_CELLS, t_GREATEST_WORTH, t_LATEST_CUT, t_MOST_CELLS, t_TORN, C_Memory, C_Stopped⟩ := ⟨F1, b1, PySem.W.mg_of X G a1, F2, b2, ⟨mk_Memory, a2, i2, kc_Memory⟩, F3, b3, ⟨a3, i3, k3⟩, F4, b4, ⟨a4, i4, k4⟩, F5, b5, ⟨a5, i5, k5⟩, F6, b6, ⟨a6, i6, k6⟩, F7, b7, ⟨a7, i7, k7⟩, F8, b8, ⟨a8, i8, k8⟩, F9, b9, ⟨a9, i9, k9⟩, F10, b10, ⟨a10, i10, k10⟩, F11, b11, PySem.W.mg_of X G a11, F12, b12, PySem.W.mg_of X G a12, F13, b13, PySem.W.mg_of X G a13, F14, b14, PySem.W.mg_of X G a14, F15, b15, PySem.W.mg_of X G a15, F16, b16, PySem.W.mg_of X G a16, F17, b17, PySem.W.mg_of X G a17, ⟨pg_Memory, hd_Memory, po_Memory, sa_Memory⟩, PySem.W.mg_of X G a_Memory, n_Memory__cells, n_Memory__whole_writes, n_Memory__has_power, n_Memory__ahead, n_Memory__torn, PySem.W.mg_of X G a_Stopped, x_Stopped, kx_Stopped, bx_Stopped, tx_Stopped, (exm_self bx_Stopped ix_Stopped tx_Stopped sx_Stopped), PySem.W.mg_none_of X G z_len, PySem.W.mg_none_of X G z_list, PySem.W.mg_none_of X G z_max, PySem.W.mg_none_of X G z_range, PySem.W.mg_of X G y_COUNTER_CELLS, PySem.W.mg_of X G y_GREATEST_WORTH, PySem.W.mg_of X G y_LATEST_CUT, PySem.W.mg_of X G y_MOST_CELLS, PySem.W.mg_of X G y_TORN, (fun _ => .inr ⟨_, _, _, lt_TORN, rfl, rfl, Dw.sz_ rfl, (.cons ⟨_, rfl⟩ (.cons ⟨_, rfl⟩ (.cons ⟨_, rfl⟩ .nil)))⟩)⟩
  exact ⟨PySem.W.fnOf "law" "law" (defArgs s_law) (defBody s_law) (defScope s_law) .none kV17 dc17 pm17 an17 cd17 ct17, fun s v => .of_eq rfl, fun base _ _ => G_law T⟩
end K06
open PySem PySem.W PyProof.Rows
set_option maxRecDepth 100000 in
set_option maxHeartbeats 0 in
theorem PySem.Challenge.cw_twoimages_k06_whole_a_counter_never_goes_holds : PySem.Challenge.rw_twoimages_k06_whole_a_counter_never_goes.Holds := by
  w_on; o_law; k_head; (case hw => w_witness2)
  k_fill
  refine L2.walk_of (l := PySem.Challenge.rw_twoimages_k06_whole_a_counter_never_goes) (n := 63) (k := 6) (x := "_law_script") (CX := fun _ => L2.CX0) (sp := fun w => K06.spLaw _) rfl (by decide) rfl ⟨rfl, by decide, by decide⟩ (fun w h Y => PySem.W.kIn_of Y) ?F (fun _ _ a ns hl _ hS => ⟨a, ns, rfl, hS, hl, fun _ => rfl⟩) (fun _ _ _ _ _ h => h)
  case F =>
    intro w mg fa h KX G hmg
    refine' K06.all_mk KX G hmg ?a_Memory ?a_Stopped ?a1 ?l1 ?c1 ?k1 ?a2 ?i2 ?l2 ?c2 ?k2 ?a3 ?i3 ?l3 ?c3 ?k3 ?a4 ?i4 ?l4 ?c4 ?k4 ?a5 ?i5 ?l5 ?c5 ?k5 ?a6 ?i6 ?l6 ?c6 ?k6 ?a7 ?i7 ?l7 ?c7 ?k7 ?a8 ?i8 ?l8 ?c8 ?k8 ?a9 ?i9 ?l9 ?c9 ?k9 ?a10 ?i10 ?l10 ?c10 ?k10 ?a11 ?l11 ?c11 ?k11 ?a12 ?l12 ?c12 ?k12 ?a13 ?l13 ?c13 ?k13 ?a14 ?l14 ?c14 ?k14 ?a15 ?l15 ?c15 ?k15 ?a16 ?l16 ?c16 ?k16 ?a17 ?l17 ?c17 ?k17 ?pg_Memory ?hd_Memory ?po_Memory ?sa_Memory ?mk_Memory ?kc_Memory ?n_Memory__cells ?n_Memory__whole_writes ?n_Memory__has_power ?n_Memory__ahead ?n_Memory__torn ?x_Stopped ?kx_Stopped ?bx_Stopped ?tx_Stopped ?ix_Stopped ?sx_Stopped ?z_len ?z_list ?z_max ?z_range ?y_COUNTER_CELLS ?y_GREATEST_WORTH ?y_LATEST_CUT ?y_MOST_CELLS ?y_TORN ?lt_TORN
    (case a_Memory => k_is); (case a_Stopped => k_is); (case a1 => k_is); (case l1 => k_is); (case c1 => k_is); (case k1 => k_is); (case a2 => k_is); (case i2 => k_is); (case l2 => k_is); (case c2 => k_is); (case k2 => k_is); (case a3 => k_is); (case i3 => k_is); (case l3 => k_is); (case c3 => k_is); (case k3 => k_is); (case a4 => k_is); (case i4 => k_is); (case l4 => k_is); (case c4 => k_is); (case k4 => k_is); (case a5 => k_is); (case i5 => k_is); (case l5 => k_is); (case c5 => k_is); (case k5 => k_is); (case a6 => k_is); (case i6 => k_is); (case l6 => k_is); (case c6 => k_is); (case k6 => k_is); (case a7 => k_is); (case i7 => k_is); (case l7 => k_is); (case c7 => k_is); (case k7 => k_is); (case a8 => k_is); (case i8 => k_is); (case l8 => k_is); (case c8 => k_is); (case k8 => k_is); (case a9 => k_is); (case i9 => k_is); (case l9 => k_is); (case c9 => k_is); (case k9 => k_is); (case a10 => k_is); (case i10 => k_is); (case l10 => k_is); (case c10 => k_is); (case k10 => k_is); (case a11 => k_is); (case l11 => k_is); (case c11 => k_is); (case k11 => k_is); (case a12 => k_is); (case l12 => k_is); (case c12 => k_is); (case k12 => k_is); (case a13 => k_is); (case l13 => k_is); (case c13 => k_is); (case k13 => k_is); (case a14 => k_is); (case l14 => k_is); (case c14 => k_is); (case k14 => k_is); (case a15 => k_is); (case l15 => k_is); (case c15 => k_is); (case k15 => k_is); (case a16 => k_is); (case l16 => k_is); (case c16 => k_is); (case k16 => k_is); (case a17 => k_is); (case l17 => k_is); (case c17 => k_is); (case k17 => k_is); (case pg_Memory => k_is); (case hd_Memory => k_is); (case po_Memory => k_is); (case sa_Memory => k_is); (case mk_Memory => k_is); (case kc_Memory => k_is); (case n_Memory__cells => k_is); (case n_Memory__whole_writes => k_is); (case n_Memory__has_power => k_is); (case n_Memory__ahead => k_is); (case n_Memory__torn => k_is); (case x_Stopped => k_exc); (case kx_Stopped => k_is); (case bx_Stopped => k_is); (case tx_Stopped => k_is); (case ix_Stopped => k_is); (case sx_Stopped => k_is); (case z_len => k_is); (case z_list => k_is); (case z_max => k_is); (case z_range => k_is); (case y_COUNTER_CELLS => k_is); (case y_GREATEST_WORTH => k_is); (case y_LATEST_CUT => k_is); (case y_MOST_CELLS => k_is); (case y_TORN => k_is); (case lt_TORN => k_is)

