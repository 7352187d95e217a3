import PyProof.Rows.All
import Wide.All
import OpenK.AllK
import Wide.FinOn
import HandS.ForMost
import HandS.Codes
import HandS.IsInst
import KE.GoesEnumKw
import HandS.ForExc
import HandS.Lambda
import HandS.EndTab
import HandS.Small
import PySem.Challenge.RW_twoimages_k02_whole_cells_write_by_write
set_option Elab.async false
set_option linter.all false
set_option autoImplicit false
set_option maxRecDepth 100000
/-! the mathematics of sums and seals: plain lists of ints -/
namespace Sm
def step (p : Int × Int) (x : Int) : Int × Int := ((p.1 + x + 1) % 9973, (p.2 + (p.1 + x + 1) % 9973) % 9973)
def sumsI (xs : List Int) : Int × Int := xs.foldl step (0, 0)
def sl (k t x : Int) : Int := (t * k + x + 1) % 9973
def sealI (k : Int) (xs : List Int) : Int := xs.foldl (sl k) k
/-- the weights -/
def w1 : List Int → Int
  | [] => 0
  | x :: r => (x + 1) + w1 r
def w2 : List Int → Int
  | [] => 0
  | x :: r => ((r.length : Int) + 1) * (x + 1) + w2 r
theorem fold_w : ∀ (xs : List Int) (a b : Int), xs.foldl step (a % 9973, b % 9973) = ((a + w1 xs) % 9973, (b + (xs.length : Int) * a + w2 xs) % 9973)
  | [], a, b => by simp [w1, w2]
  | x :: r, a, b => by
    have e : step (a % 9973, b % 9973) x = ((a + (x + 1)) % 9973, (b + (a + (x + 1))) % 9973) := by
      unfold step
      simp only
      refine Prod.ext ?_ ?_
      · show (a % 9973 + x + 1) % 9973 = (a + (x + 1)) % 9973
        omega
      · show (b % 9973 + (a % 9973 + x + 1) % 9973) % 9973 = (b + (a + (x + 1))) % 9973
        omega
    rw [List.foldl_cons, e, fold_w r]
    refine Prod.ext ?_ ?_
    · show (a + (x + 1) + w1 r) % 9973 = (a + ((x + 1) + w1 r)) % 9973
      congr 1
      omega
    · show (b + (a + (x + 1)) + (r.length : Int) * (a + (x + 1)) + w2 r) % 9973 = (b + ((x :: r).length : Int) * a + (((r.length : Int) + 1) * (x + 1) + w2 r)) % 9973
      congr 1
      rw [List.length_cons]
      have e1 : ((r.length + 1 : Nat) : Int) * a = (r.length : Int) * a + a := by
        rw [Int.natCast_add, Int.add_mul]
        simp
      have e2 : ((r.length : Int) + 1) * (x + 1) = (r.length : Int) * (x + 1) + (x + 1) := by
        rw [Int.add_mul, Int.one_mul]
      have e3 : (r.length : Int) * (a + (x + 1)) = (r.length : Int) * a + (r.length : Int) * (x + 1) := Int.mul_add _ _ _
      rw [e1, e2, e3]
      omega
theorem sums_w (xs : List Int) : sumsI xs = (w1 xs % 9973, w2 xs % 9973) := by
  have h := fold_w xs 0 0
  unfold sumsI
  rw [show ((0 : Int), (0 : Int)) = (0 % 9973, 0 % 9973) from rfl, h]
  refine Prod.ext ?_ ?_
  · show (0 + w1 xs) % 9973 = _
    rw [Int.zero_add]
  · show (0 + (xs.length : Int) * 0 + w2 xs) % 9973 = _
    rw [Int.mul_zero, Int.add_zero, Int.zero_add]
/-- a number put at a place: what the weights become -/
theorem w1_set : ∀ (xs : List Int) (i : Nat) (x y : Int), xs[i]? = some x → w1 (xs.set i y) = w1 xs + (y - x)
  | [], i, x, y, h => by simp at h
  | a :: r, 0, x, y, h => by
    have e : a = x := by simpa using h
    subst e
    show (y + 1) + w1 r = (a + 1) + w1 r + (y - a)
    omega
  | a :: r, i + 1, x, y, h => by
    have ih := w1_set r i x y (by simpa using h)
    show (a + 1) + w1 (r.set i y) = (a + 1) + w1 r + (y - x)
    omega
theorem w2_set : ∀ (xs : List Int) (i : Nat) (x y : Int), xs[i]? = some x → w2 (xs.set i y) = w2 xs + ((xs.length : Int) - i) * (y - x)
  | [], i, x, y, h => by simp at h
  | a :: r, 0, x, y, h => by
    have e : a = x := by simpa using h
    subst e
    show ((r.length : Int) + 1) * (y + 1) + w2 r = ((r.length : Int) + 1) * (a + 1) + w2 r + ((((a :: r).length : Nat) : Int) - ((0 : Nat) : Int)) * (y - a)
    rw [List.length_cons, show (((r.length + 1 : Nat)) : Int) - ((0 : Nat) : Int) = (r.length : Int) + 1 by omega]
    rw [Int.mul_sub, Int.mul_add, Int.mul_add]
    omega
  | a :: r, i + 1, x, y, h => by
    have ih := w2_set r i x y (by simpa using h)
    show (((r.set i y).length : Int) + 1) * (a + 1) + w2 (r.set i y) = ((r.length : Int) + 1) * (a + 1) + w2 r + ((((a :: r).length : Nat) : Int) - ((i + 1 : Nat) : Int)) * (y - x)
    rw [List.length_set, List.length_cons, show (((r.length + 1 : Nat)) : Int) - ((i + 1 : Nat) : Int) = (r.length : Int) - i by omega, ih]
    omega
/-! the prime -/
def chk : Nat → Bool
  | 0 => true
  | k + 1 => (Nat.gcd (k + 1) 9973 == 1) && chk k
theorem chk_ok : chk 9972 = true := by decide +kernel
theorem chk_at : ∀ n k : Nat, chk n = true → 0 < k → k ≤ n → Nat.gcd k 9973 = 1
  | 0, k, _, h0, h1 => by omega
  | n + 1, k, h, h0, h1 => by
    unfold chk at h
    rw [Bool.and_eq_true] at h
    by_cases e : k = n + 1
    · subst e
      exact eq_of_beq h.1
    · exact chk_at n k h.2 h0 (by omega)
theorem cop_small (k : Nat) (h : k < 9973) : k = 0 ∨ Nat.gcd k 9973 = 1 := by
  by_cases e : k = 0
  · exact .inl e
  · exact .inr (chk_at 9972 k chk_ok (by omega) (by omega))
theorem dvd_small {k : Nat} (h0 : 0 < k) (h1 : k < 9973) {m : Nat} (h : 9973 ∣ k * m) : 9973 ∣ m := by
  have g : Nat.gcd 9973 k = 1 := by
    rw [Nat.gcd_comm]
    rcases cop_small k h1 with e | e
    · omega
    · exact e
  exact Nat.Coprime.dvd_of_dvd_mul_left (n := m) (m := k) (k := 9973) g h
/-- a product of a small factor that isn't nought and a small difference is no multiple -/
theorem no_mult {c d : Int} (hc0 : c ≠ 0) (hc1 : -9973 < c) (hc2 : c < 9973) (hd1 : -9973 < d) (hd2 : d < 9973) (h : (c * d) % 9973 = 0) : d = 0 := by
  have h1 : (9973 : Int) ∣ c * d := Int.dvd_of_emod_eq_zero h
  have h2 : 9973 ∣ c.natAbs * d.natAbs := by
    rw [← Int.natAbs_mul]
    exact Int.natAbs_dvd_natAbs.mpr h1
  have h3 : 9973 ∣ d.natAbs := dvd_small (by omega) (by omega) h2
  have h4 : d.natAbs = 0 := Nat.eq_zero_of_dvd_of_lt h3 (by omega)
  omega
/-- one number changed -/
theorem one_ne {xs : List Int} {i : Nat} {x y : Int} (h : xs[i]? = some x) (hne : y ≠ x) (hx : 0 ≤ x ∧ x < 9973) (hy : 0 ≤ y ∧ y < 9973) : sumsI (xs.set i y) ≠ sumsI xs := by
  intro e
  rw [sums_w, sums_w] at e
  have e1 : w1 (xs.set i y) % 9973 = w1 xs % 9973 := congrArg Prod.fst e
  rw [w1_set xs i x y h] at e1
  omega
/-- two numbers changed -/
theorem two_ne {xs : List Int} {i j : Nat} {x y u v : Int} (h : xs[i]? = some x) (hij : i ≠ j) (h' : xs[j]? = some u) (hl : xs.length ≤ 1000) (hne : y ≠ x) (hx : 0 ≤ x ∧ x < 9973) (hy : 0 ≤ y ∧ y < 9973) (hu : 0 ≤ u ∧ u < 9973) (hv : 0 ≤ v ∧ v < 9973) :
    sumsI ((xs.set i y).set j v) ≠ sumsI xs := by
  intro e
  have hi : i < xs.length := (List.getElem?_eq_some_iff.mp h).1
  have hj : j < xs.length := (List.getElem?_eq_some_iff.mp h').1
  have h2 : (xs.set i y)[j]? = some u := by
    rw [List.getElem?_set_ne hij]
    exact h'
  rw [sums_w, sums_w] at e
  have e1 : w1 ((xs.set i y).set j v) % 9973 = w1 xs % 9973 := congrArg Prod.fst e
  have e2 : w2 ((xs.set i y).set j v) % 9973 = w2 xs % 9973 := congrArg Prod.snd e
  rw [w1_set _ j u v h2, w1_set xs i x y h] at e1
  rw [w2_set _ j u v h2, w2_set xs i x y h, List.length_set] at e2
  -- the differences
  have hd : ∃ q : Int, (v - u) = 9973 * q - (y - x) := ⟨((y - x) + (v - u)) / 9973, by omega⟩
  obtain ⟨q, hq⟩ := hd
  rw [hq] at e2
  have e3 : ((xs.length : Int) - i) * (y - x) + ((xs.length : Int) - j) * (9973 * q - (y - x)) = ((j : Int) - i) * (y - x) + 9973 * (((xs.length : Int) - j) * q) := by
    have a1 : ((xs.length : Int) - j) * (9973 * q - (y - x)) = 9973 * (((xs.length : Int) - j) * q) - ((xs.length : Int) - j) * (y - x) := by
      rw [Int.mul_sub, Int.mul_left_comm]
    have a2 : ((xs.length : Int) - i) * (y - x) = ((xs.length : Int) - j) * (y - x) + ((j : Int) - i) * (y - x) := by
      rw [← Int.add_mul]
      congr 1
      omega
    rw [a1, a2]
    omega
  have e4 : (((j : Int) - i) * (y - x)) % 9973 = 0 := by
    rw [Int.add_assoc, e3] at e2
    omega
  have := no_mult (c := (j : Int) - i) (d := y - x) (by omega) (by omega) (by omega) (by omega) (by omega) e4
  omega
/-! the seal -/
theorem sl_range (k t x : Int) : 0 ≤ sl k t x ∧ sl k t x < 9973 := by
  unfold sl
  omega
theorem seal_range : ∀ (k : Int) (xs : List Int) (t : Int), (0 ≤ t ∧ t < 9973) → 0 ≤ xs.foldl (sl k) t ∧ xs.foldl (sl k) t < 9973
  | _, [], _, h => h
  | k, x :: r, t, _ => seal_range k r (sl k t x) (sl_range k t x)
theorem sl_inj {k t u x : Int} (hk : 1 ≤ k ∧ k < 9973) (ht : 0 ≤ t ∧ t < 9973) (hu : 0 ≤ u ∧ u < 9973) (h : sl k t x = sl k u x) : t = u := by
  unfold sl at h
  have e : (k * (t - u)) % 9973 = 0 := by
    rw [Int.mul_sub, Int.mul_comm k t, Int.mul_comm k u]
    omega
  have := no_mult (c := k) (d := t - u) (by omega) (by omega) (by omega) (by omega) (by omega) e
  omega
theorem fold_ne {k : Int} (hk : 1 ≤ k ∧ k < 9973) : ∀ (xs : List Int) (t u : Int), (0 ≤ t ∧ t < 9973) → (0 ≤ u ∧ u < 9973) → t ≠ u → xs.foldl (sl k) t ≠ xs.foldl (sl k) u
  | [], _, _, _, _, h => h
  | x :: r, t, u, ht, hu, h => fold_ne hk r _ _ (sl_range k t x) (sl_range k u x) fun e => h (sl_inj hk ht hu e)
theorem fold_set_ne {k : Int} (hk : 1 ≤ k ∧ k < 9973) : ∀ (xs : List Int) (i : Nat) (t x y : Int), (0 ≤ t ∧ t < 9973) → xs[i]? = some x → y ≠ x → (0 ≤ x ∧ x < 9973) → (0 ≤ y ∧ y < 9973) → (xs.set i y).foldl (sl k) t ≠ xs.foldl (sl k) t
  | [], i, t, x, y, _, h, _, _, _ => by simp at h
  | a :: r, 0, t, x, y, ht, h, hne, hx, hy => by
    have e : a = x := by simpa using h
    subst e
    refine fold_ne hk r _ _ (sl_range k t y) (sl_range k t a) fun e => ?_
    unfold sl at e
    omega
  | a :: r, i + 1, t, x, y, ht, h, hne, hx, hy => fold_set_ne hk r i (sl k t a) x y (sl_range k t a) (by simpa using h) hne hx hy
theorem seal_ne {k : Int} (hk : 1 ≤ k ∧ k < 9973) {xs : List Int} {i : Nat} {x y : Int} (h : xs[i]? = some x) (hne : y ≠ x) (hx : 0 ≤ x ∧ x < 9973) (hy : 0 ≤ y ∧ y < 9973) : sealI k (xs.set i y) ≠ sealI k xs :=
  fold_set_ne hk xs i k x y (by omega) h hne hx hy
theorem set_self {xs : List Int} {i : Nat} {x : Int} (h : xs[i]? = some x) : xs.set i x = xs := by
  refine List.ext_getElem? fun j => ?_
  by_cases e : i = j
  · subst e
    rw [List.getElem?_set_self (List.getElem?_eq_some_iff.mp h).1, h]
  · rw [List.getElem?_set_ne e]
/-- two unlike numbers exchanged -/
theorem swap_ne {xs : List Int} {i j : Nat} {x u : Int} (h : xs[i]? = some x) (h' : xs[j]? = some u) (hl : xs.length ≤ 1000) (hx : 0 ≤ x ∧ x < 9973) (hu : 0 ≤ u ∧ u < 9973) (hne : (xs.set i u).set j x ≠ xs) :
    sumsI ((xs.set i u).set j x) ≠ sumsI xs := by
  have hxu : u ≠ x := fun e => hne (by
    subst e
    rw [set_self h, set_self h'])
  have hij : i ≠ j := fun e => by
    subst e
    rw [h] at h'
    exact hxu (Option.some.inj h').symm
  exact two_ne h hij h' hl hxu hx hu hu hx
/-! sums and seals reckoned otherwise -/
theorem drop_at {xs : List Int} {i : Nat} {x : Int} (h : xs[i]? = some x) : xs.drop i = x :: xs.drop (i + 1) := by
  obtain ⟨hi, e⟩ := List.getElem?_eq_some_iff.mp h
  rw [List.drop_eq_getElem_cons hi, e]
theorem w1_drop {xs : List Int} {i : Nat} {x : Int} (h : xs[i]? = some x) : w1 (xs.drop i) = (x + 1) + w1 (xs.drop (i + 1)) := by
  rw [drop_at h]
  rfl
theorem w2_drop {xs : List Int} {i : Nat} {x : Int} (h : xs[i]? = some x) : w2 (xs.drop i) = ((xs.length : Int) - i) * (x + 1) + w2 (xs.drop (i + 1)) := by
  have hi := (List.getElem?_eq_some_iff.mp h).1
  rw [drop_at h]
  show (((xs.drop (i + 1)).length : Int) + 1) * (x + 1) + w2 (xs.drop (i + 1)) = _
  rw [List.length_drop]
  congr 2
  omega
theorem w1_append : ∀ (u c : List Int), w1 (u ++ c) = w1 u + w1 c
  | [], c => by simp [w1]
  | x :: r, c => by
    show (x + 1) + w1 (r ++ c) = (x + 1) + w1 r + w1 c
    rw [w1_append r c]
    omega
theorem w2_append : ∀ (u c : List Int), w2 (u ++ c) = w2 u + (c.length : Int) * w1 u + w2 c
  | [], c => by simp [w1, w2]
  | x :: r, c => by
    show (((r ++ c).length : Int) + 1) * (x + 1) + w2 (r ++ c) = ((r.length : Int) + 1) * (x + 1) + w2 r + (c.length : Int) * ((x + 1) + w1 r) + w2 c
    rw [w2_append r c, List.length_append]
    have e1 : (((r.length + c.length : Nat) : Int) + 1) * (x + 1) = ((r.length : Int) + 1) * (x + 1) + (c.length : Int) * (x + 1) := by
      rw [← Int.add_mul]
      congr 1
      omega
    have e2 : (c.length : Int) * ((x + 1) + w1 r) = (c.length : Int) * (x + 1) + (c.length : Int) * w1 r := Int.mul_add _ _ _
    rw [e1, e2]
    omega
theorem mul_mod (a b c : Int) : (a % 9973 * b + c) % 9973 = (a * b + c) % 9973 := by
  have h := Int.emod_add_mul_ediv a 9973
  have e : a * b + c = (a % 9973 * b + c) + 9973 * (a / 9973 * b) := by
    have : a * b = a % 9973 * b + 9973 * (a / 9973 * b) := by
      rw [← Int.mul_assoc, ← Int.add_mul, h]
    omega
  rw [e, Int.add_mul_emod_self_left]
/-- a step of joined -/
def jst (p : Int × Int) (t : Int × Int × Int) : Int × Int := ((p.1 + t.1) % 9973, (p.2 + p.1 * t.2.2 + t.2.1) % 9973)
theorem jst_sums (u c : List Int) : jst (sumsI u) ((sumsI c).1, (sumsI c).2, (c.length : Int)) = sumsI (u ++ c) := by
  rw [sums_w, sums_w, sums_w, w1_append, w2_append]
  refine Prod.ext ?_ ?_
  · show (w1 u % 9973 + w1 c % 9973) % 9973 = (w1 u + w1 c) % 9973
    omega
  · show (w2 u % 9973 + w1 u % 9973 * (c.length : Int) + w2 c % 9973) % 9973 = (w2 u + (c.length : Int) * w1 u + w2 c) % 9973
    have h := mul_mod (w1 u) (c.length : Int) (w2 u + w2 c)
    rw [Int.mul_comm (c.length : Int)]
    omega
/-- a seal, from its end on -/
def hz (k : Int) : List Int → Int
  | [] => 0
  | x :: r => (x + 1) * k ^ r.length + hz k r
theorem fold_hz (k : Int) : ∀ (xs : List Int) (t : Int), (0 ≤ t ∧ t < 9973) → xs.foldl (sl k) t = (t * k ^ xs.length + hz k xs) % 9973
  | [], t, h => by
    show t = (t * k ^ 0 + 0) % 9973
    rw [Int.pow_zero, Int.mul_one]
    omega
  | x :: r, t, h => by
    have ih := fold_hz k r (sl k t x) (sl_range k t x)
    rw [List.foldl_cons, ih]
    show ((t * k + x + 1) % 9973 * k ^ r.length + hz k r) % 9973 = (t * k ^ (r.length + 1) + ((x + 1) * k ^ r.length + hz k r)) % 9973
    rw [mul_mod]
    congr 1
    rw [Int.pow_succ, Int.add_assoc (t * k), Int.add_mul, Int.mul_assoc t k, Int.mul_comm k, Int.add_assoc]
theorem seal_hz {k : Int} (hk : 1 ≤ k ∧ k < 9973) (xs : List Int) : (hz k xs + k * k ^ xs.length) % 9973 = sealI k xs := by
  unfold sealI
  rw [fold_hz k xs k (by omega), Int.add_comm]
theorem hz_drop {k : Int} {xs : List Int} {i : Nat} {x : Int} (h : xs[i]? = some x) : hz k (xs.drop i) = hz k (xs.drop (i + 1)) + (x + 1) * k ^ (xs.length - (i + 1)) := by
  rw [drop_at h]
  show (x + 1) * k ^ (xs.drop (i + 1)).length + hz k (xs.drop (i + 1)) = _
  rw [List.length_drop, Int.add_comm]
end Sm

set_option maxRecDepth 100000
/-! the law's row of drawn numbers; heaps -/
namespace Dw
open PySem PySem.Spec PyProof.Rows L2
/-- all but r stays -/
def Keep (r : Addr) (H H' : Hp) : Prop := ∀ b o, b ≠ r → H b = some o → H' b = some o
theorem Keep.refl (r : Addr) (H : Hp) : Keep r H H := fun _ _ _ h => h
theorem Keep.trans {r : Addr} {H H1 H2 : Hp} (a : Keep r H H1) (b : Keep r H1 H2) : Keep r H H2 := fun c o n h => b c o n (a c o n h)
theorem Keep.same {r : Addr} {H H' : Hp} (s : Same H H') : Keep r H H' := fun b o _ h => s b o h
theorem Keep.put {r : Addr} {H : Hp} {o : HO} : Keep r H (upd H r o) := fun b u n h => by
  rw [upd_ne n]
  exact h
theorem Keep.seq {K : PySem.W.Frag} {r c : Addr} {H H' : Hp} {xs : List V} (k : Keep r H H') (n : c ≠ r) (h : SqL K H c xs) : SqL K H' c xs := by
  rcases h with (h | ⟨o, h⟩) | h
  · exact .inl (.inl (k _ _ n h))
  · exact .inl (.inr ⟨o, k _ _ n h⟩)
  · exact .inr h
theorem same_upd {H : Hp} {p : Addr} {o : HO} (h : H p = none) : Same H (upd H p o) := fun b x e => by
  rw [upd_ne (ne_of_none e h)]
  exact e
theorem same_mut {H H' : Hp} {p : Addr} {o : HO} (s : Same H H') (h : H p = none) : Same H (upd H' p o) := fun b x e => by
  rw [upd_ne (ne_of_none e h)]
  exact s _ _ e
theorem sq_of {K : PySem.W.Frag} {H : Hp} {a : Addr} {xs : List V} (h : H a = some (.lst xs)) : SqL K H a xs := .inl (.inl h)
theorem st_of {K : PySem.W.Frag} {H : Hp} {a : Addr} {xs : List V} (h : H a = some (.tup xs)) : SqT K H a xs := .inl (.inl h)
/-- no table of code objects -/
def NT (o : HO) : Prop := ∀ ps, o ≠ .tbl ps
theorem NT.lst {xs : List V} : NT (.lst xs) := fun _ z => by cases z
theorem NT.tup {xs : List V} : NT (.tup xs) := fun _ z => by cases z
theorem NT.ins {C dx : Addr} {fs : List (Str × V)} : NT (.ins C dx fs) := fun _ z => by cases z
theorem NT.dK {kvs : List (Key × V)} : NT (.dK kvs) := fun _ z => by cases z
theorem NT.frz {o : Obj} {u : HO} : NT (.frz o u) := fun _ z => by cases z
/-- all that was tracked is as it was, but for tables -/
def SameN (H H' : Hp) : Prop := ∀ b o, NT o → H b = some o → H' b = some o
/-- nothing but a table stands there -/
def Fr0 (H : Hp) (p : Addr) : Prop := ∀ o, H p = some o → ¬ NT o
theorem Fr0.of {H : Hp} {p : Addr} (h : H p = none) : Fr0 H p := fun o e => by
  rw [h] at e
  cases e
theorem SameN.of {H H' : Hp} (s : Same H H') : SameN H H' := fun b o _ h => s b o h
theorem SameN.trans {H H1 H2 : Hp} (a : SameN H H1) (b : SameN H1 H2) : SameN H H2 := fun c o n h => b c o n (a c o n h)
theorem SameN.seq {K : PySem.W.Frag} {H H' : Hp} {a : Addr} {xs : List V} (e : SameN H H') (h : SqL K H a xs) : SqL K H' a xs := by
  rcases h with (h | ⟨o, h⟩) | h
  · exact .inl (.inl (e _ _ NT.lst h))
  · exact .inl (.inr ⟨o, e _ _ NT.frz h⟩)
  · exact .inr h
theorem SameN.free {H H' : Hp} {p : Addr} (e : SameN H H') (h : H' p = none) : Fr0 H p := fun o ho n => by
  rw [e p o n ho] at h
  cases h
theorem SameN.mut {H H' : Hp} {p : Addr} {o : HO} (s : SameN H H') (h : Fr0 H p) : SameN H (upd H' p o) := fun b u n e => by
  by_cases z : b = p
  · exact absurd n (h u (by rw [← z]; exact e))
  · rw [upd_ne z]
    exact s b u n e
/-- the row that numbers are drawn with stands at r; it was not there in H0, in which the script stands at a -/
structure Dr (K : PySem.W.Frag) (H0 : Hp) (ns : List Int) (a r : Addr) (H : Hp) : Prop where
  row : ∃ p q z : Int, H r = some (.lst [.ref a, .int p, .int q, .int z]) ∧ 0 ≤ p ∧ 0 ≤ q ∧ q < 2147483647
  scr : SqL K H0 a (ns.map V.int)
  same : SameN H0 H
  fresh : Fr0 H0 r
  len : ns.length ≤ 63
section
variable {K : PySem.W.Frag} {H0 : Hp} {ns : List Int} {a r p : Addr} {H H' : Hp} {o : HO}
theorem Dr.start (h : H r = none) (hS : SqL K H a (ns.map V.int)) (hl : ns.length ≤ 63) : Dr K H ns a r (upd H r (.lst [.ref a, .int 0, .int 0, .int 0])) :=
  ⟨⟨0, 0, 0, upd_same, by decide, by decide, by decide⟩, hS, .of (same_upd h), .of h, hl⟩
theorem Dr.seq (D : Dr K H0 ns a r H) : SqL K H a (ns.map V.int) := D.same.seq D.scr
theorem Dr.monoN (D : Dr K H0 ns a r H) (s : SameN H H') : Dr K H0 ns a r H' := by
  obtain ⟨p, q, z, h, b⟩ := D.row
  exact ⟨⟨p, q, z, s _ _ NT.lst h, b⟩, D.scr, D.same.trans s, D.fresh, D.len⟩
theorem Dr.mono (D : Dr K H0 ns a r H) (s : Same H H') : Dr K H0 ns a r H' := D.monoN (.of s)
theorem Dr.new (D : Dr K H0 ns a r H) (h : H p = none) : Dr K H0 ns a r (upd H p o) := D.mono (same_upd h)
theorem Dr.mut (D : Dr K H0 ns a r H) (n : p ≠ r) (h : Fr0 H0 p) : Dr K H0 ns a r (upd H p o) := by
  obtain ⟨i, q, z, e, b⟩ := D.row
  exact ⟨⟨i, q, z, by rw [upd_ne n.symm]; exact e, b⟩, D.scr, D.same.mut h, D.fresh, D.len⟩
theorem Dr.put (D : Dr K H0 ns a r H) {p q z : Int} (h0 : 0 ≤ p) (h1 : 0 ≤ q) (h2 : q < 2147483647) : Dr K H0 ns a r (upd H r (.lst [.ref a, .int p, .int q, .int z])) :=
  ⟨⟨p, q, z, upd_same, h0, h1, h2⟩, D.scr, D.same.mut D.fresh, D.fresh, D.len⟩
/-- what is new in H is not r -/
theorem Dr.ne (D : Dr K H0 ns a r H) (h : H p = none) : p ≠ r := by
  obtain ⟨_, _, _, e, _⟩ := D.row
  exact (ne_of_none e h).symm
theorem Dr.free (D : Dr K H0 ns a r H) (h : H p = none) : Fr0 H0 p := D.same.free h
/-- what may change elsewhere: places that hold nothing in H0, but for tables -/
theorem Dr.but {S : List Addr} (D : Dr K H0 ns a r H) (k : ∀ b o, b ∉ S → NT o → H b = some o → H' b = some o) (hr : r ∉ S) (h : ∀ b ∈ S, Fr0 H0 b) : Dr K H0 ns a r H' := by
  obtain ⟨i, q, z, e, b⟩ := D.row
  refine ⟨⟨i, q, z, k _ _ hr NT.lst e, b⟩, D.scr, fun c u n hu => ?_, D.fresh, D.len⟩
  by_cases m : c ∈ S
  · exact absurd n (h c m u hu)
  · exact k c u m n (D.same c u n hu)
end
/-- the promise of what draws a number below m -/
def spTaken (K : PySem.W.Frag) : Sp := fun vs H Q _ => ∃ (H0 : Hp) (ns : List Int) (a r : Addr) (m : Int), vs = [.ref r, .int m] ∧ Dr K H0 ns a r H ∧ 0 < m ∧ m < 1073741824 ∧
  ∀ (v : Int) (H' : Hp), Dr K H0 ns a r H' → Keep r H H' → 0 ≤ v → v < m → Q (.int v) H'
/-- the promise of what draws a number below a written m -/
def spDraw (m : Int) (K : PySem.W.Frag) : Sp := fun vs H Q _ => ∃ (H0 : Hp) (ns : List Int) (a r : Addr), vs = [.ref r] ∧ Dr K H0 ns a r H ∧
  ∀ (v : Int) (H' : Hp), Dr K H0 ns a r H' → Keep r H H' → 0 ≤ v → v < m → Q (.int v) H'
/-! ### data: numbers, None, lists of them -/
/-- what a cell holds: a number, or None -/
def cel : V → Bool
  | .int _ => true
  | .non => true
  | _ => false
def dat : V → PyData
  | .int i => .int i
  | .bl b => .bool b
  | .str x => .str x
  | _ => .none
theorem Dp.dat {K : PySem.W.Frag} {H : Hp} : ∀ {v : V}, cel v = true → Dp K H v (dat v)
  | .int i, _ => .int i
  | .non, _ => .non
theorem dpAll_dat {K : PySem.W.Frag} {H : Hp} : ∀ {xs : List V}, (∀ v ∈ xs, cel v = true) → DpAll K H xs (xs.map dat)
  | [], _ => .nil
  | x :: r, h => .cons (Dp.dat (h x List.mem_cons_self)) (dpAll_dat fun v m => h v (List.mem_cons_of_mem _ m))
theorem lay_dat : ∀ {v : V}, cel v = true → (dat v).canLay0 = true ∧ (dat v).depth = 0
  | .int i, _ => ⟨by simp only [dat, PyData.canLay0], by simp only [dat, PyData.depth]⟩
  | .non, _ => ⟨by simp only [dat, PyData.canLay0], by simp only [dat, PyData.depth]⟩
theorem layAll_dat : ∀ {xs : List V}, (∀ v ∈ xs, cel v = true) → PyData.canLayAll0 (xs.map dat) = true ∧ PyData.depthAll (xs.map dat) = 0
  | [], _ => ⟨by simp only [List.map_nil, PyData.canLayAll0], by simp only [List.map_nil, PyData.depthAll]⟩
  | x :: r, h => by
    obtain ⟨a, b⟩ := lay_dat (h x List.mem_cons_self)
    obtain ⟨c, d⟩ := layAll_dat (xs := r) fun v m => h v (List.mem_cons_of_mem _ m)
    constructor
    · rw [List.map_cons, PyData.canLayAll0, a, c]
      rfl
    · rw [List.map_cons, PyData.depthAll, b, d]
      rfl
theorem shaped_l {xs : List V} (h : ∀ v ∈ xs, cel v = true) : SeqAt.shaped (.list (xs.map dat)) = true := by
  obtain ⟨a, b⟩ := layAll_dat h
  unfold SeqAt.shaped
  rw [PyData.canLay0, PyData.depth, a, b]
  rfl
theorem shaped_t {xs : List V} (h : ∀ v ∈ xs, cel v = true) : SeqAt.shaped (.tuple (xs.map dat)) = true := by
  obtain ⟨a, b⟩ := layAll_dat h
  unfold SeqAt.shaped
  rw [PyData.canLay0, PyData.depth, a, b]
  rfl
theorem eqv_dat : ∀ {v u : V}, cel v = true → cel u = true → PyData.eqv (dat v) (dat u) = decide (v = u)
  | .int i, .int j, _, _ => by
    simp only [dat, PyData.eqv, V.int.injEq]
    by_cases e : i = j <;> simp [e]
  | .int i, .non, _, _ => by simp [dat, PyData.eqv]
  | .non, .int j, _, _ => by simp [dat, PyData.eqv]
  | .non, .non, _, _ => by simp [dat, PyData.eqv]
theorem eqvAll_dat : ∀ {xs ys : List V}, (∀ v ∈ xs, cel v = true) → (∀ v ∈ ys, cel v = true) → PyData.eqvAll (xs.map dat) (ys.map dat) = decide (xs = ys)
  | [], [], _, _ => by simp [PyData.eqvAll]
  | [], _ :: _, _, _ => by simp [PyData.eqvAll]
  | _ :: _, [], _, _ => by simp [PyData.eqvAll]
  | x :: r, y :: t, hx, hy => by
    rw [List.map_cons, List.map_cons, PyData.eqvAll, eqv_dat (hx x List.mem_cons_self) (hy y List.mem_cons_self), eqvAll_dat (xs := r) (ys := t) (fun v m => hx v (List.mem_cons_of_mem _ m)) (fun v m => hy v (List.mem_cons_of_mem _ m))]
    by_cases e : x = y
    · subst e
      by_cases e2 : r = t <;> simp [e2]
    · simp [e]
theorem eqv_l {xs ys : List V} (hx : ∀ v ∈ xs, cel v = true) (hy : ∀ v ∈ ys, cel v = true) : PyData.eqv (.list (xs.map dat)) (.list (ys.map dat)) = decide (xs = ys) := by
  rw [PyData.eqv]
  exact eqvAll_dat hx hy
theorem eqv_t {xs ys : List V} (hx : ∀ v ∈ xs, cel v = true) (hy : ∀ v ∈ ys, cel v = true) : PyData.eqv (.tuple (xs.map dat)) (.tuple (ys.map dat)) = decide (xs = ys) := by
  rw [PyData.eqv]
  exact eqvAll_dat hx hy
theorem cel_ints {xs : List Int} : ∀ v ∈ xs.map V.int, cel v = true := fun v h => by
  obtain ⟨i, _, rfl⟩ := List.mem_map.mp h
  rfl
theorem map_int_inj : ∀ {xs ys : List Int}, xs.map V.int = ys.map V.int → xs = ys
  | [], [], _ => rfl
  | [], _ :: _, h => by simp at h
  | _ :: _, [], h => by simp at h
  | x :: r, y :: t, h => by
    rw [List.map_cons, List.map_cons] at h
    injection h with h1 h2
    injection h1 with h1
    rw [h1, map_int_inj h2]
theorem dp_l {K : PySem.W.Frag} {H : Hp} {p : Addr} {xs : List V} (h : SqL K H p xs) (hx : ∀ v ∈ xs, cel v = true) : Dp K H (.ref p) (.list (xs.map dat)) := .lst h (dpAll_dat hx)
theorem dp_t {K : PySem.W.Frag} {H : Hp} {p : Addr} {xs : List V} (h : SqT K H p xs) (hx : ∀ v ∈ xs, cel v = true) : Dp K H (.ref p) (.tuple (xs.map dat)) := .tup h (dpAll_dat hx)
/-! ### places -/
theorem ixN_nat {n j : Nat} (h : j < n) : ixN n (j : Int) = some j := by
  unfold ixN
  rw [if_pos (by omega), if_pos (by omega)]
  rfl
theorem at_map {xs : List Int} {j : Nat} {x : Int} (h : xs[j]? = some x) : atI (xs.map V.int) (j : Int) = some (.int x) := atI_nat (by rw [List.getElem?_map, h]; rfl)
theorem map_take_succ {xs : List Int} {i : Nat} {x : Int} (h : xs[i]? = some x) : xs.take (i + 1) = xs.take i ++ [x] := by
  rw [List.take_add_one, h]
  rfl
theorem get_map {xs : List Int} {i : Nat} {y : V} (h : (xs.map V.int)[i]? = some y) : ∃ x, xs[i]? = some x ∧ y = .int x := by
  rw [List.getElem?_map] at h
  cases e : xs[i]? with
  | none =>
    rw [e] at h
    cases h
  | some z =>
    rw [e] at h
    exact ⟨z, rfl, (Option.some.inj h).symm⟩
theorem get_map_ref {xs : List Addr} {i : Nat} {y : V} (h : (xs.map V.ref)[i]? = some y) : ∃ x, xs[i]? = some x ∧ y = .ref x := by
  rw [List.getElem?_map] at h
  cases e : xs[i]? with
  | none =>
    rw [e] at h
    cases h
  | some z =>
    rw [e] at h
    exact ⟨z, rfl, (Option.some.inj h).symm⟩
theorem size_ok {n : Nat} (h : n ≤ 100000) : n ≤ sizeLine := Nat.le_trans h (by decide)
theorem sz_ {n : Nat} (h : Nat.ble n 100000 = true) : n ≤ sizeLine := size_ok (Nat.le_of_ble_eq_true h)
theorem size_lt {n : Nat} (h : n < 100000) : n < sizeLine := Nat.lt_of_lt_of_le h (by decide)
/-! ### rules that name the text's part K, for what stands within a comprehension -/
section
variable {X : Cx} {K : PySem.W.Frag}
theorem op_eqDK (hK : X.K = K) (hu : X.A.units + 64 < cLine) : OpR X (compareOp .Eq) (rEqD K) := hK ▸ op_eqD hu
theorem op_neDK (hK : X.K = K) (hu : X.A.units + 64 < cLine) : OpR X (compareOp .NotEq) (rNeD K) := hK ▸ op_neD hu
theorem ix_listK (hK : X.K = K) : IxR X (rIxL K) := hK ▸ ix_list
theorem ix_tupK (hK : X.K = K) : IxR X (rIxT K) := hK ▸ ix_tup
theorem ix_seqK (hK : X.K = K) : IxR X (rIx K) := hK ▸ ix_seq
theorem pe_fldK {e : Expr} {f : Str} {pos : Pos} {ta : TE} (hK : X.K = K) (he : PE X e ta) (hb : attributeBase e f X.env (eval e X.env) = eval e X.env) : PE X (.Attribute e f pos) (tFld K ta f) := hK ▸ pe_fld he hb
theorem call_len_seqK (hK : X.K = K) : CallR X (.builtin "len") (fun xs H Q => ∃ p ys, xs = [.ref p] ∧ (SqL K H p ys ∨ SqT K H p ys) ∧ Q (.int ys.length) H) := hK ▸ call_len_seq
end
/-! ### data that is tracked, as alike looks at it -/
mutual
inductive Td (H : Hp) : V → PyData → Prop
  | non : Td H .non .none
  | bl (b : Bool) : Td H (.bl b) (.bool b)
  | int (i : Int) : Td H (.int i) (.int i)
  | str (x : Str) : Td H (.str x) (.str x)
  | lst {a : Addr} {xs : List V} {ds : List PyData} : H a = some (.lst xs) → xs.length ≤ 100000 → TdAll H xs ds → Td H (.ref a) (.list ds)
  | tup {a : Addr} {xs : List V} {ds : List PyData} : H a = some (.tup xs) → xs.length ≤ 100000 → TdAll H xs ds → Td H (.ref a) (.tuple ds)
inductive TdAll (H : Hp) : List V → List PyData → Prop
  | nil : TdAll H [] []
  | cons {v : V} {vs : List V} {d : PyData} {ds : List PyData} : Td H v d → TdAll H vs ds → TdAll H (v :: vs) (d :: ds)
end
mutual
theorem Td.mono {H H' : Hp} (s : Same H H') : ∀ {v : V} {d : PyData}, Td H v d → Td H' v d
  | _, _, .non => .non
  | _, _, .bl b => .bl b
  | _, _, .int i => .int i
  | _, _, .str x => .str x
  | _, _, .lst h l t => .lst (s _ _ h) l (TdAll.mono s t)
  | _, _, .tup h l t => .tup (s _ _ h) l (TdAll.mono s t)
theorem TdAll.mono {H H' : Hp} (s : Same H H') : ∀ {vs : List V} {ds : List PyData}, TdAll H vs ds → TdAll H' vs ds
  | _, _, .nil => .nil
  | _, _, .cons a b => .cons (Td.mono s a) (TdAll.mono s b)
end
theorem TdAll.len {H : Hp} : ∀ {vs : List V} {ds : List PyData}, TdAll H vs ds → vs.length = ds.length
  | _, _, .nil => rfl
  | _, _, .cons _ b => by
    rw [List.length_cons, List.length_cons, TdAll.len b]
theorem TdAll.at {H : Hp} : ∀ {vs : List V} {ds : List PyData} {i : Nat} {d : PyData}, TdAll H vs ds → ds[i]? = some d → ∃ v, vs[i]? = some v ∧ Td H v d
  | _, _, _, _, .nil, h => by simp at h
  | _, _, 0, _, .cons a _, h => by
    have e := Option.some.inj h
    subst e
    exact ⟨_, rfl, a⟩
  | _, _, i + 1, _, .cons _ b, h => by
    obtain ⟨v, h1, h2⟩ := TdAll.at (i := i) b (by simpa using h)
    exact ⟨v, by simpa using h1, h2⟩
theorem TdAll.cel {H : Hp} : ∀ {vs : List V}, (∀ v ∈ vs, cel v = true) → TdAll H vs (vs.map dat)
  | [], _ => .nil
  | .int i :: r, h => .cons (.int i) (TdAll.cel fun v m => h v (List.mem_cons_of_mem _ m))
  | .non :: r, h => .cons .non (TdAll.cel fun v m => h v (List.mem_cons_of_mem _ m))
  | .bl b :: r, h => by cases h _ List.mem_cons_self
  | .str b :: r, h => by cases h _ List.mem_cons_self
  | .byt b :: r, h => by cases h _ List.mem_cons_self
  | .flt b :: r, h => by cases h _ List.mem_cons_self
  | .ref b :: r, h => by cases h _ List.mem_cons_self
  | .ty b :: r, h => by cases h _ List.mem_cons_self
theorem depth_at : ∀ {ds : List PyData} {i : Nat} {d : PyData}, ds[i]? = some d → d.depth ≤ PyData.depthAll ds
  | [], _, _, h => by simp at h
  | a :: r, 0, d, h => by
    have e := Option.some.inj h
    subst e
    rw [PyData.depthAll]
    exact Nat.le_max_left _ _
  | a :: r, i + 1, d, h => by
    have := depth_at (ds := r) (i := i) (d := d) (by simpa using h)
    rw [PyData.depthAll]
    exact Nat.le_trans this (Nat.le_max_right _ _)
/-- the promise of alike for two things that are: n is more than their depth -/
def spAlike (n : Nat) : Sp := fun vs H Q _ => ∃ (x y : V) (d : PyData), vs = [x, y] ∧ Td H x d ∧ Td H y d ∧ d.depth < n ∧ ∀ H', Same H H' → Q (.bl true) H'
theorem alike_zero {P : Program} {w : World} {K : PySem.W.Frag} {mg : Str → Option Value} {base : Heap} {f : Addr} {fd : FuncData} {ps : List Str} : FnOk P w K mg base CX0 0 f fd ps (spAlike 0) :=
  ⟨fun _ _ _ _ ⟨_, _, _, _, _, _, h, _⟩ => absurd h (Nat.not_lt_zero _), fun _ _ _ _ _ _ _ _ _ _ _ _ _ ⟨_, _, _, _, _, _, h, _⟩ => absurd h (Nat.not_lt_zero _)⟩
/-! ### isinstance: what it tells of None, bools, ints, texts, lists, tuples -/
theorem ty_nt : kitB "NoneType" "tuple" = some false := by decide +kernel
theorem ty_nl : kitB "NoneType" "list" = some false := by decide +kernel
theorem ty_nb : kitB "NoneType" "bool" = some false := by decide +kernel
theorem ty_ns : kitB "NoneType" "str" = some false := by decide +kernel
theorem ty_ni : kitB "NoneType" "int" = some false := by decide +kernel
theorem ty_bt : kitB "bool" "tuple" = some false := by decide +kernel
theorem ty_bl : kitB "bool" "list" = some false := by decide +kernel
theorem ty_bb : kitB "bool" "bool" = some true := by decide +kernel
theorem ty_it : kitB "int" "tuple" = some false := by decide +kernel
theorem ty_il : kitB "int" "list" = some false := by decide +kernel
theorem ty_ib : kitB "int" "bool" = some false := by decide +kernel
theorem ty_is : kitB "int" "str" = some false := by decide +kernel
theorem ty_ii : kitB "int" "int" = some true := by decide +kernel
theorem ty_st : kitB "str" "tuple" = some false := by decide +kernel
theorem ty_sl : kitB "str" "list" = some false := by decide +kernel
theorem ty_sb : kitB "str" "bool" = some false := by decide +kernel
theorem ty_ss : kitB "str" "str" = some true := by decide +kernel
theorem ty_lt : kitB "list" "tuple" = some false := by decide +kernel
theorem ty_ll : kitB "list" "list" = some true := by decide +kernel
theorem ty_tt : kitB "tuple" "tuple" = some true := by decide +kernel
theorem any_l {K : PySem.W.Frag} : PySem.W.kitAny K (.type "list") [.type "tuple", .type "list"] = some true := by
  simp only [PySem.W.kitAny, kit_ty ty_lt, kit_ty ty_ll]
theorem any_t {K : PySem.W.Frag} : PySem.W.kitAny K (.type "tuple") [.type "tuple", .type "list"] = some true := by
  simp only [PySem.W.kitAny, kit_ty ty_tt]
theorem cel_cases : ∀ {v : V}, cel v = true → (∃ x, v = .int x) ∨ v = .non
  | .int i, _ => .inl ⟨i, rfl⟩
  | .non, _ => .inr rfl
theorem same_tup {K : PySem.W.Frag} {H H' : Hp} {c : Addr} {xs : List V} (s : Same H H') (h : SqT K H c xs) : SqT K H' c xs := by
  rcases h with (h | ⟨o, h⟩) | h
  · exact .inl (.inl (s _ _ h))
  · exact .inl (.inr ⟨o, s _ _ h⟩)
  · exact .inr h
theorem inV_ints : ∀ {xs : List Int}, inV .non (xs.map V.int) = false
  | [] => rfl
  | x :: r => by
    have ih := inV_ints (xs := r)
    unfold inV at ih ⊢
    rw [List.map_cons, List.any_cons, ih]
    rfl
theorem flat_ints : ∀ {xs : List Int}, (xs.map V.int).all flatV = true
  | [] => rfl
  | x :: r => by
    rw [List.map_cons, List.all_cons, flat_ints (xs := r)]
    rfl
theorem cut_take (xs : List V) (k : Nat) : cutV xs none (some (k : Int)) = xs.take k := by
  unfold cutV
  rw [HT.sIx_none, HT.sIx_nat, List.drop_zero, Nat.sub_zero, ← List.take_eq_take_min]
theorem cut_drop (xs : List V) (k : Nat) : cutV xs (some (k : Int)) none = xs.drop k := by
  unfold cutV
  rw [HT.sIx_none, HT.sIx_nat]
  by_cases h : k ≤ xs.length
  · rw [Nat.min_eq_left h, List.take_of_length_le (by rw [List.length_drop]; omega)]
  · rw [Nat.min_eq_right (by omega), List.drop_of_length_le (Nat.le_refl _), List.drop_of_length_le (by omega), List.take_nil]
theorem dep_t {xs : List V} (h : ∀ v ∈ xs, cel v = true) : (PyData.tuple (xs.map dat)).depth < 5 := by
  rw [PyData.depth, (layAll_dat h).2]
  decide
theorem dep_l {xs : List V} (h : ∀ v ∈ xs, cel v = true) : (PyData.list (xs.map dat)).depth < 5 := by
  rw [PyData.depth, (layAll_dat h).2]
  decide
theorem dep_i {i : Int} : (PyData.int i).depth < 5 := by
  rw [PyData.depth]
  decide
theorem Dr.ne_ints {K : PySem.W.Frag} {H0 : Hp} {ns : List Int} {a r b : Addr} {H : Hp} {xs : List Int} (D : Dr K H0 ns a r H) (h : H b = some (.lst (xs.map V.int))) : b ≠ r := by
  obtain ⟨_, _, _, e, _⟩ := D.row
  refine ne_of h e fun z => ?_
  injection z with z
  cases xs with
  | nil => cases z
  | cons x t =>
    rw [List.map_cons] at z
    injection z with z _
    cases z
theorem Dr.ne_tup {K : PySem.W.Frag} {H0 : Hp} {ns : List Int} {a r b : Addr} {H : Hp} {xs : List V} (D : Dr K H0 ns a r H) (h : H b = some (.tup xs)) : b ≠ r := by
  obtain ⟨_, _, _, e, _⟩ := D.row
  exact ne_of h e fun z => by cases z
theorem cut_take' {xs : List V} {j : Int} {k : Nat} (e : j = (k : Int)) : cutV xs none (some j) = xs.take k := by
  rw [e]
  exact cut_take xs k
theorem cut_drop' {xs : List V} {j : Int} {k : Nat} (e : j = (k : Int)) : cutV xs (some j) none = xs.drop k := by
  rw [e]
  exact cut_drop xs k
theorem cut_mem {xs : List V} {lo hi : Option Int} {v : V} (h : v ∈ cutV xs lo hi) : v ∈ xs := by
  unfold cutV at h
  exact List.mem_of_mem_drop (List.mem_of_mem_take h)
end Dw

set_option maxRecDepth 100000
set_option maxHeartbeats 4000000
/-! for at, x in enumerate(xs, start=k): a rule of our own -/
namespace En
open PySem PySem.Spec PyProof.Rows L2
/-- a built-in type called with keywords -/
theorem call_type_kw {M : Model} {A : Around} {E : Value → Shared → Prop} {s : Shared} {pos : Pos} {T : String} {first : List Value} {args : List (Bool × Sem Value)} {kws : List (Option Str × Sem Value)} {Q : Value → Shared → Prop}
    (hp : args.any (·.1) = false) (hk : kws.any (·.1.isNone) = false)
    (h : wpAny M A (evalArgs (.type T) true args kws) (fun a s1 => wpAny M A (call (.type T) (first ++ a.pos) a.kw) Q E s1) E s) : wpAny M A (callWith pos (.type T) first args kws) Q E s := by
  unfold callWith
  refine wpAny_bind (wpAny_holding (wpAny_mono h (fun a s1 h1 => wpAny_bind (wpAny_standAt ?_)) fun _ _ z => z))
  simp only [hp, hk, Bool.or_false]
  refine wpAny_bind (wpAny_pure ?_)
  exact wpAny_bind (wpAny_mono h1 (fun r s2 hr => wpAny_bind (wpAny_holding (wpAny_point (wpAny_pure hr)))) fun _ _ z => z)
/-- its turns: k + i and the i-th item, in a new pair -/
def ItS (K : PySem.W.Frag) (a : Addr) (k : Int) : It where
  go := fun i H => ∃ (xs : List V) (x : V), SqL K H a xs ∧ xs[i]? = some x
  yld := fun i H v H' => ∃ (T : Addr) (x : V), v = .ref T ∧ H T = none ∧ H' = upd H T (.tup [.int (k + (i : Nat)), x]) ∧ ∀ xs, SqL K H a xs → xs[i]? = some x
  stop := fun i H => ∃ xs : List V, SqL K H a xs ∧ xs.length = i
theorem turns {P : Program} {w : World} {K : PySem.W.Frag} {elts : List Expr} {kk : Nat} {tpos : Pos} (k : Int) (a e it : Addr) (hai : a ≠ it) (hae : a ≠ e) :
    Turn P w K (.Tuple elts kk tpos) (ItS K a k) [e, it] e (fun i h => (∃ old, IsEnum h e it (k + (i : Nat)) old) ∧ h.IsListIter it a i ∧ e ≠ it) where
  mem := List.mem_cons_self
  obj := fun i h st b hb => by
    obtain ⟨⟨old, he⟩, ⟨o, ho, hc, hd⟩, _⟩ := st
    rcases List.mem_cons.mp hb with z | z
    · rw [z]
      exact ⟨_, he, fun v q => nomatch q⟩
    · rw [List.mem_singleton.mp z]
      exact ⟨o, ho, fun v q => by rw [hd] at q; cases q⟩
  keep := fun i h h' st kp => by
    obtain ⟨⟨old, he⟩, hi, hne⟩ := st
    exact ⟨⟨old, kp e List.mem_cons_self _ he⟩, hi.at fun o q => kp it (List.mem_cons_of_mem _ List.mem_cons_self) o q, hne⟩
  item := by
    intro X hP hw hK hc i pins s σ H E I hf st hg
    subst hP hw hK
    obtain ⟨⟨old, he⟩, hit, hne⟩ := st
    obtain ⟨xs, x, hq, hx⟩ := hg
    obtain ⟨its, rv, p, hz⟩ := I.list hq
    obtain ⟨u, hu, ru⟩ := rv.get hx
    have hel : e < s.heap.objs.size := Heap.lt_size he
    have hil : it < s.heap.objs.size := by
      obtain ⟨_, q, _⟩ := hit
      exact Heap.lt_size q
    have hlt : i < its.toArray.size := by
      rw [List.size_toArray]
      exact (List.getElem?_eq_some_iff.mp hu).1
    have hea : e ∉ [it, a] := fun m => by
      rcases List.mem_cons.mp m with z | z
      · exact hne z
      · exact hae (List.mem_singleton.mp z).symm
    refine wpAny_pyNext_enum_itemC (Draws.list (show X.A.in1.handled = none from I.ok.hd hc) it a hai its.toArray) he ⟨hit, p.isList⟩ hlt hne hea fun y h' tk hy ho hit' hT hsz hk => ?_
    have ey : y = u := by
      have h1 : its[i]? = some y := by simpa using hy
      exact Option.some.inj (h1.symm.trans hu)
    subst ey
    refine ⟨_, rfl, wpAny_letOwnedTupleGo_enum (s := { s with heap := h', toks := tk + 1 }) ho fun h2 he2 sb => ?_⟩
    have hT2 : h2.get? s.heap.objs.size = some { cls := .type "tuple", data := .seq #[.int (k + (i : Nat)) tk, y] } := (sb.2 _ (Nat.ne_of_gt hel)).trans hT
    have fresh := I.hok.fresh (Nat.le_refl s.heap.objs.size)
    have nw : ObjOk X.prog X.w (upd H s.heap.objs.size (.tup [.int (k + (i : Nat)), x])) h2 s.heap.objs.size (.tup [.int (k + (i : Nat)), x]) :=
      ⟨by show 2 ≤ sizeLine; decide, [.int (k + (i : Nat)) tk, y], .cons ⟨_, rfl⟩ (.cons ru .nil), ⟨_, hT2, rfl, _, rfl⟩⟩
    have J : Inv X pins σ (upd H s.heap.objs.size (.tup [.int (k + (i : Nat)), x])) { s with heap := h2, toks := tk + 1 } := by
      refine I.turnedNew (ch := [e, it]) (fun b ob hb q => ?_) hf (Nat.le_refl _) nw
      have n1 : b ≠ e := fun z => hb (by rw [z]; exact List.mem_cons_self)
      have n2 : b ≠ it := fun z => hb (by rw [z]; exact List.mem_cons_of_mem _ List.mem_cons_self)
      exact (sb.2 b n1).trans (hk b ob n1 n2 q)
    refine ⟨.ref s.heap.objs.size, _, J, rfl, ⟨_, x, rfl, fresh, rfl, fun ys hys => by rw [I.list_inj hys hq]; exact hx⟩, ⟨⟨y, ?_⟩, hit'.1.at fun o q => (sb.2 it (Ne.symm hne)).trans q, hne⟩, fun b hb => ?_⟩
    · have e1 : k + ((i + 1 : Nat) : Int) = k + (i : Nat) + 1 := by omega
      rw [e1]
      exact he2
    · have hb' : b < s.heap.objs.size := by
        rcases List.mem_cons.mp hb with z | z
        · rw [z]
          exact hel
        · rw [List.mem_singleton.mp z]
          exact hil
      rw [upd_ne (Nat.ne_of_lt hb')]
      exact (hf b hb).1
  done := by
    intro X hP hw hK hc i pins s σ H E I hf st hg
    subst hP hw hK
    obtain ⟨⟨old, he⟩, hit, hne⟩ := st
    obtain ⟨xs, hq, hx⟩ := hg
    obtain ⟨its, rv, p, hz⟩ := I.list hq
    obtain ⟨f0, f1, f2, f3, f4, f5⟩ := hf it (List.mem_cons_of_mem _ List.mem_cons_self)
    have hl : i = its.toArray.size := by
      rw [List.size_toArray, ← rv.length]
      exact hx.symm
    refine wpAny_pyNext_enum_endD (Draws.list (show X.A.in1.handled = none from I.ok.hd hc) it a hai its.toArray) he ⟨hl ▸ hit, p.isList⟩ fun h' eb => ⟨rfl, ?_⟩
    exact I.turned (t' := s.toks) (fun b o hb q => eb b o hb q) f0 f1 f3 f4 f5
  self := fun A i s Q E st h => by
    obtain ⟨⟨_, he⟩, _⟩ := st
    exact wpAny_pyIter_enum he h
/-- enumerate(e, start=k) in a for -/
def iEnumS (K : PySem.W.Frag) (te tk : TE) : TI := fun σ H R => te σ H fun x H1 => tk σ H1 fun y H2 => ∃ (a : Addr) (xs : List V) (k : Int), x = .ref a ∧ y = .int k ∧ -(2 ^ 62) ≤ k ∧ k < 2 ^ 62 ∧ SqL K H2 a xs ∧ R (ItS K a k) H2
theorem pi_enumS {X : Cx} {e ek : Expr} {te tk : TE} {p pos kp tpos : Pos} {elts : List Expr} {kk : Nat} (hg : Gl X "enumerate") (hm : X.mg "enumerate" = none) (he : PE X e te) (hk : PE X ek tk)
    (hs : starEach [e] X.env = (false, eval e X.env) :: starEach [] X.env := by rfl) :
    PI X (.Tuple elts kk tpos) (.Call (.Name "enumerate" p) [e] [⟨some (Str.ofString "start"), ek, kp⟩] pos) (iEnumS X.K te tk) := by
  refine ⟨fun pins s σ H R I h => ?_⟩
  refine wpAny_Call_Name_kw (ld_blt I hg hm boot_enumerate ?_)
  refine call_type_kw (by rw [hs]; rfl) (by rfl) ?_
  rw [hs]
  refine evalArgs_kwB (by rfl) ?_
  show wpAny _ _ (spliced ((false, eval e X.env) :: backTo pos (starEach [] X.env))) _ _ s
  refine Calls.spliced_cons (thn (he.run pins s σ H _ I h) fun u s1 ⟨x, H1, I1, r1, q1⟩ => ?_)
  refine Calls.spliced_nil ?_
  refine kws_cons (thn (hk.run pins s1 σ H1 _ I1 q1) fun v s2 ⟨y, H2, I2, r2, q2⟩ => ?_)
  refine kws_nil ?_
  obtain ⟨a, xs, k, ex, ey, k0, k1, hq, q⟩ := q2
  subst ex ey
  cases r1
  obtain ⟨t, rfl⟩ := r2
  obtain ⟨its, rv, p', hz⟩ := I2.list hq
  have hal : a < s2.heap.objs.size := by
    obtain ⟨o, ho, _⟩ := p'.isList
    exact Heap.lt_size ho
  show wpAny _ _ (call (.type "enumerate") [.ref a] [(Str.ofString "start", .int k t)]) _ _ _
  refine enum_begins_start (begins_list a its.toArray) p'.isList (by omega) (by omega) fun h' hen hit hsz hkp => wpAny_pyIter_enum hen ?_
  have I3 : Inv X pins σ H2 { s2 with heap := h' } := I2.kept (t' := s2.toks) hkp
  have e0 : k = k + ((0 : Nat) : Int) := by omega
  refine ⟨s2.heap.objs.size + 1, [s2.heap.objs.size + 1, s2.heap.objs.size], _, _, H2, rfl, I3, turns k a (s2.heap.objs.size + 1) s2.heap.objs.size (Nat.ne_of_lt hal) (Nat.ne_of_lt (Nat.lt_succ_of_lt hal)), ⟨⟨.none, e0 ▸ hen⟩, ⟨_, hit, rfl, rfl⟩, Nat.succ_ne_self _⟩, fun b hb => ?_, q⟩
  have hle : s2.heap.objs.size ≤ b := by
    rcases List.mem_cons.mp hb with z | z
    · rw [z]
      exact Nat.le_add_right _ _
    · rw [List.mem_singleton.mp z]
      exact Nat.le_refl _
  exact I2.fpOk hle (I2.hok.fresh hle)
/-- the reading of such a loop: an invariant over turn, slots, heap; the pair of a turn is at T -/
theorem for_enumS {K : PySem.W.Frag} {a : Addr} {k : Int} {xs : List V} {g : TG} {tb : TS} {D : Ends} {σ : L2.St} {H : Hp} (Pv : Nat → L2.St → Hp → Prop) (h0 : Pv 0 σ H) (hl : ∀ i σ H, i ≤ xs.length → Pv i σ H → SqL K H a xs)
    (hs : ∀ i x σ H T, xs[i]? = some x → Pv i σ H → H T = none → g (.ref T) σ (upd H T (.tup [.int (k + (i : Nat)), x])) fun σ2 H2 => tb { D with nx := Pv (i + 1), ct := Pv (i + 1), bk := D.nx } σ2 H2)
    (hd : ∀ σ H, Pv xs.length σ H → D.nx σ H) :
    ∃ W : Nat → Nat → L2.St → Hp → Prop, (∃ m, W 0 m σ H) ∧ ∀ i m σ H, W i m σ H →
      ((ItS K a k).stop i H ∧ D.nx σ H) ∨ ((ItS K a k).go i H ∧ ∃ N : L2.St → Hp → Prop, (∀ σ' H', N σ' H' → ∃ m', m' < m ∧ W (i + 1) m' σ' H') ∧ ∀ x H', (ItS K a k).yld i H x H' → g x σ H' fun σ2 H2 => tb { D with nx := N, ct := N, bk := D.nx } σ2 H2) := by
  refine ⟨fun i m σ H => i + m = xs.length ∧ Pv i σ H, ⟨xs.length, Nat.zero_add _, h0⟩, fun i m σ H hw => ?_⟩
  obtain ⟨em, pv⟩ := hw
  have q := hl i σ H (by omega) pv
  by_cases hi : i < xs.length
  · refine .inr ⟨⟨xs, xs[i], q, List.getElem?_eq_getElem hi⟩, Pv (i + 1), fun σ' H' p' => ⟨m - 1, by omega, by omega, p'⟩, fun y H' hy => ?_⟩
    obtain ⟨T, x, rfl, nT, rfl, fx⟩ := hy
    exact hs i x σ H T (fx xs q) pv nT
  · have ei : i = xs.length := by omega
    subst ei
    exact .inl ⟨⟨xs, q, rfl⟩, hd σ H pv⟩
/-- d.update(e), e another dict -/
def rUpdate : V → List V → Hp → VK → Prop := fun x vs H Q => ∃ (d o : Addr) (kvs more : List (Key × V)), x = .ref d ∧ vs = [.ref o] ∧ d ≠ o ∧ H d = some (.dK kvs) ∧ H o = some (.dK more) ∧ kvs.length + more.length ≤ sizeLine ∧ Q .non (upd H d (.dK (mergeK kvs more)))
theorem len_putK {kvs : List (Key × V)} {k : Key} {v : V} : (putK kvs k v).length ≤ kvs.length + 1 := length_putK kvs k v
theorem len_mergeK : ∀ (more kvs : List (Key × V)), (mergeK kvs more).length ≤ kvs.length + more.length
  | [], kvs => Nat.le_refl _
  | q :: r, kvs => by
    have h := len_mergeK r (putK kvs q.1 q.2)
    have h2 := len_putK (kvs := kvs) (k := q.1) (v := q.2)
    rw [List.length_cons]
    show (mergeK (putK kvs q.1 q.2) r).length ≤ _
    omega
theorem mt_update {X : Cx} : MtM X "dict.update" rUpdate := by
  intro pins s σ H x vs v us Q I rx rv h
  obtain ⟨d, o, kvs, more, rfl, rfl, hne, hd, ho, hz, q⟩ := h
  cases rx
  obtain ⟨u, rfl, ru⟩ := rv.one
  cases ru
  obtain ⟨z1, hs1, vs1, r1, d1⟩ := dk_of I.hok hd
  obtain ⟨z2, hs2, vs2, r2, d2⟩ := dk_of I.hok ho
  have l1 : kvs.length = vs1.length := Paired.length r1
  have l2 : more.length = vs2.length := Paired.length r2
  refine call_meetsIn F.slot_dict_update d1.typeIs F.entry_dict_update (F.args_dict_update_2 _ _) (meets_dict_update (mixKind X.prog X.w) d o hne hs2) ⟨vs1, vs2, d1, d2, by omega, fun h' e1 e2 sb => ?_⟩
  have he : ∃ q, h'.get? d = some q := by
    obtain ⟨q, _, _, hq, _⟩ := e1
    exact ⟨q, hq⟩
  have hl : (mergeK kvs more).length ≤ sizeLine := Nat.le_trans (len_mergeK more kvs) hz
  exact ⟨.non, _, d_write I (by rw [hd]; exact True.intro) sb he (dk_new hl hs1 (KV.merge r2 r1) e1), rfl, q⟩
end En

set_option maxRecDepth 100000
set_option maxHeartbeats 4000000
/-! a memory: what it holds, what a write makes of it -/
namespace Mm
open PySem PySem.Spec PyProof.Rows L2
/-- all but these places stays -/
def But (S : List Addr) (H H' : Hp) : Prop := ∀ b o, b ∉ S → H b = some o → H' b = some o
theorem But.refl (S : List Addr) (H : Hp) : But S H H := fun _ _ _ h => h
theorem But.trans {S : List Addr} {H H1 H2 : Hp} (a : But S H H1) (b : But S H1 H2) : But S H H2 := fun c o n h => b c o n (a c o n h)
theorem But.same {S : List Addr} {H H' : Hp} (s : Same H H') : But S H H' := fun b o _ h => s b o h
theorem But.upd {S : List Addr} {H : Hp} {p : Addr} {o : HO} (h : p ∈ S) : But S H (L2.upd H p o) := fun b u n e => by
  rw [upd_ne (fun z => n (by rw [z]; exact h))]
  exact e
theorem But.more {S S' : List Addr} {H H' : Hp} (k : But S H H') (h : ∀ b ∈ S, b ∈ S') : But S' H H' := fun b o n e => k b o (fun m => n (h b m)) e
theorem But.sameOf {S : List Addr} {H0 H H' : Hp} (k : But S H H') (s : Same H0 H) (f : ∀ b ∈ S, H0 b = none) : Same H0 H' := fun b o e => k b o (fun m => by rw [f b m] at e; cases e) (s b o e)
/-- all but these places and tables stays -/
def ButN (S : List Addr) (H H' : Hp) : Prop := ∀ b o, b ∉ S → Dw.NT o → H b = some o → H' b = some o
theorem But.n {S : List Addr} {H H' : Hp} (k : But S H H') : ButN S H H' := fun b o n _ h => k b o n h
theorem ButN.trans {S : List Addr} {H H1 H2 : Hp} (a : ButN S H H1) (b : ButN S H1 H2) : ButN S H H2 := fun c o n t h => b c o n t (a c o n t h)
theorem ButN.more {S S' : List Addr} {H H' : Hp} (k : ButN S H H') (h : ∀ b ∈ S, b ∈ S') : ButN S' H H' := fun b o n t e => k b o (fun m => n (h b m)) t e
def leftV : Option Nat → V
  | none => .non
  | some k => .int (k : Int)
structure Mem where
  cells : List V
  many : Int
  up : Bool
  left : Option Nat
  torn : Str
def tornTo (t : Str) (cs : List V) (j : Nat) (v : Int) : List V := if t = "broken" then cs.set j .non else if t = "new" then cs.set j (.int v) else cs
/-- a write: what is behind it, and whether it was whole -/
def Mem.write (m : Mem) (j : Nat) (v : Int) : Mem × Bool :=
  if m.up = true then
    if m.left = some 0 then (⟨tornTo m.torn m.cells j v, m.many, false, none, m.torn⟩, false)
    else (⟨m.cells.set j (.int v), m.many + 1, true, m.left.map (· - 1), m.torn⟩, true)
  else (m, false)
theorem write_down {m : Mem} {j : Nat} {v : Int} (h : m.up = false) : m.write j v = (m, false) := by
  unfold Mem.write
  rw [if_neg (by rw [h]; decide)]
theorem write_cut {m : Mem} {j : Nat} {v : Int} (h : m.up = true) (h0 : m.left = some 0) : m.write j v = (⟨tornTo m.torn m.cells j v, m.many, false, none, m.torn⟩, false) := by
  unfold Mem.write
  rw [if_pos h, if_pos h0]
theorem write_ok {m : Mem} {j : Nat} {v : Int} (h : m.up = true) (h0 : ¬ m.left = some 0) : m.write j v = (⟨m.cells.set j (.int v), m.many + 1, true, m.left.map (· - 1), m.torn⟩, true) := by
  unfold Mem.write
  rw [if_pos h, if_neg h0]
theorem torn_len (t : Str) (cs : List V) (j : Nat) (v : Int) : (tornTo t cs j v).length = cs.length := by
  unfold tornTo
  split
  · rw [List.length_set]
  · split
    · rw [List.length_set]
    · rfl
theorem write_len (m : Mem) (j : Nat) (v : Int) : (m.write j v).1.cells.length = m.cells.length := by
  by_cases h : m.up = true
  · by_cases h0 : m.left = some 0
    · rw [write_cut h h0]
      exact torn_len _ _ _ _
    · rw [write_ok h h0]
      exact List.length_set
  · rw [write_down (Bool.eq_false_iff.mpr h)]
/-- rows put: those that aren't there already -/
def Mem.putGo : Mem → Nat → Int → List Int → Mem × Option Int
  | m, _, n, [] => (m, some n)
  | m, j, n, v :: r => if m.cells[j]? = some (.int v) then Mem.putGo m (j + 1) n r else
      if (m.write j v).2 = true then Mem.putGo (m.write j v).1 (j + 1) (n + 1) r else ((m.write j v).1, none)
theorem putGo_cons {m : Mem} {j : Nat} {n v : Int} {r : List Int} : m.putGo j n (v :: r) = if m.cells[j]? = some (.int v) then Mem.putGo m (j + 1) n r else
    if (m.write j v).2 = true then Mem.putGo (m.write j v).1 (j + 1) (n + 1) r else ((m.write j v).1, none) := rfl
def Mem.put (m : Mem) (j : Nat) (ws : List Int) : Mem × Option Int := if m.up = true then m.putGo j 0 ws else (m, none)
theorem putGo_len : ∀ (ws : List Int) (m : Mem) (j : Nat) (n : Int), (m.putGo j n ws).1.cells.length = m.cells.length
  | [], _, _, _ => rfl
  | v :: r, m, j, n => by
    unfold Mem.putGo
    split
    · exact putGo_len r m (j + 1) n
    · split
      · rw [putGo_len r _ (j + 1) (n + 1), write_len]
      · exact write_len m j v
theorem leftV_zero {o : Option Nat} : leftV o = .int 0 ↔ o = some 0 := by
  cases o with
  | none => simp [leftV]
  | some k =>
    simp only [leftV, V.int.injEq, Option.some.injEq]
    omega
theorem leftV_non {o : Option Nat} : leftV o = .non ↔ o = none := by
  cases o with
  | none => simp [leftV]
  | some k => simp [leftV]
/-! ### its object -/
theorem lk_here {k : Str} {v : V} {r : List (Str × V)} : List.lookup k ((k, v) :: r) = some v := by
  have e : (k == k) = true := beq_self_eq_true k
  simp only [List.lookup, e]
theorem lk_past {k g : Str} {v : V} {r : List (Str × V)} (h : (k == g) = false) : List.lookup k ((g, v) :: r) = List.lookup k r := by
  simp only [List.lookup, h]
theorem put_here {f : Str} {v x : V} {r : List (Str × V)} : putF f v ((f, x) :: r) = (f, v) :: r := if_pos rfl
theorem put_past {f g : Str} {v x : V} {r : List (Str × V)} (h : ¬ g = f) : putF f v ((g, x) :: r) = (g, x) :: putF f v r := if_neg h
/-- its attributes, in the order in which __init__ sets them -/
def mf (l : Addr) (n : Int) (u : Bool) (a : V) (t : Str) : List (Str × V) := [("_cells", .ref l), ("_whole_writes", .int n), ("_has_power", .bl u), ("_ahead", a), ("_torn", .str t)]
section
variable {l : Addr} {n n' : Int} {u u' : Bool} {a a' : V} {t t' : Str}
theorem mf_cells : (mf l n u a t).lookup ("_cells" : Str) = some (.ref l) := lk_here
theorem mf_many : (mf l n u a t).lookup ("_whole_writes" : Str) = some (.int n) := (lk_past (by decide +kernel)).trans lk_here
theorem mf_up : (mf l n u a t).lookup ("_has_power" : Str) = some (.bl u) := (lk_past (by decide +kernel)).trans ((lk_past (by decide +kernel)).trans lk_here)
theorem mf_ahead : (mf l n u a t).lookup ("_ahead" : Str) = some a := (lk_past (by decide +kernel)).trans ((lk_past (by decide +kernel)).trans ((lk_past (by decide +kernel)).trans lk_here))
theorem mf_torn : (mf l n u a t).lookup ("_torn" : Str) = some (.str t) := (lk_past (by decide +kernel)).trans ((lk_past (by decide +kernel)).trans ((lk_past (by decide +kernel)).trans ((lk_past (by decide +kernel)).trans lk_here)))
theorem mf_no {x : Str} (h1 : (x == ("_cells" : Str)) = false) (h2 : (x == ("_whole_writes" : Str)) = false) (h3 : (x == ("_has_power" : Str)) = false) (h4 : (x == ("_ahead" : Str)) = false) (h5 : (x == ("_torn" : Str)) = false) : (mf l n u a t).lookup x = none :=
  (lk_past h1).trans ((lk_past h2).trans ((lk_past h3).trans ((lk_past h4).trans ((lk_past h5).trans rfl))))
theorem put_many : putF "_whole_writes" (.int n') (mf l n u a t) = mf l n' u a t := (put_past (by decide +kernel)).trans (congrArg _ put_here)
theorem put_up : putF "_has_power" (.bl u') (mf l n u a t) = mf l n u' a t := (put_past (by decide +kernel)).trans (congrArg _ ((put_past (by decide +kernel)).trans (congrArg _ put_here)))
theorem put_ahead : putF "_ahead" a' (mf l n u a t) = mf l n u a' t := (put_past (by decide +kernel)).trans (congrArg _ ((put_past (by decide +kernel)).trans (congrArg _ ((put_past (by decide +kernel)).trans (congrArg _ put_here)))))
theorem put_torn : putF "_torn" (.str t') (mf l n u a t) = mf l n u a t' := (put_past (by decide +kernel)).trans (congrArg _ ((put_past (by decide +kernel)).trans (congrArg _ ((put_past (by decide +kernel)).trans (congrArg _ ((put_past (by decide +kernel)).trans (congrArg _ put_here)))))))
theorem put_new : putF "_torn" (.str t) (putF "_ahead" a (putF "_has_power" (.bl u) (putF "_whole_writes" (.int n) (putF "_cells" (.ref l) [])))) = mf l n u a t := by
  rw [show putF "_cells" (.ref l) [] = [(("_cells" : Str), V.ref l)] from rfl,
    show putF "_whole_writes" (.int n) [(("_cells" : Str), V.ref l)] = [(("_cells" : Str), V.ref l), ("_whole_writes", .int n)] from (put_past (by decide +kernel)).trans rfl,
    show putF "_has_power" (.bl u) [(("_cells" : Str), V.ref l), ("_whole_writes", .int n)] = [(("_cells" : Str), V.ref l), ("_whole_writes", .int n), ("_has_power", .bl u)] from (put_past (by decide +kernel)).trans (congrArg _ ((put_past (by decide +kernel)).trans rfl)),
    show putF "_ahead" a [(("_cells" : Str), V.ref l), ("_whole_writes", .int n), ("_has_power", .bl u)] = [(("_cells" : Str), V.ref l), ("_whole_writes", .int n), ("_has_power", .bl u), ("_ahead", a)] from (put_past (by decide +kernel)).trans (congrArg _ ((put_past (by decide +kernel)).trans (congrArg _ ((put_past (by decide +kernel)).trans rfl))))]
  exact (put_past (by decide +kernel)).trans (congrArg _ ((put_past (by decide +kernel)).trans (congrArg _ ((put_past (by decide +kernel)).trans (congrArg _ ((put_past (by decide +kernel)).trans rfl))))))
theorem mf_few : (mf l n u a t).length < 1000 := by
  show 5 < 1000
  decide
end
/-- a memory m stands at p, its cells in the list at l -/
structure MemAt (C p l : Addr) (m : Mem) (H : Hp) : Prop where
  ob : ∃ (dx : Addr) (a : V), H p = some (.ins C dx (mf l m.many m.up a m.torn)) ∧ (m.up = true → a = leftV m.left)
  ls : H l = some (.lst m.cells)
  cel : ∀ v ∈ m.cells, Dw.cel v = true
  len : m.cells.length ≤ 400
section
variable {C p l : Addr} {m : Mem} {H H' : Hp}
theorem MemAt.ne (M : MemAt C p l m H) : p ≠ l := by
  obtain ⟨dx, a, h, _⟩ := M.ob
  exact ne_of h M.ls (by intro z; cases z)
theorem MemAt.but {S : List Addr} (M : MemAt C p l m H) (k : But S H H') (hp : p ∉ S) (hl : l ∉ S) : MemAt C p l m H' := by
  obtain ⟨dx, a, h, e⟩ := M.ob
  exact ⟨⟨dx, a, k _ _ hp h, e⟩, k _ _ hl M.ls, M.cel, M.len⟩
theorem MemAt.butN {S : List Addr} (M : MemAt C p l m H) (k : ButN S H H') (hp : p ∉ S) (hl : l ∉ S) : MemAt C p l m H' := by
  obtain ⟨dx, a, h, e⟩ := M.ob
  exact ⟨⟨dx, a, k _ _ hp Dw.NT.ins h, e⟩, k _ _ hl Dw.NT.lst M.ls, M.cel, M.len⟩
theorem MemAt.mono (M : MemAt C p l m H) (k : Same H H') : MemAt C p l m H' := M.but (S := []) (But.same k) (by simp) (by simp)
theorem MemAt.at (M : MemAt C p l m H) {j : Nat} (h : j < m.cells.length) : ∃ v, m.cells[j]? = some v ∧ Dw.cel v = true :=
  ⟨m.cells[j], List.getElem?_eq_getElem h, M.cel _ (List.getElem_mem h)⟩
/-- its cells another list -/
theorem MemAt.setCells (M : MemAt C p l m H) {cs : List V} (hc : ∀ v ∈ cs, Dw.cel v = true) (hl : cs.length = m.cells.length) : MemAt C p l { m with cells := cs } (upd H l (.lst cs)) := by
  obtain ⟨dx, a, h, e⟩ := M.ob
  exact ⟨⟨dx, a, by rw [upd_ne M.ne]; exact h, e⟩, upd_same, hc, by show cs.length ≤ 400; rw [hl]; exact M.len⟩
theorem cel_set {cs : List V} {j : Nat} {v : V} (h : ∀ x ∈ cs, Dw.cel x = true) (hv : Dw.cel v = true) : ∀ x ∈ cs.set j v, Dw.cel x = true := fun x hx => by
  rcases List.mem_or_eq_of_mem_set hx with z | z
  · exact h x z
  · rw [z]
    exact hv
theorem cel_torn {t : Str} {cs : List V} {j : Nat} {v : Int} (h : ∀ x ∈ cs, Dw.cel x = true) : ∀ x ∈ tornTo t cs j v, Dw.cel x = true := by
  unfold tornTo
  split
  · exact cel_set h rfl
  · split
    · exact cel_set h rfl
    · exact h
end
/-- what calls that surely let nothing out ask -/
theorem passN {P : Program} {w : World} {X : Cx} : Passes (L2.CX P w) X E0 := fun _ _ _ _ _ _ _ h => by
  obtain ⟨_, _, _, _, _, _, _, _, _, _, _, _, z⟩ := h
  exact z.elim
theorem flat_rep {α : Type} (x : α) : ∀ n : Nat, (List.replicate n [x]).flatten = List.replicate n x
  | 0 => rfl
  | n + 1 => by
    rw [List.replicate_succ, List.flatten_cons, flat_rep x n]
    rfl
/-! ### what is promised of its methods -/
def spPlace (C : Addr) : Sp := fun vs H Q _ => ∃ (p l : Addr) (m : Mem) (j : Nat), vs = [.ref p, .int (j : Int)] ∧ MemAt C p l m H ∧ j < m.cells.length ∧ Q .non H
def spWorth : Sp := fun vs H Q _ => ∃ v : Int, vs = [.int v] ∧ 0 ≤ v ∧ v ≤ 9972 ∧ Q .non H
def spPower (C CS : Addr) : Sp := fun vs H Q E => ∃ (p l : Addr) (m : Mem), vs = [.ref p] ∧ MemAt C p l m H ∧ (m.up = true → Q .non H) ∧ (m.up = false → E (.ref CS) none H)
def spLose (C CS : Addr) : Sp := fun vs H Q E => ∃ (p l : Addr) (m : Mem) (j : Nat) (v : Int), vs = [.ref p, .int (j : Int), .int v] ∧ MemAt C p l m H ∧ j < m.cells.length ∧
  ∀ H', MemAt C p l ⟨tornTo m.torn m.cells j v, m.many, false, none, m.torn⟩ H' → But [p, l] H H' → E (.ref CS) none H'
def spWrite (C CS : Addr) : Sp := fun vs H Q E => ∃ (p l : Addr) (m : Mem) (j : Nat) (v : Int), vs = [.ref p, .int (j : Int), .int v] ∧ MemAt C p l m H ∧ j < m.cells.length ∧ 0 ≤ v ∧ v ≤ 9972 ∧
  ∀ H', MemAt C p l (m.write j v).1 H' → But [p, l] H H' → ((m.write j v).2 = true → Q .non H') ∧ ((m.write j v).2 = false → E (.ref CS) none H')
def spPut (K : PySem.W.Frag) (C CS : Addr) : Sp := fun vs H Q E => ∃ (p l b : Addr) (m : Mem) (j : Nat) (ws : List Int), vs = [.ref p, .int (j : Int), .ref b] ∧ MemAt C p l m H ∧ SqL K H b (ws.map V.int) ∧ b ≠ l ∧ j + ws.length ≤ m.cells.length ∧ (∀ v ∈ ws, 0 ≤ v ∧ v ≤ 9972) ∧
  ∀ H', MemAt C p l (m.put j ws).1 H' → But [p, l] H H' → (∀ n, (m.put j ws).2 = some n → Q (.int n) H') ∧ ((m.put j ws).2 = none → E (.ref CS) none H')
def spRead (C CS : Addr) : Sp := fun vs H Q E => ∃ (p l : Addr) (m : Mem) (j : Nat), vs = [.ref p, .int (j : Int)] ∧ MemAt C p l m H ∧ j < m.cells.length ∧ (m.up = true → ∀ v, m.cells[j]? = some v → Q v H) ∧ (m.up = false → E (.ref CS) none H)
def spRow (C CS : Addr) : Sp := fun vs H Q E => ∃ (p l : Addr) (m : Mem) (j n : Nat), vs = [.ref p, .int (j : Int), .int (n : Int)] ∧ MemAt C p l m H ∧ j + n ≤ m.cells.length ∧
  (m.up = true → ∀ H' c, Same H H' → H c = none → H' c = some (.lst ((m.cells.drop j).take n)) → Q (.ref c) H') ∧ (m.up = false → E (.ref CS) none H)
def spSpoil (C : Addr) : Sp := fun vs H Q _ => ∃ (p l : Addr) (m : Mem) (j : Nat) (x : V), vs = [.ref p, .int (j : Int), x] ∧ MemAt C p l m H ∧ j < m.cells.length ∧ (x = .non ∨ ∃ v, x = .int v ∧ 0 ≤ v ∧ v ≤ 9972) ∧
  ∀ H', MemAt C p l { m with cells := m.cells.set j x } H' → But [p, l] H H' → Q .non H'
def spCut (C : Addr) : Sp := fun vs H Q _ => ∃ (p l : Addr) (m : Mem) (k : Nat) (t : Str), vs = [.ref p, .int (k : Int), .str t] ∧ MemAt C p l m H ∧ k ≤ 100000 ∧ (t = "old" ∨ t = "broken" ∨ t = "new") ∧
  ∀ H', MemAt C p l { m with left := some k, torn := t } H' → But [p, l] H H' → Q .non H'
def spUp (C : Addr) : Sp := fun vs H Q _ => ∃ (p l : Addr) (m : Mem), vs = [.ref p] ∧ MemAt C p l m H ∧ ∀ H', MemAt C p l { m with up := true, left := none } H' → But [p, l] H H' → Q .non H'
def spCells (C : Addr) : Sp := fun vs H Q _ => ∃ (p l : Addr) (m : Mem), vs = [.ref p] ∧ MemAt C p l m H ∧ ∀ H' c, Same H H' → H c = none → H' c = some (.lst m.cells) → Q (.ref c) H'
def spWrites (C : Addr) : Sp := fun vs H Q _ => ∃ (p l : Addr) (m : Mem), vs = [.ref p] ∧ MemAt C p l m H ∧ Q (.int m.many) H
def spInit (C : Addr) : Sp := fun vs H Q _ => ∃ (p dx : Addr) (n : Nat), vs = [.ref p, .int (n : Int)] ∧ H p = some (.ins C dx []) ∧ 1 ≤ n ∧ n ≤ 400 ∧
  ∀ H' l, MemAt C p l ⟨List.replicate n (.int 0), 0, true, none, "old"⟩ H' → H l = none → But [p] H H' → Q .non H'
end Mm

set_option maxRecDepth 100000
set_option maxHeartbeats 4000000
namespace K02
open PySem PySem.Spec PyProof.Rows L2
def topS (i : Nat) : Stmt := PySem.Challenge.pw_twoimages_k02_whole_cells_write_by_write.main.body.getD i (.Pass ⟨0, 0, 0, 0⟩)
abbrev s_check_worth : Stmt := topS 12
abbrev N_check_worth : List Str := ["worth"]
abbrev P_check_worth : List Str := ["worth"]
theorem sc_check_worth : FnScope N_check_worth P_check_worth (defScope s_check_worth) := ⟨rfl, rfl, rfl, by decide +kernel, rfl, by decide +kernel, by decide +kernel⟩
abbrev s_Memory___init__ : Stmt := inClass (topS 13) 0
abbrev N_Memory___init__ : List Str := ["self", "size"]
abbrev P_Memory___init__ : List Str := ["self", "size"]
theorem sc_Memory___init__ : FnScope N_Memory___init__ P_Memory___init__ (defScope s_Memory___init__) := ⟨rfl, rfl, rfl, by decide +kernel, rfl, by decide +kernel, by decide +kernel⟩
abbrev s_Memory_read : Stmt := inClass (topS 13) 1
abbrev N_Memory_read : List Str := ["self", "place"]
abbrev P_Memory_read : List Str := ["self", "place"]
theorem sc_Memory_read : FnScope N_Memory_read P_Memory_read (defScope s_Memory_read) := ⟨rfl, rfl, rfl, by decide +kernel, rfl, by decide +kernel, by decide +kernel⟩
abbrev s_Memory_row : Stmt := inClass (topS 13) 2
abbrev N_Memory_row : List Str := ["self", "place", "many", "at"]
abbrev P_Memory_row : List Str := ["self", "place", "many"]
theorem sc_Memory_row : FnScope N_Memory_row P_Memory_row (defScope s_Memory_row) := ⟨rfl, rfl, rfl, by decide +kernel, rfl, by decide +kernel, by decide +kernel⟩
abbrev s_Memory_write : Stmt := inClass (topS 13) 3
abbrev N_Memory_write : List Str := ["self", "place", "worth"]
abbrev P_Memory_write : List Str := ["self", "place", "worth"]
theorem sc_Memory_write : FnScope N_Memory_write P_Memory_write (defScope s_Memory_write) := ⟨rfl, rfl, rfl, by decide +kernel, rfl, by decide +kernel, by decide +kernel⟩
abbrev s_Memory_put : Stmt := inClass (topS 13) 4
abbrev N_Memory_put : List Str := ["self", "place", "row", "at", "worth", "many"]
abbrev P_Memory_put : List Str := ["self", "place", "row"]
theorem sc_Memory_put : FnScope N_Memory_put P_Memory_put (defScope s_Memory_put) := ⟨rfl, rfl, rfl, by decide +kernel, rfl, by decide +kernel, by decide +kernel⟩
abbrev s_Memory_spoil : Stmt := inClass (topS 13) 5
abbrev N_Memory_spoil : List Str := ["self", "place", "worth"]
abbrev P_Memory_spoil : List Str := ["self", "place", "worth"]
theorem sc_Memory_spoil : FnScope N_Memory_spoil P_Memory_spoil (defScope s_Memory_spoil) := ⟨rfl, rfl, rfl, by decide +kernel, rfl, by decide +kernel, by decide +kernel⟩
abbrev s_Memory_cut : Stmt := inClass (topS 13) 6
abbrev N_Memory_cut : List Str := ["self", "many", "torn"]
abbrev P_Memory_cut : List Str := ["self", "many", "torn"]
theorem sc_Memory_cut : FnScope N_Memory_cut P_Memory_cut (defScope s_Memory_cut) := ⟨rfl, rfl, rfl, by decide +kernel, rfl, by decide +kernel, by decide +kernel⟩
abbrev s_Memory_up : Stmt := inClass (topS 13) 7
abbrev N_Memory_up : List Str := ["self"]
abbrev P_Memory_up : List Str := ["self"]
theorem sc_Memory_up : FnScope N_Memory_up P_Memory_up (defScope s_Memory_up) := ⟨rfl, rfl, rfl, by decide +kernel, rfl, by decide +kernel, by decide +kernel⟩
abbrev s_Memory_cells : Stmt := inClass (topS 13) 8
abbrev N_Memory_cells : List Str := ["self"]
abbrev P_Memory_cells : List Str := ["self"]
theorem sc_Memory_cells : FnScope N_Memory_cells P_Memory_cells (defScope s_Memory_cells) := ⟨rfl, rfl, rfl, by decide +kernel, rfl, by decide +kernel, by decide +kernel⟩
abbrev s_Memory_writes : Stmt := inClass (topS 13) 9
abbrev N_Memory_writes : List Str := ["self"]
abbrev P_Memory_writes : List Str := ["self"]
theorem sc_Memory_writes : FnScope N_Memory_writes P_Memory_writes (defScope s_Memory_writes) := ⟨rfl, rfl, rfl, by decide +kernel, rfl, by decide +kernel, by decide +kernel⟩
abbrev s_Memory__check_place : Stmt := inClass (topS 13) 10
abbrev N_Memory__check_place : List Str := ["self", "place"]
abbrev P_Memory__check_place : List Str := ["self", "place"]
theorem sc_Memory__check_place : FnScope N_Memory__check_place P_Memory__check_place (defScope s_Memory__check_place) := ⟨rfl, rfl, rfl, by decide +kernel, rfl, by decide +kernel, by decide +kernel⟩
abbrev s_Memory__check_power : Stmt := inClass (topS 13) 11
abbrev N_Memory__check_power : List Str := ["self"]
abbrev P_Memory__check_power : List Str := ["self"]
theorem sc_Memory__check_power : FnScope N_Memory__check_power P_Memory__check_power (defScope s_Memory__check_power) := ⟨rfl, rfl, rfl, by decide +kernel, rfl, by decide +kernel, by decide +kernel⟩
abbrev s_Memory__lose_power : Stmt := inClass (topS 13) 12
abbrev N_Memory__lose_power : List Str := ["self", "place", "worth"]
abbrev P_Memory__lose_power : List Str := ["self", "place", "worth"]
theorem sc_Memory__lose_power : FnScope N_Memory__lose_power P_Memory__lose_power (defScope s_Memory__lose_power) := ⟨rfl, rfl, rfl, by decide +kernel, rfl, by decide +kernel, by decide +kernel⟩
abbrev s_l_taken : Stmt := topS 15
abbrev N_l_taken : List Str := ["_law_row", "_law_many", "_law_found", "_law_cell"]
abbrev P_l_taken : List Str := ["_law_row", "_law_many"]
theorem sc_l_taken : FnScope N_l_taken P_l_taken (defScope s_l_taken) := ⟨rfl, rfl, rfl, by decide +kernel, rfl, by decide +kernel, by decide +kernel⟩
abbrev s_l_alike : Stmt := topS 16
abbrev N_l_alike : List Str := ["_law_found", "_law_due_here", "_law_k"]
abbrev P_l_alike : List Str := ["_law_found", "_law_due_here"]
theorem sc_l_alike : FnScope N_l_alike P_l_alike (defScope s_l_alike) := ⟨rfl, rfl, rfl, by decide +kernel, rfl, by decide +kernel, by decide +kernel⟩
abbrev s_l_worth : Stmt := topS 17
abbrev N_l_worth : List Str := ["_law_row"]
abbrev P_l_worth : List Str := ["_law_row"]
theorem sc_l_worth : FnScope N_l_worth P_l_worth (defScope s_l_worth) := ⟨rfl, rfl, rfl, by decide +kernel, rfl, by decide +kernel, by decide +kernel⟩
abbrev s_l_own : Stmt := topS 18
abbrev N_l_own : List Str := ["_law_size", "_law_m"]
abbrev P_l_own : List Str := ["_law_size"]
theorem sc_l_own : FnScope N_l_own P_l_own (defScope s_l_own) := ⟨rfl, rfl, rfl, by decide +kernel, rfl, by decide +kernel, by decide +kernel⟩
abbrev s_l_write : Stmt := topS 19
abbrev N_l_write : List Str := ["_law_m", "_law_place", "_law_worth_here"]
abbrev P_l_write : List Str := ["_law_m", "_law_place", "_law_worth_here"]
theorem sc_l_write : FnScope N_l_write P_l_write (defScope s_l_write) := ⟨rfl, rfl, rfl, by decide +kernel, rfl, by decide +kernel, by decide +kernel⟩
abbrev s_l_put_in : Stmt := topS 20
abbrev N_l_put_in : List Str := ["_law_m", "_law_place", "_law_some", "_law_found", "_law_k"]
abbrev P_l_put_in : List Str := ["_law_m", "_law_place", "_law_some"]
theorem sc_l_put_in : FnScope N_l_put_in P_l_put_in (defScope s_l_put_in) := ⟨rfl, rfl, rfl, by decide +kernel, rfl, by decide +kernel, by decide +kernel⟩
abbrev s_l_told : Stmt := topS 21
abbrev N_l_told : List Str := ["_law_work"]
abbrev P_l_told : List Str := ["_law_work"]
theorem sc_l_told : FnScope N_l_told P_l_told (defScope s_l_told) := ⟨rfl, rfl, rfl, by decide +kernel, rfl, by decide +kernel, by decide +kernel⟩
abbrev s_l_due : Stmt := topS 22
abbrev N_l_due : List Str := ["_law_m", "_law_deed", "_law_word", "_law_place", "_law_what", "_law_found"]
abbrev P_l_due : List Str := ["_law_m", "_law_deed"]
theorem sc_l_due : FnScope N_l_due P_l_due (defScope s_l_due) := ⟨rfl, rfl, rfl, by decide +kernel, rfl, by decide +kernel, by decide +kernel⟩
abbrev s_l_does : Stmt := topS 23
abbrev N_l_does : List Str := ["_law_memory", "_law_deed", "_law_word", "_law_place", "_law_what"]
abbrev P_l_does : List Str := ["_law_memory", "_law_deed"]
theorem sc_l_does : FnScope N_l_does P_l_does (defScope s_l_does) := ⟨rfl, rfl, rfl, by decide +kernel, rfl, by decide +kernel, by decide +kernel⟩
abbrev s_l_drawn : Stmt := topS 24
abbrev N_l_drawn : List Str := ["_law_row", "_law_m", "_law_size", "_law_place", "_law_way", "_law_some", "_law_k"]
abbrev P_l_drawn : List Str := ["_law_row", "_law_m"]
theorem sc_l_drawn : FnScope N_l_drawn P_l_drawn (defScope s_l_drawn) := ⟨rfl, rfl, rfl, by decide +kernel, rfl, by decide +kernel, by decide +kernel⟩
abbrev s_law : Stmt := topS 25
abbrev N_law : List Str := ["_law_script", "_law_row", "_law_size", "_law_memory", "_law_m", "_law_turn", "_law_deed", "_law_due_here", "_law_cells"]
abbrev P_law : List Str := ["_law_script"]
theorem sc_law : FnScope N_law P_law (defScope s_law) := ⟨rfl, rfl, rfl, by decide +kernel, rfl, by decide +kernel, by decide +kernel⟩
structure Ad where
  f_check_worth : Addr
  d_check_worth : FuncData
  f_Memory___init__ : Addr
  d_Memory___init__ : FuncData
  f_Memory_read : Addr
  d_Memory_read : FuncData
  f_Memory_row : Addr
  d_Memory_row : FuncData
  f_Memory_write : Addr
  d_Memory_write : FuncData
  f_Memory_put : Addr
  d_Memory_put : FuncData
  f_Memory_spoil : Addr
  d_Memory_spoil : FuncData
  f_Memory_cut : Addr
  d_Memory_cut : FuncData
  f_Memory_up : Addr
  d_Memory_up : FuncData
  f_Memory_cells : Addr
  d_Memory_cells : FuncData
  f_Memory_writes : Addr
  d_Memory_writes : FuncData
  f_Memory__check_place : Addr
  d_Memory__check_place : FuncData
  f_Memory__check_power : Addr
  d_Memory__check_power : FuncData
  f_Memory__lose_power : Addr
  d_Memory__lose_power : FuncData
  f_l_taken : Addr
  d_l_taken : FuncData
  f_l_alike : Addr
  d_l_alike : FuncData
  f_l_worth : Addr
  d_l_worth : FuncData
  f_l_own : Addr
  d_l_own : FuncData
  f_l_write : Addr
  d_l_write : FuncData
  f_l_put_in : Addr
  d_l_put_in : FuncData
  f_l_told : Addr
  d_l_told : FuncData
  f_l_due : Addr
  d_l_due : FuncData
  f_l_does : Addr
  d_l_does : FuncData
  f_l_drawn : Addr
  d_l_drawn : FuncData
  f_law : Addr
  d_law : FuncData
  t_GREATEST_WORTH : Tok
  t_LATEST_CUT : Tok
  t_MOST_CELLS : Tok
  t_TORN : Addr
  C_Memory : Addr
  C_Stopped : Addr
structure Top (K : PySem.W.Frag) (mg : Str → Option Value) (a : Ad) : Prop where
  F_check_worth : Fun K "check_worth" "check_worth" s_check_worth a.f_check_worth a.d_check_worth
  B_check_worth : Binds K a.d_check_worth P_check_worth []
  g_check_worth : mg "check_worth" = some (.ref a.f_check_worth)
  F_Memory___init__ : Fun K "__init__" "Memory.__init__" s_Memory___init__ a.f_Memory___init__ a.d_Memory___init__
  B_Memory___init__ : Binds K a.d_Memory___init__ P_Memory___init__ []
  mk_Memory : Mk K a.C_Memory a.f_Memory___init__
  F_Memory_read : Fun K "read" "Memory.read" s_Memory_read a.f_Memory_read a.d_Memory_read
  B_Memory_read : Binds K a.d_Memory_read P_Memory_read []
  m_Memory_read : Meth K a.C_Memory "read" a.f_Memory_read
  F_Memory_row : Fun K "row" "Memory.row" s_Memory_row a.f_Memory_row a.d_Memory_row
  B_Memory_row : Binds K a.d_Memory_row P_Memory_row []
  m_Memory_row : Meth K a.C_Memory "row" a.f_Memory_row
  F_Memory_write : Fun K "write" "Memory.write" s_Memory_write a.f_Memory_write a.d_Memory_write
  B_Memory_write : Binds K a.d_Memory_write P_Memory_write []
  m_Memory_write : Meth K a.C_Memory "write" a.f_Memory_write
  F_Memory_put : Fun K "put" "Memory.put" s_Memory_put a.f_Memory_put a.d_Memory_put
  B_Memory_put : Binds K a.d_Memory_put P_Memory_put []
  m_Memory_put : Meth K a.C_Memory "put" a.f_Memory_put
  F_Memory_spoil : Fun K "spoil" "Memory.spoil" s_Memory_spoil a.f_Memory_spoil a.d_Memory_spoil
  B_Memory_spoil : Binds K a.d_Memory_spoil P_Memory_spoil []
  m_Memory_spoil : Meth K a.C_Memory "spoil" a.f_Memory_spoil
  F_Memory_cut : Fun K "cut" "Memory.cut" s_Memory_cut a.f_Memory_cut a.d_Memory_cut
  B_Memory_cut : Binds K a.d_Memory_cut P_Memory_cut []
  m_Memory_cut : Meth K a.C_Memory "cut" a.f_Memory_cut
  F_Memory_up : Fun K "up" "Memory.up" s_Memory_up a.f_Memory_up a.d_Memory_up
  B_Memory_up : Binds K a.d_Memory_up P_Memory_up []
  m_Memory_up : Meth K a.C_Memory "up" a.f_Memory_up
  F_Memory_cells : Fun K "cells" "Memory.cells" s_Memory_cells a.f_Memory_cells a.d_Memory_cells
  B_Memory_cells : Binds K a.d_Memory_cells P_Memory_cells []
  m_Memory_cells : Meth K a.C_Memory "cells" a.f_Memory_cells
  F_Memory_writes : Fun K "writes" "Memory.writes" s_Memory_writes a.f_Memory_writes a.d_Memory_writes
  B_Memory_writes : Binds K a.d_Memory_writes P_Memory_writes []
  m_Memory_writes : Meth K a.C_Memory "writes" a.f_Memory_writes
  F_Memory__check_place : Fun K "_check_place" "Memory._check_place" s_Memory__check_place a.f_Memory__check_place a.d_Memory__check_place
  B_Memory__check_place : Binds K a.d_Memory__check_place P_Memory__check_place []
  m_Memory__check_place : Meth K a.C_Memory "_check_place" a.f_Memory__check_place
  F_Memory__check_power : Fun K "_check_power" "Memory._check_power" s_Memory__check_power a.f_Memory__check_power a.d_Memory__check_power
  B_Memory__check_power : Binds K a.d_Memory__check_power P_Memory__check_power []
  m_Memory__check_power : Meth K a.C_Memory "_check_power" a.f_Memory__check_power
  F_Memory__lose_power : Fun K "_lose_power" "Memory._lose_power" s_Memory__lose_power a.f_Memory__lose_power a.d_Memory__lose_power
  B_Memory__lose_power : Binds K a.d_Memory__lose_power P_Memory__lose_power []
  m_Memory__lose_power : Meth K a.C_Memory "_lose_power" a.f_Memory__lose_power
  F_l_taken : Fun K "_law_taken" "_law_taken" s_l_taken a.f_l_taken a.d_l_taken
  B_l_taken : Binds K a.d_l_taken P_l_taken []
  g_l_taken : mg "_law_taken" = some (.ref a.f_l_taken)
  F_l_alike : Fun K "_law_alike" "_law_alike" s_l_alike a.f_l_alike a.d_l_alike
  B_l_alike : Binds K a.d_l_alike P_l_alike []
  g_l_alike : mg "_law_alike" = some (.ref a.f_l_alike)
  F_l_worth : Fun K "_law_worth" "_law_worth" s_l_worth a.f_l_worth a.d_l_worth
  B_l_worth : Binds K a.d_l_worth P_l_worth []
  g_l_worth : mg "_law_worth" = some (.ref a.f_l_worth)
  F_l_own : Fun K "_law_own" "_law_own" s_l_own a.f_l_own a.d_l_own
  B_l_own : Binds K a.d_l_own P_l_own []
  g_l_own : mg "_law_own" = some (.ref a.f_l_own)
  F_l_write : Fun K "_law_write" "_law_write" s_l_write a.f_l_write a.d_l_write
  B_l_write : Binds K a.d_l_write P_l_write []
  g_l_write : mg "_law_write" = some (.ref a.f_l_write)
  F_l_put_in : Fun K "_law_put_in" "_law_put_in" s_l_put_in a.f_l_put_in a.d_l_put_in
  B_l_put_in : Binds K a.d_l_put_in P_l_put_in []
  g_l_put_in : mg "_law_put_in" = some (.ref a.f_l_put_in)
  F_l_told : Fun K "_law_told" "_law_told" s_l_told a.f_l_told a.d_l_told
  B_l_told : Binds K a.d_l_told P_l_told []
  g_l_told : mg "_law_told" = some (.ref a.f_l_told)
  F_l_due : Fun K "_law_due" "_law_due" s_l_due a.f_l_due a.d_l_due
  B_l_due : Binds K a.d_l_due P_l_due []
  g_l_due : mg "_law_due" = some (.ref a.f_l_due)
  F_l_does : Fun K "_law_does" "_law_does" s_l_does a.f_l_does a.d_l_does
  B_l_does : Binds K a.d_l_does P_l_does []
  g_l_does : mg "_law_does" = some (.ref a.f_l_does)
  F_l_drawn : Fun K "_law_drawn" "_law_drawn" s_l_drawn a.f_l_drawn a.d_l_drawn
  B_l_drawn : Binds K a.d_l_drawn P_l_drawn []
  g_l_drawn : mg "_law_drawn" = some (.ref a.f_l_drawn)
  F_law : Fun K "law" "law" s_law a.f_law a.d_law
  B_law : Binds K a.d_law P_law []
  g_law : mg "law" = some (.ref a.f_law)
  cl_Memory : Cls K a.C_Memory
  g_Memory : mg "Memory" = some (.ref a.C_Memory)
  n_Memory__cells : NoAttr K a.C_Memory "_cells"
  n_Memory__whole_writes : NoAttr K a.C_Memory "_whole_writes"
  n_Memory__has_power : NoAttr K a.C_Memory "_has_power"
  n_Memory__ahead : NoAttr K a.C_Memory "_ahead"
  n_Memory__torn : NoAttr K a.C_Memory "_torn"
  g_Stopped : mg "Stopped" = some (.ref a.C_Stopped)
  x_Stopped : PySem.W.excIn K a.C_Stopped [.type "ValueError", .type "Exception", .type "BaseException", .type "object"] "ValueError.__new__" = true
  k_Stopped : PySem.W.keepIn K (.ref a.C_Stopped) = true
  b_Stopped : PySem.W.subIn K (.ref a.C_Stopped) (.type "BaseException") = some true
  t_Stopped : PySem.W.typeIn K (.ref a.C_Stopped) = some (.type "type")
  e_Stopped : PySem.W.exmOne K (.ref a.C_Stopped) (.ref a.C_Stopped) = some true
  b_bool : mg "bool" = none
  b_enumerate : mg "enumerate" = none
  b_int : mg "int" = none
  b_isinstance : mg "isinstance" = none
  b_len : mg "len" = none
  b_list : mg "list" = none
  b_min : mg "min" = none
  b_range : mg "range" = none
  b_str : mg "str" = none
  b_tuple : mg "tuple" = none
  c_GREATEST_WORTH : mg "GREATEST_WORTH" = some (.int 9972 a.t_GREATEST_WORTH)
  c_LATEST_CUT : mg "LATEST_CUT" = some (.int 100000 a.t_LATEST_CUT)
  c_MOST_CELLS : mg "MOST_CELLS" = some (.int 400 a.t_MOST_CELLS)
  c_TORN : mg "TORN" = some (.ref a.t_TORN)
  w_TORN : ∀ H : Hp, SqT K H a.t_TORN [.str "old", .str "broken", .str "new"]
section
variable {P : Program} {w : World} {K : PySem.W.Frag} {mg : Str → Option Value} {base : Heap}
theorem G_l_taken {a : Ad} (T : Top K mg a) : FnOk P w K mg base CX0 1 a.f_l_taken a.d_l_taken P_l_taken (Dw.spTaken K) := by
  refine T.F_l_taken.ok sc_l_taken (fun vs H Q E h => ?_) (fun cdv A outer s H vs Q E hr h => ?_)
  · obtain ⟨_, _, _, _, _, rfl, _⟩ := h
    rfl
  · obtain ⟨H0, ns, sa, r, m, rfl, D, hm0, hm1, q⟩ := h
    obtain ⟨p, u, z, hR, hp, hu0, hu1⟩ := D.row
    have sR : SqL K H r [.ref sa, .int p, .int u, .int z] := Dw.sq_of hR
    refine ⟨_, (pss_cons (ps_if (pt_cmpR op_gt (pe_ix ix_list (pv 0) pe_int (fun _ _ => rfl)) pe_int (nomark _))
        (pss_cons (ps_set (i := 2) sc_l_taken.nd rfl (Or.inl rfl) (pe_op op_mod (pe_ix ix_list (pv 0) pe_int (fun _ _ => rfl)) (pv 1)))
      (pss_cons (ps_asg (pe_op op_fdiv (pe_ix ix_list (pv 0) pe_int (fun _ _ => rfl)) (pv 1)) (pg_sub (pv 0) pe_int set_list))
      (pss_one (ps_ret (pv 2)))))
        pss_nil)
      (pss_cons (ps_asg (pe_op op_add (pe_ix ix_list (pv 0) pe_int (fun _ _ => rfl)) pe_int) (pg_sub (pv 0) pe_int set_list))
      (pss_cons (ps_if (pt_cmpR op_gt (pe_ix ix_list (pv 0) pe_int (fun _ _ => rfl)) (pe_callB call_len_seq (by rfl) T.b_len PySem.boot_len (pa_cons (pe_ix ix_list (pv 0) pe_int (fun _ _ => rfl)) pa_nil)) (nomark _))
        (pss_cons (ps_asg (pe_op op_mod (pe_op op_add (pe_op op_mul (pe_ix ix_list (pv 0) pe_int (fun _ _ => rfl)) pe_int) pe_int) pe_int) (pg_sub (pv 0) pe_int set_list))
      (pss_one (ps_ret (pe_op op_mod (pe_op op_fdiv (pe_ix ix_list (pv 0) pe_int (fun _ _ => rfl)) pe_int) (pv 1)))))
        pss_nil)
      (pss_cons (ps_set (i := 3) sc_l_taken.nd rfl (Or.inl rfl) (pe_ix ix_list (pe_ix ix_list (pv 0) pe_int (fun _ _ => rfl)) (pe_op op_sub (pe_ix ix_list (pv 0) pe_int (fun _ _ => rfl)) pe_int) (fun _ _ => rfl)))
      (pss_cons (ps_asg (pe_op op_mod (pe_op op_add (pe_op op_add (pe_op op_mul (pe_ix ix_list (pv 0) pe_int (fun _ _ => rfl)) pe_int) (pv 3)) pe_int) pe_int) (pg_sub (pv 0) pe_int set_list))
      (pss_cons (ps_if (pt_cmpR op_ge (pv 3) (pe_op op_pow pe_int pe_int) (nomark _))
        (pss_one (ps_asg (pe_op op_fdiv (pv 3) (pv 1)) (pg_sub (pv 0) pe_int set_list)))
        pss_nil)
      (pss_one (ps_ret (pe_op op_mod (pv 3) (pv 1)))))))))), ?_⟩
    refine ⟨.ref r, rfl, r, _, 3, .int z, rfl, rfl, sR, atI_nat (j := 3) rfl, z, 0, rfl, rfl, _, rfl, ite2 (fun hz => ?_) (fun hz => ?_)⟩
    · refine ⟨.ref r, rfl, r, _, 3, .int z, rfl, rfl, sR, atI_nat (j := 3) rfl, .int m, rfl, z, m, rfl, rfl, hm0, ?_⟩
      refine ⟨.ref r, rfl, r, _, 3, .int z, rfl, rfl, sR, atI_nat (j := 3) rfl, .int m, rfl, z, m, rfl, rfl, ⟨hm0, hm1⟩, .ref r, rfl, r, _, 3, 3, rfl, rfl, hR, rfl, ?_⟩
      exact ⟨_, rfl, q (z % m) _ (D.put (p := p) (q := u) (z := z / m) hp hu0 hu1) Dw.Keep.put (Int.emod_nonneg _ (by omega)) (Int.emod_lt_of_pos _ hm0)⟩
    · -- the next cell
      refine ⟨.ref r, rfl, r, _, 1, .int p, rfl, rfl, sR, atI_nat (j := 1) rfl, p, 1, rfl, rfl, .ref r, rfl, r, _, 1, 1, rfl, rfl, hR, rfl, ?_⟩
      have D1 : Dw.Dr K H0 ns sa r (upd H r (.lst [.ref sa, .int (p + 1), .int u, .int z])) := D.put (by omega) hu0 hu1
      have sR1 : SqL K (upd H r (.lst [.ref sa, .int (p + 1), .int u, .int z])) r [.ref sa, .int (p + 1), .int u, .int z] := Dw.sq_of upd_same
      have hA : SqL K (upd H r (.lst [.ref sa, .int (p + 1), .int u, .int z])) sa (ns.map V.int) := D1.seq
      refine ⟨.ref r, rfl, r, _, 1, .int (p + 1), rfl, rfl, sR1, atI_nat (j := 1) rfl, .ref r, rfl, r, _, 0, .ref sa, rfl, rfl, sR1, atI_nat (j := 0) rfl, sa, _, rfl, .inl hA, p + 1, _, rfl, rfl, _, rfl, ite2 (fun hl => ?_) (fun hl => ?_)⟩
      · refine ⟨.ref r, rfl, r, _, 2, .int u, rfl, rfl, sR1, atI_nat (j := 2) rfl, u, 48271, rfl, rfl, .inr ⟨by decide, by decide⟩, u * 48271, 11, rfl, rfl, _, 2147483647, rfl, rfl, (by show (0 : Int) < 2147483647; decide), .ref r, rfl, r, _, 2, 2, rfl, rfl, upd_same, rfl, ?_⟩
        have D2 : Dw.Dr K H0 ns sa r (upd (upd H r (.lst [.ref sa, .int (p + 1), .int u, .int z])) r (.lst [.ref sa, .int (p + 1), .int ((u * 48271 + 11) % 2147483647), .int z])) := D1.put (by omega) (by omega) (by omega)
        refine ⟨.ref r, rfl, r, _, 2, .int ((u * 48271 + 11) % 2147483647), rfl, rfl, Dw.sq_of upd_same, atI_nat (j := 2) rfl, _, 7, rfl, rfl, ⟨by decide, by decide⟩, .int m, rfl, _, m, rfl, rfl, hm0, ?_⟩
        exact q _ _ D2 (Dw.Keep.put.trans Dw.Keep.put) (Int.emod_nonneg _ (by omega)) (Int.emod_lt_of_pos _ hm0)
      · have hlt : p < (ns.length : Int) := by
          have h1 := of_decide_eq_false (Bool.eq_false_iff.mpr hl)
          rw [List.length_map] at h1
          omega
        obtain ⟨c, hc⟩ : ∃ c, ns[p.toNat]? = some c := ⟨_, List.getElem?_eq_getElem (show p.toNat < ns.length by omega)⟩
        have hat : atI (ns.map V.int) (p + 1 - 1) = some (.int c) := at_of (j := p.toNat) (by omega) (by rw [List.getElem?_map, hc]; rfl)
        refine ⟨.ref r, rfl, r, _, 0, .ref sa, rfl, rfl, sR1, atI_nat (j := 0) rfl, .ref r, rfl, r, _, 1, .int (p + 1), rfl, rfl, sR1, atI_nat (j := 1) rfl, p + 1, 1, rfl, rfl, sa, _, _, _, rfl, rfl, hA, hat, ?_⟩
        refine ⟨.ref r, rfl, r, _, 2, .int u, rfl, rfl, sR1, atI_nat (j := 2) rfl, u, 48271, rfl, rfl, .inr ⟨by decide, by decide⟩, .int c, rfl, u * 48271, c, rfl, rfl, _, 11, rfl, rfl, _, 2147483647, rfl, rfl, (by show (0 : Int) < 2147483647; decide), .ref r, rfl, r, _, 2, 2, rfl, rfl, upd_same, rfl, ?_⟩
        have D2 : Dw.Dr K H0 ns sa r (upd (upd H r (.lst [.ref sa, .int (p + 1), .int u, .int z])) r (.lst [.ref sa, .int (p + 1), .int ((u * 48271 + c + 11) % 2147483647), .int z])) := D1.put (by omega) (by omega) (by omega)
        refine ⟨.int c, rfl, 10, 18, rfl, rfl, ⟨by decide, by decide, by decide⟩, c, _, rfl, rfl, _, rfl, ite2 (fun hg => ?_) (fun hg => ?_)⟩
        · refine ⟨.int c, rfl, .int m, rfl, c, m, rfl, rfl, ⟨hm0, hm1⟩, .ref r, rfl, r, _, 3, 3, rfl, rfl, upd_same, rfl, ?_⟩
          have D3 := D2.put (p := p + 1) (q := (u * 48271 + c + 11) % 2147483647) (z := c / m) (by omega) (by omega) (by omega)
          exact ⟨.int c, rfl, .int m, rfl, c, m, rfl, rfl, hm0, q _ _ D3 ((Dw.Keep.put.trans Dw.Keep.put).trans Dw.Keep.put) (Int.emod_nonneg _ (by omega)) (Int.emod_lt_of_pos _ hm0)⟩
        · exact ⟨.int c, rfl, .int m, rfl, c, m, rfl, rfl, hm0, q _ _ D2 (Dw.Keep.put.trans Dw.Keep.put) (Int.emod_nonneg _ (by omega)) (Int.emod_lt_of_pos _ hm0)⟩
theorem G_l_worth {a : Ad} (T : Top K mg a) : FnOk P w K mg base CX0 2 a.f_l_worth a.d_l_worth P_l_worth (Dw.spDraw 9973 K) := by
  refine T.F_l_worth.ok sc_l_worth (fun vs H Q E h => ?_) (fun cdv A outer s H vs Q E hr h => ?_)
  · obtain ⟨_, _, _, _, rfl, _⟩ := h
    rfl
  · obtain ⟨H0, ns, sa, r, rfl, D, q⟩ := h
    refine ⟨_, (pss_one (ps_ret (pe_call (G_l_taken T) (hr.mono (by omega)) (by rfl) T.g_l_taken T.F_l_taken.kp T.B_l_taken .nil pass0 (pa_cons (pv 0) (pa_cons (pe_ix ix_list (pe_lst (pa_cons pe_int (pa_cons pe_int (pa_cons pe_int pa_nil)))) (pe_call (G_l_taken T) (hr.mono (by omega)) (by rfl) T.g_l_taken T.F_l_taken.kp T.B_l_taken .nil pass0 (pa_cons (pv 0) (pa_cons pe_int pa_nil))) (fun _ _ => rfl)) pa_nil))))), ?_⟩
    refine ⟨.ref r, rfl, Dw.sz_ rfl, fun l hl => ?_⟩
    have nl : l ≠ r := D.ne hl
    refine ⟨.ref r, rfl, H0, ns, sa, r, 3, rfl, D.new hl, by decide, by decide, fun v H1 D1 k1 v0 v1 => ?_⟩
    have hL : H1 l = some (.lst [.int 4, .int 100, .int 9973]) := k1 _ _ nl upd_same
    have hat : ∃ m : Int, atI [V.int 4, V.int 100, V.int 9973] v = some (.int m) ∧ 0 < m ∧ m ≤ 9973 := by
      have e : v = 0 ∨ v = 1 ∨ v = 2 := by omega
      rcases e with rfl | rfl | rfl
      · exact ⟨4, rfl, by decide, by decide⟩
      · exact ⟨100, rfl, by decide, by decide⟩
      · exact ⟨9973, rfl, by decide, by decide⟩
    obtain ⟨m, hat, m0, m1⟩ := hat
    refine ⟨l, _, v, _, rfl, rfl, Dw.sq_of hL, hat, H0, ns, sa, r, m, rfl, D1, m0, by omega, fun u H2 D2 k2 u0 u1 => ?_⟩
    exact q u H2 D2 (((Dw.Keep.same (Dw.same_upd hl)).trans k1).trans k2) u0 (by omega)

theorem ok_l_alike {a : Ad} (T : Top K mg a) {n : Nat} (ih : FnOk P w K mg base CX0 n a.f_l_alike a.d_l_alike P_l_alike (Dw.spAlike n)) : FnOk P w K mg base CX0 (n + 1) a.f_l_alike a.d_l_alike P_l_alike (Dw.spAlike (n + 1)) := by
  refine T.F_l_alike.ok sc_l_alike (fun vs H Q E h => ?_) (fun cdv A outer s H vs Q E hr h => ?_)
  · obtain ⟨_, _, _, rfl, _⟩ := h
    rfl
  · obtain ⟨x, y, d, rfl, hx, hy, hn, q⟩ := h
    refine ⟨_, (pss_cons (ps_if (PW.pt (pw_or (pt_val (pe_callB call_isi (by rfl) T.b_isinstance (by decide +kernel) (pa_cons (pv 1) (pa_cons (pe_bltn (v := .ty "tuple") (by rfl) T.b_tuple (by decide +kernel) rfl) pa_nil)))) (pw_or1 (pt_val (pe_callB call_isi (by rfl) T.b_isinstance (by decide +kernel) (pa_cons (pv 1) (pa_cons (pe_bltn (v := .ty "list") (by rfl) T.b_list (by decide +kernel) rfl) pa_nil)))))))
        (pss_cons (ps_if (PW.pt (pw_or (pt_cmpR op_ne (pe_callB call_isi (by rfl) T.b_isinstance (by decide +kernel) (pa_cons (pv 0) (pa_cons (pe_bltn (v := .ty "tuple") (by rfl) T.b_tuple (by decide +kernel) rfl) pa_nil))) (pe_callB call_isi (by rfl) T.b_isinstance (by decide +kernel) (pa_cons (pv 1) (pa_cons (pe_bltn (v := .ty "tuple") (by rfl) T.b_tuple (by decide +kernel) rfl) pa_nil))) (nomark _)) (pw_or1 (pt_not (pt_val (pe_callB call_isiT (by rfl) T.b_isinstance (by decide +kernel) (pa_cons (pv 0) (pa_cons (pe_tup (pa_cons (pe_bltn (v := .ty "tuple") (by rfl) T.b_tuple (by decide +kernel) rfl) (pa_cons (pe_bltn (v := .ty "list") (by rfl) T.b_list (by decide +kernel) rfl) pa_nil))) pa_nil))))))))
        (pss_one (ps_ret pe_bl))
        pss_nil)
      (pss_cons (ps_if (pt_cmpR op_ne (pe_callB call_len_seq (by rfl) T.b_len PySem.boot_len (pa_cons (pv 0) pa_nil)) (pe_callB call_len_seq (by rfl) T.b_len PySem.boot_len (pa_cons (pv 1) pa_nil)) (nomark _))
        (pss_one (ps_ret pe_bl))
        pss_nil)
      (pss_one (ps_ret (pe_cmpR (op_eqD hr.units) (pe_lc (own := [(("_law_k" : Str), 2)]) (g := (gName 2)) (by rfl) sc_l_alike.nd (pi_range1 (by rfl) T.b_range (pa_cons (pe_callB call_len_seq (by rfl) T.b_len PySem.boot_len (pa_cons (pv 1) pa_nil)) pa_nil)) (blkOk_by (own := [(("_law_k" : Str), 2)]) (N := N_l_alike) (sc := defScope s_l_alike) (by decide +kernel)) (fun _ _ _ _ _ => (pg_name (i := 2) sc_l_alike.nd rfl (Or.inl rfl))) (fun _ _ _ _ _ => (pts_one (pt_not (pt_val (pe_call ((fun _ => ih) T) (hr.mono (by omega)) (by rfl) T.g_l_alike T.F_l_alike.kp T.B_l_alike .nil pass0 (pa_cons (pe_ix (Dw.ix_seqK (K := K) rfl) (pv 0) (pv 2) (fun _ _ => rfl)) (pa_cons (pe_ix (Dw.ix_seqK (K := K) rfl) (pv 1) (pv 2) (fun _ _ => rfl)) pa_nil))))))) (fun _ _ _ _ _ => (pv 2))) (pe_lst pa_nil) (nomark _))))))
        pss_nil)
      (pss_cons (ps_if (PW.pt (pw_or (pt_cmpR op_isN (pv 1) pe_non (nomark _)) (pw_or1 (pt_cmpR op_isN (pv 0) pe_non (nomark _)))))
        (pss_one (ps_ret (pe_and (pe_cmpR op_isN (pv 1) pe_non (nomark _)) (pe_one (pe_cmpR op_isN (pv 0) pe_non (nomark _))))))
        pss_nil)
      (pss_cons (ps_if (PW.pt (pw_or (pt_val (pe_callB call_isi (by rfl) T.b_isinstance (by decide +kernel) (pa_cons (pv 1) (pa_cons (pe_bltn (v := .ty "bool") (by rfl) T.b_bool (by decide +kernel) rfl) pa_nil)))) (pw_or1 (pt_val (pe_callB call_isi (by rfl) T.b_isinstance (by decide +kernel) (pa_cons (pv 0) (pa_cons (pe_bltn (v := .ty "bool") (by rfl) T.b_bool (by decide +kernel) rfl) pa_nil)))))))
        (pss_one (ps_ret (pe_and (pe_callB call_isi (by rfl) T.b_isinstance (by decide +kernel) (pa_cons (pv 1) (pa_cons (pe_bltn (v := .ty "bool") (by rfl) T.b_bool (by decide +kernel) rfl) pa_nil))) (pe_and (pe_callB call_isi (by rfl) T.b_isinstance (by decide +kernel) (pa_cons (pv 0) (pa_cons (pe_bltn (v := .ty "bool") (by rfl) T.b_bool (by decide +kernel) rfl) pa_nil))) (pe_one (pe_cmpR op_eq (pv 0) (pv 1) (nomark _)))))))
        pss_nil)
      (pss_cons (ps_if (pt_val (pe_callB call_isi (by rfl) T.b_isinstance (by decide +kernel) (pa_cons (pv 1) (pa_cons (pe_bltn (v := .ty "str") (by rfl) T.b_str (by decide +kernel) rfl) pa_nil))))
        (pss_one (ps_ret (pe_and (pe_callB call_isi (by rfl) T.b_isinstance (by decide +kernel) (pa_cons (pv 0) (pa_cons (pe_bltn (v := .ty "str") (by rfl) T.b_str (by decide +kernel) rfl) pa_nil))) (pe_one (pe_cmpR op_eq (pv 0) (pv 1) (nomark _))))))
        pss_nil)
      (pss_one (ps_ret (pe_and (pe_callB call_isi (by rfl) T.b_isinstance (by decide +kernel) (pa_cons (pv 0) (pa_cons (pe_bltn (v := .ty "int") (by rfl) T.b_int (by decide +kernel) rfl) pa_nil))) (pe_one (pe_cmpR op_eq (pv 0) (pv 1) (nomark _)))))))))), ?_⟩
    cases hy with
    | non =>
      cases hx
      refine ⟨_, rfl, _, _, _, _, false, rfl, .ty _, .base .non, kit_ty Dw.ty_nt, false, rfl, ?_⟩
      refine ⟨_, rfl, _, _, _, _, false, rfl, .ty _, .base .non, kit_ty Dw.ty_nl, false, rfl, ?_⟩
      exact ⟨_, rfl, rfl, true, rfl, _, rfl, rfl, true, rfl, _, rfl, rfl, q H (Same.refl H)⟩
    | bl b =>
      cases hx
      refine ⟨_, rfl, _, _, _, _, false, rfl, .ty _, .base (.bl b), kit_ty Dw.ty_bt, false, rfl, ?_⟩
      refine ⟨_, rfl, _, _, _, _, false, rfl, .ty _, .base (.bl b), kit_ty Dw.ty_bl, false, rfl, ?_⟩
      refine ⟨_, rfl, rfl, false, rfl, _, rfl, rfl, false, rfl, ?_⟩
      refine ⟨_, rfl, _, _, _, _, true, rfl, .ty _, .base (.bl b), kit_ty Dw.ty_bb, true, rfl, ?_⟩
      refine ⟨_, rfl, _, _, _, _, true, rfl, .ty _, .base (.bl b), kit_ty Dw.ty_bb, true, rfl, ?_⟩
      refine ⟨_, rfl, _, _, _, _, true, rfl, .ty _, .base (.bl b), kit_ty Dw.ty_bb, true, rfl, ?_⟩
      refine ⟨_, rfl, _, rfl, rfl, ?_⟩
      rw [decide_eq_true rfl]
      exact q H (Same.refl H)
    | int i =>
      cases hx
      refine ⟨_, rfl, _, _, _, _, false, rfl, .ty _, .base (.int i), kit_ty Dw.ty_it, false, rfl, ?_⟩
      refine ⟨_, rfl, _, _, _, _, false, rfl, .ty _, .base (.int i), kit_ty Dw.ty_il, false, rfl, ?_⟩
      refine ⟨_, rfl, rfl, false, rfl, _, rfl, rfl, false, rfl, ?_⟩
      refine ⟨_, rfl, _, _, _, _, false, rfl, .ty _, .base (.int i), kit_ty Dw.ty_ib, false, rfl, ?_⟩
      refine ⟨_, rfl, _, _, _, _, false, rfl, .ty _, .base (.int i), kit_ty Dw.ty_ib, false, rfl, ?_⟩
      refine ⟨_, rfl, _, _, _, _, false, rfl, .ty _, .base (.int i), kit_ty Dw.ty_is, false, rfl, ?_⟩
      refine ⟨_, rfl, _, _, _, _, true, rfl, .ty _, .base (.int i), kit_ty Dw.ty_ii, true, rfl, ?_⟩
      refine ⟨_, rfl, _, rfl, rfl, ?_⟩
      rw [decide_eq_true rfl]
      exact q H (Same.refl H)
    | str z =>
      cases hx
      refine ⟨_, rfl, _, _, _, _, false, rfl, .ty _, .base (.str z), kit_ty Dw.ty_st, false, rfl, ?_⟩
      refine ⟨_, rfl, _, _, _, _, false, rfl, .ty _, .base (.str z), kit_ty Dw.ty_sl, false, rfl, ?_⟩
      refine ⟨_, rfl, rfl, false, rfl, _, rfl, rfl, false, rfl, ?_⟩
      refine ⟨_, rfl, _, _, _, _, false, rfl, .ty _, .base (.str z), kit_ty Dw.ty_sb, false, rfl, ?_⟩
      refine ⟨_, rfl, _, _, _, _, false, rfl, .ty _, .base (.str z), kit_ty Dw.ty_sb, false, rfl, ?_⟩
      refine ⟨_, rfl, _, _, _, _, true, rfl, .ty _, .base (.str z), kit_ty Dw.ty_ss, true, rfl, ?_⟩
      refine ⟨_, rfl, _, _, _, _, true, rfl, .ty _, .base (.str z), kit_ty Dw.ty_ss, true, rfl, ?_⟩
      refine ⟨_, rfl, _, rfl, rfl, ?_⟩
      rw [decide_eq_true rfl]
      exact q H (Same.refl H)
    | @lst b ys ds hb lb tb =>
      cases hx with
      | @lst c xs _ hc lc tc =>
      refine ⟨_, rfl, _, _, _, _, false, rfl, .ty _, .base (.lst hb), kit_ty Dw.ty_lt, false, rfl, ?_⟩
      refine ⟨_, rfl, _, _, _, _, true, rfl, .ty _, .base (.lst hb), kit_ty Dw.ty_ll, true, rfl, ?_⟩
      refine ⟨_, rfl, _, _, _, _, false, rfl, .ty _, .base (.lst hc), kit_ty Dw.ty_lt, _, rfl, _, _, _, _, false, rfl, .ty _, .base (.lst hb), kit_ty Dw.ty_lt, rfl, false, rfl, ?_⟩
      refine ⟨_, rfl, Dw.sz_ rfl, fun u hu => ?_⟩
      have su : Same H (upd H u (.tup [.ty "tuple", .ty "list"])) := Dw.same_upd hu
      refine ⟨_, u, [.ty "tuple", .ty "list"], _, [.type "tuple", .type "list"], true, rfl, upd_same, .cons (.ty _) (.cons (.ty _) .nil), .base (.lst (su _ _ hc)), Dw.any_l, true, rfl, ?_⟩
      refine ⟨_, rfl, c, xs, rfl, .inl (Dw.sq_of (su _ _ hc)), _, rfl, b, ys, rfl, .inl (Dw.sq_of (su _ _ hb)), rfl, _, rfl, iteNS (c := V.int xs.length = V.int ys.length) (by rw [tc.len, tb.len]) ?_⟩
      refine ⟨_, rfl, b, ys, rfl, .inl (Dw.sq_of (su _ _ hb)), _, rfl, by omega, by omega, fun e he => lc_range (lo := 0) (n := ys.length) (fun i H' => Same (upd H u (.tup [.ty "tuple", .ty "list"])) H' ∧ H' e = some (.lst [])) ⟨Dw.same_upd he, upd_same⟩ ?_ ?_⟩
      · rintro i H1 hi ⟨s1, e1⟩
        have lds : i < ds.length := by rw [← tb.len]; exact hi
        have hd := List.getElem?_eq_getElem lds
        obtain ⟨v, gv, tv⟩ := tc.at hd
        obtain ⟨v', gv', tv'⟩ := tb.at hd
        have S := su.trans s1
        refine ⟨rfl, _, rfl, _, rfl, .inl ⟨c, xs, i, v, rfl, by rw [Int.zero_add], Dw.sq_of (S _ _ hc), atI_nat gv, ?_⟩⟩
        refine ⟨_, rfl, _, rfl, .inl ⟨b, ys, i, v', rfl, by rw [Int.zero_add], Dw.sq_of (S _ _ hb), atI_nat gv', ?_⟩⟩
        refine ⟨v, v', _, rfl, tv.mono S, tv'.mono S, ?_, fun H2 s2 => ⟨true, rfl, s1.trans s2, s2 _ _ e1⟩⟩
        have h1 := Dw.depth_at hd
        rw [PyData.depth] at hn
        omega
      · rintro H1 ⟨s1, e1⟩
        refine ⟨Dw.sz_ rfl, fun z hz => ?_⟩
        refine ⟨_, _, Dw.dp_l (xs := []) (Dw.sq_of (Dw.same_upd hz _ _ e1)) (fun v h => by cases h), Dw.dp_l (xs := []) (Dw.sq_of upd_same) (fun v h => by cases h), rfl, rfl, ?_⟩
        exact q _ ((su.trans s1).trans (Dw.same_upd hz))
    | @tup b ys ds hb lb tb =>
      cases hx with
      | @tup c xs _ hc lc tc =>
      refine ⟨_, rfl, _, _, _, _, true, rfl, .ty _, .base (.tup hb), kit_ty Dw.ty_tt, true, rfl, ?_⟩
      refine ⟨_, rfl, _, _, _, _, true, rfl, .ty _, .base (.tup hc), kit_ty Dw.ty_tt, _, rfl, _, _, _, _, true, rfl, .ty _, .base (.tup hb), kit_ty Dw.ty_tt, rfl, false, rfl, ?_⟩
      refine ⟨_, rfl, Dw.sz_ rfl, fun u hu => ?_⟩
      have su : Same H (upd H u (.tup [.ty "tuple", .ty "list"])) := Dw.same_upd hu
      refine ⟨_, u, [.ty "tuple", .ty "list"], _, [.type "tuple", .type "list"], true, rfl, upd_same, .cons (.ty _) (.cons (.ty _) .nil), .base (.tup (su _ _ hc)), Dw.any_t, true, rfl, ?_⟩
      refine ⟨_, rfl, c, xs, rfl, .inr (Dw.st_of (su _ _ hc)), _, rfl, b, ys, rfl, .inr (Dw.st_of (su _ _ hb)), rfl, _, rfl, iteNS (c := V.int xs.length = V.int ys.length) (by rw [tc.len, tb.len]) ?_⟩
      refine ⟨_, rfl, b, ys, rfl, .inr (Dw.st_of (su _ _ hb)), _, rfl, by omega, by omega, fun e he => lc_range (lo := 0) (n := ys.length) (fun i H' => Same (upd H u (.tup [.ty "tuple", .ty "list"])) H' ∧ H' e = some (.lst [])) ⟨Dw.same_upd he, upd_same⟩ ?_ ?_⟩
      · rintro i H1 hi ⟨s1, e1⟩
        have lds : i < ds.length := by rw [← tb.len]; exact hi
        have hd := List.getElem?_eq_getElem lds
        obtain ⟨v, gv, tv⟩ := tc.at hd
        obtain ⟨v', gv', tv'⟩ := tb.at hd
        have S := su.trans s1
        refine ⟨rfl, _, rfl, _, rfl, .inr (.inl ⟨c, xs, i, v, rfl, by rw [Int.zero_add], Dw.st_of (S _ _ hc), atI_nat gv, ?_⟩)⟩
        refine ⟨_, rfl, _, rfl, .inr (.inl ⟨b, ys, i, v', rfl, by rw [Int.zero_add], Dw.st_of (S _ _ hb), atI_nat gv', ?_⟩)⟩
        refine ⟨v, v', _, rfl, tv.mono S, tv'.mono S, ?_, fun H2 s2 => ⟨true, rfl, s1.trans s2, s2 _ _ e1⟩⟩
        have h1 := Dw.depth_at hd
        rw [PyData.depth] at hn
        omega
      · rintro H1 ⟨s1, e1⟩
        refine ⟨Dw.sz_ rfl, fun z hz => ?_⟩
        refine ⟨_, _, Dw.dp_l (xs := []) (Dw.sq_of (Dw.same_upd hz _ _ e1)) (fun v h => by cases h), Dw.dp_l (xs := []) (Dw.sq_of upd_same) (fun v h => by cases h), rfl, rfl, ?_⟩
        exact q _ ((su.trans s1).trans (Dw.same_upd hz))
theorem G_l_alike_n {a : Ad} (T : Top K mg a) : ∀ n : Nat, FnOk P w K mg base CX0 n a.f_l_alike a.d_l_alike P_l_alike (Dw.spAlike n)
  | 0 => Dw.alike_zero
  | n + 1 => ok_l_alike T (G_l_alike_n T n)
/-- data of depth four at most -/
theorem G_l_alike {a : Ad} (T : Top K mg a) : FnOk P w K mg base CX0 5 a.f_l_alike a.d_l_alike P_l_alike (Dw.spAlike 5) := G_l_alike_n T 5

theorem G_check_worth {a : Ad} (T : Top K mg a) : FnOk P w K mg base CX0 1 a.f_check_worth a.d_check_worth P_check_worth Mm.spWorth := by
  refine T.F_check_worth.ok sc_check_worth (fun vs H Q E h => ?_) (fun cdv A outer s H vs Q E hr h => ?_)
  · obtain ⟨_, rfl, _⟩ := h
    rfl
  · obtain ⟨v, rfl, v0, v1, q⟩ := h
    refine ⟨_, (pss_one (ps_if (pt_not (pt_chain op_le op_le pe_int (pv 0) (pe_glob (v := .int 9972) rfl T.c_GREATEST_WORTH ⟨_, rfl⟩)))
        (pss_one ps_never)
        pss_nil)), ?_⟩
    refine ⟨_, rfl, 0, v, rfl, rfl, _, rfl, ite2 (fun _ => ?_) (fun e => absurd (decide_eq_true v0) e)⟩
    exact ⟨v, 9972, rfl, rfl, _, rfl, iteNS v1 q⟩
theorem G_Memory__check_place {a : Ad} (T : Top K mg a) : FnOk P w K mg base CX0 1 a.f_Memory__check_place a.d_Memory__check_place P_Memory__check_place (Mm.spPlace a.C_Memory) := by
  refine T.F_Memory__check_place.ok sc_Memory__check_place (fun vs H Q E h => ?_) (fun cdv A outer s H vs Q E hr h => ?_)
  · obtain ⟨_, _, _, _, rfl, _⟩ := h
    rfl
  · obtain ⟨p, l, m, j, rfl, M, hj, q⟩ := h
    obtain ⟨dx, ah, hp, _⟩ := M.ob
    refine ⟨_, (pss_one (ps_if (pt_not (pt_chain op_le op_lt pe_int (pv 1) (pe_callB call_len_seq (by rfl) T.b_len PySem.boot_len (pa_cons (pe_fld (pv 0) rfl) pa_nil))))
        (pss_one ps_never)
        pss_nil)), ?_⟩
    refine ⟨_, rfl, 0, (j : Int), rfl, rfl, _, rfl, ite2 (fun _ => ?_) (fun e => absurd (decide_eq_true (by omega)) e)⟩
    refine ⟨.ref p, rfl, p, _, dx, _, _, rfl, hp, T.cl_Memory, T.n_Memory__cells, Mm.mf_cells, l, _, rfl, .inl (Dw.sq_of M.ls), (j : Int), _, rfl, rfl, _, rfl, iteNS (by omega) q⟩
theorem G_Memory__check_power {a : Ad} (T : Top K mg a) : FnOk P w K mg base (L2.CX P w) 1 a.f_Memory__check_power a.d_Memory__check_power P_Memory__check_power (Mm.spPower a.C_Memory a.C_Stopped) := by
  refine T.F_Memory__check_power.okX sc_Memory__check_power (fun vs H Q E h => ?_) (fun cdv A outer s H vs Q E hr h => ?_)
  · obtain ⟨_, _, _, rfl, _⟩ := h
    rfl
  · obtain ⟨p, l, m, rfl, M, q1, q0⟩ := h
    obtain ⟨dx, ah, hp, _⟩ := M.ob
    refine ⟨_, (pss_one (ps_if (pt_not (pt_val (pe_fld (pv 0) rfl)))
        (pss_one (ps_raise rfl (takes_of rfl rfl rfl rfl) (pmk_own PySem.F.excBase_ValueError T.x_Stopped T.g_Stopped T.k_Stopped (raises_own T.b_Stopped T.t_Stopped) (by exact rfl))))
        pss_nil)), ?_⟩
    refine ⟨.ref p, rfl, p, _, dx, _, _, rfl, hp, T.cl_Memory, T.n_Memory__has_power, Mm.mf_up, m.up, rfl, ?_⟩
    cases hu : m.up with
    | true => exact q1 hu
    | false => exact q0 hu
theorem G_Memory__lose_power {a : Ad} (T : Top K mg a) : FnOk P w K mg base (L2.CX P w) 1 a.f_Memory__lose_power a.d_Memory__lose_power P_Memory__lose_power (Mm.spLose a.C_Memory a.C_Stopped) := by
  refine T.F_Memory__lose_power.okX sc_Memory__lose_power (fun vs H Q E h => ?_) (fun cdv A outer s H vs Q E hr h => ?_)
  · obtain ⟨_, _, _, _, _, rfl, _⟩ := h
    rfl
  · obtain ⟨p, l, m, j, v, rfl, M, hj, q⟩ := h
    obtain ⟨dx, ah, hp, _⟩ := M.ob
    have nlp := M.ne
    refine ⟨_, (pss_cons (ps_fld (pv 0) pe_bl rfl)
      (C8.pss_cut (ps_if (pt_cmpR op_eq (pe_fld (pv 0) rfl) pe_str (nomark _))
        (pss_one (ps_asg pe_non (pg_sub (pe_fld (pv 0) rfl) (pv 1) set_list)))
        (pss_one (ps_if (pt_cmpR op_eq (pe_fld (pv 0) rfl) pe_str (nomark _))
        (pss_one (ps_asg (pv 2) (pg_sub (pe_fld (pv 0) rfl) (pv 1) set_list)))
        pss_nil)))
      (pss_one (ps_raise rfl (takes_of rfl rfl rfl rfl) (pmk_own PySem.F.excBase_ValueError T.x_Stopped T.g_Stopped T.k_Stopped (raises_own T.b_Stopped T.t_Stopped) (by exact rfl)))))), ?_⟩
    refine ⟨.ref p, rfl, p, _, dx, _, rfl, hp, T.cl_Memory, T.n_Memory__has_power, Mm.mf_few, ?_⟩
    have hp1 : (upd H p (.ins a.C_Memory dx (putF "_has_power" (.bl false) (Mm.mf l m.many m.up ah m.torn)))) p = some (.ins a.C_Memory dx (Mm.mf l m.many false ah m.torn)) := by rw [upd_same, Mm.put_up]
    have hl1 : (upd H p (.ins a.C_Memory dx (putF "_has_power" (.bl false) (Mm.mf l m.many m.up ah m.torn)))) l = some (.lst m.cells) := by rw [upd_ne nlp.symm]; exact M.ls
    have k1 : Mm.But [p, l] H (upd H p (.ins a.C_Memory dx (putF "_has_power" (.bl false) (Mm.mf l m.many m.up ah m.torn)))) := Mm.But.upd List.mem_cons_self
    generalize upd H p (.ins a.C_Memory dx (putF "_has_power" (.bl false) (Mm.mf l m.many m.up ah m.torn))) = H1 at hp1 hl1 k1 ⊢
    have hix : ixN m.cells.length (j : Int) = some j := Dw.ixN_nat hj
    have fin : ∀ H2, H2 p = some (.ins a.C_Memory dx (Mm.mf l m.many false ah m.torn)) → H2 l = some (.lst (Mm.tornTo m.torn m.cells j v)) → Mm.But [p, l] H H2 → E (.ref a.C_Stopped) none H2 := fun H2 e1 e2 k => q H2 ⟨⟨dx, ah, e1, fun z => (by cases z)⟩, e2, Mm.cel_torn M.cel, by show (Mm.tornTo m.torn m.cells j v).length ≤ 400; rw [Mm.torn_len]; exact M.len⟩ k
    refine ⟨fun σ' H2 => σ' = [some (.ref p), some (.int (j : Int)), some (.int v)] ∧ H2 p = some (.ins a.C_Memory dx (Mm.mf l m.many false ah m.torn)) ∧ H2 l = some (.lst (Mm.tornTo m.torn m.cells j v)) ∧ Mm.But [p, l] H H2, ?_, fun σ' H2 ⟨_, e1, e2, k⟩ => fin H2 e1 e2 k⟩
    refine ⟨.ref p, rfl, p, _, dx, _, _, rfl, hp1, T.cl_Memory, T.n_Memory__torn, Mm.mf_torn, rfl, _, rfl, ite2 (fun e => ?_) (fun e => ?_)⟩
    · have et : m.torn = "broken" := V.str.inj (of_decide_eq_true e)
      refine ⟨.ref p, rfl, p, _, dx, _, _, rfl, hp1, T.cl_Memory, T.n_Memory__cells, Mm.mf_cells, .int (j : Int), rfl, l, _, (j : Int), j, rfl, rfl, hl1, hix, ?_⟩
      refine ⟨rfl, by rw [upd_ne nlp]; exact hp1, ?_, k1.trans (Mm.But.upd (List.mem_cons_of_mem _ List.mem_cons_self))⟩
      rw [upd_same, et]
      unfold Mm.tornTo
      rw [if_pos rfl]
    · have nt : ¬ m.torn = "broken" := fun z => e (decide_eq_true (by rw [z]))
      refine ⟨.ref p, rfl, p, _, dx, _, _, rfl, hp1, T.cl_Memory, T.n_Memory__torn, Mm.mf_torn, rfl, _, rfl, ite2 (fun e2 => ?_) (fun e2 => ?_)⟩
      · have et : m.torn = "new" := V.str.inj (of_decide_eq_true e2)
        refine ⟨.int v, rfl, .ref p, rfl, p, _, dx, _, _, rfl, hp1, T.cl_Memory, T.n_Memory__cells, Mm.mf_cells, .int (j : Int), rfl, l, _, (j : Int), j, rfl, rfl, hl1, hix, ?_⟩
        refine ⟨rfl, by rw [upd_ne nlp]; exact hp1, ?_, k1.trans (Mm.But.upd (List.mem_cons_of_mem _ List.mem_cons_self))⟩
        rw [upd_same]
        unfold Mm.tornTo
        rw [if_neg nt, if_pos et]
      · have nt2 : ¬ m.torn = "new" := fun z => e2 (decide_eq_true (by rw [z]))
        refine ⟨rfl, hp1, ?_, k1⟩
        unfold Mm.tornTo
        rw [if_neg nt, if_neg nt2]
        exact hl1
theorem G_Memory_write {a : Ad} (T : Top K mg a) : FnOk P w K mg base (L2.CX P w) 2 a.f_Memory_write a.d_Memory_write P_Memory_write (Mm.spWrite a.C_Memory a.C_Stopped) := by
  refine T.F_Memory_write.okX sc_Memory_write (fun vs H Q E h => ?_) (fun cdv A outer s H vs Q E hr h => ?_)
  · obtain ⟨_, _, _, _, _, rfl, _⟩ := h
    rfl
  · obtain ⟨p, l, m, j, v, rfl, M, hj, v0, v1, q⟩ := h
    obtain ⟨dx, ah, hp, hah⟩ := M.ob
    have nlp := M.ne
    refine ⟨_, (pss_cons (ps_expr (pe_meth (pv 0) T.cl_Memory T.m_Memory__check_place (G_Memory__check_place T) (hr.mono (by omega)) T.B_Memory__check_place .nil pass0 (pa_cons (pv 1) pa_nil)))
      (pss_cons (ps_expr (pe_call (G_check_worth T) (hr.mono (by omega)) (by rfl) T.g_check_worth T.F_check_worth.kp T.B_check_worth .nil pass0 (pa_cons (pv 2) pa_nil)))
      (pss_cons (ps_expr (pe_meth0 (pv 0) T.cl_Memory T.m_Memory__check_power (G_Memory__check_power T) (hr.mono (by omega)) T.B_Memory__check_power .nil (passes_call (takes_of rfl rfl rfl rfl) fun _ _ _ _ h => h)))
      (C8.pss_cut (ps_if (pt_cmpR op_eq (pe_fld (pv 0) rfl) pe_int (nomark _))
        (pss_one (ps_expr (pe_meth (pv 0) T.cl_Memory T.m_Memory__lose_power (G_Memory__lose_power T) (hr.mono (by omega)) T.B_Memory__lose_power .nil (passes_call (takes_of rfl rfl rfl rfl) fun _ _ _ _ h => h) (pa_cons (pv 1) (pa_cons (pv 2) pa_nil)))))
        pss_nil)
      (C8.pss_cut (ps_if (pt_cmpR op_notN (pe_fld (pv 0) rfl) pe_non (nomark _))
        (pss_one (ps_fldaug (pv 0) pe_int in_sub))
        pss_nil)
      (pss_cons (ps_asg (pv 2) (pg_sub (pe_fld (pv 0) rfl) (pv 1) set_list))
      (pss_one (ps_fldaug (pv 0) pe_int in_add)))))))), ?_⟩
    refine ⟨.ref p, rfl, p, dx, _, rfl, hp, Mm.mf_no (by decide +kernel) (by decide +kernel) (by decide +kernel) (by decide +kernel) (by decide +kernel), _, rfl, p, l, m, j, rfl, M, hj, ?_⟩
    refine ⟨_, rfl, v, rfl, v0, v1, ?_⟩
    refine ⟨.ref p, rfl, p, dx, _, rfl, hp, Mm.mf_no (by decide +kernel) (by decide +kernel) (by decide +kernel) (by decide +kernel) (by decide +kernel), p, l, m, rfl, M, fun hu => ?_, fun hu => ?_⟩
    · have ea := hah hu
      subst ea
      refine ⟨fun σ' H2 => σ' = [some (.ref p), some (.int (j : Int)), some (.int v)] ∧ H2 = H ∧ ¬ m.left = some 0, ?_, ?_⟩
      · have hsc : scal (Mm.leftV m.left) (.int 0) = true := by
          cases m.left <;> rfl
        refine ⟨.ref p, rfl, p, _, dx, _, _, rfl, hp, T.cl_Memory, T.n_Memory__ahead, Mm.mf_ahead, hsc, _, rfl, ite2 (fun e => ?_) (fun e => ?_)⟩
        · have e0 : m.left = some 0 := Mm.leftV_zero.mp (of_decide_eq_true e)
          refine ⟨.ref p, rfl, p, dx, _, rfl, hp, Mm.mf_no (by decide +kernel) (by decide +kernel) (by decide +kernel) (by decide +kernel) (by decide +kernel), _, rfl, _, rfl, p, l, m, j, v, rfl, M, hj, fun H' M' k => ?_⟩
          have qq := q H' (by rw [Mm.write_cut hu e0]; exact M') k
          exact qq.2 (by rw [Mm.write_cut hu e0])
        · exact ⟨rfl, rfl, fun z => e (decide_eq_true (Mm.leftV_zero.mpr z))⟩
      · rintro σ' H2 ⟨rfl, rfl, h0⟩
        refine ⟨fun σ' H3 => σ' = [some (.ref p), some (.int (j : Int)), some (.int v)] ∧ H3 p = some (.ins a.C_Memory dx (Mm.mf l m.many m.up (Mm.leftV (m.left.map (· - 1))) m.torn)) ∧ H3 l = some (.lst m.cells) ∧ Mm.But [p, l] H2 H3, ?_, ?_⟩
        · refine ⟨.ref p, rfl, p, _, dx, _, _, rfl, hp, T.cl_Memory, T.n_Memory__ahead, Mm.mf_ahead, rfl, _, rfl, ?_⟩
          cases hl : m.left with
          | none =>
            refine iteNS (c := V.non = V.non) rfl ⟨rfl, ?_, M.ls, Mm.But.refl _ _⟩
            rw [hl] at hp
            exact hp
          | some k =>
            have hk : k ≠ 0 := fun z => h0 (by rw [hl, z])
            rw [hl] at hp
            refine ite2 (fun _ => ?_) (fun e => absurd (by rfl) e)
            refine ⟨.ref p, rfl, p, _, dx, _, _, rfl, hp, T.cl_Memory, T.n_Memory__ahead, Mm.mf_ahead, (k : Int), 1, rfl, rfl, dx, _, hp, Mm.mf_few, ?_⟩
            refine ⟨rfl, ?_, by rw [upd_ne nlp.symm]; exact M.ls, Mm.But.upd List.mem_cons_self⟩
            rw [upd_same, Mm.put_ahead]
            have ek : (k : Int) - 1 = ((k - 1 : Nat) : Int) := by omega
            rw [ek]
            rfl
        · rintro σ' H3 ⟨rfl, hp3, hl3, k3⟩
          refine ⟨.int v, rfl, .ref p, rfl, p, _, dx, _, _, rfl, hp3, T.cl_Memory, T.n_Memory__cells, Mm.mf_cells, .int (j : Int), rfl, l, _, (j : Int), j, rfl, rfl, hl3, Dw.ixN_nat hj, ?_⟩
          have hp4 : (upd H3 l (.lst (m.cells.set j (.int v)))) p = some (.ins a.C_Memory dx (Mm.mf l m.many m.up (Mm.leftV (m.left.map (· - 1))) m.torn)) := by rw [upd_ne nlp]; exact hp3
          refine ⟨.ref p, rfl, p, _, dx, _, _, rfl, hp4, T.cl_Memory, T.n_Memory__whole_writes, Mm.mf_many, m.many, 1, rfl, rfl, dx, _, hp4, Mm.mf_few, ?_⟩
          have qq := q (upd (upd H3 l (.lst (m.cells.set j (.int v)))) p (.ins a.C_Memory dx (putF "_whole_writes" (.int (m.many + 1)) (Mm.mf l m.many m.up (Mm.leftV (m.left.map (· - 1))) m.torn)))) ?_ ?_
          · exact qq.1 (by rw [Mm.write_ok hu h0])
          · rw [Mm.write_ok hu h0]
            refine ⟨⟨dx, _, ?_, fun _ => rfl⟩, by rw [upd_ne nlp.symm, upd_same], Mm.cel_set M.cel rfl, by show (m.cells.set j _).length ≤ 400; rw [List.length_set]; exact M.len⟩
            rw [upd_same, Mm.put_many, hu]
          · exact (k3.trans (Mm.But.upd (List.mem_cons_of_mem _ List.mem_cons_self))).trans (Mm.But.upd List.mem_cons_self)
    · have qq := q H (by rw [Mm.write_down hu]; exact M) (Mm.But.refl _ _)
      exact qq.2 (by rw [Mm.write_down hu])

theorem no_attr {x : Str} {l : Addr} {n : Int} {u : Bool} {v : V} {t : Str} (h : (!(x == ("_cells" : Str)) && !(x == ("_whole_writes" : Str)) && !(x == ("_has_power" : Str)) && !(x == ("_ahead" : Str)) && !(x == ("_torn" : Str))) = true) : (Mm.mf l n u v t).lookup x = none := by
  simp only [Bool.and_eq_true, Bool.not_eq_true'] at h
  exact Mm.mf_no h.1.1.1.1 h.1.1.1.2 h.1.1.2 h.1.2 h.2
theorem G_Memory_read {a : Ad} (T : Top K mg a) : FnOk P w K mg base (L2.CX P w) 2 a.f_Memory_read a.d_Memory_read P_Memory_read (Mm.spRead a.C_Memory a.C_Stopped) := by
  refine T.F_Memory_read.okX sc_Memory_read (fun vs H Q E h => ?_) (fun cdv A outer s H vs Q E hr h => ?_)
  · obtain ⟨_, _, _, _, rfl, _⟩ := h
    rfl
  · obtain ⟨p, l, m, j, rfl, M, hj, q1, q0⟩ := h
    obtain ⟨dx, ah, hp, _⟩ := M.ob
    refine ⟨_, (pss_cons (ps_expr (pe_meth (pv 0) T.cl_Memory T.m_Memory__check_place (G_Memory__check_place T) (hr.mono (by omega)) T.B_Memory__check_place .nil pass0 (pa_cons (pv 1) pa_nil)))
      (pss_cons (ps_expr (pe_meth0 (pv 0) T.cl_Memory T.m_Memory__check_power (G_Memory__check_power T) (hr.mono (by omega)) T.B_Memory__check_power .nil (passes_call (takes_of rfl rfl rfl rfl) fun _ _ _ _ h => h)))
      (pss_one (ps_ret (pe_ix ix_list (pe_fld (pv 0) rfl) (pv 1) (fun _ _ => rfl)))))), ?_⟩
    refine ⟨.ref p, rfl, p, dx, _, rfl, hp, no_attr (by decide +kernel), _, rfl, p, l, m, j, rfl, M, hj, ?_⟩
    refine ⟨.ref p, rfl, p, dx, _, rfl, hp, no_attr (by decide +kernel), p, l, m, rfl, M, fun hu => ?_, q0⟩
    obtain ⟨v, hv, _⟩ := M.at hj
    exact ⟨.ref p, rfl, p, _, dx, _, _, rfl, hp, T.cl_Memory, T.n_Memory__cells, Mm.mf_cells, _, rfl, l, _, (j : Int), v, rfl, rfl, Dw.sq_of M.ls, atI_nat hv, q1 hu v hv⟩
theorem G_Memory_row {a : Ad} (T : Top K mg a) : FnOk P w K mg base (L2.CX P w) 2 a.f_Memory_row a.d_Memory_row P_Memory_row (Mm.spRow a.C_Memory a.C_Stopped) := by
  refine T.F_Memory_row.okX sc_Memory_row (fun vs H Q E h => ?_) (fun cdv A outer s H vs Q E hr h => ?_)
  · obtain ⟨_, _, _, _, _, rfl, _⟩ := h
    rfl
  · obtain ⟨p, l, m, j, n, rfl, M, hj, q1, q0⟩ := h
    obtain ⟨dx, ah, hp, _⟩ := M.ob
    have hlen := M.len
    refine ⟨_, (pss_cons (ps_for (passes_of rfl) rfl (pi_range2 (by rfl) T.b_range (pa_cons (pv 1) (pa_cons (pe_op op_add (pv 1) (pv 2)) pa_nil))) (pg_name (i := 3) sc_Memory_row.nd rfl (Or.inl rfl))
        (pss_one (ps_expr (pe_meth (pv 0) T.cl_Memory T.m_Memory__check_place (G_Memory__check_place T) (hr.mono (by omega)) T.B_Memory__check_place .nil pass0 (pa_cons (pv 3) pa_nil)))))
      (pss_cons (ps_expr (pe_meth0 (pv 0) T.cl_Memory T.m_Memory__check_power (G_Memory__check_power T) (hr.mono (by omega)) T.B_Memory__check_power .nil (passes_call (takes_of rfl rfl rfl rfl) fun _ _ _ _ h => h)))
      (pss_one (ps_ret (pe_lc (own := [(("at" : Str), 3)]) (g := (gName 3)) (tt := tYes) (by rfl) sc_Memory_row.nd (pi_range2 (by rfl) T.b_range (pa_cons (pv 1) (pa_cons (pe_op op_add (pv 1) (pv 2)) pa_nil))) (blkOk_by (own := [(("at" : Str), 3)]) (N := N_Memory_row) (sc := defScope s_Memory_row) (by decide +kernel)) (fun _ _ _ _ _ => (pg_name (i := 3) sc_Memory_row.nd rfl (Or.inl rfl))) (fun _ _ _ _ _ => pts_nil) (fun _ _ _ _ _ => (pe_ix (Dw.ix_listK (K := K) rfl) (Dw.pe_fldK (K := K) rfl (pv 0) rfl) (pv 3) (fun _ _ => rfl)))))))), ?_⟩
    refine ⟨_, rfl, _, rfl, _, rfl, (j : Int), (n : Int), rfl, rfl, (j : Int), (j : Int) + n, rfl, ⟨by omega, by omega, by omega, by omega⟩, for_range (lo := (j : Int)) (n := ((j : Int) + n - j).toNat) (fun i σ H' => ∃ v3, σ = [some (.ref p), some (.int (j : Int)), some (.int (n : Int)), v3] ∧ H' = H) ⟨_, rfl, rfl⟩ ?_ ?_⟩
    · rintro i σ H' hi ⟨v3, rfl, rfl⟩
      refine ⟨.ref p, rfl, p, dx, _, rfl, hp, no_attr (by decide +kernel), _, rfl, p, l, m, j + i, ?_, M, by omega, _, rfl, rfl⟩
      rw [Int.natCast_add]
      rfl
    · rintro σ H' ⟨v3, rfl, rfl⟩
      refine ⟨.ref p, rfl, p, dx, _, rfl, hp, no_attr (by decide +kernel), p, l, m, rfl, M, fun hu => ?_, q0⟩
      refine ⟨_, rfl, _, rfl, _, rfl, (j : Int), (n : Int), rfl, rfl, (j : Int), (j : Int) + n, rfl, ⟨by omega, by omega, by omega, by omega⟩, fun D hD => lc_range (lo := (j : Int)) (n := ((j : Int) + n - j).toNat) (fun i H'' => Same H' H'' ∧ H'' D = some (.lst ((m.cells.drop j).take i))) ⟨Dw.same_upd hD, upd_same⟩ ?_ ?_⟩
      · rintro i H1 hi ⟨s1, e1⟩
        obtain ⟨v, hv, _⟩ := M.at (j := j + i) (by omega)
        refine ⟨rfl, _, rfl, p, _, dx, _, _, rfl, s1 _ _ hp, T.cl_Memory, T.n_Memory__cells, Mm.mf_cells, _, rfl, l, _, (j : Int) + i, v, rfl, rfl, Dw.sq_of (s1 _ _ M.ls), at_of (j := j + i) (by omega) hv, ?_⟩
        refine ⟨_, e1, Dw.size_lt (by rw [List.length_take]; omega), Dw.same_mut s1 hD, ?_⟩
        rw [upd_same, List.take_add_one, List.getElem?_drop, hv]
        rfl
      · rintro H1 ⟨s1, e1⟩
        refine q1 hu H1 D s1 hD ?_
        rw [e1, show ((j : Int) + n - j).toNat = n by omega]
theorem G_Memory_put {a : Ad} (T : Top K mg a) : FnOk P w K mg base (L2.CX P w) 3 a.f_Memory_put a.d_Memory_put P_Memory_put (Mm.spPut K a.C_Memory a.C_Stopped) := by
  refine T.F_Memory_put.okX sc_Memory_put (fun vs H Q E h => ?_) (fun cdv A outer s H vs Q E hr h => ?_)
  · obtain ⟨_, _, _, _, _, _, rfl, _⟩ := h
    rfl
  · obtain ⟨p, l, b, m, j, ws, rfl, M, hB, nbl, hj, hws, q⟩ := h
    obtain ⟨dx, ah, hp, _⟩ := M.ob
    have hlen := M.len
    have nbp : b ≠ p ∨ ∃ o its k, K.lookup b = some o ∧ o.cls = .type "list" ∧ o.dict = none ∧ o.data = .seq its k ∧ its.size ≤ sizeLine ∧ Vals (ws.map V.int) its.toList := by
      rcases hB with (h | ⟨o, h⟩) | h
      · exact .inl (ne_of h hp (by intro z; cases z))
      · exact .inl (ne_of h hp (by intro z; cases z))
      · exact .inr h
    have keepB : ∀ H', Mm.But [p, l] H H' → SqL K H' b (ws.map V.int) := fun H' k => by
      rcases nbp with n | h
      · rcases hB with (h | ⟨o, h⟩) | h
        · exact .inl (.inl (k _ _ (by simp [n, nbl]) h))
        · exact .inl (.inr ⟨o, k _ _ (by simp [n, nbl]) h⟩)
        · exact .inr h
      · exact .inr h
    refine ⟨_, (pss_cons (ps_for (passes_of rfl) rfl (En.pi_enumS (by rfl) T.b_enumerate (pv 2) (pv 1)) (pg_tup rfl (pgs_cons (pg_name (i := 3) sc_Memory_put.nd rfl (Or.inl rfl)) (pgs_cons (pg_name (i := 4) sc_Memory_put.nd rfl (Or.inl rfl)) pgs_nil)))
        (pss_cons (ps_expr (pe_meth (pv 0) T.cl_Memory T.m_Memory__check_place (G_Memory__check_place T) (hr.mono (by omega)) T.B_Memory__check_place .nil pass0 (pa_cons (pv 3) pa_nil)))
      (pss_one (ps_expr (pe_call (G_check_worth T) (hr.mono (by omega)) (by rfl) T.g_check_worth T.F_check_worth.kp T.B_check_worth .nil pass0 (pa_cons (pv 4) pa_nil))))))
      (pss_cons (ps_expr (pe_meth0 (pv 0) T.cl_Memory T.m_Memory__check_power (G_Memory__check_power T) (hr.mono (by omega)) T.B_Memory__check_power .nil (passes_call (takes_of rfl rfl rfl rfl) fun _ _ _ _ h => h)))
      (pss_cons (ps_set (i := 5) sc_Memory_put.nd rfl (Or.inl rfl) pe_int)
      (pss_cons (ps_for (passes_of rfl) rfl (En.pi_enumS (by rfl) T.b_enumerate (pv 2) (pv 1)) (pg_tup rfl (pgs_cons (pg_name (i := 3) sc_Memory_put.nd rfl (Or.inl rfl)) (pgs_cons (pg_name (i := 4) sc_Memory_put.nd rfl (Or.inl rfl)) pgs_nil)))
        (pss_one (ps_if (pt_cmpR op_ne (pe_ix ix_list (pe_fld (pv 0) rfl) (pv 3) (fun _ _ => rfl)) (pv 4) (nomark _))
        (pss_cons (ps_expr (pe_meth (pv 0) T.cl_Memory T.m_Memory_write (G_Memory_write T) (hr.mono (by omega)) T.B_Memory_write .nil (passes_call (takes_of rfl rfl rfl rfl) fun _ _ _ _ h => h) (pa_cons (pv 3) (pa_cons (pv 4) pa_nil))))
      (pss_one (ps_aug (i := 5) sc_Memory_put.nd rfl (Or.inl rfl) pe_int ip_add)))
        pss_nil)))
      (pss_one (ps_ret (pv 5))))))), ?_⟩
    refine ⟨.ref b, rfl, _, rfl, b, _, (j : Int), rfl, rfl, by omega, by omega, hB, En.for_enumS (K := K) (a := b) (k := (j : Int)) (xs := ws.map V.int) (fun i σ H' => ∃ v3 v4 v5, σ = [some (.ref p), some (.int (j : Int)), some (.ref b), v3, v4, v5] ∧ Same H H') ⟨_, _, _, rfl, Same.refl _⟩ (fun i σ H' _ ⟨_, _, _, _, s⟩ => s.seq hB) ?_ ?_⟩
    · rintro i y σ H' t hi ⟨v3, v4, v5, rfl, s1⟩ ht
      obtain ⟨x, hx, rfl⟩ := Dw.get_map hi
      have hlt := (List.getElem?_eq_some_iff.mp hx).1
      have s2 := s1.trans (Dw.same_upd (o := .tup [.int ((j : Int) + (i : Nat)), .int x]) ht)
      obtain ⟨x0, x1⟩ := hws x (List.mem_of_getElem? hx)
      refine ⟨t, _, rfl, Dw.st_of upd_same, rfl, _, [_], rfl, _, [], rfl, rfl, ?_⟩
      refine ⟨.ref p, rfl, p, dx, _, rfl, s2 _ _ hp, no_attr (by decide +kernel), _, rfl, p, l, m, j + i, ?_, M.mono s2, by omega, ?_⟩
      · rw [Int.natCast_add]
        rfl
      · exact ⟨_, rfl, x, rfl, x0, x1, _, _, _, rfl, s2⟩
    · rintro σ H' ⟨v3, v4, v5, rfl, s1⟩
      have M1 := M.mono s1
      refine ⟨.ref p, rfl, p, dx, _, rfl, s1 _ _ hp, no_attr (by decide +kernel), p, l, m, rfl, M1, fun hu => ?_, fun hu => ?_⟩
      · -- the writes
        have eput : m.put j ws = m.putGo j 0 ws := by
          unfold Mm.Mem.put
          rw [if_pos hu]
        rw [eput] at q
        refine ⟨.ref b, rfl, _, rfl, b, _, (j : Int), rfl, rfl, by omega, by omega, s1.seq hB, En.for_enumS (K := K) (a := b) (k := (j : Int)) (xs := ws.map V.int) (fun i σ H2 => ∃ (v4 v5 : Option V) (m2 : Mm.Mem) (n : Int), σ = [some (.ref p), some (.int (j : Int)), some (.ref b), v4, v5, some (.int n)] ∧ Mm.But [p, l] H H2 ∧ Mm.MemAt a.C_Memory p l m2 H2 ∧ m2.cells.length = m.cells.length ∧
            m2.putGo (j + i) n (ws.drop i) = m.putGo j 0 ws) ⟨_, _, m, 0, rfl, Mm.But.same s1, M1, rfl, rfl⟩ (fun i σ H2 _ ⟨_, _, _, _, _, k, _⟩ => keepB H2 k) ?_ ?_⟩
        · rintro i y σ H2 t hi ⟨v4, v5, m2, n, rfl, k2, M2, el, ep⟩ ht
          obtain ⟨x, hx, rfl⟩ := Dw.get_map hi
          have hlt := (List.getElem?_eq_some_iff.mp hx).1
          obtain ⟨x0, x1⟩ := hws x (List.mem_of_getElem? hx)
          rw [Sm.drop_at hx] at ep
          have s3 : Same H2 (upd H2 t (.tup [.int ((j : Int) + (i : Nat)), .int x])) := Dw.same_upd ht
          have k3 := k2.trans (Mm.But.same s3)
          have M3 := M2.mono s3
          obtain ⟨dx2, ah2, hp3, _⟩ := M3.ob
          refine ⟨t, _, rfl, Dw.st_of upd_same, rfl, _, [_], rfl, _, [], rfl, rfl, ?_⟩
          generalize upd H2 t (.tup [.int ((j : Int) + (i : Nat)), .int x]) = H3 at k3 M3 hp3 ⊢
          obtain ⟨c, hc, hcc⟩ := M3.at (j := j + i) (by omega)
          have hsc : scal c (.int x) = true := by
            rcases Dw.cel_cases hcc with ⟨z, rfl⟩ | rfl <;> rfl
          have ej : (j : Int) + (i : Nat) = ((j + i : Nat) : Int) := by omega
          refine ⟨.ref p, rfl, p, _, dx2, _, _, rfl, hp3, T.cl_Memory, T.n_Memory__cells, Mm.mf_cells, _, rfl, l, _, (j : Int) + (i : Nat), c, rfl, rfl, Dw.sq_of M3.ls, at_of ej hc, _, rfl, hsc, _, rfl, ite2 (fun hne => ?_) (fun heq => ?_)⟩
          · have hcx : ¬ m2.cells[j + i]? = some (.int x) := fun z => by
              rw [hc] at z
              rw [Option.some.inj z, decide_eq_true rfl] at hne
              cases hne
            rw [Mm.putGo_cons, if_neg hcx] at ep
            refine ⟨.ref p, rfl, p, dx2, _, rfl, hp3, no_attr (by decide +kernel), _, rfl, _, rfl, p, l, m2, j + i, x, ?_, M3, by omega, x0, x1, fun H4 M4 k4 => ⟨fun hw => ?_, fun hw => ?_⟩⟩
            · rw [ej]
              rfl
            · rw [if_pos hw] at ep
              refine ⟨_, rfl, n, 1, rfl, rfl, ?_⟩
              exact ⟨_, _, (m2.write (j + i) x).1, n + 1, rfl, k3.trans k4, M4, by rw [Mm.write_len]; exact el, ep⟩
            · rw [if_neg (by rw [hw]; decide)] at ep
              have qq := q H4 (by rw [← ep]; exact M4) (k3.trans k4)
              exact qq.2 (by rw [← ep])
          · have hcx : m2.cells[j + i]? = some (.int x) := by
              rw [hc]
              by_cases z : c = .int x
              · rw [z]
              · exact absurd (by rw [decide_eq_false z]; rfl) heq
            rw [Mm.putGo_cons, if_pos hcx] at ep
            exact ⟨_, _, m2, n, rfl, k3, M3, el, ep⟩
        · rintro σ H2 ⟨v4, v5, m2, n, rfl, k2, M2, el, ep⟩
          rw [List.length_map, List.drop_length] at ep
          have ep' : m.putGo j 0 ws = (m2, some n) := ep.symm
          have qq := q H2 (by rw [ep']; exact M2) k2
          exact ⟨_, rfl, qq.1 n (by rw [ep'])⟩
      · have eput : m.put j ws = (m, none) := by
          unfold Mm.Mem.put
          rw [if_neg (by rw [hu]; decide)]
        rw [eput] at q
        exact (q H' M1 (Mm.But.same s1)).2 rfl
theorem G_Memory_spoil {a : Ad} (T : Top K mg a) : FnOk P w K mg base CX0 2 a.f_Memory_spoil a.d_Memory_spoil P_Memory_spoil (Mm.spSpoil a.C_Memory) := by
  refine T.F_Memory_spoil.ok sc_Memory_spoil (fun vs H Q E h => ?_) (fun cdv A outer s H vs Q E hr h => ?_)
  · obtain ⟨_, _, _, _, _, rfl, _⟩ := h
    rfl
  · obtain ⟨p, l, m, j, x, rfl, M, hj, hx, q⟩ := h
    obtain ⟨dx, ah, hp, hah⟩ := M.ob
    have nlp := M.ne
    refine ⟨_, (pss_cons (ps_expr (pe_meth (pv 0) T.cl_Memory T.m_Memory__check_place (G_Memory__check_place T) (hr.mono (by omega)) T.B_Memory__check_place .nil pass0 (pa_cons (pv 1) pa_nil)))
      (C8.pss_cut (ps_if (pt_cmpR op_notN (pv 2) pe_non (nomark _))
        (pss_one (ps_expr (pe_call (G_check_worth T) (hr.mono (by omega)) (by rfl) T.g_check_worth T.F_check_worth.kp T.B_check_worth .nil pass0 (pa_cons (pv 2) pa_nil))))
        pss_nil)
      (pss_one (ps_asg (pv 2) (pg_sub (pe_fld (pv 0) rfl) (pv 1) set_list))))), ?_⟩
    refine ⟨.ref p, rfl, p, dx, _, rfl, hp, no_attr (by decide +kernel), _, rfl, p, l, m, j, rfl, M, hj, ?_⟩
    refine ⟨fun σ' H2 => σ' = [some (.ref p), some (.int (j : Int)), some x] ∧ H2 = H, ?_, ?_⟩
    · refine ⟨_, rfl, rfl, _, rfl, ?_⟩
      rcases hx with rfl | ⟨v, rfl, v0, v1⟩
      · exact iteNS (c := V.non = V.non) rfl ⟨rfl, rfl⟩
      · refine ite2 (fun _ => ?_) (fun e => absurd (by rfl) e)
        exact ⟨_, rfl, v, rfl, v0, v1, rfl, rfl⟩
    · rintro σ' H2 ⟨rfl, rfl⟩
      have hcx : Dw.cel x = true := by
        rcases hx with rfl | ⟨v, rfl, _⟩ <;> rfl
      refine ⟨x, rfl, .ref p, rfl, p, _, dx, _, _, rfl, hp, T.cl_Memory, T.n_Memory__cells, Mm.mf_cells, .int (j : Int), rfl, l, _, (j : Int), j, rfl, rfl, M.ls, Dw.ixN_nat hj, ?_⟩
      exact q _ (M.setCells (Mm.cel_set M.cel hcx) List.length_set) (Mm.But.upd (List.mem_cons_of_mem _ List.mem_cons_self))
theorem G_Memory_cut {a : Ad} (T : Top K mg a) : FnOk P w K mg base CX0 1 a.f_Memory_cut a.d_Memory_cut P_Memory_cut (Mm.spCut a.C_Memory) := by
  refine T.F_Memory_cut.ok sc_Memory_cut (fun vs H Q E h => ?_) (fun cdv A outer s H vs Q E hr h => ?_)
  · obtain ⟨_, _, _, _, _, rfl, _⟩ := h
    rfl
  · obtain ⟨p, l, m, k, t, rfl, M, hk, ht, q⟩ := h
    obtain ⟨dx, ah, hp, hah⟩ := M.ob
    have nlp := M.ne
    refine ⟨_, (pss_cons (ps_if (PW.pt (pw_or (pt_not (pt_chain op_le op_le pe_int (pv 1) (pe_glob (v := .int 100000) rfl T.c_LATEST_CUT ⟨_, rfl⟩))) (pw_or1 (pt_cmpR op_notIn_seq (pv 2) (pe_glob (v := .ref a.t_TORN) rfl T.c_TORN rfl) (by rfl)))))
        (pss_one ps_never)
        pss_nil)
      (pss_cons (ps_fld (pv 0) (pv 1) rfl)
      (pss_one (ps_fld (pv 0) (pv 2) rfl)))), ?_⟩
    refine ⟨_, rfl, 0, (k : Int), rfl, rfl, _, rfl, ite2 (fun _ => ?_) (fun e => absurd (decide_eq_true (by omega)) e)⟩
    refine ⟨(k : Int), 100000, rfl, rfl, _, rfl, iteNS (by omega) ?_⟩
    have hin : inV (.str t) [.str "old", .str "broken", .str "new"] = true := by
      rcases ht with rfl | rfl | rfl <;> decide +kernel
    refine ⟨_, rfl, a.t_TORN, _, rfl, .inr (T.w_TORN _), rfl, rfl, _, rfl, ?_⟩
    rw [show (if true = true then !inV (.str t) [.str "old", .str "broken", .str "new"] else inV (.str t) [.str "old", .str "broken", .str "new"]) = false by rw [hin]; rfl]
    refine iteF ?_
    refine ⟨_, rfl, .ref p, rfl, p, _, dx, _, rfl, hp, T.cl_Memory, T.n_Memory__ahead, Mm.mf_few, ?_⟩
    refine ⟨_, rfl, .ref p, rfl, p, _, dx, _, rfl, upd_same, T.cl_Memory, T.n_Memory__torn, by rw [Mm.put_ahead]; exact Mm.mf_few, ?_⟩
    refine q _ ⟨⟨dx, .int (k : Int), ?_, fun _ => rfl⟩, by rw [upd_ne nlp.symm, upd_ne nlp.symm]; exact M.ls, M.cel, M.len⟩ ((Mm.But.upd List.mem_cons_self).trans (Mm.But.upd List.mem_cons_self))
    rw [upd_same, Mm.put_ahead, Mm.put_torn]
theorem G_Memory_up {a : Ad} (T : Top K mg a) : FnOk P w K mg base CX0 1 a.f_Memory_up a.d_Memory_up P_Memory_up (Mm.spUp a.C_Memory) := by
  refine T.F_Memory_up.ok sc_Memory_up (fun vs H Q E h => ?_) (fun cdv A outer s H vs Q E hr h => ?_)
  · obtain ⟨_, _, _, rfl, _⟩ := h
    rfl
  · obtain ⟨p, l, m, rfl, M, q⟩ := h
    obtain ⟨dx, ah, hp, hah⟩ := M.ob
    have nlp := M.ne
    refine ⟨_, (pss_cons (ps_fld (pv 0) pe_bl rfl)
      (pss_one (ps_fld (pv 0) pe_non rfl))), ?_⟩
    refine ⟨.ref p, rfl, p, _, dx, _, rfl, hp, T.cl_Memory, T.n_Memory__has_power, Mm.mf_few, ?_⟩
    refine ⟨.ref p, rfl, p, _, dx, _, rfl, upd_same, T.cl_Memory, T.n_Memory__ahead, by rw [Mm.put_up]; exact Mm.mf_few, ?_⟩
    refine q _ ⟨⟨dx, .non, ?_, fun _ => rfl⟩, by rw [upd_ne nlp.symm, upd_ne nlp.symm]; exact M.ls, M.cel, M.len⟩ ((Mm.But.upd List.mem_cons_self).trans (Mm.But.upd List.mem_cons_self))
    rw [upd_same, Mm.put_up, Mm.put_ahead]
theorem G_Memory_cells {a : Ad} (T : Top K mg a) : FnOk P w K mg base CX0 1 a.f_Memory_cells a.d_Memory_cells P_Memory_cells (Mm.spCells a.C_Memory) := by
  refine T.F_Memory_cells.ok sc_Memory_cells (fun vs H Q E h => ?_) (fun cdv A outer s H vs Q E hr h => ?_)
  · obtain ⟨_, _, _, rfl, _⟩ := h
    rfl
  · obtain ⟨p, l, m, rfl, M, q⟩ := h
    obtain ⟨dx, ah, hp, hah⟩ := M.ob
    refine ⟨_, (pss_one (ps_ret (pe_callTy call_list_of (by rfl) T.b_list (by decide +kernel) (pa_cons (pe_fld (pv 0) rfl) pa_nil)))), ?_⟩
    exact ⟨.ref p, rfl, p, _, dx, _, _, rfl, hp, T.cl_Memory, T.n_Memory__cells, Mm.mf_cells, l, _, rfl, .inl (Dw.sq_of M.ls), fun c hc => q _ c (Dw.same_upd hc) hc upd_same⟩
theorem G_Memory_writes {a : Ad} (T : Top K mg a) : FnOk P w K mg base CX0 1 a.f_Memory_writes a.d_Memory_writes P_Memory_writes (Mm.spWrites a.C_Memory) := by
  refine T.F_Memory_writes.ok sc_Memory_writes (fun vs H Q E h => ?_) (fun cdv A outer s H vs Q E hr h => ?_)
  · obtain ⟨_, _, _, rfl, _⟩ := h
    rfl
  · obtain ⟨p, l, m, rfl, M, q⟩ := h
    obtain ⟨dx, ah, hp, hah⟩ := M.ob
    refine ⟨_, (pss_one (ps_ret (pe_fld (pv 0) rfl))), ?_⟩
    exact ⟨.ref p, rfl, p, _, dx, _, _, rfl, hp, T.cl_Memory, T.n_Memory__whole_writes, Mm.mf_many, q⟩
theorem G_Memory___init__ {a : Ad} (T : Top K mg a) : FnOk P w K mg base CX0 1 a.f_Memory___init__ a.d_Memory___init__ P_Memory___init__ (Mm.spInit a.C_Memory) := by
  refine T.F_Memory___init__.ok sc_Memory___init__ (fun vs H Q E h => ?_) (fun cdv A outer s H vs Q E hr h => ?_)
  · obtain ⟨_, _, _, rfl, _⟩ := h
    rfl
  · obtain ⟨p, dx, n, rfl, hp, n1, n4, q⟩ := h
    refine ⟨_, (pss_cons (ps_if (pt_not (pt_chain op_le op_le pe_int (pv 1) (pe_glob (v := .int 400) rfl T.c_MOST_CELLS ⟨_, rfl⟩)))
        (pss_one ps_never)
        pss_nil)
      (pss_cons (ps_fld (pv 0) (pe_op op_rep (pe_lst (pa_cons pe_int pa_nil)) (pv 1)) rfl)
      (pss_cons (ps_fld (pv 0) pe_int rfl)
      (pss_cons (ps_fld (pv 0) pe_bl rfl)
      (pss_cons (ps_fld (pv 0) pe_non rfl)
      (pss_one (ps_fld (pv 0) pe_str rfl))))))), ?_⟩
    refine ⟨_, rfl, 1, (n : Int), rfl, rfl, _, rfl, ite2 (fun _ => ?_) (fun e => absurd (decide_eq_true (by omega)) e)⟩
    refine ⟨(n : Int), 400, rfl, rfl, _, rfl, iteNS (by omega) ?_⟩
    refine ⟨Dw.sz_ rfl, fun c hc => ?_⟩
    have npc : p ≠ c := ne_of_none hp hc
    refine ⟨_, rfl, c, (n : Int), [.int 0], rfl, rfl, upd_same, by omega, by omega, Dw.size_ok (by simp; omega), fun l hl => ?_⟩
    have s1 : Same H (upd H c (.lst [.int 0])) := Dw.same_upd hc
    have hl0 : H l = none := s1.free hl
    have npl : p ≠ l := ne_of_none hp hl0
    have hp1 : (upd (upd H c (.lst [.int 0])) l (.lst (List.replicate (n : Int).toNat [V.int 0]).flatten)) p = some (.ins a.C_Memory dx []) := by rw [upd_ne npl, upd_ne npc]; exact hp
    have hl1 : (upd (upd H c (.lst [.int 0])) l (.lst (List.replicate (n : Int).toNat [V.int 0]).flatten)) l = some (.lst (List.replicate n (.int 0))) := by
      rw [upd_same, Int.toNat_natCast, Mm.flat_rep]
    have s2 := s1.trans (Dw.same_upd (o := .lst (List.replicate (n : Int).toNat [V.int 0]).flatten) hl)
    generalize upd (upd H c (.lst [.int 0])) l (.lst (List.replicate (n : Int).toNat [V.int 0]).flatten) = H1 at hp1 hl1 s2 ⊢
    refine ⟨.ref p, rfl, p, _, dx, _, rfl, hp1, T.cl_Memory, T.n_Memory__cells, (by show 0 < 1000; decide), ?_⟩
    refine ⟨.ref p, rfl, p, _, dx, _, rfl, upd_same, T.cl_Memory, T.n_Memory__whole_writes, Nat.lt_of_le_of_lt (length_putF _ _ _) (by decide), ?_⟩
    refine ⟨.ref p, rfl, p, _, dx, _, rfl, upd_same, T.cl_Memory, T.n_Memory__has_power, Nat.lt_of_le_of_lt (length_putF _ _ _) (Nat.succ_lt_succ (Nat.lt_of_le_of_lt (length_putF _ _ _) (by decide : 1 < 999))), ?_⟩
    refine ⟨.ref p, rfl, p, _, dx, _, rfl, upd_same, T.cl_Memory, T.n_Memory__ahead, Nat.lt_of_le_of_lt (length_putF _ _ _) (Nat.succ_lt_succ (Nat.lt_of_le_of_lt (length_putF _ _ _) (Nat.succ_lt_succ (Nat.lt_of_le_of_lt (length_putF _ _ _) (by decide : 1 < 998))))), ?_⟩
    refine ⟨.ref p, rfl, p, _, dx, _, rfl, upd_same, T.cl_Memory, T.n_Memory__torn, Nat.lt_of_le_of_lt (length_putF _ _ _) (Nat.succ_lt_succ (Nat.lt_of_le_of_lt (length_putF _ _ _) (Nat.succ_lt_succ (Nat.lt_of_le_of_lt (length_putF _ _ _) (Nat.succ_lt_succ (Nat.lt_of_le_of_lt (length_putF _ _ _) (by decide : 1 < 997))))))), ?_⟩
    refine q _ l ⟨⟨dx, .non, ?_, fun _ => rfl⟩, ?_, ?_, ?_⟩ hl0 ?_
    · rw [upd_same, Mm.put_new]
    · rw [upd_ne npl.symm, upd_ne npl.symm, upd_ne npl.symm, upd_ne npl.symm, upd_ne npl.symm]
      exact hl1
    · intro x hx
      rw [List.eq_of_mem_replicate hx]
      rfl
    · show (List.replicate n (V.int 0)).length ≤ 400
      rw [List.length_replicate]
      exact n4
    · have u : ∀ (H2 : Hp) (o : HO), Mm.But [p] H2 (upd H2 p o) := fun _ _ => Mm.But.upd List.mem_cons_self
      exact ((((((Mm.But.same s2).trans (u _ _)).trans (u _ _)).trans (u _ _)).trans (u _ _)).trans (u _ _))

/-- the law's own memory: a dict -/
def okv (c : Addr) (m : Mm.Mem) : List (Key × V) := [(Sum.inr "cells", .ref c), (Sum.inr "left", Mm.leftV m.left), (Sum.inr "torn", .str m.torn), (Sum.inr "up", .bl m.up), (Sum.inr "many", .int m.many)]
structure OwnAt (d c : Addr) (m : Mm.Mem) (H : Hp) : Prop where
  ob : H d = some (.dK (okv c m))
  ls : H c = some (.lst m.cells)
  tn : m.torn = "old" ∨ m.torn = "broken" ∨ m.torn = "new"
theorem okv_cells {c : Addr} {m : Mm.Mem} : valV (okv c m) (Sum.inr ("cells" : Str)) = some (.ref c) := by kernel_rfl
theorem okv_left {c : Addr} {m : Mm.Mem} : valV (okv c m) (Sum.inr ("left" : Str)) = some (Mm.leftV m.left) := by kernel_rfl
theorem okv_torn {c : Addr} {m : Mm.Mem} : valV (okv c m) (Sum.inr ("torn" : Str)) = some (.str m.torn) := by kernel_rfl
theorem okv_up {c : Addr} {m : Mm.Mem} : valV (okv c m) (Sum.inr ("up" : Str)) = some (.bl m.up) := by kernel_rfl
theorem okv_many {c : Addr} {m : Mm.Mem} : valV (okv c m) (Sum.inr ("many" : Str)) = some (.int m.many) := by kernel_rfl
theorem ok_put_left {c : Addr} {m : Mm.Mem} {o : Option Nat} : putK (okv c m) (Sum.inr ("left" : Str)) (Mm.leftV o) = okv c { m with left := o } := by kernel_rfl
theorem ok_put_torn {c : Addr} {m : Mm.Mem} {t : Str} : putK (okv c m) (Sum.inr ("torn" : Str)) (.str t) = okv c { m with torn := t } := by kernel_rfl
theorem ok_put_up {c : Addr} {m : Mm.Mem} {b : Bool} : putK (okv c m) (Sum.inr ("up" : Str)) (.bl b) = okv c { m with up := b } := by kernel_rfl
theorem ok_put_many {c : Addr} {m : Mm.Mem} {n : Int} : putK (okv c m) (Sum.inr ("many" : Str)) (.int n) = okv c { m with many := n } := by kernel_rfl
theorem okv_few (c : Addr) (m : Mm.Mem) : (okv c m).length < sizeLine := Dw.size_lt (by show 5 < 100000; decide)
section
variable {d c : Addr} {m : Mm.Mem} {H H' : Hp}
theorem OwnAt.ne (M : OwnAt d c m H) : d ≠ c := ne_of M.ob M.ls (by intro z; cases z)
theorem OwnAt.but {S : List Addr} (M : OwnAt d c m H) (k : Mm.But S H H') (h1 : d ∉ S) (h2 : c ∉ S) : OwnAt d c m H' := ⟨k _ _ h1 M.ob, k _ _ h2 M.ls, M.tn⟩
theorem OwnAt.mono (M : OwnAt d c m H) (k : Same H H') : OwnAt d c m H' := ⟨k _ _ M.ob, k _ _ M.ls, M.tn⟩
theorem OwnAt.get (M : OwnAt d c m H) {x : Str} {v : V} (h : valV (okv c m) (Sum.inr x) = some v) : DGet H d (.str x) (some v) := by
  have g := DGet.k (k := Sum.inr x) M.ob
  rw [h] at g
  exact g
end
theorem G_l_own {a : Ad} (T : Top K mg a) : FnOk P w K mg base CX0 1 a.f_l_own a.d_l_own P_l_own (fun vs H Q _ => ∃ n : Nat, vs = [.int (n : Int)] ∧ 1 ≤ n ∧ n ≤ 400 ∧
    ∀ H' d c, OwnAt d c ⟨List.replicate n (.int 0), 0, true, none, "old"⟩ H' → Same H H' → H d = none → H c = none → Q (.ref d) H') := by
  refine T.F_l_own.ok sc_l_own (fun vs H Q E h => ?_) (fun cdv A outer s H vs Q E hr h => ?_)
  · obtain ⟨_, rfl, _⟩ := h
    rfl
  · obtain ⟨n, rfl, n1, n4, q⟩ := h
    refine ⟨_, (pss_cons (ps_set (i := 1) sc_l_own.nd rfl (Or.inl rfl) (pe_disp (pps_cons pe_str (pe_op op_rep (pe_lst (pa_cons pe_int pa_nil)) (pv 0)) (pps_cons pe_str pe_non pps_nil)) (by rfl) (by rfl) (fun z => by cases z) (by decide)))
      (pss_cons (ps_expr (pe_bm PySem.F.plainAttrs_dict PySem.F.slot_dict_update PySem.F.type_dict_update En.mt_update (pv 1) (pa_cons (pe_disp (pps_cons pe_str pe_str (pps_cons pe_str pe_bl (pps_cons pe_str pe_int pps_nil))) (by rfl) (by rfl) (fun z => by cases z) (by decide)) pa_nil)))
      (pss_one (ps_ret (pv 1))))), ?_⟩
    intro d hd
    refine ⟨Dw.sz_ rfl, fun c0 hc0 => ?_⟩
    refine ⟨_, rfl, c0, (n : Int), [.int 0], rfl, rfl, upd_same, by omega, by omega, Dw.size_ok (by simp; omega), fun c hc => ?_⟩
    have s1 : Same H (upd H d (.dK [])) := Dw.same_upd hd
    have s2 := Dw.same_upd (o := .lst [.int 0]) hc0
    have s3 := Dw.same_upd (o := .lst (List.replicate (n : Int).toNat [V.int 0]).flatten) hc
    have hd3 : (upd (upd (upd H d (.dK [])) c0 (.lst [.int 0])) c (.lst (List.replicate (n : Int).toNat [V.int 0]).flatten)) d = some (.dK []) := s3 _ _ (s2 _ _ upd_same)
    have hc3 : (upd (upd (upd H d (.dK [])) c0 (.lst [.int 0])) c (.lst (List.replicate (n : Int).toNat [V.int 0]).flatten)) c = some (.lst (List.replicate n (.int 0))) := by
      rw [upd_same, Int.toNat_natCast, Mm.flat_rep]
    have fc : H c = none := (s1.trans s2).free hc
    have S3 := (s1.trans s2).trans s3
    generalize upd (upd (upd H d (.dK [])) c0 (.lst [.int 0])) c (.lst (List.replicate (n : Int).toNat [V.int 0]).flatten) = H3 at hd3 hc3 S3 ⊢
    have ndc : d ≠ c := ne_of hd3 hc3 (by intro z; cases z)
    refine ⟨hd3, [(Sum.inr "cells", .ref c), (Sum.inr "left", .non)], rfl, Nat.le_of_ble_eq_true rfl, ?_⟩
    have hd4 : (upd H3 d (.dK (mergeK [] [(Sum.inr "cells", .ref c), (Sum.inr "left", .non)]))) d = some (.dK [(Sum.inr "cells", .ref c), (Sum.inr "left", .non)]) := by
      rw [upd_same]
      kernel_rfl
    have hc4 : (upd H3 d (.dK (mergeK [] [(Sum.inr "cells", .ref c), (Sum.inr "left", .non)]))) c = some (.lst (List.replicate n (.int 0))) := by rw [upd_ne ndc.symm]; exact hc3
    have S4 := Dw.same_mut (o := .dK (mergeK [] [(Sum.inr "cells", .ref c), (Sum.inr "left", .non)])) S3 hd
    generalize upd H3 d (.dK (mergeK [] [(Sum.inr "cells", .ref c), (Sum.inr "left", .non)])) = H4 at hd4 hc4 S4 ⊢
    refine ⟨.ref d, rfl, .inr (.inr (.inl ⟨rfl, .inl ⟨_, hd4⟩⟩)), fun e he => ?_⟩
    have ned : d ≠ e := ne_of_none hd4 he
    have nec : c ≠ e := ne_of_none hc4 he
    refine ⟨upd_same, [(Sum.inr "torn", .str "old"), (Sum.inr "up", .bl true), (Sum.inr "many", .int 0)], rfl, by decide, ?_⟩
    refine ⟨d, e, [(Sum.inr "cells", .ref c), (Sum.inr "left", .non)], [(Sum.inr "torn", .str "old"), (Sum.inr "up", .bl true), (Sum.inr "many", .int 0)], rfl, rfl, ned, ?_, ?_, Dw.sz_ rfl, ?_⟩
    · rw [upd_ne ned, upd_ne ned]
      exact hd4
    · rw [upd_same]
      kernel_rfl
    · refine ⟨.ref d, rfl, q _ d c ⟨?_, ?_, .inl rfl⟩ ?_ hd fc⟩
      · rw [upd_same]
        kernel_rfl
      · rw [upd_ne ndc.symm, upd_ne nec, upd_ne nec]
        exact hc4
      · exact Dw.same_mut (Dw.same_mut (Dw.same_mut S4 (S4.free he)) (S4.free he)) hd
theorem G_l_write {a : Ad} (T : Top K mg a) : FnOk P w K mg base CX0 1 a.f_l_write a.d_l_write P_l_write (fun vs H Q _ => ∃ (d c : Addr) (m : Mm.Mem) (j : Nat) (v : Int), vs = [.ref d, .int (j : Int), .int v] ∧ OwnAt d c m H ∧ j < m.cells.length ∧
    ∀ H', OwnAt d c (m.write j v).1 H' → Mm.But [d, c] H H' → Q (.bl (m.write j v).2) H') := by
  refine T.F_l_write.ok sc_l_write (fun vs H Q E h => ?_) (fun cdv A outer s H vs Q E hr h => ?_)
  · obtain ⟨_, _, _, _, _, rfl, _⟩ := h
    rfl
  · obtain ⟨d, c, m, j, v, rfl, M, hj, q⟩ := h
    have ndc := M.ne
    have hix : ixN m.cells.length (j : Int) = some j := Dw.ixN_nat hj
    obtain ⟨x, hx⟩ : ∃ x, m.cells[j]? = some x := ⟨_, List.getElem?_eq_getElem hj⟩
    refine ⟨_, (pss_cons (ps_if (pt_not (pt_val (pe_dget (hu_of hr) (pv 0) pe_str (fun _ _ => rfl))))
        (pss_one (ps_ret pe_bl))
        pss_nil)
      (pss_cons (ps_if (pt_cmpR op_eq (pe_dget (hu_of hr) (pv 0) pe_str (fun _ _ => rfl)) pe_int (nomark _))
        (pss_cons (ps_asg (pe_dget (hu_of hr) (pe_disp (pps_cons pe_str (pe_ix ix_list (pe_dget (hu_of hr) (pv 0) pe_str (fun _ _ => rfl)) (pv 1) (fun _ _ => rfl)) (pps_cons pe_str pe_non (pps_cons pe_str (pv 2) pps_nil))) (by rfl) (by rfl) (fun z => by cases z) (by decide)) (pe_dget (hu_of hr) (pv 0) pe_str (fun _ _ => rfl)) (fun _ _ => rfl)) (pg_sub (pe_dget (hu_of hr) (pv 0) pe_str (fun _ _ => rfl)) (pv 1) set_list))
      (pss_cons (ps_dput (hu_of hr) (pv 0) pe_str pe_bl rfl)
      (pss_cons (ps_dput (hu_of hr) (pv 0) pe_str pe_non rfl)
      (pss_one (ps_ret pe_bl)))))
        pss_nil)
      (C8.pss_cut (ps_dput (hu_of hr) (pv 0) pe_str (pe_ifExp (pt_cmpR op_isN (pe_dget (hu_of hr) (pv 0) pe_str (fun _ _ => rfl)) pe_non (nomark _)) pe_non (pe_op op_sub (pe_dget (hu_of hr) (pv 0) pe_str (fun _ _ => rfl)) pe_int)) rfl)
      (pss_cons (ps_asg (pv 2) (pg_sub (pe_dget (hu_of hr) (pv 0) pe_str (fun _ _ => rfl)) (pv 1) set_list))
      (pss_cons (ps_dput (hu_of hr) (pv 0) pe_str (pe_op op_add (pe_dget (hu_of hr) (pv 0) pe_str (fun _ _ => rfl)) pe_int) rfl)
      (pss_one (ps_ret pe_bl))))))), ?_⟩
    refine ⟨.ref d, rfl, d, _, rfl, M.get okv_up, m.up, rfl, ?_⟩
    cases hu : m.up with
    | false =>
      have qq := q H (by rw [Mm.write_down hu]; exact M) (Mm.But.refl _ _)
      rw [Mm.write_down hu] at qq
      exact qq
    | true =>
      have hsc : scal (Mm.leftV m.left) (.int 0) = true := by
        cases m.left <;> rfl
      refine ⟨.ref d, rfl, d, _, rfl, M.get okv_left, hsc, _, rfl, ite2 (fun e => ?_) (fun e => ?_)⟩
      · have e0 : m.left = some 0 := Mm.leftV_zero.mp (of_decide_eq_true e)
        intro p hp
        have s1 : Same H (upd H p (.dK [])) := Dw.same_upd hp
        have M1 := M.mono s1
        refine ⟨.ref d, rfl, d, _, rfl, M1.get okv_cells, _, rfl, c, _, (j : Int), x, rfl, rfl, Dw.sq_of M1.ls, atI_nat hx, _, rfl, upd_same, [(Sum.inr "old", x), (Sum.inr "broken", .non), (Sum.inr "new", .int v)], rfl, Nat.le_of_ble_eq_true rfl, ?_⟩
        have s2 : Same H (upd (upd H p (.dK [])) p (.dK (mergeK [] [(Sum.inr "old", x), (Sum.inr "broken", .non), (Sum.inr "new", .int v)]))) := Dw.same_mut s1 hp
        have hp2 : (upd (upd H p (.dK [])) p (.dK (mergeK [] [(Sum.inr "old", x), (Sum.inr "broken", .non), (Sum.inr "new", .int v)]))) p = some (.dK [(Sum.inr "old", x), (Sum.inr "broken", .non), (Sum.inr "new", .int v)]) := by
          rw [upd_same]
          kernel_rfl
        have M2 := M.mono s2
        generalize upd (upd H p (.dK [])) p (.dK (mergeK [] [(Sum.inr "old", x), (Sum.inr "broken", .non), (Sum.inr "new", .int v)])) = H2 at s2 hp2 M2 ⊢
        have hv : ∃ y, valV [((Sum.inr "old" : Key), x), (Sum.inr "broken", .non), (Sum.inr "new", V.int v)] (Sum.inr m.torn) = some y ∧ m.cells.set j y = Mm.tornTo m.torn m.cells j v := by
          unfold Mm.tornTo
          rcases M.tn with z | z | z
          · rw [z, if_neg (by decide +kernel), if_neg (by decide +kernel)]
            refine ⟨x, by kernel_rfl, ?_⟩
            refine List.ext_getElem? fun i => ?_
            by_cases e : j = i
            · subst e
              rw [List.getElem?_set_self hj, hx]
            · rw [List.getElem?_set_ne e]
          · rw [z, if_pos rfl]
            exact ⟨.non, by kernel_rfl, rfl⟩
          · rw [z, if_neg (by decide +kernel), if_pos rfl]
            exact ⟨.int v, by kernel_rfl, rfl⟩
        obtain ⟨y, hy, ey⟩ := hv
        refine ⟨.ref d, rfl, d, _, rfl, M2.get okv_torn, p, y, rfl, ?_, ?_⟩
        · have g := DGet.k (k := Sum.inr m.torn) hp2
          rw [hy] at g
          exact g
        refine ⟨.ref d, rfl, d, _, rfl, M2.get okv_cells, _, rfl, c, _, (j : Int), j, rfl, rfl, M2.ls, hix, ?_⟩
        rw [ey]
        have hd3 : (upd H2 c (.lst (Mm.tornTo m.torn m.cells j v))) d = some (.dK (okv c m)) := by rw [upd_ne ndc]; exact M2.ob
        refine ⟨.ref d, rfl, d, _, rfl, DPut.k (k := Sum.inr "up") hd3 (okv_few c m), ?_⟩
        rw [ok_put_up]
        refine ⟨.ref d, rfl, d, _, rfl, DPut.k (k := Sum.inr "left") upd_same (okv_few c _), ?_⟩
        have qq := q (upd (upd (upd H2 c (.lst (Mm.tornTo m.torn m.cells j v))) d (.dK (okv c { m with up := false }))) d (.dK (putK (okv c { m with up := false }) (Sum.inr "left") .non)))
          (by
            rw [Mm.write_cut hu e0]
            refine ⟨?_, by rw [upd_ne ndc.symm, upd_ne ndc.symm, upd_same], M.tn⟩
            rw [upd_same]
            kernel_rfl)
          (((Mm.But.same s2).trans (Mm.But.upd (List.mem_cons_of_mem _ List.mem_cons_self))).trans (Mm.But.upd List.mem_cons_self) |>.trans (Mm.But.upd List.mem_cons_self))
        rw [Mm.write_cut hu e0] at qq
        exact qq
      · have h0 : ¬ m.left = some 0 := fun z => e (decide_eq_true (Mm.leftV_zero.mpr z))
        refine ⟨fun σ' H2 => σ' = [some (.ref d), some (.int (j : Int)), some (.int v)] ∧ H2 d = some (.dK (okv c { m with left := m.left.map (· - 1) })) ∧ H2 c = some (.lst m.cells) ∧ Mm.But [d, c] H H2, ?_, ?_⟩
        · refine ⟨.ref d, rfl, d, _, rfl, M.get okv_left, rfl, _, rfl, ?_⟩
          cases hl : m.left with
          | none =>
            refine ite2 (fun _ => ?_) (fun e => absurd (by rfl) e)
            refine ⟨.ref d, rfl, d, _, rfl, DPut.k (k := Sum.inr "left") M.ob (okv_few c m), ?_⟩
            refine ⟨rfl, ?_, by rw [upd_ne ndc.symm]; exact M.ls, Mm.But.upd List.mem_cons_self⟩
            rw [upd_same]
            kernel_rfl
          | some k =>
            have hk : k ≠ 0 := fun z => h0 (by rw [hl, z])
            refine ite2 (fun e => absurd (of_decide_eq_true e) (by intro z; cases z)) (fun _ => ?_)
            refine ⟨.ref d, rfl, d, .int (k : Int), rfl, ?_, (k : Int), 1, rfl, rfl, ?_⟩
            · have g := M.get okv_left
              rw [hl] at g
              exact g
            refine ⟨.ref d, rfl, d, _, rfl, DPut.k (k := Sum.inr "left") M.ob (okv_few c m), ?_⟩
            refine ⟨rfl, ?_, by rw [upd_ne ndc.symm]; exact M.ls, Mm.But.upd List.mem_cons_self⟩
            have ek : (k : Int) - 1 = ((k - 1 : Nat) : Int) := by omega
            rw [upd_same]
            show some (HO.dK (putK (okv c m) (Sum.inr "left") (V.int ((k : Int) - 1)))) = _
            rw [ek]
            exact congrArg (fun z => some (HO.dK z)) (ok_put_left (c := c) (m := m) (o := some (k - 1)))
        · rintro σ' H2 ⟨rfl, hd2, hc2, k2⟩
          have M2 : OwnAt d c { m with left := m.left.map (· - 1) } H2 := ⟨hd2, hc2, M.tn⟩
          refine ⟨.int v, rfl, .ref d, rfl, d, _, rfl, M2.get okv_cells, _, rfl, c, _, (j : Int), j, rfl, rfl, hc2, hix, ?_⟩
          have hd3 : (upd H2 c (.lst (m.cells.set j (.int v)))) d = some (.dK (okv c { m with left := m.left.map (· - 1) })) := by rw [upd_ne ndc]; exact hd2
          have M3 : OwnAt d c { m with left := m.left.map (· - 1), cells := m.cells.set j (.int v) } (upd H2 c (.lst (m.cells.set j (.int v)))) := ⟨hd3, upd_same, M.tn⟩
          refine ⟨.ref d, rfl, d, _, rfl, M3.get okv_many, m.many, 1, rfl, rfl, .ref d, rfl, d, _, rfl, DPut.k (k := Sum.inr "many") hd3 (okv_few c _), ?_⟩
          have qq := q (upd (upd H2 c (.lst (m.cells.set j (.int v)))) d (.dK (putK (okv c { m with left := m.left.map (· - 1) }) (Sum.inr "many") (.int (m.many + 1)))))
            (by
              rw [Mm.write_ok hu h0]
              refine ⟨?_, by rw [upd_ne ndc.symm, upd_same], M.tn⟩
              rw [upd_same, ok_put_many]
              simp only [okv, hu])
            ((k2.trans (Mm.But.upd (List.mem_cons_of_mem _ List.mem_cons_self))).trans (Mm.But.upd List.mem_cons_self))
          rw [Mm.write_ok hu h0] at qq
          exact qq

theorem write_up {m : Mm.Mem} {j : Nat} {v : Int} (h : (m.write j v).2 = true) : (m.write j v).1.up = true := by
  by_cases hu : m.up = true
  · by_cases h0 : m.left = some 0
    · rw [Mm.write_cut hu h0] at h
      cases h
    · rw [Mm.write_ok hu h0]
  · rw [Mm.write_down (Bool.eq_false_iff.mpr hu)] at h
    cases h
def putV : Option Int → V
  | some n => .int n
  | none => .non
theorem G_l_put_in {a : Ad} (T : Top K mg a) : FnOk P w K mg base CX0 2 a.f_l_put_in a.d_l_put_in P_l_put_in (fun vs H Q _ => ∃ (d c b : Addr) (m : Mm.Mem) (j : Nat) (ws : List Int), vs = [.ref d, .int (j : Int), .ref b] ∧ OwnAt d c m H ∧ (∀ v ∈ m.cells, Dw.cel v = true) ∧ H b = some (.lst (ws.map V.int)) ∧ b ≠ c ∧ j + ws.length ≤ m.cells.length ∧ m.cells.length ≤ 400 ∧
    ∀ H', OwnAt d c (m.put j ws).1 H' → Mm.But [d, c] H H' → Q (putV (m.put j ws).2) H') := by
  refine T.F_l_put_in.ok sc_l_put_in (fun vs H Q E h => ?_) (fun cdv A outer s H vs Q E hr h => ?_)
  · obtain ⟨_, _, _, _, _, _, rfl, _⟩ := h
    rfl
  · obtain ⟨d, c, b, m, j, ws, rfl, M, hcel, hB, nbc, hj, hlen, q⟩ := h
    have nbd : b ≠ d := ne_of hB M.ob (by intro z; cases z)
    have nbm : b ∉ [d, c] := by simp [nbd, nbc]
    refine ⟨_, (pss_cons (ps_set (i := 3) sc_l_put_in.nd rfl (Or.inl rfl) pe_int)
      (pss_cons (ps_for PassesOwn.never rfl (pi_range1 (by rfl) T.b_range (pa_cons (pe_callB call_len_seq (by rfl) T.b_len PySem.boot_len (pa_cons (pv 2) pa_nil)) pa_nil)) (pg_name (i := 4) sc_l_put_in.nd rfl (Or.inl rfl))
        (pss_one (ps_if (pt_cmpR op_ne (pe_ix ix_list (pe_dget (hu_of hr) (pv 0) pe_str (fun _ _ => rfl)) (pe_op op_add (pv 1) (pv 4)) (fun _ _ => rfl)) (pe_ix ix_list (pv 2) (pv 4) (fun _ _ => rfl)) (nomark _))
        (pss_cons (ps_if (pt_not (pt_val (pe_call (G_l_write T) (hr.mono (by omega)) (by rfl) T.g_l_write T.F_l_write.kp T.B_l_write .nil pass0 (pa_cons (pv 0) (pa_cons (pe_op op_add (pv 1) (pv 4)) (pa_cons (pe_ix ix_list (pv 2) (pv 4) (fun _ _ => rfl)) pa_nil))))))
        (pss_one (ps_ret pe_non))
        pss_nil)
      (pss_one (ps_set (i := 3) sc_l_put_in.nd rfl (Or.inl rfl) (pe_op op_add (pv 3) pe_int))))
        pss_nil)))
      (pss_one (ps_ret (pe_ifExp (pt_val (pe_dget (hu_of hr) (pv 0) pe_str (fun _ _ => rfl))) (pv 3) pe_non))))), ?_⟩
    refine ⟨_, rfl, b, _, rfl, .inl (Dw.sq_of hB), _, rfl, by rw [List.length_map]; omega, by rw [List.length_map]; omega, for_range (lo := 0) (n := (ws.map V.int).length) (fun i σ H2 => ∃ (v4 : Option V) (m2 : Mm.Mem) (n : Int), σ = [some (.ref d), some (.int (j : Int)), some (.ref b), some (.int n), v4] ∧ OwnAt d c m2 H2 ∧ Mm.But [d, c] H H2 ∧ m2.cells.length = m.cells.length ∧ (∀ v ∈ m2.cells, Dw.cel v = true) ∧
        ((m.up = true ∧ m2.up = true ∧ m2.putGo (j + i) n (ws.drop i) = m.putGo j 0 ws) ∨ (m.up = false ∧ m2 = m))) ⟨_, m, 0, rfl, M, Mm.But.refl _ _, rfl, hcel, ?_⟩ ?_ ?_⟩
    · cases hu : m.up with
      | true => exact .inl ⟨rfl, rfl, rfl⟩
      | false => exact .inr ⟨rfl, rfl⟩
    · rintro i σ H2 hi ⟨v4, m2, n, rfl, M2, k2, el, hc2, hcase⟩
      rw [List.length_map] at hi
      have hx := List.getElem?_eq_getElem hi
      have hB2 := k2 _ _ nbm hB
      obtain ⟨y, hy⟩ : ∃ y, m2.cells[j + i]? = some y := ⟨_, List.getElem?_eq_getElem (show j + i < m2.cells.length by omega)⟩
      have ej : (j : Int) + (0 + (i : Int)) = ((j + i : Nat) : Int) := by omega
      have hwi : atI (ws.map V.int) (0 + (i : Int)) = some (.int ws[i]) := at_of (j := i) (by omega) (by rw [List.getElem?_map, hx]; rfl)
      have hcy := hc2 y (List.mem_of_getElem? hy)
      have hsc : scal y (.int ws[i]) = true := by
        rcases Dw.cel_cases hcy with ⟨z, rfl⟩ | rfl <;> rfl
      refine ⟨.ref d, rfl, d, _, rfl, M2.get okv_cells, _, rfl, _, rfl, (j : Int), 0 + (i : Int), rfl, rfl, c, _, (j : Int) + (0 + (i : Int)), y, rfl, rfl, Dw.sq_of M2.ls, at_of ej hy, _, rfl, _, rfl, b, _, 0 + (i : Int), .int ws[i], rfl, rfl, Dw.sq_of hB2, hwi, hsc, _, rfl, ite2 (fun hne => ?_) (fun heq => ?_)⟩
      · have hcx : ¬ m2.cells[j + i]? = some (.int ws[i]) := fun z => by
          rw [hy] at z
          rw [Option.some.inj z, decide_eq_true rfl] at hne
          cases hne
        refine ⟨.ref d, rfl, _, rfl, _, rfl, (j : Int), 0 + (i : Int), rfl, rfl, .ref b, rfl, _, rfl, b, _, 0 + (i : Int), .int ws[i], rfl, rfl, Dw.sq_of hB2, hwi, d, c, m2, j + i, ws[i], by show [V.ref d, V.int ((j : Int) + (0 + (i : Int))), V.int ws[i]] = _; rw [ej], M2, by omega, fun H4 M4 k4 => ⟨_, rfl, ?_⟩⟩
        cases hw : (m2.write (j + i) ws[i]).2 with
        | true =>
          refine iteF ?_
          refine ⟨_, rfl, n, 1, rfl, rfl, ?_⟩
          refine ⟨_, (m2.write (j + i) ws[i]).1, n + 1, rfl, M4, k2.trans k4, by rw [Mm.write_len]; exact el, ?_, ?_⟩
          · by_cases hu2 : m2.up = true
            · by_cases h0 : m2.left = some 0
              · rw [Mm.write_cut hu2 h0] at hw
                cases hw
              · rw [Mm.write_ok hu2 h0]
                exact Mm.cel_set hc2 rfl
            · rw [Mm.write_down (Bool.eq_false_iff.mpr hu2)] at hw
              cases hw
          · rcases hcase with ⟨hu, hu2, ep⟩ | ⟨hu, rfl⟩
            · rw [Sm.drop_at hx, Mm.putGo_cons, if_neg hcx, if_pos hw] at ep
              exact .inl ⟨hu, write_up hw, ep⟩
            · rw [Mm.write_down hu] at hw
              cases hw
        | false =>
          refine iteT ?_
          have ep2 : m.put j ws = ((m2.write (j + i) ws[i]).1, none) := by
            unfold Mm.Mem.put
            rcases hcase with ⟨hu, hu2, ep⟩ | ⟨hu, rfl⟩
            · rw [Sm.drop_at hx, Mm.putGo_cons, if_neg hcx, if_neg (by rw [hw]; decide)] at ep
              rw [if_pos hu, ep]
            · rw [if_neg (by rw [hu]; decide), Mm.write_down hu]
          have qq := q H4 (by rw [ep2]; exact M4) (k2.trans k4)
          rw [ep2] at qq
          exact qq
      · have hcx : m2.cells[j + i]? = some (.int ws[i]) := by
          rw [hy]
          by_cases z : y = .int ws[i]
          · rw [z]
          · exact absurd (by rw [decide_eq_false z]; rfl) heq
        refine ⟨_, m2, n, rfl, M2, k2, el, hc2, ?_⟩
        rcases hcase with ⟨hu, hu2, ep⟩ | ⟨hu, rfl⟩
        · rw [Sm.drop_at hx, Mm.putGo_cons, if_pos hcx] at ep
          exact .inl ⟨hu, hu2, ep⟩
        · exact .inr ⟨hu, rfl⟩
    · rintro σ H2 ⟨v4, m2, n, rfl, M2, k2, el, hc2, hcase⟩
      refine ⟨.ref d, rfl, d, _, rfl, M2.get okv_up, m2.up, rfl, ?_⟩
      rw [List.length_map] at hcase
      rw [List.drop_length] at hcase
      rcases hcase with ⟨hu, hu2, ep⟩ | ⟨hu, rfl⟩
      · rw [hu2]
        have ep2 : m.put j ws = (m2, some n) := by
          unfold Mm.Mem.put
          rw [if_pos hu, ← ep]
          rfl
        refine iteT ⟨_, rfl, ?_⟩
        have qq := q H2 (by rw [ep2]; exact M2) k2
        rw [ep2] at qq
        exact qq
      · rw [hu]
        have ep2 : m2.put j ws = (m2, none) := by
          unfold Mm.Mem.put
          rw [if_neg (by rw [hu]; decide)]
        refine iteF ?_
        have qq := q H2 (by rw [ep2]; exact M2) k2
        rw [ep2] at qq
        exact qq
/-! ### deeds -/
inductive Deed where
  | write (j : Nat) (v : Int) | put (j : Nat) (b : Addr) (ws : List Int) | spoil (j : Nat) (x : V) | cut (k : Nat) (t : Str) | up | row (j n : Nat)
def Deed.vs : Deed → List V
  | .write j v => [.str "write", .int (j : Int), .int v]
  | .put j b _ => [.str "put", .int (j : Int), .ref b]
  | .spoil j x => [.str "spoil", .int (j : Int), x]
  | .cut k t => [.str "cut", .int (k : Int), .str t]
  | .up => [.str "up", .int 0, .int 0]
  | .row j n => [.str "row", .int (j : Int), .int (n : Int)]
def Deed.Ok (m : Mm.Mem) (H : Hp) : Deed → Prop
  | .write j v => j < m.cells.length ∧ 0 ≤ v ∧ v ≤ 9972
  | .put j b ws => H b = some (.lst (ws.map V.int)) ∧ j + ws.length ≤ m.cells.length ∧ ∀ v ∈ ws, 0 ≤ v ∧ v ≤ 9972
  | .spoil j x => j < m.cells.length ∧ (x = .non ∨ ∃ v, x = .int v ∧ 0 ≤ v ∧ v ≤ 9972)
  | .cut k t => k ≤ 100000 ∧ (t = "old" ∨ t = "broken" ∨ t = "new")
  | .up => True
  | .row j n => j + n ≤ m.cells.length
def putD : Option Int → PyData
  | some n => .int n
  | none => .str "stopped"
def Deed.run (m : Mm.Mem) : Deed → Mm.Mem × PyData
  | .write j v => ((m.write j v).1, if (m.write j v).2 = true then .none else .str "stopped")
  | .put j _ ws => ((m.put j ws).1, putD (m.put j ws).2)
  | .spoil j x => ({ m with cells := m.cells.set j x }, .none)
  | .cut k t => ({ m with left := some k, torn := t }, .none)
  | .up => ({ m with up := true, left := none }, .none)
  | .row j n => (m, if m.up = true then .list (((m.cells.drop j).take n).map Dw.dat) else .str "stopped")
theorem cut_mid {xs : List V} {j n : Nat} (h : j + n ≤ xs.length) : cutV xs (some (j : Int)) (some ((j : Int) + n)) = (xs.drop j).take n := by
  unfold cutV
  rw [show (j : Int) + n = ((j + n : Nat) : Int) by omega, HT.sIx_nat, HT.sIx_nat, Nat.min_eq_left (show j ≤ xs.length by omega), Nat.min_eq_left h, Nat.add_sub_cancel_left]
/-- what is new since H and stands in H', but for tables, stands in H2 -/
def NewIn (H H' H2 : Hp) : Prop := ∀ b o, H b = none → Dw.NT o → H' b = some o → H2 b = some o
theorem G_l_due {a : Ad} (T : Top K mg a) : FnOk P w K mg base CX0 3 a.f_l_due a.d_l_due P_l_due (fun vs H Q _ => ∃ (d c t : Addr) (m : Mm.Mem) (D : Deed), vs = [.ref d, .ref t] ∧ OwnAt d c m H ∧ (∀ v ∈ m.cells, Dw.cel v = true) ∧ m.cells.length ≤ 400 ∧ H t = some (.tup D.vs) ∧ D.Ok m H ∧ (∀ j b ws, D = .put j b ws → b ≠ c) ∧
    ∀ H' x, OwnAt d c (D.run m).1 H' → Mm.But [d, c] H H' → (∀ H2, NewIn H H' H2 → Dw.Td H2 x (D.run m).2) → Q x H') := by
  refine T.F_l_due.ok sc_l_due (fun vs H Q E h => ?_) (fun cdv A outer s H vs Q E hr h => ?_)
  · obtain ⟨_, _, _, _, _, rfl, _⟩ := h
    rfl
  · obtain ⟨d, c, t, m, D, rfl, M, hcel, hlen, ht, hok, hbc, q⟩ := h
    have ndc := M.ne
    refine ⟨_, (pss_cons (ps_asg (pv 1) (pg_tup rfl (pgs_cons (pg_name (i := 2) sc_l_due.nd rfl (Or.inl rfl)) (pgs_cons (pg_name (i := 3) sc_l_due.nd rfl (Or.inl rfl)) (pgs_cons (pg_name (i := 4) sc_l_due.nd rfl (Or.inl rfl)) pgs_nil)))))
      (pss_cons (ps_if (pt_cmpR op_eq (pv 2) pe_str (nomark _))
        (pss_one (ps_ret (pe_ifExp (pt_val (pe_call (G_l_write T) (hr.mono (by omega)) (by rfl) T.g_l_write T.F_l_write.kp T.B_l_write .nil pass0 (pa_cons (pv 0) (pa_cons (pv 3) (pa_cons (pv 4) pa_nil))))) pe_non pe_str)))
        pss_nil)
      (pss_cons (ps_if (pt_cmpR op_eq (pv 2) pe_str (nomark _))
        (pss_cons (ps_set (i := 5) sc_l_due.nd rfl (Or.inl rfl) (pe_call (G_l_put_in T) (hr.mono (by omega)) (by rfl) T.g_l_put_in T.F_l_put_in.kp T.B_l_put_in .nil pass0 (pa_cons (pv 0) (pa_cons (pv 3) (pa_cons (pv 4) pa_nil)))))
      (pss_one (ps_ret (pe_ifExp (pt_cmpR op_isN (pv 5) pe_non (nomark _)) pe_str (pv 5)))))
        pss_nil)
      (C8.pss_cut (ps_if (pt_cmpR op_eq (pv 2) pe_str (nomark _))
        (pss_one (ps_asg (pv 4) (pg_sub (pe_dget (hu_of hr) (pv 0) pe_str (fun _ _ => rfl)) (pv 3) set_list)))
        pss_nil)
      (C8.pss_cut (ps_if (pt_cmpR op_eq (pv 2) pe_str (nomark _))
        (pss_one (ps_asg (pe_tup (pa_cons (pv 3) (pa_cons (pv 4) pa_nil))) (pg_tup rfl (pgs_cons (pg_sub (pv 0) pe_str (set_dict (hu_of hr))) (pgs_cons (pg_sub (pv 0) pe_str (set_dict (hu_of hr))) pgs_nil)))))
        pss_nil)
      (C8.pss_cut (ps_if (pt_cmpR op_eq (pv 2) pe_str (nomark _))
        (pss_cons (ps_dput (hu_of hr) (pv 0) pe_str pe_bl rfl)
      (pss_one (ps_dput (hu_of hr) (pv 0) pe_str pe_non rfl)))
        pss_nil)
      (pss_cons (ps_if (pt_cmpR op_eq (pv 2) pe_str (nomark _))
        (pss_one (ps_ret (pe_ifExp (pt_val (pe_dget (hu_of hr) (pv 0) pe_str (fun _ _ => rfl))) (pe_slice sl_list (pe_dget (hu_of hr) (pv 0) pe_str (fun _ _ => rfl)) (po_some (pv 3)) (po_some (pe_op op_add (pv 3) (pv 4)))) pe_str)))
        pss_nil)
      (pss_one (ps_ret pe_non))))))))), ?_⟩
    cases D with
    | write j v =>
      obtain ⟨h1, h2, h3⟩ := hok
      refine ⟨.ref t, rfl, t, _, rfl, Dw.st_of ht, rfl, _, [_, _], rfl, _, [_], rfl, _, [], rfl, rfl, ?_⟩
      refine ⟨_, rfl, rfl, _, rfl, ite2 (fun _ => ?_) (fun e => absurd (by decide +kernel) e)⟩
      refine ⟨.ref d, rfl, _, rfl, _, rfl, d, c, m, j, v, rfl, M, h1, fun H1 M1 k1 => ⟨_, rfl, ?_⟩⟩
      cases hw : (m.write j v).2 with
      | true => exact iteT (q H1 .non M1 k1 (fun H2 _ => by show Dw.Td H2 .non (if (m.write j v).2 = true then PyData.none else PyData.str "stopped"); rw [hw]; exact .non))
      | false => exact iteF (q H1 (.str "stopped") M1 k1 (fun H2 _ => by show Dw.Td H2 (.str "stopped") (if (m.write j v).2 = true then PyData.none else PyData.str "stopped"); rw [hw]; exact .str _))
    | put j b ws =>
      obtain ⟨h1, h2, h3⟩ := hok
      refine ⟨.ref t, rfl, t, _, rfl, Dw.st_of ht, rfl, _, [_, _], rfl, _, [_], rfl, _, [], rfl, rfl, ?_⟩
      refine ⟨_, rfl, rfl, _, rfl, ite2 (fun e => absurd e (by decide +kernel)) (fun _ => ?_)⟩
      refine ⟨_, rfl, rfl, _, rfl, ite2 (fun _ => ?_) (fun e => absurd (by decide +kernel) e)⟩
      refine ⟨.ref d, rfl, _, rfl, _, rfl, d, c, b, m, j, ws, rfl, M, hcel, h1, hbc j b ws rfl, h2, hlen, fun H1 M1 k1 => ?_⟩
      cases hp : (m.put j ws).2 with
      | some n =>
        refine ⟨_, rfl, rfl, _, rfl, ite2 (fun e => absurd (of_decide_eq_true e) (by intro z; cases z)) (fun _ => ?_)⟩
        exact ⟨_, rfl, q H1 (.int n) M1 k1 (fun H2 _ => by show Dw.Td H2 (.int n) (putD (m.put j ws).2); rw [hp]; exact .int n)⟩
      | none =>
        refine ⟨_, rfl, rfl, _, rfl, ite2 (fun _ => ?_) (fun e => absurd (by rfl) e)⟩
        exact q H1 (.str "stopped") M1 k1 (fun H2 _ => by show Dw.Td H2 (.str "stopped") (putD (m.put j ws).2); rw [hp]; exact .str _)
    | spoil j x =>
      obtain ⟨h1, h2⟩ := hok
      refine ⟨.ref t, rfl, t, _, rfl, Dw.st_of ht, rfl, _, [_, _], rfl, _, [_], rfl, _, [], rfl, rfl, ?_⟩
      refine ⟨_, rfl, rfl, _, rfl, ite2 (fun e => absurd e (by decide +kernel)) (fun _ => ?_)⟩
      refine ⟨_, rfl, rfl, _, rfl, ite2 (fun e => absurd e (by decide +kernel)) (fun _ => ?_)⟩
      let S : L2.St := [some (.ref d), some (.ref t), some (.str "spoil"), some (.int (j : Int)), some x, none]
      let m' : Mm.Mem := { m with cells := m.cells.set j x }
      have mid : ∀ H', OwnAt d c m' H' → Mm.But [d, c] H H' → Q .non H' := fun H' M' k => q H' .non M' k fun _ _ => .non
      refine ⟨fun σ' H' => σ' = S ∧ OwnAt d c m' H' ∧ Mm.But [d, c] H H', ?_, ?_⟩
      · refine ⟨_, rfl, rfl, _, rfl, ite2 (fun _ => ?_) (fun e => absurd (by decide +kernel) e)⟩
        refine ⟨x, rfl, .ref d, rfl, d, _, rfl, M.get okv_cells, _, rfl, c, _, (j : Int), j, rfl, rfl, M.ls, Dw.ixN_nat h1, ?_⟩
        exact ⟨rfl, ⟨by rw [upd_ne ndc]; exact M.ob, upd_same, M.tn⟩, Mm.But.upd (List.mem_cons_of_mem _ List.mem_cons_self)⟩
      · rintro σ' H1 ⟨rfl, M1, k1⟩
        refine ⟨fun σ' H' => σ' = S ∧ OwnAt d c m' H' ∧ Mm.But [d, c] H H', ?_, ?_⟩
        · exact ⟨_, rfl, rfl, _, rfl, ite2 (fun e => absurd e (by decide +kernel)) (fun _ => ⟨rfl, M1, k1⟩)⟩
        · rintro σ' H2 ⟨rfl, M2, k2⟩
          refine ⟨fun σ' H' => σ' = S ∧ OwnAt d c m' H' ∧ Mm.But [d, c] H H', ?_, ?_⟩
          · exact ⟨_, rfl, rfl, _, rfl, ite2 (fun e => absurd e (by decide +kernel)) (fun _ => ⟨rfl, M2, k2⟩)⟩
          · rintro σ' H3 ⟨rfl, M3, k3⟩
            exact ⟨_, rfl, rfl, _, rfl, ite2 (fun e => absurd e (by decide +kernel)) (fun _ => mid H3 M3 k3)⟩
    | cut k u =>
      obtain ⟨h1, h2⟩ := hok
      refine ⟨.ref t, rfl, t, _, rfl, Dw.st_of ht, rfl, _, [_, _], rfl, _, [_], rfl, _, [], rfl, rfl, ?_⟩
      refine ⟨_, rfl, rfl, _, rfl, ite2 (fun e => absurd e (by decide +kernel)) (fun _ => ?_)⟩
      refine ⟨_, rfl, rfl, _, rfl, ite2 (fun e => absurd e (by decide +kernel)) (fun _ => ?_)⟩
      let S : L2.St := [some (.ref d), some (.ref t), some (.str "cut"), some (.int (k : Int)), some (.str u), none]
      let m' : Mm.Mem := { m with left := some k, torn := u }
      have mid : ∀ H', OwnAt d c m' H' → Mm.But [d, c] H H' → Q .non H' := fun H' M' k => q H' .non M' k fun _ _ => .non
      refine ⟨fun σ' H' => σ' = S ∧ OwnAt d c m H' ∧ Mm.But [d, c] H H', ?_, ?_⟩
      · exact ⟨_, rfl, rfl, _, rfl, ite2 (fun e => absurd e (by decide +kernel)) (fun _ => ⟨rfl, M, Mm.But.refl _ _⟩)⟩
      · rintro σ' H1 ⟨rfl, M1, k1⟩
        refine ⟨fun σ' H' => σ' = S ∧ OwnAt d c m' H' ∧ Mm.But [d, c] H H', ?_, ?_⟩
        · refine ⟨_, rfl, rfl, _, rfl, ite2 (fun _ => ?_) (fun e => absurd (by decide +kernel) e)⟩
          refine ⟨_, rfl, _, rfl, Dw.sz_ rfl, fun p hp => ?_⟩
          have s1 : Same H1 (upd H1 p (.tup [.int (k : Int), .str u])) := Dw.same_upd hp
          have M2 := M1.mono s1
          have k2 := k1.trans (Mm.But.same s1)
          refine ⟨p, _, rfl, Dw.st_of upd_same, rfl, _, [_], rfl, .ref d, rfl, d, _, rfl, DPut.k (k := Sum.inr "left") M2.ob (okv_few c m), _, [], rfl, .ref d, rfl, d, _, rfl, DPut.k (k := Sum.inr "torn") upd_same ?_, rfl, ?_⟩
          · exact okv_few c { m with left := some k }
          · refine ⟨rfl, ⟨?_, by rw [upd_ne ndc.symm, upd_ne ndc.symm]; exact M2.ls, h2⟩, (k2.trans (Mm.But.upd List.mem_cons_self)).trans (Mm.But.upd List.mem_cons_self)⟩
            rw [upd_same]
            kernel_rfl
        · rintro σ' H2 ⟨rfl, M2, k2⟩
          refine ⟨fun σ' H' => σ' = S ∧ OwnAt d c m' H' ∧ Mm.But [d, c] H H', ?_, ?_⟩
          · exact ⟨_, rfl, rfl, _, rfl, ite2 (fun e => absurd e (by decide +kernel)) (fun _ => ⟨rfl, M2, k2⟩)⟩
          · rintro σ' H3 ⟨rfl, M3, k3⟩
            exact ⟨_, rfl, rfl, _, rfl, ite2 (fun e => absurd e (by decide +kernel)) (fun _ => mid H3 M3 k3)⟩
    | up =>
      refine ⟨.ref t, rfl, t, _, rfl, Dw.st_of ht, rfl, _, [_, _], rfl, _, [_], rfl, _, [], rfl, rfl, ?_⟩
      refine ⟨_, rfl, rfl, _, rfl, ite2 (fun e => absurd e (by decide +kernel)) (fun _ => ?_)⟩
      refine ⟨_, rfl, rfl, _, rfl, ite2 (fun e => absurd e (by decide +kernel)) (fun _ => ?_)⟩
      let S : L2.St := [some (.ref d), some (.ref t), some (.str "up"), some (.int 0), some (.int 0), none]
      let m' : Mm.Mem := { m with up := true, left := none }
      have mid : ∀ H', OwnAt d c m' H' → Mm.But [d, c] H H' → Q .non H' := fun H' M' k => q H' .non M' k fun _ _ => .non
      refine ⟨fun σ' H' => σ' = S ∧ OwnAt d c m H' ∧ Mm.But [d, c] H H', ?_, ?_⟩
      · exact ⟨_, rfl, rfl, _, rfl, ite2 (fun e => absurd e (by decide +kernel)) (fun _ => ⟨rfl, M, Mm.But.refl _ _⟩)⟩
      · rintro σ' H1 ⟨rfl, M1, k1⟩
        refine ⟨fun σ' H' => σ' = S ∧ OwnAt d c m H' ∧ Mm.But [d, c] H H', ?_, ?_⟩
        · exact ⟨_, rfl, rfl, _, rfl, ite2 (fun e => absurd e (by decide +kernel)) (fun _ => ⟨rfl, M1, k1⟩)⟩
        · rintro σ' H2 ⟨rfl, M2, k2⟩
          refine ⟨fun σ' H' => σ' = S ∧ OwnAt d c m' H' ∧ Mm.But [d, c] H H', ?_, ?_⟩
          · refine ⟨_, rfl, rfl, _, rfl, ite2 (fun _ => ?_) (fun e => absurd (by decide +kernel) e)⟩
            refine ⟨.ref d, rfl, d, _, rfl, DPut.k (k := Sum.inr "up") M2.ob (okv_few c m), ?_⟩
            refine ⟨.ref d, rfl, d, _, rfl, DPut.k (k := Sum.inr "left") upd_same (okv_few c { m with up := true }), ?_⟩
            refine ⟨rfl, ⟨?_, by rw [upd_ne ndc.symm, upd_ne ndc.symm]; exact M2.ls, M2.tn⟩, (k2.trans (Mm.But.upd List.mem_cons_self)).trans (Mm.But.upd List.mem_cons_self)⟩
            rw [upd_same]
            kernel_rfl
          · rintro σ' H3 ⟨rfl, M3, k3⟩
            exact ⟨_, rfl, rfl, _, rfl, ite2 (fun e => absurd e (by decide +kernel)) (fun _ => mid H3 M3 k3)⟩
    | row j n =>
      refine ⟨.ref t, rfl, t, _, rfl, Dw.st_of ht, rfl, _, [_, _], rfl, _, [_], rfl, _, [], rfl, rfl, ?_⟩
      refine ⟨_, rfl, rfl, _, rfl, ite2 (fun e => absurd e (by decide +kernel)) (fun _ => ?_)⟩
      refine ⟨_, rfl, rfl, _, rfl, ite2 (fun e => absurd e (by decide +kernel)) (fun _ => ?_)⟩
      let S : L2.St := [some (.ref d), some (.ref t), some (.str "row"), some (.int (j : Int)), some (.int (n : Int)), none]
      refine ⟨fun σ' H' => σ' = S ∧ H' = H, ?_, ?_⟩
      · exact ⟨_, rfl, rfl, _, rfl, ite2 (fun e => absurd e (by decide +kernel)) (fun _ => ⟨rfl, rfl⟩)⟩
      · rintro σ' H1 ⟨rfl, rfl⟩
        refine ⟨fun σ' H' => σ' = S ∧ H' = H1, ?_, ?_⟩
        · exact ⟨_, rfl, rfl, _, rfl, ite2 (fun e => absurd e (by decide +kernel)) (fun _ => ⟨rfl, rfl⟩)⟩
        · rintro σ' H2 ⟨rfl, rfl⟩
          refine ⟨fun σ' H' => σ' = S ∧ H' = H2, ?_, ?_⟩
          · exact ⟨_, rfl, rfl, _, rfl, ite2 (fun e => absurd e (by decide +kernel)) (fun _ => ⟨rfl, rfl⟩)⟩
          · rintro σ' H3 ⟨rfl, rfl⟩
            refine ⟨_, rfl, rfl, _, rfl, ite2 (fun _ => ?_) (fun e => absurd (by decide +kernel) e)⟩
            refine ⟨.ref d, rfl, d, _, rfl, M.get okv_up, m.up, rfl, ?_⟩
            cases hu : m.up with
            | true =>
              refine iteT ?_
              refine ⟨.ref d, rfl, d, _, rfl, M.get okv_cells, _, rfl, (j : Int), rfl, _, rfl, _, rfl, (j : Int), (n : Int), rfl, rfl, (j : Int) + n, rfl, c, _, rfl, Dw.sq_of M.ls, fun p hp => ?_⟩
              have hj : j + n ≤ m.cells.length := hok
              have s1 : Same H3 (upd H3 p (.lst (cutV m.cells (some (j : Int)) (some ((j : Int) + n))))) := Dw.same_upd hp
              have hcut : ∀ v ∈ (m.cells.drop j).take n, Dw.cel v = true := fun v hv => hcel v (List.mem_of_mem_drop (List.mem_of_mem_take hv))
              refine q _ (.ref p) (M.mono s1) (Mm.But.same s1) fun H4 nw => ?_
              show Dw.Td _ _ (if m.up = true then PyData.list (((m.cells.drop j).take n).map Dw.dat) else .str "stopped")
              rw [hu, if_pos rfl]
              exact .lst (nw _ _ hp Dw.NT.lst (by rw [upd_same, cut_mid hj])) (by rw [List.length_take, List.length_drop]; omega) (Dw.TdAll.cel hcut)
            | false =>
              refine iteF ?_
              refine q H3 (.str "stopped") M (Mm.But.refl _ _) fun H4 _ => ?_
              show Dw.Td _ _ (if m.up = true then PyData.list (((m.cells.drop j).take n).map Dw.dat) else .str "stopped")
              rw [hu, if_neg (by decide)]
              exact .str _

/-! ### deeds done on the memory, what is stopped told -/
/-- the name of its lambdas' code -/
def lamQ : Str := (envOfC "_law_does" (defScope s_l_does) 0 0 Value.none).qual ++ "<lambda>"
def TX : HO → Bool
  | .tbl _ => true
  | .ext _ => true
  | _ => false
theorem tabs_but {L : List (Addr × Str)} {S : List Addr} {H H' : Hp} (t : LamX.Tabs L H) (k : Mm.But S H H') (h : ∀ b ∈ S, ∀ o, H b = some o → TX o = false) : LamX.Tabs L H' := fun p hp => by
  obtain ⟨ps, h1, h2, h3⟩ := t p hp
  have out : ∀ b o, H b = some o → TX o = true → H' b = some o := fun b o e z => k b o (fun m => by rw [h b m o e] at z; cases z) e
  refine ⟨ps, out _ _ h1 rfl, h2, fun pos cv hc => ?_⟩
  obtain ⟨c, e1, e2⟩ := h3 pos cv hc
  exact ⟨c, e1, out _ _ e2 rfl⟩
/-- does, as it stands, its code object told -/
structure DoesAt (K : PySem.W.Frag) (base : Heap) (mg : Str → Option Value) (a : Ad) (c Pt : Addr) : Prop where
  ex : ∃ (oc : Value) (od : Option Addr) (kV doc pm : Value) (an : Option Addr) (ct : Value) (osl : Array (Option Value)),
    a.d_l_does = PySem.W.fnOf "_law_does" "_law_does" (defArgs s_l_does) (defBody s_l_does) (defScope s_l_does) .none kV doc pm an (.ref c) ct ∧ K.lookup a.f_l_does = some ⟨oc, od, .func a.d_l_does, osl⟩ ∧ PySem.W.codeIn K (.ref c) "_law_does" = true
  tb : LamX.TabB base mg c Pt
def spDoes (C Pt : Addr) : Sp := fun vs H Q _ => ∃ (p l t : Addr) (m : Mm.Mem) (D : Deed), vs = [.ref p, .ref t] ∧ Mm.MemAt C p l m H ∧ H t = some (.tup D.vs) ∧ D.Ok m H ∧ (∀ j b ws, D = .put j b ws → b ≠ l) ∧ LamX.Tabs [(Pt, lamQ)] H ∧
  ∀ H' x, Mm.MemAt C p l (D.run m).1 H' → Mm.ButN [p, l] H H' → LamX.Tabs [(Pt, lamQ)] H' → Dw.Td H' x (D.run m).2 → Q x H'
theorem G_l_does {a : Ad} (T : Top K mg a) {c Pt : Addr} (Z : DoesAt K base mg a c Pt) : FnOk P w K mg base CX0 6 a.f_l_does a.d_l_does P_l_does (spDoes a.C_Memory Pt) := by
  obtain ⟨oc, od, kV, doc, pm, an, ct, osl, efd, lk, hcd⟩ := Z.ex
  have TB := Z.tb
  obtain ⟨oc2, od2, kV2, doc2, pm2, an2, cdv2, ct2, osl2, efd2, lkT, hcT⟩ := T.F_l_told.ex
  have bT := T.B_l_told
  rw [efd2] at lkT bT
  rw [efd] at lk ⊢
  refine fn_of lk hcd sc_l_does (fun vs H Q E h => ?_) (fun A outer s H vs Q E hr h => ?_)
  · obtain ⟨_, _, _, _, _, rfl, _⟩ := h
    rfl
  · obtain ⟨p, l, t, m, D, rfl, M, ht, hok, hbl, hT, q⟩ := h
    have body : ∃ tt, PSs (cxOf CX0 P w K mg base N_l_does "_law_does" (defScope s_l_does) a.f_l_does (.ref c) A outer s H E).nox (defBody s_l_does) tt ∧ tt { nx := fun _ H' => Q .non H', rt := Q } (L2.start N_l_does [.ref p, .ref t]) H := by
      refine ⟨_, (pss_cons (ps_asg (pv 1) (pg_tup rfl (pgs_cons (pg_name (i := 2) sc_l_does.nd rfl (Or.inl rfl)) (pgs_cons (pg_name (i := 3) sc_l_does.nd rfl (Or.inr rfl)) (pgs_cons (pg_name (i := 4) sc_l_does.nd rfl (Or.inr rfl)) pgs_nil)))))
      (pss_cons (ps_if (pt_cmpR op_eq (pv 2) pe_str (nomark _))
        (pss_one (ps_ret (LamX.pe_lamcall (k := 3) (T := [(Pt, lamQ)]) (TT := LamX.TTold K a.C_Stopped "stopped") (by rfl) T.g_l_told T.F_l_told.kp lkT hcT bT sc_l_told rfl (.inl rfl) (LamX.told_gives rfl T.g_Stopped (by decide) (fun _ => rfl)) TB rfl (List.mem_singleton.mpr rfl) (fun _ h _ => (congrArg Prod.snd (List.mem_singleton.mp h)).trans rfl) (hr.mono (by omega)) (LamX.lamS_by (sc := defScope s_l_does) (by decide +kernel)) rfl (fun _ _ _ _ _ => rfl) (fun A2 outer2 s2 H2 E2 f2 c2 hr2 => (pe_meth (pv 0) T.cl_Memory T.m_Memory_write (G_Memory_write T) (hr2.mono (by omega)) T.B_Memory_write .nil (passes_call (takes_of rfl rfl rfl rfl) fun _ _ _ _ h => h) (pa_cons (pv 3) (pa_cons (pv 4) pa_nil)))))))
        pss_nil)
      (pss_cons (ps_if (pt_cmpR op_eq (pv 2) pe_str (nomark _))
        (pss_one (ps_ret (LamX.pe_lamcall (k := 3) (T := [(Pt, lamQ)]) (TT := LamX.TTold K a.C_Stopped "stopped") (by rfl) T.g_l_told T.F_l_told.kp lkT hcT bT sc_l_told rfl (.inl rfl) (LamX.told_gives rfl T.g_Stopped (by decide) (fun _ => rfl)) TB rfl (List.mem_singleton.mpr rfl) (fun _ h _ => (congrArg Prod.snd (List.mem_singleton.mp h)).trans rfl) (hr.mono (by omega)) (LamX.lamS_by (sc := defScope s_l_does) (by decide +kernel)) rfl (fun _ _ _ _ _ => rfl) (fun A2 outer2 s2 H2 E2 f2 c2 hr2 => (pe_meth (pv 0) T.cl_Memory T.m_Memory_put (G_Memory_put T) (hr2.mono (by omega)) T.B_Memory_put .nil (passes_call (takes_of rfl rfl rfl rfl) fun _ _ _ _ h => h) (pa_cons (pv 3) (pa_cons (pv 4) pa_nil)))))))
        pss_nil)
      (pss_cons (ps_if (pt_cmpR op_eq (pv 2) pe_str (nomark _))
        (pss_one (ps_ret (pe_meth (pv 0) T.cl_Memory T.m_Memory_spoil (G_Memory_spoil T) (hr.mono (by omega)) T.B_Memory_spoil .nil pass0 (pa_cons (pv 3) (pa_cons (pv 4) pa_nil)))))
        pss_nil)
      (pss_cons (ps_if (pt_cmpR op_eq (pv 2) pe_str (nomark _))
        (pss_one (ps_ret (pe_meth (pv 0) T.cl_Memory T.m_Memory_cut (G_Memory_cut T) (hr.mono (by omega)) T.B_Memory_cut .nil pass0 (pa_cons (pv 3) (pa_cons (pv 4) pa_nil)))))
        pss_nil)
      (pss_one (ps_ret (pe_ifExp (pt_cmpR op_eq (pv 2) pe_str (nomark _)) (pe_meth0 (pv 0) T.cl_Memory T.m_Memory_up (G_Memory_up T) (hr.mono (by omega)) T.B_Memory_up .nil pass0) (LamX.pe_lamcall (k := 3) (T := [(Pt, lamQ)]) (TT := LamX.TTold K a.C_Stopped "stopped") (by rfl) T.g_l_told T.F_l_told.kp lkT hcT bT sc_l_told rfl (.inl rfl) (LamX.told_gives rfl T.g_Stopped (by decide) (fun _ => rfl)) TB rfl (List.mem_singleton.mpr rfl) (fun _ h _ => (congrArg Prod.snd (List.mem_singleton.mp h)).trans rfl) (hr.mono (by omega)) (LamX.lamS_by (sc := defScope s_l_does) (by decide +kernel)) rfl (fun _ _ _ _ _ => rfl) (fun A2 outer2 s2 H2 E2 f2 c2 hr2 => (pe_meth (pv 0) T.cl_Memory T.m_Memory_row (G_Memory_row T) (hr2.mono (by omega)) T.B_Memory_row .nil (passes_call (takes_of rfl rfl rfl rfl) fun _ _ _ _ h => h) (pa_cons (pv 3) (pa_cons (pv 4) pa_nil))))))))))))), ?_⟩
      obtain ⟨dx, ah, hp, _⟩ := M.ob
      have npl := M.ne
      -- behind a lambda's making
      have mk : ∀ H1, LamX.ExtN H H1 → Mm.ButN [] H H1 := fun H1 e b o _ n h => e b o h n
      have back : ∀ {m' : Mm.Mem} {H1 H2 : Hp}, LamX.ExtN H H1 → LamX.Tabs [(Pt, lamQ)] H1 → Mm.MemAt a.C_Memory p l m' H2 → Mm.But [p, l] H1 H2 → Mm.ButN [p, l] H H2 ∧ LamX.Tabs [(Pt, lamQ)] H2 := fun {m' H1 H2} e t1 M2 k => by
        have M1 := M.butN (mk H1 e) (by simp) (by simp)
        obtain ⟨dx1, ah1, hp1, _⟩ := M1.ob
        refine ⟨((mk H1 e).more (by simp)).trans k.n, tabs_but t1 k fun b hb o ho => ?_⟩
        rcases List.mem_cons.mp hb with z | z
        · rw [z, hp1] at ho
          rw [← Option.some.inj ho]
          rfl
        · rw [List.mem_singleton.mp z, M1.ls] at ho
          rw [← Option.some.inj ho]
          rfl
      cases D with
      | write j v =>
        obtain ⟨h1, h2, h3⟩ := hok
        refine ⟨.ref t, rfl, t, _, rfl, Dw.st_of ht, rfl, _, [_, _], rfl, _, [_], rfl, _, [], rfl, rfl, ?_⟩
        refine ⟨_, rfl, rfl, _, rfl, ite2 (fun _ => ?_) (fun e => absurd (by decide +kernel) e)⟩
        refine ⟨hT, fun H1 e1 t1 => ?_⟩
        have M1 := M.butN (mk H1 e1) (by simp) (by simp)
        obtain ⟨dx1, ah1, hp1, _⟩ := M1.ob
        refine ⟨.ref p, rfl, p, dx1, _, rfl, hp1, no_attr (by decide +kernel), _, rfl, _, rfl, p, l, m, j, v, rfl, M1, h1, h2, h3, fun H2 M2 k2 => ⟨fun hw => ?_, fun hw => ⟨true, T.e_Stopped, fun _ => ?_, fun z => (by cases z)⟩⟩⟩
        · obtain ⟨k3, t3⟩ := back e1 t1 M2 k2
          exact q H2 .non M2 k3 t3 (by show Dw.Td H2 .non (if (m.write j v).2 = true then PyData.none else PyData.str "stopped"); rw [hw]; exact .non)
        · obtain ⟨k3, t3⟩ := back e1 t1 M2 k2
          exact q H2 (.str "stopped") M2 k3 t3 (by show Dw.Td H2 (.str "stopped") (if (m.write j v).2 = true then PyData.none else PyData.str "stopped"); rw [hw]; exact .str _)
      | put j b ws =>
        obtain ⟨h1, h2, h3⟩ := hok
        refine ⟨.ref t, rfl, t, _, rfl, Dw.st_of ht, rfl, _, [_, _], rfl, _, [_], rfl, _, [], rfl, rfl, ?_⟩
        refine ⟨_, rfl, rfl, _, rfl, ite2 (fun e => absurd e (by decide +kernel)) (fun _ => ?_)⟩
        refine ⟨_, rfl, rfl, _, rfl, ite2 (fun _ => ?_) (fun e => absurd (by decide +kernel) e)⟩
        refine ⟨hT, fun H1 e1 t1 => ?_⟩
        have M1 := M.butN (mk H1 e1) (by simp) (by simp)
        obtain ⟨dx1, ah1, hp1, _⟩ := M1.ob
        refine ⟨.ref p, rfl, p, dx1, _, rfl, hp1, no_attr (by decide +kernel), _, rfl, _, rfl, p, l, b, m, j, ws, rfl, M1, Dw.sq_of (mk H1 e1 _ _ (by simp) Dw.NT.lst h1), hbl j b ws rfl, h2, h3, fun H2 M2 k2 => ⟨fun n hw => ?_, fun hw => ⟨true, T.e_Stopped, fun _ => ?_, fun z => (by cases z)⟩⟩⟩
        · obtain ⟨k3, t3⟩ := back e1 t1 M2 k2
          exact q H2 (.int n) M2 k3 t3 (by show Dw.Td H2 (.int n) (putD (m.put j ws).2); rw [hw]; exact .int n)
        · obtain ⟨k3, t3⟩ := back e1 t1 M2 k2
          exact q H2 (.str "stopped") M2 k3 t3 (by show Dw.Td H2 (.str "stopped") (putD (m.put j ws).2); rw [hw]; exact .str _)
      | spoil j x =>
        obtain ⟨h1, h2⟩ := hok
        refine ⟨.ref t, rfl, t, _, rfl, Dw.st_of ht, rfl, _, [_, _], rfl, _, [_], rfl, _, [], rfl, rfl, ?_⟩
        refine ⟨_, rfl, rfl, _, rfl, ite2 (fun e => absurd e (by decide +kernel)) (fun _ => ?_)⟩
        refine ⟨_, rfl, rfl, _, rfl, ite2 (fun e => absurd e (by decide +kernel)) (fun _ => ?_)⟩
        refine ⟨_, rfl, rfl, _, rfl, ite2 (fun _ => ?_) (fun e => absurd (by decide +kernel) e)⟩
        refine ⟨.ref p, rfl, p, dx, _, rfl, hp, no_attr (by decide +kernel), _, rfl, _, rfl, p, l, m, j, x, rfl, M, h1, h2, fun H2 M2 k2 => ?_⟩
        obtain ⟨k3, t3⟩ := back (LamX.ExtN.refl H) hT M2 k2
        exact q H2 .non M2 k3 t3 .non
      | cut k u =>
        obtain ⟨h1, h2⟩ := hok
        refine ⟨.ref t, rfl, t, _, rfl, Dw.st_of ht, rfl, _, [_, _], rfl, _, [_], rfl, _, [], rfl, rfl, ?_⟩
        refine ⟨_, rfl, rfl, _, rfl, ite2 (fun e => absurd e (by decide +kernel)) (fun _ => ?_)⟩
        refine ⟨_, rfl, rfl, _, rfl, ite2 (fun e => absurd e (by decide +kernel)) (fun _ => ?_)⟩
        refine ⟨_, rfl, rfl, _, rfl, ite2 (fun e => absurd e (by decide +kernel)) (fun _ => ?_)⟩
        refine ⟨_, rfl, rfl, _, rfl, ite2 (fun _ => ?_) (fun e => absurd (by decide +kernel) e)⟩
        refine ⟨.ref p, rfl, p, dx, _, rfl, hp, no_attr (by decide +kernel), _, rfl, _, rfl, p, l, m, k, u, rfl, M, h1, h2, fun H2 M2 k2 => ?_⟩
        obtain ⟨k3, t3⟩ := back (LamX.ExtN.refl H) hT M2 k2
        exact q H2 .non M2 k3 t3 .non
      | up =>
        refine ⟨.ref t, rfl, t, _, rfl, Dw.st_of ht, rfl, _, [_, _], rfl, _, [_], rfl, _, [], rfl, rfl, ?_⟩
        refine ⟨_, rfl, rfl, _, rfl, ite2 (fun e => absurd e (by decide +kernel)) (fun _ => ?_)⟩
        refine ⟨_, rfl, rfl, _, rfl, ite2 (fun e => absurd e (by decide +kernel)) (fun _ => ?_)⟩
        refine ⟨_, rfl, rfl, _, rfl, ite2 (fun e => absurd e (by decide +kernel)) (fun _ => ?_)⟩
        refine ⟨_, rfl, rfl, _, rfl, ite2 (fun e => absurd e (by decide +kernel)) (fun _ => ?_)⟩
        refine ⟨_, rfl, rfl, _, rfl, ite2 (fun _ => ?_) (fun e => absurd (by decide +kernel) e)⟩
        refine ⟨.ref p, rfl, p, dx, _, rfl, hp, no_attr (by decide +kernel), p, l, m, rfl, M, fun H2 M2 k2 => ?_⟩
        obtain ⟨k3, t3⟩ := back (LamX.ExtN.refl H) hT M2 k2
        exact q H2 .non M2 k3 t3 .non
      | row j n =>
        have hj : j + n ≤ m.cells.length := hok
        refine ⟨.ref t, rfl, t, _, rfl, Dw.st_of ht, rfl, _, [_, _], rfl, _, [_], rfl, _, [], rfl, rfl, ?_⟩
        refine ⟨_, rfl, rfl, _, rfl, ite2 (fun e => absurd e (by decide +kernel)) (fun _ => ?_)⟩
        refine ⟨_, rfl, rfl, _, rfl, ite2 (fun e => absurd e (by decide +kernel)) (fun _ => ?_)⟩
        refine ⟨_, rfl, rfl, _, rfl, ite2 (fun e => absurd e (by decide +kernel)) (fun _ => ?_)⟩
        refine ⟨_, rfl, rfl, _, rfl, ite2 (fun e => absurd e (by decide +kernel)) (fun _ => ?_)⟩
        refine ⟨_, rfl, rfl, _, rfl, ite2 (fun e => absurd e (by decide +kernel)) (fun _ => ?_)⟩
        refine ⟨hT, fun H1 e1 t1 => ?_⟩
        have M1 := M.butN (mk H1 e1) (by simp) (by simp)
        obtain ⟨dx1, ah1, hp1, _⟩ := M1.ob
        refine ⟨.ref p, rfl, p, dx1, _, rfl, hp1, no_attr (by decide +kernel), _, rfl, _, rfl, p, l, m, j, n, rfl, M1, hj, fun hu H2 c2 s2 n2 h2 => ?_, fun hu => ⟨true, T.e_Stopped, fun _ => ?_, fun z => (by cases z)⟩⟩
        · obtain ⟨k3, t3⟩ := back e1 t1 (M1.mono s2) (Mm.But.same s2)
          refine q H2 (.ref c2) (M1.mono s2) k3 t3 ?_
          show Dw.Td _ _ (if m.up = true then PyData.list (((m.cells.drop j).take n).map Dw.dat) else .str "stopped")
          rw [hu, if_pos rfl]
          have hlen := M.len
          exact .lst h2 (by rw [List.length_take, List.length_drop]; omega) (Dw.TdAll.cel fun v hv => M.cel v (List.mem_of_mem_drop (List.mem_of_mem_take hv)))
        · obtain ⟨k3, t3⟩ := back e1 t1 M1 (Mm.But.refl _ _)
          refine q H1 (.str "stopped") M1 k3 t3 ?_
          show Dw.Td _ _ (if m.up = true then PyData.list (((m.cells.drop j).take n).map Dw.dat) else .str "stopped")
          rw [hu, if_neg (by decide)]
          exact .str _
    obtain ⟨t, h, q⟩ := body
    exact ⟨t, h.nox, q⟩

/-! ### a deed drawn -/
/-- numbers that a cell may hold, or None -/
def Rng (cs : List V) : Prop := ∀ v ∈ cs, v = .non ∨ ∃ x : Int, v = .int x ∧ 0 ≤ x ∧ x ≤ 9972
theorem Rng.cel {cs : List V} (h : Rng cs) : ∀ v ∈ cs, Dw.cel v = true := fun v m => by
  rcases h v m with rfl | ⟨x, rfl, _⟩ <;> rfl
theorem Rng.set {cs : List V} (h : Rng cs) {j : Nat} {v : V} (hv : v = .non ∨ ∃ x : Int, v = .int x ∧ 0 ≤ x ∧ x ≤ 9972) : Rng (cs.set j v) := fun y m => by
  rcases List.mem_or_eq_of_mem_set m with z | z
  · exact h y z
  · rw [z]
    exact hv
theorem Rng.torn {t : Str} {cs : List V} (h : Rng cs) {j : Nat} {v : Int} (v0 : 0 ≤ v) (v1 : v ≤ 9972) : Rng (Mm.tornTo t cs j v) := by
  unfold Mm.tornTo
  split
  · exact h.set (.inl rfl)
  · split
    · exact h.set (.inr ⟨v, rfl, v0, v1⟩)
    · exact h
theorem Rng.write {m : Mm.Mem} (h : Rng m.cells) {j : Nat} {v : Int} (v0 : 0 ≤ v) (v1 : v ≤ 9972) : Rng (m.write j v).1.cells := by
  by_cases hu : m.up = true
  · by_cases h0 : m.left = some 0
    · rw [Mm.write_cut hu h0]
      exact h.torn v0 v1
    · rw [Mm.write_ok hu h0]
      exact h.set (.inr ⟨v, rfl, v0, v1⟩)
  · rw [Mm.write_down (Bool.eq_false_iff.mpr hu)]
    exact h
theorem Rng.putGo : ∀ {ws : List Int} {m : Mm.Mem} {j : Nat} {n : Int}, Rng m.cells → (∀ v ∈ ws, 0 ≤ v ∧ v ≤ 9972) → Rng (m.putGo j n ws).1.cells
  | [], _, _, _, h, _ => h
  | v :: r, m, j, n, h, hw => by
    obtain ⟨v0, v1⟩ := hw v List.mem_cons_self
    have hr : ∀ u ∈ r, 0 ≤ u ∧ u ≤ 9972 := fun u mu => hw u (List.mem_cons_of_mem _ mu)
    rw [Mm.putGo_cons]
    split
    · exact Rng.putGo h hr
    · split
      · exact Rng.putGo (h.write v0 v1) hr
      · exact h.write v0 v1
theorem Rng.run {m : Mm.Mem} {H : Hp} (h : Rng m.cells) {D : Deed} (ok : D.Ok m H) : Rng (D.run m).1.cells ∧ (D.run m).1.cells.length = m.cells.length := by
  cases D with
  | write j v => exact ⟨h.write ok.2.1 ok.2.2, Mm.write_len _ _ _⟩
  | put j b ws =>
    show Rng (m.put j ws).1.cells ∧ (m.put j ws).1.cells.length = _
    unfold Mm.Mem.put
    split
    · exact ⟨Rng.putGo h ok.2.2, Mm.putGo_len _ _ _ _⟩
    · exact ⟨h, rfl⟩
  | spoil j x => exact ⟨h.set ok.2, List.length_set⟩
  | cut k t => exact ⟨h, rfl⟩
  | up => exact ⟨h, rfl⟩
  | row j n => exact ⟨h, rfl⟩
theorem Dr_ne_cells {K : PySem.W.Frag} {H0 : Hp} {ns : List Int} {a r b : Addr} {H : Hp} {cs : List V} (D : Dw.Dr K H0 ns a r H) (hc : ∀ v ∈ cs, Dw.cel v = true) (h : H b = some (.lst cs)) : b ≠ r := by
  obtain ⟨_, _, _, e, _⟩ := D.row
  refine ne_of h e fun z => ?_
  injection z with z
  have := hc (.ref a) (by rw [z]; exact List.mem_cons_self)
  cases this
theorem G_l_drawn {a : Ad} (T : Top K mg a) : FnOk P w K mg base CX0 3 a.f_l_drawn a.d_l_drawn P_l_drawn (fun vs H Q _ => ∃ (H0 : Hp) (ns : List Int) (sa r d c : Addr) (m : Mm.Mem), vs = [.ref r, .ref d] ∧ Dw.Dr K H0 ns sa r H ∧ OwnAt d c m H ∧ Rng m.cells ∧ 1 ≤ m.cells.length ∧ m.cells.length ≤ 400 ∧
    ∀ H' t D, Dw.Dr K H0 ns sa r H' → Dw.Keep r H H' → H' t = some (.tup (Deed.vs D)) → D.Ok m H' → (∀ j b ws, D = .put j b ws → H b = none) → Q (.ref t) H') := by
  refine T.F_l_drawn.ok sc_l_drawn (fun vs H Q E h => ?_) (fun cdv A outer s H vs Q E hr h => ?_)
  · obtain ⟨_, _, _, _, _, _, _, rfl, _⟩ := h
    rfl
  · obtain ⟨H0, ns, sa, r, d, c, m, rfl, D0, M0, hrng, l1, l4, q⟩ := h
    have ndr : d ≠ r := by
      obtain ⟨_, _, _, e, _⟩ := D0.row
      exact ne_of M0.ob e (by intro z; cases z)
    have ncr : c ≠ r := Dr_ne_cells D0 hrng.cel M0.ls
    refine ⟨_, (pss_cons (ps_set (i := 2) sc_l_drawn.nd rfl (Or.inl rfl) (pe_callB call_len_seq (by rfl) T.b_len PySem.boot_len (pa_cons (pe_dget (hu_of hr) (pv 1) pe_str (fun _ _ => rfl)) pa_nil)))
      (pss_cons (ps_set (i := 3) sc_l_drawn.nd rfl (Or.inl rfl) (pe_call (G_l_taken T) (hr.mono (by omega)) (by rfl) T.g_l_taken T.F_l_taken.kp T.B_l_taken .nil pass0 (pa_cons (pv 0) (pa_cons (pv 2) pa_nil))))
      (pss_cons (ps_set (i := 4) sc_l_drawn.nd rfl (Or.inl rfl) (pe_call (G_l_taken T) (hr.mono (by omega)) (by rfl) T.g_l_taken T.F_l_taken.kp T.B_l_taken .nil pass0 (pa_cons (pv 0) (pa_cons pe_int pa_nil))))
      (pss_cons (ps_setLc (i := 5) (own := [(("_law_k" : Str), 6)]) (g := (gName 6)) (tt := tYes) (by rfl) sc_l_drawn.nd rfl rfl (sw_true rfl rfl rfl (by decide +kernel)) (pi_range1 (by rfl) T.b_range (pa_cons (pe_op op_add pe_int (pe_call (G_l_taken T) (hr.mono (by omega)) (by rfl) T.g_l_taken T.F_l_taken.kp T.B_l_taken .nil pass0 (pa_cons (pv 0) (pa_cons (pe_callB (call_min2 rfl) (by rfl) T.b_min (by decide +kernel) (pa_cons pe_int (pa_cons (pe_op op_sub (pv 2) (pv 3)) pa_nil))) pa_nil)))) pa_nil)) (blkOk_by (own := [(("_law_k" : Str), 6)]) (N := N_l_drawn) (sc := defScope s_l_drawn) (by decide +kernel)) (fun _ _ _ _ _ => (pg_name (i := 6) sc_l_drawn.nd rfl (Or.inl rfl))) (fun _ _ _ _ _ => pts_nil) (fun _ _ _ _ _ => (pe_call (G_l_worth T) (hr.mono (by omega)) (by rfl) T.g_l_worth T.F_l_worth.kp T.B_l_worth .nil pass0 (pa_cons (pv 0) pa_nil))))
      (pss_cons (ps_for PassesOwn.never rfl (pi_range1 (by rfl) T.b_range (pa_cons (pe_callB call_len_seq (by rfl) T.b_len PySem.boot_len (pa_cons (pv 5) pa_nil)) pa_nil)) (pg_name (i := 6) sc_l_drawn.nd rfl (Or.inl rfl))
        (pss_one (ps_if (PW.pt (pw_and (pt_cmpR op_eq (pe_call (G_l_taken T) (hr.mono (by omega)) (by rfl) T.g_l_taken T.F_l_taken.kp T.B_l_taken .nil pass0 (pa_cons (pv 0) (pa_cons pe_int pa_nil))) pe_int (nomark _)) (pw_and1 (pt_cmpR op_notN (pe_ix ix_list (pe_dget (hu_of hr) (pv 1) pe_str (fun _ _ => rfl)) (pe_op op_add (pv 3) (pv 6)) (fun _ _ => rfl)) pe_non (nomark _)))))
        (pss_one (ps_asg (pe_ix ix_list (pe_dget (hu_of hr) (pv 1) pe_str (fun _ _ => rfl)) (pe_op op_add (pv 3) (pv 6)) (fun _ _ => rfl)) (pg_sub (pv 5) (pv 6) set_list)))
        pss_nil)))
      (pss_cons (ps_if (pt_cmpR op_lt (pv 4) pe_int (nomark _))
        (pss_one (ps_ret (pe_tup (pa_cons pe_str (pa_cons (pv 3) (pa_cons (pe_call (G_l_worth T) (hr.mono (by omega)) (by rfl) T.g_l_worth T.F_l_worth.kp T.B_l_worth .nil pass0 (pa_cons (pv 0) pa_nil)) pa_nil))))))
        pss_nil)
      (pss_cons (ps_if (pt_cmpR op_lt (pv 4) pe_int (nomark _))
        (pss_one (ps_ret (pe_tup (pa_cons pe_str (pa_cons (pv 3) (pa_cons (pv 5) pa_nil))))))
        pss_nil)
      (pss_cons (ps_if (pt_cmpR op_eq (pv 4) pe_int (nomark _))
        (pss_one (ps_ret (pe_tup (pa_cons pe_str (pa_cons (pv 3) (pa_cons (pe_ix ix_list (pe_lst (pa_cons pe_non (pa_cons (pe_call (G_l_worth T) (hr.mono (by omega)) (by rfl) T.g_l_worth T.F_l_worth.kp T.B_l_worth .nil pass0 (pa_cons (pv 0) pa_nil)) pa_nil))) (pe_call (G_l_taken T) (hr.mono (by omega)) (by rfl) T.g_l_taken T.F_l_taken.kp T.B_l_taken .nil pass0 (pa_cons (pv 0) (pa_cons pe_int pa_nil))) (fun _ _ => rfl)) pa_nil))))))
        pss_nil)
      (pss_cons (ps_if (pt_cmpR op_eq (pv 4) pe_int (nomark _))
        (pss_one (ps_ret (pe_tup (pa_cons pe_str (pa_cons (pe_call (G_l_taken T) (hr.mono (by omega)) (by rfl) T.g_l_taken T.F_l_taken.kp T.B_l_taken .nil pass0 (pa_cons (pv 0) (pa_cons (pe_ix ix_list (pe_lst (pa_cons pe_int (pa_cons pe_int pa_nil))) (pe_call (G_l_taken T) (hr.mono (by omega)) (by rfl) T.g_l_taken T.F_l_taken.kp T.B_l_taken .nil pass0 (pa_cons (pv 0) (pa_cons pe_int pa_nil))) (fun _ _ => rfl)) pa_nil))) (pa_cons (pe_ix ix_list (pe_lst (pa_cons pe_str (pa_cons pe_str (pa_cons pe_str pa_nil)))) (pe_call (G_l_taken T) (hr.mono (by omega)) (by rfl) T.g_l_taken T.F_l_taken.kp T.B_l_taken .nil pass0 (pa_cons (pv 0) (pa_cons pe_int pa_nil))) (fun _ _ => rfl)) pa_nil))))))
        pss_nil)
      (pss_one (ps_ret (pe_ifExp (pt_cmpR op_eq (pv 4) pe_int (nomark _)) (pe_tup (pa_cons pe_str (pa_cons pe_int (pa_cons pe_int pa_nil)))) (pe_tup (pa_cons pe_str (pa_cons (pv 3) (pa_cons (pe_callB call_len_seq (by rfl) T.b_len PySem.boot_len (pa_cons (pv 5) pa_nil)) pa_nil)))))))))))))))), ?_⟩
    refine ⟨.ref d, rfl, d, _, rfl, M0.get okv_cells, c, _, rfl, .inl (Dw.sq_of M0.ls), ?_⟩
    refine ⟨.ref r, rfl, _, rfl, H0, ns, sa, r, _, rfl, D0, by omega, by omega, fun pl H1 D1 k1 p0 p1 => ?_⟩
    refine ⟨.ref r, rfl, H0, ns, sa, r, 10, rfl, D1, by decide, by decide, fun wy H2 D2 k2 y0 y1 => ?_⟩
    refine ⟨.ref r, rfl, _, rfl, _, rfl, _, _, rfl, rfl, 8, _, rfl, H0, ns, sa, r, _, rfl, D2, ?_, ?_, fun n H3 D3 k3 n0 n1 => ?_⟩
    · split <;> omega
    · split <;> omega
    obtain ⟨j, rfl⟩ : ∃ j : Nat, pl = (j : Int) := ⟨pl.toNat, by omega⟩
    have hn8 : n < 8 ∧ n < (m.cells.length : Int) - j := by
      split at n1 <;> omega
    have K3 := (k1.trans k2).trans k3
    refine ⟨1, n, rfl, rfl, 1 + n, rfl, by omega, by omega, fun B hB => ?_⟩
    have fB0 : H B = none := by
      cases e : H B with
      | none => rfl
      | some o =>
        have z := K3 B o (D3.ne hB) e
        rw [hB] at z
        cases z
    have nB : B ≠ r := D3.ne hB
    have fB := D3.free hB
    refine lc_range (lo := 0) (n := (1 + n).toNat) (fun i H' => Dw.Dr K H0 ns sa r H' ∧ Dw.Keep r H H' ∧ ∃ xs : List Int, H' B = some (.lst (xs.map V.int)) ∧ xs.length = i ∧ ∀ x ∈ xs, 0 ≤ x ∧ x ≤ 9972) ⟨D3.new hB, K3.trans (Dw.Keep.same (Dw.same_upd hB)), [], upd_same, rfl, fun _ h => by cases h⟩ ?_ ?_
    · rintro i H4 hi ⟨D4, K4, xs, hx, hl, hb⟩
      refine ⟨rfl, ?_⟩
      refine ⟨.ref r, rfl, H0, ns, sa, r, rfl, D4, fun v H5 D5 k5 v0 v1 => ?_⟩
      refine ⟨_, k5 _ _ nB hx, Dw.size_lt (by rw [List.length_map]; omega), D5.mut nB fB, fun b o nb e => ?_, xs ++ [v], ?_, by rw [List.length_append, hl]; rfl, fun y hy => ?_⟩
      · rw [upd_ne (ne_of_none e fB0)]
        exact k5 _ _ nb (K4 _ _ nb e)
      · rw [upd_same, List.map_append]
        rfl
      · rcases List.mem_append.mp hy with h | h
        · exact hb y h
        · rw [List.mem_singleton.mp h]
          exact ⟨v0, by omega⟩
    rintro H4 ⟨D4, K4, xs, hx, hl, hb⟩
    have hjx : j + xs.length ≤ m.cells.length := by omega
    have hx1 : 1 ≤ xs.length := by omega
    -- some of those that are there
    refine ⟨_, rfl, B, _, rfl, .inl (Dw.sq_of hx), _, rfl, by rw [List.length_map]; omega, by rw [List.length_map]; omega, for_range (lo := 0) (n := (xs.map V.int).length) (fun i σ H5 => ∃ (v6 : Option V) (ys : List Int), σ = [some (.ref r), some (.ref d), some (.int (m.cells.length : Int)), some (.int (j : Int)), some (.int wy), some (.ref B), v6] ∧ Dw.Dr K H0 ns sa r H5 ∧ Dw.Keep r H H5 ∧ H5 B = some (.lst (ys.map V.int)) ∧ ys.length = xs.length ∧ ∀ x ∈ ys, 0 ≤ x ∧ x ≤ 9972)
      ⟨_, xs, rfl, D4, K4, hx, rfl, hb⟩ ?_ ?_⟩
    · rintro i σ H5 hi ⟨v6, ys, rfl, D5, K5, hy, ly, by5⟩
      rw [List.length_map] at hi
      refine ⟨.ref r, rfl, H0, ns, sa, r, 2, rfl, D5, by decide, by decide, fun v H6 D6 k6 v0 v1 => ?_⟩
      have K6 := K5.trans k6
      have M6 : OwnAt d c m H6 := ⟨K6 _ _ ndr M0.ob, K6 _ _ ncr M0.ls, M0.tn⟩
      have hy6 := k6 _ _ nB hy
      obtain ⟨z, hz⟩ : ∃ z, m.cells[j + i]? = some z := ⟨_, List.getElem?_eq_getElem (show j + i < m.cells.length by omega)⟩
      have hzr := hrng z (List.mem_of_getElem? hz)
      refine ⟨rfl, _, rfl, ite2 (fun _ => ?_) (fun _ => ⟨_, ys, rfl, D6, K6, hy6, ly, by5⟩)⟩
      refine ⟨.ref d, rfl, d, _, rfl, M6.get okv_cells, _, rfl, _, rfl, (j : Int), 0 + (i : Int), rfl, rfl, c, _, (j : Int) + (0 + (i : Int)), z, rfl, rfl, Dw.sq_of M6.ls, at_of (j := j + i) (by omega) hz, rfl, _, rfl, ?_⟩
      rcases hzr with rfl | ⟨x, rfl, x0, x1⟩
      · exact iteNS (c := V.non = V.non) rfl ⟨_, ys, rfl, D6, K6, hy6, ly, by5⟩
      · refine ite2 (fun _ => ?_) (fun e => absurd (by rfl) e)
        refine ⟨.ref d, rfl, d, _, rfl, M6.get okv_cells, _, rfl, _, rfl, (j : Int), 0 + (i : Int), rfl, rfl, c, _, (j : Int) + (0 + (i : Int)), .int x, rfl, rfl, Dw.sq_of M6.ls, at_of (j := j + i) (by omega) hz, .ref B, rfl, _, rfl, B, _, 0 + (i : Int), i, rfl, rfl, hy6, by rw [Int.zero_add]; exact Dw.ixN_nat (by rw [List.length_map]; omega), ?_⟩
        refine ⟨_, ys.set i x, rfl, D6.mut nB fB, fun b o nb e => ?_, by rw [upd_same, List.map_set], by rw [List.length_set]; exact ly, fun y hy2 => ?_⟩
        · rw [upd_ne (ne_of_none e fB0)]
          exact K6 _ _ nb e
        · rcases List.mem_or_eq_of_mem_set hy2 with z | z
          · exact by5 y z
          · rw [z]
            exact ⟨x0, x1⟩
    · rintro σ H5 ⟨v6, ys, rfl, D5, K5, hy, ly, by5⟩
      have hJ : j < m.cells.length := by omega
      refine ⟨_, rfl, wy, 4, rfl, rfl, _, rfl, ite2 (fun _ => ?_) (fun _ => ?_)⟩
      · refine ⟨_, rfl, .ref r, rfl, H0, ns, sa, r, rfl, D5, fun v H6 D6 k6 v0 v1 => ⟨Dw.sz_ rfl, fun t ht => ?_⟩⟩
        exact q _ t (.write j v) (D6.new ht) ((K5.trans k6).trans (Dw.Keep.same (Dw.same_upd ht))) upd_same ⟨hJ, v0, by omega⟩ fun _ _ _ e => by cases e
      refine ⟨_, rfl, wy, 6, rfl, rfl, _, rfl, ite2 (fun _ => ?_) (fun _ => ?_)⟩
      · refine ⟨_, rfl, _, rfl, Dw.sz_ rfl, fun t ht => ?_⟩
        refine q _ t (.put j B ys) (D5.new ht) (K5.trans (Dw.Keep.same (Dw.same_upd ht))) upd_same ⟨Dw.same_upd ht _ _ hy, by omega, by5⟩ fun j2 b2 ws2 e => ?_
        injection e with _ e _
        rw [← e]
        exact fB0
      refine ⟨_, rfl, rfl, _, rfl, ite2 (fun _ => ?_) (fun _ => ?_)⟩
      · refine ⟨_, rfl, .ref r, rfl, H0, ns, sa, r, rfl, D5, fun v H6 D6 k6 v0 v1 => ⟨Dw.sz_ rfl, fun l hl => ?_⟩⟩
        have nl := D6.ne hl
        refine ⟨.ref r, rfl, H0, ns, sa, r, 2, rfl, D6.new hl, by decide, by decide, fun u H7 D7 k7 u0 u1 => ?_⟩
        have hL : H7 l = some (.lst [.non, .int v]) := k7 _ _ nl upd_same
        have hat : ∃ x : V, atI [V.non, V.int v] u = some x ∧ (x = .non ∨ ∃ z : Int, x = .int z ∧ 0 ≤ z ∧ z ≤ 9972) := by
          have e : u = 0 ∨ u = 1 := by omega
          rcases e with rfl | rfl
          · exact ⟨.non, rfl, .inl rfl⟩
          · exact ⟨.int v, rfl, .inr ⟨v, rfl, v0, by omega⟩⟩
        obtain ⟨x, hat, hx2⟩ := hat
        refine ⟨l, _, u, x, rfl, rfl, Dw.sq_of hL, hat, Dw.sz_ rfl, fun t ht => ?_⟩
        exact q _ t (.spoil j x) (D7.new ht) ((((K5.trans k6).trans (Dw.Keep.same (Dw.same_upd hl))).trans k7).trans (Dw.Keep.same (Dw.same_upd ht))) upd_same ⟨hJ, hx2⟩ fun _ _ _ e => by cases e
      refine ⟨_, rfl, rfl, _, rfl, ite2 (fun _ => ?_) (fun _ => ?_)⟩
      · refine ⟨.ref r, rfl, Dw.sz_ rfl, fun l hl => ?_⟩
        have nl := D5.ne hl
        refine ⟨.ref r, rfl, H0, ns, sa, r, 2, rfl, D5.new hl, by decide, by decide, fun u H6 D6 k6 u0 u1 => ?_⟩
        have hL : H6 l = some (.lst [.int 4, .int 30]) := k6 _ _ nl upd_same
        have hat : ∃ x : Int, atI [V.int 4, V.int 30] u = some (.int x) ∧ 0 < x ∧ x ≤ 30 := by
          have e : u = 0 ∨ u = 1 := by omega
          rcases e with rfl | rfl
          · exact ⟨4, rfl, by decide, by decide⟩
          · exact ⟨30, rfl, by decide, by decide⟩
        obtain ⟨x, hat, x0, x1⟩ := hat
        refine ⟨l, _, u, _, rfl, rfl, Dw.sq_of hL, hat, H0, ns, sa, r, x, rfl, D6, x0, by omega, fun kk H7 D7 k7 c0 c1 => ?_⟩
        refine ⟨Dw.sz_ rfl, fun l2 hl2 => ?_⟩
        have nl2 := D7.ne hl2
        refine ⟨.ref r, rfl, H0, ns, sa, r, 3, rfl, D7.new hl2, by decide, by decide, fun u3 H8 D8 k8 e0 e1 => ?_⟩
        have hL2 : H8 l2 = some (.lst [.str "old", .str "broken", .str "new"]) := k8 _ _ nl2 upd_same
        have hat2 : ∃ x : Str, atI [V.str "old", V.str "broken", V.str "new"] u3 = some (.str x) ∧ (x = "old" ∨ x = "broken" ∨ x = "new") := by
          have e : u3 = 0 ∨ u3 = 1 ∨ u3 = 2 := by omega
          rcases e with rfl | rfl | rfl
          · exact ⟨_, rfl, .inl rfl⟩
          · exact ⟨_, rfl, .inr (.inl rfl)⟩
          · exact ⟨_, rfl, .inr (.inr rfl)⟩
        obtain ⟨tn, hat2, htn⟩ := hat2
        refine ⟨l2, _, u3, _, rfl, rfl, Dw.sq_of hL2, hat2, Dw.sz_ rfl, fun t ht => ?_⟩
        obtain ⟨kn, rfl⟩ : ∃ z : Nat, kk = (z : Int) := ⟨kk.toNat, by omega⟩
        have KK := ((((K5.trans (Dw.Keep.same (Dw.same_upd hl))).trans k6).trans k7).trans (Dw.Keep.same (Dw.same_upd hl2))).trans k8
        exact q _ t (.cut kn tn) (D8.new ht) (KK.trans (Dw.Keep.same (Dw.same_upd ht))) upd_same ⟨by omega, htn⟩ fun _ _ _ e => by cases e
      refine ⟨_, rfl, rfl, _, rfl, ite2 (fun _ => ?_) (fun _ => ?_)⟩
      · refine ⟨Dw.sz_ rfl, fun t ht => ?_⟩
        exact q _ t .up (D5.new ht) (K5.trans (Dw.Keep.same (Dw.same_upd ht))) upd_same trivial fun _ _ _ e => by cases e
      · refine ⟨_, rfl, _, rfl, B, _, rfl, .inl (Dw.sq_of hy), Dw.sz_ rfl, fun t ht => ?_⟩
        refine q _ t (.row j ys.length) (D5.new ht) (K5.trans (Dw.Keep.same (Dw.same_upd ht))) ?_ (by show j + ys.length ≤ _; omega) fun _ _ _ e => by cases e
        rw [upd_same, List.length_map]
        rfl
def spLaw (Pt : Addr) (K : PySem.W.Frag) : Sp := fun vs H Q _ => ∃ (a : Addr) (ns : List Int), vs = [.ref a] ∧ SqL K H a (ns.map V.int) ∧ ns.length ≤ 63 ∧ LamX.Tabs [(Pt, lamQ)] H ∧ ∀ H', Q (.bl true) H'
theorem tabs_same {L : List (Addr × Str)} {H H' : Hp} (t : LamX.Tabs L H) (s : Same H H') : LamX.Tabs L H' := t.ext s
theorem tabs_keep {K : PySem.W.Frag} {H0 : Hp} {ns : List Int} {sa r : Addr} {L : List (Addr × Str)} {H H' : Hp} (t : LamX.Tabs L H) (D : Dw.Dr K H0 ns sa r H) (k : Dw.Keep r H H') : LamX.Tabs L H' :=
  tabs_but (S := [r]) t (fun b o n h => k b o (fun z => n (by rw [z]; exact List.mem_cons_self)) h) fun b hb o ho => by
    obtain ⟨_, _, _, e, _⟩ := D.row
    rw [List.mem_singleton.mp hb, e] at ho
    rw [← Option.some.inj ho]
    rfl
theorem tabs_own {d c : Addr} {m : Mm.Mem} {L : List (Addr × Str)} {H H' : Hp} (t : LamX.Tabs L H) (M : OwnAt d c m H) (k : Mm.But [d, c] H H') : LamX.Tabs L H' :=
  tabs_but t k fun b hb o ho => by
    rcases List.mem_cons.mp hb with z | z
    · rw [z, M.ob] at ho
      rw [← Option.some.inj ho]
      rfl
    · rw [List.mem_singleton.mp z, M.ls] at ho
      rw [← Option.some.inj ho]
      rfl
/-- what holds between two deeds -/
structure Inv2 (K : PySem.W.Frag) (H0 : Hp) (ns : List Int) (sa r C p l d c Pt : Addr) (m : Mm.Mem) (H : Hp) : Prop where
  dr : Dw.Dr K H0 ns sa r H
  me : Mm.MemAt C p l m H
  ow : OwnAt d c m H
  rg : Rng m.cells
  tb : LamX.Tabs [(Pt, lamQ)] H
  fp : Dw.Fr0 H0 p
  fl : Dw.Fr0 H0 l
  fd : Dw.Fr0 H0 d
  fc : Dw.Fr0 H0 c
  ncl : c ≠ l
  one : 1 ≤ m.cells.length
theorem Inv2.mono {K : PySem.W.Frag} {H0 : Hp} {ns : List Int} {sa r C p l d c Pt : Addr} {m : Mm.Mem} {H H' : Hp} (I : Inv2 K H0 ns sa r C p l d c Pt m H) (s : Same H H') : Inv2 K H0 ns sa r C p l d c Pt m H' :=
  ⟨I.dr.mono s, I.me.mono s, I.ow.mono s, I.rg, tabs_same I.tb s, I.fp, I.fl, I.fd, I.fc, I.ncl, I.one⟩
theorem OwnAt.butN {d c : Addr} {m : Mm.Mem} {H H' : Hp} {S : List Addr} (M : OwnAt d c m H) (k : Mm.ButN S H H') (h1 : d ∉ S) (h2 : c ∉ S) : OwnAt d c m H' := ⟨k _ _ h1 Dw.NT.dK M.ob, k _ _ h2 Dw.NT.lst M.ls, M.tn⟩
theorem Td.cel {H : Hp} : ∀ {v : V}, Dw.cel v = true → Dw.Td H v (Dw.dat v)
  | .int i, _ => .int i
  | .non, _ => .non
section
variable {K : PySem.W.Frag} {H0 : Hp} {ns : List Int} {sa r C p l d c Pt : Addr} {m : Mm.Mem} {H H' : Hp}
theorem Inv2.npr (I : Inv2 K H0 ns sa r C p l d c Pt m H) : p ≠ r ∧ l ≠ r ∧ d ≠ r ∧ c ≠ r ∧ p ≠ d ∧ p ≠ c ∧ l ≠ d ∧ l ≠ c ∧ p ≠ l ∧ d ≠ c := by
  obtain ⟨_, _, _, e, _⟩ := I.dr.row
  obtain ⟨dx, ah, hp, _⟩ := I.me.ob
  exact ⟨ne_of hp e (by intro z; cases z), Dr_ne_cells I.dr I.rg.cel I.me.ls, ne_of I.ow.ob e (by intro z; cases z), Dr_ne_cells I.dr I.rg.cel I.ow.ls, ne_of hp I.ow.ob (by intro z; cases z), ne_of hp I.ow.ls (by intro z; cases z),
    ne_of I.me.ls I.ow.ob (by intro z; cases z), I.ncl.symm, I.me.ne, I.ow.ne⟩
theorem Inv2.keep (I : Inv2 K H0 ns sa r C p l d c Pt m H) (D : Dw.Dr K H0 ns sa r H') (k : Dw.Keep r H H') : Inv2 K H0 ns sa r C p l d c Pt m H' := by
  obtain ⟨n1, n2, n3, n4, _⟩ := I.npr
  have kb : Mm.But [r] H H' := fun b o n h => k b o (fun z => n (by rw [z]; exact List.mem_cons_self)) h
  exact ⟨D, I.me.but kb (by simp [n1]) (by simp [n2]), I.ow.but kb (by simp [n3]) (by simp [n4]), I.rg, tabs_keep I.tb I.dr k, I.fp, I.fl, I.fd, I.fc, I.ncl, I.one⟩
theorem Inv2.mut (I : Inv2 K H0 ns sa r C p l d c Pt m H) {b : Addr} {xs : List V} {o : HO} (hb : H b = some (.lst xs)) (n : b ≠ r ∧ b ≠ l ∧ b ≠ c) (fb : Dw.Fr0 H0 b) : Inv2 K H0 ns sa r C p l d c Pt m (upd H b o) := by
  obtain ⟨dx, ah, hp, _⟩ := I.me.ob
  have nbp : b ≠ p := ne_of hb hp (by intro z; cases z)
  have nbd : b ≠ d := ne_of hb I.ow.ob (by intro z; cases z)
  have k : Mm.But [b] H (upd H b o) := Mm.But.upd List.mem_cons_self
  refine ⟨I.dr.mut n.1 fb, I.me.but k (by simp [nbp.symm]) (by simp [n.2.1.symm]), I.ow.but k (by simp [nbd.symm]) (by simp [n.2.2.symm]), I.rg, tabs_but I.tb k fun e he u hu => ?_, I.fp, I.fl, I.fd, I.fc, I.ncl, I.one⟩
  rw [List.mem_singleton.mp he, hb] at hu
  rw [← Option.some.inj hu]
  rfl
end
theorem ok_mono {m : Mm.Mem} {H H' : Hp} {D : Deed} (ok : D.Ok m H) (h : ∀ j b ws, D = .put j b ws → H b = some (.lst (ws.map V.int)) → H' b = some (.lst (ws.map V.int))) : D.Ok m H' := by
  cases D with
  | put j b ws => exact ⟨h j b ws rfl ok.1, ok.2⟩
  | write j v => exact ok
  | spoil j x => exact ok
  | cut k t => exact ok
  | up => exact ok
  | row j n => exact ok
theorem run_torn {m : Mm.Mem} {H : Hp} {D : Deed} (ok : D.Ok m H) : True := trivial
theorem ans_depth {m : Mm.Mem} (h : Rng m.cells) (D : Deed) : (D.run m).2.depth < 5 := by
  have hs : (PyData.str "stopped").depth < 5 := by
    rw [PyData.depth]
    decide
  have hn : PyData.none.depth < 5 := by
    rw [PyData.depth]
    decide
  cases D with
  | write j v =>
    show (if (m.write j v).2 = true then PyData.none else PyData.str "stopped").depth < 5
    split
    · exact hn
    · exact hs
  | put j b ws =>
    show (putD (m.put j ws).2).depth < 5
    cases (m.put j ws).2 with
    | some n => exact Dw.dep_i
    | none => exact hs
  | spoil j x => exact hn
  | cut k t => exact hn
  | up => exact hn
  | row j n =>
    show (if m.up = true then PyData.list (((m.cells.drop j).take n).map Dw.dat) else PyData.str "stopped").depth < 5
    split
    · exact Dw.dep_l fun v hv => h.cel v (List.mem_of_mem_drop (List.mem_of_mem_take hv))
    · exact hs
theorem two_depth {xs : List V} {n : Int} (h : ∀ v ∈ xs, Dw.cel v = true) : (PyData.list [.list (xs.map Dw.dat), .int n]).depth < 5 := by
  have e1 : (PyData.list (xs.map Dw.dat)).depth = 1 := by rw [PyData.depth, (Dw.layAll_dat h).2]
  have e2 : (PyData.int n).depth = 0 := by rw [PyData.depth]
  have e3 : PyData.depthAll [] = 0 := by rw [PyData.depthAll]
  rw [PyData.depth, PyData.depthAll, PyData.depthAll, e1, e2, e3]
  decide
theorem G_law {a : Ad} (T : Top K mg a) {cT Pt : Addr} (Z : DoesAt K base mg a cT Pt) : FnOk P w K mg base CX0 7 a.f_law a.d_law P_law (spLaw Pt K) := by
  refine T.F_law.ok sc_law (fun vs H Q E h => ?_) (fun cdv A outer s H vs Q E hr h => ?_)
  · obtain ⟨_, _, rfl, _⟩ := h
    rfl
  · obtain ⟨sa, ns, rfl, hS, hlen, hT, q⟩ := h
    refine ⟨_, (pss_cons (ps_set (i := 1) sc_law.nd rfl (Or.inl rfl) (pe_lst (pa_cons (pv 0) (pa_cons pe_int (pa_cons pe_int (pa_cons pe_int pa_nil))))))
      (pss_cons (ps_set (i := 2) sc_law.nd rfl (Or.inl rfl) (pe_op op_add pe_int (pe_call (G_l_taken T) (hr.mono (by omega)) (by rfl) T.g_l_taken T.F_l_taken.kp T.B_l_taken .nil pass0 (pa_cons (pv 1) (pa_cons (pe_ix ix_list (pe_lst (pa_cons pe_int (pa_cons pe_int (pa_cons pe_int (pa_cons pe_int pa_nil))))) (pe_call (G_l_taken T) (hr.mono (by omega)) (by rfl) T.g_l_taken T.F_l_taken.kp T.B_l_taken .nil pass0 (pa_cons (pv 1) (pa_cons pe_int pa_nil))) (fun _ _ => rfl)) pa_nil)))))
      (pss_cons (ps_set (i := 3) sc_law.nd rfl (Or.inl rfl) (pe_make T.mk_Memory (G_Memory___init__ T) (hr.mono (by omega)) (by rfl) T.g_Memory T.B_Memory___init__ .nil pass0 (pa_cons (pv 2) pa_nil)))
      (pss_cons (ps_set (i := 4) sc_law.nd rfl (Or.inl rfl) (pe_call (G_l_own T) (hr.mono (by omega)) (by rfl) T.g_l_own T.F_l_own.kp T.B_l_own .nil pass0 (pa_cons (pv 2) pa_nil)))
      (pss_cons (ps_for PassesOwn.never rfl (pi_range1 (by rfl) T.b_range (pa_cons (pe_call (G_l_taken T) (hr.mono (by omega)) (by rfl) T.g_l_taken T.F_l_taken.kp T.B_l_taken .nil pass0 (pa_cons (pv 1) (pa_cons (pe_ix ix_list (pe_lst (pa_cons pe_int (pa_cons pe_int (pa_cons pe_int (pa_cons pe_int (pa_cons pe_int pa_nil)))))) (pe_call (G_l_taken T) (hr.mono (by omega)) (by rfl) T.g_l_taken T.F_l_taken.kp T.B_l_taken .nil pass0 (pa_cons (pv 1) (pa_cons pe_int pa_nil))) (fun _ _ => rfl)) pa_nil))) pa_nil)) (pg_name (i := 5) sc_law.nd rfl (Or.inl rfl))
        (pss_cons (ps_set (i := 6) sc_law.nd rfl (Or.inl rfl) (pe_call (G_l_drawn T) (hr.mono (by omega)) (by rfl) T.g_l_drawn T.F_l_drawn.kp T.B_l_drawn .nil pass0 (pa_cons (pv 1) (pa_cons (pv 4) pa_nil))))
      (pss_cons (ps_set (i := 7) sc_law.nd rfl (Or.inl rfl) (pe_call (G_l_due T) (hr.mono (by omega)) (by rfl) T.g_l_due T.F_l_due.kp T.B_l_due .nil pass0 (pa_cons (pv 4) (pa_cons (pv 6) pa_nil))))
      (pss_cons (ps_if (pt_not (pt_val (pe_call (G_l_alike T) (hr.mono (by omega)) (by rfl) T.g_l_alike T.F_l_alike.kp T.B_l_alike .nil pass0 (pa_cons (pe_call ((fun T => G_l_does T Z) T) (hr.mono (by omega)) (by rfl) T.g_l_does T.F_l_does.kp T.B_l_does .nil pass0 (pa_cons (pv 3) (pa_cons (pv 6) pa_nil))) (pa_cons (pv 7) pa_nil)))))
        (pss_one (ps_ret pe_bl))
        pss_nil)
      (pss_cons (ps_set (i := 8) sc_law.nd rfl (Or.inl rfl) (pe_meth0 (pv 3) T.cl_Memory T.m_Memory_cells (G_Memory_cells T) (hr.mono (by omega)) T.B_Memory_cells .nil pass0))
      (pss_cons (ps_if (pt_not (pt_val (pe_call (G_l_alike T) (hr.mono (by omega)) (by rfl) T.g_l_alike T.F_l_alike.kp T.B_l_alike .nil pass0 (pa_cons (pe_lst (pa_cons (pv 8) (pa_cons (pe_meth0 (pv 3) T.cl_Memory T.m_Memory_writes (G_Memory_writes T) (hr.mono (by omega)) T.B_Memory_writes .nil pass0) pa_nil))) (pa_cons (pe_lst (pa_cons (pe_dget (hu_of hr) (pv 4) pe_str (fun _ _ => rfl)) (pa_cons (pe_dget (hu_of hr) (pv 4) pe_str (fun _ _ => rfl)) pa_nil))) pa_nil)))))
        (pss_one (ps_ret pe_bl))
        pss_nil)
      (pss_cons (ps_expr (pe_bm PySem.F.plainAttrs_list PySem.F.slot_list_append PySem.F.type_list_append mt_append (pv 8) (pa_cons pe_int pa_nil)))
      (pss_one (ps_if (PW.pt (pw_and (pt_val (pe_dget (hu_of hr) (pv 4) pe_str (fun _ _ => rfl))) (pw_and1 (pt_not (pt_val (pe_call (G_l_alike T) (hr.mono (by omega)) (by rfl) T.g_l_alike T.F_l_alike.kp T.B_l_alike .nil pass0 (pa_cons (pe_meth (pv 3) T.cl_Memory T.m_Memory_read (G_Memory_read T) (hr.mono (by omega)) T.B_Memory_read .nil Mm.passN (pa_cons pe_int pa_nil)) (pa_cons (pe_ix ix_list (pe_dget (hu_of hr) (pv 4) pe_str (fun _ _ => rfl)) pe_int (fun _ _ => rfl)) pa_nil))))))))
        (pss_one (ps_ret pe_bl))
        pss_nil)))))))))
      (pss_one (ps_ret pe_bl))))))), ?_⟩
    refine ⟨.ref sa, rfl, Dw.sz_ rfl, fun r hr0 => ?_⟩
    have D0 : Dw.Dr K H ns sa r (upd H r (.lst [.ref sa, .int 0, .int 0, .int 0])) := Dw.Dr.start hr0 hS hlen
    have T0 := tabs_same hT (Dw.same_upd (o := .lst [.ref sa, .int 0, .int 0, .int 0]) hr0)
    generalize upd H r (.lst [.ref sa, .int 0, .int 0, .int 0]) = H1 at D0 T0 ⊢
    -- size
    refine ⟨.ref r, rfl, Dw.sz_ rfl, fun l1 hl1 => ?_⟩
    have nl1 := D0.ne hl1
    refine ⟨.ref r, rfl, H, ns, sa, r, 4, rfl, D0.new hl1, by decide, by decide, fun u H2 D2 k2 u0 u1 => ?_⟩
    have T2 := tabs_keep (tabs_same T0 (Dw.same_upd (o := .lst [.int 60, .int 60, .int 60, .int 400]) hl1)) (D0.new hl1) k2
    have hL : H2 l1 = some (.lst [.int 60, .int 60, .int 60, .int 400]) := k2 _ _ nl1 upd_same
    have hat : ∃ x : Int, atI [V.int 60, V.int 60, V.int 60, V.int 400] u = some (.int x) ∧ 0 < x ∧ x ≤ 400 := by
      have e : u = 0 ∨ u = 1 ∨ u = 2 ∨ u = 3 := by omega
      rcases e with rfl | rfl | rfl | rfl
      · exact ⟨60, rfl, by decide, by decide⟩
      · exact ⟨60, rfl, by decide, by decide⟩
      · exact ⟨60, rfl, by decide, by decide⟩
      · exact ⟨400, rfl, by decide, by decide⟩
    obtain ⟨x, hat, x0, x1⟩ := hat
    refine ⟨l1, _, u, _, rfl, rfl, Dw.sq_of hL, hat, H, ns, sa, r, x, rfl, D2, x0, by omega, fun sz H3 D3 k3 s0 s1 => ⟨1, sz, rfl, rfl, ?_⟩⟩
    have T3 := tabs_keep T2 D2 k3
    obtain ⟨n, hn⟩ : ∃ n : Nat, 1 + sz = (n : Int) := ⟨(1 + sz).toNat, by omega⟩
    -- memory
    refine ⟨_, rfl, fun p dx np ndx nex => ?_⟩
    have S3 : Same H3 (upd (upd H3 dx (.own p)) p (.ins a.C_Memory dx [])) := fun b o e => by
      rw [upd_ne (ne_of_none e np), upd_ne (ne_of_none e ndx)]
      exact e
    refine ⟨p, dx, n, by rw [← hn]; rfl, upd_same, by omega, by omega, fun H4 l M4 hl4 k4 => ⟨rfl, ?_⟩⟩
    have S4 : Same H3 H4 := fun b o e => k4 b o (by simp [ne_of_none e np]) (S3 b o e)
    have D4 := D3.mono S4
    have T4 := tabs_same T3 S4
    have fp : Dw.Fr0 H p := D3.free np
    have fl : Dw.Fr0 H l := D3.free (S3.free hl4)
    -- own
    refine ⟨_, rfl, n, by rw [← hn]; rfl, by omega, by omega, fun H5 d c M5 s5 nd nc => ?_⟩
    have I5 : Inv2 K H ns sa r a.C_Memory p l d c Pt ⟨List.replicate n (.int 0), 0, true, none, "old"⟩ H5 := by
      refine ⟨D4.mono s5, M4.mono s5, M5, fun v hv => ?_, tabs_same T4 s5, fp, fl, D4.free nd, D4.free nc, (ne_of_none M4.ls nc).symm, by show 1 ≤ (List.replicate n (V.int 0)).length; rw [List.length_replicate]; omega⟩
      rw [List.eq_of_mem_replicate hv]
      exact .inr ⟨0, rfl, by decide, by decide⟩
    -- the deeds
    refine ⟨.ref r, rfl, Dw.sz_ rfl, fun l2 hl2 => ?_⟩
    have nl2 := I5.dr.ne hl2
    have I6 := I5.mono (Dw.same_upd (o := .lst [.int 81, .int 81, .int 81, .int 81, .int 301]) hl2)
    refine ⟨.ref r, rfl, H, ns, sa, r, 5, rfl, I6.dr, by decide, by decide, fun u3 H7 D7 k7 e0 e1 => ?_⟩
    have I7 := I6.keep D7 k7
    have hL2 : H7 l2 = some (.lst [.int 81, .int 81, .int 81, .int 81, .int 301]) := k7 _ _ nl2 upd_same
    have hat2 : ∃ x : Int, atI [V.int 81, V.int 81, V.int 81, V.int 81, V.int 301] u3 = some (.int x) ∧ 0 < x ∧ x ≤ 301 := by
      have e : u3 = 0 ∨ u3 = 1 ∨ u3 = 2 ∨ u3 = 3 ∨ u3 = 4 := by omega
      rcases e with rfl | rfl | rfl | rfl | rfl
      · exact ⟨81, rfl, by decide, by decide⟩
      · exact ⟨81, rfl, by decide, by decide⟩
      · exact ⟨81, rfl, by decide, by decide⟩
      · exact ⟨81, rfl, by decide, by decide⟩
      · exact ⟨301, rfl, by decide, by decide⟩
    obtain ⟨x2, hat2, x20, x21⟩ := hat2
    refine ⟨l2, _, u3, _, rfl, rfl, Dw.sq_of hL2, hat2, H, ns, sa, r, x2, rfl, I7.dr, x20, by omega, fun cnt H8 D8 k8 c0 c1 => ?_⟩
    have I8 := I7.keep D8 k8
    refine ⟨cnt, rfl, by omega, by omega, for_range (lo := 0) (n := cnt.toNat) (fun i σ H' => ∃ (v5 v6 v7 v8 : Option V) (m : Mm.Mem), σ = [some (.ref sa), some (.ref r), some (.int (1 + sz)), some (.ref p), some (.ref d), v5, v6, v7, v8] ∧ Inv2 K H ns sa r a.C_Memory p l d c Pt m H') ⟨_, _, _, _, _, rfl, I8⟩ ?_ ?_⟩
    · rintro i σ H9 hi ⟨v5, v6, v7, v8, m, rfl, I⟩
      obtain ⟨n1, n2, n3, n4, n5, n6, n7, n8, n9, n10⟩ := I.npr
      -- a deed
      refine ⟨.ref r, rfl, .ref d, rfl, H, ns, sa, r, d, c, m, rfl, I.dr, I.ow, I.rg, I.one, I.me.len, fun H1 t D D1 k1 ht hok hb => ?_⟩
      have J1 := I.keep D1 k1
      -- what is due
      refine ⟨.ref d, rfl, .ref t, rfl, d, c, t, m, D, rfl, J1.ow, J1.rg.cel, J1.me.len, ht, hok, fun j b ws e => (ne_of_none I.ow.ls (hb j b ws e)).symm, fun H2 x M2 k2 nw => ?_⟩
      have me2 := J1.me.but k2 (by simp [n5, n6]) (by simp [n7, n8])
      have ht2 : H2 t = some (.tup (Deed.vs D)) := k2 _ _ (by simp [ne_of ht J1.ow.ob (by intro z; cases z), ne_of ht J1.ow.ls (by intro z; cases z)]) ht
      have ok2 : D.Ok m H2 := ok_mono hok fun j b ws e hB => k2 _ _ (by simp [ne_of hB J1.ow.ob (by intro z; cases z), (ne_of_none I.ow.ls (hb j b ws e)).symm]) hB
      -- done
      refine ⟨.ref p, rfl, .ref t, rfl, p, l, t, m, D, rfl, me2, ht2, ok2, fun j b ws e => (ne_of_none I.me.ls (hb j b ws e)).symm, tabs_own J1.tb J1.ow k2, fun H3 y M3 k3 t3 td3 => ?_⟩
      obtain ⟨dx1, ah1, hp1, _⟩ := J1.me.ob
      have nw3 : NewIn H1 H2 H3 := fun b o h0 nt h2 => k3 b o (by simp [(ne_of_none hp1 h0).symm, (ne_of_none J1.me.ls h0).symm]) nt h2
      refine ⟨_, rfl, y, x, _, rfl, td3, nw H3 nw3, ans_depth J1.rg D, fun H4 s4 => ⟨true, rfl, ?_⟩⟩
      have kk : Mm.ButN [p, l, d, c] H1 H4 := ((k2.n.more (by simp)).trans (k3.more (by simp))).trans (Mm.But.same s4).n
      obtain ⟨rg4, ln4⟩ := J1.rg.run hok
      have J4 : Inv2 K H ns sa r a.C_Memory p l d c Pt (D.run m).1 H4 :=
        ⟨J1.dr.but kk (by simp [n1.symm, n2.symm, n3.symm, n4.symm]) (fun b hb => by
            simp only [List.mem_cons, List.not_mem_nil, or_false] at hb
            rcases hb with rfl | rfl | rfl | rfl
            · exact I.fp
            · exact I.fl
            · exact I.fd
            · exact I.fc),
          M3.mono s4, (M2.butN k3 (by simp [n5.symm, n7.symm]) (by simp [n6.symm, n8.symm])).mono s4, rg4, tabs_same t3 s4, I.fp, I.fl, I.fd, I.fc, I.ncl, by rw [ln4]; exact I.one⟩
      generalize (D.run m).1 = m4 at J4 ⊢
      obtain ⟨dx4, ah4, hp4, _⟩ := J4.me.ob
      -- all cells, how many writes
      refine ⟨.ref p, rfl, p, dx4, _, rfl, hp4, no_attr (by decide +kernel), p, l, m4, rfl, J4.me, fun H5 cc s5 n5' h5 => ?_⟩
      have J5 := J4.mono s5
      have ncr : cc ≠ r := J4.dr.ne n5'
      have ncl : cc ≠ l := (ne_of_none J4.me.ls n5').symm
      have ncc : cc ≠ c := (ne_of_none J4.ow.ls n5').symm
      have fcc : Dw.Fr0 H cc := J4.dr.free n5'
      refine ⟨.ref cc, rfl, .ref p, rfl, p, dx4, _, rfl, s5 _ _ hp4, no_attr (by decide +kernel), p, l, m4, rfl, J5.me, Dw.sz_ rfl, fun q1 h1 => ?_⟩
      have s6 := Dw.same_upd (o := .lst [.ref cc, .int m4.many]) h1
      have J6 := J5.mono s6
      refine ⟨.ref d, rfl, d, _, rfl, J6.ow.get okv_cells, .ref d, rfl, d, _, rfl, J6.ow.get okv_many, Dw.sz_ rfl, fun q2 h2 => ?_⟩
      have s7 := Dw.same_upd (o := .lst [.ref c, .int m4.many]) h2
      have J7 := J6.mono s7
      have hlen4 := J4.me.len
      refine ⟨_, _, .list [.list (m4.cells.map Dw.dat), .int m4.many], rfl, .lst (s7 _ _ upd_same) (by show 2 ≤ 100000; decide) (.cons (.lst (s7 _ _ (s6 _ _ h5)) (by omega) (Dw.TdAll.cel J4.rg.cel)) (.cons (.int _) .nil)),
        .lst upd_same (by show 2 ≤ 100000; decide) (.cons (.lst J7.ow.ls (by omega) (Dw.TdAll.cel J4.rg.cel)) (.cons (.int _) .nil)), two_depth J4.rg.cel, fun H8 s8 => ⟨true, rfl, ?_⟩⟩
      have J8 := J7.mono s8
      have h8 : H8 cc = some (.lst m4.cells) := s8 _ _ (s7 _ _ (s6 _ _ h5))
      -- cells.append(0)
      refine ⟨.ref cc, rfl, .inl ⟨rfl, _, Dw.sq_of h8⟩, cc, _, _, rfl, rfl, h8, Dw.size_lt (by omega), ?_⟩
      have J9 := J8.mut (o := .lst (m4.cells ++ [.int 0])) h8 ⟨ncr, ncl, ncc⟩ fcc
      generalize upd H8 cc (.lst (m4.cells ++ [.int 0])) = H9' at J9 ⊢
      refine ⟨.ref d, rfl, d, _, rfl, J9.ow.get okv_up, m4.up, rfl, ?_⟩
      cases hu : m4.up with
      | false => exact iteF ⟨_, _, _, _, m4, rfl, J9⟩
      | true =>
        refine iteT ?_
        obtain ⟨dx9, ah9, hp9, _⟩ := J9.me.ob
        refine ⟨.ref p, rfl, p, dx9, _, rfl, hp9, no_attr (by decide +kernel), p, l, m4, 0, rfl, J9.me, J9.one, fun _ v hv => ?_, fun z => (by rw [hu] at z; cases z)⟩
        refine ⟨.ref d, rfl, d, _, rfl, J9.ow.get okv_cells, c, _, 0, v, rfl, rfl, Dw.sq_of J9.ow.ls, atI_nat (j := 0) hv, ?_⟩
        have cv := J9.rg.cel v (List.mem_of_getElem? hv)
        refine ⟨v, v, _, rfl, Td.cel cv, Td.cel cv, by rw [(Dw.lay_dat cv).2]; decide, fun H10 s10 => ⟨true, rfl, ?_⟩⟩
        exact ⟨_, _, _, _, m4, rfl, J9.mono s10⟩
    · rintro σ H' ⟨v5, v6, v7, v8, m, rfl, I⟩
      exact q _

end
theorem exm_self {K : PySem.W.Frag} {C : Addr} (b : PySem.W.subIn K (.ref C) (.type "BaseException") = some true) (i : PySem.W.isClsIn K C = true) (t : PySem.W.typeIn K (.ref C) = some (.type "type")) (s : PySem.W.subIn K (.ref C) (.ref C) = some true) :
    PySem.W.exmOne K (.ref C) (.ref C) = some true := by
  have i' : (PySem.W.clsIn K C).isSome = true := i
  simp [PySem.W.exmOne, PySem.W.kitCls, b, t, s, i']
theorem at_mk {cT Pt : Addr} {l : PySem.W.OpenLaw} {w : World} {K : PySem.W.Frag} {h : Heap} {mg : Str → Option Value} {fa : Addr} (X : K.In h) (G : h.Ns mainGlobals mg) (hfa : mg "law" = some (.ref fa))
    {C_Memory : Addr} (a_Memory : PySem.W.nsIn K mainGlobals "Memory" = some (some (.ref C_Memory)))
    {C_Stopped : Addr} (a_Stopped : PySem.W.nsIn K mainGlobals "Stopped" = some (some (.ref C_Stopped)))
    {f1 : Addr} {od1 an1 : Option Addr} {sl1 : Array (Option Value)} {oc1 kV1 dc1 pm1 cd1 ct1 : Value}
    (a1 : PySem.W.nsIn K mainGlobals "check_worth" = some (some (.ref f1)))
    (l1 : K.lookup f1 = some ⟨oc1, od1, .func (PySem.W.fnOf "check_worth" "check_worth" (defArgs s_check_worth) (defBody s_check_worth) (defScope s_check_worth) .none kV1 dc1 pm1 an1 cd1 ct1), sl1⟩) (c1 : PySem.W.codeIn K cd1 "check_worth" = true) (k1 : PySem.W.keepIn K (.ref f1) = true)
    {f2 : Addr} {od2 an2 : Option Addr} {sl2 : Array (Option Value)} {oc2 kV2 dc2 pm2 cd2 ct2 : Value}
    (a2 : PySem.W.findIn K (.ref C_Memory) "__init__" = some (some (.ref f2)))
    (i2 : PySem.W.isFn K (.ref f2) = true)
    (l2 : K.lookup f2 = some ⟨oc2, od2, .func (PySem.W.fnOf "__init__" "Memory.__init__" (defArgs s_Memory___init__) (defBody s_Memory___init__) (defScope s_Memory___init__) .none kV2 dc2 pm2 an2 cd2 ct2), sl2⟩) (c2 : PySem.W.codeIn K cd2 "Memory.__init__" = true) (k2 : PySem.W.keepIn K (.ref f2) = true)
    {f3 : Addr} {od3 an3 : Option Addr} {sl3 : Array (Option Value)} {oc3 kV3 dc3 pm3 cd3 ct3 : Value}
    (a3 : PySem.W.findIn K (.ref C_Memory) "read" = some (some (.ref f3)))
    (i3 : PySem.W.isFn K (.ref f3) = true)
    (l3 : K.lookup f3 = some ⟨oc3, od3, .func (PySem.W.fnOf "read" "Memory.read" (defArgs s_Memory_read) (defBody s_Memory_read) (defScope s_Memory_read) .none kV3 dc3 pm3 an3 cd3 ct3), sl3⟩) (c3 : PySem.W.codeIn K cd3 "Memory.read" = true) (k3 : PySem.W.keepIn K (.ref f3) = true)
    {f4 : Addr} {od4 an4 : Option Addr} {sl4 : Array (Option Value)} {oc4 kV4 dc4 pm4 cd4 ct4 : Value}
    (a4 : PySem.W.findIn K (.ref C_Memory) "row" = some (some (.ref f4)))
    (i4 : PySem.W.isFn K (.ref f4) = true)
    (l4 : K.lookup f4 = some ⟨oc4, od4, .func (PySem.W.fnOf "row" "Memory.row" (defArgs s_Memory_row) (defBody s_Memory_row) (defScope s_Memory_row) .none kV4 dc4 pm4 an4 cd4 ct4), sl4⟩) (c4 : PySem.W.codeIn K cd4 "Memory.row" = true) (k4 : PySem.W.keepIn K (.ref f4) = true)
    {f5 : Addr} {od5 an5 : Option Addr} {sl5 : Array (Option Value)} {oc5 kV5 dc5 pm5 cd5 ct5 : Value}
    (a5 : PySem.W.findIn K (.ref C_Memory) "write" = some (some (.ref f5)))
    (i5 : PySem.W.isFn K (.ref f5) = true)
    (l5 : K.lookup f5 = some ⟨oc5, od5, .func (PySem.W.fnOf "write" "Memory.write" (defArgs s_Memory_write) (defBody s_Memory_write) (defScope s_Memory_write) .none kV5 dc5 pm5 an5 cd5 ct5), sl5⟩) (c5 : PySem.W.codeIn K cd5 "Memory.write" = true) (k5 : PySem.W.keepIn K (.ref f5) = true)
    {f6 : Addr} {od6 an6 : Option Addr} {sl6 : Array (Option Value)} {oc6 kV6 dc6 pm6 cd6 ct6 : Value}
    (a6 : PySem.W.findIn K (.ref C_Memory) "put" = some (some (.ref f6)))
    (i6 : PySem.W.isFn K (.ref f6) = true)
    (l6 : K.lookup f6 = some ⟨oc6, od6, .func (PySem.W.fnOf "put" "Memory.put" (defArgs s_Memory_put) (defBody s_Memory_put) (defScope s_Memory_put) .none kV6 dc6 pm6 an6 cd6 ct6), sl6⟩) (c6 : PySem.W.codeIn K cd6 "Memory.put" = true) (k6 : PySem.W.keepIn K (.ref f6) = true)
    {f7 : Addr} {od7 an7 : Option Addr} {sl7 : Array (Option Value)} {oc7 kV7 dc7 pm7 cd7 ct7 : Value}
    (a7 : PySem.W.findIn K (.ref C_Memory) "spoil" = some (some (.ref f7)))
    (i7 : PySem.W.isFn K (.ref f7) = true)
    (l7 : K.lookup f7 = some ⟨oc7, od7, .func (PySem.W.fnOf "spoil" "Memory.spoil" (defArgs s_Memory_spoil) (defBody s_Memory_spoil) (defScope s_Memory_spoil) .none kV7 dc7 pm7 an7 cd7 ct7), sl7⟩) (c7 : PySem.W.codeIn K cd7 "Memory.spoil" = true) (k7 : PySem.W.keepIn K (.ref f7) = true)
    {f8 : Addr} {od8 an8 : Option Addr} {sl8 : Array (Option Value)} {oc8 kV8 dc8 pm8 cd8 ct8 : Value}
    (a8 : PySem.W.findIn K (.ref C_Memory) "cut" = some (some (.ref f8)))
    (i8 : PySem.W.isFn K (.ref f8) = true)
    (l8 : K.lookup f8 = some ⟨oc8, od8, .func (PySem.W.fnOf "cut" "Memory.cut" (defArgs s_Memory_cut) (defBody s_Memory_cut) (defScope s_Memory_cut) .none kV8 dc8 pm8 an8 cd8 ct8), sl8⟩) (c8 : PySem.W.codeIn K cd8 "Memory.cut" = true) (k8 : PySem.W.keepIn K (.ref f8) = true)
    {f9 : Addr} {od9 an9 : Option Addr} {sl9 : Array (Option Value)} {oc9 kV9 dc9 pm9 cd9 ct9 : Value}
    (a9 : PySem.W.findIn K (.ref C_Memory) "up" = some (some (.ref f9)))
    (i9 : PySem.W.isFn K (.ref f9) = true)
    (l9 : K.lookup f9 = some ⟨oc9, od9, .func (PySem.W.fnOf "up" "Memory.up" (defArgs s_Memory_up) (defBody s_Memory_up) (defScope s_Memory_up) .none kV9 dc9 pm9 an9 cd9 ct9), sl9⟩) (c9 : PySem.W.codeIn K cd9 "Memory.up" = true) (k9 : PySem.W.keepIn K (.ref f9) = true)
    {f10 : Addr} {od10 an10 : Option Addr} {sl10 : Array (Option Value)} {oc10 kV10 dc10 pm10 cd10 ct10 : Value}
    (a10 : PySem.W.findIn K (.ref C_Memory) "cells" = some (some (.ref f10)))
    (i10 : PySem.W.isFn K (.ref f10) = true)
    (l10 : K.lookup f10 = some ⟨oc10, od10, .func (PySem.W.fnOf "cells" "Memory.cells" (defArgs s_Memory_cells) (defBody s_Memory_cells) (defScope s_Memory_cells) .none kV10 dc10 pm10 an10 cd10 ct10), sl10⟩) (c10 : PySem.W.codeIn K cd10 "Memory.cells" = true) (k10 : PySem.W.keepIn K (.ref f10) = true)
    {f11 : Addr} {od11 an11 : Option Addr} {sl11 : Array (Option Value)} {oc11 kV11 dc11 pm11 cd11 ct11 : Value}
    (a11 : PySem.W.findIn K (.ref C_Memory) "writes" = some (some (.ref f11)))
    (i11 : PySem.W.isFn K (.ref f11) = true)
    (l11 : K.lookup f11 = some ⟨oc11, od11, .func (PySem.W.fnOf "writes" "Memory.writes" (defArgs s_Memory_writes) (defBody s_Memory_writes) (defScope s_Memory_writes) .none kV11 dc11 pm11 an11 cd11 ct11), sl11⟩) (c11 : PySem.W.codeIn K cd11 "Memory.writes" = true) (k11 : PySem.W.keepIn K (.ref f11) = true)
    {f12 : Addr} {od12 an12 : Option Addr} {sl12 : Array (Option Value)} {oc12 kV12 dc12 pm12 cd12 ct12 : Value}
    (a12 : PySem.W.findIn K (.ref C_Memory) "_check_place" = some (some (.ref f12)))
    (i12 : PySem.W.isFn K (.ref f12) = true)
    (l12 : K.lookup f12 = some ⟨oc12, od12, .func (PySem.W.fnOf "_check_place" "Memory._check_place" (defArgs s_Memory__check_place) (defBody s_Memory__check_place) (defScope s_Memory__check_place) .none kV12 dc12 pm12 an12 cd12 ct12), sl12⟩) (c12 : PySem.W.codeIn K cd12 "Memory._check_place" = true) (k12 : PySem.W.keepIn K (.ref f12) = true)
    {f13 : Addr} {od13 an13 : Option Addr} {sl13 : Array (Option Value)} {oc13 kV13 dc13 pm13 cd13 ct13 : Value}
    (a13 : PySem.W.findIn K (.ref C_Memory) "_check_power" = some (some (.ref f13)))
    (i13 : PySem.W.isFn K (.ref f13) = true)
    (l13 : K.lookup f13 = some ⟨oc13, od13, .func (PySem.W.fnOf "_check_power" "Memory._check_power" (defArgs s_Memory__check_power) (defBody s_Memory__check_power) (defScope s_Memory__check_power) .none kV13 dc13 pm13 an13 cd13 ct13), sl13⟩) (c13 : PySem.W.codeIn K cd13 "Memory._check_power" = true) (k13 : PySem.W.keepIn K (.ref f13) = true)
    {f14 : Addr} {od14 an14 : Option Addr} {sl14 : Array (Option Value)} {oc14 kV14 dc14 pm14 cd14 ct14 : Value}
    (a14 : PySem.W.findIn K (.ref C_Memory) "_lose_power" = some (some (.ref f14)))
    (i14 : PySem.W.isFn K (.ref f14) = true)
    (l14 : K.lookup f14 = some ⟨oc14, od14, .func (PySem.W.fnOf "_lose_power" "Memory._lose_power" (defArgs s_Memory__lose_power) (defBody s_Memory__lose_power) (defScope s_Memory__lose_power) .none kV14 dc14 pm14 an14 cd14 ct14), sl14⟩) (c14 : PySem.W.codeIn K cd14 "Memory._lose_power" = true) (k14 : PySem.W.keepIn K (.ref f14) = true)
    {f15 : Addr} {od15 an15 : Option Addr} {sl15 : Array (Option Value)} {oc15 kV15 dc15 pm15 cd15 ct15 : Value}
    (a15 : PySem.W.nsIn K mainGlobals "_law_taken" = some (some (.ref f15)))
    (l15 : K.lookup f15 = some ⟨oc15, od15, .func (PySem.W.fnOf "_law_taken" "_law_taken" (defArgs s_l_taken) (defBody s_l_taken) (defScope s_l_taken) .none kV15 dc15 pm15 an15 cd15 ct15), sl15⟩) (c15 : PySem.W.codeIn K cd15 "_law_taken" = true) (k15 : PySem.W.keepIn K (.ref f15) = true)
    {f16 : Addr} {od16 an16 : Option Addr} {sl16 : Array (Option Value)} {oc16 kV16 dc16 pm16 cd16 ct16 : Value}
    (a16 : PySem.W.nsIn K mainGlobals "_law_alike" = some (some (.ref f16)))
    (l16 : K.lookup f16 = some ⟨oc16, od16, .func (PySem.W.fnOf "_law_alike" "_law_alike" (defArgs s_l_alike) (defBody s_l_alike) (defScope s_l_alike) .none kV16 dc16 pm16 an16 cd16 ct16), sl16⟩) (c16 : PySem.W.codeIn K cd16 "_law_alike" = true) (k16 : PySem.W.keepIn K (.ref f16) = true)
    {f17 : Addr} {od17 an17 : Option Addr} {sl17 : Array (Option Value)} {oc17 kV17 dc17 pm17 cd17 ct17 : Value}
    (a17 : PySem.W.nsIn K mainGlobals "_law_worth" = some (some (.ref f17)))
    (l17 : K.lookup f17 = some ⟨oc17, od17, .func (PySem.W.fnOf "_law_worth" "_law_worth" (defArgs s_l_worth) (defBody s_l_worth) (defScope s_l_worth) .none kV17 dc17 pm17 an17 cd17 ct17), sl17⟩) (c17 : PySem.W.codeIn K cd17 "_law_worth" = true) (k17 : PySem.W.keepIn K (.ref f17) = true)
    {f18 : Addr} {od18 an18 : Option Addr} {sl18 : Array (Option Value)} {oc18 kV18 dc18 pm18 cd18 ct18 : Value}
    (a18 : PySem.W.nsIn K mainGlobals "_law_own" = some (some (.ref f18)))
    (l18 : K.lookup f18 = some ⟨oc18, od18, .func (PySem.W.fnOf "_law_own" "_law_own" (defArgs s_l_own) (defBody s_l_own) (defScope s_l_own) .none kV18 dc18 pm18 an18 cd18 ct18), sl18⟩) (c18 : PySem.W.codeIn K cd18 "_law_own" = true) (k18 : PySem.W.keepIn K (.ref f18) = true)
    {f19 : Addr} {od19 an19 : Option Addr} {sl19 : Array (Option Value)} {oc19 kV19 dc19 pm19 cd19 ct19 : Value}
    (a19 : PySem.W.nsIn K mainGlobals "_law_write" = some (some (.ref f19)))
    (l19 : K.lookup f19 = some ⟨oc19, od19, .func (PySem.W.fnOf "_law_write" "_law_write" (defArgs s_l_write) (defBody s_l_write) (defScope s_l_write) .none kV19 dc19 pm19 an19 cd19 ct19), sl19⟩) (c19 : PySem.W.codeIn K cd19 "_law_write" = true) (k19 : PySem.W.keepIn K (.ref f19) = true)
    {f20 : Addr} {od20 an20 : Option Addr} {sl20 : Array (Option Value)} {oc20 kV20 dc20 pm20 cd20 ct20 : Value}
    (a20 : PySem.W.nsIn K mainGlobals "_law_put_in" = some (some (.ref f20)))
    (l20 : K.lookup f20 = some ⟨oc20, od20, .func (PySem.W.fnOf "_law_put_in" "_law_put_in" (defArgs s_l_put_in) (defBody s_l_put_in) (defScope s_l_put_in) .none kV20 dc20 pm20 an20 cd20 ct20), sl20⟩) (c20 : PySem.W.codeIn K cd20 "_law_put_in" = true) (k20 : PySem.W.keepIn K (.ref f20) = true)
    {f21 : Addr} {od21 an21 : Option Addr} {sl21 : Array (Option Value)} {oc21 kV21 dc21 pm21 cd21 ct21 : Value}
    (a21 : PySem.W.nsIn K mainGlobals "_law_told" = some (some (.ref f21)))
    (l21 : K.lookup f21 = some ⟨oc21, od21, .func (PySem.W.fnOf "_law_told" "_law_told" (defArgs s_l_told) (defBody s_l_told) (defScope s_l_told) .none kV21 dc21 pm21 an21 cd21 ct21), sl21⟩) (c21 : PySem.W.codeIn K cd21 "_law_told" = true) (k21 : PySem.W.keepIn K (.ref f21) = true)
    {f22 : Addr} {od22 an22 : Option Addr} {sl22 : Array (Option Value)} {oc22 kV22 dc22 pm22 cd22 ct22 : Value}
    (a22 : PySem.W.nsIn K mainGlobals "_law_due" = some (some (.ref f22)))
    (l22 : K.lookup f22 = some ⟨oc22, od22, .func (PySem.W.fnOf "_law_due" "_law_due" (defArgs s_l_due) (defBody s_l_due) (defScope s_l_due) .none kV22 dc22 pm22 an22 cd22 ct22), sl22⟩) (c22 : PySem.W.codeIn K cd22 "_law_due" = true) (k22 : PySem.W.keepIn K (.ref f22) = true)
    {f23 : Addr} {od23 an23 : Option Addr} {sl23 : Array (Option Value)} {oc23 kV23 dc23 pm23 ct23 : Value}
    (a23 : PySem.W.nsIn K mainGlobals "_law_does" = some (some (.ref f23)))
    (l23 : K.lookup f23 = some ⟨oc23, od23, .func (PySem.W.fnOf "_law_does" "_law_does" (defArgs s_l_does) (defBody s_l_does) (defScope s_l_does) .none kV23 dc23 pm23 an23 (.ref cT) ct23), sl23⟩) (c23 : PySem.W.codeIn K (.ref cT) "_law_does" = true) (k23 : PySem.W.keepIn K (.ref f23) = true)
    {f24 : Addr} {od24 an24 : Option Addr} {sl24 : Array (Option Value)} {oc24 kV24 dc24 pm24 cd24 ct24 : Value}
    (a24 : PySem.W.nsIn K mainGlobals "_law_drawn" = some (some (.ref f24)))
    (l24 : K.lookup f24 = some ⟨oc24, od24, .func (PySem.W.fnOf "_law_drawn" "_law_drawn" (defArgs s_l_drawn) (defBody s_l_drawn) (defScope s_l_drawn) .none kV24 dc24 pm24 an24 cd24 ct24), sl24⟩) (c24 : PySem.W.codeIn K cd24 "_law_drawn" = true) (k24 : PySem.W.keepIn K (.ref f24) = true)
    {f25 : Addr} {od25 an25 : Option Addr} {sl25 : Array (Option Value)} {oc25 kV25 dc25 pm25 cd25 ct25 : Value}
    (a25 : PySem.W.nsIn K mainGlobals "law" = some (some (.ref f25)))
    (l25 : K.lookup f25 = some ⟨oc25, od25, .func (PySem.W.fnOf "law" "law" (defArgs s_law) (defBody s_law) (defScope s_law) .none kV25 dc25 pm25 an25 cd25 ct25), sl25⟩) (c25 : PySem.W.codeIn K cd25 "law" = true) (k25 : PySem.W.keepIn K (.ref f25) = true)
    (pg_Memory : PySem.W.plainGet K C_Memory Str.empty = true) (hd_Memory : PySem.W.hasDictIn K C_Memory = true) (po_Memory : PySem.W.plainOver K C_Memory = true) (sa_Memory : PySem.W.findIn K (.ref C_Memory) "__setattr__" = some (some (.builtin "object.__setattr__"))) (mk_Memory : PySem.W.makesIn K C_Memory = true) (kc_Memory : PySem.W.keepIn K (.ref C_Memory) = true)
    (n_Memory__cells : PySem.W.findIn K (.ref C_Memory) "_cells" = some none)
    (n_Memory__whole_writes : PySem.W.findIn K (.ref C_Memory) "_whole_writes" = some none)
    (n_Memory__has_power : PySem.W.findIn K (.ref C_Memory) "_has_power" = some none)
    (n_Memory__ahead : PySem.W.findIn K (.ref C_Memory) "_ahead" = some none)
    (n_Memory__torn : PySem.W.findIn K (.ref C_Memory) "_torn" = some none)
    (x_Stopped : PySem.W.excIn K C_Stopped [.type "ValueError", .type "Exception", .type "BaseException", .type "object"] "ValueError.__new__" = true) (kx_Stopped : PySem.W.keepIn K (.ref C_Stopped) = true) (bx_Stopped : PySem.W.subIn K (.ref C_Stopped) (.type "BaseException") = some true) (tx_Stopped : PySem.W.typeIn K (.ref C_Stopped) = some (.type "type"))
    (ix_Stopped : PySem.W.isClsIn K C_Stopped = true) (sx_Stopped : PySem.W.subIn K (.ref C_Stopped) (.ref C_Stopped) = some true)
    (z_bool : PySem.W.nsIn K mainGlobals "bool" = some none)
    (z_enumerate : PySem.W.nsIn K mainGlobals "enumerate" = some none)
    (z_int : PySem.W.nsIn K mainGlobals "int" = some none)
    (z_isinstance : PySem.W.nsIn K mainGlobals "isinstance" = some none)
    (z_len : PySem.W.nsIn K mainGlobals "len" = some none)
    (z_list : PySem.W.nsIn K mainGlobals "list" = some none)
    (z_min : PySem.W.nsIn K mainGlobals "min" = some none)
    (z_range : PySem.W.nsIn K mainGlobals "range" = some none)
    (z_str : PySem.W.nsIn K mainGlobals "str" = some none)
    (z_tuple : PySem.W.nsIn K mainGlobals "tuple" = some none)
    {t_GREATEST_WORTH : Tok} (y_GREATEST_WORTH : PySem.W.nsIn K mainGlobals "GREATEST_WORTH" = some (some (.int 9972 t_GREATEST_WORTH)))
    {t_LATEST_CUT : Tok} (y_LATEST_CUT : PySem.W.nsIn K mainGlobals "LATEST_CUT" = some (some (.int 100000 t_LATEST_CUT)))
    {t_MOST_CELLS : Tok} (y_MOST_CELLS : PySem.W.nsIn K mainGlobals "MOST_CELLS" = some (some (.int 400 t_MOST_CELLS)))
    {t_TORN : Addr} (y_TORN : PySem.W.nsIn K mainGlobals "TORN" = some (some (.ref t_TORN))) {od_TORN : Option Addr} {nn_TORN : Nat} {ss_TORN : Array (Option Value)} {u_TORN0 u_TORN1 u_TORN2 : Tok} (lt_TORN : K.lookup t_TORN = some ⟨.type "tuple", od_TORN, .seq #[.str "old" u_TORN0, .str "broken" u_TORN1, .str "new" u_TORN2] nn_TORN, ss_TORN⟩)
    (ht : h.get? Pt = some (PySem.W.tabObj #[])) (hn : K.lookup Pt = none) (hh : PySem.W.codeHdIn K cT Pt = true)
    : LamX.LawAtS l w K CX0 7 63 "_law_script" mg fa h := by
  have e := hfa.symm.trans (PySem.W.mg_of X G a25)
  cases e
  have F1 := fun_mk (st := s_check_worth) l1 c1 k1
  have b1 := F1.binds (ps := P_check_worth) fun _ _ _ _ _ _ us hl => match us, hl with | [_], _ => rfl
  have F2 := fun_mk (st := s_Memory___init__) l2 c2 k2
  have b2 := F2.binds (ps := P_Memory___init__) fun _ _ _ _ _ _ us hl => match us, hl with | [_, _], _ => rfl
  have F3 := fun_mk (st := s_Memory_read) l3 c3 k3
  have b3 := F3.binds (ps := P_Memory_read) fun _ _ _ _ _ _ us hl => match us, hl with | [_, _], _ => rfl
  have F4 := fun_mk (st := s_Memory_row) l4 c4 k4
  have b4 := F4.binds (ps := P_Memory_row) fun _ _ _ _ _ _ us hl => match us, hl with | [_, _, _], _ => rfl
  have F5 := fun_mk (st := s_Memory_write) l5 c5 k5
  have b5 := F5.binds (ps := P_Memory_write) fun _ _ _ _ _ _ us hl => match us, hl with | [_, _, _], _ => rfl
  have F6 := fun_mk (st := s_Memory_put) l6 c6 k6
  have b6 := F6.binds (ps := P_Memory_put) fun _ _ _ _ _ _ us hl => match us, hl with | [_, _, _], _ => rfl
  have F7 := fun_mk (st := s_Memory_spoil) l7 c7 k7
  have b7 := F7.binds (ps := P_Memory_spoil) fun _ _ _ _ _ _ us hl => match us, hl with | [_, _, _], _ => rfl
  have F8 := fun_mk (st := s_Memory_cut) l8 c8 k8
  have b8 := F8.binds (ps := P_Memory_cut) fun _ _ _ _ _ _ us hl => match us, hl with | [_, _, _], _ => rfl
  have F9 := fun_mk (st := s_Memory_up) l9 c9 k9
  have b9 := F9.binds (ps := P_Memory_up) fun _ _ _ _ _ _ us hl => match us, hl with | [_], _ => rfl
  have F10 := fun_mk (st := s_Memory_cells) l10 c10 k10
  have b10 := F10.binds (ps := P_Memory_cells) fun _ _ _ _ _ _ us hl => match us, hl with | [_], _ => rfl
  have F11 := fun_mk (st := s_Memory_writes) l11 c11 k11
  have b11 := F11.binds (ps := P_Memory_writes) fun _ _ _ _ _ _ us hl => match us, hl with | [_], _ => rfl
  have F12 := fun_mk (st := s_Memory__check_place) l12 c12 k12
  have b12 := F12.binds (ps := P_Memory__check_place) fun _ _ _ _ _ _ us hl => match us, hl with | [_, _], _ => rfl
  have F13 := fun_mk (st := s_Memory__check_power) l13 c13 k13
  have b13 := F13.binds (ps := P_Memory__check_power) fun _ _ _ _ _ _ us hl => match us, hl with | [_], _ => rfl
  have F14 := fun_mk (st := s_Memory__lose_power) l14 c14 k14
  have b14 := F14.binds (ps := P_Memory__lose_power) fun _ _ _ _ _ _ us hl => match us, hl with | [_, _, _], _ => rfl
  have F15 := fun_mk (st := s_l_taken) l15 c15 k15
  have b15 := F15.binds (ps := P_l_taken) fun _ _ _ _ _ _ us hl => match us, hl with | [_, _], _ => rfl
  have F16 := fun_mk (st := s_l_alike) l16 c16 k16
  have b16 := F16.binds (ps := P_l_alike) fun _ _ _ _ _ _ us hl => match us, hl with | [_, _], _ => rfl
  have F17 := fun_mk (st := s_l_worth) l17 c17 k17
  have b17 := F17.binds (ps := P_l_worth) fun _ _ _ _ _ _ us hl => match us, hl with | [_], _ => rfl
  have F18 := fun_mk (st := s_l_own) l18 c18 k18
  have b18 := F18.binds (ps := P_l_own) fun _ _ _ _ _ _ us hl => match us, hl with | [_], _ => rfl
  have F19 := fun_mk (st := s_l_write) l19 c19 k19
  have b19 := F19.binds (ps := P_l_write) fun _ _ _ _ _ _ us hl => match us, hl with | [_, _, _], _ => rfl
  have F20 := fun_mk (st := s_l_put_in) l20 c20 k20
  have b20 := F20.binds (ps := P_l_put_in) fun _ _ _ _ _ _ us hl => match us, hl with | [_, _, _], _ => rfl
  have F21 := fun_mk (st := s_l_told) l21 c21 k21
  have b21 := F21.binds (ps := P_l_told) fun _ _ _ _ _ _ us hl => match us, hl with | [_], _ => rfl
  have F22 := fun_mk (st := s_l_due) l22 c22 k22
  have b22 := F22.binds (ps := P_l_due) fun _ _ _ _ _ _ us hl => match us, hl with | [_, _], _ => rfl
  have F23 := fun_mk (st := s_l_does) l23 c23 k23
  have b23 := F23.binds (ps := P_l_does) fun _ _ _ _ _ _ us hl => match us, hl with | [_, _], _ => rfl
  have F24 := fun_mk (st := s_l_drawn) l24 c24 k24
  have b24 := F24.binds (ps := P_l_drawn) fun _ _ _ _ _ _ us hl => match us, hl with | [_, _], _ => rfl
  have F25 := fun_mk (st := s_law) l25 c25 k25
  have b25 := F25.binds (ps := P_law) fun _ _ _ _ _ _ us hl => match us, hl with | [_], _ => rfl
  have T : Top K mg ⟨f1, _, f2, _, f3, _, f4, _, f5, _, f6, _, f7, _, f8, _, f9, _, f10, _, f11, _, f12, _, f13, _, f14, _, f15, _, f16, _, f17, _, f18, _, f19, _, f20, _, f21, _, f22, _, f23, _, f24, _, _, _, t_GREATEST_WORTH, t_LATEST_CUT, t_MOST_CELLS, t_TORN, C_Memory, C_Stopped⟩ := ⟨F1, b1, PySem.W.mg_of X G a1, F2, b2, ⟨mk_Memory, a2, i2, kc_Memory⟩, F3, b3, ⟨a3, i3, k3⟩, F4, b4, ⟨a4, i4, k4⟩, F5, b5, ⟨a5, i5, k5⟩, F6, b6, ⟨a6, i6, k6⟩, F7, b7, ⟨a7, i7, k7⟩, F8, b8, ⟨a8, i8, k8⟩, F9, b9, ⟨a9, i9, k9⟩, F10, b10, ⟨a10, i10, k10⟩, F11, b11, ⟨a11, i11, k11⟩, F12, b12, ⟨a12, i12, k12⟩, F13, b13, ⟨a13, i13, k13⟩, F14, b14, ⟨a14, i14, k14⟩, F15, b15, PySem.W.mg_of X G a15, F16, b16, PySem.W.mg_of X G a16, F17, b17, PySem.W.mg_of X G a17, F18, b18, PySem.W.mg_of X G a18, F19, b19, PySem.W.mg_of X G a19, F20, b20, PySem.W.mg_of X G a20, F21, b21, PySem.W.mg_of X G a21, F22, b22, PySem.W.mg_of X G a22, F23, b23, PySem.W.mg_of X G a23, F24, b24, PySem.W.mg_of X G a24, F25, b25, PySem.W.mg_of X G a25, ⟨pg_Memory, hd_Memory, po_Memory, sa_Memory⟩, PySem.W.mg_of X G a_Memory, n_Memory__cells, n_Memory__whole_writes, n_Memory__has_power, n_Memory__ahead, n_Memory__torn, PySem.W.mg_of X G a_Stopped, x_Stopped, kx_Stopped, bx_Stopped, tx_Stopped, (exm_self bx_Stopped ix_Stopped tx_Stopped sx_Stopped), PySem.W.mg_none_of X G z_bool, PySem.W.mg_none_of X G z_enumerate, PySem.W.mg_none_of X G z_int, PySem.W.mg_none_of X G z_isinstance, PySem.W.mg_none_of X G z_len, PySem.W.mg_none_of X G z_list, PySem.W.mg_none_of X G z_min, PySem.W.mg_none_of X G z_range, PySem.W.mg_none_of X G z_str, PySem.W.mg_none_of X G z_tuple, PySem.W.mg_of X G y_GREATEST_WORTH, PySem.W.mg_of X G y_LATEST_CUT, PySem.W.mg_of X G y_MOST_CELLS, PySem.W.mg_of X G y_TORN, (fun _ => .inr ⟨_, _, _, lt_TORN, rfl, rfl, Dw.sz_ rfl, (.cons ⟨_, rfl⟩ (.cons ⟨_, rfl⟩ (.cons ⟨_, rfl⟩ .nil)))⟩)⟩
  refine ⟨PySem.W.fnOf "law" "law" (defArgs s_law) (defBody s_law) (defScope s_law) .none kV25 dc25 pm25 an25 cd25 ct25, [(cT, Pt)], spLaw Pt K, fun p hp => ?_, fun p hp => ?_, fun p hp => ?_, fun s v => .of_eq rfl, fun H b ns h1 _ h2 h3 => ⟨b, ns, rfl, h3, h1, fun p hp => ?_, fun _ => rfl⟩, fun base _ _ hb => G_law T ⟨⟨oc23, od23, kV23, dc23, pm23, an23, ct23, sl23, rfl, l23, c23⟩, hb (cT, Pt) List.mem_cons_self⟩⟩
  · rw [List.mem_singleton.mp hp]
    exact ht
  · rw [List.mem_singleton.mp hp]
    exact hn
  · rw [List.mem_singleton.mp hp]
    exact PySem.W.codeHd_of_K X hh
  · rw [List.mem_singleton.mp hp]
    exact LamX.TabS.nil (h2 (cT, Pt) List.mem_cons_self)
end K02
open PySem PySem.W PyProof.Rows
set_option maxRecDepth 100000 in
set_option maxHeartbeats 0 in
theorem PySem.Challenge.cw_twoimages_k02_whole_cells_write_by_write_holds : PySem.Challenge.rw_twoimages_k02_whole_cells_write_by_write.Holds := by
  w_on; o_law; k_head; (case hw => w_witness2)
  k_fill
  refine LamX.walk_ofTs (l := PySem.Challenge.rw_twoimages_k02_whole_cells_write_by_write) (n := 63) (k := 7) (x := "_law_script") (CX := fun _ => L2.CX0) rfl (by decide) rfl ⟨rfl, by decide, by decide⟩ (fun w h Y => PySem.W.km_in_of Y) ?F (fun _ _ _ _ _ h => h)
  case F =>
    intro w mg fa h Y KX G hmg
    have hT8 := PySem.W.km_tabs_of Y
    refine' K02.at_mk KX G hmg ?a_Memory ?a_Stopped ?a1 ?l1 ?c1 ?k1 ?a2 ?i2 ?l2 ?c2 ?k2 ?a3 ?i3 ?l3 ?c3 ?k3 ?a4 ?i4 ?l4 ?c4 ?k4 ?a5 ?i5 ?l5 ?c5 ?k5 ?a6 ?i6 ?l6 ?c6 ?k6 ?a7 ?i7 ?l7 ?c7 ?k7 ?a8 ?i8 ?l8 ?c8 ?k8 ?a9 ?i9 ?l9 ?c9 ?k9 ?a10 ?i10 ?l10 ?c10 ?k10 ?a11 ?i11 ?l11 ?c11 ?k11 ?a12 ?i12 ?l12 ?c12 ?k12 ?a13 ?i13 ?l13 ?c13 ?k13 ?a14 ?i14 ?l14 ?c14 ?k14 ?a15 ?l15 ?c15 ?k15 ?a16 ?l16 ?c16 ?k16 ?a17 ?l17 ?c17 ?k17 ?a18 ?l18 ?c18 ?k18 ?a19 ?l19 ?c19 ?k19 ?a20 ?l20 ?c20 ?k20 ?a21 ?l21 ?c21 ?k21 ?a22 ?l22 ?c22 ?k22 ?a23 ?l23 ?c23 ?k23 ?a24 ?l24 ?c24 ?k24 ?a25 ?l25 ?c25 ?k25 ?pg_Memory ?hd_Memory ?po_Memory ?sa_Memory ?mk_Memory ?kc_Memory ?n_Memory__cells ?n_Memory__whole_writes ?n_Memory__has_power ?n_Memory__ahead ?n_Memory__torn ?x_Stopped ?kx_Stopped ?bx_Stopped ?tx_Stopped ?ix_Stopped ?sx_Stopped ?z_bool ?z_enumerate ?z_int ?z_isinstance ?z_len ?z_list ?z_min ?z_range ?z_str ?z_tuple ?y_GREATEST_WORTH ?y_LATEST_CUT ?y_MOST_CELLS ?y_TORN ?lt_TORN ?ht ?hn ?hh
    (case ht => exact hT8 _ List.mem_cons_self); (case a_Memory => k_is); (case a_Stopped => k_is); (case a1 => k_is); (case l1 => k_is); (case c1 => k_is); (case k1 => k_is); (case a2 => k_is); (case i2 => k_is); (case l2 => k_is); (case c2 => k_is); (case k2 => k_is); (case a3 => k_is); (case i3 => k_is); (case l3 => k_is); (case c3 => k_is); (case k3 => k_is); (case a4 => k_is); (case i4 => k_is); (case l4 => k_is); (case c4 => k_is); (case k4 => k_is); (case a5 => k_is); (case i5 => k_is); (case l5 => k_is); (case c5 => k_is); (case k5 => k_is); (case a6 => k_is); (case i6 => k_is); (case l6 => k_is); (case c6 => k_is); (case k6 => k_is); (case a7 => k_is); (case i7 => k_is); (case l7 => k_is); (case c7 => k_is); (case k7 => k_is); (case a8 => k_is); (case i8 => k_is); (case l8 => k_is); (case c8 => k_is); (case k8 => k_is); (case a9 => k_is); (case i9 => k_is); (case l9 => k_is); (case c9 => k_is); (case k9 => k_is); (case a10 => k_is); (case i10 => k_is); (case l10 => k_is); (case c10 => k_is); (case k10 => k_is); (case a11 => k_is); (case i11 => k_is); (case l11 => k_is); (case c11 => k_is); (case k11 => k_is); (case a12 => k_is); (case i12 => k_is); (case l12 => k_is); (case c12 => k_is); (case k12 => k_is); (case a13 => k_is); (case i13 => k_is); (case l13 => k_is); (case c13 => k_is); (case k13 => k_is); (case a14 => k_is); (case i14 => k_is); (case l14 => k_is); (case c14 => k_is); (case k14 => k_is); (case a15 => k_is); (case l15 => k_is); (case c15 => k_is); (case k15 => k_is); (case a16 => k_is); (case l16 => k_is); (case c16 => k_is); (case k16 => k_is); (case a17 => k_is); (case l17 => k_is); (case c17 => k_is); (case k17 => k_is); (case a18 => k_is); (case l18 => k_is); (case c18 => k_is); (case k18 => k_is); (case a19 => k_is); (case l19 => k_is); (case c19 => k_is); (case k19 => k_is); (case a20 => k_is); (case l20 => k_is); (case c20 => k_is); (case k20 => k_is); (case a21 => k_is); (case l21 => k_is); (case c21 => k_is); (case k21 => k_is); (case a22 => k_is); (case l22 => k_is); (case c22 => k_is); (case k22 => k_is); (case a23 => k_is); (case l23 => k_is); (case c23 => k_is); (case k23 => k_is); (case a24 => k_is); (case l24 => k_is); (case c24 => k_is); (case k24 => k_is); (case a25 => k_is); (case l25 => k_is); (case c25 => k_is); (case k25 => k_is); (case pg_Memory => k_is); (case hd_Memory => k_is); (case po_Memory => k_is); (case sa_Memory => k_is); (case mk_Memory => k_is); (case kc_Memory => k_is); (case n_Memory__cells => k_is); (case n_Memory__whole_writes => k_is); (case n_Memory__has_power => k_is); (case n_Memory__ahead => k_is); (case n_Memory__torn => k_is); (case x_Stopped => k_exc); (case kx_Stopped => k_is); (case bx_Stopped => k_is); (case tx_Stopped => k_is); (case ix_Stopped => k_is); (case sx_Stopped => k_is); (case z_bool => k_is); (case z_enumerate => k_is); (case z_int => k_is); (case z_isinstance => k_is); (case z_len => k_is); (case z_list => k_is); (case z_min => k_is); (case z_range => k_is); (case z_str => k_is); (case z_tuple => k_is); (case y_GREATEST_WORTH => k_is); (case y_LATEST_CUT => k_is); (case y_MOST_CELLS => k_is); (case y_TORN => k_is); (case lt_TORN => k_is); (case hn => kernel_rfl); (case hh => kernel_rfl)

