import PyProof.Rows.All
import Wide.All
import OpenK.AllK
import Wide.FinOn
import HandS.ForMost
import HandS.Codes
import HandS.IsInst
import PySem.Challenge.RW_twoimages_k03_sums_names_seals
set_option Elab.async false
set_option linter.all false
set_option autoImplicit false
set_option maxRecDepth 100000
/-! the mathematics of sums and seals: plain lists of ints -/
namespace Sm
def step (p : Int × Int) (x : Int) : Int × Int := ((p.1 + x + 1) % 9973, (p.2 + (p.1 + x + 1) % 9973) % 9973)
def sumsI (xs : List Int) : Int × Int := xs.foldl step (0, 0)
def sl (k t x : Int) : Int := (t * k + x + 1) % 9973
def sealI (k : Int) (xs : List Int) : Int := xs.foldl (sl k) k
/-- the weights -/
def w1 : List Int → Int
  | [] => 0
  | x :: r => (x + 1) + w1 r
def w2 : List Int → Int
  | [] => 0
  | x :: r => ((r.length : Int) + 1) * (x + 1) + w2 r
theorem fold_w : ∀ (xs : List Int) (a b : Int), xs.foldl step (a % 9973, b % 9973) = ((a + w1 xs) % 9973, (b + (xs.length : Int) * a + w2 xs) % 9973)
  | [], a, b => by simp [w1, w2]
  | x :: r, a, b => by
    have e : step (a % 9973, b % 9973) x = ((a + (x + 1)) % 9973, (b + (a + (x + 1))) % 9973) := by
      unfold step
      simp only
      refine Prod.ext ?_ ?_
      · show (a % 9973 + x + 1) % 9973 = (a + (x + 1)) % 9973
        omega
      · show (b % 9973 + (a % 9973 + x + 1) % 9973) % 9973 = (b + (a + (x + 1))) % 9973
        omega
    rw [List.foldl_cons, e, fold_w r]
    refine Prod.ext ?_ ?_
    · show (a + (x + 1) + w1 r) % 9973 = (a + ((x + 1) + w1 r)) % 9973
      congr 1
      omega
    · show (b + (a + (x + 1)) + (r.length : Int) * (a + (x + 1)) + w2 r) % 9973 = (b + ((x :: r).length : Int) * a + (((r.length : Int) + 1) * (x + 1) + w2 r)) % 9973
      congr 1
      rw [List.length_cons]
      have e1 : ((r.length + 1 : Nat) : Int) * a = (r.length : Int) * a + a := by
        rw [Int.natCast_add, Int.add_mul]
        simp
      have e2 : ((r.length : Int) + 1) * (x + 1) = (r.length : Int) * (x + 1) + (x + 1) := by
        rw [Int.add_mul, Int.one_mul]
      have e3 : (r.length : Int) * (a + (x + 1)) = (r.length : Int) * a + (r.length : Int) * (x + 1) := Int.mul_add _ _ _
      rw [e1, e2, e3]
      omega
theorem sums_w (xs : List Int) : sumsI xs = (w1 xs % 9973, w2 xs % 9973) := by
  have h := fold_w xs 0 0
  unfold sumsI
  rw [show ((0 : Int), (0 : Int)) = (0 % 9973, 0 % 9973) from rfl, h]
  refine Prod.ext ?_ ?_
  · show (0 + w1 xs) % 9973 = _
    rw [Int.zero_add]
  · show (0 + (xs.length : Int) * 0 + w2 xs) % 9973 = _
    rw [Int.mul_zero, Int.add_zero, Int.zero_add]
/-- a number put at a place: what the weights become -/
theorem w1_set : ∀ (xs : List Int) (i : Nat) (x y : Int), xs[i]? = some x → w1 (xs.set i y) = w1 xs + (y - x)
  | [], i, x, y, h => by simp at h
  | a :: r, 0, x, y, h => by
    have e : a = x := by simpa using h
    subst e
    show (y + 1) + w1 r = (a + 1) + w1 r + (y - a)
    omega
  | a :: r, i + 1, x, y, h => by
    have ih := w1_set r i x y (by simpa using h)
    show (a + 1) + w1 (r.set i y) = (a + 1) + w1 r + (y - x)
    omega
theorem w2_set : ∀ (xs : List Int) (i : Nat) (x y : Int), xs[i]? = some x → w2 (xs.set i y) = w2 xs + ((xs.length : Int) - i) * (y - x)
  | [], i, x, y, h => by simp at h
  | a :: r, 0, x, y, h => by
    have e : a = x := by simpa using h
    subst e
    show ((r.length : Int) + 1) * (y + 1) + w2 r = ((r.length : Int) + 1) * (a + 1) + w2 r + ((((a :: r).length : Nat) : Int) - ((0 : Nat) : Int)) * (y - a)
    rw [List.length_cons, show (((r.length + 1 : Nat)) : Int) - ((0 : Nat) : Int) = (r.length : Int) + 1 by omega]
    rw [Int.mul_sub, Int.mul_add, Int.mul_add]
    omega
  | a :: r, i + 1, x, y, h => by
    have ih := w2_set r i x y (by simpa using h)
    show (((r.set i y).length : Int) + 1) * (a + 1) + w2 (r.set i y) = ((r.length : Int) + 1) * (a + 1) + w2 r + ((((a :: r).length : Nat) : Int) - ((i + 1 : Nat) : Int)) * (y - x)
    rw [List.length_set, List.length_cons, show (((r.length + 1 : Nat)) : Int) - ((i + 1 : Nat) : Int) = (r.length : Int) - i by omega, ih]
    omega
/-! the prime -/
def chk : Nat → Bool
  | 0 => true
  | k + 1 => (Nat.gcd (k + 1) 9973 == 1) && chk k
theorem chk_ok : chk 9972 = true := by decide +kernel
theorem chk_at : ∀ n k : Nat, chk n = true → 0 < k → k ≤ n → Nat.gcd k 9973 = 1
  | 0, k, _, h0, h1 => by omega
  | n + 1, k, h, h0, h1 => by
    unfold chk at h
    rw [Bool.and_eq_true] at h
    by_cases e : k = n + 1
    · subst e
      exact eq_of_beq h.1
    · exact chk_at n k h.2 h0 (by omega)
theorem cop_small (k : Nat) (h : k < 9973) : k = 0 ∨ Nat.gcd k 9973 = 1 := by
  by_cases e : k = 0
  · exact .inl e
  · exact .inr (chk_at 9972 k chk_ok (by omega) (by omega))
theorem dvd_small {k : Nat} (h0 : 0 < k) (h1 : k < 9973) {m : Nat} (h : 9973 ∣ k * m) : 9973 ∣ m := by
  have g : Nat.gcd 9973 k = 1 := by
    rw [Nat.gcd_comm]
    rcases cop_small k h1 with e | e
    · omega
    · exact e
  exact Nat.Coprime.dvd_of_dvd_mul_left (n := m) (m := k) (k := 9973) g h
/-- a product of a small factor that isn't nought and a small difference is no multiple -/
theorem no_mult {c d : Int} (hc0 : c ≠ 0) (hc1 : -9973 < c) (hc2 : c < 9973) (hd1 : -9973 < d) (hd2 : d < 9973) (h : (c * d) % 9973 = 0) : d = 0 := by
  have h1 : (9973 : Int) ∣ c * d := Int.dvd_of_emod_eq_zero h
  have h2 : 9973 ∣ c.natAbs * d.natAbs := by
    rw [← Int.natAbs_mul]
    exact Int.natAbs_dvd_natAbs.mpr h1
  have h3 : 9973 ∣ d.natAbs := dvd_small (by omega) (by omega) h2
  have h4 : d.natAbs = 0 := Nat.eq_zero_of_dvd_of_lt h3 (by omega)
  omega
/-- one number changed -/
theorem one_ne {xs : List Int} {i : Nat} {x y : Int} (h : xs[i]? = some x) (hne : y ≠ x) (hx : 0 ≤ x ∧ x < 9973) (hy : 0 ≤ y ∧ y < 9973) : sumsI (xs.set i y) ≠ sumsI xs := by
  intro e
  rw [sums_w, sums_w] at e
  have e1 : w1 (xs.set i y) % 9973 = w1 xs % 9973 := congrArg Prod.fst e
  rw [w1_set xs i x y h] at e1
  omega
/-- two numbers changed -/
theorem two_ne {xs : List Int} {i j : Nat} {x y u v : Int} (h : xs[i]? = some x) (hij : i ≠ j) (h' : xs[j]? = some u) (hl : xs.length ≤ 1000) (hne : y ≠ x) (hx : 0 ≤ x ∧ x < 9973) (hy : 0 ≤ y ∧ y < 9973) (hu : 0 ≤ u ∧ u < 9973) (hv : 0 ≤ v ∧ v < 9973) :
    sumsI ((xs.set i y).set j v) ≠ sumsI xs := by
  intro e
  have hi : i < xs.length := (List.getElem?_eq_some_iff.mp h).1
  have hj : j < xs.length := (List.getElem?_eq_some_iff.mp h').1
  have h2 : (xs.set i y)[j]? = some u := by
    rw [List.getElem?_set_ne hij]
    exact h'
  rw [sums_w, sums_w] at e
  have e1 : w1 ((xs.set i y).set j v) % 9973 = w1 xs % 9973 := congrArg Prod.fst e
  have e2 : w2 ((xs.set i y).set j v) % 9973 = w2 xs % 9973 := congrArg Prod.snd e
  rw [w1_set _ j u v h2, w1_set xs i x y h] at e1
  rw [w2_set _ j u v h2, w2_set xs i x y h, List.length_set] at e2
  -- the differences
  have hd : ∃ q : Int, (v - u) = 9973 * q - (y - x) := ⟨((y - x) + (v - u)) / 9973, by omega⟩
  obtain ⟨q, hq⟩ := hd
  rw [hq] at e2
  have e3 : ((xs.length : Int) - i) * (y - x) + ((xs.length : Int) - j) * (9973 * q - (y - x)) = ((j : Int) - i) * (y - x) + 9973 * (((xs.length : Int) - j) * q) := by
    have a1 : ((xs.length : Int) - j) * (9973 * q - (y - x)) = 9973 * (((xs.length : Int) - j) * q) - ((xs.length : Int) - j) * (y - x) := by
      rw [Int.mul_sub, Int.mul_left_comm]
    have a2 : ((xs.length : Int) - i) * (y - x) = ((xs.length : Int) - j) * (y - x) + ((j : Int) - i) * (y - x) := by
      rw [← Int.add_mul]
      congr 1
      omega
    rw [a1, a2]
    omega
  have e4 : (((j : Int) - i) * (y - x)) % 9973 = 0 := by
    rw [Int.add_assoc, e3] at e2
    omega
  have := no_mult (c := (j : Int) - i) (d := y - x) (by omega) (by omega) (by omega) (by omega) (by omega) e4
  omega
/-! the seal -/
theorem sl_range (k t x : Int) : 0 ≤ sl k t x ∧ sl k t x < 9973 := by
  unfold sl
  omega
theorem seal_range : ∀ (k : Int) (xs : List Int) (t : Int), (0 ≤ t ∧ t < 9973) → 0 ≤ xs.foldl (sl k) t ∧ xs.foldl (sl k) t < 9973
  | _, [], _, h => h
  | k, x :: r, t, _ => seal_range k r (sl k t x) (sl_range k t x)
theorem sl_inj {k t u x : Int} (hk : 1 ≤ k ∧ k < 9973) (ht : 0 ≤ t ∧ t < 9973) (hu : 0 ≤ u ∧ u < 9973) (h : sl k t x = sl k u x) : t = u := by
  unfold sl at h
  have e : (k * (t - u)) % 9973 = 0 := by
    rw [Int.mul_sub, Int.mul_comm k t, Int.mul_comm k u]
    omega
  have := no_mult (c := k) (d := t - u) (by omega) (by omega) (by omega) (by omega) (by omega) e
  omega
theorem fold_ne {k : Int} (hk : 1 ≤ k ∧ k < 9973) : ∀ (xs : List Int) (t u : Int), (0 ≤ t ∧ t < 9973) → (0 ≤ u ∧ u < 9973) → t ≠ u → xs.foldl (sl k) t ≠ xs.foldl (sl k) u
  | [], _, _, _, _, h => h
  | x :: r, t, u, ht, hu, h => fold_ne hk r _ _ (sl_range k t x) (sl_range k u x) fun e => h (sl_inj hk ht hu e)
theorem fold_set_ne {k : Int} (hk : 1 ≤ k ∧ k < 9973) : ∀ (xs : List Int) (i : Nat) (t x y : Int), (0 ≤ t ∧ t < 9973) → xs[i]? = some x → y ≠ x → (0 ≤ x ∧ x < 9973) → (0 ≤ y ∧ y < 9973) → (xs.set i y).foldl (sl k) t ≠ xs.foldl (sl k) t
  | [], i, t, x, y, _, h, _, _, _ => by simp at h
  | a :: r, 0, t, x, y, ht, h, hne, hx, hy => by
    have e : a = x := by simpa using h
    subst e
    refine fold_ne hk r _ _ (sl_range k t y) (sl_range k t a) fun e => ?_
    unfold sl at e
    omega
  | a :: r, i + 1, t, x, y, ht, h, hne, hx, hy => fold_set_ne hk r i (sl k t a) x y (sl_range k t a) (by simpa using h) hne hx hy
theorem seal_ne {k : Int} (hk : 1 ≤ k ∧ k < 9973) {xs : List Int} {i : Nat} {x y : Int} (h : xs[i]? = some x) (hne : y ≠ x) (hx : 0 ≤ x ∧ x < 9973) (hy : 0 ≤ y ∧ y < 9973) : sealI k (xs.set i y) ≠ sealI k xs :=
  fold_set_ne hk xs i k x y (by omega) h hne hx hy
theorem set_self {xs : List Int} {i : Nat} {x : Int} (h : xs[i]? = some x) : xs.set i x = xs := by
  refine List.ext_getElem? fun j => ?_
  by_cases e : i = j
  · subst e
    rw [List.getElem?_set_self (List.getElem?_eq_some_iff.mp h).1, h]
  · rw [List.getElem?_set_ne e]
/-- two unlike numbers exchanged -/
theorem swap_ne {xs : List Int} {i j : Nat} {x u : Int} (h : xs[i]? = some x) (h' : xs[j]? = some u) (hl : xs.length ≤ 1000) (hx : 0 ≤ x ∧ x < 9973) (hu : 0 ≤ u ∧ u < 9973) (hne : (xs.set i u).set j x ≠ xs) :
    sumsI ((xs.set i u).set j x) ≠ sumsI xs := by
  have hxu : u ≠ x := fun e => hne (by
    subst e
    rw [set_self h, set_self h'])
  have hij : i ≠ j := fun e => by
    subst e
    rw [h] at h'
    exact hxu (Option.some.inj h').symm
  exact two_ne h hij h' hl hxu hx hu hu hx
/-! sums and seals reckoned otherwise -/
theorem drop_at {xs : List Int} {i : Nat} {x : Int} (h : xs[i]? = some x) : xs.drop i = x :: xs.drop (i + 1) := by
  obtain ⟨hi, e⟩ := List.getElem?_eq_some_iff.mp h
  rw [List.drop_eq_getElem_cons hi, e]
theorem w1_drop {xs : List Int} {i : Nat} {x : Int} (h : xs[i]? = some x) : w1 (xs.drop i) = (x + 1) + w1 (xs.drop (i + 1)) := by
  rw [drop_at h]
  rfl
theorem w2_drop {xs : List Int} {i : Nat} {x : Int} (h : xs[i]? = some x) : w2 (xs.drop i) = ((xs.length : Int) - i) * (x + 1) + w2 (xs.drop (i + 1)) := by
  have hi := (List.getElem?_eq_some_iff.mp h).1
  rw [drop_at h]
  show (((xs.drop (i + 1)).length : Int) + 1) * (x + 1) + w2 (xs.drop (i + 1)) = _
  rw [List.length_drop]
  congr 2
  omega
theorem w1_append : ∀ (u c : List Int), w1 (u ++ c) = w1 u + w1 c
  | [], c => by simp [w1]
  | x :: r, c => by
    show (x + 1) + w1 (r ++ c) = (x + 1) + w1 r + w1 c
    rw [w1_append r c]
    omega
theorem w2_append : ∀ (u c : List Int), w2 (u ++ c) = w2 u + (c.length : Int) * w1 u + w2 c
  | [], c => by simp [w1, w2]
  | x :: r, c => by
    show (((r ++ c).length : Int) + 1) * (x + 1) + w2 (r ++ c) = ((r.length : Int) + 1) * (x + 1) + w2 r + (c.length : Int) * ((x + 1) + w1 r) + w2 c
    rw [w2_append r c, List.length_append]
    have e1 : (((r.length + c.length : Nat) : Int) + 1) * (x + 1) = ((r.length : Int) + 1) * (x + 1) + (c.length : Int) * (x + 1) := by
      rw [← Int.add_mul]
      congr 1
      omega
    have e2 : (c.length : Int) * ((x + 1) + w1 r) = (c.length : Int) * (x + 1) + (c.length : Int) * w1 r := Int.mul_add _ _ _
    rw [e1, e2]
    omega
theorem mul_mod (a b c : Int) : (a % 9973 * b + c) % 9973 = (a * b + c) % 9973 := by
  have h := Int.emod_add_mul_ediv a 9973
  have e : a * b + c = (a % 9973 * b + c) + 9973 * (a / 9973 * b) := by
    have : a * b = a % 9973 * b + 9973 * (a / 9973 * b) := by
      rw [← Int.mul_assoc, ← Int.add_mul, h]
    omega
  rw [e, Int.add_mul_emod_self_left]
/-- a step of joined -/
def jst (p : Int × Int) (t : Int × Int × Int) : Int × Int := ((p.1 + t.1) % 9973, (p.2 + p.1 * t.2.2 + t.2.1) % 9973)
theorem jst_sums (u c : List Int) : jst (sumsI u) ((sumsI c).1, (sumsI c).2, (c.length : Int)) = sumsI (u ++ c) := by
  rw [sums_w, sums_w, sums_w, w1_append, w2_append]
  refine Prod.ext ?_ ?_
  · show (w1 u % 9973 + w1 c % 9973) % 9973 = (w1 u + w1 c) % 9973
    omega
  · show (w2 u % 9973 + w1 u % 9973 * (c.length : Int) + w2 c % 9973) % 9973 = (w2 u + (c.length : Int) * w1 u + w2 c) % 9973
    have h := mul_mod (w1 u) (c.length : Int) (w2 u + w2 c)
    rw [Int.mul_comm (c.length : Int)]
    omega
/-- a seal, from its end on -/
def hz (k : Int) : List Int → Int
  | [] => 0
  | x :: r => (x + 1) * k ^ r.length + hz k r
theorem fold_hz (k : Int) : ∀ (xs : List Int) (t : Int), (0 ≤ t ∧ t < 9973) → xs.foldl (sl k) t = (t * k ^ xs.length + hz k xs) % 9973
  | [], t, h => by
    show t = (t * k ^ 0 + 0) % 9973
    rw [Int.pow_zero, Int.mul_one]
    omega
  | x :: r, t, h => by
    have ih := fold_hz k r (sl k t x) (sl_range k t x)
    rw [List.foldl_cons, ih]
    show ((t * k + x + 1) % 9973 * k ^ r.length + hz k r) % 9973 = (t * k ^ (r.length + 1) + ((x + 1) * k ^ r.length + hz k r)) % 9973
    rw [mul_mod]
    congr 1
    rw [Int.pow_succ, Int.add_assoc (t * k), Int.add_mul, Int.mul_assoc t k, Int.mul_comm k, Int.add_assoc]
theorem seal_hz {k : Int} (hk : 1 ≤ k ∧ k < 9973) (xs : List Int) : (hz k xs + k * k ^ xs.length) % 9973 = sealI k xs := by
  unfold sealI
  rw [fold_hz k xs k (by omega), Int.add_comm]
theorem hz_drop {k : Int} {xs : List Int} {i : Nat} {x : Int} (h : xs[i]? = some x) : hz k (xs.drop i) = hz k (xs.drop (i + 1)) + (x + 1) * k ^ (xs.length - (i + 1)) := by
  rw [drop_at h]
  show (x + 1) * k ^ (xs.drop (i + 1)).length + hz k (xs.drop (i + 1)) = _
  rw [List.length_drop, Int.add_comm]
end Sm

set_option maxRecDepth 100000
/-! the law's row of drawn numbers; heaps -/
namespace Dw
open PySem PySem.Spec PyProof.Rows L2
/-- all but r stays -/
def Keep (r : Addr) (H H' : Hp) : Prop := ∀ b o, b ≠ r → H b = some o → H' b = some o
theorem Keep.refl (r : Addr) (H : Hp) : Keep r H H := fun _ _ _ h => h
theorem Keep.trans {r : Addr} {H H1 H2 : Hp} (a : Keep r H H1) (b : Keep r H1 H2) : Keep r H H2 := fun c o n h => b c o n (a c o n h)
theorem Keep.same {r : Addr} {H H' : Hp} (s : Same H H') : Keep r H H' := fun b o _ h => s b o h
theorem Keep.put {r : Addr} {H : Hp} {o : HO} : Keep r H (upd H r o) := fun b u n h => by
  rw [upd_ne n]
  exact h
theorem Keep.seq {K : PySem.W.Frag} {r c : Addr} {H H' : Hp} {xs : List V} (k : Keep r H H') (n : c ≠ r) (h : SqL K H c xs) : SqL K H' c xs := by
  rcases h with (h | ⟨o, h⟩) | h
  · exact .inl (.inl (k _ _ n h))
  · exact .inl (.inr ⟨o, k _ _ n h⟩)
  · exact .inr h
theorem same_upd {H : Hp} {p : Addr} {o : HO} (h : H p = none) : Same H (upd H p o) := fun b x e => by
  rw [upd_ne (ne_of_none e h)]
  exact e
theorem same_mut {H H' : Hp} {p : Addr} {o : HO} (s : Same H H') (h : H p = none) : Same H (upd H' p o) := fun b x e => by
  rw [upd_ne (ne_of_none e h)]
  exact s _ _ e
theorem sq_of {K : PySem.W.Frag} {H : Hp} {a : Addr} {xs : List V} (h : H a = some (.lst xs)) : SqL K H a xs := .inl (.inl h)
theorem st_of {K : PySem.W.Frag} {H : Hp} {a : Addr} {xs : List V} (h : H a = some (.tup xs)) : SqT K H a xs := .inl (.inl h)
/-- the row that numbers are drawn with stands at r; it was not there in H0, in which the script stands at a -/
structure Dr (K : PySem.W.Frag) (H0 : Hp) (ns : List Int) (a r : Addr) (H : Hp) : Prop where
  row : ∃ p q z : Int, H r = some (.lst [.ref a, .int p, .int q, .int z]) ∧ 0 ≤ p ∧ 0 ≤ q ∧ q < 2147483647
  scr : SqL K H0 a (ns.map V.int)
  same : Same H0 H
  fresh : H0 r = none
  len : ns.length ≤ 63
theorem Dr.seq {K : PySem.W.Frag} {H0 : Hp} {ns : List Int} {a r : Addr} {H : Hp} (D : Dr K H0 ns a r H) : SqL K H a (ns.map V.int) := D.same.seq D.scr
theorem Dr.mono {K : PySem.W.Frag} {H0 : Hp} {ns : List Int} {a r : Addr} {H H' : Hp} (D : Dr K H0 ns a r H) (s : Same H H') : Dr K H0 ns a r H' := by
  obtain ⟨p, q, z, h, b⟩ := D.row
  exact ⟨⟨p, q, z, s _ _ h, b⟩, D.scr, D.same.trans s, D.fresh, D.len⟩
theorem Dr.new {K : PySem.W.Frag} {H0 : Hp} {ns : List Int} {a r p : Addr} {H : Hp} {o : HO} (D : Dr K H0 ns a r H) (h : H p = none) : Dr K H0 ns a r (upd H p o) := D.mono (same_upd h)
theorem Dr.mut {K : PySem.W.Frag} {H0 : Hp} {ns : List Int} {a r p : Addr} {H : Hp} {o : HO} (D : Dr K H0 ns a r H) (n : p ≠ r) (h : H0 p = none) : Dr K H0 ns a r (upd H p o) := by
  obtain ⟨i, q, z, e, b⟩ := D.row
  exact ⟨⟨i, q, z, by rw [upd_ne n.symm]; exact e, b⟩, D.scr, same_mut D.same h, D.fresh, D.len⟩
theorem Dr.put {K : PySem.W.Frag} {H0 : Hp} {ns : List Int} {a r : Addr} {H : Hp} (D : Dr K H0 ns a r H) {p q z : Int} (h0 : 0 ≤ p) (h1 : 0 ≤ q) (h2 : q < 2147483647) : Dr K H0 ns a r (upd H r (.lst [.ref a, .int p, .int q, .int z])) :=
  ⟨⟨p, q, z, upd_same, h0, h1, h2⟩, D.scr, same_mut D.same D.fresh, D.fresh, D.len⟩
/-- what is new in H is not r -/
theorem Dr.ne {K : PySem.W.Frag} {H0 : Hp} {ns : List Int} {a r p : Addr} {H : Hp} (D : Dr K H0 ns a r H) (h : H p = none) : p ≠ r := by
  obtain ⟨_, _, _, e, _⟩ := D.row
  exact (ne_of_none e h).symm
theorem Dr.free {K : PySem.W.Frag} {H0 : Hp} {ns : List Int} {a r p : Addr} {H : Hp} (D : Dr K H0 ns a r H) (h : H p = none) : H0 p = none := D.same.free h
/-- the promise of what draws a number below m -/
def spTaken (K : PySem.W.Frag) : Sp := fun vs H Q _ => ∃ (H0 : Hp) (ns : List Int) (a r : Addr) (m : Int), vs = [.ref r, .int m] ∧ Dr K H0 ns a r H ∧ 0 < m ∧ m < 1073741824 ∧
  ∀ (v : Int) (H' : Hp), Dr K H0 ns a r H' → Keep r H H' → 0 ≤ v → v < m → Q (.int v) H'
/-- the promise of what draws a number below a written m -/
def spDraw (m : Int) (K : PySem.W.Frag) : Sp := fun vs H Q _ => ∃ (H0 : Hp) (ns : List Int) (a r : Addr), vs = [.ref r] ∧ Dr K H0 ns a r H ∧
  ∀ (v : Int) (H' : Hp), Dr K H0 ns a r H' → Keep r H H' → 0 ≤ v → v < m → Q (.int v) H'
/-! ### data: numbers, None, lists of them -/
/-- what a cell holds: a number, or None -/
def cel : V → Bool
  | .int _ => true
  | .non => true
  | _ => false
def dat : V → PyData
  | .int i => .int i
  | .bl b => .bool b
  | .str x => .str x
  | _ => .none
theorem Dp.dat {K : PySem.W.Frag} {H : Hp} : ∀ {v : V}, cel v = true → Dp K H v (dat v)
  | .int i, _ => .int i
  | .non, _ => .non
theorem dpAll_dat {K : PySem.W.Frag} {H : Hp} : ∀ {xs : List V}, (∀ v ∈ xs, cel v = true) → DpAll K H xs (xs.map dat)
  | [], _ => .nil
  | x :: r, h => .cons (Dp.dat (h x List.mem_cons_self)) (dpAll_dat fun v m => h v (List.mem_cons_of_mem _ m))
theorem lay_dat : ∀ {v : V}, cel v = true → (dat v).canLay0 = true ∧ (dat v).depth = 0
  | .int i, _ => ⟨by simp only [dat, PyData.canLay0], by simp only [dat, PyData.depth]⟩
  | .non, _ => ⟨by simp only [dat, PyData.canLay0], by simp only [dat, PyData.depth]⟩
theorem layAll_dat : ∀ {xs : List V}, (∀ v ∈ xs, cel v = true) → PyData.canLayAll0 (xs.map dat) = true ∧ PyData.depthAll (xs.map dat) = 0
  | [], _ => ⟨by simp only [List.map_nil, PyData.canLayAll0], by simp only [List.map_nil, PyData.depthAll]⟩
  | x :: r, h => by
    obtain ⟨a, b⟩ := lay_dat (h x List.mem_cons_self)
    obtain ⟨c, d⟩ := layAll_dat (xs := r) fun v m => h v (List.mem_cons_of_mem _ m)
    constructor
    · rw [List.map_cons, PyData.canLayAll0, a, c]
      rfl
    · rw [List.map_cons, PyData.depthAll, b, d]
      rfl
theorem shaped_l {xs : List V} (h : ∀ v ∈ xs, cel v = true) : SeqAt.shaped (.list (xs.map dat)) = true := by
  obtain ⟨a, b⟩ := layAll_dat h
  unfold SeqAt.shaped
  rw [PyData.canLay0, PyData.depth, a, b]
  rfl
theorem shaped_t {xs : List V} (h : ∀ v ∈ xs, cel v = true) : SeqAt.shaped (.tuple (xs.map dat)) = true := by
  obtain ⟨a, b⟩ := layAll_dat h
  unfold SeqAt.shaped
  rw [PyData.canLay0, PyData.depth, a, b]
  rfl
theorem eqv_dat : ∀ {v u : V}, cel v = true → cel u = true → PyData.eqv (dat v) (dat u) = decide (v = u)
  | .int i, .int j, _, _ => by
    simp only [dat, PyData.eqv, V.int.injEq]
    by_cases e : i = j <;> simp [e]
  | .int i, .non, _, _ => by simp [dat, PyData.eqv]
  | .non, .int j, _, _ => by simp [dat, PyData.eqv]
  | .non, .non, _, _ => by simp [dat, PyData.eqv]
theorem eqvAll_dat : ∀ {xs ys : List V}, (∀ v ∈ xs, cel v = true) → (∀ v ∈ ys, cel v = true) → PyData.eqvAll (xs.map dat) (ys.map dat) = decide (xs = ys)
  | [], [], _, _ => by simp [PyData.eqvAll]
  | [], _ :: _, _, _ => by simp [PyData.eqvAll]
  | _ :: _, [], _, _ => by simp [PyData.eqvAll]
  | x :: r, y :: t, hx, hy => by
    rw [List.map_cons, List.map_cons, PyData.eqvAll, eqv_dat (hx x List.mem_cons_self) (hy y List.mem_cons_self), eqvAll_dat (xs := r) (ys := t) (fun v m => hx v (List.mem_cons_of_mem _ m)) (fun v m => hy v (List.mem_cons_of_mem _ m))]
    by_cases e : x = y
    · subst e
      by_cases e2 : r = t <;> simp [e2]
    · simp [e]
theorem eqv_l {xs ys : List V} (hx : ∀ v ∈ xs, cel v = true) (hy : ∀ v ∈ ys, cel v = true) : PyData.eqv (.list (xs.map dat)) (.list (ys.map dat)) = decide (xs = ys) := by
  rw [PyData.eqv]
  exact eqvAll_dat hx hy
theorem eqv_t {xs ys : List V} (hx : ∀ v ∈ xs, cel v = true) (hy : ∀ v ∈ ys, cel v = true) : PyData.eqv (.tuple (xs.map dat)) (.tuple (ys.map dat)) = decide (xs = ys) := by
  rw [PyData.eqv]
  exact eqvAll_dat hx hy
theorem cel_ints {xs : List Int} : ∀ v ∈ xs.map V.int, cel v = true := fun v h => by
  obtain ⟨i, _, rfl⟩ := List.mem_map.mp h
  rfl
theorem map_int_inj : ∀ {xs ys : List Int}, xs.map V.int = ys.map V.int → xs = ys
  | [], [], _ => rfl
  | [], _ :: _, h => by simp at h
  | _ :: _, [], h => by simp at h
  | x :: r, y :: t, h => by
    rw [List.map_cons, List.map_cons] at h
    injection h with h1 h2
    injection h1 with h1
    rw [h1, map_int_inj h2]
theorem dp_l {K : PySem.W.Frag} {H : Hp} {p : Addr} {xs : List V} (h : SqL K H p xs) (hx : ∀ v ∈ xs, cel v = true) : Dp K H (.ref p) (.list (xs.map dat)) := .lst h (dpAll_dat hx)
theorem dp_t {K : PySem.W.Frag} {H : Hp} {p : Addr} {xs : List V} (h : SqT K H p xs) (hx : ∀ v ∈ xs, cel v = true) : Dp K H (.ref p) (.tuple (xs.map dat)) := .tup h (dpAll_dat hx)
/-! ### places -/
theorem ixN_nat {n j : Nat} (h : j < n) : ixN n (j : Int) = some j := by
  unfold ixN
  rw [if_pos (by omega), if_pos (by omega)]
  rfl
theorem at_map {xs : List Int} {j : Nat} {x : Int} (h : xs[j]? = some x) : atI (xs.map V.int) (j : Int) = some (.int x) := atI_nat (by rw [List.getElem?_map, h]; rfl)
theorem map_take_succ {xs : List Int} {i : Nat} {x : Int} (h : xs[i]? = some x) : xs.take (i + 1) = xs.take i ++ [x] := by
  rw [List.take_add_one, h]
  rfl
theorem get_map {xs : List Int} {i : Nat} {y : V} (h : (xs.map V.int)[i]? = some y) : ∃ x, xs[i]? = some x ∧ y = .int x := by
  rw [List.getElem?_map] at h
  cases e : xs[i]? with
  | none =>
    rw [e] at h
    cases h
  | some z =>
    rw [e] at h
    exact ⟨z, rfl, (Option.some.inj h).symm⟩
theorem get_map_ref {xs : List Addr} {i : Nat} {y : V} (h : (xs.map V.ref)[i]? = some y) : ∃ x, xs[i]? = some x ∧ y = .ref x := by
  rw [List.getElem?_map] at h
  cases e : xs[i]? with
  | none =>
    rw [e] at h
    cases h
  | some z =>
    rw [e] at h
    exact ⟨z, rfl, (Option.some.inj h).symm⟩
theorem size_ok {n : Nat} (h : n ≤ 100000) : n ≤ sizeLine := Nat.le_trans h (by decide)
theorem sz_ {n : Nat} (h : Nat.ble n 100000 = true) : n ≤ sizeLine := size_ok (Nat.le_of_ble_eq_true h)
theorem size_lt {n : Nat} (h : n < 100000) : n < sizeLine := Nat.lt_of_lt_of_le h (by decide)
/-! ### rules that name the text's part K, for what stands within a comprehension -/
section
variable {X : Cx} {K : PySem.W.Frag}
theorem op_eqDK (hK : X.K = K) (hu : X.A.units + 64 < cLine) : OpR X (compareOp .Eq) (rEqD K) := hK ▸ op_eqD hu
theorem op_neDK (hK : X.K = K) (hu : X.A.units + 64 < cLine) : OpR X (compareOp .NotEq) (rNeD K) := hK ▸ op_neD hu
theorem ix_listK (hK : X.K = K) : IxR X (rIxL K) := hK ▸ ix_list
theorem ix_tupK (hK : X.K = K) : IxR X (rIxT K) := hK ▸ ix_tup
theorem ix_seqK (hK : X.K = K) : IxR X (rIx K) := hK ▸ ix_seq
theorem call_len_seqK (hK : X.K = K) : CallR X (.builtin "len") (fun xs H Q => ∃ p ys, xs = [.ref p] ∧ (SqL K H p ys ∨ SqT K H p ys) ∧ Q (.int ys.length) H) := hK ▸ call_len_seq
end
/-! ### data that is tracked, as alike looks at it -/
mutual
inductive Td (H : Hp) : V → PyData → Prop
  | non : Td H .non .none
  | bl (b : Bool) : Td H (.bl b) (.bool b)
  | int (i : Int) : Td H (.int i) (.int i)
  | str (x : Str) : Td H (.str x) (.str x)
  | lst {a : Addr} {xs : List V} {ds : List PyData} : H a = some (.lst xs) → xs.length ≤ 100000 → TdAll H xs ds → Td H (.ref a) (.list ds)
  | tup {a : Addr} {xs : List V} {ds : List PyData} : H a = some (.tup xs) → xs.length ≤ 100000 → TdAll H xs ds → Td H (.ref a) (.tuple ds)
inductive TdAll (H : Hp) : List V → List PyData → Prop
  | nil : TdAll H [] []
  | cons {v : V} {vs : List V} {d : PyData} {ds : List PyData} : Td H v d → TdAll H vs ds → TdAll H (v :: vs) (d :: ds)
end
mutual
theorem Td.mono {H H' : Hp} (s : Same H H') : ∀ {v : V} {d : PyData}, Td H v d → Td H' v d
  | _, _, .non => .non
  | _, _, .bl b => .bl b
  | _, _, .int i => .int i
  | _, _, .str x => .str x
  | _, _, .lst h l t => .lst (s _ _ h) l (TdAll.mono s t)
  | _, _, .tup h l t => .tup (s _ _ h) l (TdAll.mono s t)
theorem TdAll.mono {H H' : Hp} (s : Same H H') : ∀ {vs : List V} {ds : List PyData}, TdAll H vs ds → TdAll H' vs ds
  | _, _, .nil => .nil
  | _, _, .cons a b => .cons (Td.mono s a) (TdAll.mono s b)
end
theorem TdAll.len {H : Hp} : ∀ {vs : List V} {ds : List PyData}, TdAll H vs ds → vs.length = ds.length
  | _, _, .nil => rfl
  | _, _, .cons _ b => by
    rw [List.length_cons, List.length_cons, TdAll.len b]
theorem TdAll.at {H : Hp} : ∀ {vs : List V} {ds : List PyData} {i : Nat} {d : PyData}, TdAll H vs ds → ds[i]? = some d → ∃ v, vs[i]? = some v ∧ Td H v d
  | _, _, _, _, .nil, h => by simp at h
  | _, _, 0, _, .cons a _, h => by
    have e := Option.some.inj h
    subst e
    exact ⟨_, rfl, a⟩
  | _, _, i + 1, _, .cons _ b, h => by
    obtain ⟨v, h1, h2⟩ := TdAll.at (i := i) b (by simpa using h)
    exact ⟨v, by simpa using h1, h2⟩
theorem TdAll.cel {H : Hp} : ∀ {vs : List V}, (∀ v ∈ vs, cel v = true) → TdAll H vs (vs.map dat)
  | [], _ => .nil
  | .int i :: r, h => .cons (.int i) (TdAll.cel fun v m => h v (List.mem_cons_of_mem _ m))
  | .non :: r, h => .cons .non (TdAll.cel fun v m => h v (List.mem_cons_of_mem _ m))
  | .bl b :: r, h => by cases h _ List.mem_cons_self
  | .str b :: r, h => by cases h _ List.mem_cons_self
  | .byt b :: r, h => by cases h _ List.mem_cons_self
  | .flt b :: r, h => by cases h _ List.mem_cons_self
  | .ref b :: r, h => by cases h _ List.mem_cons_self
  | .ty b :: r, h => by cases h _ List.mem_cons_self
theorem depth_at : ∀ {ds : List PyData} {i : Nat} {d : PyData}, ds[i]? = some d → d.depth ≤ PyData.depthAll ds
  | [], _, _, h => by simp at h
  | a :: r, 0, d, h => by
    have e := Option.some.inj h
    subst e
    rw [PyData.depthAll]
    exact Nat.le_max_left _ _
  | a :: r, i + 1, d, h => by
    have := depth_at (ds := r) (i := i) (d := d) (by simpa using h)
    rw [PyData.depthAll]
    exact Nat.le_trans this (Nat.le_max_right _ _)
/-- the promise of alike for two things that are: n is more than their depth -/
def spAlike (n : Nat) : Sp := fun vs H Q _ => ∃ (x y : V) (d : PyData), vs = [x, y] ∧ Td H x d ∧ Td H y d ∧ d.depth < n ∧ ∀ H', Same H H' → Q (.bl true) H'
theorem alike_zero {P : Program} {w : World} {K : PySem.W.Frag} {mg : Str → Option Value} {base : Heap} {f : Addr} {fd : FuncData} {ps : List Str} : FnOk P w K mg base CX0 0 f fd ps (spAlike 0) :=
  ⟨fun _ _ _ _ ⟨_, _, _, _, _, _, h, _⟩ => absurd h (Nat.not_lt_zero _), fun _ _ _ _ _ _ _ _ _ _ _ _ _ ⟨_, _, _, _, _, _, h, _⟩ => absurd h (Nat.not_lt_zero _)⟩
/-! ### isinstance: what it tells of None, bools, ints, texts, lists, tuples -/
theorem ty_nt : kitB "NoneType" "tuple" = some false := by decide +kernel
theorem ty_nl : kitB "NoneType" "list" = some false := by decide +kernel
theorem ty_nb : kitB "NoneType" "bool" = some false := by decide +kernel
theorem ty_ns : kitB "NoneType" "str" = some false := by decide +kernel
theorem ty_ni : kitB "NoneType" "int" = some false := by decide +kernel
theorem ty_bt : kitB "bool" "tuple" = some false := by decide +kernel
theorem ty_bl : kitB "bool" "list" = some false := by decide +kernel
theorem ty_bb : kitB "bool" "bool" = some true := by decide +kernel
theorem ty_it : kitB "int" "tuple" = some false := by decide +kernel
theorem ty_il : kitB "int" "list" = some false := by decide +kernel
theorem ty_ib : kitB "int" "bool" = some false := by decide +kernel
theorem ty_is : kitB "int" "str" = some false := by decide +kernel
theorem ty_ii : kitB "int" "int" = some true := by decide +kernel
theorem ty_st : kitB "str" "tuple" = some false := by decide +kernel
theorem ty_sl : kitB "str" "list" = some false := by decide +kernel
theorem ty_sb : kitB "str" "bool" = some false := by decide +kernel
theorem ty_ss : kitB "str" "str" = some true := by decide +kernel
theorem ty_lt : kitB "list" "tuple" = some false := by decide +kernel
theorem ty_ll : kitB "list" "list" = some true := by decide +kernel
theorem ty_tt : kitB "tuple" "tuple" = some true := by decide +kernel
theorem any_l {K : PySem.W.Frag} : PySem.W.kitAny K (.type "list") [.type "tuple", .type "list"] = some true := by
  simp only [PySem.W.kitAny, kit_ty ty_lt, kit_ty ty_ll]
theorem any_t {K : PySem.W.Frag} : PySem.W.kitAny K (.type "tuple") [.type "tuple", .type "list"] = some true := by
  simp only [PySem.W.kitAny, kit_ty ty_tt]
theorem cel_cases : ∀ {v : V}, cel v = true → (∃ x, v = .int x) ∨ v = .non
  | .int i, _ => .inl ⟨i, rfl⟩
  | .non, _ => .inr rfl
theorem same_tup {K : PySem.W.Frag} {H H' : Hp} {c : Addr} {xs : List V} (s : Same H H') (h : SqT K H c xs) : SqT K H' c xs := by
  rcases h with (h | ⟨o, h⟩) | h
  · exact .inl (.inl (s _ _ h))
  · exact .inl (.inr ⟨o, s _ _ h⟩)
  · exact .inr h
theorem inV_ints : ∀ {xs : List Int}, inV .non (xs.map V.int) = false
  | [] => rfl
  | x :: r => by
    have ih := inV_ints (xs := r)
    unfold inV at ih ⊢
    rw [List.map_cons, List.any_cons, ih]
    rfl
theorem flat_ints : ∀ {xs : List Int}, (xs.map V.int).all flatV = true
  | [] => rfl
  | x :: r => by
    rw [List.map_cons, List.all_cons, flat_ints (xs := r)]
    rfl
theorem cut_take (xs : List V) (k : Nat) : cutV xs none (some (k : Int)) = xs.take k := by
  unfold cutV
  rw [HT.sIx_none, HT.sIx_nat, List.drop_zero, Nat.sub_zero, ← List.take_eq_take_min]
theorem cut_drop (xs : List V) (k : Nat) : cutV xs (some (k : Int)) none = xs.drop k := by
  unfold cutV
  rw [HT.sIx_none, HT.sIx_nat]
  by_cases h : k ≤ xs.length
  · rw [Nat.min_eq_left h, List.take_of_length_le (by rw [List.length_drop]; omega)]
  · rw [Nat.min_eq_right (by omega), List.drop_of_length_le (Nat.le_refl _), List.drop_of_length_le (by omega), List.take_nil]
theorem dep_t {xs : List V} (h : ∀ v ∈ xs, cel v = true) : (PyData.tuple (xs.map dat)).depth < 5 := by
  rw [PyData.depth, (layAll_dat h).2]
  decide
theorem dep_l {xs : List V} (h : ∀ v ∈ xs, cel v = true) : (PyData.list (xs.map dat)).depth < 5 := by
  rw [PyData.depth, (layAll_dat h).2]
  decide
theorem dep_i {i : Int} : (PyData.int i).depth < 5 := by
  rw [PyData.depth]
  decide
theorem Dr.ne_ints {K : PySem.W.Frag} {H0 : Hp} {ns : List Int} {a r b : Addr} {H : Hp} {xs : List Int} (D : Dr K H0 ns a r H) (h : H b = some (.lst (xs.map V.int))) : b ≠ r := by
  obtain ⟨_, _, _, e, _⟩ := D.row
  refine ne_of h e fun z => ?_
  injection z with z
  cases xs with
  | nil => cases z
  | cons x t =>
    rw [List.map_cons] at z
    injection z with z _
    cases z
theorem Dr.ne_tup {K : PySem.W.Frag} {H0 : Hp} {ns : List Int} {a r b : Addr} {H : Hp} {xs : List V} (D : Dr K H0 ns a r H) (h : H b = some (.tup xs)) : b ≠ r := by
  obtain ⟨_, _, _, e, _⟩ := D.row
  exact ne_of h e fun z => by cases z
theorem cut_take' {xs : List V} {j : Int} {k : Nat} (e : j = (k : Int)) : cutV xs none (some j) = xs.take k := by
  rw [e]
  exact cut_take xs k
theorem cut_drop' {xs : List V} {j : Int} {k : Nat} (e : j = (k : Int)) : cutV xs (some j) none = xs.drop k := by
  rw [e]
  exact cut_drop xs k
theorem cut_mem {xs : List V} {lo hi : Option Int} {v : V} (h : v ∈ cutV xs lo hi) : v ∈ xs := by
  unfold cutV at h
  exact List.mem_of_mem_drop (List.mem_of_mem_take h)
end Dw

set_option maxRecDepth 100000
set_option maxHeartbeats 4000000
namespace K03
open PySem PySem.Spec PyProof.Rows L2
def topS (i : Nat) : Stmt := PySem.Challenge.pw_twoimages_k03_sums_names_seals.main.body.getD i (.Pass ⟨0, 0, 0, 0⟩)
abbrev s_sums : Stmt := topS 2
abbrev N_sums : List Str := ["row", "one", "two", "worth"]
abbrev P_sums : List Str := ["row"]
theorem sc_sums : FnScope N_sums P_sums (defScope s_sums) := ⟨rfl, rfl, rfl, by decide +kernel, rfl, by decide +kernel, by decide +kernel⟩
abbrev s_joined : Stmt := topS 3
abbrev N_joined : List Str := ["parts", "one", "two", "part_one", "part_two", "many"]
abbrev P_joined : List Str := ["parts"]
theorem sc_joined : FnScope N_joined P_joined (defScope s_joined) := ⟨rfl, rfl, rfl, by decide +kernel, rfl, by decide +kernel, by decide +kernel⟩
abbrev s_name : Stmt := topS 4
abbrev N_name : List Str := ["piece", "both", "one", "two"]
abbrev P_name : List Str := ["piece"]
theorem sc_name : FnScope N_name P_name (defScope s_name) := ⟨rfl, rfl, rfl, by decide +kernel, rfl, by decide +kernel, by decide +kernel⟩
abbrev s_seal : Stmt := topS 5
abbrev N_seal : List Str := ["key", "row", "told", "number"]
abbrev P_seal : List Str := ["key", "row"]
theorem sc_seal : FnScope N_seal P_seal (defScope s_seal) := ⟨rfl, rfl, rfl, by decide +kernel, rfl, by decide +kernel, by decide +kernel⟩
abbrev s_l_taken : Stmt := topS 7
abbrev N_l_taken : List Str := ["_law_row", "_law_many", "_law_found", "_law_cell"]
abbrev P_l_taken : List Str := ["_law_row", "_law_many"]
theorem sc_l_taken : FnScope N_l_taken P_l_taken (defScope s_l_taken) := ⟨rfl, rfl, rfl, by decide +kernel, rfl, by decide +kernel, by decide +kernel⟩
abbrev s_l_alike : Stmt := topS 8
abbrev N_l_alike : List Str := ["_law_found", "_law_due", "_law_k"]
abbrev P_l_alike : List Str := ["_law_found", "_law_due"]
theorem sc_l_alike : FnScope N_l_alike P_l_alike (defScope s_l_alike) := ⟨rfl, rfl, rfl, by decide +kernel, rfl, by decide +kernel, by decide +kernel⟩
abbrev s_l_worth : Stmt := topS 9
abbrev N_l_worth : List Str := ["_law_row"]
abbrev P_l_worth : List Str := ["_law_row"]
theorem sc_l_worth : FnScope N_l_worth P_l_worth (defScope s_l_worth) := ⟨rfl, rfl, rfl, by decide +kernel, rfl, by decide +kernel, by decide +kernel⟩
abbrev s_l_sums : Stmt := topS 10
abbrev N_l_sums : List Str := ["_law_some", "_law_one", "_law_two", "_law_number", "_law_k"]
abbrev P_l_sums : List Str := ["_law_some"]
theorem sc_l_sums : FnScope N_l_sums P_l_sums (defScope s_l_sums) := ⟨rfl, rfl, rfl, by decide +kernel, rfl, by decide +kernel, by decide +kernel⟩
abbrev s_l_seal : Stmt := topS 11
abbrev N_l_seal : List Str := ["_law_key", "_law_some", "_law_found", "_law_power", "_law_number"]
abbrev P_l_seal : List Str := ["_law_key", "_law_some"]
theorem sc_l_seal : FnScope N_l_seal P_l_seal (defScope s_l_seal) := ⟨rfl, rfl, rfl, by decide +kernel, rfl, by decide +kernel, by decide +kernel⟩
abbrev s_l_title : Stmt := topS 12
abbrev N_l_title : List Str := ["_law_piece", "_law_both"]
abbrev P_l_title : List Str := ["_law_piece"]
theorem sc_l_title : FnScope N_l_title P_l_title (defScope s_l_title) := ⟨rfl, rfl, rfl, by decide +kernel, rfl, by decide +kernel, by decide +kernel⟩
abbrev s_law : Stmt := topS 13
abbrev N_law : List Str := ["_law_script", "_law_row", "_law_turn", "_law_some", "_law_handed", "_law_key", "_law_parts", "_law_left", "_law_many", "_law_broken", "_law_k"]
abbrev P_law : List Str := ["_law_script"]
theorem sc_law : FnScope N_law P_law (defScope s_law) := ⟨rfl, rfl, rfl, by decide +kernel, rfl, by decide +kernel, by decide +kernel⟩
structure Ad where
  f_sums : Addr
  d_sums : FuncData
  f_joined : Addr
  d_joined : FuncData
  f_name : Addr
  d_name : FuncData
  f_seal : Addr
  d_seal : FuncData
  f_l_taken : Addr
  d_l_taken : FuncData
  f_l_alike : Addr
  d_l_alike : FuncData
  f_l_worth : Addr
  d_l_worth : FuncData
  f_l_sums : Addr
  d_l_sums : FuncData
  f_l_seal : Addr
  d_l_seal : FuncData
  f_l_title : Addr
  d_l_title : FuncData
  f_law : Addr
  d_law : FuncData
  t_RESTS_BY : Tok
structure Top (K : PySem.W.Frag) (mg : Str → Option Value) (a : Ad) : Prop where
  F_sums : Fun K "sums" "sums" s_sums a.f_sums a.d_sums
  B_sums : Binds K a.d_sums P_sums []
  g_sums : mg "sums" = some (.ref a.f_sums)
  F_joined : Fun K "joined" "joined" s_joined a.f_joined a.d_joined
  B_joined : Binds K a.d_joined P_joined []
  g_joined : mg "joined" = some (.ref a.f_joined)
  F_name : Fun K "name" "name" s_name a.f_name a.d_name
  B_name : Binds K a.d_name P_name []
  g_name : mg "name" = some (.ref a.f_name)
  F_seal : Fun K "seal" "seal" s_seal a.f_seal a.d_seal
  B_seal : Binds K a.d_seal P_seal []
  g_seal : mg "seal" = some (.ref a.f_seal)
  F_l_taken : Fun K "_law_taken" "_law_taken" s_l_taken a.f_l_taken a.d_l_taken
  B_l_taken : Binds K a.d_l_taken P_l_taken []
  g_l_taken : mg "_law_taken" = some (.ref a.f_l_taken)
  F_l_alike : Fun K "_law_alike" "_law_alike" s_l_alike a.f_l_alike a.d_l_alike
  B_l_alike : Binds K a.d_l_alike P_l_alike []
  g_l_alike : mg "_law_alike" = some (.ref a.f_l_alike)
  F_l_worth : Fun K "_law_worth" "_law_worth" s_l_worth a.f_l_worth a.d_l_worth
  B_l_worth : Binds K a.d_l_worth P_l_worth []
  g_l_worth : mg "_law_worth" = some (.ref a.f_l_worth)
  F_l_sums : Fun K "_law_sums" "_law_sums" s_l_sums a.f_l_sums a.d_l_sums
  B_l_sums : Binds K a.d_l_sums P_l_sums []
  g_l_sums : mg "_law_sums" = some (.ref a.f_l_sums)
  F_l_seal : Fun K "_law_seal" "_law_seal" s_l_seal a.f_l_seal a.d_l_seal
  B_l_seal : Binds K a.d_l_seal P_l_seal []
  g_l_seal : mg "_law_seal" = some (.ref a.f_l_seal)
  F_l_title : Fun K "_law_title" "_law_title" s_l_title a.f_l_title a.d_l_title
  B_l_title : Binds K a.d_l_title P_l_title []
  g_l_title : mg "_law_title" = some (.ref a.f_l_title)
  F_law : Fun K "law" "law" s_law a.f_law a.d_law
  B_law : Binds K a.d_law P_law []
  g_law : mg "law" = some (.ref a.f_law)
  b_bool : mg "bool" = none
  b_int : mg "int" = none
  b_isinstance : mg "isinstance" = none
  b_len : mg "len" = none
  b_list : mg "list" = none
  b_min : mg "min" = none
  b_range : mg "range" = none
  b_reversed : mg "reversed" = none
  b_str : mg "str" = none
  b_sum : mg "sum" = none
  b_tuple : mg "tuple" = none
  c_RESTS_BY : mg "RESTS_BY" = some (.int 9973 a.t_RESTS_BY)
section
variable {P : Program} {w : World} {K : PySem.W.Frag} {mg : Str → Option Value} {base : Heap}
theorem G_l_taken {a : Ad} (T : Top K mg a) : FnOk P w K mg base CX0 1 a.f_l_taken a.d_l_taken P_l_taken (Dw.spTaken K) := by
  refine T.F_l_taken.ok sc_l_taken (fun vs H Q E h => ?_) (fun cdv A outer s H vs Q E hr h => ?_)
  · obtain ⟨_, _, _, _, _, rfl, _⟩ := h
    rfl
  · obtain ⟨H0, ns, sa, r, m, rfl, D, hm0, hm1, q⟩ := h
    obtain ⟨p, u, z, hR, hp, hu0, hu1⟩ := D.row
    have sR : SqL K H r [.ref sa, .int p, .int u, .int z] := Dw.sq_of hR
    refine ⟨_, (pss_cons (ps_if (pt_cmpR op_gt (pe_ix ix_list (pv 0) pe_int (fun _ _ => rfl)) pe_int (nomark _))
        (pss_cons (ps_set (i := 2) sc_l_taken.nd rfl (Or.inl rfl) (pe_op op_mod (pe_ix ix_list (pv 0) pe_int (fun _ _ => rfl)) (pv 1)))
      (pss_cons (ps_asg (pe_op op_fdiv (pe_ix ix_list (pv 0) pe_int (fun _ _ => rfl)) (pv 1)) (pg_sub (pv 0) pe_int set_list))
      (pss_one (ps_ret (pv 2)))))
        pss_nil)
      (pss_cons (ps_asg (pe_op op_add (pe_ix ix_list (pv 0) pe_int (fun _ _ => rfl)) pe_int) (pg_sub (pv 0) pe_int set_list))
      (pss_cons (ps_if (pt_cmpR op_gt (pe_ix ix_list (pv 0) pe_int (fun _ _ => rfl)) (pe_callB call_len_seq (by rfl) T.b_len PySem.boot_len (pa_cons (pe_ix ix_list (pv 0) pe_int (fun _ _ => rfl)) pa_nil)) (nomark _))
        (pss_cons (ps_asg (pe_op op_mod (pe_op op_add (pe_op op_mul (pe_ix ix_list (pv 0) pe_int (fun _ _ => rfl)) pe_int) pe_int) pe_int) (pg_sub (pv 0) pe_int set_list))
      (pss_one (ps_ret (pe_op op_mod (pe_op op_fdiv (pe_ix ix_list (pv 0) pe_int (fun _ _ => rfl)) pe_int) (pv 1)))))
        pss_nil)
      (pss_cons (ps_set (i := 3) sc_l_taken.nd rfl (Or.inl rfl) (pe_ix ix_list (pe_ix ix_list (pv 0) pe_int (fun _ _ => rfl)) (pe_op op_sub (pe_ix ix_list (pv 0) pe_int (fun _ _ => rfl)) pe_int) (fun _ _ => rfl)))
      (pss_cons (ps_asg (pe_op op_mod (pe_op op_add (pe_op op_add (pe_op op_mul (pe_ix ix_list (pv 0) pe_int (fun _ _ => rfl)) pe_int) (pv 3)) pe_int) pe_int) (pg_sub (pv 0) pe_int set_list))
      (pss_cons (ps_if (pt_cmpR op_ge (pv 3) (pe_op op_pow pe_int pe_int) (nomark _))
        (pss_one (ps_asg (pe_op op_fdiv (pv 3) (pv 1)) (pg_sub (pv 0) pe_int set_list)))
        pss_nil)
      (pss_one (ps_ret (pe_op op_mod (pv 3) (pv 1)))))))))), ?_⟩
    refine ⟨.ref r, rfl, r, _, 3, .int z, rfl, rfl, sR, atI_nat (j := 3) rfl, z, 0, rfl, rfl, _, rfl, ite2 (fun hz => ?_) (fun hz => ?_)⟩
    · refine ⟨.ref r, rfl, r, _, 3, .int z, rfl, rfl, sR, atI_nat (j := 3) rfl, .int m, rfl, z, m, rfl, rfl, hm0, ?_⟩
      refine ⟨.ref r, rfl, r, _, 3, .int z, rfl, rfl, sR, atI_nat (j := 3) rfl, .int m, rfl, z, m, rfl, rfl, ⟨hm0, hm1⟩, .ref r, rfl, r, _, 3, 3, rfl, rfl, hR, rfl, ?_⟩
      exact ⟨_, rfl, q (z % m) _ (D.put (p := p) (q := u) (z := z / m) hp hu0 hu1) Dw.Keep.put (Int.emod_nonneg _ (by omega)) (Int.emod_lt_of_pos _ hm0)⟩
    · -- the next cell
      refine ⟨.ref r, rfl, r, _, 1, .int p, rfl, rfl, sR, atI_nat (j := 1) rfl, p, 1, rfl, rfl, .ref r, rfl, r, _, 1, 1, rfl, rfl, hR, rfl, ?_⟩
      have D1 : Dw.Dr K H0 ns sa r (upd H r (.lst [.ref sa, .int (p + 1), .int u, .int z])) := D.put (by omega) hu0 hu1
      have sR1 : SqL K (upd H r (.lst [.ref sa, .int (p + 1), .int u, .int z])) r [.ref sa, .int (p + 1), .int u, .int z] := Dw.sq_of upd_same
      have hA : SqL K (upd H r (.lst [.ref sa, .int (p + 1), .int u, .int z])) sa (ns.map V.int) := D1.seq
      refine ⟨.ref r, rfl, r, _, 1, .int (p + 1), rfl, rfl, sR1, atI_nat (j := 1) rfl, .ref r, rfl, r, _, 0, .ref sa, rfl, rfl, sR1, atI_nat (j := 0) rfl, sa, _, rfl, .inl hA, p + 1, _, rfl, rfl, _, rfl, ite2 (fun hl => ?_) (fun hl => ?_)⟩
      · refine ⟨.ref r, rfl, r, _, 2, .int u, rfl, rfl, sR1, atI_nat (j := 2) rfl, u, 48271, rfl, rfl, .inr ⟨by decide, by decide⟩, u * 48271, 11, rfl, rfl, _, 2147483647, rfl, rfl, (by show (0 : Int) < 2147483647; decide), .ref r, rfl, r, _, 2, 2, rfl, rfl, upd_same, rfl, ?_⟩
        have D2 : Dw.Dr K H0 ns sa r (upd (upd H r (.lst [.ref sa, .int (p + 1), .int u, .int z])) r (.lst [.ref sa, .int (p + 1), .int ((u * 48271 + 11) % 2147483647), .int z])) := D1.put (by omega) (by omega) (by omega)
        refine ⟨.ref r, rfl, r, _, 2, .int ((u * 48271 + 11) % 2147483647), rfl, rfl, Dw.sq_of upd_same, atI_nat (j := 2) rfl, _, 7, rfl, rfl, ⟨by decide, by decide⟩, .int m, rfl, _, m, rfl, rfl, hm0, ?_⟩
        exact q _ _ D2 (Dw.Keep.put.trans Dw.Keep.put) (Int.emod_nonneg _ (by omega)) (Int.emod_lt_of_pos _ hm0)
      · have hlt : p < (ns.length : Int) := by
          have h1 := of_decide_eq_false (Bool.eq_false_iff.mpr hl)
          rw [List.length_map] at h1
          omega
        obtain ⟨c, hc⟩ : ∃ c, ns[p.toNat]? = some c := ⟨_, List.getElem?_eq_getElem (show p.toNat < ns.length by omega)⟩
        have hat : atI (ns.map V.int) (p + 1 - 1) = some (.int c) := at_of (j := p.toNat) (by omega) (by rw [List.getElem?_map, hc]; rfl)
        refine ⟨.ref r, rfl, r, _, 0, .ref sa, rfl, rfl, sR1, atI_nat (j := 0) rfl, .ref r, rfl, r, _, 1, .int (p + 1), rfl, rfl, sR1, atI_nat (j := 1) rfl, p + 1, 1, rfl, rfl, sa, _, _, _, rfl, rfl, hA, hat, ?_⟩
        refine ⟨.ref r, rfl, r, _, 2, .int u, rfl, rfl, sR1, atI_nat (j := 2) rfl, u, 48271, rfl, rfl, .inr ⟨by decide, by decide⟩, .int c, rfl, u * 48271, c, rfl, rfl, _, 11, rfl, rfl, _, 2147483647, rfl, rfl, (by show (0 : Int) < 2147483647; decide), .ref r, rfl, r, _, 2, 2, rfl, rfl, upd_same, rfl, ?_⟩
        have D2 : Dw.Dr K H0 ns sa r (upd (upd H r (.lst [.ref sa, .int (p + 1), .int u, .int z])) r (.lst [.ref sa, .int (p + 1), .int ((u * 48271 + c + 11) % 2147483647), .int z])) := D1.put (by omega) (by omega) (by omega)
        refine ⟨.int c, rfl, 10, 18, rfl, rfl, ⟨by decide, by decide, by decide⟩, c, _, rfl, rfl, _, rfl, ite2 (fun hg => ?_) (fun hg => ?_)⟩
        · refine ⟨.int c, rfl, .int m, rfl, c, m, rfl, rfl, ⟨hm0, hm1⟩, .ref r, rfl, r, _, 3, 3, rfl, rfl, upd_same, rfl, ?_⟩
          have D3 := D2.put (p := p + 1) (q := (u * 48271 + c + 11) % 2147483647) (z := c / m) (by omega) (by omega) (by omega)
          exact ⟨.int c, rfl, .int m, rfl, c, m, rfl, rfl, hm0, q _ _ D3 ((Dw.Keep.put.trans Dw.Keep.put).trans Dw.Keep.put) (Int.emod_nonneg _ (by omega)) (Int.emod_lt_of_pos _ hm0)⟩
        · exact ⟨.int c, rfl, .int m, rfl, c, m, rfl, rfl, hm0, q _ _ D2 (Dw.Keep.put.trans Dw.Keep.put) (Int.emod_nonneg _ (by omega)) (Int.emod_lt_of_pos _ hm0)⟩
theorem G_l_worth {a : Ad} (T : Top K mg a) : FnOk P w K mg base CX0 2 a.f_l_worth a.d_l_worth P_l_worth (Dw.spDraw 9973 K) := by
  refine T.F_l_worth.ok sc_l_worth (fun vs H Q E h => ?_) (fun cdv A outer s H vs Q E hr h => ?_)
  · obtain ⟨_, _, _, _, rfl, _⟩ := h
    rfl
  · obtain ⟨H0, ns, sa, r, rfl, D, q⟩ := h
    refine ⟨_, (pss_one (ps_ret (pe_call (G_l_taken T) (hr.mono (by omega)) (by rfl) T.g_l_taken T.F_l_taken.kp T.B_l_taken .nil pass0 (pa_cons (pv 0) (pa_cons (pe_ix ix_list (pe_lst (pa_cons pe_int (pa_cons pe_int (pa_cons pe_int pa_nil)))) (pe_call (G_l_taken T) (hr.mono (by omega)) (by rfl) T.g_l_taken T.F_l_taken.kp T.B_l_taken .nil pass0 (pa_cons (pv 0) (pa_cons pe_int pa_nil))) (fun _ _ => rfl)) pa_nil))))), ?_⟩
    refine ⟨.ref r, rfl, Dw.sz_ rfl, fun l hl => ?_⟩
    have nl : l ≠ r := D.ne hl
    refine ⟨.ref r, rfl, H0, ns, sa, r, 3, rfl, D.new hl, by decide, by decide, fun v H1 D1 k1 v0 v1 => ?_⟩
    have hL : H1 l = some (.lst [.int 4, .int 100, .int 9973]) := k1 _ _ nl upd_same
    have hat : ∃ m : Int, atI [V.int 4, V.int 100, V.int 9973] v = some (.int m) ∧ 0 < m ∧ m ≤ 9973 := by
      have e : v = 0 ∨ v = 1 ∨ v = 2 := by omega
      rcases e with rfl | rfl | rfl
      · exact ⟨4, rfl, by decide, by decide⟩
      · exact ⟨100, rfl, by decide, by decide⟩
      · exact ⟨9973, rfl, by decide, by decide⟩
    obtain ⟨m, hat, m0, m1⟩ := hat
    refine ⟨l, _, v, _, rfl, rfl, Dw.sq_of hL, hat, H0, ns, sa, r, m, rfl, D1, m0, by omega, fun u H2 D2 k2 u0 u1 => ?_⟩
    exact q u H2 D2 (((Dw.Keep.same (Dw.same_upd hl)).trans k1).trans k2) u0 (by omega)

theorem ok_l_alike {a : Ad} (T : Top K mg a) {n : Nat} (ih : FnOk P w K mg base CX0 n a.f_l_alike a.d_l_alike P_l_alike (Dw.spAlike n)) : FnOk P w K mg base CX0 (n + 1) a.f_l_alike a.d_l_alike P_l_alike (Dw.spAlike (n + 1)) := by
  refine T.F_l_alike.ok sc_l_alike (fun vs H Q E h => ?_) (fun cdv A outer s H vs Q E hr h => ?_)
  · obtain ⟨_, _, _, rfl, _⟩ := h
    rfl
  · obtain ⟨x, y, d, rfl, hx, hy, hn, q⟩ := h
    refine ⟨_, (pss_cons (ps_if (PW.pt (pw_or (pt_val (pe_callB call_isi (by rfl) T.b_isinstance (by decide +kernel) (pa_cons (pv 1) (pa_cons (pe_bltn (v := .ty "tuple") (by rfl) T.b_tuple (by decide +kernel) rfl) pa_nil)))) (pw_or1 (pt_val (pe_callB call_isi (by rfl) T.b_isinstance (by decide +kernel) (pa_cons (pv 1) (pa_cons (pe_bltn (v := .ty "list") (by rfl) T.b_list (by decide +kernel) rfl) pa_nil)))))))
        (pss_cons (ps_if (PW.pt (pw_or (pt_cmpR op_ne (pe_callB call_isi (by rfl) T.b_isinstance (by decide +kernel) (pa_cons (pv 0) (pa_cons (pe_bltn (v := .ty "tuple") (by rfl) T.b_tuple (by decide +kernel) rfl) pa_nil))) (pe_callB call_isi (by rfl) T.b_isinstance (by decide +kernel) (pa_cons (pv 1) (pa_cons (pe_bltn (v := .ty "tuple") (by rfl) T.b_tuple (by decide +kernel) rfl) pa_nil))) (nomark _)) (pw_or1 (pt_not (pt_val (pe_callB call_isiT (by rfl) T.b_isinstance (by decide +kernel) (pa_cons (pv 0) (pa_cons (pe_tup (pa_cons (pe_bltn (v := .ty "tuple") (by rfl) T.b_tuple (by decide +kernel) rfl) (pa_cons (pe_bltn (v := .ty "list") (by rfl) T.b_list (by decide +kernel) rfl) pa_nil))) pa_nil))))))))
        (pss_one (ps_ret pe_bl))
        pss_nil)
      (pss_cons (ps_if (pt_cmpR op_ne (pe_callB call_len_seq (by rfl) T.b_len PySem.boot_len (pa_cons (pv 0) pa_nil)) (pe_callB call_len_seq (by rfl) T.b_len PySem.boot_len (pa_cons (pv 1) pa_nil)) (nomark _))
        (pss_one (ps_ret pe_bl))
        pss_nil)
      (pss_one (ps_ret (pe_cmpR (op_eqD hr.units) (pe_lc (own := [(("_law_k" : Str), 2)]) (g := (gName 2)) (by rfl) sc_l_alike.nd (pi_range1 (by rfl) T.b_range (pa_cons (pe_callB call_len_seq (by rfl) T.b_len PySem.boot_len (pa_cons (pv 1) pa_nil)) pa_nil)) (blkOk_by (own := [(("_law_k" : Str), 2)]) (N := N_l_alike) (sc := defScope s_l_alike) (by decide +kernel)) (fun _ _ _ _ _ => (pg_name (i := 2) sc_l_alike.nd rfl (Or.inl rfl))) (fun _ _ _ _ _ => (pts_one (pt_not (pt_val (pe_call ((fun _ => ih) T) (hr.mono (by omega)) (by rfl) T.g_l_alike T.F_l_alike.kp T.B_l_alike .nil pass0 (pa_cons (pe_ix (Dw.ix_seqK (K := K) rfl) (pv 0) (pv 2) (fun _ _ => rfl)) (pa_cons (pe_ix (Dw.ix_seqK (K := K) rfl) (pv 1) (pv 2) (fun _ _ => rfl)) pa_nil))))))) (fun _ _ _ _ _ => (pv 2))) (pe_lst pa_nil) (nomark _))))))
        pss_nil)
      (pss_cons (ps_if (PW.pt (pw_or (pt_cmpR op_isN (pv 1) pe_non (nomark _)) (pw_or1 (pt_cmpR op_isN (pv 0) pe_non (nomark _)))))
        (pss_one (ps_ret (pe_and (pe_cmpR op_isN (pv 1) pe_non (nomark _)) (pe_one (pe_cmpR op_isN (pv 0) pe_non (nomark _))))))
        pss_nil)
      (pss_cons (ps_if (PW.pt (pw_or (pt_val (pe_callB call_isi (by rfl) T.b_isinstance (by decide +kernel) (pa_cons (pv 1) (pa_cons (pe_bltn (v := .ty "bool") (by rfl) T.b_bool (by decide +kernel) rfl) pa_nil)))) (pw_or1 (pt_val (pe_callB call_isi (by rfl) T.b_isinstance (by decide +kernel) (pa_cons (pv 0) (pa_cons (pe_bltn (v := .ty "bool") (by rfl) T.b_bool (by decide +kernel) rfl) pa_nil)))))))
        (pss_one (ps_ret (pe_and (pe_callB call_isi (by rfl) T.b_isinstance (by decide +kernel) (pa_cons (pv 1) (pa_cons (pe_bltn (v := .ty "bool") (by rfl) T.b_bool (by decide +kernel) rfl) pa_nil))) (pe_and (pe_callB call_isi (by rfl) T.b_isinstance (by decide +kernel) (pa_cons (pv 0) (pa_cons (pe_bltn (v := .ty "bool") (by rfl) T.b_bool (by decide +kernel) rfl) pa_nil))) (pe_one (pe_cmpR op_eq (pv 0) (pv 1) (nomark _)))))))
        pss_nil)
      (pss_cons (ps_if (pt_val (pe_callB call_isi (by rfl) T.b_isinstance (by decide +kernel) (pa_cons (pv 1) (pa_cons (pe_bltn (v := .ty "str") (by rfl) T.b_str (by decide +kernel) rfl) pa_nil))))
        (pss_one (ps_ret (pe_and (pe_callB call_isi (by rfl) T.b_isinstance (by decide +kernel) (pa_cons (pv 0) (pa_cons (pe_bltn (v := .ty "str") (by rfl) T.b_str (by decide +kernel) rfl) pa_nil))) (pe_one (pe_cmpR op_eq (pv 0) (pv 1) (nomark _))))))
        pss_nil)
      (pss_one (ps_ret (pe_and (pe_callB call_isi (by rfl) T.b_isinstance (by decide +kernel) (pa_cons (pv 0) (pa_cons (pe_bltn (v := .ty "int") (by rfl) T.b_int (by decide +kernel) rfl) pa_nil))) (pe_one (pe_cmpR op_eq (pv 0) (pv 1) (nomark _)))))))))), ?_⟩
    cases hy with
    | non =>
      cases hx
      refine ⟨_, rfl, _, _, _, _, false, rfl, .ty _, .base .non, kit_ty Dw.ty_nt, false, rfl, ?_⟩
      refine ⟨_, rfl, _, _, _, _, false, rfl, .ty _, .base .non, kit_ty Dw.ty_nl, false, rfl, ?_⟩
      exact ⟨_, rfl, rfl, true, rfl, _, rfl, rfl, true, rfl, _, rfl, rfl, q H (Same.refl H)⟩
    | bl b =>
      cases hx
      refine ⟨_, rfl, _, _, _, _, false, rfl, .ty _, .base (.bl b), kit_ty Dw.ty_bt, false, rfl, ?_⟩
      refine ⟨_, rfl, _, _, _, _, false, rfl, .ty _, .base (.bl b), kit_ty Dw.ty_bl, false, rfl, ?_⟩
      refine ⟨_, rfl, rfl, false, rfl, _, rfl, rfl, false, rfl, ?_⟩
      refine ⟨_, rfl, _, _, _, _, true, rfl, .ty _, .base (.bl b), kit_ty Dw.ty_bb, true, rfl, ?_⟩
      refine ⟨_, rfl, _, _, _, _, true, rfl, .ty _, .base (.bl b), kit_ty Dw.ty_bb, true, rfl, ?_⟩
      refine ⟨_, rfl, _, _, _, _, true, rfl, .ty _, .base (.bl b), kit_ty Dw.ty_bb, true, rfl, ?_⟩
      refine ⟨_, rfl, _, rfl, rfl, ?_⟩
      rw [decide_eq_true rfl]
      exact q H (Same.refl H)
    | int i =>
      cases hx
      refine ⟨_, rfl, _, _, _, _, false, rfl, .ty _, .base (.int i), kit_ty Dw.ty_it, false, rfl, ?_⟩
      refine ⟨_, rfl, _, _, _, _, false, rfl, .ty _, .base (.int i), kit_ty Dw.ty_il, false, rfl, ?_⟩
      refine ⟨_, rfl, rfl, false, rfl, _, rfl, rfl, false, rfl, ?_⟩
      refine ⟨_, rfl, _, _, _, _, false, rfl, .ty _, .base (.int i), kit_ty Dw.ty_ib, false, rfl, ?_⟩
      refine ⟨_, rfl, _, _, _, _, false, rfl, .ty _, .base (.int i), kit_ty Dw.ty_ib, false, rfl, ?_⟩
      refine ⟨_, rfl, _, _, _, _, false, rfl, .ty _, .base (.int i), kit_ty Dw.ty_is, false, rfl, ?_⟩
      refine ⟨_, rfl, _, _, _, _, true, rfl, .ty _, .base (.int i), kit_ty Dw.ty_ii, true, rfl, ?_⟩
      refine ⟨_, rfl, _, rfl, rfl, ?_⟩
      rw [decide_eq_true rfl]
      exact q H (Same.refl H)
    | str z =>
      cases hx
      refine ⟨_, rfl, _, _, _, _, false, rfl, .ty _, .base (.str z), kit_ty Dw.ty_st, false, rfl, ?_⟩
      refine ⟨_, rfl, _, _, _, _, false, rfl, .ty _, .base (.str z), kit_ty Dw.ty_sl, false, rfl, ?_⟩
      refine ⟨_, rfl, rfl, false, rfl, _, rfl, rfl, false, rfl, ?_⟩
      refine ⟨_, rfl, _, _, _, _, false, rfl, .ty _, .base (.str z), kit_ty Dw.ty_sb, false, rfl, ?_⟩
      refine ⟨_, rfl, _, _, _, _, false, rfl, .ty _, .base (.str z), kit_ty Dw.ty_sb, false, rfl, ?_⟩
      refine ⟨_, rfl, _, _, _, _, true, rfl, .ty _, .base (.str z), kit_ty Dw.ty_ss, true, rfl, ?_⟩
      refine ⟨_, rfl, _, _, _, _, true, rfl, .ty _, .base (.str z), kit_ty Dw.ty_ss, true, rfl, ?_⟩
      refine ⟨_, rfl, _, rfl, rfl, ?_⟩
      rw [decide_eq_true rfl]
      exact q H (Same.refl H)
    | @lst b ys ds hb lb tb =>
      cases hx with
      | @lst c xs _ hc lc tc =>
      refine ⟨_, rfl, _, _, _, _, false, rfl, .ty _, .base (.lst hb), kit_ty Dw.ty_lt, false, rfl, ?_⟩
      refine ⟨_, rfl, _, _, _, _, true, rfl, .ty _, .base (.lst hb), kit_ty Dw.ty_ll, true, rfl, ?_⟩
      refine ⟨_, rfl, _, _, _, _, false, rfl, .ty _, .base (.lst hc), kit_ty Dw.ty_lt, _, rfl, _, _, _, _, false, rfl, .ty _, .base (.lst hb), kit_ty Dw.ty_lt, rfl, false, rfl, ?_⟩
      refine ⟨_, rfl, Dw.sz_ rfl, fun u hu => ?_⟩
      have su : Same H (upd H u (.tup [.ty "tuple", .ty "list"])) := Dw.same_upd hu
      refine ⟨_, u, [.ty "tuple", .ty "list"], _, [.type "tuple", .type "list"], true, rfl, upd_same, .cons (.ty _) (.cons (.ty _) .nil), .base (.lst (su _ _ hc)), Dw.any_l, true, rfl, ?_⟩
      refine ⟨_, rfl, c, xs, rfl, .inl (Dw.sq_of (su _ _ hc)), _, rfl, b, ys, rfl, .inl (Dw.sq_of (su _ _ hb)), rfl, _, rfl, iteNS (c := V.int xs.length = V.int ys.length) (by rw [tc.len, tb.len]) ?_⟩
      refine ⟨_, rfl, b, ys, rfl, .inl (Dw.sq_of (su _ _ hb)), _, rfl, by omega, by omega, fun e he => lc_range (lo := 0) (n := ys.length) (fun i H' => Same (upd H u (.tup [.ty "tuple", .ty "list"])) H' ∧ H' e = some (.lst [])) ⟨Dw.same_upd he, upd_same⟩ ?_ ?_⟩
      · rintro i H1 hi ⟨s1, e1⟩
        have lds : i < ds.length := by rw [← tb.len]; exact hi
        have hd := List.getElem?_eq_getElem lds
        obtain ⟨v, gv, tv⟩ := tc.at hd
        obtain ⟨v', gv', tv'⟩ := tb.at hd
        have S := su.trans s1
        refine ⟨rfl, _, rfl, _, rfl, .inl ⟨c, xs, i, v, rfl, by rw [Int.zero_add], Dw.sq_of (S _ _ hc), atI_nat gv, ?_⟩⟩
        refine ⟨_, rfl, _, rfl, .inl ⟨b, ys, i, v', rfl, by rw [Int.zero_add], Dw.sq_of (S _ _ hb), atI_nat gv', ?_⟩⟩
        refine ⟨v, v', _, rfl, tv.mono S, tv'.mono S, ?_, fun H2 s2 => ⟨true, rfl, s1.trans s2, s2 _ _ e1⟩⟩
        have h1 := Dw.depth_at hd
        rw [PyData.depth] at hn
        omega
      · rintro H1 ⟨s1, e1⟩
        refine ⟨Dw.sz_ rfl, fun z hz => ?_⟩
        refine ⟨_, _, Dw.dp_l (xs := []) (Dw.sq_of (Dw.same_upd hz _ _ e1)) (fun v h => by cases h), Dw.dp_l (xs := []) (Dw.sq_of upd_same) (fun v h => by cases h), rfl, rfl, ?_⟩
        exact q _ ((su.trans s1).trans (Dw.same_upd hz))
    | @tup b ys ds hb lb tb =>
      cases hx with
      | @tup c xs _ hc lc tc =>
      refine ⟨_, rfl, _, _, _, _, true, rfl, .ty _, .base (.tup hb), kit_ty Dw.ty_tt, true, rfl, ?_⟩
      refine ⟨_, rfl, _, _, _, _, true, rfl, .ty _, .base (.tup hc), kit_ty Dw.ty_tt, _, rfl, _, _, _, _, true, rfl, .ty _, .base (.tup hb), kit_ty Dw.ty_tt, rfl, false, rfl, ?_⟩
      refine ⟨_, rfl, Dw.sz_ rfl, fun u hu => ?_⟩
      have su : Same H (upd H u (.tup [.ty "tuple", .ty "list"])) := Dw.same_upd hu
      refine ⟨_, u, [.ty "tuple", .ty "list"], _, [.type "tuple", .type "list"], true, rfl, upd_same, .cons (.ty _) (.cons (.ty _) .nil), .base (.tup (su _ _ hc)), Dw.any_t, true, rfl, ?_⟩
      refine ⟨_, rfl, c, xs, rfl, .inr (Dw.st_of (su _ _ hc)), _, rfl, b, ys, rfl, .inr (Dw.st_of (su _ _ hb)), rfl, _, rfl, iteNS (c := V.int xs.length = V.int ys.length) (by rw [tc.len, tb.len]) ?_⟩
      refine ⟨_, rfl, b, ys, rfl, .inr (Dw.st_of (su _ _ hb)), _, rfl, by omega, by omega, fun e he => lc_range (lo := 0) (n := ys.length) (fun i H' => Same (upd H u (.tup [.ty "tuple", .ty "list"])) H' ∧ H' e = some (.lst [])) ⟨Dw.same_upd he, upd_same⟩ ?_ ?_⟩
      · rintro i H1 hi ⟨s1, e1⟩
        have lds : i < ds.length := by rw [← tb.len]; exact hi
        have hd := List.getElem?_eq_getElem lds
        obtain ⟨v, gv, tv⟩ := tc.at hd
        obtain ⟨v', gv', tv'⟩ := tb.at hd
        have S := su.trans s1
        refine ⟨rfl, _, rfl, _, rfl, .inr (.inl ⟨c, xs, i, v, rfl, by rw [Int.zero_add], Dw.st_of (S _ _ hc), atI_nat gv, ?_⟩)⟩
        refine ⟨_, rfl, _, rfl, .inr (.inl ⟨b, ys, i, v', rfl, by rw [Int.zero_add], Dw.st_of (S _ _ hb), atI_nat gv', ?_⟩)⟩
        refine ⟨v, v', _, rfl, tv.mono S, tv'.mono S, ?_, fun H2 s2 => ⟨true, rfl, s1.trans s2, s2 _ _ e1⟩⟩
        have h1 := Dw.depth_at hd
        rw [PyData.depth] at hn
        omega
      · rintro H1 ⟨s1, e1⟩
        refine ⟨Dw.sz_ rfl, fun z hz => ?_⟩
        refine ⟨_, _, Dw.dp_l (xs := []) (Dw.sq_of (Dw.same_upd hz _ _ e1)) (fun v h => by cases h), Dw.dp_l (xs := []) (Dw.sq_of upd_same) (fun v h => by cases h), rfl, rfl, ?_⟩
        exact q _ ((su.trans s1).trans (Dw.same_upd hz))
theorem G_l_alike_n {a : Ad} (T : Top K mg a) : ∀ n : Nat, FnOk P w K mg base CX0 n a.f_l_alike a.d_l_alike P_l_alike (Dw.spAlike n)
  | 0 => Dw.alike_zero
  | n + 1 => ok_l_alike T (G_l_alike_n T n)
/-- data of depth four at most -/
theorem G_l_alike {a : Ad} (T : Top K mg a) : FnOk P w K mg base CX0 5 a.f_l_alike a.d_l_alike P_l_alike (Dw.spAlike 5) := G_l_alike_n T 5

/-- sums of a list or tuple of what cells hold -/
def spSums (K : PySem.W.Frag) : Sp := fun vs H Q _ => ∃ (c : Addr) (cs : List V), vs = [.ref c] ∧ (SqL K H c cs ∨ SqT K H c cs) ∧ (∀ v ∈ cs, Dw.cel v = true) ∧ (V.non ∈ cs → Q .non H) ∧
  ∀ xs : List Int, cs = xs.map V.int → ∀ (H' : Hp) (t : Addr), Same H H' → H t = none → H' t = some (.tup [.int (Sm.sumsI xs).1, .int (Sm.sumsI xs).2]) → Q (.ref t) H'
theorem G_sums {a : Ad} (T : Top K mg a) : FnOk P w K mg base CX0 1 a.f_sums a.d_sums P_sums (spSums K) := by
  refine T.F_sums.ok sc_sums (fun vs H Q E h => ?_) (fun cdv A outer s H vs Q E hr h => ?_)
  · obtain ⟨_, _, rfl, _⟩ := h
    rfl
  · obtain ⟨c, cs, rfl, hC, hcel, qn, q⟩ := h
    rcases hC with hC | hC
    · refine ⟨_, (pss_cons (ps_set (i := 1) sc_sums.nd rfl (Or.inl rfl) pe_int)
      (pss_cons (ps_set (i := 2) sc_sums.nd rfl (Or.inl rfl) pe_int)
      (pss_cons (ps_for PassesOwn.never rfl (pi_list (pv 0)) (pg_name (i := 3) sc_sums.nd rfl (Or.inl rfl))
        (pss_cons (ps_if (pt_cmpR op_isN (pv 3) pe_non (nomark _))
        (pss_one (ps_ret pe_non))
        pss_nil)
      (pss_cons (ps_set (i := 1) sc_sums.nd rfl (Or.inl rfl) (pe_op op_mod (pe_op op_add (pe_op op_add (pv 1) (pv 3)) pe_int) (pe_glob (v := .int 9973) rfl T.c_RESTS_BY ⟨_, rfl⟩)))
      (pss_one (ps_set (i := 2) sc_sums.nd rfl (Or.inl rfl) (pe_op op_mod (pe_op op_add (pv 2) (pv 1)) (pe_glob (v := .int 9973) rfl T.c_RESTS_BY ⟨_, rfl⟩)))))))
      (pss_one (ps_ret (pe_tup (pa_cons (pv 1) (pa_cons (pv 2) pa_nil)))))))), ?_⟩
      refine ⟨.ref c, rfl, c, rfl, ⟨_, hC⟩, for_list (K := K) (a := c) (xs := cs) (fun i σ H' => ∃ (ys : List Int) (v3 : Option V), cs.take i = ys.map V.int ∧ σ = [some (.ref c), some (.int (Sm.sumsI ys).1), some (.int (Sm.sumsI ys).2), v3] ∧ H' = H)
        ⟨[], none, rfl, rfl, rfl⟩ (fun i σ H' _ ⟨_, _, _, _, e⟩ => e ▸ hC) ?_ ?_⟩
      · rintro i y σ H' hi ⟨ys, v3, hy, rfl, rfl⟩
        rcases Dw.cel_cases (hcel y (List.mem_of_getElem? hi)) with ⟨x, rfl⟩ | rfl
        · refine ⟨_, rfl, rfl, _, rfl, ite2 (fun e => absurd (of_decide_eq_true e) (by intro z; cases z)) (fun _ => ?_)⟩
          refine ⟨_, rfl, _, rfl, _, _, rfl, rfl, _, 1, rfl, rfl, _, 9973, rfl, rfl, (by show (0 : Int) < 9973; decide), ?_⟩
          refine ⟨_, rfl, _, rfl, _, _, rfl, rfl, _, 9973, rfl, rfl, (by show (0 : Int) < 9973; decide), ?_⟩
          refine ⟨ys ++ [x], some (.int x), ?_, ?_, rfl⟩
          · rw [List.take_add_one, hi, hy, List.map_append]
            rfl
          · unfold Sm.sumsI
            rw [List.foldl_append]
            rfl
        · refine ⟨_, rfl, rfl, _, rfl, ite2 (fun _ => ?_) (fun e => absurd (decide_eq_true rfl) e)⟩
          exact qn (List.mem_of_getElem? hi)
      · rintro σ H' ⟨ys, v3, hy, rfl, rfl⟩
        rw [List.take_length] at hy
        refine ⟨_, rfl, _, rfl, Dw.sz_ rfl, fun t ht => ?_⟩
        exact q ys hy _ t (Dw.same_upd ht) ht upd_same
    · refine ⟨_, (pss_cons (ps_set (i := 1) sc_sums.nd rfl (Or.inl rfl) pe_int)
      (pss_cons (ps_set (i := 2) sc_sums.nd rfl (Or.inl rfl) pe_int)
      (pss_cons (ps_for PassesOwn.never rfl (pi_tup (pv 0)) (pg_name (i := 3) sc_sums.nd rfl (Or.inl rfl))
        (pss_cons (ps_if (pt_cmpR op_isN (pv 3) pe_non (nomark _))
        (pss_one (ps_ret pe_non))
        pss_nil)
      (pss_cons (ps_set (i := 1) sc_sums.nd rfl (Or.inl rfl) (pe_op op_mod (pe_op op_add (pe_op op_add (pv 1) (pv 3)) pe_int) (pe_glob (v := .int 9973) rfl T.c_RESTS_BY ⟨_, rfl⟩)))
      (pss_one (ps_set (i := 2) sc_sums.nd rfl (Or.inl rfl) (pe_op op_mod (pe_op op_add (pv 2) (pv 1)) (pe_glob (v := .int 9973) rfl T.c_RESTS_BY ⟨_, rfl⟩)))))))
      (pss_one (ps_ret (pe_tup (pa_cons (pv 1) (pa_cons (pv 2) pa_nil)))))))), ?_⟩
      refine ⟨.ref c, rfl, c, rfl, ⟨_, hC⟩, for_tup (K := K) (a := c) (xs := cs) (fun i σ H' => ∃ (ys : List Int) (v3 : Option V), cs.take i = ys.map V.int ∧ σ = [some (.ref c), some (.int (Sm.sumsI ys).1), some (.int (Sm.sumsI ys).2), v3] ∧ H' = H)
        ⟨[], none, rfl, rfl, rfl⟩ (fun i σ H' _ ⟨_, _, _, _, e⟩ => e ▸ hC) ?_ ?_⟩
      · rintro i y σ H' hi ⟨ys, v3, hy, rfl, rfl⟩
        rcases Dw.cel_cases (hcel y (List.mem_of_getElem? hi)) with ⟨x, rfl⟩ | rfl
        · refine ⟨_, rfl, rfl, _, rfl, ite2 (fun e => absurd (of_decide_eq_true e) (by intro z; cases z)) (fun _ => ?_)⟩
          refine ⟨_, rfl, _, rfl, _, _, rfl, rfl, _, 1, rfl, rfl, _, 9973, rfl, rfl, (by show (0 : Int) < 9973; decide), ?_⟩
          refine ⟨_, rfl, _, rfl, _, _, rfl, rfl, _, 9973, rfl, rfl, (by show (0 : Int) < 9973; decide), ?_⟩
          refine ⟨ys ++ [x], some (.int x), ?_, ?_, rfl⟩
          · rw [List.take_add_one, hi, hy, List.map_append]
            rfl
          · unfold Sm.sumsI
            rw [List.foldl_append]
            rfl
        · refine ⟨_, rfl, rfl, _, rfl, ite2 (fun _ => ?_) (fun e => absurd (decide_eq_true rfl) e)⟩
          exact qn (List.mem_of_getElem? hi)
      · rintro σ H' ⟨ys, v3, hy, rfl, rfl⟩
        rw [List.take_length] at hy
        refine ⟨_, rfl, _, rfl, Dw.sz_ rfl, fun t ht => ?_⟩
        exact q ys hy _ t (Dw.same_upd ht) ht upd_same
/-- the same for ints alone -/
def spSumsI (K : PySem.W.Frag) : Sp := fun vs H Q _ => ∃ (c : Addr) (xs : List Int), vs = [.ref c] ∧ (SqL K H c (xs.map V.int) ∨ SqT K H c (xs.map V.int)) ∧
  ∀ (H' : Hp) (t : Addr), Same H H' → H t = none → H' t = some (.tup [.int (Sm.sumsI xs).1, .int (Sm.sumsI xs).2]) → Q (.ref t) H'
theorem sums_int {vs : List V} {H : Hp} {Q : VK} {E : XK} (h : spSumsI K vs H Q E) : spSums K vs H Q E := by
  obtain ⟨c, xs, rfl, hC, q⟩ := h
  refine ⟨c, _, rfl, hC, Dw.cel_ints, fun m => ?_, fun ys e => ?_⟩
  · obtain ⟨_, _, z⟩ := List.mem_map.mp m
    cases z
  · rw [← Dw.map_int_inj e]
    exact q
theorem G_sumsI {a : Ad} (T : Top K mg a) : FnOk P w K mg base CX0 1 a.f_sums a.d_sums P_sums (spSumsI K) := (G_sums T).imp fun _ _ _ _ => sums_int

/-- name of a list or tuple of what cells hold -/
def spName (K : PySem.W.Frag) : Sp := fun vs H Q _ => ∃ (c : Addr) (cs : List V), vs = [.ref c] ∧ (SqL K H c cs ∨ SqT K H c cs) ∧ (∀ v ∈ cs, Dw.cel v = true) ∧ (V.non ∈ cs → Q .non H) ∧
  ∀ xs : List Int, cs = xs.map V.int → ∀ (H' : Hp) (t : Addr), Same H H' → H t = none → H' t = some (.tup [.int (Sm.sumsI xs).1, .int (Sm.sumsI xs).2, .int (xs.length : Int)]) → Q (.ref t) H'
theorem G_name {a : Ad} (T : Top K mg a) : FnOk P w K mg base CX0 2 a.f_name a.d_name P_name (spName K) := by
  refine T.F_name.ok sc_name (fun vs H Q E h => ?_) (fun cdv A outer s H vs Q E hr h => ?_)
  · obtain ⟨_, _, rfl, _⟩ := h
    rfl
  · obtain ⟨c, cs, rfl, hC, hcel, qn, q⟩ := h
    refine ⟨_, (pss_cons (ps_set (i := 1) sc_name.nd rfl (Or.inl rfl) (pe_call (G_sums T) (hr.mono (by omega)) (by rfl) T.g_sums T.F_sums.kp T.B_sums .nil pass0 (pa_cons (pv 0) pa_nil)))
      (pss_cons (ps_if (pt_cmpR op_isN (pv 1) pe_non (nomark _))
        (pss_one (ps_ret pe_non))
        pss_nil)
      (pss_cons (ps_asg (pv 1) (pg_tup rfl (pgs_cons (pg_name (i := 2) sc_name.nd rfl (Or.inl rfl)) (pgs_cons (pg_name (i := 3) sc_name.nd rfl (Or.inl rfl)) pgs_nil))))
      (pss_one (ps_ret (pe_tup (pa_cons (pv 2) (pa_cons (pv 3) (pa_cons (pe_callB call_len_seq (by rfl) T.b_len PySem.boot_len (pa_cons (pv 0) pa_nil)) pa_nil))))))))), ?_⟩
    refine ⟨.ref c, rfl, c, cs, rfl, hC, hcel, fun m => ?_, fun xs e H1 t s1 n1 e1 => ?_⟩
    · refine ⟨_, rfl, rfl, _, rfl, ite2 (fun _ => ?_) (fun e => absurd (decide_eq_true rfl) e)⟩
      exact qn m
    · refine ⟨_, rfl, rfl, _, rfl, ite2 (fun e => absurd (of_decide_eq_true e) (by intro z; cases z)) (fun _ => ?_)⟩
      refine ⟨.ref t, rfl, t, _, rfl, Dw.st_of e1, rfl, _, [_], rfl, _, [], rfl, rfl, ?_⟩
      have hC1 : SqL K H1 c cs ∨ SqT K H1 c cs := hC.imp (fun z => s1.seq z) fun z => Dw.same_tup s1 z
      refine ⟨_, rfl, _, rfl, .ref c, rfl, c, cs, rfl, hC1, Dw.sz_ rfl, fun u hu => ?_⟩
      refine q xs e _ u (s1.trans (Dw.same_upd hu)) (s1.free hu) ?_
      rw [upd_same, e, List.length_map]

/-- seal of a key and a list of ints -/
def spSeal (K : PySem.W.Frag) : Sp := fun vs H Q _ => ∃ (c : Addr) (k : Int) (xs : List Int), vs = [.int k, .ref c] ∧ SqL K H c (xs.map V.int) ∧ 1 ≤ k ∧ k < 9973 ∧ Q (.int (Sm.sealI k xs)) H
theorem G_seal {a : Ad} (T : Top K mg a) : FnOk P w K mg base CX0 1 a.f_seal a.d_seal P_seal (spSeal K) := by
  refine T.F_seal.ok sc_seal (fun vs H Q E h => ?_) (fun cdv A outer s H vs Q E hr h => ?_)
  · obtain ⟨_, _, _, rfl, _⟩ := h
    rfl
  · obtain ⟨c, k, xs, rfl, hC, k0, k1, q⟩ := h
    refine ⟨_, (pss_cons (ps_set (i := 2) sc_seal.nd rfl (Or.inl rfl) (pv 0))
      (pss_cons (ps_for PassesOwn.never rfl (pi_list (pv 1)) (pg_name (i := 3) sc_seal.nd rfl (Or.inl rfl))
        (pss_one (ps_set (i := 2) sc_seal.nd rfl (Or.inl rfl) (pe_op op_mod (pe_op op_add (pe_op op_add (pe_op op_mul (pv 2) (pv 0)) (pv 3)) pe_int) (pe_glob (v := .int 9973) rfl T.c_RESTS_BY ⟨_, rfl⟩)))))
      (pss_one (ps_ret (pv 2))))), ?_⟩
    refine ⟨.int k, rfl, .ref c, rfl, c, rfl, ⟨_, hC⟩, for_list (K := K) (a := c) (xs := xs.map V.int) (fun i σ H' => ∃ v3, σ = [some (.int k), some (.ref c), some (.int ((xs.take i).foldl (Sm.sl k) k)), v3] ∧ H' = H)
      ⟨none, rfl, rfl⟩ (fun i σ H' _ ⟨_, _, e⟩ => e ▸ hC) ?_ ?_⟩
    · rintro i y σ H' hi ⟨v3, rfl, rfl⟩
      obtain ⟨x, hx, rfl⟩ := Dw.get_map hi
      refine ⟨_, rfl, _, rfl, _, _, rfl, rfl, .inr ⟨by omega, by omega⟩, _, rfl, _, _, rfl, rfl, _, 1, rfl, rfl, _, 9973, rfl, rfl, (by show (0 : Int) < 9973; decide), ?_⟩
      refine ⟨some (.int x), ?_, rfl⟩
      rw [Dw.map_take_succ hx, List.foldl_append]
      rfl
    · rintro σ H' ⟨v3, rfl, rfl⟩
      rw [List.length_map, List.take_length]
      exact ⟨_, rfl, q⟩

/-- joined of a list of triples -/
def spJoined (K : PySem.W.Frag) : Sp := fun vs H Q _ => ∃ (c : Addr) (rs : List Addr) (ts : List (Int × Int × Int)), vs = [.ref c] ∧ SqL K H c (rs.map V.ref) ∧ rs.length = ts.length ∧ (∀ (i : Nat) (b : Addr) (t : Int × Int × Int), rs[i]? = some b → ts[i]? = some t → SqT K H b [.int t.1, .int t.2.1, .int t.2.2]) ∧
  ∀ (H' : Hp) (t : Addr), Same H H' → H t = none → H' t = some (.tup [.int (ts.foldl Sm.jst (0, 0)).1, .int (ts.foldl Sm.jst (0, 0)).2]) → Q (.ref t) H'
theorem jst_lo : ∀ (ts : List (Int × Int × Int)) (p : Int × Int), (0 ≤ p.1 ∧ p.1 < 9973) → 0 ≤ (ts.foldl Sm.jst p).1 ∧ (ts.foldl Sm.jst p).1 < 9973
  | [], _, h => h
  | t :: r, p, _ => jst_lo r (Sm.jst p t) (by show 0 ≤ (p.1 + t.1) % 9973 ∧ (p.1 + t.1) % 9973 < 9973; omega)
theorem G_joined {a : Ad} (T : Top K mg a) : FnOk P w K mg base CX0 1 a.f_joined a.d_joined P_joined (spJoined K) := by
  refine T.F_joined.ok sc_joined (fun vs H Q E h => ?_) (fun cdv A outer s H vs Q E hr h => ?_)
  · obtain ⟨_, _, _, rfl, _⟩ := h
    rfl
  · obtain ⟨c, rs, ts, rfl, hC, hlen, hts, q⟩ := h
    refine ⟨_, (pss_cons (ps_set (i := 1) sc_joined.nd rfl (Or.inl rfl) pe_int)
      (pss_cons (ps_set (i := 2) sc_joined.nd rfl (Or.inl rfl) pe_int)
      (pss_cons (ps_for PassesOwn.never rfl (pi_list (pv 0)) (pg_tup rfl (pgs_cons (pg_name (i := 3) sc_joined.nd rfl (Or.inl rfl)) (pgs_cons (pg_name (i := 4) sc_joined.nd rfl (Or.inl rfl)) (pgs_cons (pg_name (i := 5) sc_joined.nd rfl (Or.inl rfl)) pgs_nil))))
        (pss_cons (ps_set (i := 2) sc_joined.nd rfl (Or.inl rfl) (pe_op op_mod (pe_op op_add (pe_op op_add (pv 2) (pe_op op_mul (pv 1) (pv 5))) (pv 4)) (pe_glob (v := .int 9973) rfl T.c_RESTS_BY ⟨_, rfl⟩)))
      (pss_one (ps_set (i := 1) sc_joined.nd rfl (Or.inl rfl) (pe_op op_mod (pe_op op_add (pv 1) (pv 3)) (pe_glob (v := .int 9973) rfl T.c_RESTS_BY ⟨_, rfl⟩))))))
      (pss_one (ps_ret (pe_tup (pa_cons (pv 1) (pa_cons (pv 2) pa_nil)))))))), ?_⟩
    refine ⟨.ref c, rfl, c, rfl, ⟨_, hC⟩, for_list (K := K) (a := c) (xs := rs.map V.ref) (fun i σ H' => ∃ v3 v4 v5 : Option V, σ = [some (.ref c), some (.int ((ts.take i).foldl Sm.jst (0, 0)).1), some (.int ((ts.take i).foldl Sm.jst (0, 0)).2), v3, v4, v5] ∧ H' = H)
      ⟨_, _, _, rfl, rfl⟩ (fun i σ H' _ ⟨_, _, _, _, e⟩ => e ▸ hC) ?_ ?_⟩
    · rintro i y σ H' hi ⟨v3, v4, v5, rfl, rfl⟩
      obtain ⟨b, hb, rfl⟩ := Dw.get_map_ref hi
      have hlt : i < ts.length := by
        rw [← hlen]
        exact (List.getElem?_eq_some_iff.mp hb).1
      have ht := List.getElem?_eq_getElem hlt
      have hB := hts i b _ hb ht
      refine ⟨b, _, rfl, hB, rfl, _, _, rfl, _, _, rfl, _, [], rfl, rfl, ?_⟩
      have lo := jst_lo (ts.take i) (0, 0) ⟨by decide, by decide⟩
      refine ⟨_, rfl, _, rfl, _, rfl, _, _, rfl, rfl, .inl ⟨by omega, by omega⟩, _, _, rfl, rfl, _, rfl, _, _, rfl, rfl, _, 9973, rfl, rfl, (by show (0 : Int) < 9973; decide), ?_⟩
      refine ⟨_, rfl, _, rfl, _, _, rfl, rfl, _, 9973, rfl, rfl, (by show (0 : Int) < 9973; decide), ?_⟩
      refine ⟨some (.int ts[i].1), some (.int ts[i].2.1), some (.int ts[i].2.2), ?_, rfl⟩
      rw [List.take_add_one, ht]
      show _ = [_, some (V.int ((ts.take i ++ [ts[i]]).foldl Sm.jst (0, 0)).1), some (V.int ((ts.take i ++ [ts[i]]).foldl Sm.jst (0, 0)).2), _, _, _]
      rw [List.foldl_append]
      rfl
    · rintro σ H' ⟨v3, v4, v5, rfl, rfl⟩
      rw [List.length_map, hlen, List.take_length]
      refine ⟨_, rfl, _, rfl, Dw.sz_ rfl, fun t ht => ?_⟩
      exact q _ t (Dw.same_upd ht) ht upd_same
/-- the law's own sums of a list of ints -/
def spLSums (K : PySem.W.Frag) : Sp := fun vs H Q _ => ∃ (c : Addr) (xs : List Int), vs = [.ref c] ∧ SqL K H c (xs.map V.int) ∧ xs.length ≤ 1000 ∧
  ∀ (H' : Hp) (t : Addr), Same H H' → H t = none → H' t = some (.tup [.int (Sm.sumsI xs).1, .int (Sm.sumsI xs).2]) → Q (.ref t) H'
theorem G_l_sums {a : Ad} (T : Top K mg a) : FnOk P w K mg base CX0 1 a.f_l_sums a.d_l_sums P_l_sums (spLSums K) := by
  refine T.F_l_sums.ok sc_l_sums (fun vs H Q E h => ?_) (fun cdv A outer s H vs Q E hr h => ?_)
  · obtain ⟨_, _, rfl, _⟩ := h
    rfl
  · obtain ⟨c, xs, rfl, hC, hlen, q⟩ := h
    refine ⟨_, (pss_cons (ps_if (pt_cmpR op_in_seq pe_non (pv 0) (by rfl))
        (pss_one (ps_ret pe_non))
        pss_nil)
      (pss_cons (ps_set (i := 1) sc_l_sums.nd rfl (Or.inl rfl) (pe_callB (cr_sum rfl) (by rfl) T.b_sum (by decide +kernel) (pa_cons (pe_lc (own := [(("_law_number" : Str), 3)]) (g := (gName 3)) (tt := tYes) (by rfl) sc_l_sums.nd (pi_list (pv 0)) (blkOk_by (own := [(("_law_number" : Str), 3)]) (N := N_l_sums) (sc := defScope s_l_sums) (by decide +kernel)) (fun _ _ _ _ _ => (pg_name (i := 3) sc_l_sums.nd rfl (Or.inl rfl))) (fun _ _ _ _ _ => pts_nil) (fun _ _ _ _ _ => (pe_op op_add (pv 3) pe_int))) pa_nil)))
      (pss_cons (ps_set (i := 2) sc_l_sums.nd rfl (Or.inl rfl) (pe_callB (cr_sum rfl) (by rfl) T.b_sum (by decide +kernel) (pa_cons (pe_lc (own := [(("_law_k" : Str), 4)]) (g := (gName 4)) (tt := tYes) (by rfl) sc_l_sums.nd (pi_range1 (by rfl) T.b_range (pa_cons (pe_callB call_len_seq (by rfl) T.b_len PySem.boot_len (pa_cons (pv 0) pa_nil)) pa_nil)) (blkOk_by (own := [(("_law_k" : Str), 4)]) (N := N_l_sums) (sc := defScope s_l_sums) (by decide +kernel)) (fun _ _ _ _ _ => (pg_name (i := 4) sc_l_sums.nd rfl (Or.inl rfl))) (fun _ _ _ _ _ => pts_nil) (fun _ _ _ _ _ => (pe_op op_mul (pe_op op_sub (pe_callB (Dw.call_len_seqK (K := K) rfl) (by rfl) T.b_len PySem.boot_len (pa_cons (pv 0) pa_nil)) (pv 4)) (pe_op op_add (pe_ix (Dw.ix_listK (K := K) rfl) (pv 0) (pv 4) (fun _ _ => rfl)) pe_int)))) pa_nil)))
      (pss_one (ps_ret (pe_tup (pa_cons (pe_op op_mod (pv 1) pe_int) (pa_cons (pe_op op_mod (pv 2) pe_int) pa_nil)))))))), ?_⟩
    refine ⟨.ref c, rfl, c, _, rfl, .inl hC, rfl, Dw.flat_ints, _, rfl, ?_⟩
    rw [show (if false = true then !inV .non (xs.map V.int) else inV .non (xs.map V.int)) = false from Dw.inV_ints]
    refine iteF ?_
    -- one
    refine ⟨.ref c, rfl, c, rfl, ⟨_, hC⟩, fun D hD => lc_list (K := K) (a := c) (xs := xs.map V.int) (fun i H' => Same H H' ∧ ∃ ys : List Int, H' D = some (.lst (ys.map V.int)) ∧ ys.length = i ∧ ys.sum + Sm.w1 (xs.drop i) = Sm.w1 xs)
      ⟨Dw.same_upd hD, [], upd_same, rfl, by simp⟩ (fun i H' _ ⟨s, _⟩ => s.seq hC) ?_ ?_⟩
    · rintro i y H1 hi ⟨s1, ys, h1, l1, e1⟩
      obtain ⟨x, hx, rfl⟩ := Dw.get_map hi
      have hlt := (List.getElem?_eq_some_iff.mp hx).1
      refine ⟨rfl, _, rfl, x, 1, rfl, rfl, _, h1, Dw.size_lt (by rw [List.length_map]; omega), Dw.same_mut s1 hD, ys ++ [x + 1], ?_, by rw [List.length_append, l1]; rfl, ?_⟩
      · rw [upd_same, List.map_append]
        rfl
      · rw [Sm.w1_drop hx] at e1
        rw [List.sum_append, List.sum_singleton]
        omega
    rintro H1 ⟨s1, ys, h1, l1, e1⟩
    rw [List.length_map] at l1 e1
    rw [List.drop_length] at e1
    have hw1 : ys.sum = Sm.w1 xs := by
      rw [← e1]
      exact (Int.add_zero _).symm
    refine ⟨D, ys, rfl, Dw.sq_of h1, ?_⟩
    -- two
    refine ⟨.ref c, rfl, c, _, rfl, .inl (s1.seq hC), _, rfl, by rw [List.length_map]; omega, by rw [List.length_map]; omega, fun B hB => lc_range (lo := 0) (n := (xs.map V.int).length) (fun i H' => Same H1 H' ∧ ∃ zs : List Int, H' B = some (.lst (zs.map V.int)) ∧ zs.length = i ∧ zs.sum + Sm.w2 (xs.drop i) = Sm.w2 xs)
      ⟨Dw.same_upd hB, [], upd_same, rfl, by simp⟩ ?_ ?_⟩
    · rintro i H2 hi ⟨s2, zs, h2, l2, e2⟩
      rw [List.length_map] at hi
      have hx := List.getElem?_eq_getElem hi
      have hc2 := (s1.trans s2).seq hC
      refine ⟨rfl, _, rfl, c, _, rfl, .inl hc2, _, rfl, _, (0 + (i : Int)), rfl, rfl, _, rfl, _, rfl, c, _, (0 + (i : Int)), _, rfl, rfl, hc2, by rw [Int.zero_add]; exact Dw.at_map hx, _, 1, rfl, rfl, _, _, rfl, rfl, .inl ⟨by rw [List.length_map]; omega, by rw [List.length_map]; omega⟩, ?_⟩
      refine ⟨_, h2, Dw.size_lt (by rw [List.length_map]; omega), Dw.same_mut s2 hB, zs ++ [((xs.length : Int) - i) * (xs[i] + 1)], ?_, by rw [List.length_append, l2]; rfl, ?_⟩
      · rw [upd_same, List.map_append, List.length_map, Int.zero_add]
        rfl
      · rw [Sm.w2_drop hx] at e2
        rw [List.sum_append, List.sum_singleton]
        omega
    rintro H2 ⟨s2, zs, h2, l2, e2⟩
    rw [List.length_map] at l2 e2
    rw [List.drop_length] at e2
    have hw2 : zs.sum = Sm.w2 xs := by
      rw [← e2]
      exact (Int.add_zero _).symm
    refine ⟨B, zs, rfl, Dw.sq_of h2, ?_⟩
    refine ⟨_, rfl, _, 9973, rfl, rfl, (by show (0 : Int) < 9973; decide), _, rfl, _, 9973, rfl, rfl, (by show (0 : Int) < 9973; decide), Dw.sz_ rfl, fun t ht => ?_⟩
    refine q _ t ((s1.trans s2).trans (Dw.same_upd ht)) ((s1.trans s2).free ht) ?_
    rw [upd_same, hw1, hw2, Sm.sums_w]
/-- the law's own seal -/
def spLSeal (K : PySem.W.Frag) : Sp := fun vs H Q _ => ∃ (c : Addr) (k : Int) (xs : List Int), vs = [.int k, .ref c] ∧ SqL K H c (xs.map V.int) ∧ (∀ x ∈ xs, 0 ≤ x ∧ x < 9973) ∧ 1 ≤ k ∧ k < 9973 ∧ Q (.int (Sm.sealI k xs)) H
theorem G_l_seal {a : Ad} (T : Top K mg a) : FnOk P w K mg base CX0 1 a.f_l_seal a.d_l_seal P_l_seal (spLSeal K) := by
  refine T.F_l_seal.ok sc_l_seal (fun vs H Q E h => ?_) (fun cdv A outer s H vs Q E hr h => ?_)
  · obtain ⟨_, _, _, rfl, _⟩ := h
    rfl
  · obtain ⟨c, k, xs, rfl, hC, hin, k0, k1, q⟩ := h
    refine ⟨_, (pss_cons (ps_set (i := 2) sc_l_seal.nd rfl (Or.inl rfl) pe_int)
      (pss_cons (ps_set (i := 3) sc_l_seal.nd rfl (Or.inl rfl) pe_int)
      (pss_cons (ps_for PassesOwn.never rfl (pi_reversed (by rfl) T.b_reversed (pa_cons (pv 1) pa_nil)) (pg_name (i := 4) sc_l_seal.nd rfl (Or.inl rfl))
        (pss_cons (ps_set (i := 2) sc_l_seal.nd rfl (Or.inl rfl) (pe_op op_add (pv 2) (pe_op op_mul (pe_op op_add (pv 4) pe_int) (pv 3))))
      (pss_one (ps_set (i := 3) sc_l_seal.nd rfl (Or.inl rfl) (pe_op op_mul (pv 3) (pv 0))))))
      (pss_one (ps_ret (pe_op op_mod (pe_op op_add (pv 2) (pe_op op_mul (pv 0) (pv 3))) pe_int)))))), ?_⟩
    refine ⟨.ref c, rfl, c, _, rfl, hC, fun i m σ H' => i + m = xs.length ∧ ∃ v4 : Option V, σ = [some (.int k), some (.ref c), some (.int (Sm.hz k (xs.drop (xs.length - i)))), some (.int (k ^ i)), v4] ∧ H' = H,
      ⟨xs.length, by omega, none, ?_, rfl⟩, fun i m σ H' hW => ?_⟩
    · rw [Nat.sub_zero, List.drop_length, Int.pow_zero]
      rfl
    · obtain ⟨em, v4, rfl, rfl⟩ := hW
      rw [List.length_map]
      by_cases hi : i < xs.length
      · obtain ⟨x, hx⟩ : ∃ x, xs[xs.length - 1 - i]? = some x := ⟨_, List.getElem?_eq_getElem (show xs.length - 1 - i < xs.length by omega)⟩
        have gx : (xs.map V.int)[xs.length - 1 - i]? = some (.int x) := by
          rw [List.getElem?_map, hx]
          rfl
        refine .inr ⟨⟨hi, _, _, hC, gx⟩, fun σ' H'' => ∃ v4 : Option V, σ' = [some (.int k), some (.ref c), some (.int (Sm.hz k (xs.drop (xs.length - (i + 1))))), some (.int (k ^ (i + 1))), v4] ∧ H'' = H', fun σ' H'' hN => ?_, fun y H'' hy => ?_⟩
        · obtain ⟨z4, e1, e2⟩ := hN
          exact ⟨m - 1, by omega, by omega, z4, e1, e2⟩
        · obtain ⟨rfl, fv⟩ := hy
          have ev := Option.some.inj ((fv _ hC).symm.trans gx)
          subst ev
          have bx := hin _ (List.mem_of_getElem? hx)
          refine ⟨_, rfl, _, rfl, _, 1, rfl, rfl, _, rfl, _, _, rfl, rfl, .inl ⟨by omega, by omega⟩, _, _, rfl, rfl, ?_⟩
          refine ⟨_, rfl, _, rfl, _, _, rfl, rfl, .inr ⟨by omega, by omega⟩, ?_⟩
          refine ⟨some (.int x), ?_, rfl⟩
          have eh := Sm.hz_drop (k := k) hx
          rw [show xs.length - 1 - i + 1 = xs.length - i by omega, show xs.length - (xs.length - i) = i by omega, show xs.length - 1 - i = xs.length - (i + 1) by omega] at eh
          rw [eh, Int.pow_succ]
          rfl
      · have ei : i = xs.length := by omega
        subst ei
        refine .inl ⟨Nat.le_refl _, ?_⟩
        refine ⟨_, rfl, _, rfl, _, rfl, _, _, rfl, rfl, .inl ⟨by omega, by omega⟩, _, _, rfl, rfl, _, 9973, rfl, rfl, (by show (0 : Int) < 9973; decide), ?_⟩
        have e := Sm.seal_hz ⟨k0, k1⟩ xs
        rw [Nat.sub_self, List.drop_zero]
        show Q (.int ((Sm.hz k xs + k * k ^ xs.length) % 9973)) _
        rw [e]
        exact q
/-- the law's own names -/
def spTitle (K : PySem.W.Frag) : Sp := fun vs H Q _ => ∃ (c : Addr) (xs : List Int), vs = [.ref c] ∧ SqL K H c (xs.map V.int) ∧ xs.length ≤ 1000 ∧
  ∀ (H' : Hp) (t : Addr), Same H H' → H' t = some (.tup [.int (Sm.sumsI xs).1, .int (Sm.sumsI xs).2, .int (xs.length : Int)]) → Q (.ref t) H'
theorem G_l_title {a : Ad} (T : Top K mg a) : FnOk P w K mg base CX0 2 a.f_l_title a.d_l_title P_l_title (spTitle K) := by
  refine T.F_l_title.ok sc_l_title (fun vs H Q E h => ?_) (fun cdv A outer s H vs Q E hr h => ?_)
  · obtain ⟨_, _, rfl, _⟩ := h
    rfl
  · obtain ⟨c, xs, rfl, hC, hlen, q⟩ := h
    refine ⟨_, (pss_cons (ps_set (i := 1) sc_l_title.nd rfl (Or.inl rfl) (pe_call (G_l_sums T) (hr.mono (by omega)) (by rfl) T.g_l_sums T.F_l_sums.kp T.B_l_sums .nil pass0 (pa_cons (pv 0) pa_nil)))
      (pss_one (ps_ret (pe_ifExp (pt_cmpR op_isN (pv 1) pe_non (nomark _)) pe_non (pe_op (op_catT) (pv 1) (pe_tup (pa_cons (pe_callB call_len_seq (by rfl) T.b_len PySem.boot_len (pa_cons (pv 0) pa_nil)) pa_nil))))))), ?_⟩
    refine ⟨.ref c, rfl, c, xs, rfl, hC, hlen, fun H1 t s1 n1 e1 => ?_⟩
    refine ⟨_, rfl, rfl, _, rfl, ite2 (fun e => absurd (of_decide_eq_true e) (by intro z; cases z)) (fun _ => ?_)⟩
    refine ⟨_, rfl, .ref c, rfl, c, _, rfl, .inl (s1.seq hC), Dw.sz_ rfl, fun u hu => ?_⟩
    have s2 : Same H1 (upd H1 u (.tup [.int ((xs.map V.int).length : Int)])) := Dw.same_upd hu
    refine ⟨t, u, _, _, rfl, rfl, Dw.st_of (s2 _ _ e1), Dw.st_of upd_same, by simp, Dw.sz_ rfl, fun e => (by cases e), fun _ p hp => ?_⟩
    refine q _ p ((s1.trans s2).trans (Dw.same_upd hp)) ?_
    rw [upd_same, List.length_map]
    rfl

def spLaw (K : PySem.W.Frag) : Sp := fun vs H Q _ => ∃ (a : Addr) (ns : List Int), vs = [.ref a] ∧ SqL K H a (ns.map V.int) ∧ ns.length ≤ 63 ∧ ∀ H', Q (.bl true) H'
/-- the numbers of a drawn list -/
def In (xs : List Int) : Prop := ∀ x ∈ xs, 0 ≤ x ∧ x < 9973
/-- what the while keeps: parts told so far, the rest of the row -/
def Wh (K : PySem.W.Frag) (H0 : Hp) (ns : List Int) (sa r D hd pl : Addr) (xs : List Int) (H : Hp) (le : Addr) (left : List Int) : Prop :=
  Dw.Dr K H0 ns sa r H ∧ H D = some (.lst (xs.map V.int)) ∧ H hd = some (.lst (xs.map V.int)) ∧ H le = some (.lst (left.map V.int)) ∧ le ≠ pl ∧
    ∃ (rs : List Addr) (ts : List (Int × Int × Int)) (dn : List Int), H pl = some (.lst (rs.map V.ref)) ∧ rs.length = ts.length ∧ rs.length ≤ dn.length ∧ xs = dn ++ left ∧ ts.foldl Sm.jst (0, 0) = Sm.sumsI dn ∧
      ∀ (i : Nat) (b : Addr) (t : Int × Int × Int), rs[i]? = some b → ts[i]? = some t → H b = some (.tup [.int t.1, .int t.2.1, .int t.2.2])
theorem G_law {a : Ad} (T : Top K mg a) : FnOk P w K mg base CX0 6 a.f_law a.d_law P_law (spLaw K) := by
  refine T.F_law.ok sc_law (fun vs H Q E h => ?_) (fun cdv A outer s H vs Q E hr h => ?_)
  · obtain ⟨_, _, rfl, _⟩ := h
    rfl
  · obtain ⟨sa, ns, rfl, hS, hlen, q⟩ := h
    refine ⟨_, (pss_cons (ps_set (i := 1) sc_law.nd rfl (Or.inr rfl) (pe_lst (pa_cons (pv 0) (pa_cons pe_int (pa_cons pe_int (pa_cons pe_int pa_nil))))))
      (pss_cons (ps_for PassesOwn.never rfl (pi_range1 (by rfl) T.b_range (pa_cons pe_int pa_nil)) (pg_name (i := 2) sc_law.nd rfl (Or.inl rfl))
        (pss_cons (ps_setLc (i := 3) (own := [(("_law_k" : Str), 10)]) (g := (gName 10)) (tt := tYes) (by rfl) sc_law.nd rfl rfl (sw_true rfl rfl rfl (by decide +kernel)) (pi_range1 (by rfl) T.b_range (pa_cons (pe_call (G_l_taken T) (hr.mono (by omega)) (by rfl) T.g_l_taken T.F_l_taken.kp T.B_l_taken .nil pass0 (pa_cons (pv 1) (pa_cons (pe_ix ix_list (pe_lst (pa_cons pe_int (pa_cons pe_int pa_nil))) (pe_call (G_l_taken T) (hr.mono (by omega)) (by rfl) T.g_l_taken T.F_l_taken.kp T.B_l_taken .nil pass0 (pa_cons (pv 1) (pa_cons pe_int pa_nil))) (fun _ _ => rfl)) pa_nil))) pa_nil)) (blkOk_by (own := [(("_law_k" : Str), 10)]) (N := N_law) (sc := defScope s_law) (by decide +kernel)) (fun _ _ _ _ _ => (pg_name (i := 10) sc_law.nd rfl (Or.inl rfl))) (fun _ _ _ _ _ => pts_nil) (fun _ _ _ _ _ => (pe_call (G_l_worth T) (hr.mono (by omega)) (by rfl) T.g_l_worth T.F_l_worth.kp T.B_l_worth .nil pass0 (pa_cons (pv 1) pa_nil))))
      (pss_cons (ps_set (i := 4) sc_law.nd rfl (Or.inl rfl) (pe_callTy call_list_of (by rfl) T.b_list (by decide +kernel) (pa_cons (pv 3) pa_nil)))
      (pss_cons (ps_if (PW.pt (pw_or (pt_not (pt_val (pe_call (G_l_alike T) (hr.mono (by omega)) (by rfl) T.g_l_alike T.F_l_alike.kp T.B_l_alike .nil pass0 (pa_cons (pe_call (G_sumsI T) (hr.mono (by omega)) (by rfl) T.g_sums T.F_sums.kp T.B_sums .nil pass0 (pa_cons (pv 4) pa_nil)) (pa_cons (pe_call (G_l_sums T) (hr.mono (by omega)) (by rfl) T.g_l_sums T.F_l_sums.kp T.B_l_sums .nil pass0 (pa_cons (pv 3) pa_nil)) pa_nil))))) (pw_or1 (pt_not (pt_val (pe_call (G_l_alike T) (hr.mono (by omega)) (by rfl) T.g_l_alike T.F_l_alike.kp T.B_l_alike .nil pass0 (pa_cons (pe_call (G_name T) (hr.mono (by omega)) (by rfl) T.g_name T.F_name.kp T.B_name .nil pass0 (pa_cons (pv 4) pa_nil)) (pa_cons (pe_call (G_l_title T) (hr.mono (by omega)) (by rfl) T.g_l_title T.F_l_title.kp T.B_l_title .nil pass0 (pa_cons (pv 3) pa_nil)) pa_nil))))))))
        (pss_one (ps_ret pe_bl))
        pss_nil)
      (pss_cons (ps_set (i := 5) sc_law.nd rfl (Or.inl rfl) (pe_op op_add pe_int (pe_call (G_l_taken T) (hr.mono (by omega)) (by rfl) T.g_l_taken T.F_l_taken.kp T.B_l_taken .nil pass0 (pa_cons (pv 1) (pa_cons pe_int pa_nil)))))
      (pss_cons (ps_if (PW.pt (pw_or (pt_not (pt_val (pe_call (G_l_alike T) (hr.mono (by omega)) (by rfl) T.g_l_alike T.F_l_alike.kp T.B_l_alike .nil pass0 (pa_cons (pe_call (G_seal T) (hr.mono (by omega)) (by rfl) T.g_seal T.F_seal.kp T.B_seal .nil pass0 (pa_cons (pv 5) (pa_cons (pv 4) pa_nil))) (pa_cons (pe_call (G_l_seal T) (hr.mono (by omega)) (by rfl) T.g_l_seal T.F_l_seal.kp T.B_l_seal .nil pass0 (pa_cons (pv 5) (pa_cons (pv 3) pa_nil))) pa_nil))))) (pw_or1 (pt_cmpR (op_neD hr.units) (pv 4) (pv 3) (nomark _)))))
        (pss_one (ps_ret pe_bl))
        pss_nil)
      (pss_cons (ps_set (i := 6) sc_law.nd rfl (Or.inl rfl) (pe_lst pa_nil))
      (pss_cons (ps_set (i := 7) sc_law.nd rfl (Or.inl rfl) (pe_callTy call_list_of (by rfl) T.b_list (by decide +kernel) (pa_cons (pv 3) pa_nil)))
      (pss_cons (ps_while PassesOwn.never (pt_cmpR (op_neD hr.units) (pv 7) (pe_lst pa_nil) (nomark _))
        (pss_cons (ps_set (i := 8) sc_law.nd rfl (Or.inl rfl) (pe_op op_add pe_int (pe_call (G_l_taken T) (hr.mono (by omega)) (by rfl) T.g_l_taken T.F_l_taken.kp T.B_l_taken .nil pass0 (pa_cons (pv 1) (pa_cons (pe_callB (call_min2 rfl) (by rfl) T.b_min (by decide +kernel) (pa_cons (pe_ix ix_list (pe_lst (pa_cons pe_int (pa_cons pe_int pa_nil))) (pe_call (G_l_taken T) (hr.mono (by omega)) (by rfl) T.g_l_taken T.F_l_taken.kp T.B_l_taken .nil pass0 (pa_cons (pv 1) (pa_cons pe_int pa_nil))) (fun _ _ => rfl)) (pa_cons (pe_callB call_len_seq (by rfl) T.b_len PySem.boot_len (pa_cons (pv 7) pa_nil)) pa_nil))) pa_nil)))))
      (pss_cons (ps_expr (pe_bm PySem.F.plainAttrs_list PySem.F.slot_list_append PySem.F.type_list_append mt_append (pv 6) (pa_cons (pe_op (op_catT) (pe_call (G_l_sums T) (hr.mono (by omega)) (by rfl) T.g_l_sums T.F_l_sums.kp T.B_l_sums .nil pass0 (pa_cons (pe_slice sl_list (pv 7) po_none (po_some (pv 8))) pa_nil)) (pe_tup (pa_cons (pv 8) pa_nil))) pa_nil)))
      (pss_one (ps_set (i := 7) sc_law.nd rfl (Or.inl rfl) (pe_slice sl_list (pv 7) (po_some (pv 8)) po_none))))))
      (pss_cons (ps_if (PW.pt (pw_or (pt_not (pt_val (pe_call (G_l_alike T) (hr.mono (by omega)) (by rfl) T.g_l_alike T.F_l_alike.kp T.B_l_alike .nil pass0 (pa_cons (pe_call (G_joined T) (hr.mono (by omega)) (by rfl) T.g_joined T.F_joined.kp T.B_joined .nil pass0 (pa_cons (pv 6) pa_nil)) (pa_cons (pe_call (G_l_sums T) (hr.mono (by omega)) (by rfl) T.g_l_sums T.F_l_sums.kp T.B_l_sums .nil pass0 (pa_cons (pv 3) pa_nil)) pa_nil))))) (pw_or1 (pt_not (pt_val (pe_call (G_l_alike T) (hr.mono (by omega)) (by rfl) T.g_l_alike T.F_l_alike.kp T.B_l_alike .nil pass0 (pa_cons (pe_call (G_name T) (hr.mono (by omega)) (by rfl) T.g_name T.F_name.kp T.B_name .nil pass0 (pa_cons (pe_callTy call_tuple_of (by rfl) T.b_tuple (by decide +kernel) (pa_cons (pv 3) pa_nil)) pa_nil)) (pa_cons (pe_call (G_l_title T) (hr.mono (by omega)) (by rfl) T.g_l_title T.F_l_title.kp T.B_l_title .nil pass0 (pa_cons (pv 3) pa_nil)) pa_nil))))))))
        (pss_one (ps_ret pe_bl))
        pss_nil)
      (pss_cons (ps_set (i := 9) sc_law.nd rfl (Or.inl rfl) (pe_op op_cat (pe_op op_cat (pv 3) (pe_lst (pa_cons pe_non pa_nil))) (pe_slice sl_list (pv 3) po_none (po_some (pe_call (G_l_taken T) (hr.mono (by omega)) (by rfl) T.g_l_taken T.F_l_taken.kp T.B_l_taken .nil pass0 (pa_cons (pv 1) (pa_cons pe_int pa_nil)))))))
      (pss_one (ps_if (PW.pt (pw_or (pt_cmpR op_notN (pe_call (G_sums T) (hr.mono (by omega)) (by rfl) T.g_sums T.F_sums.kp T.B_sums .nil pass0 (pa_cons (pv 9) pa_nil)) pe_non (nomark _)) (pw_or1 (pt_cmpR op_notN (pe_call (G_name T) (hr.mono (by omega)) (by rfl) T.g_name T.F_name.kp T.B_name .nil pass0 (pa_cons (pv 9) pa_nil)) pe_non (nomark _)))))
        (pss_one (ps_ret pe_bl))
        pss_nil)))))))))))))
      (pss_one (ps_ret pe_bl)))), ?_⟩
    refine ⟨.ref sa, rfl, Dw.sz_ rfl, fun r hr0 => ?_⟩
    have D0 : Dw.Dr K H ns sa r (upd H r (.lst [.ref sa, .int 0, .int 0, .int 0])) := ⟨⟨0, 0, 0, upd_same, by decide, by decide, by decide⟩, hS, Dw.same_upd hr0, hr0, hlen⟩
    refine ⟨8, rfl, by decide, by decide, for_range (n := 8) (fun i σ H' => ∃ v2 v3 v4 v5 v6 v7 v8 v9 v10, σ = [some (.ref sa), some (.ref r), v2, v3, v4, v5, v6, v7, v8, v9, v10] ∧ Dw.Dr K H ns sa r H')
      ⟨_, _, _, _, _, _, _, _, _, rfl, D0⟩ ?_ ?_⟩
    · rintro i σ H1 hi ⟨v2, v3, v4, v5, v6, v7, v8, v9, v10, rfl, D1⟩
      -- the drawn list
      refine ⟨.ref r, rfl, Dw.sz_ rfl, fun l hl => ?_⟩
      have nl : l ≠ r := D1.ne hl
      refine ⟨.ref r, rfl, H, ns, sa, r, 2, rfl, D1.new hl, by decide, by decide, fun v H2 D2 k2 w0 w1 => ?_⟩
      have hL : H2 l = some (.lst [.int 6, .int 41]) := k2 _ _ nl upd_same
      obtain ⟨m, hat, m0, m1⟩ : ∃ m : Int, atI [V.int 6, V.int 41] v = some (.int m) ∧ 0 < m ∧ m ≤ 41 := by
        have e : v = 0 ∨ v = 1 := by omega
        rcases e with rfl | rfl
        · exact ⟨6, rfl, by decide, by decide⟩
        · exact ⟨41, rfl, by decide, by decide⟩
      refine ⟨l, _, v, _, rfl, rfl, Dw.sq_of hL, hat, H, ns, sa, r, m, rfl, D2, m0, by omega, fun n H3 D3 _ n0 n1 => ?_⟩
      refine ⟨n, rfl, by omega, by omega, fun D hD => ?_⟩
      have nD : D ≠ r := D3.ne hD
      have fD : H D = none := D3.free hD
      refine lc_range (lo := 0) (n := n.toNat) (fun i H' => Dw.Dr K H ns sa r H' ∧ ∃ xs : List Int, H' D = some (.lst (xs.map V.int)) ∧ xs.length = i ∧ In xs) ⟨D3.new hD, [], upd_same, rfl, fun _ h => by cases h⟩ ?_ ?_
      · rintro j H4 hj ⟨D4, xs, hx, hl, hb⟩
        refine ⟨rfl, ?_⟩
        refine ⟨.ref r, rfl, H, ns, sa, r, rfl, D4, fun v H5 D5 k5 v0 v1 => ?_⟩
        refine ⟨_, k5 _ _ nD hx, Dw.size_lt (by rw [List.length_map]; omega), D5.mut nD fD, xs ++ [v], ?_, by rw [List.length_append, hl]; rfl, fun y hy => ?_⟩
        · rw [upd_same, List.map_append]
          rfl
        · rcases List.mem_append.mp hy with h | h
          · exact hb y h
          · rw [List.mem_singleton.mp h]
            exact ⟨v0, v1⟩
      rintro H4 ⟨D4, xs, hx, hl, hb⟩
      have hlx : xs.length ≤ 40 := by omega
      -- handed
      refine ⟨.ref D, rfl, D, _, rfl, .inl (Dw.sq_of hx), fun hd hhd => ?_⟩
      have fh : H hd = none := D4.free hhd
      have nh : hd ≠ r := D4.ne hhd
      have nDh : D ≠ hd := ne_of_none hx hhd
      have D5 := D4.new (o := .lst (xs.map V.int)) hhd
      have hx5 : (upd H4 hd (.lst (xs.map V.int))) D = some (.lst (xs.map V.int)) := by rw [upd_ne nDh]; exact hx
      have hh5 : (upd H4 hd (.lst (xs.map V.int))) hd = some (.lst (xs.map V.int)) := upd_same
      generalize upd H4 hd (.lst (xs.map V.int)) = H5 at D5 hx5 hh5 ⊢
      -- sums, name
      refine ⟨.ref hd, rfl, hd, xs, rfl, .inl (Dw.sq_of hh5), fun H6 t1 s6 n6 e6 => ?_⟩
      refine ⟨.ref D, rfl, D, xs, rfl, Dw.sq_of (s6 _ _ hx5), by omega, fun H7 t2 s7 n7 e7 => ?_⟩
      have cS := Dw.cel_ints (xs := [(Sm.sumsI xs).1, (Sm.sumsI xs).2])
      have cN := Dw.cel_ints (xs := [(Sm.sumsI xs).1, (Sm.sumsI xs).2, (xs.length : Int)])
      refine ⟨_, _, _, rfl, .tup (s7 _ _ e6) (by show 2 ≤ 100000; decide) (Dw.TdAll.cel cS), .tup e7 (by show 2 ≤ 100000; decide) (Dw.TdAll.cel cS), Dw.dep_t cS, fun H8 s8 => ⟨true, rfl, ?_⟩⟩
      have S8 := (s6.trans s7).trans s8
      refine ⟨.ref hd, rfl, hd, _, rfl, .inl (Dw.sq_of (S8 _ _ hh5)), Dw.cel_ints, fun m => absurd m (by intro z; obtain ⟨_, _, e⟩ := List.mem_map.mp z; cases e), fun xs' ee H9 t3 s9 n9 e9 => ?_⟩
      rw [← Dw.map_int_inj ee] at e9
      refine ⟨.ref D, rfl, D, xs, rfl, Dw.sq_of ((S8.trans s9) _ _ hx5), by omega, fun H10 t4 s10 e10 => ?_⟩
      refine ⟨_, _, _, rfl, .tup (s10 _ _ e9) (by show 3 ≤ 100000; decide) (Dw.TdAll.cel cN), .tup e10 (by show 3 ≤ 100000; decide) (Dw.TdAll.cel cN), Dw.dep_t cN, fun H11 s11 => ⟨true, rfl, ?_⟩⟩
      have S11 := ((S8.trans s9).trans s10).trans s11
      have D11 := D5.mono S11
      have hx11 := S11 _ _ hx5
      have hh11 := S11 _ _ hh5
      -- key, seal
      refine ⟨.ref r, rfl, H, ns, sa, r, 9972, rfl, D11, by decide, by decide, fun kk H12 D12 k12 kk0 kk1 => ⟨1, kk, rfl, rfl, ?_⟩⟩
      have hk : 1 ≤ 1 + kk ∧ 1 + kk < 9973 := by omega
      have hx12 := k12 _ _ nD hx11
      have hh12 := k12 _ _ nh hh11
      refine ⟨_, rfl, .ref hd, rfl, hd, 1 + kk, xs, rfl, Dw.sq_of hh12, hk.1, hk.2, _, rfl, .ref D, rfl, D, 1 + kk, xs, rfl, Dw.sq_of hx12, hb, hk.1, hk.2, ?_⟩
      refine ⟨_, _, _, rfl, .int _, .int _, Dw.dep_i, fun H13 s13 => ⟨true, rfl, ?_⟩⟩
      have hx13 := s13 _ _ hx12
      have hh13 := s13 _ _ hh12
      have D13 := D12.mono s13
      refine ⟨.ref hd, rfl, .ref D, rfl, _, _, Dw.dp_l (Dw.sq_of hh13) Dw.cel_ints, Dw.dp_l (Dw.sq_of hx13) Dw.cel_ints, Dw.shaped_l Dw.cel_ints, Dw.shaped_l Dw.cel_ints, _, rfl, ?_⟩
      rw [Dw.eqv_l Dw.cel_ints Dw.cel_ints, decide_eq_true rfl]
      -- parts, left
      refine ⟨Dw.sz_ rfl, fun pl hpl => ?_⟩
      have npl : pl ≠ r := D13.ne hpl
      have fpl : H pl = none := D13.free hpl
      have nDp : D ≠ pl := ne_of_none hx13 hpl
      have nhp : hd ≠ pl := ne_of_none hh13 hpl
      have s14 : Same H13 (upd H13 pl (.lst [])) := Dw.same_upd hpl
      have hx14 := s14 _ _ hx13
      have hh14 := s14 _ _ hh13
      have D14 := D13.mono s14
      have hp14 : (upd H13 pl (.lst [])) pl = some (.lst []) := upd_same
      generalize upd H13 pl (.lst []) = H14 at hx14 hh14 D14 hp14 ⊢
      refine ⟨.ref D, rfl, D, _, rfl, .inl (Dw.sq_of hx14), fun le hle => ?_⟩
      have s15 : Same H14 (upd H14 le (.lst (xs.map V.int))) := Dw.same_upd hle
      -- the while
      refine ⟨fun n σ H' => ∃ (le : Addr) (left : List Int) (v8 : Option V), left.length = n ∧ σ = [some (.ref sa), some (.ref r), some (.int (0 + (i : Int))), some (.ref D), some (.ref hd), some (.int (1 + kk)), some (.ref pl), some (.ref le), v8, v9, v10] ∧ Wh K H ns sa r D hd pl xs H' le left,
        ⟨xs.length, le, xs, _, rfl, rfl, D14.mono s15, s15 _ _ hx14, s15 _ _ hh14, upd_same, (ne_of_none hp14 hle).symm, [], [], [], s15 _ _ hp14, rfl, Nat.le_refl _, rfl, rfl, fun i b t h => by simp at h⟩, ?_⟩
      rintro n σ H15 ⟨le, left, v8, rfl, rfl, D15, hx15, hh15, hl15, nlp, rs, ts, dn, hp15, lrt, lrd, exs, ets, hts⟩
      refine ⟨.ref le, rfl, Dw.sz_ rfl, fun z hz => ?_⟩
      have s16 : Same H15 (upd H15 z (.lst [])) := Dw.same_upd hz
      refine ⟨_, _, Dw.dp_l (Dw.sq_of (s16 _ _ hl15)) Dw.cel_ints, Dw.dp_l (xs := []) (Dw.sq_of upd_same) (fun v h => by cases h), Dw.shaped_l Dw.cel_ints, rfl, _, rfl, ?_⟩
      have hE := Dw.eqv_l (xs := left.map V.int) (ys := []) Dw.cel_ints (fun v h => by cases h)
      have D16 := D15.mono s16
      have hx16 := s16 _ _ hx15
      have hh16 := s16 _ _ hh15
      have hl16 := s16 _ _ hl15
      have hp16 := s16 _ _ hp15
      have hts16 : ∀ (i : Nat) (b : Addr) (t : Int × Int × Int), rs[i]? = some b → ts[i]? = some t → (upd H15 z (.lst [])) b = some (.tup [.int t.1, .int t.2.1, .int t.2.2]) := fun i b t h1 h2 => s16 _ _ (hts i b t h1 h2)
      generalize upd H15 z (.lst []) = H16 at D16 hx16 hh16 hl16 hp16 hts16 ⊢
      show if (!PyData.eqv (.list ((left.map V.int).map Dw.dat)) (.list (([] : List V).map Dw.dat))) = true then _ else _
      rw [hE]
      refine ite2 (fun hne => ?_) (fun heq => ?_)
      · have hne' : left ≠ [] := fun e => by
          subst e
          simp at hne
        have llen : 0 < left.length := List.length_pos_iff.mpr hne'
        have lxs : left.length ≤ 40 := by
          have := congrArg List.length exs
          rw [List.length_append] at this
          omega
        have ldn : dn.length ≤ 40 := by
          have := congrArg List.length exs
          rw [List.length_append] at this
          omega
        refine ⟨fun σ' H' => ∃ m', m' < left.length ∧ ∃ (le : Addr) (left : List Int) (v8 : Option V), left.length = m' ∧ σ' = [some (.ref sa), some (.ref r), some (.int (0 + (i : Int))), some (.ref D), some (.ref hd), some (.int (1 + kk)), some (.ref pl), some (.ref le), v8, v9, v10] ∧ Wh K H ns sa r D hd pl xs H' le left, fun σ' H' h => h, ?_⟩
        -- many
        refine ⟨.ref r, rfl, Dw.sz_ rfl, fun l2 hl2 => ?_⟩
        have nl2 : l2 ≠ r := D16.ne hl2
        have s17 : Same H16 (upd H16 l2 (.lst [.int 5, .int 41])) := Dw.same_upd hl2
        refine ⟨.ref r, rfl, H, ns, sa, r, 2, rfl, D16.mono s17, by decide, by decide, fun v H17 D17 k17 w0 w1 => ?_⟩
        have hL : H17 l2 = some (.lst [.int 5, .int 41]) := k17 _ _ nl2 upd_same
        obtain ⟨m2, hat2, m20, m21⟩ : ∃ m : Int, atI [V.int 5, V.int 41] v = some (.int m) ∧ 0 < m ∧ m ≤ 41 := by
          have e : v = 0 ∨ v = 1 := by omega
          rcases e with rfl | rfl
          · exact ⟨5, rfl, by decide, by decide⟩
          · exact ⟨41, rfl, by decide, by decide⟩
        have nle : le ≠ r := D16.ne_ints hl16
        have K17 : Dw.Keep r H16 H17 := (Dw.Keep.same s17).trans k17
        refine ⟨l2, _, v, _, rfl, rfl, Dw.sq_of hL, hat2, .ref le, rfl, le, _, rfl, .inl (Dw.sq_of (K17 _ _ nle hl16)), m2, _, rfl, H, ns, sa, r, _, rfl, D17, ?_, ?_, fun k H18 D18 k18 z0 z1 => ⟨1, k, rfl, rfl, ?_⟩⟩
        · rw [List.length_map]
          split <;> omega
        · rw [List.length_map]
          split <;> omega
        have z1' : k < (left.length : Int) := by
          rw [List.length_map] at z1
          split at z1 <;> omega
        obtain ⟨k, rfl⟩ : ∃ j : Nat, k = (j : Int) := ⟨k.toNat, by omega⟩
        have K18 := K17.trans k18
        have hx18 := K18 _ _ nD hx16
        have hh18 := K18 _ _ nh hh16
        have hl18 := K18 _ _ nle hl16
        have hp18 := K18 _ _ npl hp16
        have hts18 : ∀ (i : Nat) (b : Addr) (t : Int × Int × Int), rs[i]? = some b → ts[i]? = some t → H18 b = some (.tup [.int t.1, .int t.2.1, .int t.2.2]) := fun i b t h1 h2 => K18 _ _ (D16.ne_tup (hts16 i b t h1 h2)) (hts16 i b t h1 h2)
        have ek : (1 : Int) + (k : Int) = ((k + 1 : Nat) : Int) := by omega
        -- parts.append(..)
        refine ⟨.ref pl, rfl, .inl ⟨rfl, _, Dw.sq_of hp18⟩, .ref le, rfl, .int (1 + k), rfl, 1 + k, rfl, le, _, rfl, Dw.sq_of hl18, fun p hp => ?_⟩
        have s19 : Same H18 (upd H18 p (.lst (cutV (left.map V.int) none (some (1 + (k : Int)))))) := Dw.same_upd hp
        have hp19 : (upd H18 p (.lst (cutV (left.map V.int) none (some (1 + (k : Int)))))) p = some (.lst ((left.take (k + 1)).map V.int)) := by
          rw [upd_same, Dw.cut_take' ek, List.map_take]
        refine ⟨p, left.take (k + 1), rfl, Dw.sq_of hp19, by rw [List.length_take]; omega, fun H20 t1 s20 n20 e20 => ?_⟩
        refine ⟨.int (1 + k), rfl, Dw.sz_ rfl, fun t2 ht2 => ?_⟩
        have s21 : Same H20 (upd H20 t2 (.tup [.int (1 + (k : Int))])) := Dw.same_upd ht2
        refine ⟨t1, t2, _, _, rfl, rfl, Dw.st_of (s21 _ _ e20), Dw.st_of upd_same, by simp, Dw.sz_ rfl, fun e => (by cases e), fun _ t3 ht3 => ?_⟩
        have s22 := ((s19.trans s20).trans s21).trans (Dw.same_upd (o := .tup ([V.int (Sm.sumsI (left.take (k + 1))).1, V.int (Sm.sumsI (left.take (k + 1))).2] ++ [V.int (1 + (k : Int))])) ht3)
        have e22 : (upd (upd H20 t2 (.tup [.int (1 + (k : Int))])) t3 (.tup ([V.int (Sm.sumsI (left.take (k + 1))).1, V.int (Sm.sumsI (left.take (k + 1))).2] ++ [V.int (1 + (k : Int))]))) t3 = some (.tup [.int (Sm.sumsI (left.take (k + 1))).1, .int (Sm.sumsI (left.take (k + 1))).2, .int (1 + (k : Int))]) := upd_same
        have n3p : t3 ≠ pl := ne_of e22 (s22 _ _ hp18) (by intro z; cases z)
        refine ⟨pl, _, _, rfl, rfl, s22 _ _ hp18, Dw.size_lt (by rw [List.length_map]; omega), ?_⟩
        have D22 := (D18.mono s22).mut (o := .lst (rs.map V.ref ++ [.ref t3])) npl fpl
        generalize (upd (upd H20 t2 (.tup [.int (1 + (k : Int))])) t3 (.tup ([V.int (Sm.sumsI (left.take (k + 1))).1, V.int (Sm.sumsI (left.take (k + 1))).2] ++ [V.int (1 + (k : Int))]))) = H22 at s22 e22 D22 ⊢
        have hx23 : (upd H22 pl (.lst (rs.map V.ref ++ [.ref t3]))) D = some (.lst (xs.map V.int)) := by rw [upd_ne nDp]; exact s22 _ _ hx18
        have hh23 : (upd H22 pl (.lst (rs.map V.ref ++ [.ref t3]))) hd = some (.lst (xs.map V.int)) := by rw [upd_ne nhp]; exact s22 _ _ hh18
        have hl23 : (upd H22 pl (.lst (rs.map V.ref ++ [.ref t3]))) le = some (.lst (left.map V.int)) := by rw [upd_ne nlp]; exact s22 _ _ hl18
        have hp23 : (upd H22 pl (.lst (rs.map V.ref ++ [.ref t3]))) pl = some (.lst ((rs ++ [t3]).map V.ref)) := by
          rw [upd_same, List.map_append]
          rfl
        have ht23 : (upd H22 pl (.lst (rs.map V.ref ++ [.ref t3]))) t3 = some (.tup [.int (Sm.sumsI (left.take (k + 1))).1, .int (Sm.sumsI (left.take (k + 1))).2, .int (1 + (k : Int))]) := by rw [upd_ne n3p]; exact e22
        have hts23 : ∀ (i : Nat) (b : Addr) (t : Int × Int × Int), rs[i]? = some b → ts[i]? = some t → (upd H22 pl (.lst (rs.map V.ref ++ [.ref t3]))) b = some (.tup [.int t.1, .int t.2.1, .int t.2.2]) := fun i b t h1 h2 => by
          rw [upd_ne (ne_of (hts18 i b t h1 h2) hp18 (by intro z; cases z))]
          exact s22 _ _ (hts18 i b t h1 h2)
        generalize upd H22 pl (.lst (rs.map V.ref ++ [.ref t3])) = H23 at D22 hx23 hh23 hl23 hp23 ht23 hts23 ⊢
        -- left = left[many:]
        refine ⟨.ref le, rfl, .int (1 + k), rfl, 1 + k, rfl, le, _, rfl, Dw.sq_of hl23, fun lf hlf => ?_⟩
        have s24 : Same H23 (upd H23 lf (.lst (cutV (left.map V.int) (some (1 + (k : Int))) none))) := Dw.same_upd hlf
        refine ⟨(left.drop (k + 1)).length, by rw [List.length_drop]; omega, lf, left.drop (k + 1), some (.int (1 + k)), rfl, rfl, D22.mono s24, s24 _ _ hx23, s24 _ _ hh23, ?_, (ne_of_none hp23 hlf).symm, rs ++ [t3], ts ++ [((Sm.sumsI (left.take (k + 1))).1, (Sm.sumsI (left.take (k + 1))).2, 1 + (k : Int))], dn ++ left.take (k + 1), s24 _ _ hp23, ?_, ?_, ?_, ?_, ?_⟩
        · rw [upd_same, Dw.cut_drop' ek, List.map_drop]
        · rw [List.length_append, List.length_append, lrt]
          rfl
        · rw [List.length_append, List.length_append, List.length_take]
          simp
          omega
        · rw [List.append_assoc, List.take_append_drop]
          exact exs
        · rw [List.foldl_append, ets]
          show Sm.jst (Sm.sumsI dn) _ = _
          have el : (1 : Int) + (k : Int) = ((left.take (k + 1)).length : Int) := by
            rw [List.length_take]
            omega
          rw [el]
          exact Sm.jst_sums _ _
        · intro i b t h1 h2
          by_cases hi : i < rs.length
          · rw [List.getElem?_append_left hi] at h1
            rw [List.getElem?_append_left (by omega)] at h2
            exact s24 _ _ (hts23 i b t h1 h2)
          · rw [List.getElem?_append_right (by omega)] at h1
            rw [List.getElem?_append_right (by omega)] at h2
            have e0 : i - rs.length = 0 := by
              have := (List.getElem?_eq_some_iff.mp h1).1
              simp at this
              omega
            rw [e0] at h1
            rw [show i - ts.length = 0 by omega] at h2
            have e1 := Option.some.inj h1
            have e2 := Option.some.inj h2
            subst e1 e2
            exact s24 _ _ ht23
      · have hl0 : left = [] := by
          cases left with
          | nil => rfl
          | cons x t => exact absurd (by simp) heq
        subst hl0
        rw [List.append_nil] at exs
        subst exs
        -- joined, name of the tuple
        refine ⟨.ref pl, rfl, pl, rs, ts, rfl, Dw.sq_of hp16, lrt, fun i b t h1 h2 => Dw.st_of (hts16 i b t h1 h2), fun H17 t1 s17 n17 e17 => ?_⟩
        rw [ets] at e17
        refine ⟨.ref D, rfl, D, xs, rfl, Dw.sq_of (s17 _ _ hx16), by omega, fun H18 t2 s18 n18 e18 => ?_⟩
        refine ⟨_, _, _, rfl, .tup (s18 _ _ e17) (by show 2 ≤ 100000; decide) (Dw.TdAll.cel cS), .tup e18 (by show 2 ≤ 100000; decide) (Dw.TdAll.cel cS), Dw.dep_t cS, fun H19 s19 => ⟨true, rfl, ?_⟩⟩
        have S19 := (s17.trans s18).trans s19
        refine ⟨.ref D, rfl, D, _, rfl, .inl ⟨Dw.sq_of (S19 _ _ hx16), fun tp htp => ?_⟩⟩
        have s20 : Same H19 (upd H19 tp (.tup (xs.map V.int))) := Dw.same_upd htp
        refine ⟨tp, _, rfl, .inr (Dw.st_of upd_same), Dw.cel_ints, fun m => absurd m (by intro z; obtain ⟨_, _, e⟩ := List.mem_map.mp z; cases e), fun xs' ee H21 t3 s21 n21 e21 => ?_⟩
        rw [← Dw.map_int_inj ee] at e21
        have S21 := (S19.trans s20).trans s21
        refine ⟨.ref D, rfl, D, xs, rfl, Dw.sq_of (S21 _ _ hx16), by omega, fun H22 t4 s22 e22 => ?_⟩
        refine ⟨_, _, _, rfl, .tup (s22 _ _ e21) (by show 3 ≤ 100000; decide) (Dw.TdAll.cel cN), .tup e22 (by show 3 ≤ 100000; decide) (Dw.TdAll.cel cN), Dw.dep_t cN, fun H23 s23 => ⟨true, rfl, ?_⟩⟩
        have S23 := (S21.trans s22).trans s23
        have hx23 := S23 _ _ hx16
        have D23 := D16.mono S23
        -- a broken one
        refine ⟨.ref D, rfl, Dw.sz_ rfl, fun u1 hu1 => ?_⟩
        have s24 : Same H23 (upd H23 u1 (.lst [.non])) := Dw.same_upd hu1
        refine ⟨D, u1, _, _, rfl, rfl, s24 _ _ hx23, upd_same, Dw.size_ok (by rw [List.length_map]; simp; omega), fun u2 hu2 => ?_⟩
        have s25 := s24.trans (Dw.same_upd (o := .lst (xs.map V.int ++ [.non])) hu2)
        have hu25 : (upd (upd H23 u1 (.lst [.non])) u2 (.lst (xs.map V.int ++ [.non]))) u2 = some (.lst (xs.map V.int ++ [.non])) := upd_same
        have nu2 : u2 ≠ r := (D23.mono s24).ne hu2
        have D25 := D23.mono s25
        have hx25 := s25 _ _ hx23
        generalize upd (upd H23 u1 (.lst [.non])) u2 (.lst (xs.map V.int ++ [.non])) = H25 at hu25 D25 hx25 ⊢
        refine ⟨.ref D, rfl, .ref r, rfl, H, ns, sa, r, 3, rfl, D25, by decide, by decide, fun v H26 D26 k26 b0 b1 => ⟨v, rfl, D, _, rfl, Dw.sq_of (k26 _ _ nD hx25), fun u3 hu3 => ?_⟩⟩
        have s27 : Same H26 (upd H26 u3 (.lst (cutV (xs.map V.int) none (some v)))) := Dw.same_upd hu3
        have lc := cutV_length (xs.map V.int) none (some v)
        rw [List.length_map] at lc
        refine ⟨u2, u3, _, _, rfl, rfl, s27 _ _ (k26 _ _ nu2 hu25), upd_same, Dw.size_ok (by rw [List.length_append, List.length_map]; simp; omega), fun u4 hu4 => ?_⟩
        have s28 := s27.trans (Dw.same_upd (o := .lst (xs.map V.int ++ [.non] ++ cutV (xs.map V.int) none (some v))) hu4)
        have hu28 : (upd (upd H26 u3 (.lst (cutV (xs.map V.int) none (some v)))) u4 (.lst (xs.map V.int ++ [.non] ++ cutV (xs.map V.int) none (some v)))) u4 = some (.lst (xs.map V.int ++ [.non] ++ cutV (xs.map V.int) none (some v))) := upd_same
        have D28 := D26.mono s28
        generalize upd (upd H26 u3 (.lst (cutV (xs.map V.int) none (some v)))) u4 (.lst (xs.map V.int ++ [.non] ++ cutV (xs.map V.int) none (some v))) = H28 at hu28 D28 ⊢
        have hcel : ∀ y ∈ xs.map V.int ++ [.non] ++ cutV (xs.map V.int) none (some v), Dw.cel y = true := fun y hy => by
          rcases List.mem_append.mp hy with h | h
          · rcases List.mem_append.mp h with h | h
            · exact Dw.cel_ints y h
            · rw [List.mem_singleton.mp h]
              rfl
          · exact Dw.cel_ints y (Dw.cut_mem h)
        have hnon : V.non ∈ xs.map V.int ++ [.non] ++ cutV (xs.map V.int) none (some v) := List.mem_append_left _ (List.mem_append_right _ List.mem_cons_self)
        refine ⟨.ref u4, rfl, u4, _, rfl, .inl (Dw.sq_of hu28), hcel, fun _ => ?_, fun ys e => absurd hnon (by rw [e]; intro z; obtain ⟨_, _, e⟩ := List.mem_map.mp z; cases e)⟩
        refine ⟨rfl, _, rfl, iteNS (c := V.non = V.non) rfl ?_⟩
        refine ⟨.ref u4, rfl, u4, _, rfl, .inl (Dw.sq_of hu28), hcel, fun _ => ?_, fun ys e => absurd hnon (by rw [e]; intro z; obtain ⟨_, _, e⟩ := List.mem_map.mp z; cases e)⟩
        refine ⟨rfl, _, rfl, iteNS (c := V.non = V.non) rfl ?_⟩
        exact ⟨_, _, _, _, _, _, _, _, _, rfl, D28⟩
    · rintro σ H' ⟨v2, v3, v4, v5, v6, v7, v8, v9, v10, rfl, D1⟩
      exact q _
end
theorem all_mk {l : PySem.W.OpenLaw} {w : World} {K : PySem.W.Frag} {h : Heap} {mg : Str → Option Value} {fa : Addr} (X : K.In h) (G : h.Ns mainGlobals mg) (hfa : mg "law" = some (.ref fa))
    {f1 : Addr} {od1 an1 : Option Addr} {sl1 : Array (Option Value)} {oc1 kV1 dc1 pm1 cd1 ct1 : Value}
    (a1 : PySem.W.nsIn K mainGlobals "sums" = some (some (.ref f1))) (l1 : K.lookup f1 = some ⟨oc1, od1, .func (PySem.W.fnOf "sums" "sums" (defArgs s_sums) (defBody s_sums) (defScope s_sums) .none kV1 dc1 pm1 an1 cd1 ct1), sl1⟩) (c1 : PySem.W.codeIn K cd1 "sums" = true) (k1 : PySem.W.keepIn K (.ref f1) = true)
    {f2 : Addr} {od2 an2 : Option Addr} {sl2 : Array (Option Value)} {oc2 kV2 dc2 pm2 cd2 ct2 : Value}
    (a2 : PySem.W.nsIn K mainGlobals "joined" = some (some (.ref f2))) (l2 : K.lookup f2 = some ⟨oc2, od2, .func (PySem.W.fnOf "joined" "joined" (defArgs s_joined) (defBody s_joined) (defScope s_joined) .none kV2 dc2 pm2 an2 cd2 ct2), sl2⟩) (c2 : PySem.W.codeIn K cd2 "joined" = true) (k2 : PySem.W.keepIn K (.ref f2) = true)
    {f3 : Addr} {od3 an3 : Option Addr} {sl3 : Array (Option Value)} {oc3 kV3 dc3 pm3 cd3 ct3 : Value}
    (a3 : PySem.W.nsIn K mainGlobals "name" = some (some (.ref f3))) (l3 : K.lookup f3 = some ⟨oc3, od3, .func (PySem.W.fnOf "name" "name" (defArgs s_name) (defBody s_name) (defScope s_name) .none kV3 dc3 pm3 an3 cd3 ct3), sl3⟩) (c3 : PySem.W.codeIn K cd3 "name" = true) (k3 : PySem.W.keepIn K (.ref f3) = true)
    {f4 : Addr} {od4 an4 : Option Addr} {sl4 : Array (Option Value)} {oc4 kV4 dc4 pm4 cd4 ct4 : Value}
    (a4 : PySem.W.nsIn K mainGlobals "seal" = some (some (.ref f4))) (l4 : K.lookup f4 = some ⟨oc4, od4, .func (PySem.W.fnOf "seal" "seal" (defArgs s_seal) (defBody s_seal) (defScope s_seal) .none kV4 dc4 pm4 an4 cd4 ct4), sl4⟩) (c4 : PySem.W.codeIn K cd4 "seal" = true) (k4 : PySem.W.keepIn K (.ref f4) = true)
    {f5 : Addr} {od5 an5 : Option Addr} {sl5 : Array (Option Value)} {oc5 kV5 dc5 pm5 cd5 ct5 : Value}
    (a5 : PySem.W.nsIn K mainGlobals "_law_taken" = some (some (.ref f5))) (l5 : K.lookup f5 = some ⟨oc5, od5, .func (PySem.W.fnOf "_law_taken" "_law_taken" (defArgs s_l_taken) (defBody s_l_taken) (defScope s_l_taken) .none kV5 dc5 pm5 an5 cd5 ct5), sl5⟩) (c5 : PySem.W.codeIn K cd5 "_law_taken" = true) (k5 : PySem.W.keepIn K (.ref f5) = true)
    {f6 : Addr} {od6 an6 : Option Addr} {sl6 : Array (Option Value)} {oc6 kV6 dc6 pm6 cd6 ct6 : Value}
    (a6 : PySem.W.nsIn K mainGlobals "_law_alike" = some (some (.ref f6))) (l6 : K.lookup f6 = some ⟨oc6, od6, .func (PySem.W.fnOf "_law_alike" "_law_alike" (defArgs s_l_alike) (defBody s_l_alike) (defScope s_l_alike) .none kV6 dc6 pm6 an6 cd6 ct6), sl6⟩) (c6 : PySem.W.codeIn K cd6 "_law_alike" = true) (k6 : PySem.W.keepIn K (.ref f6) = true)
    {f7 : Addr} {od7 an7 : Option Addr} {sl7 : Array (Option Value)} {oc7 kV7 dc7 pm7 cd7 ct7 : Value}
    (a7 : PySem.W.nsIn K mainGlobals "_law_worth" = some (some (.ref f7))) (l7 : K.lookup f7 = some ⟨oc7, od7, .func (PySem.W.fnOf "_law_worth" "_law_worth" (defArgs s_l_worth) (defBody s_l_worth) (defScope s_l_worth) .none kV7 dc7 pm7 an7 cd7 ct7), sl7⟩) (c7 : PySem.W.codeIn K cd7 "_law_worth" = true) (k7 : PySem.W.keepIn K (.ref f7) = true)
    {f8 : Addr} {od8 an8 : Option Addr} {sl8 : Array (Option Value)} {oc8 kV8 dc8 pm8 cd8 ct8 : Value}
    (a8 : PySem.W.nsIn K mainGlobals "_law_sums" = some (some (.ref f8))) (l8 : K.lookup f8 = some ⟨oc8, od8, .func (PySem.W.fnOf "_law_sums" "_law_sums" (defArgs s_l_sums) (defBody s_l_sums) (defScope s_l_sums) .none kV8 dc8 pm8 an8 cd8 ct8), sl8⟩) (c8 : PySem.W.codeIn K cd8 "_law_sums" = true) (k8 : PySem.W.keepIn K (.ref f8) = true)
    {f9 : Addr} {od9 an9 : Option Addr} {sl9 : Array (Option Value)} {oc9 kV9 dc9 pm9 cd9 ct9 : Value}
    (a9 : PySem.W.nsIn K mainGlobals "_law_seal" = some (some (.ref f9))) (l9 : K.lookup f9 = some ⟨oc9, od9, .func (PySem.W.fnOf "_law_seal" "_law_seal" (defArgs s_l_seal) (defBody s_l_seal) (defScope s_l_seal) .none kV9 dc9 pm9 an9 cd9 ct9), sl9⟩) (c9 : PySem.W.codeIn K cd9 "_law_seal" = true) (k9 : PySem.W.keepIn K (.ref f9) = true)
    {f10 : Addr} {od10 an10 : Option Addr} {sl10 : Array (Option Value)} {oc10 kV10 dc10 pm10 cd10 ct10 : Value}
    (a10 : PySem.W.nsIn K mainGlobals "_law_title" = some (some (.ref f10))) (l10 : K.lookup f10 = some ⟨oc10, od10, .func (PySem.W.fnOf "_law_title" "_law_title" (defArgs s_l_title) (defBody s_l_title) (defScope s_l_title) .none kV10 dc10 pm10 an10 cd10 ct10), sl10⟩) (c10 : PySem.W.codeIn K cd10 "_law_title" = true) (k10 : PySem.W.keepIn K (.ref f10) = true)
    {f11 : Addr} {od11 an11 : Option Addr} {sl11 : Array (Option Value)} {oc11 kV11 dc11 pm11 cd11 ct11 : Value}
    (a11 : PySem.W.nsIn K mainGlobals "law" = some (some (.ref f11))) (l11 : K.lookup f11 = some ⟨oc11, od11, .func (PySem.W.fnOf "law" "law" (defArgs s_law) (defBody s_law) (defScope s_law) .none kV11 dc11 pm11 an11 cd11 ct11), sl11⟩) (c11 : PySem.W.codeIn K cd11 "law" = true) (k11 : PySem.W.keepIn K (.ref f11) = true)
    (z_bool : PySem.W.nsIn K mainGlobals "bool" = some none)
    (z_int : PySem.W.nsIn K mainGlobals "int" = some none)
    (z_isinstance : PySem.W.nsIn K mainGlobals "isinstance" = some none)
    (z_len : PySem.W.nsIn K mainGlobals "len" = some none)
    (z_list : PySem.W.nsIn K mainGlobals "list" = some none)
    (z_min : PySem.W.nsIn K mainGlobals "min" = some none)
    (z_range : PySem.W.nsIn K mainGlobals "range" = some none)
    (z_reversed : PySem.W.nsIn K mainGlobals "reversed" = some none)
    (z_str : PySem.W.nsIn K mainGlobals "str" = some none)
    (z_sum : PySem.W.nsIn K mainGlobals "sum" = some none)
    (z_tuple : PySem.W.nsIn K mainGlobals "tuple" = some none)
    {t_RESTS_BY : Tok} (y_RESTS_BY : PySem.W.nsIn K mainGlobals "RESTS_BY" = some (some (.int 9973 t_RESTS_BY)))
    : ∃ fd : FuncData, (∀ (s : Shared) (v : Value), BindsTo s fd ⟨[v], []⟩ [("_law_script", v)]) ∧ ∀ base : Heap, K.In base → base.Ns mainGlobals mg → FnOk l.prog w K mg base CX0 6 fa fd ["_law_script"] (spLaw K) := by
  have e := hfa.symm.trans (PySem.W.mg_of X G a11)
  cases e
  have F1 := fun_mk (st := s_sums) l1 c1 k1
  have b1 := F1.binds (ps := P_sums) fun _ _ _ _ _ _ us hl => match us, hl with | [_], _ => rfl
  have F2 := fun_mk (st := s_joined) l2 c2 k2
  have b2 := F2.binds (ps := P_joined) fun _ _ _ _ _ _ us hl => match us, hl with | [_], _ => rfl
  have F3 := fun_mk (st := s_name) l3 c3 k3
  have b3 := F3.binds (ps := P_name) fun _ _ _ _ _ _ us hl => match us, hl with | [_], _ => rfl
  have F4 := fun_mk (st := s_seal) l4 c4 k4
  have b4 := F4.binds (ps := P_seal) fun _ _ _ _ _ _ us hl => match us, hl with | [_, _], _ => rfl
  have F5 := fun_mk (st := s_l_taken) l5 c5 k5
  have b5 := F5.binds (ps := P_l_taken) fun _ _ _ _ _ _ us hl => match us, hl with | [_, _], _ => rfl
  have F6 := fun_mk (st := s_l_alike) l6 c6 k6
  have b6 := F6.binds (ps := P_l_alike) fun _ _ _ _ _ _ us hl => match us, hl with | [_, _], _ => rfl
  have F7 := fun_mk (st := s_l_worth) l7 c7 k7
  have b7 := F7.binds (ps := P_l_worth) fun _ _ _ _ _ _ us hl => match us, hl with | [_], _ => rfl
  have F8 := fun_mk (st := s_l_sums) l8 c8 k8
  have b8 := F8.binds (ps := P_l_sums) fun _ _ _ _ _ _ us hl => match us, hl with | [_], _ => rfl
  have F9 := fun_mk (st := s_l_seal) l9 c9 k9
  have b9 := F9.binds (ps := P_l_seal) fun _ _ _ _ _ _ us hl => match us, hl with | [_, _], _ => rfl
  have F10 := fun_mk (st := s_l_title) l10 c10 k10
  have b10 := F10.binds (ps := P_l_title) fun _ _ _ _ _ _ us hl => match us, hl with | [_], _ => rfl
  have F11 := fun_mk (st := s_law) l11 c11 k11
  have b11 := F11.binds (ps := P_law) fun _ _ _ _ _ _ us hl => match us, hl with | [_], _ => rfl
  have T : Top K mg ⟨f1, _, f2, _, f3, _, f4, _, f5, _, f6, _, f7, _, f8, _, f9, _, f10, _, _, _, t_RESTS_BY⟩ := ⟨F1, b1, PySem.W.mg_of X G a1, F2, b2, PySem.W.mg_of X G a2, F3, b3, PySem.W.mg_of X G a3, F4, b4, PySem.W.mg_of X G a4, F5, b5, PySem.W.mg_of X G a5, F6, b6, PySem.W.mg_of X G a6, F7, b7, PySem.W.mg_of X G a7, F8, b8, PySem.W.mg_of X G a8, F9, b9, PySem.W.mg_of X G a9, F10, b10, PySem.W.mg_of X G a10, F11, b11, PySem.W.mg_of X G a11, PySem.W.mg_none_of X G z_bool, PySem.W.mg_none_of X G z_int, PySem.W.mg_none_of X G z_isinstance, PySem.W.mg_none_of X G z_len, PySem.W.mg_none_of X G z_list, PySem.W.mg_none_of X G z_min, PySem.W.mg_none_of X G z_range, PySem.W.mg_none_of X G z_reversed, PySem.W.mg_none_of X G z_str, PySem.W.mg_none_of X G z_sum, PySem.W.mg_none_of X G z_tuple, PySem.W.mg_of X G y_RESTS_BY⟩
  exact ⟨PySem.W.fnOf "law" "law" (defArgs s_law) (defBody s_law) (defScope s_law) .none kV11 dc11 pm11 an11 cd11 ct11, fun s v => .of_eq rfl, fun base _ _ => G_law T⟩
end K03
open PySem PySem.W PyProof.Rows
set_option maxRecDepth 100000 in
set_option maxHeartbeats 0 in
theorem PySem.Challenge.cw_twoimages_k03_sums_names_seals_holds : PySem.Challenge.rw_twoimages_k03_sums_names_seals.Holds := by
  w_on; o_law; k_head; (case hw => w_witness2)
  k_fill
  refine L2.walk_of (l := PySem.Challenge.rw_twoimages_k03_sums_names_seals) (n := 63) (k := 6) (x := "_law_script") (CX := fun _ => L2.CX0) (sp := fun w => K03.spLaw _) rfl (by decide) rfl ⟨rfl, by decide, by decide⟩ (fun w h Y => PySem.W.kIn_of Y) ?F (fun _ _ a ns hl _ hS => ⟨a, ns, rfl, hS, hl, fun _ => rfl⟩) (fun _ _ _ _ _ h => h)
  case F =>
    intro w mg fa h KX G hmg
    refine' K03.all_mk KX G hmg ?a1 ?l1 ?c1 ?k1 ?a2 ?l2 ?c2 ?k2 ?a3 ?l3 ?c3 ?k3 ?a4 ?l4 ?c4 ?k4 ?a5 ?l5 ?c5 ?k5 ?a6 ?l6 ?c6 ?k6 ?a7 ?l7 ?c7 ?k7 ?a8 ?l8 ?c8 ?k8 ?a9 ?l9 ?c9 ?k9 ?a10 ?l10 ?c10 ?k10 ?a11 ?l11 ?c11 ?k11 ?z_bool ?z_int ?z_isinstance ?z_len ?z_list ?z_min ?z_range ?z_reversed ?z_str ?z_sum ?z_tuple ?y_RESTS_BY
    (case a1 => k_is); (case l1 => k_is); (case c1 => k_is); (case k1 => k_is); (case a2 => k_is); (case l2 => k_is); (case c2 => k_is); (case k2 => k_is); (case a3 => k_is); (case l3 => k_is); (case c3 => k_is); (case k3 => k_is); (case a4 => k_is); (case l4 => k_is); (case c4 => k_is); (case k4 => k_is); (case a5 => k_is); (case l5 => k_is); (case c5 => k_is); (case k5 => k_is); (case a6 => k_is); (case l6 => k_is); (case c6 => k_is); (case k6 => k_is); (case a7 => k_is); (case l7 => k_is); (case c7 => k_is); (case k7 => k_is); (case a8 => k_is); (case l8 => k_is); (case c8 => k_is); (case k8 => k_is); (case a9 => k_is); (case l9 => k_is); (case c9 => k_is); (case k9 => k_is); (case a10 => k_is); (case l10 => k_is); (case c10 => k_is); (case k10 => k_is); (case a11 => k_is); (case l11 => k_is); (case c11 => k_is); (case k11 => k_is); (case z_bool => k_is); (case z_int => k_is); (case z_isinstance => k_is); (case z_len => k_is); (case z_list => k_is); (case z_min => k_is); (case z_range => k_is); (case z_reversed => k_is); (case z_str => k_is); (case z_sum => k_is); (case z_tuple => k_is); (case y_RESTS_BY => k_is)

