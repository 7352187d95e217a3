import PyProof.Rows.All
import Wide.All
import OpenK.AllK
import Wide.FinOn
import HandS.ForMost
import HandS.Codes
import PySem.Challenge.RW_twoimages_k04_whole_one_or_two_changed
set_option Elab.async false
set_option linter.all false
set_option autoImplicit false
set_option maxRecDepth 100000
/-! the mathematics of sums and seals: plain lists of ints -/
namespace Sm
def step (p : Int × Int) (x : Int) : Int × Int := ((p.1 + x + 1) % 9973, (p.2 + (p.1 + x + 1) % 9973) % 9973)
def sumsI (xs : List Int) : Int × Int := xs.foldl step (0, 0)
def sl (k t x : Int) : Int := (t * k + x + 1) % 9973
def sealI (k : Int) (xs : List Int) : Int := xs.foldl (sl k) k
/-- the weights -/
def w1 : List Int → Int
  | [] => 0
  | x :: r => (x + 1) + w1 r
def w2 : List Int → Int
  | [] => 0
  | x :: r => ((r.length : Int) + 1) * (x + 1) + w2 r
theorem fold_w : ∀ (xs : List Int) (a b : Int), xs.foldl step (a % 9973, b % 9973) = ((a + w1 xs) % 9973, (b + (xs.length : Int) * a + w2 xs) % 9973)
  | [], a, b => by simp [w1, w2]
  | x :: r, a, b => by
    have e : step (a % 9973, b % 9973) x = ((a + (x + 1)) % 9973, (b + (a + (x + 1))) % 9973) := by
      unfold step
      simp only
      refine Prod.ext ?_ ?_
      · show (a % 9973 + x + 1) % 9973 = (a + (x + 1)) % 9973
        omega
      · show (b % 9973 + (a % 9973 + x + 1) % 9973) % 9973 = (b + (a + (x + 1))) % 9973
        omega
    rw [List.foldl_cons, e, fold_w r]
    refine Prod.ext ?_ ?_
    · show (a + (x + 1) + w1 r) % 9973 = (a + ((x + 1) + w1 r)) % 9973
      congr 1
      omega
    · show (b + (a + (x + 1)) + (r.length : Int) * (a + (x + 1)) + w2 r) % 9973 = (b + ((x :: r).length : Int) * a + (((r.length : Int) + 1) * (x + 1) + w2 r)) % 9973
      congr 1
      rw [List.length_cons]
      have e1 : ((r.length + 1 : Nat) : Int) * a = (r.length : Int) * a + a := by
        rw [Int.natCast_add, Int.add_mul]
        simp
      have e2 : ((r.length : Int) + 1) * (x + 1) = (r.length : Int) * (x + 1) + (x + 1) := by
        rw [Int.add_mul, Int.one_mul]
      have e3 : (r.length : Int) * (a + (x + 1)) = (r.length : Int) * a + (r.length : Int) * (x + 1) := Int.mul_add _ _ _
      rw [e1, e2, e3]
      omega
theorem sums_w (xs : List Int) : sumsI xs = (w1 xs % 9973, w2 xs % 9973) := by
  have h := fold_w xs 0 0
  unfold sumsI
  rw [show ((0 : Int), (0 : Int)) = (0 % 9973, 0 % 9973) from rfl, h]
  refine Prod.ext ?_ ?_
  · show (0 + w1 xs) % 9973 = _
    rw [Int.zero_add]
  · show (0 + (xs.length : Int) * 0 + w2 xs) % 9973 = _
    rw [Int.mul_zero, Int.add_zero, Int.zero_add]
/-- a number put at a place: what the weights become -/
theorem w1_set : ∀ (xs : List Int) (i : Nat) (x y : Int), xs[i]? = some x → w1 (xs.set i y) = w1 xs + (y - x)
  | [], i, x, y, h => by simp at h
  | a :: r, 0, x, y, h => by
    have e : a = x := by simpa using h
    subst e
    show (y + 1) + w1 r = (a + 1) + w1 r + (y - a)
    omega
  | a :: r, i + 1, x, y, h => by
    have ih := w1_set r i x y (by simpa using h)
    show (a + 1) + w1 (r.set i y) = (a + 1) + w1 r + (y - x)
    omega
theorem w2_set : ∀ (xs : List Int) (i : Nat) (x y : Int), xs[i]? = some x → w2 (xs.set i y) = w2 xs + ((xs.length : Int) - i) * (y - x)
  | [], i, x, y, h => by simp at h
  | a :: r, 0, x, y, h => by
    have e : a = x := by simpa using h
    subst e
    show ((r.length : Int) + 1) * (y + 1) + w2 r = ((r.length : Int) + 1) * (a + 1) + w2 r + ((((a :: r).length : Nat) : Int) - ((0 : Nat) : Int)) * (y - a)
    rw [List.length_cons, show (((r.length + 1 : Nat)) : Int) - ((0 : Nat) : Int) = (r.length : Int) + 1 by omega]
    rw [Int.mul_sub, Int.mul_add, Int.mul_add]
    omega
  | a :: r, i + 1, x, y, h => by
    have ih := w2_set r i x y (by simpa using h)
    show (((r.set i y).length : Int) + 1) * (a + 1) + w2 (r.set i y) = ((r.length : Int) + 1) * (a + 1) + w2 r + ((((a :: r).length : Nat) : Int) - ((i + 1 : Nat) : Int)) * (y - x)
    rw [List.length_set, List.length_cons, show (((r.length + 1 : Nat)) : Int) - ((i + 1 : Nat) : Int) = (r.length : Int) - i by omega, ih]
    omega
/-! the prime -/
def chk : Nat → Bool
  | 0 => true
  | k + 1 => (Nat.gcd (k + 1) 9973 == 1) && chk k
theorem chk_ok : chk 9972 = true := by decide +kernel
theorem chk_at : ∀ n k : Nat, chk n = true → 0 < k → k ≤ n → Nat.gcd k 9973 = 1
  | 0, k, _, h0, h1 => by omega
  | n + 1, k, h, h0, h1 => by
    unfold chk at h
    rw [Bool.and_eq_true] at h
    by_cases e : k = n + 1
    · subst e
      exact eq_of_beq h.1
    · exact chk_at n k h.2 h0 (by omega)
theorem cop_small (k : Nat) (h : k < 9973) : k = 0 ∨ Nat.gcd k 9973 = 1 := by
  by_cases e : k = 0
  · exact .inl e
  · exact .inr (chk_at 9972 k chk_ok (by omega) (by omega))
theorem dvd_small {k : Nat} (h0 : 0 < k) (h1 : k < 9973) {m : Nat} (h : 9973 ∣ k * m) : 9973 ∣ m := by
  have g : Nat.gcd 9973 k = 1 := by
    rw [Nat.gcd_comm]
    rcases cop_small k h1 with e | e
    · omega
    · exact e
  exact Nat.Coprime.dvd_of_dvd_mul_left (n := m) (m := k) (k := 9973) g h
/-- a product of a small factor that isn't nought and a small difference is no multiple -/
theorem no_mult {c d : Int} (hc0 : c ≠ 0) (hc1 : -9973 < c) (hc2 : c < 9973) (hd1 : -9973 < d) (hd2 : d < 9973) (h : (c * d) % 9973 = 0) : d = 0 := by
  have h1 : (9973 : Int) ∣ c * d := Int.dvd_of_emod_eq_zero h
  have h2 : 9973 ∣ c.natAbs * d.natAbs := by
    rw [← Int.natAbs_mul]
    exact Int.natAbs_dvd_natAbs.mpr h1
  have h3 : 9973 ∣ d.natAbs := dvd_small (by omega) (by omega) h2
  have h4 : d.natAbs = 0 := Nat.eq_zero_of_dvd_of_lt h3 (by omega)
  omega
/-- one number changed -/
theorem one_ne {xs : List Int} {i : Nat} {x y : Int} (h : xs[i]? = some x) (hne : y ≠ x) (hx : 0 ≤ x ∧ x < 9973) (hy : 0 ≤ y ∧ y < 9973) : sumsI (xs.set i y) ≠ sumsI xs := by
  intro e
  rw [sums_w, sums_w] at e
  have e1 : w1 (xs.set i y) % 9973 = w1 xs % 9973 := congrArg Prod.fst e
  rw [w1_set xs i x y h] at e1
  omega
/-- two numbers changed -/
theorem two_ne {xs : List Int} {i j : Nat} {x y u v : Int} (h : xs[i]? = some x) (hij : i ≠ j) (h' : xs[j]? = some u) (hl : xs.length ≤ 1000) (hne : y ≠ x) (hx : 0 ≤ x ∧ x < 9973) (hy : 0 ≤ y ∧ y < 9973) (hu : 0 ≤ u ∧ u < 9973) (hv : 0 ≤ v ∧ v < 9973) :
    sumsI ((xs.set i y).set j v) ≠ sumsI xs := by
  intro e
  have hi : i < xs.length := (List.getElem?_eq_some_iff.mp h).1
  have hj : j < xs.length := (List.getElem?_eq_some_iff.mp h').1
  have h2 : (xs.set i y)[j]? = some u := by
    rw [List.getElem?_set_ne hij]
    exact h'
  rw [sums_w, sums_w] at e
  have e1 : w1 ((xs.set i y).set j v) % 9973 = w1 xs % 9973 := congrArg Prod.fst e
  have e2 : w2 ((xs.set i y).set j v) % 9973 = w2 xs % 9973 := congrArg Prod.snd e
  rw [w1_set _ j u v h2, w1_set xs i x y h] at e1
  rw [w2_set _ j u v h2, w2_set xs i x y h, List.length_set] at e2
  -- the differences
  have hd : ∃ q : Int, (v - u) = 9973 * q - (y - x) := ⟨((y - x) + (v - u)) / 9973, by omega⟩
  obtain ⟨q, hq⟩ := hd
  rw [hq] at e2
  have e3 : ((xs.length : Int) - i) * (y - x) + ((xs.length : Int) - j) * (9973 * q - (y - x)) = ((j : Int) - i) * (y - x) + 9973 * (((xs.length : Int) - j) * q) := by
    have a1 : ((xs.length : Int) - j) * (9973 * q - (y - x)) = 9973 * (((xs.length : Int) - j) * q) - ((xs.length : Int) - j) * (y - x) := by
      rw [Int.mul_sub, Int.mul_left_comm]
    have a2 : ((xs.length : Int) - i) * (y - x) = ((xs.length : Int) - j) * (y - x) + ((j : Int) - i) * (y - x) := by
      rw [← Int.add_mul]
      congr 1
      omega
    rw [a1, a2]
    omega
  have e4 : (((j : Int) - i) * (y - x)) % 9973 = 0 := by
    rw [Int.add_assoc, e3] at e2
    omega
  have := no_mult (c := (j : Int) - i) (d := y - x) (by omega) (by omega) (by omega) (by omega) (by omega) e4
  omega
/-! the seal -/
theorem sl_range (k t x : Int) : 0 ≤ sl k t x ∧ sl k t x < 9973 := by
  unfold sl
  omega
theorem seal_range : ∀ (k : Int) (xs : List Int) (t : Int), (0 ≤ t ∧ t < 9973) → 0 ≤ xs.foldl (sl k) t ∧ xs.foldl (sl k) t < 9973
  | _, [], _, h => h
  | k, x :: r, t, _ => seal_range k r (sl k t x) (sl_range k t x)
theorem sl_inj {k t u x : Int} (hk : 1 ≤ k ∧ k < 9973) (ht : 0 ≤ t ∧ t < 9973) (hu : 0 ≤ u ∧ u < 9973) (h : sl k t x = sl k u x) : t = u := by
  unfold sl at h
  have e : (k * (t - u)) % 9973 = 0 := by
    rw [Int.mul_sub, Int.mul_comm k t, Int.mul_comm k u]
    omega
  have := no_mult (c := k) (d := t - u) (by omega) (by omega) (by omega) (by omega) (by omega) e
  omega
theorem fold_ne {k : Int} (hk : 1 ≤ k ∧ k < 9973) : ∀ (xs : List Int) (t u : Int), (0 ≤ t ∧ t < 9973) → (0 ≤ u ∧ u < 9973) → t ≠ u → xs.foldl (sl k) t ≠ xs.foldl (sl k) u
  | [], _, _, _, _, h => h
  | x :: r, t, u, ht, hu, h => fold_ne hk r _ _ (sl_range k t x) (sl_range k u x) fun e => h (sl_inj hk ht hu e)
theorem fold_set_ne {k : Int} (hk : 1 ≤ k ∧ k < 9973) : ∀ (xs : List Int) (i : Nat) (t x y : Int), (0 ≤ t ∧ t < 9973) → xs[i]? = some x → y ≠ x → (0 ≤ x ∧ x < 9973) → (0 ≤ y ∧ y < 9973) → (xs.set i y).foldl (sl k) t ≠ xs.foldl (sl k) t
  | [], i, t, x, y, _, h, _, _, _ => by simp at h
  | a :: r, 0, t, x, y, ht, h, hne, hx, hy => by
    have e : a = x := by simpa using h
    subst e
    refine fold_ne hk r _ _ (sl_range k t y) (sl_range k t a) fun e => ?_
    unfold sl at e
    omega
  | a :: r, i + 1, t, x, y, ht, h, hne, hx, hy => fold_set_ne hk r i (sl k t a) x y (sl_range k t a) (by simpa using h) hne hx hy
theorem seal_ne {k : Int} (hk : 1 ≤ k ∧ k < 9973) {xs : List Int} {i : Nat} {x y : Int} (h : xs[i]? = some x) (hne : y ≠ x) (hx : 0 ≤ x ∧ x < 9973) (hy : 0 ≤ y ∧ y < 9973) : sealI k (xs.set i y) ≠ sealI k xs :=
  fold_set_ne hk xs i k x y (by omega) h hne hx hy
theorem set_self {xs : List Int} {i : Nat} {x : Int} (h : xs[i]? = some x) : xs.set i x = xs := by
  refine List.ext_getElem? fun j => ?_
  by_cases e : i = j
  · subst e
    rw [List.getElem?_set_self (List.getElem?_eq_some_iff.mp h).1, h]
  · rw [List.getElem?_set_ne e]
/-- two unlike numbers exchanged -/
theorem swap_ne {xs : List Int} {i j : Nat} {x u : Int} (h : xs[i]? = some x) (h' : xs[j]? = some u) (hl : xs.length ≤ 1000) (hx : 0 ≤ x ∧ x < 9973) (hu : 0 ≤ u ∧ u < 9973) (hne : (xs.set i u).set j x ≠ xs) :
    sumsI ((xs.set i u).set j x) ≠ sumsI xs := by
  have hxu : u ≠ x := fun e => hne (by
    subst e
    rw [set_self h, set_self h'])
  have hij : i ≠ j := fun e => by
    subst e
    rw [h] at h'
    exact hxu (Option.some.inj h').symm
  exact two_ne h hij h' hl hxu hx hu hu hx
end Sm

set_option maxRecDepth 100000
/-! the law's row of drawn numbers; heaps -/
namespace Dw
open PySem PySem.Spec PyProof.Rows L2
/-- all but r stays -/
def Keep (r : Addr) (H H' : Hp) : Prop := ∀ b o, b ≠ r → H b = some o → H' b = some o
theorem Keep.refl (r : Addr) (H : Hp) : Keep r H H := fun _ _ _ h => h
theorem Keep.trans {r : Addr} {H H1 H2 : Hp} (a : Keep r H H1) (b : Keep r H1 H2) : Keep r H H2 := fun c o n h => b c o n (a c o n h)
theorem Keep.same {r : Addr} {H H' : Hp} (s : Same H H') : Keep r H H' := fun b o _ h => s b o h
theorem Keep.put {r : Addr} {H : Hp} {o : HO} : Keep r H (upd H r o) := fun b u n h => by
  rw [upd_ne n]
  exact h
theorem Keep.seq {K : PySem.W.Frag} {r c : Addr} {H H' : Hp} {xs : List V} (k : Keep r H H') (n : c ≠ r) (h : SqL K H c xs) : SqL K H' c xs := by
  rcases h with (h | ⟨o, h⟩) | h
  · exact .inl (.inl (k _ _ n h))
  · exact .inl (.inr ⟨o, k _ _ n h⟩)
  · exact .inr h
theorem same_upd {H : Hp} {p : Addr} {o : HO} (h : H p = none) : Same H (upd H p o) := fun b x e => by
  rw [upd_ne (ne_of_none e h)]
  exact e
theorem same_mut {H H' : Hp} {p : Addr} {o : HO} (s : Same H H') (h : H p = none) : Same H (upd H' p o) := fun b x e => by
  rw [upd_ne (ne_of_none e h)]
  exact s _ _ e
theorem sq_of {K : PySem.W.Frag} {H : Hp} {a : Addr} {xs : List V} (h : H a = some (.lst xs)) : SqL K H a xs := .inl (.inl h)
theorem st_of {K : PySem.W.Frag} {H : Hp} {a : Addr} {xs : List V} (h : H a = some (.tup xs)) : SqT K H a xs := .inl (.inl h)
/-- the row that numbers are drawn with stands at r; it was not there in H0, in which the script stands at a -/
structure Dr (K : PySem.W.Frag) (H0 : Hp) (ns : List Int) (a r : Addr) (H : Hp) : Prop where
  row : ∃ p q z : Int, H r = some (.lst [.ref a, .int p, .int q, .int z]) ∧ 0 ≤ p ∧ 0 ≤ q ∧ q < 2147483647
  scr : SqL K H0 a (ns.map V.int)
  same : Same H0 H
  fresh : H0 r = none
  len : ns.length ≤ 63
theorem Dr.seq {K : PySem.W.Frag} {H0 : Hp} {ns : List Int} {a r : Addr} {H : Hp} (D : Dr K H0 ns a r H) : SqL K H a (ns.map V.int) := D.same.seq D.scr
theorem Dr.mono {K : PySem.W.Frag} {H0 : Hp} {ns : List Int} {a r : Addr} {H H' : Hp} (D : Dr K H0 ns a r H) (s : Same H H') : Dr K H0 ns a r H' := by
  obtain ⟨p, q, z, h, b⟩ := D.row
  exact ⟨⟨p, q, z, s _ _ h, b⟩, D.scr, D.same.trans s, D.fresh, D.len⟩
theorem Dr.new {K : PySem.W.Frag} {H0 : Hp} {ns : List Int} {a r p : Addr} {H : Hp} {o : HO} (D : Dr K H0 ns a r H) (h : H p = none) : Dr K H0 ns a r (upd H p o) := D.mono (same_upd h)
theorem Dr.mut {K : PySem.W.Frag} {H0 : Hp} {ns : List Int} {a r p : Addr} {H : Hp} {o : HO} (D : Dr K H0 ns a r H) (n : p ≠ r) (h : H0 p = none) : Dr K H0 ns a r (upd H p o) := by
  obtain ⟨i, q, z, e, b⟩ := D.row
  exact ⟨⟨i, q, z, by rw [upd_ne n.symm]; exact e, b⟩, D.scr, same_mut D.same h, D.fresh, D.len⟩
theorem Dr.put {K : PySem.W.Frag} {H0 : Hp} {ns : List Int} {a r : Addr} {H : Hp} (D : Dr K H0 ns a r H) {p q z : Int} (h0 : 0 ≤ p) (h1 : 0 ≤ q) (h2 : q < 2147483647) : Dr K H0 ns a r (upd H r (.lst [.ref a, .int p, .int q, .int z])) :=
  ⟨⟨p, q, z, upd_same, h0, h1, h2⟩, D.scr, same_mut D.same D.fresh, D.fresh, D.len⟩
/-- what is new in H is not r -/
theorem Dr.ne {K : PySem.W.Frag} {H0 : Hp} {ns : List Int} {a r p : Addr} {H : Hp} (D : Dr K H0 ns a r H) (h : H p = none) : p ≠ r := by
  obtain ⟨_, _, _, e, _⟩ := D.row
  exact (ne_of_none e h).symm
theorem Dr.free {K : PySem.W.Frag} {H0 : Hp} {ns : List Int} {a r p : Addr} {H : Hp} (D : Dr K H0 ns a r H) (h : H p = none) : H0 p = none := D.same.free h
/-- the promise of what draws a number below m -/
def spTaken (K : PySem.W.Frag) : Sp := fun vs H Q _ => ∃ (H0 : Hp) (ns : List Int) (a r : Addr) (m : Int), vs = [.ref r, .int m] ∧ Dr K H0 ns a r H ∧ 0 < m ∧ m < 1073741824 ∧
  ∀ (v : Int) (H' : Hp), Dr K H0 ns a r H' → Keep r H H' → 0 ≤ v → v < m → Q (.int v) H'
/-- the promise of what draws a number below a written m -/
def spDraw (m : Int) (K : PySem.W.Frag) : Sp := fun vs H Q _ => ∃ (H0 : Hp) (ns : List Int) (a r : Addr), vs = [.ref r] ∧ Dr K H0 ns a r H ∧
  ∀ (v : Int) (H' : Hp), Dr K H0 ns a r H' → Keep r H H' → 0 ≤ v → v < m → Q (.int v) H'
/-! ### data: numbers, None, lists of them -/
/-- what a cell holds: a number, or None -/
def cel : V → Bool
  | .int _ => true
  | .non => true
  | _ => false
def dat : V → PyData
  | .int i => .int i
  | .bl b => .bool b
  | .str x => .str x
  | _ => .none
theorem Dp.dat {K : PySem.W.Frag} {H : Hp} : ∀ {v : V}, cel v = true → Dp K H v (dat v)
  | .int i, _ => .int i
  | .non, _ => .non
theorem dpAll_dat {K : PySem.W.Frag} {H : Hp} : ∀ {xs : List V}, (∀ v ∈ xs, cel v = true) → DpAll K H xs (xs.map dat)
  | [], _ => .nil
  | x :: r, h => .cons (Dp.dat (h x List.mem_cons_self)) (dpAll_dat fun v m => h v (List.mem_cons_of_mem _ m))
theorem lay_dat : ∀ {v : V}, cel v = true → (dat v).canLay0 = true ∧ (dat v).depth = 0
  | .int i, _ => ⟨by simp only [dat, PyData.canLay0], by simp only [dat, PyData.depth]⟩
  | .non, _ => ⟨by simp only [dat, PyData.canLay0], by simp only [dat, PyData.depth]⟩
theorem layAll_dat : ∀ {xs : List V}, (∀ v ∈ xs, cel v = true) → PyData.canLayAll0 (xs.map dat) = true ∧ PyData.depthAll (xs.map dat) = 0
  | [], _ => ⟨by simp only [List.map_nil, PyData.canLayAll0], by simp only [List.map_nil, PyData.depthAll]⟩
  | x :: r, h => by
    obtain ⟨a, b⟩ := lay_dat (h x List.mem_cons_self)
    obtain ⟨c, d⟩ := layAll_dat (xs := r) fun v m => h v (List.mem_cons_of_mem _ m)
    constructor
    · rw [List.map_cons, PyData.canLayAll0, a, c]
      rfl
    · rw [List.map_cons, PyData.depthAll, b, d]
      rfl
theorem shaped_l {xs : List V} (h : ∀ v ∈ xs, cel v = true) : SeqAt.shaped (.list (xs.map dat)) = true := by
  obtain ⟨a, b⟩ := layAll_dat h
  unfold SeqAt.shaped
  rw [PyData.canLay0, PyData.depth, a, b]
  rfl
theorem shaped_t {xs : List V} (h : ∀ v ∈ xs, cel v = true) : SeqAt.shaped (.tuple (xs.map dat)) = true := by
  obtain ⟨a, b⟩ := layAll_dat h
  unfold SeqAt.shaped
  rw [PyData.canLay0, PyData.depth, a, b]
  rfl
theorem eqv_dat : ∀ {v u : V}, cel v = true → cel u = true → PyData.eqv (dat v) (dat u) = decide (v = u)
  | .int i, .int j, _, _ => by
    simp only [dat, PyData.eqv, V.int.injEq]
    by_cases e : i = j <;> simp [e]
  | .int i, .non, _, _ => by simp [dat, PyData.eqv]
  | .non, .int j, _, _ => by simp [dat, PyData.eqv]
  | .non, .non, _, _ => by simp [dat, PyData.eqv]
theorem eqvAll_dat : ∀ {xs ys : List V}, (∀ v ∈ xs, cel v = true) → (∀ v ∈ ys, cel v = true) → PyData.eqvAll (xs.map dat) (ys.map dat) = decide (xs = ys)
  | [], [], _, _ => by simp [PyData.eqvAll]
  | [], _ :: _, _, _ => by simp [PyData.eqvAll]
  | _ :: _, [], _, _ => by simp [PyData.eqvAll]
  | x :: r, y :: t, hx, hy => by
    rw [List.map_cons, List.map_cons, PyData.eqvAll, eqv_dat (hx x List.mem_cons_self) (hy y List.mem_cons_self), eqvAll_dat (xs := r) (ys := t) (fun v m => hx v (List.mem_cons_of_mem _ m)) (fun v m => hy v (List.mem_cons_of_mem _ m))]
    by_cases e : x = y
    · subst e
      by_cases e2 : r = t <;> simp [e2]
    · simp [e]
theorem eqv_l {xs ys : List V} (hx : ∀ v ∈ xs, cel v = true) (hy : ∀ v ∈ ys, cel v = true) : PyData.eqv (.list (xs.map dat)) (.list (ys.map dat)) = decide (xs = ys) := by
  rw [PyData.eqv]
  exact eqvAll_dat hx hy
theorem eqv_t {xs ys : List V} (hx : ∀ v ∈ xs, cel v = true) (hy : ∀ v ∈ ys, cel v = true) : PyData.eqv (.tuple (xs.map dat)) (.tuple (ys.map dat)) = decide (xs = ys) := by
  rw [PyData.eqv]
  exact eqvAll_dat hx hy
theorem cel_ints {xs : List Int} : ∀ v ∈ xs.map V.int, cel v = true := fun v h => by
  obtain ⟨i, _, rfl⟩ := List.mem_map.mp h
  rfl
theorem map_int_inj : ∀ {xs ys : List Int}, xs.map V.int = ys.map V.int → xs = ys
  | [], [], _ => rfl
  | [], _ :: _, h => by simp at h
  | _ :: _, [], h => by simp at h
  | x :: r, y :: t, h => by
    rw [List.map_cons, List.map_cons] at h
    injection h with h1 h2
    injection h1 with h1
    rw [h1, map_int_inj h2]
theorem dp_l {K : PySem.W.Frag} {H : Hp} {p : Addr} {xs : List V} (h : SqL K H p xs) (hx : ∀ v ∈ xs, cel v = true) : Dp K H (.ref p) (.list (xs.map dat)) := .lst h (dpAll_dat hx)
theorem dp_t {K : PySem.W.Frag} {H : Hp} {p : Addr} {xs : List V} (h : SqT K H p xs) (hx : ∀ v ∈ xs, cel v = true) : Dp K H (.ref p) (.tuple (xs.map dat)) := .tup h (dpAll_dat hx)
/-! ### places -/
theorem ixN_nat {n j : Nat} (h : j < n) : ixN n (j : Int) = some j := by
  unfold ixN
  rw [if_pos (by omega), if_pos (by omega)]
  rfl
theorem at_map {xs : List Int} {j : Nat} {x : Int} (h : xs[j]? = some x) : atI (xs.map V.int) (j : Int) = some (.int x) := atI_nat (by rw [List.getElem?_map, h]; rfl)
theorem map_take_succ {xs : List Int} {i : Nat} {x : Int} (h : xs[i]? = some x) : xs.take (i + 1) = xs.take i ++ [x] := by
  rw [List.take_add_one, h]
  rfl
theorem get_map {xs : List Int} {i : Nat} {y : V} (h : (xs.map V.int)[i]? = some y) : ∃ x, xs[i]? = some x ∧ y = .int x := by
  rw [List.getElem?_map] at h
  cases e : xs[i]? with
  | none =>
    rw [e] at h
    cases h
  | some z =>
    rw [e] at h
    exact ⟨z, rfl, (Option.some.inj h).symm⟩
theorem get_map_ref {xs : List Addr} {i : Nat} {y : V} (h : (xs.map V.ref)[i]? = some y) : ∃ x, xs[i]? = some x ∧ y = .ref x := by
  rw [List.getElem?_map] at h
  cases e : xs[i]? with
  | none =>
    rw [e] at h
    cases h
  | some z =>
    rw [e] at h
    exact ⟨z, rfl, (Option.some.inj h).symm⟩
theorem size_ok {n : Nat} (h : n ≤ 100000) : n ≤ sizeLine := Nat.le_trans h (by decide)
theorem sz_ {n : Nat} (h : Nat.ble n 100000 = true) : n ≤ sizeLine := size_ok (Nat.le_of_ble_eq_true h)
theorem size_lt {n : Nat} (h : n < 100000) : n < sizeLine := Nat.lt_of_lt_of_le h (by decide)
/-! ### rules that name the text's part K, for what stands within a comprehension -/
section
variable {X : Cx} {K : PySem.W.Frag}
theorem op_eqDK (hK : X.K = K) (hu : X.A.units + 64 < cLine) : OpR X (compareOp .Eq) (rEqD K) := hK ▸ op_eqD hu
theorem op_neDK (hK : X.K = K) (hu : X.A.units + 64 < cLine) : OpR X (compareOp .NotEq) (rNeD K) := hK ▸ op_neD hu
end
end Dw

set_option maxRecDepth 100000
set_option maxHeartbeats 4000000
namespace K04
open PySem PySem.Spec PyProof.Rows L2
def topS (i : Nat) : Stmt := PySem.Challenge.pw_twoimages_k04_whole_one_or_two_changed.main.body.getD i (.Pass ⟨0, 0, 0, 0⟩)
abbrev s_sums : Stmt := topS 2
abbrev N_sums : List Str := ["row", "one", "two", "worth"]
abbrev P_sums : List Str := ["row"]
theorem sc_sums : FnScope N_sums P_sums (defScope s_sums) := ⟨rfl, rfl, rfl, by decide +kernel, rfl, by decide +kernel, by decide +kernel⟩
abbrev s_seal : Stmt := topS 3
abbrev N_seal : List Str := ["key", "row", "told", "number"]
abbrev P_seal : List Str := ["key", "row"]
theorem sc_seal : FnScope N_seal P_seal (defScope s_seal) := ⟨rfl, rfl, rfl, by decide +kernel, rfl, by decide +kernel, by decide +kernel⟩
abbrev s_l_taken : Stmt := topS 5
abbrev N_l_taken : List Str := ["_law_row", "_law_many", "_law_found", "_law_cell"]
abbrev P_l_taken : List Str := ["_law_row", "_law_many"]
theorem sc_l_taken : FnScope N_l_taken P_l_taken (defScope s_l_taken) := ⟨rfl, rfl, rfl, by decide +kernel, rfl, by decide +kernel, by decide +kernel⟩
abbrev s_l_worth : Stmt := topS 6
abbrev N_l_worth : List Str := ["_law_row"]
abbrev P_l_worth : List Str := ["_law_row"]
theorem sc_l_worth : FnScope N_l_worth P_l_worth (defScope s_l_worth) := ⟨rfl, rfl, rfl, by decide +kernel, rfl, by decide +kernel, by decide +kernel⟩
abbrev s_l_other : Stmt := topS 7
abbrev N_l_other : List Str := ["_law_row", "_law_number"]
abbrev P_l_other : List Str := ["_law_row", "_law_number"]
theorem sc_l_other : FnScope N_l_other P_l_other (defScope s_l_other) := ⟨rfl, rfl, rfl, by decide +kernel, rfl, by decide +kernel, by decide +kernel⟩
abbrev s_law : Stmt := topS 8
abbrev N_law : List Str := ["_law_script", "_law_row", "_law_turn", "_law_some", "_law_one", "_law_two", "_law_key", "_law_first", "_law_second", "_law_third", "_law_others", "_law_k", "_law_other_here"]
abbrev P_law : List Str := ["_law_script"]
theorem sc_law : FnScope N_law P_law (defScope s_law) := ⟨rfl, rfl, rfl, by decide +kernel, rfl, by decide +kernel, by decide +kernel⟩
structure Ad where
  f_sums : Addr
  d_sums : FuncData
  f_seal : Addr
  d_seal : FuncData
  f_l_taken : Addr
  d_l_taken : FuncData
  f_l_worth : Addr
  d_l_worth : FuncData
  f_l_other : Addr
  d_l_other : FuncData
  f_law : Addr
  d_law : FuncData
  t_RESTS_BY : Tok
structure Top (K : PySem.W.Frag) (mg : Str → Option Value) (a : Ad) : Prop where
  F_sums : Fun K "sums" "sums" s_sums a.f_sums a.d_sums
  B_sums : Binds K a.d_sums P_sums []
  g_sums : mg "sums" = some (.ref a.f_sums)
  F_seal : Fun K "seal" "seal" s_seal a.f_seal a.d_seal
  B_seal : Binds K a.d_seal P_seal []
  g_seal : mg "seal" = some (.ref a.f_seal)
  F_l_taken : Fun K "_law_taken" "_law_taken" s_l_taken a.f_l_taken a.d_l_taken
  B_l_taken : Binds K a.d_l_taken P_l_taken []
  g_l_taken : mg "_law_taken" = some (.ref a.f_l_taken)
  F_l_worth : Fun K "_law_worth" "_law_worth" s_l_worth a.f_l_worth a.d_l_worth
  B_l_worth : Binds K a.d_l_worth P_l_worth []
  g_l_worth : mg "_law_worth" = some (.ref a.f_l_worth)
  F_l_other : Fun K "_law_other" "_law_other" s_l_other a.f_l_other a.d_l_other
  B_l_other : Binds K a.d_l_other P_l_other []
  g_l_other : mg "_law_other" = some (.ref a.f_l_other)
  F_law : Fun K "law" "law" s_law a.f_law a.d_law
  B_law : Binds K a.d_law P_law []
  g_law : mg "law" = some (.ref a.f_law)
  b_int : mg "int" = none
  b_len : mg "len" = none
  b_list : mg "list" = none
  b_range : mg "range" = none
  c_RESTS_BY : mg "RESTS_BY" = some (.int 9973 a.t_RESTS_BY)
section
variable {P : Program} {w : World} {K : PySem.W.Frag} {mg : Str → Option Value} {base : Heap}
theorem G_l_taken {a : Ad} (T : Top K mg a) : FnOk P w K mg base CX0 1 a.f_l_taken a.d_l_taken P_l_taken (Dw.spTaken K) := by
  refine T.F_l_taken.ok sc_l_taken (fun vs H Q E h => ?_) (fun cdv A outer s H vs Q E hr h => ?_)
  · obtain ⟨_, _, _, _, _, rfl, _⟩ := h
    rfl
  · obtain ⟨H0, ns, sa, r, m, rfl, D, hm0, hm1, q⟩ := h
    obtain ⟨p, u, z, hR, hp, hu0, hu1⟩ := D.row
    have sR : SqL K H r [.ref sa, .int p, .int u, .int z] := Dw.sq_of hR
    refine ⟨_, (pss_cons (ps_if (pt_cmpR op_gt (pe_ix ix_list (pv 0) pe_int (fun _ _ => rfl)) pe_int (nomark _))
        (pss_cons (ps_set (i := 2) sc_l_taken.nd rfl (Or.inl rfl) (pe_op op_mod (pe_ix ix_list (pv 0) pe_int (fun _ _ => rfl)) (pv 1)))
      (pss_cons (ps_asg (pe_op op_fdiv (pe_ix ix_list (pv 0) pe_int (fun _ _ => rfl)) (pv 1)) (pg_sub (pv 0) pe_int set_list))
      (pss_one (ps_ret (pv 2)))))
        pss_nil)
      (pss_cons (ps_asg (pe_op op_add (pe_ix ix_list (pv 0) pe_int (fun _ _ => rfl)) pe_int) (pg_sub (pv 0) pe_int set_list))
      (pss_cons (ps_if (pt_cmpR op_gt (pe_ix ix_list (pv 0) pe_int (fun _ _ => rfl)) (pe_callB call_len_seq (by rfl) T.b_len PySem.boot_len (pa_cons (pe_ix ix_list (pv 0) pe_int (fun _ _ => rfl)) pa_nil)) (nomark _))
        (pss_cons (ps_asg (pe_op op_mod (pe_op op_add (pe_op op_mul (pe_ix ix_list (pv 0) pe_int (fun _ _ => rfl)) pe_int) pe_int) pe_int) (pg_sub (pv 0) pe_int set_list))
      (pss_one (ps_ret (pe_op op_mod (pe_op op_fdiv (pe_ix ix_list (pv 0) pe_int (fun _ _ => rfl)) pe_int) (pv 1)))))
        pss_nil)
      (pss_cons (ps_set (i := 3) sc_l_taken.nd rfl (Or.inl rfl) (pe_ix ix_list (pe_ix ix_list (pv 0) pe_int (fun _ _ => rfl)) (pe_op op_sub (pe_ix ix_list (pv 0) pe_int (fun _ _ => rfl)) pe_int) (fun _ _ => rfl)))
      (pss_cons (ps_asg (pe_op op_mod (pe_op op_add (pe_op op_add (pe_op op_mul (pe_ix ix_list (pv 0) pe_int (fun _ _ => rfl)) pe_int) (pv 3)) pe_int) pe_int) (pg_sub (pv 0) pe_int set_list))
      (pss_cons (ps_if (pt_cmpR op_ge (pv 3) (pe_op op_pow pe_int pe_int) (nomark _))
        (pss_one (ps_asg (pe_op op_fdiv (pv 3) (pv 1)) (pg_sub (pv 0) pe_int set_list)))
        pss_nil)
      (pss_one (ps_ret (pe_op op_mod (pv 3) (pv 1)))))))))), ?_⟩
    refine ⟨.ref r, rfl, r, _, 3, .int z, rfl, rfl, sR, atI_nat (j := 3) rfl, z, 0, rfl, rfl, _, rfl, ite2 (fun hz => ?_) (fun hz => ?_)⟩
    · refine ⟨.ref r, rfl, r, _, 3, .int z, rfl, rfl, sR, atI_nat (j := 3) rfl, .int m, rfl, z, m, rfl, rfl, hm0, ?_⟩
      refine ⟨.ref r, rfl, r, _, 3, .int z, rfl, rfl, sR, atI_nat (j := 3) rfl, .int m, rfl, z, m, rfl, rfl, ⟨hm0, hm1⟩, .ref r, rfl, r, _, 3, 3, rfl, rfl, hR, rfl, ?_⟩
      exact ⟨_, rfl, q (z % m) _ (D.put (p := p) (q := u) (z := z / m) hp hu0 hu1) Dw.Keep.put (Int.emod_nonneg _ (by omega)) (Int.emod_lt_of_pos _ hm0)⟩
    · -- the next cell
      refine ⟨.ref r, rfl, r, _, 1, .int p, rfl, rfl, sR, atI_nat (j := 1) rfl, p, 1, rfl, rfl, .ref r, rfl, r, _, 1, 1, rfl, rfl, hR, rfl, ?_⟩
      have D1 : Dw.Dr K H0 ns sa r (upd H r (.lst [.ref sa, .int (p + 1), .int u, .int z])) := D.put (by omega) hu0 hu1
      have sR1 : SqL K (upd H r (.lst [.ref sa, .int (p + 1), .int u, .int z])) r [.ref sa, .int (p + 1), .int u, .int z] := Dw.sq_of upd_same
      have hA : SqL K (upd H r (.lst [.ref sa, .int (p + 1), .int u, .int z])) sa (ns.map V.int) := D1.seq
      refine ⟨.ref r, rfl, r, _, 1, .int (p + 1), rfl, rfl, sR1, atI_nat (j := 1) rfl, .ref r, rfl, r, _, 0, .ref sa, rfl, rfl, sR1, atI_nat (j := 0) rfl, sa, _, rfl, .inl hA, p + 1, _, rfl, rfl, _, rfl, ite2 (fun hl => ?_) (fun hl => ?_)⟩
      · refine ⟨.ref r, rfl, r, _, 2, .int u, rfl, rfl, sR1, atI_nat (j := 2) rfl, u, 48271, rfl, rfl, .inr ⟨by decide, by decide⟩, u * 48271, 11, rfl, rfl, _, 2147483647, rfl, rfl, (by show (0 : Int) < 2147483647; decide), .ref r, rfl, r, _, 2, 2, rfl, rfl, upd_same, rfl, ?_⟩
        have D2 : Dw.Dr K H0 ns sa r (upd (upd H r (.lst [.ref sa, .int (p + 1), .int u, .int z])) r (.lst [.ref sa, .int (p + 1), .int ((u * 48271 + 11) % 2147483647), .int z])) := D1.put (by omega) (by omega) (by omega)
        refine ⟨.ref r, rfl, r, _, 2, .int ((u * 48271 + 11) % 2147483647), rfl, rfl, Dw.sq_of upd_same, atI_nat (j := 2) rfl, _, 7, rfl, rfl, ⟨by decide, by decide⟩, .int m, rfl, _, m, rfl, rfl, hm0, ?_⟩
        exact q _ _ D2 (Dw.Keep.put.trans Dw.Keep.put) (Int.emod_nonneg _ (by omega)) (Int.emod_lt_of_pos _ hm0)
      · have hlt : p < (ns.length : Int) := by
          have h1 := of_decide_eq_false (Bool.eq_false_iff.mpr hl)
          rw [List.length_map] at h1
          omega
        obtain ⟨c, hc⟩ : ∃ c, ns[p.toNat]? = some c := ⟨_, List.getElem?_eq_getElem (show p.toNat < ns.length by omega)⟩
        have hat : atI (ns.map V.int) (p + 1 - 1) = some (.int c) := at_of (j := p.toNat) (by omega) (by rw [List.getElem?_map, hc]; rfl)
        refine ⟨.ref r, rfl, r, _, 0, .ref sa, rfl, rfl, sR1, atI_nat (j := 0) rfl, .ref r, rfl, r, _, 1, .int (p + 1), rfl, rfl, sR1, atI_nat (j := 1) rfl, p + 1, 1, rfl, rfl, sa, _, _, _, rfl, rfl, hA, hat, ?_⟩
        refine ⟨.ref r, rfl, r, _, 2, .int u, rfl, rfl, sR1, atI_nat (j := 2) rfl, u, 48271, rfl, rfl, .inr ⟨by decide, by decide⟩, .int c, rfl, u * 48271, c, rfl, rfl, _, 11, rfl, rfl, _, 2147483647, rfl, rfl, (by show (0 : Int) < 2147483647; decide), .ref r, rfl, r, _, 2, 2, rfl, rfl, upd_same, rfl, ?_⟩
        have D2 : Dw.Dr K H0 ns sa r (upd (upd H r (.lst [.ref sa, .int (p + 1), .int u, .int z])) r (.lst [.ref sa, .int (p + 1), .int ((u * 48271 + c + 11) % 2147483647), .int z])) := D1.put (by omega) (by omega) (by omega)
        refine ⟨.int c, rfl, 10, 18, rfl, rfl, ⟨by decide, by decide, by decide⟩, c, _, rfl, rfl, _, rfl, ite2 (fun hg => ?_) (fun hg => ?_)⟩
        · refine ⟨.int c, rfl, .int m, rfl, c, m, rfl, rfl, ⟨hm0, hm1⟩, .ref r, rfl, r, _, 3, 3, rfl, rfl, upd_same, rfl, ?_⟩
          have D3 := D2.put (p := p + 1) (q := (u * 48271 + c + 11) % 2147483647) (z := c / m) (by omega) (by omega) (by omega)
          exact ⟨.int c, rfl, .int m, rfl, c, m, rfl, rfl, hm0, q _ _ D3 ((Dw.Keep.put.trans Dw.Keep.put).trans Dw.Keep.put) (Int.emod_nonneg _ (by omega)) (Int.emod_lt_of_pos _ hm0)⟩
        · exact ⟨.int c, rfl, .int m, rfl, c, m, rfl, rfl, hm0, q _ _ D2 (Dw.Keep.put.trans Dw.Keep.put) (Int.emod_nonneg _ (by omega)) (Int.emod_lt_of_pos _ hm0)⟩
theorem G_l_worth {a : Ad} (T : Top K mg a) : FnOk P w K mg base CX0 2 a.f_l_worth a.d_l_worth P_l_worth (Dw.spDraw 9973 K) := by
  refine T.F_l_worth.ok sc_l_worth (fun vs H Q E h => ?_) (fun cdv A outer s H vs Q E hr h => ?_)
  · obtain ⟨_, _, _, _, rfl, _⟩ := h
    rfl
  · obtain ⟨H0, ns, sa, r, rfl, D, q⟩ := h
    refine ⟨_, (pss_one (ps_ret (pe_call (G_l_taken T) (hr.mono (by decide)) (by rfl) T.g_l_taken T.F_l_taken.kp T.B_l_taken .nil pass0 (pa_cons (pv 0) (pa_cons (pe_ix ix_list (pe_lst (pa_cons pe_int (pa_cons pe_int (pa_cons pe_int pa_nil)))) (pe_call (G_l_taken T) (hr.mono (by decide)) (by rfl) T.g_l_taken T.F_l_taken.kp T.B_l_taken .nil pass0 (pa_cons (pv 0) (pa_cons pe_int pa_nil))) (fun _ _ => rfl)) pa_nil))))), ?_⟩
    refine ⟨.ref r, rfl, Dw.sz_ rfl, fun l hl => ?_⟩
    have nl : l ≠ r := D.ne hl
    refine ⟨.ref r, rfl, H0, ns, sa, r, 3, rfl, D.new hl, by decide, by decide, fun v H1 D1 k1 v0 v1 => ?_⟩
    have hL : H1 l = some (.lst [.int 4, .int 100, .int 9973]) := k1 _ _ nl upd_same
    have hat : ∃ m : Int, atI [V.int 4, V.int 100, V.int 9973] v = some (.int m) ∧ 0 < m ∧ m ≤ 9973 := by
      have e : v = 0 ∨ v = 1 ∨ v = 2 := by omega
      rcases e with rfl | rfl | rfl
      · exact ⟨4, rfl, by decide, by decide⟩
      · exact ⟨100, rfl, by decide, by decide⟩
      · exact ⟨9973, rfl, by decide, by decide⟩
    obtain ⟨m, hat, m0, m1⟩ := hat
    refine ⟨l, _, v, _, rfl, rfl, Dw.sq_of hL, hat, H0, ns, sa, r, m, rfl, D1, m0, by omega, fun u H2 D2 k2 u0 u1 => ?_⟩
    exact q u H2 D2 (((Dw.Keep.same (Dw.same_upd hl)).trans k1).trans k2) u0 (by omega)

theorem G_l_other {a : Ad} (T : Top K mg a) : FnOk P w K mg base CX0 2 a.f_l_other a.d_l_other P_l_other (fun vs H Q _ => ∃ (H0 : Hp) (ns : List Int) (a r : Addr) (n : Int), vs = [.ref r, .int n] ∧ Dw.Dr K H0 ns a r H ∧ 0 ≤ n ∧ n < 9973 ∧
  ∀ (v : Int) (H' : Hp), Dw.Dr K H0 ns a r H' → Dw.Keep r H H' → 0 ≤ v → v < 9973 → v ≠ n → Q (.int v) H') := by
  refine T.F_l_other.ok sc_l_other (fun vs H Q E h => ?_) (fun cdv A outer s H vs Q E hr h => ?_)
  · obtain ⟨_, _, _, _, _, rfl, _⟩ := h
    rfl
  · obtain ⟨H0, ns, sa, r, n, rfl, D, n0, n1, q⟩ := h
    refine ⟨_, (pss_one (ps_ret (pe_op op_mod (pe_op op_add (pe_op op_add (pv 1) pe_int) (pe_call (G_l_taken T) (hr.mono (by decide)) (by rfl) T.g_l_taken T.F_l_taken.kp T.B_l_taken .nil pass0 (pa_cons (pv 0) (pa_cons (pe_ix ix_list (pe_lst (pa_cons pe_int (pa_cons pe_int pa_nil))) (pe_call (G_l_taken T) (hr.mono (by decide)) (by rfl) T.g_l_taken T.F_l_taken.kp T.B_l_taken .nil pass0 (pa_cons (pv 0) (pa_cons pe_int pa_nil))) (fun _ _ => rfl)) pa_nil)))) pe_int))), ?_⟩
    refine ⟨.int n, rfl, n, 1, rfl, rfl, .ref r, rfl, by decide, fun l hl => ?_⟩
    have nl : l ≠ r := D.ne hl
    refine ⟨.ref r, rfl, H0, ns, sa, r, 2, rfl, D.new hl, by decide, by decide, fun v H1 D1 k1 v0 v1 => ?_⟩
    have hL : H1 l = some (.lst [.int 3, .int 9972]) := k1 _ _ nl upd_same
    have hat : ∃ m : Int, atI [V.int 3, V.int 9972] v = some (.int m) ∧ 0 < m ∧ m ≤ 9972 := by
      have e : v = 0 ∨ v = 1 := by omega
      rcases e with rfl | rfl
      · exact ⟨3, rfl, by decide, by decide⟩
      · exact ⟨9972, rfl, by decide, by decide⟩
    obtain ⟨m, hat, m0, m1⟩ := hat
    refine ⟨l, _, v, _, rfl, rfl, Dw.sq_of hL, hat, H0, ns, sa, r, m, rfl, D1, m0, by omega, fun u H2 D2 k2 u0 u1 => ?_⟩
    refine ⟨n + 1, u, rfl, rfl, _, 9973, rfl, rfl, (by show (0 : Int) < 9973; decide), ?_⟩
    exact q ((n + 1 + u) % 9973) H2 D2 (((Dw.Keep.same (Dw.same_upd hl)).trans k1).trans k2) (by omega) (by omega) (by omega)
/-- sums of a list of ints -/
def spSums (K : PySem.W.Frag) : Sp := fun vs H Q _ => ∃ (c : Addr) (xs : List Int), vs = [.ref c] ∧ SqL K H c (xs.map V.int) ∧
  ∀ (H' : Hp) (t : Addr), Same H H' → H t = none → H' t = some (.tup [.int (Sm.sumsI xs).1, .int (Sm.sumsI xs).2]) → Q (.ref t) H'
theorem G_sums {a : Ad} (T : Top K mg a) : FnOk P w K mg base CX0 1 a.f_sums a.d_sums P_sums (spSums K) := by
  refine T.F_sums.ok sc_sums (fun vs H Q E h => ?_) (fun cdv A outer s H vs Q E hr h => ?_)
  · obtain ⟨_, _, rfl, _⟩ := h
    rfl
  · obtain ⟨c, xs, rfl, hC, q⟩ := h
    refine ⟨_, (pss_cons (ps_set (i := 1) sc_sums.nd rfl (Or.inl rfl) pe_int)
      (pss_cons (ps_set (i := 2) sc_sums.nd rfl (Or.inl rfl) pe_int)
      (pss_cons (ps_for PassesOwn.never rfl (pi_list (pv 0)) (pg_name (i := 3) sc_sums.nd rfl (Or.inl rfl))
        (pss_cons (ps_if (pt_cmpR op_isN (pv 3) pe_non (nomark _))
        (pss_one (ps_ret pe_non))
        pss_nil)
      (pss_cons (ps_set (i := 1) sc_sums.nd rfl (Or.inl rfl) (pe_op op_mod (pe_op op_add (pe_op op_add (pv 1) (pv 3)) pe_int) (pe_glob (v := .int 9973) rfl T.c_RESTS_BY ⟨_, rfl⟩)))
      (pss_one (ps_set (i := 2) sc_sums.nd rfl (Or.inl rfl) (pe_op op_mod (pe_op op_add (pv 2) (pv 1)) (pe_glob (v := .int 9973) rfl T.c_RESTS_BY ⟨_, rfl⟩)))))))
      (pss_one (ps_ret (pe_tup (pa_cons (pv 1) (pa_cons (pv 2) pa_nil)))))))), ?_⟩
    refine ⟨.ref c, rfl, c, rfl, ⟨_, hC⟩, for_list (K := K) (a := c) (xs := xs.map V.int) (fun i σ H' => ∃ v3, σ = [some (.ref c), some (.int ((xs.take i).foldl Sm.step (0, 0)).1), some (.int ((xs.take i).foldl Sm.step (0, 0)).2), v3] ∧ H' = H)
      ⟨none, rfl, rfl⟩ (fun i σ H' _ ⟨_, _, e⟩ => e ▸ hC) ?_ ?_⟩
    · rintro i y σ H' hi ⟨v3, rfl, rfl⟩
      obtain ⟨x, hx, rfl⟩ := Dw.get_map hi
      refine ⟨_, rfl, rfl, _, rfl, ite2 (fun e => absurd (of_decide_eq_true e) (by intro z; cases z)) (fun _ => ?_)⟩
      refine ⟨_, rfl, _, rfl, _, _, rfl, rfl, _, 1, rfl, rfl, _, 9973, rfl, rfl, (by show (0 : Int) < 9973; decide), ?_⟩
      refine ⟨_, rfl, _, rfl, _, _, rfl, rfl, _, 9973, rfl, rfl, (by show (0 : Int) < 9973; decide), ?_⟩
      refine ⟨some (.int x), ?_, rfl⟩
      rw [Dw.map_take_succ hx, List.foldl_append]
      rfl
    · rintro σ H' ⟨v3, rfl, rfl⟩
      rw [List.length_map, List.take_length]
      refine ⟨_, rfl, _, rfl, Dw.sz_ rfl, fun t ht => ?_⟩
      exact q _ t (Dw.same_upd ht) ht upd_same

/-- seal of a key and a list of ints -/
def spSeal (K : PySem.W.Frag) : Sp := fun vs H Q _ => ∃ (c : Addr) (k : Int) (xs : List Int), vs = [.int k, .ref c] ∧ SqL K H c (xs.map V.int) ∧ 1 ≤ k ∧ k < 9973 ∧ Q (.int (Sm.sealI k xs)) H
theorem G_seal {a : Ad} (T : Top K mg a) : FnOk P w K mg base CX0 1 a.f_seal a.d_seal P_seal (spSeal K) := by
  refine T.F_seal.ok sc_seal (fun vs H Q E h => ?_) (fun cdv A outer s H vs Q E hr h => ?_)
  · obtain ⟨_, _, _, rfl, _⟩ := h
    rfl
  · obtain ⟨c, k, xs, rfl, hC, k0, k1, q⟩ := h
    refine ⟨_, (pss_cons (ps_set (i := 2) sc_seal.nd rfl (Or.inl rfl) (pv 0))
      (pss_cons (ps_for PassesOwn.never rfl (pi_list (pv 1)) (pg_name (i := 3) sc_seal.nd rfl (Or.inl rfl))
        (pss_one (ps_set (i := 2) sc_seal.nd rfl (Or.inl rfl) (pe_op op_mod (pe_op op_add (pe_op op_add (pe_op op_mul (pv 2) (pv 0)) (pv 3)) pe_int) (pe_glob (v := .int 9973) rfl T.c_RESTS_BY ⟨_, rfl⟩)))))
      (pss_one (ps_ret (pv 2))))), ?_⟩
    refine ⟨.int k, rfl, .ref c, rfl, c, rfl, ⟨_, hC⟩, for_list (K := K) (a := c) (xs := xs.map V.int) (fun i σ H' => ∃ v3, σ = [some (.int k), some (.ref c), some (.int ((xs.take i).foldl (Sm.sl k) k)), v3] ∧ H' = H)
      ⟨none, rfl, rfl⟩ (fun i σ H' _ ⟨_, _, e⟩ => e ▸ hC) ?_ ?_⟩
    · rintro i y σ H' hi ⟨v3, rfl, rfl⟩
      obtain ⟨x, hx, rfl⟩ := Dw.get_map hi
      refine ⟨_, rfl, _, rfl, _, _, rfl, rfl, .inr ⟨by omega, by omega⟩, _, rfl, _, _, rfl, rfl, _, 1, rfl, rfl, _, 9973, rfl, rfl, (by show (0 : Int) < 9973; decide), ?_⟩
      refine ⟨some (.int x), ?_, rfl⟩
      rw [Dw.map_take_succ hx, List.foldl_append]
      rfl
    · rintro σ H' ⟨v3, rfl, rfl⟩
      rw [List.length_map, List.take_length]
      exact ⟨_, rfl, q⟩

theorem eqv_sums (xs ys : List Int) : PyData.eqv (.tuple ([V.int (Sm.sumsI xs).1, V.int (Sm.sumsI xs).2].map Dw.dat)) (.tuple ([V.int (Sm.sumsI ys).1, V.int (Sm.sumsI ys).2].map Dw.dat)) = decide (Sm.sumsI xs = Sm.sumsI ys) := by
  rw [Dw.eqv_t (xs := [V.int (Sm.sumsI xs).1, V.int (Sm.sumsI xs).2]) (ys := [V.int (Sm.sumsI ys).1, V.int (Sm.sumsI ys).2]) (Dw.cel_ints (xs := [(Sm.sumsI xs).1, (Sm.sumsI xs).2])) (Dw.cel_ints (xs := [(Sm.sumsI ys).1, (Sm.sumsI ys).2]))]
  by_cases e : Sm.sumsI xs = Sm.sumsI ys
  · rw [e]
    simp
  · rw [decide_eq_false e, decide_eq_false]
    intro z
    injection z with z1 z2
    injection z2 with z2 _
    injection z1 with z1
    injection z2 with z2
    exact e (Prod.ext z1 z2)
def spLaw (K : PySem.W.Frag) : Sp := fun vs H Q _ => ∃ (a : Addr) (ns : List Int), vs = [.ref a] ∧ SqL K H a (ns.map V.int) ∧ ns.length ≤ 63 ∧ ∀ H', Q (.bl true) H'
/-- the numbers of a drawn list -/
def In (xs : List Int) : Prop := ∀ x ∈ xs, 0 ≤ x ∧ x < 9973
theorem In.at {xs : List Int} (h : In xs) {i : Nat} {x : Int} (e : xs[i]? = some x) : 0 ≤ x ∧ x < 9973 := h x (List.mem_of_getElem? e)
theorem G_law {a : Ad} (T : Top K mg a) : FnOk P w K mg base CX0 3 a.f_law a.d_law P_law (spLaw K) := by
  refine T.F_law.ok sc_law (fun vs H Q E h => ?_) (fun cdv A outer s H vs Q E hr h => ?_)
  · obtain ⟨_, _, rfl, _⟩ := h
    rfl
  · obtain ⟨sa, ns, rfl, hS, hlen, q⟩ := h
    refine ⟨_, (pss_cons (ps_set (i := 1) sc_law.nd rfl (Or.inr rfl) (pe_lst (pa_cons (pv 0) (pa_cons pe_int (pa_cons pe_int (pa_cons pe_int pa_nil))))))
      (pss_cons (ps_for PassesOwn.never rfl (pi_range1 (by rfl) T.b_range (pa_cons pe_int pa_nil)) (pg_name (i := 2) sc_law.nd rfl (Or.inl rfl))
        (pss_cons (ps_set (i := 3) sc_law.nd rfl (Or.inr rfl) (pe_lc (own := [(("_law_k" : Str), 11)]) (g := (gName 11)) (tt := tYes) (by rfl) sc_law.nd (pi_range1 (by rfl) T.b_range (pa_cons (pe_op op_add pe_int (pe_call (G_l_taken T) (hr.mono (by decide)) (by rfl) T.g_l_taken T.F_l_taken.kp T.B_l_taken .nil pass0 (pa_cons (pv 1) (pa_cons pe_int pa_nil)))) pa_nil)) (blkOk_by (own := [(("_law_k" : Str), 11)]) (N := N_law) (sc := defScope s_law) (by decide +kernel)) (fun _ _ _ _ _ => (pg_name (i := 11) sc_law.nd rfl (Or.inl rfl))) (fun _ _ _ _ _ => pts_nil) (fun _ _ _ _ _ => (pe_call (G_l_worth T) (hr.mono (by decide)) (by rfl) T.g_l_worth T.F_l_worth.kp T.B_l_worth .nil pass0 (pa_cons (pv 1) pa_nil)))))
      (pss_cons (ps_set (i := 4) sc_law.nd rfl (Or.inl rfl) (pe_call (G_l_taken T) (hr.mono (by decide)) (by rfl) T.g_l_taken T.F_l_taken.kp T.B_l_taken .nil pass0 (pa_cons (pv 1) (pa_cons (pe_callB call_len_seq (by rfl) T.b_len PySem.boot_len (pa_cons (pv 3) pa_nil)) pa_nil))))
      (pss_cons (ps_set (i := 5) sc_law.nd rfl (Or.inl rfl) (pe_call (G_l_taken T) (hr.mono (by decide)) (by rfl) T.g_l_taken T.F_l_taken.kp T.B_l_taken .nil pass0 (pa_cons (pv 1) (pa_cons (pe_callB call_len_seq (by rfl) T.b_len PySem.boot_len (pa_cons (pv 3) pa_nil)) pa_nil))))
      (pss_cons (ps_set (i := 6) sc_law.nd rfl (Or.inl rfl) (pe_op op_add pe_int (pe_call (G_l_taken T) (hr.mono (by decide)) (by rfl) T.g_l_taken T.F_l_taken.kp T.B_l_taken .nil pass0 (pa_cons (pv 1) (pa_cons pe_int pa_nil)))))
      (pss_cons (ps_set (i := 7) sc_law.nd rfl (Or.inl rfl) (pe_callTy call_list_of (by rfl) T.b_list (by decide +kernel) (pa_cons (pv 3) pa_nil)))
      (pss_cons (ps_asg (pe_call (G_l_other T) (hr.mono (by decide)) (by rfl) T.g_l_other T.F_l_other.kp T.B_l_other .nil pass0 (pa_cons (pv 1) (pa_cons (pe_ix ix_list (pv 3) (pv 4) (fun _ _ => rfl)) pa_nil))) (pg_sub (pv 7) (pv 4) set_list))
      (pss_cons (ps_set (i := 8) sc_law.nd rfl (Or.inl rfl) (pe_callTy call_list_of (by rfl) T.b_list (by decide +kernel) (pa_cons (pv 7) pa_nil)))
      (C8.pss_cut (ps_if (pt_cmpR op_ne (pv 5) (pv 4) (nomark _))
        (pss_one (ps_asg (pe_call (G_l_other T) (hr.mono (by decide)) (by rfl) T.g_l_other T.F_l_other.kp T.B_l_other .nil pass0 (pa_cons (pv 1) (pa_cons (pe_ix ix_list (pv 3) (pv 5) (fun _ _ => rfl)) pa_nil))) (pg_sub (pv 8) (pv 5) set_list)))
        pss_nil)
      (pss_cons (ps_set (i := 9) sc_law.nd rfl (Or.inl rfl) (pe_callTy call_list_of (by rfl) T.b_list (by decide +kernel) (pa_cons (pv 3) pa_nil)))
      (pss_cons (ps_asg (pe_tup (pa_cons (pe_ix ix_list (pv 3) (pv 5) (fun _ _ => rfl)) (pa_cons (pe_ix ix_list (pv 3) (pv 4) (fun _ _ => rfl)) pa_nil))) (pg_tup rfl (pgs_cons (pg_sub (pv 9) (pv 4) set_list) (pgs_cons (pg_sub (pv 9) (pv 5) set_list) pgs_nil))))
      (C8.pss_cut (ps_set (i := 10) sc_law.nd rfl (Or.inl rfl) (pe_op op_cat (pe_lst (pa_cons (pv 7) (pa_cons (pv 8) pa_nil))) (pe_op op_rep (pe_lst (pa_cons (pv 9) pa_nil)) (pe_callTy call_int1 (by rfl) T.b_int (by decide +kernel) (pa_cons (pe_cmpR (op_neD hr.units) (pv 9) (pv 3) (nomark _)) pa_nil)))))
      (pss_cons (ps_if (PW.pt (pw_or (pt_cmpR (op_neD hr.units) (pe_lc (own := [(("_law_other_here" : Str), 12)]) (g := (gName 12)) (by rfl) sc_law.nd (pi_list (pv 10)) (blkOk_by (own := [(("_law_other_here" : Str), 12)]) (N := N_law) (sc := defScope s_law) (by decide +kernel)) (fun _ _ _ _ _ => (pg_name (i := 12) sc_law.nd rfl (Or.inl rfl))) (fun _ _ _ _ _ => (pts_one (pt_cmpR (Dw.op_eqDK (K := K) rfl hr.units) (pe_call (G_sums T) (hr.mono (by decide)) (by rfl) T.g_sums T.F_sums.kp T.B_sums .nil pass0 (pa_cons (pv 12) pa_nil)) (pe_call (G_sums T) (hr.mono (by decide)) (by rfl) T.g_sums T.F_sums.kp T.B_sums .nil pass0 (pa_cons (pv 3) pa_nil)) (nomark _)))) (fun _ _ _ _ _ => (pv 12))) (pe_lst pa_nil) (nomark _)) (pw_or1 (pt_cmpR op_eq (pe_call (G_seal T) (hr.mono (by decide)) (by rfl) T.g_seal T.F_seal.kp T.B_seal .nil pass0 (pa_cons (pv 6) (pa_cons (pv 7) pa_nil))) (pe_call (G_seal T) (hr.mono (by decide)) (by rfl) T.g_seal T.F_seal.kp T.B_seal .nil pass0 (pa_cons (pv 6) (pa_cons (pv 3) pa_nil))) (nomark _)))))
        (pss_one (ps_ret pe_bl))
        pss_nil)
      (pss_cons (ps_asg (pe_ix ix_list (pv 3) (pv 4) (fun _ _ => rfl)) (pg_sub (pv 7) (pv 4) set_list))
      (pss_one (ps_if (PW.pt (pw_or (pt_cmpR (op_neD hr.units) (pe_call (G_sums T) (hr.mono (by decide)) (by rfl) T.g_sums T.F_sums.kp T.B_sums .nil pass0 (pa_cons (pv 7) pa_nil)) (pe_call (G_sums T) (hr.mono (by decide)) (by rfl) T.g_sums T.F_sums.kp T.B_sums .nil pass0 (pa_cons (pv 3) pa_nil)) (nomark _)) (pw_or1 (pt_cmpR op_ne (pe_call (G_seal T) (hr.mono (by decide)) (by rfl) T.g_seal T.F_seal.kp T.B_seal .nil pass0 (pa_cons (pv 6) (pa_cons (pv 7) pa_nil))) (pe_call (G_seal T) (hr.mono (by decide)) (by rfl) T.g_seal T.F_seal.kp T.B_seal .nil pass0 (pa_cons (pv 6) (pa_cons (pv 3) pa_nil))) (nomark _)))))
        (pss_one (ps_ret pe_bl))
        pss_nil))))))))))))))))
      (pss_one (ps_ret pe_bl)))), ?_⟩
    refine ⟨.ref sa, rfl, Dw.sz_ rfl, fun r hr0 => ?_⟩
    have D0 : Dw.Dr K H ns sa r (upd H r (.lst [.ref sa, .int 0, .int 0, .int 0])) := ⟨⟨0, 0, 0, upd_same, by decide, by decide, by decide⟩, hS, Dw.same_upd hr0, hr0, hlen⟩
    refine ⟨8, rfl, by decide, by decide, for_range (n := 8) (fun i σ H' => ∃ v2 v3 v4 v5 v6 v7 v8 v9 v10 v11 v12, σ = [some (.ref sa), some (.ref r), v2, v3, v4, v5, v6, v7, v8, v9, v10, v11, v12] ∧ Dw.Dr K H ns sa r H')
      ⟨_, _, _, _, _, _, _, _, _, _, _, rfl, D0⟩ ?_ ?_⟩
    · rintro i σ H1 hi ⟨v2, v3, v4, v5, v6, v7, v8, v9, v10, v11, v12, rfl, D1⟩
      -- the drawn list
      refine ⟨.ref r, rfl, H, ns, sa, r, 39, rfl, D1, by decide, by decide, fun n H2 D2 _ n0 n1 => ?_⟩
      refine ⟨2, n, rfl, rfl, 2 + n, rfl, by omega, by omega, fun D hD => ?_⟩
      have nD : D ≠ r := D2.ne hD
      have fD : H D = none := D2.free hD
      refine lc_range (lo := 0) (n := (2 + n).toNat) (fun i H' => Dw.Dr K H ns sa r H' ∧ ∃ xs : List Int, H' D = some (.lst (xs.map V.int)) ∧ xs.length = i ∧ In xs) ⟨D2.new hD, [], upd_same, rfl, fun _ h => by cases h⟩ ?_ ?_
      · rintro j H3 hj ⟨D3, xs, hx, hl, hb⟩
        refine ⟨rfl, ?_⟩
        refine ⟨.ref r, rfl, H, ns, sa, r, rfl, D3, fun v H4 D4 k4 v0 v1 => ?_⟩
        refine ⟨_, k4 _ _ nD hx, Dw.size_lt (by rw [List.length_map]; omega), D4.mut nD fD, xs ++ [v], ?_, by rw [List.length_append, hl]; rfl, fun y hy => ?_⟩
        · rw [upd_same, List.map_append]
          rfl
        · rcases List.mem_append.mp hy with h | h
          · exact hb y h
          · rw [List.mem_singleton.mp h]
            exact ⟨v0, v1⟩
      rintro H3 ⟨D3, xs, hx, hl, hb⟩
      have hIn := hb
      -- places, a key
      refine ⟨.ref r, rfl, .ref D, rfl, D, _, rfl, .inl (Dw.sq_of hx), H, ns, sa, r, _, rfl, D3, by rw [List.length_map]; omega, by rw [List.length_map]; omega, fun one H4 D4 k4 o0 o1 => ?_⟩
      have hx4 := k4 _ _ nD hx
      refine ⟨.ref r, rfl, .ref D, rfl, D, _, rfl, .inl (Dw.sq_of hx4), H, ns, sa, r, _, rfl, D4, by rw [List.length_map]; omega, by rw [List.length_map]; omega, fun two H5 D5 k5 t0 t1 => ?_⟩
      have hx5 := k5 _ _ nD hx4
      rw [List.length_map] at o1 t1
      obtain ⟨i1, rfl⟩ : ∃ j : Nat, one = (j : Int) := ⟨one.toNat, by omega⟩
      obtain ⟨i2, rfl⟩ : ∃ j : Nat, two = (j : Int) := ⟨two.toNat, by omega⟩
      have l1 : i1 < xs.length := by omega
      have l2 : i2 < xs.length := by omega
      obtain ⟨x1, g1⟩ : ∃ x, xs[i1]? = some x := ⟨_, List.getElem?_eq_getElem l1⟩
      obtain ⟨x2, g2⟩ : ∃ x, xs[i2]? = some x := ⟨_, List.getElem?_eq_getElem l2⟩
      refine ⟨.ref r, rfl, H, ns, sa, r, 9972, rfl, D5, by decide, by decide, fun kk H6 D6 k6 kk0 kk1 => ⟨1, kk, rfl, rfl, ?_⟩⟩
      have hx6 := k6 _ _ nD hx5
      have hk : 1 ≤ 1 + kk ∧ 1 + kk < 9973 := by omega
      -- first
      refine ⟨.ref D, rfl, D, _, rfl, .inl (Dw.sq_of hx6), fun f hf => ?_⟩
      have nf : f ≠ r := D6.ne hf
      have ff : H f = none := D6.free hf
      have nfD : D ≠ f := ne_of_none hx6 hf
      have D7 := D6.new (o := .lst (xs.map V.int)) hf
      have hx7 : (upd H6 f (.lst (xs.map V.int))) D = some (.lst (xs.map V.int)) := by rw [upd_ne nfD]; exact hx6
      refine ⟨.ref r, rfl, .ref D, rfl, .int i1, rfl, D, _, i1, .int x1, rfl, rfl, Dw.sq_of hx7, Dw.at_map g1, H, ns, sa, r, x1, rfl, D7, (hb.at g1).1, (hb.at g1).2, fun y1 H8 D8 k8 y0 y9 yne => ?_⟩
      have hx8 := k8 _ _ nD hx7
      have hf8 := k8 _ _ nf upd_same
      refine ⟨.ref f, rfl, .int i1, rfl, f, _, i1, i1, rfl, rfl, hf8, Dw.ixN_nat (by rw [List.length_map]; exact l1), ?_⟩
      have e1 : (xs.map V.int).set i1 (.int y1) = (xs.set i1 y1).map V.int := by rw [List.map_set]
      rw [e1]
      have D9 := D8.mut (o := .lst ((xs.set i1 y1).map V.int)) nf ff
      have hx9 : (upd H8 f (.lst ((xs.set i1 y1).map V.int))) D = some (.lst (xs.map V.int)) := by rw [upd_ne nfD]; exact hx8
      have hf9 : (upd H8 f (.lst ((xs.set i1 y1).map V.int))) f = some (.lst ((xs.set i1 y1).map V.int)) := upd_same
      generalize upd H8 f (.lst ((xs.set i1 y1).map V.int)) = H9 at D9 hx9 hf9 ⊢
      -- second
      refine ⟨.ref f, rfl, f, _, rfl, .inl (Dw.sq_of hf9), fun s2 hs => ?_⟩
      have nS : s2 ≠ r := D9.ne hs
      have fS : H s2 = none := D9.free hs
      have nSD : D ≠ s2 := ne_of_none hx9 hs
      have nSf : f ≠ s2 := ne_of_none hf9 hs
      have D10 := D9.new (o := .lst ((xs.set i1 y1).map V.int)) hs
      have hx10 : (upd H9 s2 (.lst ((xs.set i1 y1).map V.int))) D = some (.lst (xs.map V.int)) := by rw [upd_ne nSD]; exact hx9
      have hf10 : (upd H9 s2 (.lst ((xs.set i1 y1).map V.int))) f = some (.lst ((xs.set i1 y1).map V.int)) := by rw [upd_ne nSf]; exact hf9
      have hs10 : (upd H9 s2 (.lst ((xs.set i1 y1).map V.int))) s2 = some (.lst ((xs.set i1 y1).map V.int)) := upd_same
      generalize upd H9 s2 (.lst ((xs.set i1 y1).map V.int)) = H10 at D10 hx10 hf10 hs10 ⊢
      have neq1 : Sm.sumsI (xs.set i1 y1) ≠ Sm.sumsI xs := Sm.one_ne g1 yne (hb.at g1) ⟨y0, y9⟩
      refine ⟨fun σ' H' => ∃ ys : List Int, σ' = [some (.ref sa), some (.ref r), some (.int (0 + (i : Int))), some (.ref D), some (.int i1), some (.int i2), some (.int (1 + kk)), some (.ref f), some (.ref s2), v9, v10, v11, v12] ∧ Dw.Dr K H ns sa r H' ∧
        H' D = some (.lst (xs.map V.int)) ∧ H' f = some (.lst ((xs.set i1 y1).map V.int)) ∧ H' s2 = some (.lst (ys.map V.int)) ∧ Sm.sumsI ys ≠ Sm.sumsI xs, ?_, ?_⟩
      · refine ⟨_, rfl, _, rfl, rfl, _, rfl, ite2 (fun hne => ?_) (fun _ => ?_)⟩
        · have hij : i1 ≠ i2 := fun e => by
            subst e
            simp at hne
          refine ⟨.ref r, rfl, .ref D, rfl, .int i2, rfl, D, _, i2, .int x2, rfl, rfl, Dw.sq_of hx10, Dw.at_map g2, H, ns, sa, r, x2, rfl, D10, (hb.at g2).1, (hb.at g2).2, fun y2 H11 D11 k11 z0 z9 zne => ?_⟩
          refine ⟨.ref s2, rfl, .int i2, rfl, s2, _, i2, i2, rfl, rfl, k11 _ _ nS hs10, Dw.ixN_nat (by rw [List.length_map, List.length_set]; exact l2), ?_⟩
          refine ⟨(xs.set i1 y1).set i2 y2, rfl, D11.mut nS fS, ?_, ?_, ?_, ?_⟩
          · rw [upd_ne nSD]
            exact k11 _ _ nD hx10
          · rw [upd_ne nSf]
            exact k11 _ _ nf hf10
          · rw [upd_same]
            simp only [List.map_set]
          · exact Sm.two_ne g1 hij g2 (by omega) yne (hb.at g1) ⟨y0, y9⟩ (hb.at g2) ⟨z0, z9⟩
        · exact ⟨_, rfl, D10, hx10, hf10, hs10, neq1⟩
      · rintro σ' H11 ⟨ys, rfl, D11, hx11, hf11, hs11, neq2⟩
        -- third
        refine ⟨.ref D, rfl, D, _, rfl, .inl (Dw.sq_of hx11), fun t ht => ?_⟩
        have nT : t ≠ r := D11.ne ht
        have fT : H t = none := D11.free ht
        have nTD : D ≠ t := ne_of_none hx11 ht
        have nTf : f ≠ t := ne_of_none hf11 ht
        have nTs : s2 ≠ t := ne_of_none hs11 ht
        have D12 := D11.new (o := .lst (xs.map V.int)) ht
        have hx12 : (upd H11 t (.lst (xs.map V.int))) D = some (.lst (xs.map V.int)) := by rw [upd_ne nTD]; exact hx11
        have hf12 : (upd H11 t (.lst (xs.map V.int))) f = some (.lst ((xs.set i1 y1).map V.int)) := by rw [upd_ne nTf]; exact hf11
        have hs12 : (upd H11 t (.lst (xs.map V.int))) s2 = some (.lst (ys.map V.int)) := by rw [upd_ne nTs]; exact hs11
        have ht12 : (upd H11 t (.lst (xs.map V.int))) t = some (.lst (xs.map V.int)) := upd_same
        generalize upd H11 t (.lst (xs.map V.int)) = H12 at D12 hx12 hf12 hs12 ht12 ⊢
        refine ⟨.ref D, rfl, .int i2, rfl, D, _, i2, .int x2, rfl, rfl, Dw.sq_of hx12, Dw.at_map g2, .ref D, rfl, .int i1, rfl, D, _, i1, .int x1, rfl, rfl, Dw.sq_of hx12, Dw.at_map g1, Dw.sz_ rfl, fun u hu => ?_⟩
        have nut : t ≠ u := ne_of_none ht12 hu
        refine ⟨u, [.int x2, .int x1], rfl, Dw.st_of upd_same, rfl, .int x2, [.int x1], rfl, .ref t, rfl, .int i1, rfl, t, _, i1, i1, rfl, rfl, (by rw [upd_ne nut]; exact ht12), Dw.ixN_nat (by rw [List.length_map]; exact l1), .int x1, [], rfl, .ref t, rfl, .int i2, rfl, t, _, i2, i2, rfl, rfl, upd_same, Dw.ixN_nat (by rw [List.length_set, List.length_map]; exact l2), rfl, ?_⟩
        have nuD : D ≠ u := ne_of_none hx12 hu
        have nuf : f ≠ u := ne_of_none hf12 hu
        have nus : s2 ≠ u := ne_of_none hs12 hu
        have D13 := ((D12.new (o := .tup [.int x2, .int x1]) hu).mut (o := .lst ((xs.map V.int).set i1 (.int x2))) nT fT).mut (o := .lst (((xs.map V.int).set i1 (.int x2)).set i2 (.int x1))) nT fT
        have hx13 : (upd (upd (upd H12 u (.tup [.int x2, .int x1])) t (.lst ((xs.map V.int).set i1 (.int x2)))) t (.lst (((xs.map V.int).set i1 (.int x2)).set i2 (.int x1)))) D = some (.lst (xs.map V.int)) := by
          rw [upd_ne nTD, upd_ne nTD, upd_ne nuD]
          exact hx12
        have hf13 : (upd (upd (upd H12 u (.tup [.int x2, .int x1])) t (.lst ((xs.map V.int).set i1 (.int x2)))) t (.lst (((xs.map V.int).set i1 (.int x2)).set i2 (.int x1)))) f = some (.lst ((xs.set i1 y1).map V.int)) := by
          rw [upd_ne nTf, upd_ne nTf, upd_ne nuf]
          exact hf12
        have hs13 : (upd (upd (upd H12 u (.tup [.int x2, .int x1])) t (.lst ((xs.map V.int).set i1 (.int x2)))) t (.lst (((xs.map V.int).set i1 (.int x2)).set i2 (.int x1)))) s2 = some (.lst (ys.map V.int)) := by
          rw [upd_ne nTs, upd_ne nTs, upd_ne nus]
          exact hs12
        have ht13 : (upd (upd (upd H12 u (.tup [.int x2, .int x1])) t (.lst ((xs.map V.int).set i1 (.int x2)))) t (.lst (((xs.map V.int).set i1 (.int x2)).set i2 (.int x1)))) t = some (.lst (((xs.set i1 x2).set i2 x1).map V.int)) := by
          rw [upd_same]
          simp only [List.map_set]
        generalize upd (upd (upd H12 u (.tup [.int x2, .int x1])) t (.lst ((xs.map V.int).set i1 (.int x2)))) t (.lst (((xs.map V.int).set i1 (.int x2)).set i2 (.int x1))) = H13 at D13 hx13 hf13 hs13 ht13 ⊢
        -- others
        refine ⟨fun σ' H' => ∃ (l4 : Addr) (bs : List Addr), σ' = [some (.ref sa), some (.ref r), some (.int (0 + (i : Int))), some (.ref D), some (.int i1), some (.int i2), some (.int (1 + kk)), some (.ref f), some (.ref s2), some (.ref t), some (.ref l4), v11, v12] ∧ Dw.Dr K H ns sa r H' ∧
          H' D = some (.lst (xs.map V.int)) ∧ H' f = some (.lst ((xs.set i1 y1).map V.int)) ∧ H' l4 = some (.lst (bs.map V.ref)) ∧ ∀ b ∈ bs, ∃ ws : List Int, H' b = some (.lst (ws.map V.int)) ∧ Sm.sumsI ws ≠ Sm.sumsI xs, ?_, ?_⟩
        · refine ⟨.ref f, rfl, .ref s2, rfl, Dw.sz_ rfl, fun q1 h1 => ?_⟩
          refine ⟨.ref t, rfl, Dw.sz_ rfl, fun q2 h2 => ?_⟩
          have S1 : Same H13 (upd H13 q1 (.lst [.ref f, .ref s2])) := Dw.same_upd h1
          have S2 : Same (upd H13 q1 (.lst [.ref f, .ref s2])) (upd (upd H13 q1 (.lst [.ref f, .ref s2])) q2 (.lst [.ref t])) := Dw.same_upd h2
          have hq1 : (upd (upd H13 q1 (.lst [.ref f, .ref s2])) q2 (.lst [.ref t])) q1 = some (.lst [.ref f, .ref s2]) := S2 _ _ upd_same
          have hq2 : (upd (upd H13 q1 (.lst [.ref f, .ref s2])) q2 (.lst [.ref t])) q2 = some (.lst [.ref t]) := upd_same
          have S12 := S1.trans S2
          generalize upd (upd H13 q1 (.lst [.ref f, .ref s2])) q2 (.lst [.ref t]) = H15 at S12 hq1 hq2 ⊢
          refine ⟨.ref t, rfl, .ref D, rfl, _, _, Dw.dp_l (Dw.sq_of (S12 _ _ ht13)) Dw.cel_ints, Dw.dp_l (Dw.sq_of (S12 _ _ hx13)) Dw.cel_ints, Dw.shaped_l Dw.cel_ints, Dw.shaped_l Dw.cel_ints, ?_⟩
          have hE := Dw.eqv_l (xs := ((xs.set i1 x2).set i2 x1).map V.int) (ys := xs.map V.int) Dw.cel_ints Dw.cel_ints
          generalize PyData.eqv (.list ((((xs.set i1 x2).set i2 x1).map V.int).map Dw.dat)) (.list ((xs.map V.int).map Dw.dat)) = bb at hE ⊢
          cases bb with
          | true =>
            refine .inr ⟨_, rfl, q2, 0, [.ref t], rfl, rfl, hq2, by decide, by decide, Dw.sz_ rfl, fun q3 h3 => ?_⟩
            have S3 : Same H15 (upd H15 q3 (.lst [])) := Dw.same_upd h3
            refine ⟨q1, q3, _, _, rfl, rfl, S3 _ _ hq1, upd_same, Dw.sz_ rfl, fun q4 h4 => ?_⟩
            have S4 := (S12.trans S3).trans (Dw.same_upd (o := .lst [.ref f, .ref s2]) h4)
            refine ⟨q4, [f, s2], rfl, D13.mono S4, S4 _ _ hx13, S4 _ _ hf13, upd_same, fun b hb => ?_⟩
            rcases List.mem_cons.mp hb with rfl | hb
            · exact ⟨_, S4 _ _ hf13, neq1⟩
            · rw [List.mem_singleton.mp hb]
              exact ⟨_, S4 _ _ hs13, neq2⟩
          | false =>
            refine .inr ⟨_, rfl, q2, 1, [.ref t], rfl, rfl, hq2, by decide, by decide, Dw.sz_ rfl, fun q3 h3 => ?_⟩
            have S3 : Same H15 (upd H15 q3 (.lst [.ref t])) := Dw.same_upd h3
            refine ⟨q1, q3, _, _, rfl, rfl, S3 _ _ hq1, upd_same, Dw.sz_ rfl, fun q4 h4 => ?_⟩
            have S4 := (S12.trans S3).trans (Dw.same_upd (o := .lst [.ref f, .ref s2, .ref t]) h4)
            refine ⟨q4, [f, s2, t], rfl, D13.mono S4, S4 _ _ hx13, S4 _ _ hf13, upd_same, fun b hb => ?_⟩
            rcases List.mem_cons.mp hb with rfl | hb
            · exact ⟨_, S4 _ _ hf13, neq1⟩
            · rcases List.mem_cons.mp hb with rfl | hb
              · exact ⟨_, S4 _ _ hs13, neq2⟩
              · rw [List.mem_singleton.mp hb]
                exact ⟨_, S4 _ _ ht13, Sm.swap_ne g1 g2 (by omega) (hIn.at g1) (hIn.at g2) fun e => of_decide_eq_false hE.symm (by rw [e])⟩
        · rintro σ' H17 ⟨l4, bs, rfl, D17, hx17, hf17, hl17, hbs⟩
          refine ⟨.ref l4, rfl, l4, rfl, ⟨_, Dw.sq_of hl17⟩, fun e hE => lc_list (K := K) (a := l4) (xs := bs.map V.ref) (fun j H' => Same H17 H' ∧ H' e = some (.lst [])) ⟨Dw.same_upd hE, upd_same⟩ (fun j H' _ ⟨s, _⟩ => s.seq (Dw.sq_of hl17)) ?_ ?_⟩
          · rintro j y H18 hj ⟨s18, e18⟩
            obtain ⟨b, hb, rfl⟩ := Dw.get_map_ref hj
            obtain ⟨ws, hw, hne⟩ := hbs b (List.mem_of_getElem? hb)
            refine ⟨rfl, ?_⟩
            refine ⟨.ref b, rfl, b, ws, rfl, s18.seq (Dw.sq_of hw), fun H19 t1 s19 n19 e19 => ⟨.ref D, rfl, D, xs, rfl, (s18.trans s19).seq (Dw.sq_of hx17), fun H20 t2 s20 n20 e20 => ?_⟩⟩
            refine ⟨_, _, Dw.dp_t (Dw.st_of (s20 _ _ e19)) (Dw.cel_ints (xs := [(Sm.sumsI ws).1, (Sm.sumsI ws).2])), Dw.dp_t (Dw.st_of e20) (Dw.cel_ints (xs := [(Sm.sumsI xs).1, (Sm.sumsI xs).2])),
              Dw.shaped_t (Dw.cel_ints (xs := [(Sm.sumsI ws).1, (Sm.sumsI ws).2])), Dw.shaped_t (Dw.cel_ints (xs := [(Sm.sumsI xs).1, (Sm.sumsI xs).2])), _, rfl, ?_⟩
            rw [eqv_sums, decide_eq_false hne]
            exact iteF ⟨(s18.trans s19).trans s20, s20 _ _ (s19 _ _ e18)⟩
          · rintro H18 ⟨s18, e18⟩
            refine ⟨Dw.sz_ rfl, fun z hz => ?_⟩
            have S1 : Same H17 (upd H18 z (.lst [])) := s18.trans (Dw.same_upd hz)
            refine ⟨_, _, Dw.dp_l (xs := []) (Dw.sq_of (Dw.same_upd hz _ _ e18)) (fun v h => by cases h), Dw.dp_l (xs := []) (Dw.sq_of upd_same) (fun v h => by cases h), rfl, rfl, _, rfl, ?_⟩
            have hx18 := S1 _ _ hx17
            have hf18 := S1 _ _ hf17
            have D18 := D17.mono S1
            generalize upd H18 z (.lst []) = H21 at hx18 hf18 D18 ⊢
            refine ⟨.int (1 + kk), rfl, .ref f, rfl, f, 1 + kk, _, rfl, Dw.sq_of hf18, hk.1, hk.2, .int (1 + kk), rfl, .ref D, rfl, D, 1 + kk, _, rfl, Dw.sq_of hx18, hk.1, hk.2, rfl, _, rfl, ?_⟩
            have hsl : Sm.sealI (1 + kk) (xs.set i1 y1) ≠ Sm.sealI (1 + kk) xs := Sm.seal_ne hk g1 yne (hIn.at g1) ⟨y0, y9⟩
            rw [decide_eq_false (p := V.int (Sm.sealI (1 + kk) (xs.set i1 y1)) = V.int (Sm.sealI (1 + kk) xs)) (fun e => hsl (V.int.inj e))]
            -- led back
            refine iteF ?_
            refine ⟨.ref D, rfl, .int i1, rfl, D, _, i1, .int x1, rfl, rfl, Dw.sq_of hx18, Dw.at_map g1, .ref f, rfl, .int i1, rfl, f, _, i1, i1, rfl, rfl, hf18, Dw.ixN_nat (by rw [List.length_map, List.length_set]; exact l1), ?_⟩
            have eb : ((xs.set i1 y1).map V.int).set i1 (.int x1) = xs.map V.int := by
              rw [← List.map_set, List.set_set, Sm.set_self g1]
            rw [eb]
            have D19 := D18.mut (o := .lst (xs.map V.int)) nf ff
            have hx19 : (upd H21 f (.lst (xs.map V.int))) D = some (.lst (xs.map V.int)) := by rw [upd_ne nfD]; exact hx18
            have hf19 : (upd H21 f (.lst (xs.map V.int))) f = some (.lst (xs.map V.int)) := upd_same
            generalize upd H21 f (.lst (xs.map V.int)) = H22 at hx19 hf19 D19 ⊢
            refine ⟨.ref f, rfl, f, xs, rfl, Dw.sq_of hf19, fun H23 t1 s23 n23 e23 => ⟨.ref D, rfl, D, xs, rfl, s23.seq (Dw.sq_of hx19), fun H24 t2 s24 n24 e24 => ?_⟩⟩
            refine ⟨_, _, Dw.dp_t (Dw.st_of (s24 _ _ e23)) (Dw.cel_ints (xs := [(Sm.sumsI xs).1, (Sm.sumsI xs).2])), Dw.dp_t (Dw.st_of e24) (Dw.cel_ints (xs := [(Sm.sumsI xs).1, (Sm.sumsI xs).2])),
              Dw.shaped_t (Dw.cel_ints (xs := [(Sm.sumsI xs).1, (Sm.sumsI xs).2])), Dw.shaped_t (Dw.cel_ints (xs := [(Sm.sumsI xs).1, (Sm.sumsI xs).2])), _, rfl, ?_⟩
            rw [eqv_sums, decide_eq_true rfl]
            have S2 := s23.trans s24
            refine ⟨.int (1 + kk), rfl, .ref f, rfl, f, 1 + kk, _, rfl, Dw.sq_of (S2 _ _ hf19), hk.1, hk.2, .int (1 + kk), rfl, .ref D, rfl, D, 1 + kk, _, rfl, Dw.sq_of (S2 _ _ hx19), hk.1, hk.2, rfl, _, rfl, ?_⟩
            refine iteNS (c := V.int (Sm.sealI (1 + kk) xs) = V.int (Sm.sealI (1 + kk) xs)) rfl ?_
            exact ⟨_, _, _, _, _, _, _, _, _, _, _, rfl, D19.mono S2⟩
    · rintro σ H' ⟨v2, v3, v4, v5, v6, v7, v8, v9, v10, v11, v12, rfl, D1⟩
      exact q _
end
theorem all_mk {l : PySem.W.OpenLaw} {w : World} {K : PySem.W.Frag} {h : Heap} {mg : Str → Option Value} {fa : Addr} (X : K.In h) (G : h.Ns mainGlobals mg) (hfa : mg "law" = some (.ref fa))
    {f1 : Addr} {od1 an1 : Option Addr} {sl1 : Array (Option Value)} {oc1 kV1 dc1 pm1 cd1 ct1 : Value}
    (a1 : PySem.W.nsIn K mainGlobals "sums" = some (some (.ref f1))) (l1 : K.lookup f1 = some ⟨oc1, od1, .func (PySem.W.fnOf "sums" "sums" (defArgs s_sums) (defBody s_sums) (defScope s_sums) .none kV1 dc1 pm1 an1 cd1 ct1), sl1⟩) (c1 : PySem.W.codeIn K cd1 "sums" = true) (k1 : PySem.W.keepIn K (.ref f1) = true)
    {f2 : Addr} {od2 an2 : Option Addr} {sl2 : Array (Option Value)} {oc2 kV2 dc2 pm2 cd2 ct2 : Value}
    (a2 : PySem.W.nsIn K mainGlobals "seal" = some (some (.ref f2))) (l2 : K.lookup f2 = some ⟨oc2, od2, .func (PySem.W.fnOf "seal" "seal" (defArgs s_seal) (defBody s_seal) (defScope s_seal) .none kV2 dc2 pm2 an2 cd2 ct2), sl2⟩) (c2 : PySem.W.codeIn K cd2 "seal" = true) (k2 : PySem.W.keepIn K (.ref f2) = true)
    {f3 : Addr} {od3 an3 : Option Addr} {sl3 : Array (Option Value)} {oc3 kV3 dc3 pm3 cd3 ct3 : Value}
    (a3 : PySem.W.nsIn K mainGlobals "_law_taken" = some (some (.ref f3))) (l3 : K.lookup f3 = some ⟨oc3, od3, .func (PySem.W.fnOf "_law_taken" "_law_taken" (defArgs s_l_taken) (defBody s_l_taken) (defScope s_l_taken) .none kV3 dc3 pm3 an3 cd3 ct3), sl3⟩) (c3 : PySem.W.codeIn K cd3 "_law_taken" = true) (k3 : PySem.W.keepIn K (.ref f3) = true)
    {f4 : Addr} {od4 an4 : Option Addr} {sl4 : Array (Option Value)} {oc4 kV4 dc4 pm4 cd4 ct4 : Value}
    (a4 : PySem.W.nsIn K mainGlobals "_law_worth" = some (some (.ref f4))) (l4 : K.lookup f4 = some ⟨oc4, od4, .func (PySem.W.fnOf "_law_worth" "_law_worth" (defArgs s_l_worth) (defBody s_l_worth) (defScope s_l_worth) .none kV4 dc4 pm4 an4 cd4 ct4), sl4⟩) (c4 : PySem.W.codeIn K cd4 "_law_worth" = true) (k4 : PySem.W.keepIn K (.ref f4) = true)
    {f5 : Addr} {od5 an5 : Option Addr} {sl5 : Array (Option Value)} {oc5 kV5 dc5 pm5 cd5 ct5 : Value}
    (a5 : PySem.W.nsIn K mainGlobals "_law_other" = some (some (.ref f5))) (l5 : K.lookup f5 = some ⟨oc5, od5, .func (PySem.W.fnOf "_law_other" "_law_other" (defArgs s_l_other) (defBody s_l_other) (defScope s_l_other) .none kV5 dc5 pm5 an5 cd5 ct5), sl5⟩) (c5 : PySem.W.codeIn K cd5 "_law_other" = true) (k5 : PySem.W.keepIn K (.ref f5) = true)
    {f6 : Addr} {od6 an6 : Option Addr} {sl6 : Array (Option Value)} {oc6 kV6 dc6 pm6 cd6 ct6 : Value}
    (a6 : PySem.W.nsIn K mainGlobals "law" = some (some (.ref f6))) (l6 : K.lookup f6 = some ⟨oc6, od6, .func (PySem.W.fnOf "law" "law" (defArgs s_law) (defBody s_law) (defScope s_law) .none kV6 dc6 pm6 an6 cd6 ct6), sl6⟩) (c6 : PySem.W.codeIn K cd6 "law" = true) (k6 : PySem.W.keepIn K (.ref f6) = true)
    (z_int : PySem.W.nsIn K mainGlobals "int" = some none)
    (z_len : PySem.W.nsIn K mainGlobals "len" = some none)
    (z_list : PySem.W.nsIn K mainGlobals "list" = some none)
    (z_range : PySem.W.nsIn K mainGlobals "range" = some none)
    {t_RESTS_BY : Tok} (y_RESTS_BY : PySem.W.nsIn K mainGlobals "RESTS_BY" = some (some (.int 9973 t_RESTS_BY)))
    : ∃ fd : FuncData, (∀ (s : Shared) (v : Value), BindsTo s fd ⟨[v], []⟩ [("_law_script", v)]) ∧ ∀ base : Heap, K.In base → base.Ns mainGlobals mg → FnOk l.prog w K mg base CX0 3 fa fd ["_law_script"] (spLaw K) := by
  have e := hfa.symm.trans (PySem.W.mg_of X G a6)
  cases e
  have F1 := fun_mk (st := s_sums) l1 c1 k1
  have b1 := F1.binds (ps := P_sums) fun _ _ _ _ _ _ us hl => match us, hl with | [_], _ => rfl
  have F2 := fun_mk (st := s_seal) l2 c2 k2
  have b2 := F2.binds (ps := P_seal) fun _ _ _ _ _ _ us hl => match us, hl with | [_, _], _ => rfl
  have F3 := fun_mk (st := s_l_taken) l3 c3 k3
  have b3 := F3.binds (ps := P_l_taken) fun _ _ _ _ _ _ us hl => match us, hl with | [_, _], _ => rfl
  have F4 := fun_mk (st := s_l_worth) l4 c4 k4
  have b4 := F4.binds (ps := P_l_worth) fun _ _ _ _ _ _ us hl => match us, hl with | [_], _ => rfl
  have F5 := fun_mk (st := s_l_other) l5 c5 k5
  have b5 := F5.binds (ps := P_l_other) fun _ _ _ _ _ _ us hl => match us, hl with | [_, _], _ => rfl
  have F6 := fun_mk (st := s_law) l6 c6 k6
  have b6 := F6.binds (ps := P_law) fun _ _ _ _ _ _ us hl => match us, hl with | [_], _ => rfl
  have T : Top K mg ⟨f1, _, f2, _, f3, _, f4, _, f5, _, _, _, t_RESTS_BY⟩ := ⟨F1, b1, PySem.W.mg_of X G a1, F2, b2, PySem.W.mg_of X G a2, F3, b3, PySem.W.mg_of X G a3, F4, b4, PySem.W.mg_of X G a4, F5, b5, PySem.W.mg_of X G a5, F6, b6, PySem.W.mg_of X G a6, PySem.W.mg_none_of X G z_int, PySem.W.mg_none_of X G z_len, PySem.W.mg_none_of X G z_list, PySem.W.mg_none_of X G z_range, PySem.W.mg_of X G y_RESTS_BY⟩
  exact ⟨PySem.W.fnOf "law" "law" (defArgs s_law) (defBody s_law) (defScope s_law) .none kV6 dc6 pm6 an6 cd6 ct6, fun s v => .of_eq rfl, fun base _ _ => G_law T⟩
end K04
open PySem PySem.W PyProof.Rows
set_option maxRecDepth 100000 in
set_option maxHeartbeats 0 in
theorem PySem.Challenge.cw_twoimages_k04_whole_one_or_two_changed_holds : PySem.Challenge.rw_twoimages_k04_whole_one_or_two_changed.Holds := by
  w_on; o_law; k_head; (case hw => w_witness2)
  k_fill
  refine L2.walk_of (l := PySem.Challenge.rw_twoimages_k04_whole_one_or_two_changed) (n := 63) (k := 3) (x := "_law_script") (CX := fun _ => L2.CX0) (sp := fun w => K04.spLaw _) rfl (by decide) rfl ⟨rfl, by decide, by decide⟩ (fun w h Y => PySem.W.kIn_of Y) ?F (fun _ _ a ns hl _ hS => ⟨a, ns, rfl, hS, hl, fun _ => rfl⟩) (fun _ _ _ _ _ h => h)
  case F =>
    intro w mg fa h KX G hmg
    refine' K04.all_mk KX G hmg ?a1 ?l1 ?c1 ?k1 ?a2 ?l2 ?c2 ?k2 ?a3 ?l3 ?c3 ?k3 ?a4 ?l4 ?c4 ?k4 ?a5 ?l5 ?c5 ?k5 ?a6 ?l6 ?c6 ?k6 ?z_int ?z_len ?z_list ?z_range ?y_RESTS_BY
    (case a1 => k_is); (case l1 => k_is); (case c1 => k_is); (case k1 => k_is); (case a2 => k_is); (case l2 => k_is); (case c2 => k_is); (case k2 => k_is); (case a3 => k_is); (case l3 => k_is); (case c3 => k_is); (case k3 => k_is); (case a4 => k_is); (case l4 => k_is); (case c4 => k_is); (case k4 => k_is); (case a5 => k_is); (case l5 => k_is); (case c5 => k_is); (case k5 => k_is); (case a6 => k_is); (case l6 => k_is); (case c6 => k_is); (case k6 => k_is); (case z_int => k_is); (case z_len => k_is); (case z_list => k_is); (case z_range => k_is); (case y_RESTS_BY => k_is)

