import PyProof.Rows.All
import Wide.All
import OpenK.AllK
import Wide.FinOn
import HandS.ForMost
import HandS.Walk
import HandS.Wide
import HandS.Deep
import HandS.TupAny
import HandS.Style
import HandS.IsInst
import HandS.Flow
import KE.KRevSl
import HandS.ForExc
import HandS.ExcInit
import HandS.ExcField
import HandS.ExcIs
import HandS.ExcValue
import HandS.DeepEq
import KE.KExcIs
import KE.SortKeyHeap
import HandS.SortKw
import PyProof.FactsAll.dict
import PyProof.FactsAll.subtypes
import KE.DataEq
import HandS.TryMany
import HandS.Iter
import KE.GoesEnum
import HandS.ExcOwn
import HandS.ClsMeth
import HandS.Property
import HandS.OwnEq
import HandS.MakeKwOnly
import HandS.CallLocal
import HandS.FStr
import KE.KCallOwn
import KE.KFmtOwn
import PyProof.InstEq
import HandS.Star
import HandS.Zip
import HandS.DictComp
import HandS.Finally
import HandS.More
import KE.KEqNest
import KE.DataFind
import HandS.TupMul
import PySem.Challenge.RW_openshares_k41_threshold_schemes
set_option linter.all false
set_option maxHeartbeats 1000000
/-! linear algebra modulo p, over rows as functions of the place -/
namespace LA
abbrev Vec := Nat → Int
/-- c1 v1 + c2 v2 + .. at the place j -/
def lin : List Int → List Vec → Nat → Int
  | c :: cs, v :: vs, j => c * v j + lin cs vs j
  | _, _, _ => 0
theorem lin_nil_left (vs : List Vec) (j : Nat) : lin [] vs j = 0 := by cases vs <;> rfl
theorem lin_nil_right (cs : List Int) (j : Nat) : lin cs [] j = 0 := by cases cs <;> rfl
theorem lin_append : ∀ {c1 : List Int} {v1 : List Vec} (c2 : List Int) (v2 : List Vec) (j : Nat), c1.length = v1.length → lin (c1 ++ c2) (v1 ++ v2) j = lin c1 v1 j + lin c2 v2 j
  | [], [], c2, v2, j, _ => by simp [lin]
  | [], _ :: _, _, _, _, h => by simp at h
  | _ :: _, [], _, _, _, h => by simp at h
  | c :: cs, v :: vs, c2, v2, j, h => by
    show c * v j + lin (cs ++ c2) (vs ++ v2) j = (c * v j + lin cs vs j) + lin c2 v2 j
    rw [lin_append c2 v2 j (by simpa using h)]
    omega
theorem lin_zero : ∀ (n : Nat) (vs : List Vec) (j : Nat), lin (List.replicate n 0) vs j = 0
  | 0, vs, j => lin_nil_left vs j
  | n + 1, [], j => rfl
  | n + 1, v :: vs, j => by
    show 0 * v j + lin (List.replicate n 0) vs j = 0
    rw [lin_zero n vs j]
    omega
theorem lin_add : ∀ {a b : List Int} {vs : List Vec} (j : Nat), a.length = b.length → lin (List.zipWith (· + ·) a b) vs j = lin a vs j + lin b vs j
  | [], [], vs, j, _ => by simp [lin_nil_left]
  | [], _ :: _, _, _, h => by simp at h
  | _ :: _, [], _, _, h => by simp at h
  | a :: as, b :: bs, [], j, h => by simp [lin_nil_right]
  | a :: as, b :: bs, v :: vs, j, h => by
    show (a + b) * v j + lin (List.zipWith (· + ·) as bs) vs j = (a * v j + lin as vs j) + (b * v j + lin bs vs j)
    rw [lin_add (a := as) (b := bs) j (by simpa using h), Int.add_mul]
    omega
theorem lin_smul (k : Int) : ∀ (a : List Int) (vs : List Vec) (j : Nat), lin (a.map (k * ·)) vs j = k * lin a vs j
  | [], vs, j => by simp [lin_nil_left]
  | a :: as, [], j => by simp [lin_nil_right]
  | a :: as, v :: vs, j => by
    show k * a * v j + lin (as.map (k * ·)) vs j = k * (a * v j + lin as vs j)
    rw [lin_smul k as vs j, Int.mul_add, Int.mul_assoc]
/-- in the span, at the places below n -/
def InS (p : Int) (n : Nat) (L : List Vec) (v : Vec) : Prop := ∃ c : List Int, c.length = L.length ∧ ∀ j, j < n → p ∣ v j - lin c L j
section
variable {p : Int} {n : Nat} {L M : List Vec} {u v : Vec}
theorem dvd_mul_r {a : Int} (t : Int) (h : p ∣ a) : p ∣ t * a := Int.dvd_trans h (Int.dvd_mul_left _ _)
theorem dvd_congr {a b : Int} (h : p ∣ a) (e : a = b) : p ∣ b := e ▸ h
theorem InS.congr (h : InS p n L v) (e : ∀ j, j < n → p ∣ u j - v j) : InS p n L u := by
  obtain ⟨c, hc, h⟩ := h
  exact ⟨c, hc, fun j hj => dvd_congr (Int.dvd_add (e j hj) (h j hj)) (by omega)⟩
theorem InS.zero : InS p n L (fun _ => 0) := ⟨List.replicate L.length 0, by simp, fun j _ => by rw [lin_zero]; exact ⟨0, by show (0 : Int) - 0 = p * 0; omega⟩⟩
theorem InS.add (h : InS p n L u) (k : InS p n L v) : InS p n L (fun j => u j + v j) := by
  obtain ⟨a, ha, h⟩ := h
  obtain ⟨b, hb, k⟩ := k
  refine ⟨List.zipWith (· + ·) a b, by simp [ha, hb], fun j hj => ?_⟩
  rw [lin_add j (ha.trans hb.symm)]
  exact dvd_congr (Int.dvd_add (h j hj) (k j hj)) (by show _ = u j + v j - _; omega)
theorem InS.smul (t : Int) (h : InS p n L u) : InS p n L (fun j => t * u j) := by
  obtain ⟨a, ha, h⟩ := h
  refine ⟨a.map (t * ·), by simp [ha], fun j hj => ?_⟩
  rw [lin_smul]
  exact dvd_congr (dvd_mul_r t (h j hj)) (Int.mul_sub _ _ _)
theorem InS.lin : ∀ {c : List Int} {L : List Vec}, (∀ w ∈ L, InS p n M w) → InS p n M (fun j => LA.lin c L j)
  | [], L, _ => by
    have : (fun j => LA.lin [] L j) = fun _ => 0 := funext fun j => lin_nil_left L j
    rw [this]
    exact .zero
  | c :: cs, [], _ => by
    show InS p n M (fun _ => 0)
    exact .zero
  | c :: cs, w :: ws, h => ((h w (.head _)).smul c).add (InS.lin (c := cs) fun x hx => h x (.tail _ hx))
theorem InS.trans (h : InS p n L v) (k : ∀ w ∈ L, InS p n M w) : InS p n M v := by
  obtain ⟨c, hc, h⟩ := h
  exact (InS.lin (c := c) k).congr h
theorem InS.cons (h : InS p n L v) : InS p n (u :: L) v := by
  obtain ⟨c, hc, h⟩ := h
  refine ⟨0 :: c, by simp [hc], fun j hj => dvd_congr (h j hj) ?_⟩
  show _ = v j - (0 * u j + LA.lin c L j)
  omega
theorem InS.head : InS p n (v :: L) v := by
  refine ⟨1 :: List.replicate L.length 0, by simp, fun j _ => ?_⟩
  show p ∣ v j - (1 * v j + LA.lin (List.replicate L.length 0) L j)
  rw [lin_zero]
  exact ⟨0, by omega⟩
theorem InS.mem : ∀ {L : List Vec}, v ∈ L → InS p n L v
  | _ :: _, .head _ => .head
  | _ :: _, .tail _ h => (InS.mem h).cons
theorem InS.sub (h : InS p n L u) (k : InS p n L v) (t : Int) : InS p n L (fun j => u j - t * v j) :=
  (h.add (k.smul (-t))).congr fun j _ => ⟨0, by rw [Int.neg_mul]; omega⟩
end
/-- every number but the multiples of p has an inverse -/
def Inv (p : Int) : Prop := ∀ a : Int, ¬ p ∣ a → ∃ b : Int, p ∣ a * b - 1
theorem lin_all {p : Int} {j : Nat} : ∀ {L : List Vec}, (∀ v ∈ L, p ∣ v j) → ∀ c : List Int, p ∣ lin c L j
  | [], _, c => by rw [lin_nil_right]; exact ⟨0, by show (0 : Int) = p * 0; omega⟩
  | _ :: _, _, [] => ⟨0, by show (0 : Int) = p * 0; omega⟩
  | v :: L, q, a :: c => Int.dvd_add (dvd_mul_r a (q v (.head _))) (lin_all (fun w hw => q w (.tail _ hw)) c)
/-- more unknowns than equations: a solution that is not nought -/
theorem hom {p : Int} (hp : Inv p) (h1 : ¬ p ∣ 1) : ∀ (s : Nat) (L : List Vec), s < L.length → ∃ c : List Int, c.length = L.length ∧ (∃ x ∈ c, ¬ p ∣ x) ∧ ∀ j, j < s → p ∣ lin c L j
  | 0, [], h => absurd h (by simp)
  | 0, v :: L, _ => ⟨1 :: List.replicate L.length 0, by simp, ⟨1, .head _, h1⟩, fun j h => absurd h (by omega)⟩
  | s + 1, L, h => by
    by_cases q : ∀ v ∈ L, p ∣ v s
    · obtain ⟨c, hc, hx, hj⟩ := hom hp h1 s L (by omega)
      refine ⟨c, hc, hx, fun j h => ?_⟩
      by_cases e : j = s
      · subst e
        exact lin_all q c
      · exact hj j (by omega)
    · obtain ⟨v, q⟩ := Classical.not_forall.mp q
      obtain ⟨hv, hn⟩ := Classical.not_imp.mp q
      obtain ⟨L1, L2, rfl⟩ := List.append_of_mem hv
      obtain ⟨u, hu⟩ := hp _ hn
      let f : Vec → Vec := fun w j => w j - w s * u * v j
      obtain ⟨c, hc, hx, hj⟩ := hom hp h1 s ((L1 ++ L2).map f) (by simp at h ⊢; omega)
      have linf : ∀ (c : List Int) (M : List Vec) (j : Nat), lin c (M.map f) j = lin c M j - lin c M s * u * v j := by
        intro c M j
        induction M generalizing c with
        | nil => simp [lin_nil_right]
        | cons w M ih =>
          cases c with
          | nil => simp [lin_nil_left]
          | cons a c =>
            show a * (w j - w s * u * v j) + lin c (M.map f) j = (a * w j + lin c M j) - (a * w s + lin c M s) * u * v j
            rw [ih c, Int.mul_sub, Int.add_mul, Int.add_mul]
            have : a * (w s * u * v j) = a * w s * u * v j := by rw [Int.mul_assoc, Int.mul_assoc, Int.mul_assoc]
            omega
      have hlc : c.length = L1.length + L2.length := by simpa using hc
      let c1 := c.take L1.length
      let c2 := c.drop L1.length
      have e1 : c1.length = L1.length := by simp [c1]; omega
      have e2 : c2.length = L2.length := by simp [c2]; omega
      have ec : c = c1 ++ c2 := (List.take_append_drop _ _).symm
      let k : Int := -(u * lin c (L1 ++ L2) s)
      have tot : ∀ j, lin (c1 ++ k :: c2) (L1 ++ v :: L2) j = lin c (L1 ++ L2) j + k * v j := by
        intro j
        rw [lin_append _ _ _ e1, ec, lin_append _ _ _ e1]
        show lin c1 L1 j + (k * v j + lin c2 L2 j) = _
        omega
      refine ⟨c1 ++ k :: c2, by simp [e1, e2], ?_, fun j h => ?_⟩
      · obtain ⟨x, hx, hx'⟩ := hx
        rw [ec] at hx
        exact ⟨x, (List.mem_append.mp hx).elim (fun z => List.mem_append_left _ z) (fun z => List.mem_append_right _ (.tail _ z)), hx'⟩
      · rw [tot j]
        have hk : k * v j = -(lin c (L1 ++ L2) s * u * v j) := by
          show -(u * lin c (L1 ++ L2) s) * v j = _
          rw [Int.neg_mul, Int.mul_comm u]
        by_cases e : j = s
        · subst e
          rw [hk]
          have : lin c (L1 ++ L2) j + -(lin c (L1 ++ L2) j * u * v j) = -(lin c (L1 ++ L2) j * (v j * u - 1)) := by
            rw [Int.mul_sub, Int.mul_one, Int.mul_assoc, Int.mul_comm u]
            omega
          rw [this]
          exact Int.dvd_neg.mpr (dvd_mul_r _ hu)
        · have := hj j (by omega)
          rw [linf] at this
          rw [hk]
          exact dvd_congr this (by omega)
/-- independent at the places below n -/
def Indep (p : Int) (n : Nat) (V : List Vec) : Prop := ∀ c : List Int, c.length = V.length → (∀ j, j < n → p ∣ lin c V j) → ∀ x ∈ c, p ∣ x
def linf (f : Nat → Int) : List Vec → Nat → Int
  | [], _ => 0
  | w :: ws, j => f 0 * w j + linf (fun k => f (k + 1)) ws j
theorem lin_linf : ∀ {a : List Int} {W : List Vec} (j : Nat), a.length = W.length → lin a W j = linf (fun k => a.getD k 0) W j
  | [], [], _, _ => rfl
  | [], _ :: _, _, h => by simp at h
  | _ :: _, [], _, h => by simp at h
  | a :: as, w :: ws, j, h => by
    show a * w j + lin as ws j = a * w j + linf (fun k => as.getD k 0) ws j
    rw [lin_linf j (by simpa using h)]
theorem linf_add : ∀ (f g : Nat → Int) (c : Int) (W : List Vec) (j : Nat), linf (fun k => c * f k + g k) W j = c * linf f W j + linf g W j
  | f, g, c, [], j => by simp [linf]
  | f, g, c, w :: ws, j => by
    show (c * f 0 + g 0) * w j + linf (fun k => c * f (k + 1) + g (k + 1)) ws j = c * (f 0 * w j + linf (fun k => f (k + 1)) ws j) + (g 0 * w j + linf (fun k => g (k + 1)) ws j)
    rw [linf_add, Int.add_mul, Int.mul_add, Int.mul_assoc]
    omega
theorem linf_zero : ∀ (W : List Vec) (j : Nat), linf (fun _ => 0) W j = 0
  | [], _ => rfl
  | w :: ws, j => by
    show 0 * w j + linf (fun _ => 0) ws j = 0
    rw [linf_zero ws j]
    omega
theorem linf_dvd {p : Int} : ∀ (f : Nat → Int) (W : List Vec) (j : Nat), (∀ k, k < W.length → p ∣ f k) → p ∣ linf f W j
  | f, [], j, _ => ⟨0, by show (0 : Int) = p * 0; omega⟩
  | f, w :: ws, j, h => Int.dvd_add (Int.dvd_trans (h 0 (by simp)) (Int.dvd_mul_right _ _)) (linf_dvd _ ws j fun k hk => h (k + 1) (by simpa using hk))
theorem steinitz {p : Int} {n : Nat} (hp : Inv p) (h1 : ¬ p ∣ 1) {V W : List Vec} (hi : Indep p n V) (hs : ∀ v ∈ V, InS p n W v) : V.length ≤ W.length := by
  apply Classical.byContradiction
  intro hlt
  have hex : ∀ v : Vec, ∃ a : List Int, InS p n W v → a.length = W.length ∧ ∀ j, j < n → p ∣ v j - lin a W j := fun v => by
    by_cases q : InS p n W v
    · obtain ⟨a, h⟩ := q
      exact ⟨a, fun _ => h⟩
    · exact ⟨[], fun z => absurd z q⟩
  let co : Vec → List Int := fun v => Classical.choose (hex v)
  have hco : ∀ v, InS p n W v → (co v).length = W.length ∧ ∀ j, j < n → p ∣ v j - lin (co v) W j := fun v => Classical.choose_spec (hex v)
  let mat : Vec → Vec := fun v k => (co v).getD k 0
  obtain ⟨c, hc, ⟨x, hx, hx'⟩, hj⟩ := hom hp h1 W.length (V.map mat) (by rw [List.length_map]; omega)
  have key : ∀ (V' : List Vec) (c : List Int), (∀ v ∈ V', InS p n W v) → ∀ j, j < n → p ∣ lin c V' j - linf (fun k => lin c (V'.map mat) k) W j := by
    intro V'
    induction V' with
    | nil =>
      intro c _ j hj
      have : (fun k => lin c ([].map mat) k) = fun _ => 0 := funext fun k => lin_nil_right c k
      rw [this, lin_nil_right, linf_zero]
      exact ⟨0, by show (0 : Int) - 0 = p * 0; omega⟩
    | cons v V' ih =>
      intro c h j hj
      cases c with
      | nil =>
        have : (fun k => lin [] ((v :: V').map mat) k) = fun _ => 0 := funext fun k => lin_nil_left _ k
        rw [this, lin_nil_left, linf_zero]
        exact ⟨0, by show (0 : Int) - 0 = p * 0; omega⟩
      | cons a c =>
        have h1 := ih c (fun w hw => h w (.tail _ hw)) j hj
        obtain ⟨hl, hv⟩ := hco v (h v (.head _))
        have h2 := hv j hj
        rw [lin_linf j hl] at h2
        show p ∣ (a * v j + lin c V' j) - linf (fun k => a * mat v k + lin c (V'.map mat) k) W j
        rw [linf_add]
        refine dvd_congr (Int.dvd_add (dvd_mul_r a h2) h1) ?_
        show a * (v j - linf (mat v) W j) + _ = _
        rw [Int.mul_sub]
        show _ = _ - (a * linf (fun k => (co v).getD k 0) W j + linf (fun k => lin c (V'.map mat) k) W j)
        generalize linf (fun k => (co v).getD k 0) W j = t1 at *
        generalize linf (fun k => lin c (V'.map mat) k) W j = t2 at *
        omega
  have hz : ∀ j, j < n → p ∣ lin c V j := fun j hjn => by
    have h2 := linf_dvd (p := p) (fun k => lin c (V.map mat) k) W j fun k hk => hj k hk
    exact dvd_congr (Int.dvd_add (key V c hs j hjn) h2) (by omega)
  exact hx' (hi c (by simpa using hc) hz x hx)
/-- the rank of rows, at the places below n -/
def IsRank (p : Int) (n : Nat) (R : List Vec) (r : Nat) : Prop := ∃ B : List Vec, B.length = r ∧ Indep p n B ∧ (∀ b ∈ B, InS p n R b) ∧ ∀ v ∈ R, InS p n B v
theorem IsRank.one {p : Int} {n : Nat} (hp : Inv p) (h1 : ¬ p ∣ 1) {R R' : List Vec} {r s : Nat} (h : IsRank p n R r) (k : IsRank p n R' s) (a : ∀ v ∈ R, InS p n R' v) (b : ∀ v ∈ R', InS p n R v) : r = s := by
  obtain ⟨B, rfl, hi, hb, hr⟩ := h
  obtain ⟨C, rfl, ki, kc, kr⟩ := k
  exact Nat.le_antisymm (steinitz hp h1 hi fun v hv => ((hb v hv).trans a).trans kr) (steinitz hp h1 ki fun v hv => ((kc v hv).trans b).trans hr)
/-- every row has a place where it is not nought and the later ones are -/
inductive Tri (p : Int) (n : Nat) : List Vec → Prop
  | nil : Tri p n []
  | cons {v : Vec} {V : List Vec} (l : Nat) (hl : l < n) (h : p ∣ v l - 1) (hz : ∀ w ∈ V, p ∣ w l) (t : Tri p n V) : Tri p n (v :: V)
theorem lin_dvd {p : Int} {l : Nat} : ∀ (c : List Int) (V : List Vec), (∀ w ∈ V, p ∣ w l) → p ∣ lin c V l
  | [], V, _ => by rw [lin_nil_left]; exact ⟨0, by omega⟩
  | _ :: _, [], _ => ⟨0, by show (0 : Int) = p * 0; omega⟩
  | a :: c, w :: V, h => Int.dvd_add (dvd_mul_r a (h w (.head _))) (lin_dvd c V fun x hx => h x (.tail _ hx))
theorem Tri.indep {p : Int} {n : Nat} : ∀ {V : List Vec}, Tri p n V → Indep p n V
  | [], _, c, hc, _ => by
    intro x hx
    rw [List.eq_nil_of_length_eq_zero hc] at hx
    cases hx
  | v :: V, .cons l hl h hz t, c, hc, hj => by
    cases c with
    | nil => intro x hx; cases hx
    | cons a c =>
      have h1 : p ∣ a := by
        have h2 := hj l hl
        have h3 := lin_dvd c V hz
        have h4 : p ∣ a * v l := dvd_congr (Int.dvd_sub h2 h3) (by show a * v l + lin c V l - lin c V l = _; omega)
        have h5 := dvd_mul_r a h
        exact dvd_congr (Int.dvd_sub h4 h5) (by rw [Int.mul_sub]; omega)
      intro x hx
      rcases List.mem_cons.mp hx with rfl | hx
      · exact h1
      · refine t.indep c (by simpa using hc) (fun j hjn => ?_) x hx
        have h2 := hj j hjn
        exact dvd_congr (Int.dvd_sub h2 (Int.dvd_trans h1 (Int.dvd_mul_right _ (v j)))) (by show a * v j + lin c V j - a * v j = _; omega)
end LA
set_option linter.all false
set_option maxHeartbeats 1000000
/-! two ways of clearing rows modulo p -/
namespace LA
def at_ (r : List Int) : Vec := fun k => r.getD k 0
theorem at_get {r : List Int} {k : Nat} (h : k < r.length) : at_ r k = r[k] := by
  unfold at_
  rw [List.getD_eq_getElem?_getD, List.getElem?_eq_getElem h]
  rfl
theorem at_out {r : List Int} {k : Nat} (h : r.length ≤ k) : at_ r k = 0 := by
  unfold at_
  rw [List.getD_eq_getElem?_getD, List.getElem?_eq_none h]
  rfl
/-- a row of n numbers from 0 to p - 1 -/
structure Row (p : Int) (n : Nat) (r : List Int) : Prop where
  len : r.length = n
  rng : ∀ x ∈ r, 0 ≤ x ∧ x < p
theorem Row.at_rng {p : Int} {n : Nat} {r : List Int} (h : Row p n r) (hp : 0 < p) (k : Nat) : 0 ≤ at_ r k ∧ at_ r k < p := by
  by_cases q : k < r.length
  · rw [at_get q]
    exact h.rng _ (List.getElem_mem q)
  · rw [at_out (by omega)]
    omega
theorem dvd_mod (p a : Int) : p ∣ a % p - a := by
  have := Int.emod_add_mul_ediv a p
  exact ⟨-(a / p), by rw [Int.mul_neg]; omega⟩
theorem dvd_mod' (p a : Int) : p ∣ a - a % p := by
  have := Int.emod_add_mul_ediv a p
  exact ⟨a / p, by omega⟩
theorem mod_rng {p : Int} (hp : 0 < p) (a : Int) : 0 ≤ a % p ∧ a % p < p := ⟨Int.emod_nonneg _ (by omega), Int.emod_lt_of_pos _ hp⟩
theorem zip_at {g : Int → Int → Int} {n : Nat} {r o : List Int} (hr : r.length = n) (ho : o.length = n) {k : Nat} (hk : k < n) : at_ (List.zipWith g r o) k = g (at_ r k) (at_ o k) := by
  rw [at_get (by simp; omega), at_get (by omega), at_get (by omega), List.getElem_zipWith]
theorem map_at {g : Int → Int} {r : List Int} {k : Nat} (hk : k < r.length) : at_ (r.map g) k = g (at_ r k) := by
  rw [at_get (by simpa using hk), at_get hk, List.getElem_map]
/-- row - f * other -/
def lessL (p : Int) (r : List Int) (f : Int) (o : List Int) : List Int := if f = 0 then r else List.zipWith (fun a b => (a - f * b) % p) r o
section
variable {p : Int} {n : Nat}
theorem lessL_row (hp : 0 < p) {r o : List Int} (f : Int) (hr : Row p n r) (ho : o.length = n) : Row p n (lessL p r f o) := by
  unfold lessL
  split
  · exact hr
  · refine ⟨by simp [hr.len, ho], fun x hx => ?_⟩
    obtain ⟨i, hi, rfl⟩ := List.mem_iff_getElem.mp hx
    rw [List.getElem_zipWith]
    exact mod_rng hp _
theorem lessL_at {r o : List Int} (hp : 0 < p) (f : Int) (hr : Row p n r) (ho : o.length = n) {k : Nat} (hk : k < n) : at_ (lessL p r f o) k = (at_ r k - f * at_ o k) % p := by
  unfold lessL
  split
  · next e =>
    subst e
    rw [Int.zero_mul, Int.sub_zero, Int.emod_eq_of_lt (hr.at_rng hp k).1 (hr.at_rng hp k).2]
  · rw [zip_at hr.len ho hk]
theorem lessL_dvd {r o : List Int} (hp : 0 < p) (f : Int) (hr : Row p n r) (ho : o.length = n) {k : Nat} (hk : k < n) : p ∣ at_ (lessL p r f o) k - (at_ r k - f * at_ o k) := by
  rw [lessL_at hp f hr ho hk]
  exact dvd_mod _ _
abbrev Lead := Nat × List Int
def sweep (p : Int) : List Int → List Lead → List Int
  | l, [] => l
  | l, q :: found => sweep p (lessL p l (at_ l q.1) q.2) found
def vecs (found : List Lead) : List Vec := found.map fun q => at_ q.2
theorem sweep_keep (hp : 0 < p) {c : Nat} (hc : c < n) : ∀ {found : List Lead} {l : List Int}, Row p n l → (∀ q ∈ found, q.2.length = n ∧ at_ q.2 c = 0) → at_ l c = 0 → at_ (sweep p l found) c = 0
  | [], l, _, _, h => h
  | q :: found, l, hl, hf, h => by
    obtain ⟨h1, h2⟩ := hf q (.head _)
    refine sweep_keep hp hc (found := found) (lessL_row hp _ hl h1) (fun q hq => hf q (.tail _ hq)) ?_
    rw [lessL_at hp _ hl h1 hc, h, h2]
    simp
theorem sweep_row (hp : 0 < p) : ∀ {found : List Lead} {l : List Int}, Row p n l → (∀ q ∈ found, q.2.length = n) → Row p n (sweep p l found)
  | [], l, hl, _ => hl
  | q :: found, l, hl, hf => sweep_row hp (found := found) (lessL_row hp _ hl (hf q (.head _))) fun q hq => hf q (.tail _ hq)
structure LeadOk (p : Int) (n : Nat) (q : Lead) : Prop where
  lt : q.1 < n
  row : Row p n q.2
  own : at_ q.2 q.1 = 1
  z : ∀ k, k < q.1 → at_ q.2 k = 0
/-- none has anything at another's place -/
def Apart (q q' : Lead) : Prop := at_ q'.2 q.1 = 0 ∧ at_ q.2 q'.1 = 0
theorem sweep_zero (hp : 0 < p) : ∀ {found : List Lead} {l : List Int}, Row p n l → (∀ q ∈ found, LeadOk p n q) → found.Pairwise Apart → ∀ q ∈ found, at_ (sweep p l found) q.1 = 0
  | [], _, _, _, _, _, h => nomatch h
  | q :: found, l, hl, hf, hs, q', hq => by
    have ho := hf q (.head _)
    have hl1 := lessL_row hp (at_ l q.1) hl ho.row.len
    obtain ⟨s1, s2⟩ := List.pairwise_cons.mp hs
    rcases List.mem_cons.mp hq with rfl | hq
    · refine sweep_keep hp ho.lt (found := found) hl1 (fun x hx => ⟨(hf x (.tail _ hx)).row.len, (s1 x hx).1⟩) ?_
      rw [lessL_at hp _ hl ho.row.len ho.lt, ho.own]
      simp
    · exact sweep_zero hp (found := found) hl1 (fun x hx => hf x (.tail _ hx)) s2 q' hq
theorem sweep_diff (hp : 0 < p) : ∀ {found : List Lead} {l : List Int}, Row p n l → (∀ q ∈ found, q.2.length = n) → InS p n (vecs found) (fun k => at_ l k - at_ (sweep p l found) k)
  | [], l, _, _ => InS.zero.congr fun j _ => ⟨0, by show at_ l j - at_ l j - 0 = p * 0; omega⟩
  | q :: found, l, hl, hf => by
    have ho := hf q (.head _)
    have hl1 := lessL_row hp (at_ l q.1) hl ho
    have ih := sweep_diff hp (found := found) hl1 fun x hx => hf x (.tail _ hx)
    have h1 : InS p n (vecs (q :: found)) (fun k => at_ l q.1 * at_ q.2 k) := InS.head.smul _
    refine (h1.add ih.cons).congr fun j hj => ?_
    have := lessL_dvd hp (at_ l q.1) hl ho hj
    refine dvd_congr (Int.dvd_neg.mpr this) ?_
    show _ = at_ l j - at_ (sweep p (lessL p l (at_ l q.1) q.2) found) j - (at_ l q.1 * at_ q.2 j + (at_ (lessL p l (at_ l q.1) q.2) j - at_ (sweep p (lessL p l (at_ l q.1) q.2) found) j))
    omega
def places (r : List Int) : List Nat := (List.range r.length).filter fun k => !decide (at_ r k = 0)
/-- the inverses of a -/
def invs (p a : Int) : List Int := ((List.range p.toNat).map fun k : Nat => (k : Int)).filter fun o => decide (a * o % p = 1)
def inv (p a : Int) : Int := (invs p a).headD 0
structure Prm (p : Int) : Prop where
  pos : 2 ≤ p
  inv : ∀ a, 0 < a → a < p → a * inv p a % p = 1
def stepL (p : Int) (found : List Lead) (row : List Int) : List Lead :=
  let left := sweep p row found
  match places left with
  | [] => found
  | f :: _ =>
    let fresh := left.map fun x => x * inv p (at_ left f) % p
    (found.map fun q => (q.1, lessL p q.2 (at_ q.2 f) fresh)) ++ [(f, fresh)]
def redL (p : Int) (rows : List (List Int)) : List Lead := rows.foldl (stepL p) []
structure Red (p : Int) (n : Nat) (rows : List (List Int)) (found : List Lead) : Prop where
  ok : ∀ q ∈ found, LeadOk p n q
  ap : found.Pairwise Apart
  inR : ∀ q ∈ found, InS p n (rows.map at_) (at_ q.2)
  sp : ∀ r ∈ rows, InS p n (vecs found) (at_ r)
theorem red_nil : Red p n [] [] := ⟨(fun _ h => nomatch h), .nil, (fun _ h => nomatch h), (fun _ h => nomatch h)⟩
theorem InS.more {L M : List Vec} {v : Vec} (h : InS p n L v) (s : ∀ w ∈ L, w ∈ M) : InS p n M v := h.trans fun w hw => .mem (s w hw)
theorem Red.step (hp : Prm p) {rows : List (List Int)} {found : List Lead} {row : List Int} (R : Red p n rows found) (hr : Row p n row) : Red p n (rows ++ [row]) (stepL p found row) := by
  have p0 : 0 < p := by have := hp.pos; omega
  have hlen : ∀ q ∈ found, q.2.length = n := fun q hq => (R.ok q hq).row.len
  have hL := sweep_row p0 hr hlen
  have hz := sweep_zero p0 hr R.ok R.ap
  have hD := sweep_diff p0 hr hlen
  have incl : ∀ w ∈ rows.map at_, w ∈ (rows ++ [row]).map at_ := fun w hw => by
    rw [List.map_append]
    exact List.mem_append_left _ hw
  have hrow : InS p n ((rows ++ [row]).map at_) (at_ row) := .mem (by rw [List.map_append]; exact List.mem_append_right _ (.head _))
  unfold stepL
  generalize sweep p row found = left at *
  simp only
  cases e : places left with
  | nil =>
    have hl0 : ∀ k, at_ left k = 0 := fun k => by
      by_cases q : k < left.length
      · apply Classical.byContradiction
        intro ne
        have : k ∈ places left := List.mem_filter.mpr ⟨List.mem_range.mpr q, by simp [ne]⟩
        rw [e] at this
        cases this
      · exact at_out (by omega)
    refine ⟨R.ok, R.ap, fun q hq => (R.inR q hq).more incl, fun r hr' => ?_⟩
    rcases List.mem_append.mp hr' with h | h
    · exact R.sp r h
    · rw [List.mem_singleton.mp h]
      exact hD.congr fun j _ => ⟨0, by show at_ row j - (at_ row j - at_ left j) = p * 0; rw [hl0 j]; omega⟩
  | cons f fs =>
    have hf : f ∈ places left := by rw [e]; exact .head _
    obtain ⟨hf1, hf2⟩ := List.mem_filter.mp hf
    have hfn : f < n := by rw [← hL.len]; exact List.mem_range.mp hf1
    have hfne : at_ left f ≠ 0 := by simpa using hf2
    have hf0 : ∀ k, k < f → at_ left k = 0 := fun k hk => by
      apply Classical.byContradiction
      intro ne
      have hm : k ∈ places left := List.mem_filter.mpr ⟨List.mem_range.mpr (by rw [hL.len]; omega), by simp [ne]⟩
      have hsort : (places left).Pairwise (· < ·) := List.Pairwise.filter _ List.pairwise_lt_range
      rw [e] at hm hsort
      rcases List.mem_cons.mp hm with rfl | hm
      · omega
      · have := (List.pairwise_cons.mp hsort).1 k hm
        omega
    have hfr := hL.at_rng p0 f
    have hinv := hp.inv (at_ left f) (by omega) hfr.2
    show Red p n (rows ++ [row]) ((found.map fun q => (q.1, lessL p q.2 (at_ q.2 f) (left.map fun x => x * inv p (at_ left f) % p))) ++ [(f, left.map fun x => x * inv p (at_ left f) % p)])
    generalize inv p (at_ left f) = t at hinv ⊢
    have hFat : ∀ k, k < n → at_ (left.map fun x => x * t % p) k = at_ left k * t % p := fun k hk => map_at (by rw [hL.len]; exact hk)
    have hFrow : Row p n (left.map fun x => x * t % p) := ⟨by rw [List.length_map, hL.len], fun x hx => by
      obtain ⟨y, _, rfl⟩ := List.mem_map.mp hx
      exact mod_rng p0 _⟩
    generalize left.map (fun x => x * t % p) = fresh at hFat hFrow ⊢
    have hFf : at_ fresh f = 1 := by rw [hFat f hfn, hinv]
    have hF0 : ∀ k, k < n → at_ left k = 0 → at_ fresh k = 0 := fun k hk h => by
      rw [hFat k hk, h]
      simp
    have hFq : ∀ q ∈ found, at_ fresh q.1 = 0 := fun q hq => hF0 _ (R.ok q hq).lt (hz q hq)
    have one : (1 : Int) % p = 1 := Int.emod_eq_of_lt (by omega) (by have := hp.pos; omega)
    have hq' : ∀ q ∈ found, ∀ k, k < n → at_ (lessL p q.2 (at_ q.2 f) fresh) k = (at_ q.2 k - at_ q.2 f * at_ fresh k) % p := fun q hq k hk => lessL_at p0 _ (R.ok q hq).row hFrow.len hk
    -- spans
    have hleft : InS p n ((rows ++ [row]).map at_) (at_ left) := by
      have h1 : InS p n ((rows ++ [row]).map at_) (fun k => at_ row k - at_ left k) := hD.trans fun w hw => by
        obtain ⟨q, hq, rfl⟩ := List.mem_map.mp hw
        exact (R.inR q hq).more incl
      exact (hrow.sub h1 1).congr fun j _ => ⟨0, by show at_ left j - (at_ row j - 1 * (at_ row j - at_ left j)) = p * 0; omega⟩
    have hfresh : InS p n ((rows ++ [row]).map at_) (at_ fresh) := (hleft.smul t).congr fun j hj => by
      rw [hFat j hj, Int.mul_comm t]
      exact dvd_mod _ _
    have new : ∀ q ∈ found, at_ (lessL p q.2 (at_ q.2 f) fresh) ∈ vecs ((found.map fun q => (q.1, lessL p q.2 (at_ q.2 f) fresh)) ++ [(f, fresh)]) := fun q hq => by
      unfold vecs
      rw [List.map_append, List.map_map]
      exact List.mem_append_left _ (List.mem_map.mpr ⟨q, hq, rfl⟩)
    have newf : at_ fresh ∈ vecs ((found.map fun q => (q.1, lessL p q.2 (at_ q.2 f) fresh)) ++ [(f, fresh)]) := by
      unfold vecs
      rw [List.map_append]
      exact List.mem_append_right _ (.head _)
    have old : ∀ q ∈ found, InS p n (vecs ((found.map fun q => (q.1, lessL p q.2 (at_ q.2 f) fresh)) ++ [(f, fresh)])) (at_ q.2) := fun q hq => by
      refine ((InS.mem (new q hq)).add ((InS.mem newf).smul (at_ q.2 f))).congr fun j hj => ?_
      refine dvd_congr (Int.dvd_neg.mpr (lessL_dvd p0 (at_ q.2 f) (R.ok q hq).row hFrow.len hj)) ?_
      show _ = at_ q.2 j - (at_ (lessL p q.2 (at_ q.2 f) fresh) j + at_ q.2 f * at_ fresh j)
      omega
    refine ⟨fun q hq => ?_, ?_, fun q hq => ?_, fun r hr' => ?_⟩
    · rcases List.mem_append.mp hq with h | h
      · obtain ⟨q0, h0, rfl⟩ := List.mem_map.mp h
        have ho := R.ok q0 h0
        refine ⟨ho.lt, lessL_row p0 _ ho.row hFrow.len, ?_, fun k hk => ?_⟩
        · show at_ (lessL p q0.2 (at_ q0.2 f) fresh) q0.1 = 1
          rw [hq' q0 h0 _ ho.lt, ho.own, hFq q0 h0, Int.mul_zero, Int.sub_zero, one]
        · show at_ (lessL p q0.2 (at_ q0.2 f) fresh) k = 0
          replace hk : k < q0.1 := hk
          have hkn : k < n := Nat.lt_trans hk ho.lt
          rw [hq' q0 h0 _ hkn, ho.z k hk]
          by_cases q1 : k < f
          · rw [hF0 k hkn (hf0 k q1)]
            simp
          · rw [ho.z f (by omega)]
            simp
      · rw [List.mem_singleton.mp h]
        exact ⟨hfn, hFrow, hFf, fun k hk => hF0 k (Nat.lt_trans hk hfn) (hf0 k hk)⟩
    · refine List.pairwise_append.mpr ⟨List.pairwise_map.mpr ?_, List.pairwise_singleton _ _, fun a ha b hb => ?_⟩
      · refine List.Pairwise.imp_of_mem (fun {a b} ha hb h => ?_) R.ap
        refine ⟨?_, ?_⟩
        · show at_ (lessL p b.2 (at_ b.2 f) fresh) a.1 = 0
          rw [hq' b hb _ (R.ok a ha).lt, h.1, hFq a ha]
          simp
        · show at_ (lessL p a.2 (at_ a.2 f) fresh) b.1 = 0
          rw [hq' a ha _ (R.ok b hb).lt, h.2, hFq b hb]
          simp
      · obtain ⟨q0, h0, rfl⟩ := List.mem_map.mp ha
        rw [List.mem_singleton.mp hb]
        refine ⟨hFq q0 h0, ?_⟩
        show at_ (lessL p q0.2 (at_ q0.2 f) fresh) f = 0
        rw [hq' q0 h0 _ hfn, hFf]
        simp
    · rcases List.mem_append.mp hq with h | h
      · obtain ⟨q0, h0, rfl⟩ := List.mem_map.mp h
        exact (((R.inR q0 h0).more incl).sub hfresh (at_ q0.2 f)).congr fun j hj => lessL_dvd p0 _ (R.ok q0 h0).row hFrow.len hj
      · rw [List.mem_singleton.mp h]
        exact hfresh
    · rcases List.mem_append.mp hr' with h | h
      · exact (R.sp r h).trans fun w hw => by
          obtain ⟨q, hq, rfl⟩ := List.mem_map.mp hw
          exact old q hq
      · rw [List.mem_singleton.mp h]
        have h1 : InS p n (vecs ((found.map fun q => (q.1, lessL p q.2 (at_ q.2 f) fresh)) ++ [(f, fresh)])) (fun k => at_ row k - at_ left k) := hD.trans fun w hw => by
          obtain ⟨q, hq, rfl⟩ := List.mem_map.mp hw
          exact old q hq
        refine (h1.add ((InS.mem newf).smul (at_ left f))).congr fun j hj => ?_
        show p ∣ at_ row j - (at_ row j - at_ left j + at_ left f * at_ fresh j)
        rw [hFat j hj]
        have a1 := dvd_mul_r (at_ left f) (dvd_mod' p (at_ left j * t))
        have a2 : p ∣ at_ left f * t - 1 := by
          have := dvd_mod' p (at_ left f * t)
          rw [hinv] at this
          exact this
        have a3 := dvd_mul_r (at_ left j) a2
        refine dvd_congr (Int.dvd_sub a1 a3) ?_
        rw [Int.mul_sub, Int.mul_sub, Int.mul_one]
        have : at_ left f * (at_ left j * t) = at_ left j * (at_ left f * t) := Int.mul_left_comm _ _ _
        omega
theorem red_all (hp : Prm p) {rows : List (List Int)} (h : ∀ r ∈ rows, Row p n r) : Red p n rows (redL p rows) := by
  have : ∀ (done todo : List (List Int)) (found : List Lead), Red p n done found → (∀ r ∈ todo, Row p n r) → Red p n (done ++ todo) (todo.foldl (stepL p) found) := by
    intro done todo
    induction todo generalizing done with
    | nil => exact fun found R _ => by rw [List.append_nil]; exact R
    | cons r todo ih =>
      intro found R h
      have := ih (done ++ [r]) (stepL p found r) (R.step hp (h r (.head _))) fun x hx => h x (.tail _ hx)
      rwa [List.append_assoc] at this
  exact this [] rows [] red_nil h
theorem Prm.Inv (hp : Prm p) : LA.Inv p := fun a h => by
  have p0 : 0 < p := by have := hp.pos; omega
  have hr := mod_rng p0 a
  have hne : a % p ≠ 0 := fun z => h (Int.dvd_of_emod_eq_zero z)
  have h1 := hp.inv (a % p) (by omega) hr.2
  refine ⟨LA.inv p (a % p), ?_⟩
  have h2 := dvd_mod' p (a % p * LA.inv p (a % p))
  rw [h1] at h2
  have h3 := dvd_mul_r (LA.inv p (a % p)) (dvd_mod' p a)
  refine dvd_congr (Int.dvd_add h2 h3) ?_
  rw [Int.mul_sub, Int.mul_comm _ a, Int.mul_comm _ (a % p)]
  omega
theorem Prm.one (hp : Prm p) : ¬ p ∣ 1 := fun z => by
  have := hp.pos
  have := Int.le_of_dvd (by omega) z
  omega
theorem prm_of {p : Int} (h : p = 2 ∨ p = 3 ∨ p = 5 ∨ p = 7 ∨ p = 11) : Prm p := by
  have : ∀ p : Int, (p = 2 ∨ p = 3 ∨ p = 5 ∨ p = 7 ∨ p = 11) → ∀ a : Nat, 0 < a → (a : Int) < p → (a : Int) * inv p a % p = 1 := by
    intro p h a h0 h1
    have ha : a < 11 := by omega
    have : ∀ p ∈ [(2 : Int), 3, 5, 7, 11], ∀ a ∈ List.range 11, 0 < a → (a : Int) < p → (a : Int) * inv p a % p = 1 := by decide +kernel
    exact this p (by simpa using h) a (List.mem_range.mpr ha) h0 h1
  refine ⟨by omega, fun a h0 h1 => ?_⟩
  obtain ⟨k, rfl⟩ : ∃ k : Nat, a = (k : Int) := ⟨a.toNat, by omega⟩
  exact this p h k (by omega) h1
/-! ### the law's way: column by column -/
def heads (left : List (List Int)) (j : Nat) : List Nat := (List.range left.length).filter fun k => !decide (at_ (left.getD k []) j = 0)
/-- the first of 1 .. p - 1 that makes 1 of a -/
def turns (p a : Int) : List Int := ((List.range (p - 1).toNat).map fun k : Nat => 1 + (k : Int)).filter fun o => decide (o * a % p = 1)
def turn (p a : Int) : Int := (turns p a).headD 0
def clearS (p : Int) (n : Nat) (j : Nat) (st : List (List Int) × List (List Int)) : List (List Int) × List (List Int) :=
  match heads st.1 j with
  | [] => st
  | k :: _ =>
    let h0 := st.1.getD k []
    let head := h0.map fun x => turn p (at_ h0 j) * x % p
    ((st.1.eraseIdx k).map fun row => (List.range n).map fun i => (at_ row i - at_ row j * at_ head i) % p, st.2 ++ [head])
def clearN (p : Int) (n : Nat) (rows : List (List Int)) : Nat → List (List Int) × List (List Int)
  | 0 => (rows, [])
  | j + 1 => clearS p n j (clearN p n rows j)
def cleared (p : Int) (n : Nat) (rows : List (List Int)) : List (List Int) := (clearN p n rows n).2
structure Clr (p : Int) (n j : Nat) (rows : List (List Int)) (st : List (List Int) × List (List Int)) : Prop where
  wl : ∀ r ∈ st.1, Row p n r ∧ ∀ k, k < j → at_ r k = 0
  fr : ∀ r ∈ st.2, Row p n r
  ext : ∀ V : List Vec, (∀ v ∈ V, ∀ k, k < j → p ∣ v k) → Tri p n V → Tri p n (st.2.map at_ ++ V)
  inR : ∀ r, r ∈ st.1 ∨ r ∈ st.2 → InS p n (rows.map at_) (at_ r)
  sp : ∀ r ∈ rows, InS p n ((st.1 ++ st.2).map at_) (at_ r)
structure PrmT (p : Int) : Prop where
  pos : 2 ≤ p
  inv : ∀ a, 0 < a → a < p → turn p a * a % p = 1
theorem prmT_of {p : Int} (h : p = 2 ∨ p = 3 ∨ p = 5 ∨ p = 7 ∨ p = 11) : PrmT p := by
  have : ∀ p : Int, (p = 2 ∨ p = 3 ∨ p = 5 ∨ p = 7 ∨ p = 11) → ∀ a : Nat, 0 < a → (a : Int) < p → turn p a * (a : Int) % p = 1 := by
    intro p h a h0 h1
    have ha : a < 11 := by omega
    have : ∀ p ∈ [(2 : Int), 3, 5, 7, 11], ∀ a ∈ List.range 11, 0 < a → (a : Int) < p → turn p a * (a : Int) % p = 1 := by decide +kernel
    exact this p (by simpa using h) a (List.mem_range.mpr ha) h0 h1
  refine ⟨by omega, fun a h0 h1 => ?_⟩
  obtain ⟨k, rfl⟩ : ∃ k : Nat, a = (k : Int) := ⟨a.toNat, by omega⟩
  exact this p h k (by omega) h1
theorem clr_start {rows : List (List Int)} (h : ∀ r ∈ rows, Row p n r) : Clr p n 0 rows (rows, []) :=
  ⟨fun r hr => ⟨h r hr, fun k hk => absurd hk (by omega)⟩, (fun _ h => nomatch h), fun V _ t => t, fun r hr => .mem (List.mem_map.mpr ⟨r, hr.elim id (fun z => nomatch z), rfl⟩), fun r hr => .mem (List.mem_map.mpr ⟨r, List.mem_append_left _ hr, rfl⟩)⟩
theorem Clr.step (hp : PrmT p) {rows : List (List Int)} {st : List (List Int) × List (List Int)} {j : Nat} (hj : j < n) (C : Clr p n j rows st) : Clr p n (j + 1) rows (clearS p n j st) := by
  have p0 : 0 < p := by have := hp.pos; omega
  obtain ⟨left, found⟩ := st
  unfold clearS
  simp only
  cases e : heads left j with
  | nil =>
    refine ⟨fun r hr => ⟨(C.wl r hr).1, fun k hk => ?_⟩, C.fr, fun V hV t => C.ext V (fun v hv k hk => hV v hv k (by omega)) t, C.inR, C.sp⟩
    by_cases q : k < j
    · exact (C.wl r hr).2 k q
    · obtain rfl : k = j := by omega
      obtain ⟨i, hi, rfl⟩ := List.mem_iff_getElem.mp hr
      apply Classical.byContradiction
      intro ne
      have : i ∈ heads left k := List.mem_filter.mpr ⟨List.mem_range.mpr hi, by
        rw [show left.getD i [] = left[i] by rw [List.getD_eq_getElem?_getD, List.getElem?_eq_getElem hi]; rfl]
        simp [ne]⟩
      rw [e] at this
      cases this
  | cons k ks =>
    have hk : k ∈ heads left j := by rw [e]; exact .head _
    obtain ⟨hk1, hk2⟩ := List.mem_filter.mp hk
    have hkl : k < left.length := List.mem_range.mp hk1
    have hg : left.getD k [] = left[k] := by rw [List.getD_eq_getElem?_getD, List.getElem?_eq_getElem hkl]; rfl
    rw [hg] at hk2
    show Clr p n (j + 1) rows (((left.eraseIdx k).map fun row => (List.range n).map fun i => (at_ row i - at_ row j * at_ ((left.getD k []).map fun x => turn p (at_ (left.getD k []) j) * x % p) i) % p), found ++ [(left.getD k []).map fun x => turn p (at_ (left.getD k []) j) * x % p])
    rw [hg]
    have hne : at_ left[k] j ≠ 0 := by simpa using hk2
    have hmem : left[k] ∈ left := List.getElem_mem hkl
    have her : ∀ r, r ∈ left.eraseIdx k → r ∈ left := fun r h => List.mem_of_mem_eraseIdx h
    have hall : ∀ r, r ∈ left → r = left[k] ∨ r ∈ left.eraseIdx k := fun r h => by
      have : left = left.take k ++ left[k] :: left.drop (k + 1) := by
        rw [← List.drop_eq_getElem_cons hkl, List.take_append_drop]
      rw [this] at h
      rw [List.eraseIdx_eq_take_drop_succ]
      rcases List.mem_append.mp h with h | h
      · exact .inr (List.mem_append_left _ h)
      · rcases List.mem_cons.mp h with h | h
        · exact .inl h
        · exact .inr (List.mem_append_right _ h)
    obtain ⟨hrow, hzero⟩ := C.wl _ hmem
    have hrng := hrow.at_rng p0 j
    have hinv := hp.inv (at_ left[k] j) (by omega) hrng.2
    have hin : InS p n (rows.map at_) (at_ left[k]) := C.inR _ (.inl hmem)
    generalize left[k] = h0 at *
    show Clr p n (j + 1) rows (((left.eraseIdx k).map fun row => (List.range n).map fun i => (at_ row i - at_ row j * at_ (h0.map fun x => turn p (at_ h0 j) * x % p) i) % p), found ++ [h0.map fun x => turn p (at_ h0 j) * x % p])
    generalize turn p (at_ h0 j) = t at hinv ⊢
    have hHat : ∀ i, i < n → at_ (h0.map fun x => t * x % p) i = t * at_ h0 i % p := fun i hi => map_at (by rw [hrow.len]; exact hi)
    have hHrow : Row p n (h0.map fun x => t * x % p) := ⟨by rw [List.length_map, hrow.len], fun x hx => by
      obtain ⟨y, _, rfl⟩ := List.mem_map.mp hx
      exact mod_rng p0 _⟩
    generalize h0.map (fun x => t * x % p) = head at hHat hHrow ⊢
    have hHj : at_ head j = 1 := by rw [hHat j hj, hinv]
    have hHz : ∀ i, i < j → at_ head i = 0 := fun i hi => by rw [hHat i (by omega), hzero i hi]; simp
    have hHin : InS p n (rows.map at_) (at_ head) := (hin.smul t).congr fun i hi => by rw [hHat i hi]; exact dvd_mod _ _
    generalize left.eraseIdx k = left1 at her hall ⊢
    have hNat : ∀ row i, i < n → at_ ((List.range n).map fun i => (at_ row i - at_ row j * at_ head i) % p) i = (at_ row i - at_ row j * at_ head i) % p := fun row i hi => by
      rw [at_get (by simpa using hi), List.getElem_map, List.getElem_range]
    have hNew : ∀ row, Row p n ((List.range n).map fun i => (at_ row i - at_ row j * at_ head i) % p) := fun row => ⟨by simp, fun x hx => by
      obtain ⟨y, _, rfl⟩ := List.mem_map.mp hx
      exact mod_rng p0 _⟩
    refine ⟨fun r hr => ?_, fun r hr => ?_, fun V hV tV => ?_, fun r hr => ?_, fun r hr => ?_⟩
    · obtain ⟨r0, h, rfl⟩ := List.mem_map.mp hr
      refine ⟨hNew r0, fun i hi => ?_⟩
      show at_ ((List.range n).map fun i => (at_ r0 i - at_ r0 j * at_ head i) % p) i = 0
      rw [hNat r0 i (by omega)]
      by_cases q : i < j
      · rw [(C.wl r0 (her r0 h)).2 i q, hHz i q]
        simp
      · obtain rfl : i = j := by omega
        rw [hHj]
        simp
    · rcases List.mem_append.mp hr with h | h
      · exact C.fr r h
      · rw [List.mem_singleton.mp h]
        exact hHrow
    · show Tri p n ((found ++ [head]).map at_ ++ V)
      rw [List.map_append, List.append_assoc]
      refine C.ext (at_ head :: V) (fun v hv i hi => ?_) (.cons j hj ⟨0, by rw [hHj]; omega⟩ (fun v hv => hV v hv j (by omega)) tV)
      rcases List.mem_cons.mp hv with rfl | hv
      · rw [hHz i hi]
        exact ⟨0, by omega⟩
      · exact hV v hv i (by omega)
    · rcases hr with h | h
      · obtain ⟨r0, h1, rfl⟩ := List.mem_map.mp h
        refine ((C.inR r0 (.inl (her r0 h1))).sub hHin (at_ r0 j)).congr fun i hi => ?_
        show p ∣ at_ ((List.range n).map fun i => (at_ r0 i - at_ r0 j * at_ head i) % p) i - _
        rw [hNat r0 i hi]
        exact dvd_mod _ _
      · rcases List.mem_append.mp h with h | h
        · exact C.inR r (.inr h)
        · rw [List.mem_singleton.mp h]
          exact hHin
    · have M : ∀ x, x ∈ ((left1.map fun row => (List.range n).map fun i => (at_ row i - at_ row j * at_ head i) % p) ++ (found ++ [head])) → InS p n (((left1.map fun row => (List.range n).map fun i => (at_ row i - at_ row j * at_ head i) % p) ++ (found ++ [head])).map at_) (at_ x) := fun x hx => .mem (List.mem_map.mpr ⟨x, hx, rfl⟩)
      have mh := M head (List.mem_append_right _ (List.mem_append_right _ (.head _)))
      refine (C.sp r hr).trans fun w hw => ?_
      obtain ⟨x, hx, rfl⟩ := List.mem_map.mp hw
      rcases List.mem_append.mp hx with h | h
      · rcases hall x h with rfl | h
        · -- the head's row
          refine (mh.smul (at_ x j)).congr fun i hi => ?_
          show p ∣ at_ x i - at_ x j * at_ head i
          rw [hHat i hi]
          have a1 := dvd_mul_r (at_ x j) (dvd_mod' p (t * at_ x i))
          have a2 : p ∣ t * at_ x j - 1 := by
            have := dvd_mod' p (t * at_ x j)
            rw [hinv] at this
            exact this
          have a3 := dvd_mul_r (at_ x i) a2
          refine dvd_congr (Int.dvd_sub a1 a3) ?_
          rw [Int.mul_sub, Int.mul_sub, Int.mul_one]
          have : at_ x j * (t * at_ x i) = at_ x i * (t * at_ x j) := by
            rw [Int.mul_left_comm, Int.mul_left_comm (at_ x i), Int.mul_comm (at_ x i)]
          omega
        · have m1 := M _ (List.mem_append_left (found ++ [head]) (List.mem_map.mpr ⟨x, h, rfl⟩))
          refine (m1.add (mh.smul (at_ x j))).congr fun i hi => ?_
          show p ∣ at_ x i - (at_ ((List.range n).map fun i => (at_ x i - at_ x j * at_ head i) % p) i + at_ x j * at_ head i)
          rw [hNat x i hi]
          exact dvd_congr (dvd_mod' p (at_ x i - at_ x j * at_ head i)) (by omega)
      · exact M x (List.mem_append_right _ (List.mem_append_left _ h))
theorem clr_all (hp : PrmT p) {rows : List (List Int)} (h : ∀ r ∈ rows, Row p n r) : ∀ j, j ≤ n → Clr p n j rows (clearN p n rows j)
  | 0, _ => clr_start h
  | j + 1, hj => (clr_all hp h j (by omega)).step hp (by omega)
theorem cleared_rank (hp : PrmT p) {rows : List (List Int)} (h : ∀ r ∈ rows, Row p n r) : IsRank p n (rows.map at_) (cleared p n rows).length := by
  have C := clr_all hp h n (Nat.le_refl _)
  unfold cleared
  generalize clearN p n rows n = st at C
  have tri := C.ext [] (fun _ h => nomatch h) .nil
  rw [List.append_nil] at tri
  refine ⟨st.2.map at_, by simp, tri.indep, fun b hb => ?_, fun v hv => ?_⟩
  · obtain ⟨r, hr, rfl⟩ := List.mem_map.mp hb
    exact C.inR r (.inr hr)
  · obtain ⟨r, hr, rfl⟩ := List.mem_map.mp hv
    refine (C.sp r hr).trans fun w hw => ?_
    obtain ⟨x, hx, rfl⟩ := List.mem_map.mp hw
    rcases List.mem_append.mp hx with h | h
    · exact InS.zero.congr fun j hj => ⟨0, by rw [(C.wl x h).2 j hj]; omega⟩
    · exact .mem (List.mem_map.mpr ⟨x, h, rfl⟩)
end
end LA
set_option Elab.async false
set_option linter.all false
set_option maxRecDepth 100000
set_option maxHeartbeats 4000000
/-! rules of my own: a call by keywords alone, a text turned round, the state of the draws -/
namespace OS
open PySem PySem.Spec PyProof.Rows L2
/-! ### f(k = v, ..) -/
/-! ### text[::-1] -/
end OS
namespace OS
open PySem PySem.Spec PyProof.Rows L2
/-! ### a[k] for a[k] += e, lists -/
/-! ### the state of the draws -/
structure StA (H : Hp) (p a b : Addr) (zs ms : List Int) (n : Nat) : Prop where
  hp : H p = some (.lst [.ref a, .ref b, .int (n : Int)])
  ha : H a = some (.lst (zs.map V.int))
  hb : H b = some (.lst (ms.map V.int))
  ab : a ≠ b
  ne : ms ≠ []
  lz : zs.length ≤ 100
  lm : ms.length ≤ 100
def StAt (H : Hp) (p : Addr) (n : Nat) : Prop := ∃ a b zs ms, StA H p a b zs ms n
def Own (H : Hp) (p q : Addr) : Prop := q = p ∨ ∃ xs, H p = some (.lst xs) ∧ V.ref q ∈ xs
/-- o stands at q, and q is no part of the state at p -/
structure Sep (H : Hp) (p q : Addr) (o : HO) : Prop where
  at_ : H q = some o
  no : ¬ Own H p q
/-- what is no part of the state stays -/
def Nx (p : Addr) (H H' : Hp) : Prop := ∀ q o, Sep H p q o → Sep H' p q o
theorem Nx.refl (p : Addr) (H : Hp) : Nx p H H := fun _ _ h => h
theorem Nx.trans {p : Addr} {H H1 H2 : Hp} (a : Nx p H H1) (b : Nx p H1 H2) : Nx p H H2 := fun q o h => b q o (a q o h)
theorem StA.pb {H : Hp} {p a b : Addr} {zs ms : List Int} {n : Nat} (S : StA H p a b zs ms n) : p ≠ b := by
  refine ne_of S.hp S.hb fun z => ?_
  injection z with z
  cases ms <;> simp at z
theorem own_iff {H : Hp} {p a b : Addr} {n : Int} (h : H p = some (.lst [.ref a, .ref b, .int n])) (q : Addr) : Own H p q ↔ q = p ∨ q = a ∨ q = b := by
  unfold Own
  rw [h]
  constructor
  · rintro (h | ⟨xs, e, m⟩)
    · exact .inl h
    · cases e
      simp at m
      exact .inr m
  · rintro (h | h)
    · exact .inl h
    · refine .inr ⟨_, rfl, ?_⟩
      simpa using h
theorem StA.mk' {H : Hp} {p a b : Addr} {zs ms : List Int} {n : Nat} (S : StA H p a b zs ms n) : StAt H p n := ⟨a, b, zs, ms, S⟩
theorem StAt.same {H H' : Hp} {p : Addr} {n : Nat} (S : StAt H p n) (s : Same H H') : StAt H' p n := by
  obtain ⟨a, b, zs, ms, S⟩ := S
  exact ⟨a, b, zs, ms, s _ _ S.hp, s _ _ S.ha, s _ _ S.hb, S.ab, S.ne, S.lz, S.lm⟩
theorem StAt.nx {H H' : Hp} {p : Addr} {n : Nat} (S : StAt H p n) (s : Same H H') : Nx p H H' := by
  obtain ⟨a, b, zs, ms, S⟩ := S
  intro q o h
  refine ⟨s _ _ h.at_, fun z => h.no ?_⟩
  rw [own_iff S.hp]
  exact (own_iff (s _ _ S.hp) q).mp z
theorem same_new {H : Hp} {p : Addr} {o : HO} (h : H p = none) : Same H (upd H p o) := fun b x e => by
  rw [upd_ne (ne_of_none e h)]
  exact e
theorem StAt.free {H : Hp} {p q : Addr} {n : Nat} (S : StAt H p n) (h : H q = none) : ¬ Own H p q := by
  obtain ⟨a, b, zs, ms, S⟩ := S
  rw [own_iff S.hp]
  rintro (z | z | z)
  · exact ne_of_none S.hp h z.symm
  · exact ne_of_none S.ha h z.symm
  · exact ne_of_none S.hb h z.symm
/-- a new object -/
theorem StAt.new {H : Hp} {p q : Addr} {n : Nat} {o : HO} (S : StAt H p n) (h : H q = none) : Sep (upd H q o) p q o := by
  refine ⟨upd_same, fun z => S.free h ?_⟩
  obtain ⟨a, b, zs, ms, S⟩ := S
  rw [own_iff S.hp]
  exact (own_iff (same_new h _ _ S.hp) q).mp z
theorem Sep.sq {K : PySem.W.Frag} {H : Hp} {p q : Addr} {xs : List V} (h : Sep H p q (.lst xs)) : SqL K H q xs := .inl (.inl h.at_)
theorem Sep.st {K : PySem.W.Frag} {H : Hp} {p q : Addr} {xs : List V} (h : Sep H p q (.tup xs)) : SqT K H q xs := .inl (.inl h.at_)
/-- an object of one's own is written -/
theorem StAt.put {H : Hp} {p q : Addr} {n : Nat} {o u : HO} (S : StAt H p n) (h : Sep H p q o) : StAt (upd H q u) p n := by
  obtain ⟨a, b, zs, ms, S⟩ := S
  have no := h.no
  rw [own_iff S.hp] at no
  refine ⟨a, b, zs, ms, ?_, ?_, ?_, S.ab, S.ne, S.lz, S.lm⟩
  · rw [upd_ne (fun z => no (.inl z.symm))]; exact S.hp
  · rw [upd_ne (fun z => no (.inr (.inl z.symm)))]; exact S.ha
  · rw [upd_ne (fun z => no (.inr (.inr z.symm)))]; exact S.hb
theorem own_put {H : Hp} {p q r : Addr} {u : HO} (h : r ≠ p) : Own (upd H r u) p q ↔ Own H p q := by
  unfold Own
  rw [upd_ne (fun z => h z.symm)]
theorem Sep.ne {H : Hp} {p q : Addr} {o : HO} (h : Sep H p q o) : q ≠ p := fun z => h.no (.inl z)
theorem Sep.put_same {H : Hp} {p q : Addr} {o u : HO} (h : Sep H p q o) : Sep (upd H q u) p q u := ⟨upd_same, fun z => h.no ((own_put h.ne).mp z)⟩
theorem Sep.put_ne {H : Hp} {p q r : Addr} {o o' u : HO} (h : Sep H p q o) (h' : Sep H p r o') (n : q ≠ r) : Sep (upd H r u) p q o := ⟨by rw [upd_ne n]; exact h.at_, fun z => h.no ((own_put h'.ne).mp z)⟩
/-! ### what the draws promise -/
structure DrawOk (n : Nat) (size : Int) : Prop where
  few : n ≤ 1000000000
  pos : 0 < size
  big : size < 1000000000000
end OS
namespace OS
open PySem PySem.Spec PyProof.Rows L2
/-! ### comprehensions whose parts change nothing that is tracked -/
theorem paired_snoc {α β : Type} {R : α → β → Prop} : ∀ {xs : List α} {ys : List β} {x : α} {y : β}, Paired R xs ys → R x y → Paired R (xs ++ [x]) (ys ++ [y])
  | _, _, _, _, .nil, h => .cons h .nil
  | _, _, _, _, .cons r t, h => .cons r (paired_snoc t h)
theorem take_snoc {α : Type} {xs : List α} {i : Nat} {a : α} (h : xs[i]? = some a) : xs.take (i + 1) = xs.take i ++ [a] := by
  rw [List.take_add_one, h]
  rfl
theorem same_put {H1 H : Hp} {D : Addr} {o : HO} (s : Same H1 H) (hD : H1 D = none) : Same H1 (upd H D o) := fun b x e => by
  rw [upd_ne (ne_of_none e hD)]
  exact s b x e
theorem small1e5 {n : Nat} (h : n ≤ 100000) : n < sizeLine := Nat.lt_of_le_of_lt h (by decide)
/-- over xs, where t holds: a value that stands in R to the item -/
theorem lc_rel {α : Type} {J : It} {n : Nat} {G : Hp → Prop} {Y : Nat → Hp → V → Hp → Prop} (w : Walk J n G Y) {xs : List α} (hn : xs.length = n) (hz : n ≤ 100000) (t : α → Bool) (R : Hp → α → V → Prop) {g : TG} {tt : TT} {te : TE} {vs : List Nat} {σ : L2.St} {H1 : Hp} {D : Addr} {Qd : Hp → Prop}
    (hD : H1 D = none) (hR : ∀ H H' a v acc, Same H1 H → H D = some (.lst acc) → (∀ b o, H b = some o → b ≠ D → H' b = some o) → R H a v → R H' a v) (hG : ∀ H, Same H1 H → G H)
    (hs : ∀ i a x H H' (Qk : V → Hp → Prop) (Qn : Hp → Prop), xs[i]? = some a → Same H1 H → Y i H x H' → (t a = true → ∀ y H4, R H4 a y → Same H H4 → Qk y H4) → (t a = false → ∀ H4, Same H H4 → Qn H4) →
      g x (wipe σ vs) H' fun σ2 H2 => wipe σ2 vs = wipe σ vs ∧ tt σ2 H2 fun b H3 => if b = true then te σ2 H3 Qk else Qn H3)
    (hd : ∀ H acc, Same H1 H → H D = some (.lst acc) → Paired (R H) (xs.filter t) acc → Qd H) :
    ∃ W : Nat → Nat → Hp → Prop, (∃ m, W 0 m (upd H1 D (.lst []))) ∧ ∀ i m H, W i m H →
      (J.stop i H ∧ Qd H) ∨ (J.go i H ∧ ∃ Nx : Hp → Prop, (∀ H', Nx H' → ∃ m', m' < m ∧ W (i + 1) m' H') ∧ ∀ x H', J.yld i H x H' → g x (wipe σ vs) H' fun σ2 H2 => wipe σ2 vs = wipe σ vs ∧ tt σ2 H2 fun b H3 =>
        if b = true then te σ2 H3 fun y H4 => ∃ acc, H4 D = some (.lst acc) ∧ acc.length < sizeLine ∧ Nx (upd H4 D (.lst (acc ++ [y]))) else Nx H3) := by
  refine lc_it w (fun i H => Same H1 H ∧ ∃ acc, H D = some (.lst acc) ∧ acc.length ≤ i ∧ Paired (R H) ((xs.take i).filter t) acc) ⟨same_new hD, [], upd_same, Nat.le_refl _, .nil⟩ (fun i H _ h => hG H h.1) ?_ ?_
  · intro i x H H' hi ⟨sm, acc, hacc, hl, pr⟩ hy
    have hx : xs[i]? = some xs[i] := List.getElem?_eq_getElem (by omega)
    have ht := take_snoc hx
    refine hs i xs[i] x H H' _ _ hx sm hy (fun e y H4 hr s4 => ?_) (fun e H4 s4 => ?_)
    · have h4 := s4 _ _ hacc
      refine ⟨acc, h4, Nat.lt_of_le_of_lt hl (small1e5 (by omega)), same_put (sm.trans s4) hD, acc ++ [y], upd_same, by simp; omega, ?_⟩
      rw [ht, List.filter_append, show [xs[i]].filter t = [xs[i]] by simp [e]]
      have kp : ∀ b o, H4 b = some o → b ≠ D → (upd H4 D (.lst (acc ++ [y]))) b = some o := fun b o q z => by rw [upd_ne z]; exact q
      exact paired_snoc (L2.Paired.mapP pr fun a v q => hR _ _ a v acc (sm.trans s4) h4 kp (hR _ _ a v acc sm hacc (fun b o q _ => s4 b o q) q)) (hR _ _ _ _ acc (sm.trans s4) h4 kp hr)
    · refine ⟨sm.trans s4, acc, s4 _ _ hacc, by omega, ?_⟩
      rw [ht, List.filter_append, show [xs[i]].filter t = [] by simp [e], List.append_nil]
      exact L2.Paired.mapP pr fun a v q => hR _ _ a v acc sm hacc (fun b o q _ => s4 b o q) q
  · intro H ⟨sm, acc, hacc, hl, pr⟩
    rw [List.take_of_length_le (by omega)] at pr
    exact hd H acc sm hacc pr
theorem paired_fn {α β : Type} {F : α → β} : ∀ {xs : List α} {ys : List β}, Paired (fun a v => v = F a) xs ys → ys = xs.map F
  | _, _, .nil => rfl
  | _, _, .cons r t => by rw [r, paired_fn t]; rfl
/-- .. a value that is told by the item -/
theorem lc_fn {α : Type} {J : It} {n : Nat} {G : Hp → Prop} {Y : Nat → Hp → V → Hp → Prop} (w : Walk J n G Y) {xs : List α} (hn : xs.length = n) (hz : n ≤ 100000) (t : α → Bool) (F : α → V) {g : TG} {tt : TT} {te : TE} {vs : List Nat} {σ : L2.St} {H1 : Hp} {D : Addr} {Qd : Hp → Prop}
    (hD : H1 D = none) (hG : ∀ H, Same H1 H → G H)
    (hs : ∀ i a x H H' (Qk : V → Hp → Prop) (Qn : Hp → Prop), xs[i]? = some a → Same H1 H → Y i H x H' → (t a = true → ∀ H4, Same H H4 → Qk (F a) H4) → (t a = false → ∀ H4, Same H H4 → Qn H4) →
      g x (wipe σ vs) H' fun σ2 H2 => wipe σ2 vs = wipe σ vs ∧ tt σ2 H2 fun b H3 => if b = true then te σ2 H3 Qk else Qn H3)
    (hd : ∀ H, Same H1 H → H D = some (.lst ((xs.filter t).map F)) → Qd H) :
    ∃ W : Nat → Nat → Hp → Prop, (∃ m, W 0 m (upd H1 D (.lst []))) ∧ ∀ i m H, W i m H →
      (J.stop i H ∧ Qd H) ∨ (J.go i H ∧ ∃ Nx : Hp → Prop, (∀ H', Nx H' → ∃ m', m' < m ∧ W (i + 1) m' H') ∧ ∀ x H', J.yld i H x H' → g x (wipe σ vs) H' fun σ2 H2 => wipe σ2 vs = wipe σ vs ∧ tt σ2 H2 fun b H3 =>
        if b = true then te σ2 H3 fun y H4 => ∃ acc, H4 D = some (.lst acc) ∧ acc.length < sizeLine ∧ Nx (upd H4 D (.lst (acc ++ [y]))) else Nx H3) := by
  refine lc_rel w hn hz t (fun _ a v => v = F a) hD (fun _ _ _ _ _ _ _ _ e => e) hG (fun i a x H H' Qk Qn h1 h2 h3 h4 h5 => hs i a x H H' Qk Qn h1 h2 h3 (fun e H4 s => h4 e _ H4 rfl s) h5) fun H acc s e p => ?_
  rw [paired_fn p] at e
  exact hd H s e
/-- .. all of xs -/
theorem lc_all {α : Type} {J : It} {n : Nat} {G : Hp → Prop} {Y : Nat → Hp → V → Hp → Prop} (w : Walk J n G Y) {xs : List α} (hn : xs.length = n) (hz : n ≤ 100000) (F : α → V) {g : TG} {te : TE} {vs : List Nat} {σ : L2.St} {H1 : Hp} {D : Addr} {Qd : Hp → Prop}
    (hD : H1 D = none) (hG : ∀ H, Same H1 H → G H)
    (hs : ∀ i a x H H' (Qk : V → Hp → Prop), xs[i]? = some a → Same H1 H → Y i H x H' → (∀ H4, Same H H4 → Qk (F a) H4) → g x (wipe σ vs) H' fun σ2 H2 => wipe σ2 vs = wipe σ vs ∧ te σ2 H2 Qk)
    (hd : ∀ H, Same H1 H → H D = some (.lst (xs.map F)) → Qd H) :
    ∃ W : Nat → Nat → Hp → Prop, (∃ m, W 0 m (upd H1 D (.lst []))) ∧ ∀ i m H, W i m H →
      (J.stop i H ∧ Qd H) ∨ (J.go i H ∧ ∃ Nx : Hp → Prop, (∀ H', Nx H' → ∃ m', m' < m ∧ W (i + 1) m' H') ∧ ∀ x H', J.yld i H x H' → g x (wipe σ vs) H' fun σ2 H2 => wipe σ2 vs = wipe σ vs ∧ tYes σ2 H2 fun b H3 =>
        if b = true then te σ2 H3 fun y H4 => ∃ acc, H4 D = some (.lst acc) ∧ acc.length < sizeLine ∧ Nx (upd H4 D (.lst (acc ++ [y]))) else Nx H3) := by
  refine lc_it w (fun i H => Same H1 H ∧ H D = some (.lst ((xs.take i).map F))) ⟨same_new hD, upd_same⟩ (fun i H _ h => hG H h.1) ?_ ?_
  · intro i x H H' hi ⟨sm, hacc⟩ hy
    have hx : xs[i]? = some xs[i] := List.getElem?_eq_getElem (by omega)
    refine hs i xs[i] x H H' _ hx sm hy (fun H4 s4 => ?_)
    refine ⟨_, s4 _ _ hacc, ?_, same_put (sm.trans s4) hD, ?_⟩
    · rw [List.length_map]
      exact small1e5 (Nat.le_trans (List.length_take_le _ _) (by omega))
    · rw [upd_same, take_snoc hx, List.map_append]
      rfl
  · intro H ⟨sm, hacc⟩
    rw [List.take_of_length_le (by omega)] at hacc
    exact hd H sm hacc
end OS
namespace OS
open PySem PySem.Spec PyProof.Rows L2
/-! ### data in lists: == and != -/
theorem dp_all {α : Type} {K : PySem.W.Frag} {H : Hp} {f : α → V} {g : α → PyData} (h : ∀ a, Dp K H (f a) (g a)) : ∀ xs : List α, DpAll K H (xs.map f) (xs.map g)
  | [] => .nil
  | a :: r => .cons (h a) (dp_all h r)
theorem dp_strs {K : PySem.W.Frag} {H : Hp} {a : Addr} {xs : List Str} (h : SqL K H a (xs.map V.str)) : Dp K H (.ref a) (.list (xs.map .str)) := .lst h (dp_all (fun x => .str x) xs)
theorem dp_ints {K : PySem.W.Frag} {H : Hp} {a : Addr} {xs : List Int} (h : SqL K H a (xs.map V.int)) : Dp K H (.ref a) (.list (xs.map .int)) := .lst h (dp_all (fun x => .int x) xs)
theorem dp_nil {K : PySem.W.Frag} {H : Hp} {a : Addr} (h : SqL K H a []) : Dp K H (.ref a) (.list []) := .lst h .nil
theorem eqv_nil (ds : List PyData) : PyData.eqv (.list ds) (.list []) = ds.isEmpty := by
  cases ds <;> rfl
end OS
namespace OS
open PySem PySem.Spec PyProof.Rows L2
/-! ### the state's own turns -/
theorem filter_empty {α : Type} {t : α → Bool} : ∀ l : List α, (l.filter fun c => !t c).isEmpty = l.all t
  | [] => rfl
  | a :: r => by
    have ih := filter_empty (t := t) r
    cases e : t a
    · simp [e]
    · rw [List.filter_cons_of_neg (by simp [e]), List.all_cons, e, Bool.true_and]
      exact ih
section
variable {H H' : Hp} {p a b r : Addr} {zs zs' ms : List Int} {n : Nat}
theorem StA.same (S : StA H p a b zs ms n) (s : Same H H') : StA H' p a b zs ms n := ⟨s _ _ S.hp, s _ _ S.ha, s _ _ S.hb, S.ab, S.ne, S.lz, S.lm⟩
theorem StA.nx (S : StA H p a b zs ms n) (s : Same H H') : Nx p H H' := S.mk'.nx s
/-- all but p and a stays -/
theorem StA.nx_put (S : StA H p a b zs ms n) {x : Addr} {k : Int} (s : ∀ q o, H q = some o → q ≠ p → q ≠ a → H' q = some o) (hp : H' p = some (.lst [.ref x, .ref b, .int k])) (hx : x = a ∨ H x = none) : Nx p H H' := by
  intro q o h
  have no := h.no
  rw [own_iff S.hp] at no
  refine ⟨s _ _ h.at_ (fun z => no (.inl z)) (fun z => no (.inr (.inl z))), ?_⟩
  rw [own_iff hp]
  rintro (z | z | z)
  · exact no (.inl z)
  · rcases hx with e | e
    · exact no (.inr (.inl (z.trans e)))
    · exact ne_of_none h.at_ e z
  · exact no (.inr (.inr z))
theorem StA.swap (S : StA H p a b zs ms n) (hr : H r = none) (hz : zs'.length ≤ 100) : StA (upd (upd H r (.lst (zs'.map V.int))) p (.lst [.ref r, .ref b, .int (n : Int)])) p r b zs' ms n := by
  have rp : r ≠ p := (ne_of_none S.hp hr).symm
  have rb : r ≠ b := (ne_of_none S.hb hr).symm
  refine ⟨upd_same, ?_, ?_, rb, S.ne, hz, S.lm⟩
  · rw [upd_ne rp, upd_same]
  · rw [upd_ne S.pb.symm, upd_ne rb.symm]; exact S.hb
end
theorem pow5 (x : Int) : 0 ≤ (x ^ 5) % 2147483647 ∧ (x ^ 5) % 2147483647 < 2147483647 := ⟨Int.emod_nonneg _ (by decide), Int.emod_lt_of_pos _ (by decide)⟩
end OS
namespace OS
open PySem PySem.Spec PyProof.Rows L2
theorem at0 {α : Type} {x : α} {l : List α} : atI (x :: l) 0 = some x := atI_nat (j := 0) rfl
end OS
namespace OS
open PySem PySem.Spec PyProof.Rows L2
/-- a statement, then the rest: Z holds between them, whatever way led there -/
theorem seq_cut {t U : TS} {D : Ends} {σ : L2.St} {H : Hp} (Z : L2.St → Hp → Prop) (h : ∀ Qz : L2.St → Hp → Prop, (∀ σ' H', Z σ' H' → Qz σ' H') → t { D with nx := Qz } σ H) (hz : ∀ σ' H', Z σ' H' → U D σ' H') : tSeq t U D σ H := h (U D) hz
end OS
namespace OS
open PySem PySem.Spec PyProof.Rows L2
/-! ### joined texts -/
theorem str_list_len (z : Str) : z.cps.toList.length = z.length := by simp [Str.length]
end OS
namespace OS
open PySem PySem.Spec PyProof.Rows L2
/-! ### comprehensions whose parts draw -/
end OS
namespace OS
open PySem PySem.Spec PyProof.Rows L2
/-- a place to stop: a statement whose ways meet behind it -/
structure Stop (t u : TS) (D : Ends) (σ : L2.St) (H : Hp) : Prop where
  go : tSeq t u D σ H
theorem pss_stop {X : Cx} {st : Stmt} {rest : List Stmt} {t u : TS} (h1 : PS X st t) (h2 : PSs X rest u) : PSs X (st :: rest) (Stop t u) := ⟨fun pins s σ H D I h => (pss_cons h1 h2).run pins s σ H D I h.go⟩
theorem Stop.cut {t U : TS} {D : Ends} {σ : L2.St} {H : Hp} (Z : L2.St → Hp → Prop) (h : ∀ Qz : L2.St → Hp → Prop, (∀ σ' H', Z σ' H' → Qz σ' H') → t { D with nx := Qz } σ H) (hz : ∀ σ' H', Z σ' H' → U D σ' H') : Stop t U D σ H := ⟨seq_cut Z h hz⟩
end OS
namespace OS
open PySem PySem.Spec PyProof.Rows L2
theorem at_pick {α : Type} {l : List α} {i : Int} (h0 : 0 ≤ i) (h1 : i < l.length) : ∃ v, atI l i = some v ∧ v ∈ l := by
  obtain ⟨n, rfl⟩ := Int.eq_ofNat_of_zero_le h0
  have hn : n < l.length := by omega
  exact ⟨l[n], atI_nat (List.getElem?_eq_getElem hn), List.getElem_mem hn⟩
end OS
namespace OS
open PySem PySem.Spec PyProof.Rows L2
theorem vals_rep : ∀ n : Nat, Vals (List.replicate n V.non) (List.replicate n Value.none)
  | 0 => .nil
  | n + 1 => .cons rfl (vals_rep n)
end OS
namespace OS
open PySem PySem.Spec PyProof.Rows L2
end OS
namespace OS
open PySem PySem.Spec PyProof.Rows L2
/-! ### rules whose new object comes with what stands, not with the heap's term -/
theorem peImp {X : Cx} {e : Expr} {t t' : TE} (h : PE X e t) (k : ∀ σ H Q, t' σ H Q → t σ H Q) : PE X e t' := ⟨fun pins s σ H Q I q => h.run pins s σ H Q I (k σ H Q q)⟩
def tMonoA (t : TA) : TA := fun σ H Q => ∃ Q0 : List V → Hp → Prop, t σ H Q0 ∧ ∀ xs H1, Q0 xs H1 → Q xs H1
theorem pa_mono {X : Cx} {es : List Expr} {t : TA} (h : PA X es t) : PA X es (tMonoA t) := ⟨fun pos pins s σ H Q I ⟨Q0, q0, k⟩ => thn (h.run pos pins s σ H Q0 I q0) fun us s1 ⟨xs, H1, I1, r, q⟩ => ⟨xs, H1, I1, r, k xs H1 q⟩⟩
/-- what follows a new object o -/
def NewO (H : Hp) (o : HO) (Q : VK) : Prop := ∀ (p : Addr) (H' : Hp), H p = none → Same H H' → H' p = some o → Q (.ref p) H'
theorem NewO.to {H : Hp} {o : HO} {Q : VK} (h : NewO H o Q) : ∀ p, H p = none → Q (.ref p) (upd H p o) := fun p hp => h p _ hp (same_new hp) upd_same
def tLstO (t : TA) : TE := fun σ H Q => t σ H fun xs H1 => xs.length ≤ sizeLine ∧ NewO H1 (.lst xs) Q
def tTupO (t : TA) : TE := fun σ H Q => t σ H fun xs H1 => xs.length ≤ sizeLine ∧ NewO H1 (.tup xs) Q
section
variable {X : Cx} {es : List Expr} {t : TA} {pos : Pos}
theorem pe_lstO (h : PA X es t) : PE X (.List es pos) (tLstO t) := peImp (pe_lst (pa_mono h)) fun _ _ _ q => ⟨_, q, fun _ _ z => ⟨z.1, z.2.to⟩⟩
theorem pe_tupO {x1} (h : PA X es t) : PE X (.Tuple es x1 pos) (tTupO t) := peImp (pe_tup (pa_mono h)) fun _ _ _ q => ⟨_, q, fun _ _ z => ⟨z.1, z.2.to⟩⟩
theorem opImp {f : Value → Value → Sem Value} {r r' : R2} (h : OpR X f r) (k : ∀ x y H Q, r' x y H Q → r x y H Q) : OpR X f r' := fun pins s σ H x y v u Q I rx ry q => h pins s σ H x y v u Q I rx ry (k x y H Q q)
/-- xs + ys, lists -/
def rCatO : R2 := fun x y H Q => ∃ l b xs zs, x = .ref l ∧ y = .ref b ∧ H l = some (.lst xs) ∧ H b = some (.lst zs) ∧ xs.length + zs.length ≤ sizeLine ∧ NewO H (.lst (xs ++ zs)) Q
theorem op_catO : OpR X (binaryOp .Add) rCatO := opImp op_cat fun _ _ _ _ ⟨l, b, xs, zs, h1, h2, h3, h4, h5, q⟩ => ⟨l, b, xs, zs, h1, h2, h3, h4, h5, q.to⟩
end
end OS
namespace OS
open PySem PySem.Spec PyProof.Rows L2
section
variable {X : Cx}
theorem callImp {f : Value} {r r' : List V → Hp → VK → Prop} (h : CallR X f r) (k : ∀ xs H Q, r' xs H Q → r xs H Q) : CallR X f r' := fun pins s σ H xs us Q I rs q => h pins s σ H xs us Q I rs (k xs H Q q)
theorem call_list_ofO : CallR X (.type "list") (fun xs H Q => ∃ p ys, xs = [.ref p] ∧ (SqL X.K H p ys ∨ SqT X.K H p ys) ∧ NewO H (.lst ys) Q) := callImp call_list_of fun _ _ _ ⟨p, ys, h1, h2, q⟩ => ⟨p, ys, h1, h2, q.to⟩
/-- tuple(list) -/
theorem call_tuple_ofL : CallR X (.type "tuple") (fun xs H Q => ∃ p ys, xs = [.ref p] ∧ SqL X.K H p ys ∧ NewO H (.tup ys) Q) := callImp call_tuple_of fun _ _ _ ⟨p, ys, h1, h2, q⟩ => ⟨p, ys, h1, .inl ⟨h2, q.to⟩⟩
theorem slImp {r r' : V → Option Int → Option Int → Hp → VK → Prop} (h : SlR X r) (k : ∀ x lo hi H Q, r' x lo hi H Q → r x lo hi H Q) : SlR X r' := fun pins s σ H x v vl vu lo hi sl Q I rx hs pl pu q => h pins s σ H x v vl vu lo hi sl Q I rx hs pl pu (k x lo hi H Q q)
def rSlLO (K : PySem.W.Frag) : V → Option Int → Option Int → Hp → VK → Prop := fun x lo hi H Q => ∃ a xs, x = .ref a ∧ SqL K H a xs ∧ NewO H (.lst (cutV xs lo hi)) Q
theorem sl_listO : SlR X (rSlLO X.K) := slImp sl_list fun _ _ _ _ _ ⟨a, xs, h1, h2, q⟩ => ⟨a, xs, h1, h2, q.to⟩
end
end OS
namespace OS
open PySem PySem.Spec PyProof.Rows L2
end OS
namespace OS
open PySem PySem.Spec PyProof.Rows L2
/-- a place to stop: ahead of a loop's turns -/
structure Hold (p : Prop) : Prop where
  go : p
theorem hold_eq (R : It → Hp → Prop) : (fun J H1 => Hold (R J H1)) = R := funext fun J => funext fun H1 => propext ⟨Hold.go, Hold.mk⟩
def iHold (wi : TI) : TI := fun σ H R => wi σ H fun J H1 => Hold (R J H1)
theorem pi_hold {X : Cx} {tg l : Expr} {wi : TI} (h : PI X tg l wi) : PI X tg l (iHold wi) := ⟨fun pins s σ H R I q => by
  have z := h.run pins s σ H (fun J H1 => Hold (R J H1)) I q
  rw [hold_eq] at z
  exact z⟩
end OS
set_option Elab.async false
set_option linter.all false
set_option maxRecDepth 100000
set_option maxHeartbeats 4000000
/-! own errors as values: made by place and by name, their fields read, asked by isinstance -/
namespace PySem
end PySem
namespace OS
open PySem PySem.Spec PyProof.Rows L2
/-- what the top's text says of an own error's class -/
structure ErrT (K : PySem.W.Frag) (C : Addr) : Prop where
  ox : OexC K C
  xf : XfC K C
  ex : ExcC K C
def errB (K : PySem.W.Frag) (C : Addr) : Bool :=
  decide (PySem.W.findIn K (.ref C) "__setattr__" = some (some (.builtin "object.__setattr__"))) && (decide (PySem.W.findIn K (.ref C) "__getattribute__" = some (some (.builtin "BaseException.__getattribute__"))) &&
  (decide (PySem.W.findIn K (.ref C) "__getattr__" = some none) && (decide (PySem.W.subIn K (.ref C) (.type "BaseException") = some true) && (decide (PySem.W.typeIn K (.ref C) = some (.type "type")) &&
  (PySem.W.hasDictIn K C && (PySem.W.keepIn K (.ref C) && (decide (PySem.W.findIn K (.ref C) "__class__" = some (some (.builtin "object.__class__"))) && decide (PySem.W.mroIn K C (.type "object") = some true))))))))
theorem errT_of {K : PySem.W.Frag} {C : Addr} (h : errB K C = true)
    (cls : ∃ nm q N bs bm sn sub ab col dd k0 k1 k2 k3 k5, K.lookup C = some (excClassObj nm q C N bs bm true sn sub ab col dd k0 k1 k2 k3 k5 "ValueError.__new__") ∧ PySem.HandSPX.refsVE bm = true)
    (hn : PySem.W.specialIn K (.builtin "object.__class__") "__get__" = some (some (.builtin "getset_descriptor.__get__"))) (ht : PySem.W.takesIn K (.builtin "object.__class__") = some true) : ErrT K C := by
  unfold errB at h
  simp only [Bool.and_eq_true, decide_eq_true_eq] at h
  obtain ⟨h1, h2, h3, h4, h5, h6, h7, h8, h9⟩ := h
  exact ⟨⟨cls, h1, h4, h5, h7⟩, ⟨h2, h3, h4, h6⟩, ⟨h2, h3, h4, h6, h8, hn, ht, h9⟩⟩
/-- __init__(self, f): self.f = f -/
def spErr (C : Addr) (f : Str) : Sp := fun vs H Q _ => ∃ (a : Addr) (v : V), vs = [.ref a, v] ∧ H a = some (exo a C none) ∧ ∀ dx, H dx = none → dx ≠ a → Q .non (upd (upd H dx (exd dx [(f, v)])) a (exo a C (some dx)))
end OS
namespace OS
open PySem PySem.Spec PyProof.Rows L2
end OS
namespace OS
open PySem PySem.Spec PyProof.Rows L2
end OS
set_option Elab.async false
set_option linter.all false
set_option maxRecDepth 100000
set_option maxHeartbeats 4000000
/-! sorted of tuples of texts, also of empty ones; by key -/
namespace PySem.OSS
open PySem PySem.Calls PySem.SeqAt PySem.W PyProof.Rows
section
variable {prog : Program} {w : World} {A : Around} {E : Value → Shared → Prop} {s : Shared}
/-- one tuple against another, as sorting compares where all are of one type -/
theorem oneLt_tup {xs ys : List PyData} {a b : Value} {as bs : List Addr} {Q : Bool → Shared → Prop} (ra : Reads s.heap a (.tuple xs) as) (rb : Reads s.heap b (.tuple ys) bs) (h : alike (.tuple xs) (.tuple ys) = true)
    (hu : A.units + min (PyData.tuple xs).depth (PyData.tuple ys).depth < cLine) (hq : Q (dataLt (.tuple xs) (.tuple ys)) s) : wpAny (model prog w) A (oneLt' true a b) Q E s := by
  have hal : alikeAll xs ys = true := by simpa [alike] using h
  cases ra with
  | @tuple l o vs n _ as₁ h1 h2 h3 h4 =>
    cases rb with
    | @tuple l' o' vs' n' _ bs₁ k1 k2 k3 k4 =>
      have n1 : vs.size = xs.length := by simpa using ReadsAll.length _ _ _ h4
      have n2 : vs'.size = ys.length := by simpa using ReadsAll.length _ _ _ k4
      rw [dataLt_tuple, ← firstLt_toks xs ys hal, ← n1, ← n2] at hq
      rw [oneLt'_eq]
      simp only [if_true]
      obtain ⟨cls, dd, data, sl⟩ := o
      obtain ⟨cls2, dd2, data2, sl2⟩ := o'
      simp only at h2 h3 k2 k3
      subst h2 h3 k2 k3
      refine wpAny_bind (wpAny_cRoomFor (room_here hu) ?_)
      refine wpAny_bind (wpAny_callSpecialIfBound?_slot (T := "tuple") ⟨_, h1, rfl⟩ F.slot_tuple_lt (call_meets F.slot_tuple_lt ⟨_, h1, rfl⟩ F.entry_tuple_lt (F.args_tuple_lt_2 _ _) (tuple_ltAt l l' vs vs' n n' dd dd2 sl sl2 (pairEq xs ys) (fun j => dataLt (xs.getD j .none) (ys.getD j .none)))
        ⟨h1, k1, fun j j1 j2 => ?_, fun j j1 j2 hj => ?_, ?_⟩))
      · have := eqAt_alikeAll xs ys A.in1 s vs.toList vs'.toList _ _ h4 k4 hal (room_in hu) j (by simpa using j1) (by simpa using j2)
        simpa using this
      · have := rcLt_alikeAll xs ys A.in1 s vs.toList vs'.toList _ _ h4 k4 hal (room_in hu) j (by simpa using j1) (by simpa using j2) hj
        simpa using this
      · exact wpAny_truthy_bool hq
/-- what the tuples begin with -/
theorem firsts_any {M : Model} {A : Around} {E : Value → Shared → Prop} : ∀ {vs : List Value} {ds : List PyData}, EachIs (fun v d => ∃ as, Reads s.heap v d as) vs ds → (∀ d, d ∈ ds → ∃ r, d = .tuple r) →
    ∃ fs : List (Option Value), fs.length = vs.length ∧ (ds.head? = some (.tuple ([] : List PyData)) → fs.head? = some none) ∧ ∀ {Q : List (Option Value) → Shared → Prop}, Q fs s → wpAny M A (vs.mapM firstOfTuple') Q E s
  | _, _, .nil, _ => ⟨[], rfl, fun h => by simp at h, fun h => by rw [List.mapM_nil]; exact wpAny_pure h⟩
  | _, _, .cons (a := v) (b := d) ⟨as, r⟩ t, ht => by
    obtain ⟨fs, h1, _, h3⟩ := firsts_any t fun d hd => ht d (List.mem_cons_of_mem _ hd)
    obtain ⟨r0, rfl⟩ := ht d (List.mem_cons_self ..)
    cases r with
    | @tuple a o xs n _ _ ho hc hd hr =>
      refine ⟨xs[0]? :: fs, by rw [List.length_cons, List.length_cons, h1], fun e => ?_, fun {Q} hq => ?_⟩
      · have e' : r0 = [] := by simpa using e
        subst e'
        have hx : xs.toList = [] := by
          cases q : xs.toList with
          | nil => rfl
          | cons f fr => rw [q] at hr; cases hr
        have hx' : xs[0]? = none := by rw [← Array.getElem?_toList, hx]; rfl
        rw [hx']
        rfl
      · rw [List.mapM_cons]
        refine wpAny_bind ?_
        rw [kas_first_eq]
        refine wpAny_bind (Looks.here (show Looks M s.heap (typeOf (.ref a)) o.cls from (Looks.ld ho).andThen .now) ?_)
        rw [hc, if_neg (by first | decide | simp)]
        refine wpAny_bind (listItems_at ho hd (wpAny_pure ?_))
        exact wpAny_bind (h3 (wpAny_pure hq))
/-- tuples of which the first is empty: compared as things of one type -/
theorem kind_tup0 {M : Model} {vs : List Value} {ds : List PyData} {Q : SortKind → Shared → Prop} (e : EachIs (fun v d => ∃ as, Reads s.heap v d as) vs (.tuple [] :: ds)) (ht : ∀ d, d ∈ ds → ∃ r, d = .tuple r) (h : Q oneType' s) :
    wpAny M A (keyKind' vs.toArray) Q E s := by
  have ht' : ∀ d, d ∈ PyData.tuple [] :: ds → ∃ r, d = .tuple r := fun d hd => by
    rcases List.mem_cons.mp hd with rfl | hd
    · exact ⟨_, rfl⟩
    · exact ht d hd
  obtain ⟨fs, f1, f2, f3⟩ := firsts_any (M := M) (A := A) (E := E) e ht'
  have f2 := f2 rfl
  obtain ⟨v₁, rest, rfl⟩ : ∃ v₁ rest, vs = v₁ :: rest := by
    cases e with
    | cons _ _ => exact ⟨_, _, rfl⟩
  cases fs with
  | nil => simp at f2
  | cons f fr =>
    have ef : f = none := by simpa using f2
    subst ef
    rw [kat_kind_eq, List.mapM_toArray, map_eq_pure_bind]
    refine wpAny_bind (wpAny_bind (f3 (wpAny_pure ?_)))
    rw [if_neg (by simp), if_neg (by simp)]
    rw [oneTypeOnly'_eq, List.mapM_toArray, map_eq_pure_bind]
    have hT : ∀ v ∈ v₁ :: rest, Looks M s.heap (typeOf v) (Value.type "tuple") := fun v hv => by
      obtain ⟨d, hd, as, r⟩ := e.left v hv
      obtain ⟨r', rfl⟩ := ht' d hd
      exact looks_reads r
    refine wpAny_bind (wpAny_bind (wpAny_bind (kas_mapM (r := Value.type "tuple") _ (fun v hv Q' hq => (hT v hv).here hq) (wpAny_pure ?_))))
    have hall : ((List.map (fun _ => Value.type "tuple") (v₁ :: rest)).toArray.all fun x => x == Value.type "tuple") = true := by
      simp only [List.all_toArray, List.all_map, List.all_eq_true]
      intro _ _
      rfl
    have h0 : (List.map (fun _ => Value.type "tuple") (v₁ :: rest)).toArray[0]? = some (Value.type "tuple") := by simp
    rw [h0]
    simp only [hall, if_true]
    exact wpAny_pure (wpAny_pure h)
/-- tuples of which the first is empty can be sorted -/
theorem sorts_tup0 {vs : List Value} {ds : List PyData} (e : EachIs (fun v d => ∃ as, Reads s.heap v d as) vs (.tuple [] :: ds)) (ht : ∀ d, d ∈ ds → ∃ r, d = .tuple r) (hal : AllAlike (.tuple [] :: ds)) (hu : ∀ d, d ∈ PyData.tuple [] :: ds → A.units + d.depth < cLine) :
    SortsAt prog w A s (dataKind s.heap (.tuple [] :: ds)) vs := by
  have ht' : ∀ d, d ∈ PyData.tuple [] :: ds → ∃ r, d = .tuple r := fun d hd => by
    rcases List.mem_cons.mp hd with rfl | hd
    · exact ⟨_, rfl⟩
    · exact ht d hd
  refine ⟨fun v hv => ?_, oneType', ?_, fun h2 E Q hq => kind_tup0 e ht hq⟩
  · obtain ⟨d, hd, as, r⟩ := e.left v hv
    exact ⟨_, dataKind_some hal hd r⟩
  · intro E x y a b Q ha hb hq
    obtain ⟨d, as, hd, ra, rfl⟩ := dataKind_inv ha
    obtain ⟨d', as', hd', rb, rfl⟩ := dataKind_inv hb
    obtain ⟨r, rfl⟩ := ht' d hd
    obtain ⟨r', rfl⟩ := ht' d' hd'
    rw [keyLt'_oneType]
    exact oneLt_tup ra rb (hal _ hd _ hd') (Nat.lt_of_le_of_lt (Nat.add_le_add_left (Nat.min_le_left _ _) _) (hu _ hd)) hq
/-- can be sorted: as the library has it, or tuples of which the first is empty -/
def SortableX (ds : List PyData) : Prop := Sortable ds ∨ ∃ r, ds = .tuple [] :: r ∧ ∀ d, d ∈ r → ∃ x, d = .tuple x
theorem sorts_dataX {vs : List Value} {ds : List PyData} (e : EachIs (fun v d => ∃ as, Reads s.heap v d as) vs ds) (hal : AllAlike ds) (hk : SortableX ds) (hu : ∀ d, d ∈ ds → A.units + d.depth < cLine) :
    SortsAt prog w A s (dataKind s.heap ds) vs := by
  rcases hk with hk | ⟨r, rfl, ht⟩
  · exact SortsAt.data e hal hk hu
  · exact sorts_tup0 e ht hal hu
theorem sorted_dataX {β : Type} {vs : List Value} {bs : List β} {enc : β → PyData} {R : Value → β → Prop} {l : Addr} {Q : Value → Shared → Prop} (hl : s.heap.IsList l vs.toArray) (e : EachIs R vs bs) (er : EachIs (fun v b => ∃ as, Reads s.heap v (enc b) as) vs bs) (hal : AllAlike (bs.map enc)) (hk : SortableX (bs.map enc)) (hL : bs.length ≤ sizeLine)
    (hu : ∀ b, b ∈ bs → A.units + 2 + (enc b).depth < cLine) (h : ∀ out, out.length = bs.length → EachIs R out (bs.mergeSort (dataLe false enc)) → Q (.ref (s.heap.objs.size + 1)) { s with heap := sortedAll s.heap vs (List.toArray out) }) :
    wpAny (model prog w) A (call (.builtin "sorted") [.ref l]) Q E s := by
  have er' : EachIs (fun v b => ∃ as, Reads (sortingHeap (copyHeap s.heap vs) (s.heap.objs.size + 1) vs) v (enc b) as) vs bs := er.mono fun _ _ ⟨as, r⟩ => ⟨as, PyProof.Rows.Reads.keeps (fun _ _ => sorting_copy_old) r⟩
  exact sorted_vals hl (sorts_dataX (s := { s with heap := sortingHeap (copyHeap s.heap vs) (s.heap.objs.size + 1) vs }) (each_map (R := fun v d => ∃ as, Reads (sortingHeap (copyHeap s.heap vs) (s.heap.objs.size + 1) vs) v d as) enc er') hal hk (bound_map hu)) (by rw [e.length]; exact hL)
    (h _ (by rw [sortVals_length false rfl]; exact e.length) (sortVals_data false e er' hal))
end
end PySem.OSS
set_option Elab.async false
set_option linter.all false
set_option maxRecDepth 100000
set_option maxHeartbeats 4000000
namespace OS
open PySem PySem.Spec PyProof.Rows L2 PySem.OSS
open PySem.W (EachIs AllAlike dataLe)
theorem each_of_vals {β : Type} (fv : β → V) : ∀ {bs : List β} {us : List Value}, Vals (bs.map fv) us → EachIs (fun v b => RelV (fv b) v) us bs
  | [], _, r => by
    have r' : Vals [] _ := r
    cases r'
    exact .nil
  | b :: bs, _, r => by
    have r' : Vals (fv b :: bs.map fv) _ := r
    cases r' with
    | cons h t => exact .cons h (each_of_vals fv t)
theorem vals_of_each {β : Type} (fv : β → V) : ∀ {bs : List β} {us : List Value}, EachIs (fun v b => RelV (fv b) v) us bs → Vals (bs.map fv) us
  | _, _, .nil => .nil
  | _, _, .cons h t => .cons h (vals_of_each fv t)
/-- sorted(xs): xs a list of data, b's value fv b, its data enc b -/
structure SortXAt (K : PySem.W.Frag) (H : Hp) (Q : VK) (a : Addr) : Prop where
  go : ∃ (β : Type) (bs : List β) (fv : β → V) (enc : β → PyData), SqL K H a (bs.map fv) ∧ (∀ b ∈ bs, Dp K H (fv b) (enc b)) ∧ AllAlike (bs.map enc) ∧ SortableX (bs.map enc) ∧ (∀ b ∈ bs, (enc b).depth ≤ 3) ∧ NewO H (.lst ((bs.mergeSort (dataLe false enc)).map fv)) Q
def rSortX (K : PySem.W.Frag) : List V → Hp → VK → Prop := fun vs H Q => ∃ (a : Addr), vs = [V.ref a] ∧ SortXAt K H Q a
section
variable {X : Cx}
theorem cr_sortX (hu : X.A.units + 65 < cLine) : CallR X (.builtin "sorted") (rSortX X.K) := by
  intro pins s σ H vs us Q I r h
  obtain ⟨a, rfl, β, bs, fv, enc, hs, hd, hal, hk, hdp, q⟩ := h
  obtain ⟨its, rv, hl, hz⟩ := I.list hs
  obtain ⟨u, rfl, ru⟩ := vals1 r
  obtain rfl : u = Value.ref a := ru
  have e := each_of_vals fv rv
  rw [List.length_map] at hz
  refine sorted_dataX (R := fun v b => RelV (fv b) v) (enc := enc) hl.isList e ((PySem.W.each_mem e).mono fun v b ⟨r1, hb⟩ => Dp.reads I (enc b) (fv b) v (hd b hb) r1) hal hk hz (fun b hb => ?_) fun out ho eo => ?_
  · have := hdp b hb
    omega
  · obtain ⟨ep, he'⟩ := PyProof.Rows.sortedAll_at s.heap its out.toArray
    refine ⟨.ref _, upd H (s.heap.objs.size + 1) (.lst ((bs.mergeSort (dataLe false enc)).map fv)), I.laid (t' := s.toks) (fun _ _ => PyProof.Rows.sortedAll_old) (Nat.le_succ _) ⟨?_, out, ep, vals_of_each fv eo, he'⟩, rfl, q.to _ (I.hok.fresh (Nat.le_succ _))⟩
    rw [List.length_map, List.length_mergeSort]
    exact hz
variable {e : Expr} {te : TE} {x y kn : Str} {p kp pos kpos : Pos}
/-- sorted(xs, key=len): xs a list of tuples, b's value fv b, its length ln b -/
structure SortLenAt (K : PySem.W.Frag) (Q : VK) (H1 : Hp) (a : Addr) : Prop where
  go : ∃ (β : Type) (bs : List β) (fv : β → V) (ln : β → Nat), SqL K H1 a (bs.map fv) ∧ (∀ b ∈ bs, ∃ t zs, fv b = .ref t ∧ SqT K H1 t zs ∧ zs.length = ln b) ∧
    NewO H1 (.lst ((bs.mergeSort fun b c => decide ((ln b : Int) ≤ (ln c : Int))).map fv)) Q
def sortLenAt (K : PySem.W.Frag) (Q : VK) (v : V) (H1 : Hp) : Prop := ∃ (a : Addr), v = V.ref a ∧ SortLenAt K Q H1 a
def tSortLen (K : PySem.W.Frag) (te : TE) : TE := fun σ H Q => te σ H fun v H1 => sortLenAt K Q v H1
theorem pe_sortLen (hu : X.A.units + 65 < cLine) (hg : Gl X "sorted") (hm : X.mg "sorted" = none) (hgl : Gl X "len") (hml : X.mg "len" = none) (he : PE X e te)
    (hst : starEach [e] X.env = (false, eval e X.env) :: starEach [] X.env := by rfl) (hee : backTo pos (starEach [e] X.env) = (false, eval e X.env) :: backTo pos (starEach [] X.env) := by rfl) (hpl : (backTo pos (starEach [e] X.env)).any (·.1) = false := by rfl) :
    PE X (.Call (.Name "sorted" p) [e] [⟨some "key", .Name "len" kp, kpos⟩] pos) (tSortLen X.K te) := by
  refine ⟨fun pins s σ H Q I h => ?_⟩
  refine wpAny_Call_Name_kw (ld_blt I hg hm (by rfl) ?_ (by decide) (by decide))
  have h' : tCons te tNil σ H (fun vs H1 => match vs with | [x] => sortLenAt X.K Q x H1 | _ => False) := h
  refine PyProof.Rows.callWith_kw (thn ((pa_cons he pa_nil hst).run pos pins s σ H _ I h') fun us s1 ⟨vs, H1, I1, r1, q1⟩ => ?_) hee hpl (by rfl) (by rfl)
  show wpAny _ _ (evalAll [(do let v ← eval (.Name "len" kp) X.env; standAt pos; pure v)]) _ _ s1
  refine wpAny_evalAll_cons (wpAny_bind (ld_blt I1 hgl hml (by rfl) (wpAny_bind (wpAny_standAt (wpAny_pure ?_))) (by decide) (by decide)))
  refine wpAny_evalAll_nil ?_
  match vs, r1, q1 with
  | [v], r1, q1 =>
  obtain ⟨a, rfl, β, bs, fv, ln, hs, ht, q⟩ := q1
  obtain ⟨u, rfl, ru⟩ := vals1 r1
  obtain rfl : u = Value.ref a := ru
  obtain ⟨its, rv, hl, hz⟩ := I1.list hs
  have e := each_of_vals fv rv
  rw [List.length_map] at hz
  refine PySem.W.sorted_key_data (kw := [(Str.ofString "key", .builtin "len")]) (b := false) (R := fun v b => RelV (fv b) v) (fun b => PyData.int (ln b)) hl.isList e (AllAlike.of fun b b' => by simp [PySem.W.alike]) (PySem.W.Sortable.others fun b => ⟨(fun z => nomatch z), fun xs z => nomatch z⟩) hz (fun b hb => ?_) (PyProof.Rows.ksk_s1 _ _) (fun _ => PyProof.Rows.ksk_l1 _ _) (fun x => PyProof.Rows.ksk_t4 _ _) (fun v b hR hb h tk kp => ?_) fun out c h' tk kp hn ho hlen eo => ?_
  · simp only [PyData.depth]
    omega
  · obtain ⟨t, zs, e1, h1, h2⟩ := ht b hb
    have hR' : RelV (V.ref t) v := e1 ▸ hR
    obtain rfl : v = Value.ref t := hR'
    obtain ⟨its2, rv2, ⟨o, g1, g2, n, g3⟩, hz2⟩ := I1.tuple h1
    refine PyProof.Rows.len_tuple (items := its2.toArray) ⟨o, kp _ _ g1, g2, n, g3⟩ ?_ ?_
    · have := rv2.length
      have hsl := sizeLine_eq
      rw [List.size_toArray]
      omega
    · refine ⟨h, tk + 1 + 1, rfl, fun _ _ q => q, ?_⟩
      have e2 : (its2.toArray.size : Int) = (ln b : Int) := by
        rw [List.size_toArray, ← rv2.length, h2]
      rw [e2]
      exact Reads.int _ _
  · have e3 : (bs.mergeSort (dataLe false fun b => PyData.int (ln b))) = bs.mergeSort fun b c => decide ((ln b : Int) ≤ (ln c : Int)) := by
      rw [PySem.W.dataLe_int (fun b => (ln b : Int))]
    rw [e3] at eo
    refine ⟨.ref _, upd H1 (s1.heap.objs.size + 1) (.lst ((bs.mergeSort fun b c => decide ((ln b : Int) ≤ (ln c : Int))).map fv)), I1.laid (t' := tk) kp (Nat.le_succ _) ⟨?_, out, c, vals_of_each fv eo, ho⟩, rfl, q.to _ (I1.hok.fresh (Nat.le_succ _))⟩
    rw [List.length_map, List.length_mergeSort]
    exact hz
end
end OS
set_option Elab.async false
set_option linter.all false
set_option maxRecDepth 100000
set_option maxHeartbeats 4000000
/-! lists of groups, without the heap -/
namespace OS
open PySem PySem.Spec PyProof.Rows L2 PySem.OSS
open PySem.W (EachIs AllAlike dataLe TotalLe sameRank sort_unique sort_stable sort_pairwise sortLe_total)
section
variable {α : Type} {r l p : α → α → Bool}
theorem rank_filter {q : α → α → Bool} (h : TotalLe q) (c : α) (t : α → Bool) (ht : ∀ a, t a = true → sameRank q c a = true) (xs : List α) : (xs.mergeSort q).filter t = xs.filter t := by
  have e : ∀ ys : List α, ys.filter t = (ys.filter (sameRank q c)).filter t := fun ys => by
    rw [List.filter_filter]
    refine List.filter_congr fun a _ => ?_
    cases q1 : t a with
    | false => simp
    | true => rw [ht a q1]; rfl
  rw [e, e xs, sort_stable h]
theorem pairwise_two (hl : TotalLe l) : ∀ {m : List α}, m.Pairwise (fun a b => l a b = true) → (∀ c, (m.filter (sameRank l c)).Pairwise (fun a b => r a b = true)) → m.Pairwise (fun a b => l a b = true ∧ (l b a = true → r a b = true))
  | [], _, _ => .nil
  | x :: m, h1, h2 => by
    obtain ⟨h3, h4⟩ := List.pairwise_cons.mp h1
    refine List.pairwise_cons.mpr ⟨fun y hy => ⟨h3 y hy, fun hyx => ?_⟩, pairwise_two hl h4 fun c => ?_⟩
    · have q := h2 x
      rw [List.filter_cons_of_pos (PySem.W.sameRank_self hl x)] at q
      refine (List.pairwise_cons.mp q).1 y (List.mem_filter.mpr ⟨hy, ?_⟩)
      unfold sameRank
      rw [h3 y hy, hyx]
      rfl
    · exact (h2 c).sublist ((List.sublist_cons_self x m).filter _)
/-- sorted by r, then by l, is sorted by l and among equals by r -/
theorem sort_two (hr : TotalLe r) (hl : TotalLe l) (hp : TotalLe p) (H : ∀ a b, p a b = true ↔ (l a b = true ∧ (l b a = true → r a b = true))) (xs : List α) : (xs.mergeSort r).mergeSort l = xs.mergeSort p := by
  have hrank : ∀ c a, sameRank p c a = true → sameRank l c a = true ∧ sameRank r c a = true := fun c a h => by
    unfold sameRank at h ⊢
    rw [Bool.and_eq_true] at h
    obtain ⟨h1, h2⟩ := h
    obtain ⟨a1, a2⟩ := (H c a).mp h1
    obtain ⟨b1, b2⟩ := (H a c).mp h2
    rw [a1, b1, a2 b1, b2 a1]
    exact ⟨rfl, rfl⟩
  refine sort_unique hp ?_ fun c => ?_
  · refine (pairwise_two (r := r) hl (sort_pairwise hl _) fun c => ?_).imp fun {a b} h => (H a b).mpr h
    rw [sort_stable hl]
    exact (sort_pairwise hr xs).sublist List.filter_sublist
  · rw [rank_filter hl c _ fun a h => (hrank c a h).1, rank_filter hr c _ fun a h => (hrank c a h).2]
end
/-! ### groups: tuples of texts -/
abbrev encG (g : List Str) : PyData := .tuple (g.map .str)
abbrev encP (g : List Str) : PyData := .tuple [.int (g.length : Int), .tuple (g.map .str)]
theorem eqvAll_strs : ∀ xs ys : List Str, PyData.eqvAll (xs.map .str) (ys.map .str) = decide (xs = ys)
  | [], [] => by simp [PyData.eqvAll]
  | [], _ :: _ => by simp [PyData.eqvAll]
  | _ :: _, [] => by simp [PyData.eqvAll]
  | x :: xs, y :: ys => by
    show (PyData.eqv (.str x) (.str y) && PyData.eqvAll (xs.map .str) (ys.map .str)) = _
    rw [eqvAll_strs xs ys]
    show ((x == y) && decide (xs = ys)) = decide (x :: xs = y :: ys)
    by_cases h1 : x = y <;> by_cases h2 : xs = ys <;> simp [h1, h2]
theorem eqv_G (g g' : List Str) : PyData.eqv (encG g) (encG g') = decide (g = g') := by
  show PyData.eqvAll (g.map .str) (g'.map .str) = _
  exact eqvAll_strs g g'
theorem alikeAll_strs : ∀ xs ys : List Str, PySem.W.alikeAll (xs.map .str) (ys.map .str) = true
  | [], _ => by simp [PySem.W.alikeAll]
  | _ :: _, [] => by simp [PySem.W.alikeAll]
  | x :: xs, y :: ys => by
    show PySem.W.alikeAll (.str x :: xs.map .str) (.str y :: ys.map .str) = true
    rw [PySem.W.alikeAll, alikeAll_strs xs ys]
    simp [PySem.W.alike]
theorem alike_G (g g' : List Str) : PySem.W.alike (encG g) (encG g') = true := by
  show PySem.W.alike (.tuple (g.map .str)) (.tuple (g'.map .str)) = true
  rw [PySem.W.alike, alikeAll_strs]
theorem alike_P (g g' : List Str) : PySem.W.alike (encP g) (encP g') = true := by
  show PySem.W.alike (.tuple [.int _, .tuple (g.map .str)]) (.tuple [.int _, .tuple (g'.map .str)]) = true
  rw [PySem.W.alike, PySem.W.alikeAll, PySem.W.alikeAll, alike_G g g']
  simp [PySem.W.alike, PySem.W.alikeAll]
theorem depth_strs : ∀ xs : List Str, PyData.depthAll (xs.map .str) = 0
  | [] => by simp [PyData.depthAll]
  | x :: xs => by
    show PyData.depthAll (.str x :: xs.map .str) = 0
    rw [PyData.depthAll, depth_strs xs]
    simp [PyData.depth]
theorem depth_G (g : List Str) : (encG g).depth = 1 := by
  show PyData.depth (.tuple (g.map .str)) = 1
  simp only [PyData.depth, depth_strs]
theorem depth_P (g : List Str) : (encP g).depth = 2 := by
  show PyData.depth (.tuple [.int _, .tuple (g.map .str)]) = 2
  simp only [PyData.depth, PyData.depthAll, depth_strs]
  rfl
theorem lt_irr (d : PyData) : PySem.W.dataLt d d = false := PyProof.Rows.lex_irrefl _
/-- sorted, then sorted by length, is sorted by (length, group) -/
theorem groups_sort (gs : List (List Str)) : (gs.mergeSort (dataLe false encG)).mergeSort (fun b c => decide ((b.length : Int) ≤ (c.length : Int))) = gs.mergeSort (dataLe false encP) := by
  refine sort_two (sortLe_total _ _ _) ⟨fun a b c h1 h2 => ?_, fun a b => ?_⟩ (sortLe_total _ _ _) (fun a b => ?_) gs
  · simp only [decide_eq_true_eq] at *
    omega
  · simp only [decide_eq_true_eq]
    omega
  · show (!PySem.W.dataLt (encP b) (encP a)) = true ↔ (decide _ = true ∧ (decide _ = true → (!PySem.W.dataLt (encG b) (encG a)) = true))
    rw [PySem.W.dataLt_pair (by simp [PySem.W.alike]) (alike_G b a), PySem.W.dataLt_int, eqv_G]
    simp only [PyData.eqv, beq_iff_eq, decide_eq_true_eq]
    by_cases h : (b.length : Int) = a.length
    · rw [if_pos h]
      by_cases h2 : b = a
      · subst h2
        rw [if_pos rfl, lt_irr]
        simp
      · rw [if_neg h2]
        constructor
        · intro q
          exact ⟨by omega, fun _ => q⟩
        · intro q
          exact q.2 (by omega)
    · rw [if_neg h]
      simp only [Bool.not_eq_true', decide_eq_false_iff_not]
      constructor
      · intro q
        exact ⟨by omega, fun z => by omega⟩
      · intro q
        omega
/-- by (length, group) -/
abbrev leP : List Str → List Str → Bool := dataLe false encP
theorem leP_iff (a b : List Str) : leP a b = true ↔ ((a.length : Int) ≤ b.length ∧ (b.length = a.length → (!PySem.W.dataLt (encG b) (encG a)) = true)) := by
  show (!PySem.W.dataLt (encP b) (encP a)) = true ↔ _
  rw [PySem.W.dataLt_pair (by simp [PySem.W.alike]) (alike_G b a), PySem.W.dataLt_int, eqv_G]
  simp only [PyData.eqv, beq_iff_eq, decide_eq_true_eq]
  by_cases h : (b.length : Int) = a.length
  · rw [if_pos h]
    by_cases h2 : b = a
    · subst h2
      rw [if_pos rfl, lt_irr]
      simp
    · rw [if_neg h2]
      exact ⟨fun q => ⟨by omega, fun _ => q⟩, fun q => q.2 (by omega)⟩
  · rw [if_neg h]
    simp only [Bool.not_eq_true', decide_eq_false_iff_not]
    exact ⟨fun q => ⟨by omega, fun z => by omega⟩, fun q => by omega⟩
/-! ### all groups -/
def setsL (ps : List Str) : List (List Str) := ps.foldl (fun gs n => gs ++ gs.map (· ++ [n])) [[]]
def allG (ps : List Str) : List (List Str) := (setsL ps).mergeSort leP
theorem setsL_snoc (ps : List Str) (n : Str) : setsL (ps ++ [n]) = setsL ps ++ (setsL ps).map (· ++ [n]) := by
  unfold setsL
  rw [List.foldl_append]
  rfl
theorem setsL_head : ∀ ps : List Str, ∃ r, setsL ps = [] :: r := fun ps => by
  suffices h : ∀ (ps : List Str) (gs : List (List Str)), (∃ r, gs = [] :: r) → ∃ r, ps.foldl (fun gs n => gs ++ gs.map (· ++ [n])) gs = [] :: r from h ps [[]] ⟨[], rfl⟩
  intro ps
  induction ps with
  | nil => exact fun gs h => h
  | cons n ps ih =>
    intro gs ⟨r, e⟩
    rw [List.foldl_cons]
    exact ih _ ⟨_, by rw [e]; rfl⟩
theorem setsL_len (ps : List Str) : (setsL ps).length = 2 ^ ps.length := by
  suffices h : ∀ (ps : List Str) (gs : List (List Str)), (ps.foldl (fun gs n => gs ++ gs.map (· ++ [n])) gs).length = gs.length * 2 ^ ps.length by
    exact (h ps [[]]).trans (by simp)
  intro ps
  induction ps with
  | nil => intro gs; simp
  | cons n ps ih =>
    intro gs
    rw [List.foldl_cons, ih, List.length_append, List.length_map, List.length_cons, Nat.pow_succ]
    rw [Nat.mul_comm (2 ^ ps.length) 2, ← Nat.mul_assoc]
    congr 1
    omega
theorem mem_sets_from : ∀ (ps : List Str) (gs : List (List Str)) (g : List Str), g ∈ ps.foldl (fun gs n => gs ++ gs.map (· ++ [n])) gs ↔ ∃ g0 ∈ gs, ∃ s : List Str, s.Sublist ps ∧ g = g0 ++ s
  | [], gs, g => by
    rw [List.foldl_nil]
    constructor
    · exact fun h => ⟨g, h, [], .slnil, by simp⟩
    · rintro ⟨g0, h, s, hs, rfl⟩
      rw [List.sublist_nil.mp hs, List.append_nil]
      exact h
  | n :: ps, gs, g => by
    rw [List.foldl_cons, mem_sets_from ps]
    constructor
    · rintro ⟨g0, h, s, hs, rfl⟩
      rcases List.mem_append.mp h with h | h
      · exact ⟨g0, h, s, hs.cons _, rfl⟩
      · obtain ⟨g1, h1, rfl⟩ := List.mem_map.mp h
        exact ⟨g1, h1, n :: s, hs.cons_cons _, by simp⟩
    · rintro ⟨g0, h, s, hs, rfl⟩
      cases hs with
      | cons _ hs => exact ⟨g0, List.mem_append_left _ h, s, hs, rfl⟩
      | cons_cons _ hs => exact ⟨g0 ++ [n], List.mem_append_right _ (List.mem_map.mpr ⟨g0, h, rfl⟩), _, hs, by simp⟩
theorem mem_sets {ps g : List Str} : g ∈ setsL ps ↔ g.Sublist ps := by
  unfold setsL
  rw [mem_sets_from]
  constructor
  · rintro ⟨g0, h, s, hs, rfl⟩
    rw [List.mem_singleton.mp h]
    exact hs
  · exact fun h => ⟨[], List.mem_singleton.mpr rfl, g, h, rfl⟩
theorem allG_perm (ps : List Str) : (allG ps).Perm (setsL ps) := List.mergeSort_perm _ _
theorem mem_allG {ps g : List Str} : g ∈ allG ps ↔ g.Sublist ps := ((allG_perm ps).mem_iff).trans mem_sets
/-- the names of g among ps, in their order -/
def pick (ps g : List Str) : List Str := ps.filter fun n => decide (n ∈ g)
theorem pick_sub : ∀ {ps g : List Str}, ps.Nodup → g.Sublist ps → pick ps g = g
  | [], g, _, h => by
    rw [List.sublist_nil.mp h]
    rfl
  | n :: ps, g, hp, h => by
    obtain ⟨h1, h2⟩ := List.nodup_cons.mp hp
    cases h with
    | cons _ h =>
      have hn : n ∉ g := fun q => h1 (h.subset q)
      unfold pick
      rw [List.filter_cons_of_neg (by simp [hn])]
      exact pick_sub h2 h
    | @cons_cons g' _ _ h =>
      unfold pick
      rw [List.filter_cons_of_pos (by simp)]
      congr 1
      have e : (ps.filter fun m => decide (m ∈ n :: g')) = ps.filter fun m => decide (m ∈ g') := List.filter_congr fun m hm => by
        have : m ≠ n := fun q => h1 (q ▸ hm)
        simp [this]
      rw [e]
      exact pick_sub h2 h
end OS
set_option Elab.async false
set_option linter.all false
set_option maxRecDepth 100000
set_option maxHeartbeats 4000000
/-! least groups, two ways -/
namespace OS
open PySem PySem.Spec PyProof.Rows L2 PySem.OSS
/-- all of o's names are in g -/
def inside (o g : List Str) : Bool := o.all fun n => decide (n ∈ g)
theorem inside_iff {o g : List Str} : inside o g = true ↔ ∀ n ∈ o, n ∈ g := by
  unfold inside
  simp
def givenP (ps : List Str) (rows : List (List Str)) : List (List Str) := (allG ps).filter fun g => decide (g ∈ rows)
def leastP (ps : List Str) (rows : List (List Str)) : List (List Str) := (givenP ps rows).filter fun g => !((givenP ps rows).any fun o => decide (o ≠ g) && inside o g)
def leastStep (A : List (List Str)) (g : List Str) : List (List Str) := if (A.filter fun o => inside o g) = [] then A ++ [g] else A
theorem sub_of_inside {ps a b : List Str} (hp : ps.Nodup) (ha : a.Sublist ps) (hb : b.Sublist ps) (h : ∀ n ∈ a, n ∈ b) : a.Sublist b := by
  have e : (pick ps b).filter (fun n => decide (n ∈ a)) = pick ps a := by
    unfold pick
    rw [List.filter_filter]
    refine List.filter_congr fun n _ => ?_
    by_cases q : n ∈ a
    · simp [q, h n q]
    · simp [q]
  rw [pick_sub hp ha, pick_sub hp hb] at e
  rw [← e]
  exact List.filter_sublist
structure LeastInv (ps : List Str) (pre A : List (List Str)) : Prop where
  sub : A.Sublist pre
  nd : A.Nodup
  cov : ∀ o ∈ pre, ∃ f ∈ A, ∀ n ∈ f, n ∈ o
  min : ∀ g ∈ A, ∀ o ∈ pre, (∀ n ∈ o, n ∈ g) → o = g
theorem LeastInv.step {ps : List Str} {pre A : List (List Str)} {g : List Str} (hp : ps.Nodup) (I : LeastInv ps pre A) (hs : ∀ o ∈ pre ++ [g], o.Sublist ps) (hle : ∀ o ∈ pre, leP o g = true) : LeastInv ps (pre ++ [g]) (leastStep A g) := by
  have hg := hs g (by simp)
  have old : ∀ g' ∈ A, (∀ n ∈ g, n ∈ g') → g = g' := fun g' h' hin => by
    have h'' := I.sub.subset h'
    have s := sub_of_inside hp hg (hs g' (List.mem_append_left _ h'')) hin
    obtain ⟨l1, _⟩ := (leP_iff g' g).mp (hle g' h'')
    exact s.eq_of_length_le (by omega)
  unfold leastStep
  by_cases q : (A.filter fun o => inside o g) = []
  · rw [if_pos q]
    have no : ∀ f ∈ A, ¬ ∀ n ∈ f, n ∈ g := fun f hf hin => (List.filter_eq_nil_iff.mp q) f hf (inside_iff.mpr hin)
    refine ⟨I.sub.append (List.Sublist.refl _), List.nodup_append.mpr ⟨I.nd, by simp, fun a ha b hb e => ?_⟩, fun o ho => ?_, fun g' h' o ho hin => ?_⟩
    · rw [List.mem_singleton] at hb
      subst e
      subst hb
      exact no _ ha fun n h => h
    · rcases List.mem_append.mp ho with ho | ho
      · obtain ⟨f, hf, h⟩ := I.cov o ho
        exact ⟨f, List.mem_append_left _ hf, h⟩
      · rw [List.mem_singleton] at ho
        subst ho
        exact ⟨o, by simp, fun n h => h⟩
    · rcases List.mem_append.mp h' with h5 | h5
      · rcases List.mem_append.mp ho with ho1 | ho1
        · exact I.min g' h5 o ho1 hin
        · rw [List.mem_singleton] at ho1
          subst ho1
          exact old g' h5 hin
      · rw [List.mem_singleton] at h5
        subst h5
        rcases List.mem_append.mp ho with ho | ho
        · obtain ⟨f, hf, h⟩ := I.cov o ho
          exact absurd (fun n hn => hin n (h n hn)) (no f hf)
        · exact List.mem_singleton.mp ho
  · rw [if_neg q]
    obtain ⟨f, hf⟩ := List.exists_mem_of_ne_nil _ q
    obtain ⟨hfA, hin⟩ := List.mem_filter.mp hf
    refine ⟨I.sub.trans (List.sublist_append_left _ _), I.nd, fun o ho => ?_, fun g' h' o ho hin' => ?_⟩
    · rcases List.mem_append.mp ho with ho | ho
      · exact I.cov o ho
      · rw [List.mem_singleton] at ho
        subst ho
        exact ⟨f, hfA, inside_iff.mp hin⟩
    · rcases List.mem_append.mp ho with ho | ho
      · exact I.min g' h' o ho hin'
      · rw [List.mem_singleton] at ho
        subst ho
        exact old g' h' hin'
theorem LeastInv.run {ps : List Str} (hp : ps.Nodup) : ∀ (suf pre A : List (List Str)), LeastInv ps pre A → (∀ o ∈ pre ++ suf, o.Sublist ps) → (pre ++ suf).Pairwise (fun a b => leP a b = true) → LeastInv ps (pre ++ suf) (suf.foldl leastStep A)
  | [], pre, A, I, _, _ => by
    rw [List.append_nil]
    exact I
  | g :: suf, pre, A, I, hs, hle => by
    have e : pre ++ g :: suf = (pre ++ [g]) ++ suf := by simp
    rw [e] at hs hle ⊢
    rw [List.foldl_cons]
    exact LeastInv.run hp suf _ _ (I.step hp (fun o ho => hs o (List.mem_append_left _ ho)) fun o ho => (List.pairwise_append.mp (List.pairwise_append.mp hle).1).2.2 o ho g (by simp)) hs hle
end OS
set_option Elab.async false
set_option linter.all false
set_option maxRecDepth 100000
set_option maxHeartbeats 4000000
/-! a text in a list or tuple of anything -/
namespace PySem.OSS
open PySem.SeqAt AutoSeq1 MeetsSeq PySem.Calls
theorem str_declines_dict (b : Str) (u : Tok) (l : Addr) (c : Value) (es : Array DictEntry) (n : Nat) (dd : Option Addr) (sl : Array (Option Value)) :
    Meets (Builtin.«str.__eq__» ⟨[.str b u, .ref l], []⟩) (fun _ R s => s.heap.get? l = some { cls := c, dict := dd, data := .dict es n, slots := sl } ∧ R (.ok (.ret .notImplemented)) s) :=
  .of_wp fun prog w A R s h => by obtain ⟨hp, g, d, tk, os⟩ := s; obtain ⟨hl, h⟩ := h; wp_walk using wpAny_loadPart' hl, wpAny_load hl; exact ⟨_, rfl, h⟩
theorem dict_declines_str (l : Addr) (es : Array DictEntry) (n : Nat) (dd : Option Addr) (sl : Array (Option Value)) (b : Str) (u : Tok) :
    Meets (Builtin.«dict.__eq__» ⟨[.ref l, .str b u], []⟩) (fun _ R s => s.heap.get? l = some { cls := .type "dict", dict := dd, data := .dict es n, slots := sl } ∧ R (.ok (.ret .notImplemented)) s) :=
  .of_wp fun prog w A R s h => by obtain ⟨hp, g, d, tk, os⟩ := s; obtain ⟨hl, h⟩ := h; have f1 := F.sub_str_dict; wp_walk using wpAny_loadPart' hl; exact ⟨_, rfl, h⟩
section
variable {A : Around} {s : Shared}
theorem rcAt_dict_str {l : Addr} {es : Array DictEntry} {n : Nat} {dd : Option Addr} {sl : Array (Option Value)} (b : Str) (u : Tok) (ho : s.heap.get? l = some { cls := .type "dict", dict := dd, data := .dict es n, slots := sl }) (hu : A.units < cLine) : RcAt A s (.ref l) (.str b u) false := fun prog w E Q h => by
  exact rc_eq_decline_or (k := false) ⟨_, ho, rfl⟩ (typeIs_str s b u) (by decide) F.sub_str_dict F.slot_dict_eq F.slot_str_eq_refl
    (fun _ hq => call_meets F.slot_dict_eq ⟨_, ho, rfl⟩ F.entry_dict_eq (F.args_dict_eq_2 _ _) (dict_declines_str l es n dd sl b u) ⟨ho, hq⟩)
    (fun _ hq => call_meets F.slot_str_eq_refl (typeIs_str s b u) F.entry_str_eq (F.args_str_eq_2 _ _) (str_declines_dict b u l (.type "dict") es n dd sl) ⟨ho, hq⟩)
    (fun _ hq => wpAny_of_eq (rfl : isSame (.ref l) (.str b u) = pure false) hq) (.inr hu) h
theorem eqAt_dict_str {l : Addr} {es : Array DictEntry} {n : Nat} {dd : Option Addr} {sl : Array (Option Value)} (b : Str) (u : Tok) (ho : s.heap.get? l = some { cls := .type "dict", dict := dd, data := .dict es n, slots := sl }) (hu : A.units < cLine) : EqAt A s (.ref l) (.str b u) false := fun prog w E Q h => by
  unfold eqBool
  refine wpAny_holding ?_
  refine wpAny_ite_split (fun hab => absurd (eq_of_beq hab) nofun) (fun _ => ?_)
  exact wpAny_bind (rcAt_dict_str b u ho hu prog w E _ (wpAny_truthy_bool h))
end
end PySem.OSS
namespace OS
open PySem PySem.Spec PyProof.Rows L2 PySem.OSS
/-- a thing that a list or tuple may hold -/
inductive Itm (K : PySem.W.Frag) (H : Hp) : V → Prop
  | flat {v : V} : flatV v = true → Itm K H v
  | lst {a : Addr} {zs : List V} : SqL K H a zs → Itm K H (.ref a)
  | tup {a : Addr} {zs : List V} : SqT K H a zs → Itm K H (.ref a)
  | dct {a : Addr} {kvs : List (Key × V)} : H a = some (.dK kvs) → Itm K H (.ref a)
def isS (z : Str) : V → Bool
  | .str t => t == z
  | _ => false
def isU (z : Str) : Value → Bool
  | .str t _ => t == z
  | _ => false
theorem isU_eq {z : Str} {y : V} {u : Value} (r : RelV y u) : isU z u = isS z y := by
  cases y with
  | str t => obtain ⟨k, rfl⟩ := r; rfl
  | int i => obtain ⟨k, rfl⟩ := r; rfl
  | byt i => obtain ⟨k, rfl⟩ := r; rfl
  | flt i => obtain ⟨k, rfl⟩ := r; rfl
  | _ => cases r; rfl
theorem flat_isS {z : Str} {y : V} (f : flatV y = true) : eqV y (.str z) = isS z y := by
  cases y <;> first | rfl | exact absurd (show false = true from f) Bool.false_ne_true
theorem any_isU {z : Str} : ∀ {xs : List V} {us : List Value}, Vals xs us → us.any (isU z) = xs.any (isS z)
  | _, _, .nil => rfl
  | _, _, .cons r t => by rw [List.any_cons, List.any_cons, isU_eq r, any_isU t]
section
variable {X : Cx} {pins : List (Addr × Obj)} {σ : L2.St} {H : Hp} {s : Shared}
theorem itm_eqAt (I : Inv X pins σ H s) {z : Str} {t : Tok} {A : Around} (hu : A.units < cLine) : ∀ {xs : List V} {us : List Value}, Vals xs us → (∀ v ∈ xs, Itm X.K H v) → ∀ u ∈ us, SeqAt.EqAt A s u (.str z t) (isU z u)
  | _, _, .nil, _, u, hm => absurd hm (by simp)
  | _, _, .cons (a := y) r tl, h, u, hm => by
    rcases List.mem_cons.mp hm with rfl | hm
    · have hy := h y (List.mem_cons_self ..)
      rw [isU_eq r]
      cases hy with
      | flat f =>
        have q := eqAt_V (A := A) (s := s) r (show RelV (.str z) (.str z t) from ⟨t, rfl⟩) f rfl
        rw [flat_isS f] at q
        exact q
      | lst hs =>
        cases r
        obtain ⟨its, _, pl, _⟩ := I.list hs
        exact SeqAt.EqAt.list_str z t pl.isList hu
      | tup hs =>
        cases r
        obtain ⟨its, _, pl, _⟩ := I.tuple hs
        exact SeqAt.EqAt.tuple_str z t pl hu
      | dct hd =>
        cases r
        obtain ⟨_, _, vs, _, o, es, ep, ho, ⟨h1, h2, h3⟩, h4, _⟩ := I.hok _ _ hd
        obtain ⟨cls, dd, data, sl⟩ := o
        simp only at h1 h4
        subst h1 h4
        exact eqAt_dict_str z t ho hu
    · exact itm_eqAt I hu tl (fun v hv => h v (List.mem_cons_of_mem _ hv)) u hm
/-- a text in a list or tuple of anything -/
def rInAny (K : PySem.W.Frag) (neg : Bool) : R2 := fun x y H Q => ∃ z p xs, x = .str z ∧ y = .ref p ∧ (SqL K H p xs ∨ SqT K H p xs) ∧ (∀ v ∈ xs, Itm K H v) ∧ Q (.bl (if neg then !xs.any (isS z) else xs.any (isS z))) H
theorem op_inAny (hu : X.A.units + 65 < cLine) : OpR X (compareOp .In) (rInAny X.K false) := by
  intro pins s σ H x y v u Q I rx ry h
  obtain ⟨z, p, xs, rfl, rfl, hq, hi, q⟩ := h
  obtain ⟨t, rfl⟩ := rx
  cases ry
  have hu1 : X.A.in1.units < cLine := by
    show X.A.units + 1 < cLine
    omega
  rcases hq with hq | hq
  · obtain ⟨its, r, pl, hz⟩ := I.list hq
    refine SeqAt.in_listAt (isU z) pl.isList (fun w hw => itm_eqAt I hu1 r hi w (by simpa using hw)) ⟨.bl _, H, I, rfl, ?_⟩
    rw [show its.toArray.any (isU z) = its.any (isU z) by simp, any_isU r]
    exact q
  · obtain ⟨its, r, pl, hz⟩ := I.tuple hq
    refine SeqAt.in_tupleAt (isU z) pl (fun w hw => itm_eqAt I hu1 r hi w (by simpa using hw)) ⟨.bl _, H, I, rfl, ?_⟩
    rw [show its.toArray.any (isU z) = its.any (isU z) by simp, any_isU r]
    exact q
end
end OS
set_option Elab.async false
set_option linter.all false
set_option maxRecDepth 100000
set_option maxHeartbeats 4000000
/-! == of anything with tuples and lists of texts -/
namespace PySem.OSS
open PySem.SeqAt AutoSeq1 MeetsSeq PySem.Calls
theorem tuple_declines_dict (l b : Addr) (items : Array Value) (es : Array DictEntry) (n n2 : Nat) (dd dd2 : Option Addr) (sl sl2 : Array (Option Value)) :
    Meets (Builtin.«tuple.__eq__» ⟨[.ref l, .ref b], []⟩) (fun _ R s => s.heap.get? l = some { cls := .type "tuple", dict := dd, data := .seq items n, slots := sl } ∧ s.heap.get? b = some { cls := .type "dict", dict := dd2, data := .dict es n2, slots := sl2 } ∧ R (.ok (.ret .notImplemented)) s) :=
  .of_wp fun prog w A R s h => by obtain ⟨hp, g, d, tk, os⟩ := s; obtain ⟨hl, hb, h⟩ := h; have f1 := F.sub_dict_tuple; wp_walk using wpAny_loadPart' hl, wpAny_loadPart' hb; exact ⟨_, rfl, h⟩
theorem dict_declines_tuple (l b : Addr) (items : Array Value) (es : Array DictEntry) (n n2 : Nat) (dd dd2 : Option Addr) (sl sl2 : Array (Option Value)) :
    Meets (Builtin.«dict.__eq__» ⟨[.ref b, .ref l], []⟩) (fun _ R s => s.heap.get? l = some { cls := .type "tuple", dict := dd, data := .seq items n, slots := sl } ∧ s.heap.get? b = some { cls := .type "dict", dict := dd2, data := .dict es n2, slots := sl2 } ∧ R (.ok (.ret .notImplemented)) s) :=
  .of_wp fun prog w A R s h => by obtain ⟨hp, g, d, tk, os⟩ := s; obtain ⟨hl, hb, h⟩ := h; have f1 := F.sub_tuple_dict; wp_walk using wpAny_loadPart' hl, wpAny_loadPart' hb; exact ⟨_, rfl, h⟩
section
variable {A : Around} {s : Shared}
/-- a dict is no tuple -/
theorem rcAt_dict_tuple {b l : Addr} {items : Array Value} {es : Array DictEntry} {n2 : Nat} {dd2 : Option Addr} {sl2 : Array (Option Value)} (hl : s.heap.IsTuple l items) (ho2 : s.heap.get? b = some { cls := .type "dict", dict := dd2, data := .dict es n2, slots := sl2 }) (hu : A.units < cLine) : RcAt A s (.ref b) (.ref l) false := fun prog w E Q h => by
  obtain ⟨⟨cls, dd, data, sl⟩, ho, hc, n, hd⟩ := id hl
  simp only at hc hd
  subst hc hd
  have hne : b ≠ l := fun e => by
    subst e
    have q := congrArg (fun o : Obj => o.cls) (Option.some.inj (ho.symm.trans ho2))
    exact absurd q (by simp)
  exact (rc_eq_decline_or (k := false) ⟨_, ho2, rfl⟩ ⟨_, ho, rfl⟩ (by decide) F.sub_tuple_dict F.slot_dict_eq F.slot_tuple_eq_refl
    (fun _ hq => call_meets F.slot_dict_eq ⟨_, ho2, rfl⟩ F.entry_dict_eq (F.args_dict_eq_2 _ _) (dict_declines_tuple l b items es n n2 dd dd2 sl sl2) ⟨ho, ho2, hq⟩)
    (fun _ hq => call_meets F.slot_tuple_eq_refl ⟨_, ho, rfl⟩ F.entry_tuple_eq (F.args_tuple_eq_2 _ _) (tuple_declines_dict l b items es n n2 dd dd2 sl sl2) ⟨ho, ho2, hq⟩)
    (fun _ hq => wpAny_isSame_ref_other hne ho2 ho (by simp) hq) (.inr hu) h)
end
end PySem.OSS
namespace OS
open PySem PySem.Spec PyProof.Rows L2 PySem.OSS
/-- the things xs are the texts ys -/
def eqS : List V → List Str → Bool
  | [], [] => true
  | x :: xs, y :: ys => isS y x && eqS xs ys
  | _, _ => false
theorem eqS_range : ∀ (xs : List V) (ys : List Str), ((List.range (min xs.length ys.length)).all (fun j => isS (ys.getD j default) (xs.getD j .non)) && xs.length == ys.length) = eqS xs ys
  | [], [] => rfl
  | [], _ :: _ => by simp [eqS]
  | _ :: _, [] => by simp [eqS]
  | x :: xs, y :: ys => by
    have ih := eqS_range xs ys
    have e1 : min (x :: xs).length (y :: ys).length = min xs.length ys.length + 1 := by simp only [List.length_cons]; omega
    have e2 : ((x :: xs).length == (y :: ys).length) = (xs.length == ys.length) := by simp
    have e3 : (List.range (min xs.length ys.length + 1)).all (fun j => isS ((y :: ys).getD j default) ((x :: xs).getD j .non)) = (isS y x && (List.range (min xs.length ys.length)).all (fun j => isS (ys.getD j default) (xs.getD j .non))) := by
      rw [List.range_succ_eq_map, List.all_cons, List.all_map]
      first | rfl | simp [Function.comp_def]
    rw [e1, e2, e3, eqS, ← ih, Bool.and_assoc]
theorem eqS_strs : ∀ xs ys : List Str, eqS (xs.map .str) ys = decide (xs = ys)
  | [], [] => by simp [eqS]
  | [], _ :: _ => by simp [eqS]
  | _ :: _, [] => by simp [eqS]
  | x :: xs, y :: ys => by
    show (isS y (.str x) && eqS (xs.map .str) ys) = _
    rw [eqS_strs xs ys]
    show ((x == y) && decide (xs = ys)) = decide (x :: xs = y :: ys)
    by_cases h1 : x = y <;> by_cases h2 : xs = ys <;> simp [h1, h2]
theorem eqS_true : ∀ {xs : List V} {ys : List Str}, eqS xs ys = true → xs = ys.map .str
  | [], [], _ => rfl
  | [], _ :: _, h => by simp [eqS] at h
  | _ :: _, [], h => by simp [eqS] at h
  | x :: xs, y :: ys, h => by
    rw [eqS, Bool.and_eq_true] at h
    rw [List.map_cons, eqS_true h.2]
    congr 1
    cases x with
    | str t => exact congrArg V.str (eq_of_beq h.1)
    | _ => exact absurd h.1 (by simp [isS])
section
variable {X : Cx} {pins : List (Addr × Obj)} {σ : L2.St} {H : Hp} {s : Shared}
theorem strs_at : ∀ {ys : List Str} {us : List Value} {j : Nat}, Vals (ys.map V.str) us → j < us.length → ∃ t, us[j]? = some (.str (ys.getD j default) t)
  | [], _, j, r, hj => by
    have r' : Vals [] _ := r
    cases r'
    exact absurd hj (by simp)
  | y :: ys, _, j, r, hj => by
    have r' : Vals (V.str y :: ys.map V.str) _ := r
    cases r' with
    | cons h t =>
      cases j with
      | zero =>
        obtain ⟨k, rfl⟩ := h
        exact ⟨k, rfl⟩
      | succ j =>
        obtain ⟨k, hk⟩ := strs_at (ys := ys) (j := j) t (by simpa using hj)
        exact ⟨k, hk⟩
theorem itms_at : ∀ {xs : List V} {us : List Value} {j : Nat} {u : Value}, Vals xs us → us[j]? = some u → RelV (xs.getD j .non) u
  | _, _, j, u, .nil, h => by simp at h
  | _, _, 0, u, .cons r t, h => by
    have e : _ = u := Option.some.inj h
    subst e
    exact r
  | _ :: xs, _ :: us, j + 1, u, .cons r t, h => itms_at (xs := xs) (us := us) (j := j) t h
theorem items_eq (I : Inv X pins σ H s) {A : Around} (hu : A.units < cLine) {xs : List V} {ys : List Str} {us ws : List Value} (rx : Vals xs us) (ry : Vals (ys.map V.str) ws) (hi : ∀ v ∈ xs, Itm X.K H v) :
    ∀ j (h1 : j < us.toArray.size) (h2 : j < ws.toArray.size), SeqAt.EqAt A s us.toArray[j] ws.toArray[j] (isS (ys.getD j default) (xs.getD j .non)) := by
  intro j h1 h2
  have h1' : j < us.length := by simpa using h1
  have h2' : j < ws.length := by simpa using h2
  obtain ⟨t, ht⟩ := strs_at ry h2'
  have e1 : us[j]? = some us[j] := List.getElem?_eq_getElem h1'
  have e2 : ws[j]? = some ws[j] := List.getElem?_eq_getElem h2'
  have e3 : ws[j] = .str (ys.getD j default) t := Option.some.inj (e2.symm.trans ht)
  show SeqAt.EqAt A s us[j] ws[j] _
  rw [e3, ← isU_eq (itms_at rx e1)]
  exact itm_eqAt I hu rx hi _ (List.getElem_mem h1')
/-- a tuple of anything against a tuple of texts -/
def rEqTS (K : PySem.W.Frag) : R2 := fun x y H Q => ∃ a b xs ys, x = .ref a ∧ y = .ref b ∧ SqT K H a xs ∧ (∀ v ∈ xs, Itm K H v) ∧ SqT K H b (ys.map V.str) ∧ Q (.bl (eqS xs ys)) H
theorem op_eqTS (hu : X.A.units + 65 < cLine) : OpR X (compareOp .Eq) (rEqTS X.K) := by
  intro pins s σ H x y v u Q I rx ry h
  obtain ⟨a, b, xs, ys, rfl, rfl, hx, hi, hy, q⟩ := h
  cases rx
  cases ry
  obtain ⟨its, r, pl, hz⟩ := I.tuple hx
  obtain ⟨its2, r2, pl2, hz2⟩ := I.tuple hy
  refine SeqAt.eq_tupleAt pl pl2 (by omega) (items_eq I (by show X.A.units + 1 < cLine; omega) r r2 hi) ⟨.bl _, H, I, rfl, ?_⟩
  have e1 : its.toArray.size = xs.length := by simp [r.length]
  have e2 : its2.toArray.size = ys.length := by
    have := r2.length
    simp at this ⊢
    exact this.symm
  rw [e1, e2, eqS_range]
  exact q
/-- is the thing the empty tuple? -/
inductive EmpIs (K : PySem.W.Frag) (H : Hp) : V → Bool → Prop
  | flat {v : V} : flatV v = true → EmpIs K H v false
  | lst {a : Addr} {zs : List V} : SqL K H a zs → EmpIs K H (.ref a) false
  | tup {a : Addr} {zs : List V} : SqT K H a zs → EmpIs K H (.ref a) zs.isEmpty
  | dct {a : Addr} {kvs : List (Key × V)} : H a = some (.dK kvs) → EmpIs K H (.ref a) false
/-- anything against () -/
def rEqEmp (K : PySem.W.Frag) : R2 := fun x y H Q => ∃ b k, EmpIs K H x k ∧ y = .ref b ∧ SqT K H b [] ∧ Q (.bl k) H
theorem op_eqEmp (hu : X.A.units + 65 < cLine) : OpR X (compareOp .Eq) (rEqEmp X.K) := by
  intro pins s σ H x y v u Q I rx ry h
  obtain ⟨b, k, hx, rfl, hy, q⟩ := h
  cases ry
  obtain ⟨its2, r2, pl2, hz2⟩ := I.tuple hy
  have hu1 : X.A.units < cLine := by omega
  cases hx with
  | flat f =>
    cases x with
    | non =>
      cases rx
      exact SeqAt.RcAt.none_tuple pl2 hu1 X.prog X.w _ _ ⟨.bl _, H, I, rfl, q⟩
    | bl c =>
      cases rx
      exact SeqAt.RcAt.bool_tuple c pl2 hu1 X.prog X.w _ _ ⟨.bl _, H, I, rfl, q⟩
    | int i =>
      obtain ⟨t, rfl⟩ := rx
      exact SeqAt.RcAt.int_tuple i t pl2 hu1 X.prog X.w _ _ ⟨.bl _, H, I, rfl, q⟩
    | str z =>
      obtain ⟨t, rfl⟩ := rx
      exact SeqAt.RcAt.str_tuple z t pl2 hu1 X.prog X.w _ _ ⟨.bl _, H, I, rfl, q⟩
    | _ => exact absurd (show false = true from f) Bool.false_ne_true
  | lst hs =>
    cases rx
    obtain ⟨its, r, pl, hz⟩ := I.list hs
    exact SeqAt.RcAt.list_tuple pl.isList pl2 hu1 X.prog X.w _ _ ⟨.bl _, H, I, rfl, q⟩
  | tup hs =>
    rename_i a zs
    cases rx
    obtain ⟨its, r, pl, hz⟩ := I.tuple hs
    cases r2
    refine SeqAt.eq_tupleAt (e := fun _ => true) pl pl2 hu1 (fun j h1 h2 => absurd h2 (by simp)) ⟨.bl _, H, I, rfl, ?_⟩
    have e1 : its.toArray.size = zs.length := by simp [r.length]
    rw [e1]
    have e2 : ((List.range (min zs.length ([] : List Value).toArray.size)).all (fun _ => true) && zs.length == ([] : List Value).toArray.size) = zs.isEmpty := by
      cases zs <;> simp
    rw [e2]
    exact q
  | dct hd =>
    cases rx
    obtain ⟨_, _, vs, _, o, es, ep, ho, ⟨h1, h2, h3⟩, h4, _⟩ := I.hok _ _ hd
    obtain ⟨cls, dd, data, sl⟩ := o
    simp only at h1 h4
    subst h1 h4
    exact rcAt_dict_tuple pl2 ho hu1 X.prog X.w _ _ ⟨.bl _, H, I, rfl, q⟩
end
end OS
set_option Elab.async false
set_option linter.all false
set_option maxRecDepth 100000
set_option maxHeartbeats 4000000
/-! ==, !=, in, not in of data without dicts: nothing asked of the texts -/
namespace OS
open PySem PySem.Spec PyProof.Rows L2 PySem.OSS
mutual
theorem dp_plain {K : PySem.W.Frag} {H : Hp} : ∀ (d : PyData) (v : V), Dp K H v d → d.plain = true
  | .none, _, _ => rfl
  | .bool _, _, _ => rfl
  | .int _, _, _ => rfl
  | .str _, _, _ => rfl
  | .list ds, _, h => by
    cases h with
    | lst _ ha =>
      simp only [PyData.plain]
      exact dp_plains ds _ ha
  | .tuple ds, _, h => by
    cases h with
    | tup _ ha =>
      simp only [PyData.plain]
      exact dp_plains ds _ ha
  | .dict _, _, h => by cases h
theorem dp_plains {K : PySem.W.Frag} {H : Hp} : ∀ (ds : List PyData) (vs : List V), DpAll K H vs ds → PyData.plainAll ds = true
  | [], _, _ => rfl
  | d :: ds, _, h => by
    cases h with
    | cons h1 h2 =>
      simp only [PyData.plainAll]
      rw [dp_plain d _ h1, dp_plains ds _ h2]
      rfl
end
section
variable {X : Cx}
def rEqP (K : PySem.W.Frag) : R2 := fun x y H Q => ∃ d e, Dp K H x d ∧ Dp K H y e ∧ d.depth ≤ 60 ∧ Q (.bl (PyData.eqv d e)) H
def rNeP (K : PySem.W.Frag) : R2 := fun x y H Q => ∃ d e, Dp K H x d ∧ Dp K H y e ∧ d.depth ≤ 60 ∧ Q (.bl (!PyData.eqv d e)) H
theorem op_eqP (hu : X.A.units + 65 < cLine) : OpR X (compareOp .Eq) (rEqP X.K) := by
  intro pins s σ H x y v u Q I rx ry h
  obtain ⟨d, e, hd, he, hn, q⟩ := h
  obtain ⟨as, r1⟩ := Dp.reads I d x v hd rx
  obtain ⟨bs, r2⟩ := Dp.reads I e y u he ry
  exact SeqAt.eq_plain r1 r2 (dp_plain d _ hd) (dp_plain e _ he) (by omega) ⟨.bl _, H, I, rfl, q⟩
theorem op_neP (hu : X.A.units + 65 < cLine) : OpR X (compareOp .NotEq) (rNeP X.K) := by
  intro pins s σ H x y v u Q I rx ry h
  obtain ⟨d, e, hd, he, hn, q⟩ := h
  obtain ⟨as, r1⟩ := Dp.reads I d x v hd rx
  obtain ⟨bs, r2⟩ := Dp.reads I e y u he ry
  exact SeqAt.ne_plain r1 r2 (dp_plain d _ hd) (dp_plain e _ he) (by omega) ⟨.bl _, H, I, rfl, q⟩
def rInP (K : PySem.W.Frag) (neg : Bool) : R2 := fun x y H Q => ∃ d ds, Dp K H x d ∧ (Dp K H y (.list ds) ∨ Dp K H y (.tuple ds)) ∧ d.depth ≤ 60 ∧ Q (.bl (if neg then !ds.any fun z => PyData.eqv z d else ds.any fun z => PyData.eqv z d)) H
theorem op_inP (hu : X.A.units + 65 < cLine) : OpR X (compareOp .In) (rInP X.K false) := by
  intro pins s σ H x y v u Q I rx ry h
  obtain ⟨d, ds, hd, he, hn, q⟩ := h
  obtain ⟨as, r1⟩ := Dp.reads I d x v hd rx
  rcases he with he | he
  · obtain ⟨bs, r2⟩ := Dp.reads I _ y u he ry
    exact SeqAt.in_list_data r2 r1 (by have := dp_plain _ _ he; simpa only [PyData.plain] using this) (dp_plain d _ hd) (by omega) ⟨.bl _, H, I, rfl, q⟩
  · obtain ⟨bs, r2⟩ := Dp.reads I _ y u he ry
    exact SeqAt.in_tuple_data r2 r1 (by have := dp_plain _ _ he; simpa only [PyData.plain] using this) (dp_plain d _ hd) (by omega) ⟨.bl _, H, I, rfl, q⟩
end
end OS
set_option Elab.async false
set_option linter.all false
set_option maxRecDepth 100000
set_option maxHeartbeats 4000000
/-! tuples told by what they hold; sorted of a tuple -/
namespace PySem.OSS
open PySem PySem.Calls PySem.W PyProof.Rows
section
variable {prog : Program} {w : World} {A : Around} {E : Value → Shared → Prop} {s : Shared}
theorem collect_tup {l : Addr} {vs : List Value} {Q : List Value → Shared → Prop} (hl : IsTup s.heap l vs.toArray)
    (h : Q vs { s with heap := (s.heap.push (seqObj "list" #[] 0)).update s.heap.objs.size (Obj.mapSeq (· ++ vs.toArray)) }) (hsz : vs.length ≤ sizeLine) :
    wpAny (model prog w) A (collect (.ref l)) Q E s := by
  obtain ⟨o, ho, hc, n, hd⟩ := id hl
  unfold collect
  refine wpAny_bind (wpAny_runValue (codeAny_builtin entry_proto_collect' ?_))
  show wpAny _ _ (do again (.builtin "list.__iadd__" ⟨[← newList [], .ref l], []⟩)) _ _ s
  refine wpAny_bind (wpAny_newList (wpAny_pure ⟨Code.quiet_builtin _ (by decide +kernel), codeAny_builtin entry_list_iadd' ?_⟩))
  show wpAny _ _ (Builtin.List.listExtendWith (.ref s.heap.objs.size) (.ref l) (.ref s.heap.objs.size)) _ _ { s with heap := s.heap.push (seqObj "list" #[] 0) }
  unfold Builtin.List.listExtendWith
  have ho' : (s.heap.push (seqObj "list" #[] 0)).get? l = some o := Heap.get?_push_of_some _ ho
  refine wpAny_bind (wpAny_typeOf (T := "tuple") ⟨o, ho', hc⟩ ?_)
  have ht : (Value.type "tuple" == Value.type "tuple") = true := by rfl
  rw [if_pos (by rw [ht]; simp)]
  refine wpAny_bind (listItems_at ho' hd ?_)
  refine wpAny_bind (listItems_at (xs := #[]) (n := 0) (Heap.get?_push_size _ rfl) rfl ?_)
  rw [if_neg (by simp)]
  refine wpAny_bind (listUpdate_at (xs := #[]) (n := 0) (Heap.get?_push_size _ rfl) rfl ?_ (Nat.zero_le _) (by show (#[] ++ vs.toArray).size ≤ sizeLine + 1; simp only [Array.size_append, List.size_toArray, List.length_nil]; omega))
  refine wpAny_pure ?_
  show wpAny (model prog w) A (do
      let o ← load s.heap.objs.size
      match o.data with
      | .seq xs _ => pure xs.toList
      | _ => unsupported "internal:collect") Q E { s with heap := (s.heap.push (seqObj "list" #[] 0)).update s.heap.objs.size (Obj.mapSeq (· ++ vs.toArray)) }
  refine wpAny_bind (wpAny_load (get?_update_seq (Heap.get?_push_size _ rfl) _) ?_)
  show wpAny _ _ (pure ((#[] : Array Value) ++ vs.toArray).toList) Q E _
  rw [show ((#[] : Array Value) ++ vs.toArray).toList = vs by simp]
  exact wpAny_pure h
theorem sorted_of_sortT {l : Addr} {vs : List Value} {kw : List (Str × Value)} {Q : Value → Shared → Prop} (hl : IsTup s.heap l vs.toArray) (hL : vs.length ≤ sizeLine) (ha1 : argsOk "sorted" ⟨[.ref l], kw⟩) (ha2 : ∀ x, argsOk "list.sort" ⟨[.ref x], kw⟩)
    (body : ∀ E' : Value → Shared → Prop, wpAny (model prog w) A.in1.in1 (Builtin.«list.sort» ⟨[.ref (s.heap.objs.size + 1)], kw⟩) (fun f s' => f = .done (.ret .none) ∧ Q (.ref (s.heap.objs.size + 1)) s') E' { s with heap := copyHeap s.heap vs }) :
    wpAny (model prog w) A (call (.builtin "sorted") [.ref l] kw) Q E s := by
  refine call_function_entry_kw kind_sorted plain_sorted entry_sorted ha1 ?_
  unfold Builtin.«sorted»
  refine wpAny_bind (m := checkCount "sorted" 1 1 _) (wpAny_pure ?_)
  refine wpAny_bind (collect_tup hl ?_ hL)
  refine wpAny_bind (wpAny_newList ?_ hL)
  have hsz : ((s.heap.push (seqObj "list" #[] 0)).update s.heap.objs.size (Obj.mapSeq (· ++ vs.toArray))).objs.size = s.heap.objs.size + 1 := by
    rw [Heap.size_update, size_push']
  show wpAny _ _ _ _ _ { s with heap := copyHeap s.heap vs }
  rw [hsz]
  refine wpAny_bind (wpAny_holding (wpAny_call_entry_kw slot_list_sort ⟨_, copyHeap_at s.heap vs, rfl⟩ entry_list_sort ?body (ha2 _)))
  case body =>
    show wpAny (model prog w) A.in1.in1 (Builtin.«list.sort» ⟨[.ref (s.heap.objs.size + 1)], kw⟩) _ _ _
    refine wpAny_mono (body _) (fun f s' hf => ?_) fun _ _ e => e
    obtain ⟨rfl, hq⟩ := hf
    exact ⟨_, rfl, wpAny_pure ⟨_, rfl, hq⟩⟩
theorem sorted_dataT {β : Type} {vs : List Value} {bs : List β} {enc : β → PyData} {R : Value → β → Prop} {l : Addr} {Q : Value → Shared → Prop} (hl : IsTup s.heap l vs.toArray) (e : EachIs R vs bs) (er : EachIs (fun v b => ∃ as, Reads s.heap v (enc b) as) vs bs) (hal : AllAlike (bs.map enc)) (hk : SortableX (bs.map enc)) (hL : bs.length ≤ sizeLine)
    (hu : ∀ b, b ∈ bs → A.units + 2 + (enc b).depth < cLine) (h : ∀ out, out.length = bs.length → EachIs R out (bs.mergeSort (dataLe false enc)) → Q (.ref (s.heap.objs.size + 1)) { s with heap := sortedAll s.heap vs (List.toArray out) }) :
    wpAny (model prog w) A (call (.builtin "sorted") [.ref l]) Q E s := by
  have er' : EachIs (fun v b => ∃ as, Reads (sortingHeap (copyHeap s.heap vs) (s.heap.objs.size + 1) vs) v (enc b) as) vs bs := er.mono fun _ _ ⟨as, r⟩ => ⟨as, PyProof.Rows.Reads.keeps (fun _ _ => sorting_copy_old) r⟩
  have S := sorts_dataX (prog := prog) (w := w) (A := A.in1.in1) (s := { s with heap := sortingHeap (copyHeap s.heap vs) (s.heap.objs.size + 1) vs }) (each_map (R := fun v d => ∃ as, Reads (sortingHeap (copyHeap s.heap vs) (s.heap.objs.size + 1) vs) v d as) enc er') hal hk (bound_map hu)
  have hL' : vs.length ≤ sizeLine := by rw [e.length]; exact hL
  exact sorted_of_sortT hl hL' (args_sorted1 _) (fun _ => args_list_sort _) fun _ => list_sort_vals (s := { s with heap := copyHeap s.heap vs }) (copyHeap_at s.heap vs) S hL' ⟨rfl, h _ (by rw [sortVals_length false rfl]; exact e.length) (sortVals_data false e er' hal)⟩
end
end PySem.OSS
namespace OS
open PySem PySem.Spec PyProof.Rows L2 PySem.OSS
open PySem.W (EachIs AllAlike dataLe)
/-- texts in order -/
abbrev leS : Str → Str → Bool := dataLe false PyData.str
/-- sorted(xs): xs a list or tuple of texts -/
def rSortS (K : PySem.W.Frag) : List V → Hp → VK → Prop := fun vs H Q => ∃ (a : Addr) (ys : List Str), vs = [V.ref a] ∧ (SqL K H a (ys.map V.str) ∨ SqT K H a (ys.map V.str)) ∧ NewO H (.lst ((ys.mergeSort leS).map V.str)) Q
section
variable {X : Cx}
theorem alikes_str (ys : List Str) : AllAlike (ys.map PyData.str) := AllAlike.of fun _ _ => by simp [PySem.W.alike]
theorem cr_sortS (hu : X.A.units + 65 < cLine) : CallR X (.builtin "sorted") (rSortS X.K) := by
  intro pins s σ H vs us Q I r h
  obtain ⟨a, ys, rfl, hs, q⟩ := h
  obtain ⟨u, rfl, ru⟩ := vals1 r
  obtain rfl : u = Value.ref a := ru
  have hk : SortableX (ys.map PyData.str) := .inl (PySem.W.Sortable.others fun b => ⟨(fun z => nomatch z), fun xs z => nomatch z⟩)
  have done : ∀ {its : List Value} {out : List Value}, ys.length ≤ sizeLine → EachIs (fun v b => RelV (V.str b) v) out (ys.mergeSort leS) → EP X pins σ Q (.ref (s.heap.objs.size + 1)) { s with heap := sortedAll s.heap its (List.toArray out) } := fun {its out} hz eo => by
    obtain ⟨ep, he'⟩ := PyProof.Rows.sortedAll_at s.heap its out.toArray
    refine ⟨.ref _, upd H (s.heap.objs.size + 1) (.lst ((ys.mergeSort leS).map V.str)), I.laid (t' := s.toks) (fun _ _ => PyProof.Rows.sortedAll_old) (Nat.le_succ _) ⟨?_, out, ep, vals_of_each _ eo, he'⟩, rfl, q.to _ (I.hok.fresh (Nat.le_succ _))⟩
    rw [List.length_map, List.length_mergeSort]
    exact hz
  have rd : ∀ {its : List Value}, EachIs (fun v b => RelV (V.str b) v) its ys → EachIs (fun v b => ∃ as, Reads s.heap v (PyData.str b) as) its ys := fun e => e.mono fun v b r => by
    obtain ⟨t, rfl⟩ := r
    exact ⟨_, Reads.str b t⟩
  rcases hs with hs | hs
  · obtain ⟨its, rv, hl, hz⟩ := I.list hs
    rw [List.length_map] at hz
    have e := each_of_vals V.str rv
    exact sorted_dataX (R := fun v b => RelV (V.str b) v) (enc := PyData.str) hl.isList e (rd e) (alikes_str ys) hk hz (fun b hb => by simp only [PyData.depth]; omega) fun out _ eo => done hz eo
  · obtain ⟨its, rv, hl, hz⟩ := I.tuple hs
    rw [List.length_map] at hz
    have e := each_of_vals V.str rv
    exact sorted_dataT (R := fun v b => RelV (V.str b) v) (enc := PyData.str) hl e (rd e) (alikes_str ys) hk hz (fun b hb => by simp only [PyData.depth]; omega) fun out _ eo => done hz eo
/-- t + u -/
def rCatTO (K : PySem.W.Frag) : R2 := fun x y H Q => ∃ a b xs ys, x = .ref a ∧ y = .ref b ∧ SqT K H a xs ∧ SqT K H b ys ∧ xs.length + ys.length ≤ sizeLine ∧ ∀ q H', Same H H' → SqT K H' q (xs ++ ys) → Q (.ref q) H'
theorem op_catTO : OpR X (binaryOp .Add) (rCatTO X.K) := opImp op_catA fun x y H Q ⟨a, b, xs, ys, h1, h2, h3, h4, h5, q⟩ => ⟨a, b, xs, ys, h1, h2, h3, h4, h5, (fun e => by
  subst e
  exact q b H (Same.refl H) h4), (fun _ e => by
  subst e
  exact q a H (Same.refl H) (by rw [List.append_nil]; exact h3)), fun _ _ p hp => q p _ (same_new hp) (SqT.of upd_same)⟩
theorem cut_whole {xs : List V} {lo hi : Option Int} (h : HT.sIx xs.length 0 lo = 0 ∧ HT.sIx xs.length xs.length hi = xs.length) : cutV xs lo hi = xs := by
  unfold cutV
  rw [h.1, h.2]
  simp
/-- t[lo:hi] -/
def rSlTO (K : PySem.W.Frag) : V → Option Int → Option Int → Hp → VK → Prop := fun x lo hi H Q => ∃ a xs, x = .ref a ∧ SqT K H a xs ∧ ∀ q H', Same H H' → SqT K H' q (cutV xs lo hi) → Q (.ref q) H'
theorem sl_tupO : SlR X (rSlTO X.K) := slImp sl_tupA fun x lo hi H Q ⟨a, xs, h1, h2, q⟩ => ⟨a, xs, h1, h2, (fun h => q a H (Same.refl H) (by rw [cut_whole h]; exact h2)), fun _ p hp => q p _ (same_new hp) (SqT.of upd_same)⟩
end
end OS
set_option Elab.async false
set_option linter.all false
set_option maxRecDepth 100000
set_option maxHeartbeats 4000000
/-! a tuple turned round -/
namespace OS
open PySem PySem.Spec PySem.Calls PyProof.Rows L2 HT
open PySem.W (krv_range krv_all)
end OS
namespace OS
open PySem PySem.Spec PyProof.Rows L2 PySem.OSS
end OS
set_option Elab.async false
set_option linter.all false
set_option maxRecDepth 100000
set_option maxHeartbeats 4000000
/-! several except clauses, with a name and without. The road is the library's for one clause with a name and for many without; here both meet -/
namespace OS
open PySem PySem.Spec PyProof.Rows L2
abbrev Suite := Addr → Value → Option Addr → TS
/-- behind the suite of a clause with a name its slot is empty -/
def Ends.less (D : Ends) (i : Nat) : Ends := { nx := fun σ H => D.nx (σ.set i none) H, rt := D.rt, bk := fun σ H => D.bk (σ.set i none) H, ct := fun σ H => D.ct (σ.set i none) H }
/-- a clause's suite, with its name's slot or without -/
def runSuite (oi : Option Nat) (ts : Suite) (D : Ends) (cls : Value) (d : Option Addr) (σ : L2.St) (H : Hp) (a : Addr) : Prop :=
  match oi with
  | none => ts a cls d D σ H
  | some i => ts a cls d (Ends.less D i) (σ.set i (some (.ref a))) H
def wMix (K : PySem.W.Frag) (Wout : WX) (D : Ends) : List (Value × Option Nat × Suite) → WX
  | [] => Wout
  | (c, oi, ts) :: r => fun cls d σ H => ∃ b, PySem.W.exmOne K cls c = some b ∧ (b = true → ∀ a, H a = none → runSuite oi ts D cls d σ H a) ∧ (b = false → wMix K Wout D r cls d σ H)
/-- a clause's name -/
inductive NameAt (X : Cx) : Option Str → Option Nat → Prop
  | no : NameAt X none none
  | yes {n : Str} {i : Nat} (hi : X.N[i]? = some n) (hl : X.env.kindOf n = some .local) : NameAt X (some n) (some i)
inductive HdsMix (X : Cx) : List ExceptHandler → List (Value × Option Nat × Suite) → Prop
  | nil : HdsMix X [] []
  | cons {x : Str} {on : Option Str} {oi : Option Nat} {c : Value} {ts : Suite} {b₀ : Stmt} {suite : List Stmt} {np pos' : Pos} {hds : List ExceptHandler} {l : List (Value × Option Nat × Suite)} (hc : Names X x c) (hn : NameAt X on oi)
      (hsu : ∀ (a : Addr) (oe : Obj) (cls : Value) (d : Option Addr) (pn : List (Addr × Obj)), Zc cls d oe → (∃ vs, oe.data = .fields vs) → PSs (X.suite a ((a, oe) :: pn)) (b₀ :: suite) (ts a cls d)) (r : HdsMix X hds l) :
      HdsMix X (.ExceptHandler (some (.Name x np)) on (b₀ :: suite) pos' :: hds) ((c, oi, ts) :: l)
section
variable {X : Cx} {body : List Stmt} {h₀ : ExceptHandler} {hds : List ExceptHandler} {l : List (Value × Option Nat × Suite)} {pos : Pos} {tb : WX → TS} {Wout : WX}
theorem ps_try_mix (hs : X.stack = X.env :: X.outer) (hf : X.env.frame = some X.env.locals) (hN : X.N.Nodup) (tk : Takes X Wout)
    (hb : ∀ (W : WX) (pn : List (Addr × Obj)) (xe : Value → Shared → Prop), Takes (X.tr pn xe) W → PassesOwn (model X.prog X.w) X.A X.env xe → PSs (X.tr pn xe) body (tb W))
    (hh : HdsMix X (h₀ :: hds) l) : PS X (.Try body (h₀ :: hds) [] [] pos) (fun D σ H => tb (wMix X.K Wout D l) D σ H) := by
  constructor
  intro pins s σ H D I h
  have ok := I.ok
  have hfr : X.A.frames = some (X.env :: X.outer) := ok.frames.trans (by rw [hs])
  -- behind the body, where it ends by itself
  have back : ∀ f s1, SP (X.tr (X.pn ++ pins) (fun e s₁ => wpAny (model X.prog X.w) X.A (noteFrame e X.env) (fun _ s₂ => wpAny (model X.prog X.w) X.A (setFlight e none) (fun _ s₃ =>
      wpAny (model X.prog X.w) X.A (handleBy e X.env (h₀ :: hds)) (SP X pins D) X.xe s₃) X.xe s₂) X.xe s₁)) [] D f s1 →
      (match f with | .next => SP X pins D .next s1 | f => SP X pins D f s1) := by
    intro f s1 q
    cases f
    · obtain ⟨σ', H', J, q⟩ := q
      exact ⟨σ', H', J.ofTry ok, q⟩
    · obtain ⟨σ', H', J, q⟩ := q
      exact ⟨σ', H', J.ofTry ok, q⟩
    · obtain ⟨σ', H', J, q⟩ := q
      exact ⟨σ', H', J.ofTry ok, q⟩
    · obtain ⟨v, σ', H', J, r, q⟩ := q
      exact ⟨v, σ', H', J.ofTry ok, r, q⟩
  refine wpAny_Try_except (wpAny_mono ((hb (wMix X.K Wout D l) (X.pn ++ pins) _ ?take PassesOwn.looking).run [] s σ H D (I.toTry _) h) (fun f s1 q => ?_) (fun _ _ he => he))
  case take =>
    intro u s' xx
    obtain ⟨a, B, sI, pins', σ', H', cls, d, rfl, J', nb, up, sky, na, os, ag, wish⟩ := xx
    have J : Inv X pins σ' H' sI := J'.ofTry ok
    refine Sky.land Zc.steady hfr hf (by rw [← hs]; exact sky) fun h3 fl3 up3 => ?_
    have J3 : Inv X pins σ' H' { s' with heap := h3 } := J.landed nb fl3.1 (up.trans up3) os ag
    obtain ⟨oe3, vs3, he3, hz3, hd3⟩ := fl3.there
    have nfr : a ∉ frs (X.env :: X.outer) := fun hm => by
      obtain ⟨_, o', e', hnf⟩ := fl3.2.2.1.mem hm
      cases he3.symm.trans e'
      exact hnf _ hd3
    have nL : a ≠ X.env.locals := fun z => nfr (List.mem_filterMap.mpr ⟨X.env, List.mem_cons_self, by rw [hf, z]⟩)
    have nF : a ∉ X.fs := fun hm => by
      obtain ⟨e, he, q⟩ := List.mem_filterMap.mp hm
      exact nfr (List.mem_filterMap.mpr ⟨e, List.mem_cons_of_mem _ he, q⟩)
    have S3 := J3.suite he3 hd3 na nL nF
    -- clause by clause
    have go : ∀ {hds' : List ExceptHandler} {l' : List (Value × Option Nat × Suite)}, HdsMix X hds' l' → wMix X.K Wout D l' cls d σ' H' →
        wpAny (model X.prog X.w) X.A (handleBy (.ref a) X.env hds') (SP X pins D) X.xe { s' with heap := h3 } := by
      intro hds' l' hk
      induction hk with
      | nil =>
        intro out
        obtain ⟨_, _, _, oe, vs, T, oT, ts', he, hz, hd, h1, hr⟩ := id fl3
        have fin : wpAny (model X.prog X.w) X.A (setFlight (.ref a) X.env.frame) (fun _ s4 => wpAny (model X.prog X.w) X.A (throw (.ref a) : Sem Flow) (SP X pins D) X.xe s4) X.xe { s' with heap := h3 } := by
          rw [hf]
          exact HandSPX.setFlight_upZ fl3 fun h4 hh4 up4 => wpAny_throw (tk _ _ ⟨a, B, sI, pins, σ', H', cls, d, rfl, J, nb, (up.trans up3).trans up4, .inr (.inr (by rw [hs]; exact hh4)), na, os, ag, out⟩)
        refine wpAny_handleBy_nil ?_
        unfold PySem.passOn
        refine wpAny_bind (wpAny_field he hd h1 ?_)
        rw [if_neg (show ¬ ((Value.ref T == Value.none) = true) from by simp)]
        first
          | exact wpAny_bind (wpAny_pure (wpAny_bind fin))
          | exact wpAny_bind fin
      | @cons x on oi c ts b₀ suite np pos' hds2 l2 hc hn hsu r ih =>
        intro wish
        obtain ⟨b, hb1, hyes, hno⟩ := wish
        refine wpAny_handleBy_cons (codeAny_handlers_test ?_) (by intro q; cases q)
        have LT : PySem.W.Looks (model X.prog X.w) h3 (typeOf (.ref a)) cls := fun A Q E s k q => wpAny_typeOf_ref (k _ _ he3) (by rw [hz3.1]; exact q)
        have look : ∀ {Q E}, Q c { s' with heap := h3 } → wpAny (model X.prog X.w) (X.A.mark (some (.ref a))) (eval (.Name x np) X.env) Q E { s' with heap := h3 } := fun {Q E} q => by
          rcases hc with ⟨hg, hdbg, hm | ⟨hm, hv, hnn⟩⟩
          · exact ld_glob (X := X.suite a ((a, oe3) :: (X.pn ++ pins))) S3 hg hm q hdbg
          · exact ld_blt (X := X.suite a ((a, oe3) :: (X.pn ++ pins))) S3 hg hm hv q hnn hdbg
        refine look ((PySem.W.exm_one (M := model X.prog X.w) J3.kIn LT hb1).here ?_)
        cases b with
        | false =>
          show wpAny _ X.A (handleBy (.ref a) X.env hds2) _ _ _
          exact ih (hno rfl)
        | true =>
          have run := hyes rfl a na
          cases hn with
          | no =>
            refine codeAny_handlers_suite (HandSPX.lands_againZ fl3 fun h4 fl4 up4 => ?_)
            obtain ⟨oe4, vs4, he4, hz4, hd4⟩ := fl4.there
            have S4 := (J.landed nb fl4.1 ((up.trans up3).trans up4) os ag : Inv X pins σ' H' { s' with heap := h4 }).suite he4 hd4 na nL nF
            refine wpAny_mono ((hsu a oe4 cls d (X.pn ++ pins) hz4 ⟨_, hd4⟩).run [] _ _ H' _ S4 run) (fun f s6 q6 => ?_) (fun _ _ z => False.elim z)
            cases f
            · exact q6.imp fun _ q => q.imp fun _ z => ⟨z.1.unsuite ok, z.2⟩
            · exact q6.imp fun _ q => q.imp fun _ z => ⟨z.1.unsuite ok, z.2⟩
            · exact q6.imp fun _ q => q.imp fun _ z => ⟨z.1.unsuite ok, z.2⟩
            · exact q6.imp fun _ q => q.imp fun _ q => q.imp fun _ z => ⟨z.1.unsuite ok, z.2⟩
          | @yes n i hi hln =>
            refine codeAny_handlers_suite_as (HandSPX.lands_againZ fl3 fun h4 fl4 up4 => ?_)
            obtain ⟨oe4, vs4, he4, hz4, hd4⟩ := fl4.there
            have S4 := (J.landed nb fl4.1 ((up.trans up3).trans up4) os ag : Inv X pins σ' H' { s' with heap := h4 }).suite he4 hd4 na nL nF
            refine store_ok (X := X.suite a ((a, oe4) :: (X.pn ++ pins))) (v := .ref a) S4 hN hi (.inl hln) rfl (fun s5 S5 => ?_) (.inr hln)
            refine wpAny_mono ((hsu a oe4 cls d (X.pn ++ pins) hz4 ⟨_, hd4⟩).run [] s5 _ H' _ S5 run) (fun f s6 q6 => ?_) (fun _ _ z => False.elim z)
            have gone : ∀ {σ6 : L2.St} {H6 : Hp} {Q : Shared → Prop}, Inv (X.suite a ((a, oe4) :: (X.pn ++ pins))) [] σ6 H6 s6 → (∀ s7, Inv X pins (σ6.set i none) H6 s7 → Q s7) →
                wpAny (model X.prog X.w) X.A (do bindName X.env n .none; unbindBehindTheSuite X.env n pos') (fun _ s7 => Q s7) X.xe s6 := fun {σ6 H6 Q} S6 hq => gone_ok (S6.unsuite ok) hN hi hln hq
            cases f
            · obtain ⟨_, _, S6, q⟩ := q6
              exact gone S6 fun s7 J7 => ⟨_, _, J7, q⟩
            · obtain ⟨_, _, S6, q⟩ := q6
              exact gone S6 fun s7 J7 => ⟨_, _, J7, q⟩
            · obtain ⟨_, _, S6, q⟩ := q6
              exact gone S6 fun s7 J7 => ⟨_, _, J7, q⟩
            · obtain ⟨_, _, _, S6, r6, q⟩ := q6
              exact gone S6 fun s7 J7 => ⟨_, _, _, J7, r6, q⟩
    exact go hh wish
  · have z := back f s1 q
    cases f
    · exact wpAny_execs_nil z
    all_goals exact z
end
end OS
set_option Elab.async false
set_option linter.all false
set_option maxRecDepth 100000
set_option maxHeartbeats 4000000
/-! groups in the heap -/
namespace OS
open PySem PySem.Spec PyProof.Rows L2
theorem room65 {k : Nat} {A : Around} (r : Room k A) : A.units + 65 < cLine := by have := r.un; omega
theorem _root_.L2.Same.tupT {K : PySem.W.Frag} {H H' : Hp} {a : Addr} {xs : List V} (e : Same H H') (h : SqT K H a xs) : SqT K H' a xs := by
  rcases h with (h | ⟨o, h⟩) | h
  · exact .inl (.inl (e _ _ h))
  · exact .inl (.inr ⟨o, e _ _ h⟩)
  · exact .inr h
theorem strs_get {xs : List Str} {i : Nat} {x : V} (h : (xs.map V.str)[i]? = some x) {s : Str} (hs : xs[i]? = some s) : x = .str s := by
  rw [List.getElem?_map, hs] at h
  exact (Option.some.inj h).symm
theorem strs_flat : ∀ xs : List Str, (xs.map V.str).all flatV = true
  | [] => rfl
  | x :: xs => by
    rw [List.map_cons, List.all_cons, strs_flat xs]
    rfl
theorem inV_strs (z : Str) : ∀ xs : List Str, inV (.str z) (xs.map V.str) = decide (z ∈ xs)
  | [] => rfl
  | x :: xs => by
    have ih := inV_strs z xs
    unfold inV at ih ⊢
    rw [List.map_cons, List.any_cons, ih]
    show ((x == z) || decide (z ∈ xs)) = decide (z ∈ x :: xs)
    by_cases h1 : x = z
    · subst h1
      simp
    · have h1' : ¬ z = x := fun q => h1 q.symm
      by_cases h2 : z ∈ xs <;> simp [h1, h1', h2]
/-- a group: a tuple of texts -/
def GrpV (K : PySem.W.Frag) (H : Hp) (x : V) (g : List Str) : Prop := ∃ a, x = .ref a ∧ SqT K H a (g.map V.str)
theorem GrpV.same {K : PySem.W.Frag} {H H' : Hp} {x : V} {g : List Str} (h : GrpV K H x g) (s : Same H H') : GrpV K H' x g := h.imp fun _ q => ⟨q.1, s.tupT q.2⟩
/-- items that are the groups gs -/
abbrev GrpsV (K : PySem.W.Frag) (H : Hp) (xs : List V) (gs : List (List Str)) : Prop := Paired (GrpV K H) xs gs
theorem GrpsV.same {K : PySem.W.Frag} {H H' : Hp} {xs : List V} {gs : List (List Str)} (h : GrpsV K H xs gs) (s : Same H H') : GrpsV K H' xs gs := Paired.mapP h fun _ _ q => q.same s
theorem GrpV.dp {K : PySem.W.Frag} {H : Hp} {x : V} {g : List Str} (h : GrpV K H x g) : Dp K H x (encG g) := by
  obtain ⟨a, rfl, q⟩ := h
  exact .tup q (dp_all (fun z => .str z) g)
theorem GrpsV.dps {K : PySem.W.Frag} {H : Hp} : ∀ {xs : List V} {gs : List (List Str)}, GrpsV K H xs gs → DpAll K H xs (gs.map encG)
  | _, _, .nil => .nil
  | _, _, .cons h t => .cons h.dp (GrpsV.dps t)
theorem any_encG (g : List Str) : ∀ gs : List (List Str), ((gs.map encG).any fun z => PyData.eqv z (encG g)) = decide (g ∈ gs)
  | [] => rfl
  | x :: gs => by
    rw [List.map_cons, List.any_cons, any_encG g gs, eqv_G]
    by_cases h1 : x = g
    · subst h1
      simp
    · have h1' : ¬ g = x := fun q => h1 q.symm
      by_cases h2 : g ∈ gs <;> simp [h1, h1', h2]
theorem paired_zip {α β : Type} {F : α → β → Prop} : ∀ {xs : List α} {ys : List β}, Paired F xs ys → (xs.zip ys).map Prod.fst = xs ∧ (xs.zip ys).map Prod.snd = ys ∧ ∀ p ∈ xs.zip ys, F p.1 p.2
  | _, _, .nil => ⟨rfl, rfl, fun _ h => by simp at h⟩
  | _, _, .cons h t => by
    obtain ⟨h1, h2, h3⟩ := paired_zip t
    refine ⟨by rw [List.zip_cons_cons, List.map_cons, h1], by rw [List.zip_cons_cons, List.map_cons, h2], fun p hp => ?_⟩
    rw [List.zip_cons_cons] at hp
    rcases List.mem_cons.mp hp with rfl | hp
    · exact h
    · exact h3 p hp
theorem paired_of {α β γ : Type} {F : α → β → Prop} {f : γ → α} {k : γ → β} : ∀ {l : List γ}, (∀ c ∈ l, F (f c) (k c)) → Paired F (l.map f) (l.map k)
  | [], _ => .nil
  | c :: l, h => .cons (h c (List.mem_cons_self ..)) (paired_of fun c hc => h c (List.mem_cons_of_mem _ hc))
theorem paired_get {α β : Type} {F : α → β → Prop} : ∀ {xs : List α} {ys : List β} {i : Nat} {x : α}, Paired F xs ys → xs[i]? = some x → ∃ y, ys[i]? = some y ∧ F x y
  | _, _, _, _, .nil, h => by simp at h
  | _, _, 0, _, .cons h t, e => ⟨_, rfl, by cases e; exact h⟩
  | _, _, i + 1, _, .cons h t, e => by
    obtain ⟨y, h1, h2⟩ := paired_get (i := i) t e
    exact ⟨y, h1, h2⟩
theorem paired_len {α β : Type} {F : α → β → Prop} {xs : List α} {ys : List β} (h : Paired F xs ys) : xs.length = ys.length := Paired.length h
end OS
set_option Elab.async false
set_option linter.all false
set_option maxRecDepth 100000
set_option maxHeartbeats 4000000
/-! any values, seen as tuples -/
namespace OS
open PySem PySem.Spec PyProof.Rows L2
/-- a value; if it is a tuple, its items -/
inductive Thing (K : PySem.W.Frag) (H : Hp) : V → Option (List V) → Prop
  | flat {v : V} : flatV v = true → Thing K H v none
  | lst {a : Addr} {zs : List V} : SqL K H a zs → Thing K H (.ref a) none
  | dct {a : Addr} {kvs : List (Key × V)} : H a = some (.dK kvs) → Thing K H (.ref a) none
  | tup {a : Addr} {xs : List V} : SqT K H a xs → (∀ v ∈ xs, Itm K H v) → Thing K H (.ref a) (some xs)
theorem Itm.same {K : PySem.W.Frag} {H H' : Hp} {v : V} (h : Itm K H v) (s : Same H H') : Itm K H' v := by
  cases h with
  | flat f => exact .flat f
  | lst q => exact .lst (s.seq q)
  | tup q => exact .tup (s.tupT q)
  | dct q => exact .dct (s _ _ q)
theorem Thing.same {K : PySem.W.Frag} {H H' : Hp} {v : V} {o : Option (List V)} (h : Thing K H v o) (s : Same H H') : Thing K H' v o := by
  cases h with
  | flat f => exact .flat f
  | lst q => exact .lst (s.seq q)
  | dct q => exact .dct (s _ _ q)
  | tup q hi => exact .tup (s.tupT q) fun v hv => (hi v hv).same s
theorem ty_list {K : PySem.W.Frag} {H : Hp} {a : Addr} {xs : List V} (h : SqL K H a xs) : TyX K H (.ref a) (.type "list") := by
  rcases h with (h | ⟨o, h⟩) | ⟨o, its, n, h, c, _⟩
  · exact .base (.lst h)
  · exact .base (.frz h)
  · exact .kList h c
theorem ty_tup {K : PySem.W.Frag} {H : Hp} {a : Addr} {xs : List V} (h : SqT K H a xs) : TyX K H (.ref a) (.type "tuple") := by
  rcases h with (h | ⟨o, h⟩) | ⟨o, its, n, h, c, _⟩
  · exact .base (.tup h)
  · exact .fTuple h
  · exact .kTuple h c
theorem Thing.isT {K : PySem.W.Frag} {H : Hp} {v : V} {o : Option (List V)} (h : Thing K H v o) : ∃ t, TyX K H v t ∧ PySem.W.kitOne K t (.type "tuple") = some o.isSome := by
  cases h with
  | flat f =>
    cases v with
    | non => exact ⟨_, .base .non, by rfl⟩
    | bl b => exact ⟨_, .base (.bl b), by rfl⟩
    | int i => exact ⟨_, .base (.int i), by rfl⟩
    | str z => exact ⟨_, .base (.str z), by rfl⟩
    | _ => exact absurd (show false = true from f) Bool.false_ne_true
  | lst q => exact ⟨_, ty_list q, by rfl⟩
  | dct q => exact ⟨_, .base (.dK q), by rfl⟩
  | tup q _ => exact ⟨_, ty_tup q, by rfl⟩
theorem Thing.emp {K : PySem.W.Frag} {H : Hp} {v : V} {o : Option (List V)} (h : Thing K H v o) : EmpIs K H v (decide (o = some [])) := by
  cases h with
  | flat f =>
    rw [decide_eq_false (fun z => nomatch z)]
    exact .flat f
  | lst q =>
    rw [decide_eq_false (fun z => nomatch z)]
    exact .lst q
  | dct q =>
    rw [decide_eq_false (fun z => nomatch z)]
    exact .dct q
  | @tup a xs q _ =>
    have e : decide (some xs = some ([] : List V)) = xs.isEmpty := by cases xs <;> simp
    rw [e]
    exact .tup q
/-- the value is a group of the persons ps -/
def isGrp (ps : List Str) : Option (List V) → Bool
  | none => false
  | some xs => eqS xs (ps.filter fun n => xs.any (isS n))
theorem any_isS (n : Str) : ∀ g : List Str, (g.map V.str).any (isS n) = decide (n ∈ g)
  | [] => rfl
  | x :: g => by
    rw [List.map_cons, List.any_cons, any_isS n g]
    show ((x == n) || decide (n ∈ g)) = decide (n ∈ x :: g)
    by_cases h1 : x = n
    · subst h1
      simp
    · have h1' : ¬ n = x := fun q => h1 q.symm
      by_cases h2 : n ∈ g <;> simp [h1, h1', h2]
/-- what is a group is a tuple of texts, a part of ps -/
theorem isGrp_iff {ps : List Str} (hp : ps.Nodup) {o : Option (List V)} : isGrp ps o = true ↔ ∃ g : List Str, g.Sublist ps ∧ o = some (g.map V.str) := by
  constructor
  · intro h
    cases o with
    | none => simp [isGrp] at h
    | some xs =>
      have e := eqS_true h
      exact ⟨_, List.filter_sublist, congrArg some e⟩
  · rintro ⟨g, hg, rfl⟩
    show eqS (g.map V.str) (ps.filter fun n => (g.map V.str).any (isS n)) = true
    have e : (ps.filter fun n => (g.map V.str).any (isS n)) = pick ps g := by
      unfold pick
      exact List.filter_congr fun n _ => any_isS n g
    rw [e, eqS_strs, pick_sub hp hg]
    simp
end OS
namespace OS
open PySem PySem.Spec PyProof.Rows L2
/-- what is no list stands apart from one -/
theorem tupT_but {K : PySem.W.Frag} {H H' : Hp} {D a : Addr} {acc xs : List V} (hD : H D = some (.lst acc)) (k : ∀ b o, H b = some o → b ≠ D → H' b = some o) (h : SqT K H a xs) : SqT K H' a xs := by
  rcases h with (h | ⟨o, h⟩) | h
  · exact .inl (.inl (k _ _ h (ne_of h hD fun z => by cases z)))
  · exact .inl (.inr ⟨o, k _ _ h (ne_of h hD fun z => by cases z)⟩)
  · exact .inr h
theorem GrpV.but {K : PySem.W.Frag} {H H' : Hp} {D : Addr} {acc : List V} {x : V} {g : List Str} (hD : H D = some (.lst acc)) (k : ∀ b o, H b = some o → b ≠ D → H' b = some o) (h : GrpV K H x g) : GrpV K H' x g := h.imp fun _ q => ⟨q.1, tupT_but hD k q.2⟩
theorem paired_swap {α β : Type} {F : α → β → Prop} : ∀ {xs : List α} {ys : List β}, Paired F xs ys → Paired (fun y x => F x y) ys xs
  | _, _, .nil => .nil
  | _, _, .cons h t => .cons h (paired_swap t)
theorem paired_map {α β γ : Type} {F : γ → β → Prop} {f : α → γ} : ∀ {xs : List α} {ys : List β}, Paired (fun a b => F (f a) b) xs ys → Paired F (xs.map f) ys
  | _, _, .nil => .nil
  | _, _, .cons h t => .cons h (paired_map t)
theorem paired_app {α β : Type} {F : α → β → Prop} : ∀ {xs xs' : List α} {ys ys' : List β}, Paired F xs ys → Paired F xs' ys' → Paired F (xs ++ xs') (ys ++ ys')
  | _, _, _, _, .nil, h => h
  | _, _, _, _, .cons h t, h' => .cons h (paired_app t h')
end OS
namespace OS
open PySem PySem.Spec PyProof.Rows L2
/-- a walk over a list or a tuple -/
def iSeq (K : PySem.W.Frag) (tl : TE) : TI := fun σ H R => tl σ H fun x H1 => ∃ a, x = .ref a ∧ (((∃ xs, SqL K H1 a xs) ∧ R (Itl K a) H1) ∨ ((∃ xs, SqT K H1 a xs) ∧ R (Itt K a) H1))
theorem pi_seq {X : Cx} {tg l : Expr} {tl : TE} (hl : PE X l tl) : PI X tg l (iSeq X.K tl) := by
  constructor
  intro pins s σ H R I h
  refine thn (hl.run pins s σ H _ I h) fun v s1 q1 => ?_
  obtain ⟨x, H1, I1, r1, a, rfl, q⟩ := q1
  cases r1
  rcases q with ⟨⟨xs, hq⟩, q⟩ | ⟨⟨xs, hq⟩, q⟩
  · obtain ⟨its, rv, p, hz⟩ := I1.list hq
    exact wpAny_pyIter_list p.isList ⟨s1.heap.objs.size, [s1.heap.objs.size], _, _, H1, rfl, I1.kept (t' := s1.toks) fun b o e => Heap.get?_push_of_some _ e, turn_list a _, ⟨_, Heap.get?_push_size _ rfl, rfl, rfl⟩,
      (fun b hb => by rw [List.mem_singleton.mp hb]; exact I1.fpOk (Nat.le_refl _) (I1.hok.fresh (Nat.le_refl _))), q⟩
  · obtain ⟨its, rv, p, hz⟩ := I1.tuple hq
    exact wpAny_pyIter_tuple (show s1.heap.IsTuple a its.toArray from p) ⟨s1.heap.objs.size, [s1.heap.objs.size], _, _, H1, rfl, I1.kept (t' := s1.toks) fun b o e => Heap.get?_push_of_some _ e, turn_tuple a _, ⟨_, Heap.get?_push_size _ rfl, rfl, rfl⟩,
      (fun b hb => by rw [List.mem_singleton.mp hb]; exact I1.fpOk (Nat.le_refl _) (I1.hok.fresh (Nat.le_refl _))), q⟩
end OS
set_option Elab.async false
set_option linter.all false
set_option maxRecDepth 100000
set_option maxHeartbeats 4000000
/-! raise C(e), C an own error that keeps its argument -/
namespace OS
open PySem PySem.Spec PyProof.Rows L2
/-- what follows where an error of the class at C flies whose field f holds v -/
def Flies (Q : XK) (C : Addr) (f : Str) (v : V) (H1 : Hp) : Prop := ∀ (dx : Addr) (H2 : Hp), H1 dx = none → Same H1 H2 → H2 dx = some (.xd [(f, v)]) → Q (.ref C) (some dx) H2
def tRaiseE (C : Addr) (f : Str) (te : TE) : L2.St → Hp → XK → Prop := fun σ H Q => te σ H fun v H1 => Flies Q C f v H1
section
variable {X : Cx} {C fI : Addr} {f x : Str} {fd : FuncData} {ps : List Str} {k : Nat} {e : Expr} {te : TE} {p pos : Pos}
theorem pmk_err (T : ErrT X.K C) (iC : PySem.W.findIn X.K (.ref C) "__init__" = some (some (.ref fI))) (tI : PySem.W.typeIn X.K (.ref fI) = some (.type "function")) (F1 : FnOk X.prog X.w X.K X.mg X.base CX0 k fI fd ps (spErr C f)) (hr : Room (k + 1) X.A)
    (hb : Binds X.K fd ps []) (hg : Gl X x) (hm : X.mg x = some (.ref C)) (he : PE X e te) (hdb : (x == ("__debug__" : Str)) = false := by decide)
    (hst : starEach [e] X.env = (false, eval e X.env) :: starEach [] X.env := by rfl) (hpl : (backTo pos (starEach [] X.env)).any (·.1) = false := by rfl) :
    PMk X (.Call (.Name x p) [e] [] pos) (tRaiseE C f te) := by
  intro pins s σ H Q I h
  refine pmk_oex T.ox iC tI F1 hr hb .nil (fun _ _ _ _ _ _ _ z => z.elim) hg hm (pa_mono (pa_cons he pa_nil hst)) hdb hst hpl pins s σ H Q I ?_
  refine ⟨fun vs H1 => match vs with | [v] => Flies Q C f v H1 | _ => False, h, fun vs H1 q => ?_⟩
  match vs, q with
  | [v], q =>
    refine ⟨by show 1 ≤ 1000; decide, fun a na => ⟨a, v, rfl, upd_same, fun dx h1 h2 => ?_⟩⟩
    have n1 : H1 dx = none := by
      rw [upd_ne h2] at h1
      exact h1
    refine ⟨rfl, dx, [(f, v)], upd_same, by rw [upd_ne h2, upd_same], n1, q dx _ n1 (fun b o hb => ?_) upd_same⟩
    have ba : b ≠ a := ne_of_none hb na
    have bd : b ≠ dx := ne_of_none hb n1
    rw [upd_ne bd, del_ne ba, upd_ne ba, upd_ne bd, upd_ne ba]
    exact hb
/-- C(), C an own error without own __init__ -/
theorem pmk_err0 {bmB : List Value} {B newId initId : String} (F : ExcBaseFacts B newId initId bmB) (q : PySem.W.excIn X.K C bmB newId = true) (kC : PySem.W.keepIn X.K (.ref C) = true) (T : ErrT X.K C) (hg : Gl X x) (hm : X.mg x = some (.ref C))
    (hdb : (x == ("__debug__" : Str)) = false := by decide) : PMk X (.Call (.Name x p) [] [] pos) (fun _ H Q => Q (.ref C) none H) := by
  intro pins s σ H Q I h
  refine wpAny_Call_Name_kw (ld_glob I hg hm (PySem.W.callWith_K0 I.kIn kC ?_) hdb)
  obtain ⟨bm, N, nm, qn, bs, hdct, sn, sub, ab, col, dd, k0, k1, k2, k3, k5, mN, hC, hN, hni, T'⟩ := exc_obj I.kIn q
  exact wpAny_call_exc_subT F T' hC hN hni (fun h' e hm => mk_of I hm (raises_own T.ox.exC T.ox.tyC) h (I.hok.gone hm.new)) (Nat.zero_le _)
end
end OS
set_option Elab.async false
set_option linter.all false
set_option maxRecDepth 100000
set_option maxHeartbeats 4000000
/-! enumerate over a list or a tuple -/
namespace OS
open PySem PySem.Spec PyProof.Rows L2
theorem meets_enum_one {v : Value} {o : Obj} {H : Heap → Prop} (B : Begins v o H) :
    Meets (Builtin.«enumerate.__new__» ⟨[.type "enumerate", v], []⟩) (fun _ R s => H s.heap ∧
      R (.ok (.ret (.ref (s.heap.push o).objs.size))) { s with heap := (s.heap.push o).push { cls := .type "enumerate", data := .fields #[.none, .bool false, .ref s.heap.objs.size, rawInt 0, .none, .none] } }) :=
  .of_wp fun prog w A R s h => by
    obtain ⟨hp, g, d, tk, os⟩ := s; obtain ⟨h1, h⟩ := h
    have hsub := sub_enumerate
    have q1 : ∀ {A' : Around} {E : Value → Shared → Prop} {Q : Value → Shared → Prop}, Q (.ref hp.objs.size) ⟨hp.push o, g, d, tk, os⟩ → wpAny (model prog w) A' (pyIter v) Q E ⟨hp, g, d, tk, os⟩ :=
      fun q => B.iter prog w _ _ ⟨hp, g, d, tk, os⟩ _ h1 q
    wp_walk using q1
    refine wpAny_stack_any fun st => wpAny_pure ?_
    split
    · rename_i c _ _ _ _ _
      cases (c == Value.type "enumerate")
      · wp_walk using q1
        exact ⟨_, rfl, h⟩
      · wp_walk using q1
        exact ⟨_, rfl, h⟩
    · wp_walk using q1
      exact ⟨_, rfl, h⟩
theorem enum_one {prog : Program} {w : World} {A : Around} {E : Value → Shared → Prop} {s : Shared} {v : Value} {o : Obj} {H : Heap → Prop} {Q : Value → Shared → Prop} (B : Begins v o H) (h1 : H s.heap)
    (h : ∀ h', IsEnum h' (s.heap.objs.size + 1) s.heap.objs.size 0 .none → h'.get? s.heap.objs.size = some o → h'.objs.size = s.heap.objs.size + 2 →
      (∀ b o, s.heap.get? b = some o → h'.get? b = some o) → Q (.ref (s.heap.objs.size + 1)) { s with heap := h' }) :
    wpAny (model prog w) A (call (.type "enumerate") [v]) Q E s := by
  refine callType_new F.called_enumerate (by decide) (F.typeCall_enumerate_1 _) (F.newCall_enumerate_1 _) (fun obj => F.args_object_init_2 obj _) F.entry_enumerate_new
    (meets_enum_one B) ⟨h1, ?_⟩
  have hz : (s.heap.push o).objs.size = s.heap.objs.size + 1 := Heap.size_push ..
  show _ ∧ _
  rw [hz]
  have he : IsEnum ((s.heap.push o).push { cls := .type "enumerate", data := .fields #[.none, .bool false, .ref s.heap.objs.size, rawInt 0, .none, .none] }) (s.heap.objs.size + 1) s.heap.objs.size 0 .none := by
    have := Heap.get?_push_size (s.heap.push o) (o := { cls := .type "enumerate", data := .fields #[.none, .bool false, .ref s.heap.objs.size, rawInt 0, .none, .none] }) rfl
    rw [hz] at this; exact this
  refine ⟨⟨_, he, rfl⟩, h _ he (Heap.get?_push_of_some _ (Heap.get?_push_size _ B.free)) (by rw [Heap.size_push, hz]) fun b o x => Heap.get?_push_of_some _ (Heap.get?_push_of_some _ x)⟩
/-- the tuple at a, each item in a new pair -/
def Itet (K : PySem.W.Frag) (a : Addr) : It :=
  ⟨fun i H => ∃ (xs : List V) (x : V), SqT K H a xs ∧ xs[i]? = some x, fun i H v H' => ∃ T x, v = .ref T ∧ H T = none ∧ H' = upd H T (.tup [.int (i : Nat), x]) ∧ ∀ xs, SqT K H a xs → xs[i]? = some x, fun i H => ∃ xs : List V, SqT K H a xs ∧ xs.length ≤ i⟩
theorem walk_enumT {K : PySem.W.Frag} {a : Addr} {xs : List V} : Walk (Itet K a) xs.length (fun H => SqT K H a xs) (YPair (fun i => some (.int (i : Nat))) (fun i => xs[i]?)) :=
  ⟨fun i _ hi q => ⟨xs, xs[i], q, by simp [hi]⟩, fun _ q => ⟨xs, q, Nat.le_refl _⟩, fun i H v H' _ q ⟨T, x, h1, h2, h3, h4⟩ => ⟨T, .int (i : Nat), x, h1, h2, h3, rfl, h4 xs q⟩⟩
theorem tup_ne_enum {s : Shared} {a e it : Addr} {its : Array Value} {i : Int} {old : Value} (p : s.heap.IsTuple a its) (he : IsEnum s.heap e it i old) : e ≠ a := by
  intro z
  subst z
  obtain ⟨o, ho, hc, _⟩ := p
  rw [show s.heap.get? e = _ from he] at ho
  obtain rfl := Option.some.inj ho
  have h2 : (Value.type "enumerate") = Value.type "tuple" := hc
  injection h2 with h3
  exact absurd h3 (by decide)
theorem tup_ne_iter {s : Shared} {a it b : Addr} {its : Array Value} {i : Nat} (p : s.heap.IsTuple a its) (hi : s.heap.IsTupleIter it b i) : a ≠ it := by
  intro z
  subst z
  obtain ⟨o, ho, hc, _⟩ := p
  obtain ⟨o', ho', hc', _⟩ := hi
  obtain rfl := Option.some.inj (ho.symm.trans ho')
  have h2 : (Value.type "tuple") = Value.type "tuple_iterator" := hc.symm.trans hc'
  injection h2 with h3
  exact absurd h3 (by decide)
theorem wpAny_pyNext_enum_endT {prog : Program} {w : World} {A : Around} {E : Value → Shared → Prop} {s : Shared} {e it l : Addr} {i : Nat} {items : Array Value} {old : Value} {Q : Option Value → Shared → Prop} (hh : A.handled = none)
    (he : IsEnum s.heap e it i old) (hit : s.heap.IsTupleIter it l i) (hl : s.heap.IsTuple l items) (hx : items[i]? = none)
    (hQ : ∀ h', Heap.ExtBut it s.heap h' → Q none { s with heap := h' }) : wpAny (model prog w) A (pyNext (.ref e)) Q E s := by
  have hT : s.TypeIs (.ref e) "enumerate" := ⟨_, he, rfl⟩
  unfold pyNext
  refine wpAny_bind (wpAny_attempt (wpAny_callSpecial?_slot (name := Str.ofString "__next__") hT F.slot_enumerate_next
    (wpAny_call_entry F.slot_enumerate_next hT F.entry_enumerate_next ?_ (F.args_enumerate_next_1 _))))
  show wpAny _ _ (field (.ref e) 2 >>= _) _ _ _
  refine wpAny_bind (wpAny_field he rfl (x := .ref it) rfl ?_)
  refine wpAny_bind (wpAny_nextOf_tuple_end hh hit hl hx fun h' x he' hx' => ?_)
  obtain ⟨o, ho, hc⟩ := hx'
  refine wpAny_bind (wpAny_isInstance (T := "StopIteration") (b := true) ⟨o, ho, hc⟩ isSubtype_stop ?_)
  exact wpAny_pure (hQ _ he')
theorem turn_enumT {P : Program} {w : World} {K : PySem.W.Frag} {elts : List Expr} {kk : Nat} {tpos : Pos} (a e it : Addr) :
    Turn P w K (.Tuple elts kk tpos) (Itet K a) [e, it] e (fun i h => (∃ old, IsEnum h e it ((i : Nat) : Int) old) ∧ h.IsTupleIter it a i ∧ e ≠ it) where
  mem := by simp
  obj := fun i h st b hb => by
    obtain ⟨⟨old, he⟩, ⟨o, ho, hc, hd⟩, _⟩ := st
    have e' : b = e ∨ b = it := by simpa using hb
    rcases e' with z | z
    · rw [z]; exact ⟨_, he, fun v q => nomatch q⟩
    · rw [z]; exact ⟨o, ho, fun v q => by rw [hd] at q; cases q⟩
  keep := fun i h h' st k => let ⟨⟨old, he⟩, hi, hne⟩ := st; ⟨⟨old, k e (by simp) _ he⟩, hi.at fun o q => k it (by simp) o q, hne⟩
  item := by
    intro X hP hw hK hc i pins s σ H E I hf st hg
    subst hP hw hK
    obtain ⟨⟨old, he⟩, hit, hne⟩ := st
    obtain ⟨xs, x, hq, hx⟩ := hg
    obtain ⟨its, rv, p, hz⟩ := I.tuple hq
    obtain ⟨u, hu, ru⟩ := rv.get hx
    have pt : s.heap.IsTuple a its.toArray := p
    have hel : e < s.heap.objs.size := Heap.lt_size he
    have hil : it < s.heap.objs.size := by obtain ⟨_, q, _⟩ := hit; exact Heap.lt_size q
    have hi : i < its.toArray.size := by
      have := (List.getElem?_eq_some_iff.mp hu).1
      simpa using this
    have hh : X.A.in1.handled = none := I.ok.hd hc
    refine wpAny_pyNext_enum_itemD (D := Draws.tuple hh it a (tup_ne_iter pt hit) its.toArray) he ⟨hit, pt⟩ hi hne (by simp [hne, tup_ne_enum pt he]) fun u' h' tk hP ho hst' hT hsz hk => ?_
    have hu' : u' = u := by
      have h3 : its.toArray[i]? = some u' := hP
      rw [List.getElem?_toArray, hu] at h3
      exact (Option.some.inj h3).symm
    subst hu'
    obtain ⟨hit', pt'⟩ := hst'
    refine ⟨_, rfl, wpAny_letOwnedTupleGo_enum (s := { s with heap := h', toks := tk + 1 }) ho fun h'' he' sb => ?_⟩
    have hT2 : h''.get? s.heap.objs.size = some { cls := .type "tuple", data := .seq #[.int i tk, u'] } := (sb.2 _ (Nat.ne_of_gt hel)).trans hT
    have new : ObjOk X.prog X.w (upd H s.heap.objs.size (.tup [.int (i : Nat), x])) h'' s.heap.objs.size (.tup [.int (i : Nat), x]) :=
      ⟨by show 2 ≤ sizeLine; decide, [.int i tk, u'], .cons ⟨_, rfl⟩ (.cons ru .nil), ⟨_, hT2, rfl, _, rfl⟩⟩
    have I1 : Inv X pins σ (upd H s.heap.objs.size (.tup [.int (i : Nat), x])) { s with heap := h'', toks := tk + 1 } :=
      I.turnedNew (ch := [e, it]) (fun b ob hb q => (sb.2 b (fun z => hb (by simp [z]))).trans (hk b ob (fun z => hb (by simp [z])) (fun z => hb (by simp [z])) q)) hf (Nat.le_refl _) new
    refine ⟨.ref s.heap.objs.size, _, I1, rfl, ⟨_, x, rfl, I.hok.fresh (Nat.le_refl _), rfl, fun ys hy => by rw [I.tuple_inj hy hq]; exact hx⟩, ⟨⟨u', ?_⟩, hit'.at fun o q => (sb.2 it (Ne.symm hne)).trans q, hne⟩, fun b hb => ?_⟩
    · have e1 : ((i + 1 : Nat) : Int) = (i : Int) + 1 := by omega
      rw [e1]; exact he'
    · have hb' : b < s.heap.objs.size := by
        have e' : b = e ∨ b = it := by simpa using hb
        rcases e' with z | z
        · rw [z]; exact hel
        · rw [z]; exact hil
      rw [upd_ne (Nat.ne_of_lt hb')]
      exact (hf b hb).1
  done := by
    intro X hP hw hK hc i pins s σ H E I hf st hg
    subst hP hw hK
    obtain ⟨⟨old, he⟩, hit, hne⟩ := st
    obtain ⟨xs, hq, hx⟩ := hg
    obtain ⟨its, rv, p, hz⟩ := I.tuple hq
    obtain ⟨f0, f1, f2, f3, f4, f5⟩ := hf it (by simp)
    have hl := rv.length
    have pt : s.heap.IsTuple a its.toArray := p
    refine wpAny_pyNext_enum_endT (I.ok.hd hc) he hit pt (by simp; omega) fun h' eb => ⟨rfl, I.turned (t' := s.toks) (fun b o hb q => eb b o hb q) f0 f1 f3 f4 f5⟩
  self := fun A i s Q E st h => let ⟨⟨_, he⟩, _⟩ := st; wpAny_pyIter_enum he h
/-- enumerate(xs), xs a list or a tuple -/
def iEnumS (K : PySem.W.Frag) (ta : TA) : TI := fun σ H R => ta σ H fun vs H1 => ∃ a, vs = [.ref a] ∧ (((∃ xs, SqL K H1 a xs) ∧ R (Ite K a) H1) ∨ ((∃ xs, SqT K H1 a xs) ∧ R (Itet K a) H1))
theorem pi_enumS {X : Cx} {e : Expr} {ta : TA} {p pos tpos : Pos} {elts : List Expr} {kk : Nat} (hg : Gl X "enumerate") (hm : X.mg "enumerate" = none) (ha : PA X [e] ta) (hs : starEach [e] X.env = [(false, eval e X.env)] := by rfl) :
    PI X (.Tuple elts kk tpos) (.Call (.Name "enumerate" p) [e] [] pos) (iEnumS X.K ta) := by
  refine ⟨fun pins s σ H R I h => ?_⟩
  refine Call_ (ld_blt I hg hm boot_enumerate (PyProof.Rows.callWith_type1 (thn (ha.run pos pins s σ H _ I h) fun us s1 ⟨vs, H1, I1, r1, q1⟩ => ?_) hs rfl))
  obtain ⟨a, ex, q⟩ := q1
  subst ex
  cases r1 with
  | cons r rr =>
    cases rr
    cases r
    have apart : ∀ b ∈ [s1.heap.objs.size + 1, s1.heap.objs.size], s1.heap.objs.size ≤ b := fun b hb => by
      have e' : b = s1.heap.objs.size + 1 ∨ b = s1.heap.objs.size := by simpa using hb
      rcases e' with z | z
      · rw [z]; exact Nat.le_add_right _ _
      · rw [z]; exact Nat.le_refl _
    rcases q with ⟨⟨xs, hq⟩, q⟩ | ⟨⟨xs, hq⟩, q⟩
    · obtain ⟨its, rv, p', hz⟩ := I1.list hq
      refine call_enumerate_list p'.isList fun h' he hit hsz hk => wpAny_pyIter_enum he ?_
      have I2 : Inv X pins σ H1 { s1 with heap := h' } := I1.kept (t' := s1.toks) hk
      exact ⟨s1.heap.objs.size + 1, [s1.heap.objs.size + 1, s1.heap.objs.size], _, _, H1, rfl, I2, turn_enum a (s1.heap.objs.size + 1) s1.heap.objs.size, ⟨⟨.none, he⟩, hit, Nat.succ_ne_self _⟩, fun b hb => I1.fpOk (apart b hb) (I1.hok.fresh (apart b hb)), q⟩
    · obtain ⟨its, rv, p', hz⟩ := I1.tuple hq
      have pt : s1.heap.IsTuple a its.toArray := p'
      refine enum_one (begins_tuple a its.toArray) pt fun h' he hit hsz hk => wpAny_pyIter_enum he ?_
      have I2 : Inv X pins σ H1 { s1 with heap := h' } := I1.kept (t' := s1.toks) hk
      exact ⟨s1.heap.objs.size + 1, [s1.heap.objs.size + 1, s1.heap.objs.size], _, _, H1, rfl, I2, turn_enumT a (s1.heap.objs.size + 1) s1.heap.objs.size, ⟨⟨.none, he⟩, ⟨_, hit, rfl, rfl⟩, Nat.succ_ne_self _⟩, fun b hb => I1.fpOk (apart b hb) (I1.hok.fresh (apart b hb)), q⟩
/-- t[lo:hi], t a list or a tuple -/
theorem sl_seqO {X : Cx} : SlR X (fun x lo hi H Q => rSlLO X.K x lo hi H Q ∨ rSlTO X.K x lo hi H Q) := SlR.or sl_listO sl_tupO
end OS
set_option Elab.async false
set_option linter.all false
set_option maxRecDepth 100000
set_option maxHeartbeats 4000000
/-! groups pass draws: a tuple is no part of the state -/
namespace OS
open PySem PySem.Spec PyProof.Rows L2
theorem StAt.sep {H : Hp} {p q : Addr} {n : Nat} {o : HO} (S : StAt H p n) (h : H q = some o) (nl : ∀ xs, o ≠ .lst xs) : Sep H p q o := by
  obtain ⟨a, b, zs, ms, S⟩ := S
  refine ⟨h, fun z => ?_⟩
  rw [own_iff S.hp] at z
  rcases z with z | z | z
  · subst z
    exact nl _ (Option.some.inj (h.symm.trans S.hp))
  · subst z
    exact nl _ (Option.some.inj (h.symm.trans S.ha))
  · subst z
    exact nl _ (Option.some.inj (h.symm.trans S.hb))
theorem tupT_nx {K : PySem.W.Frag} {H H' : Hp} {p a : Addr} {n : Nat} {xs : List V} (S : StAt H p n) (x : Nx p H H') (h : SqT K H a xs) : SqT K H' a xs := by
  rcases h with (h | ⟨o, h⟩) | h
  · exact .inl (.inl (x _ _ (S.sep h fun _ z => nomatch z)).at_)
  · exact .inl (.inr ⟨o, (x _ _ (S.sep h fun _ z => nomatch z)).at_⟩)
  · exact .inr h
theorem GrpV.nx {K : PySem.W.Frag} {H H' : Hp} {p : Addr} {n : Nat} {v : V} {g : List Str} (S : StAt H p n) (x : Nx p H H') (h : GrpV K H v g) : GrpV K H' v g := h.imp fun _ q => ⟨q.1, tupT_nx S x q.2⟩
theorem GrpsV.nx {K : PySem.W.Frag} {H H' : Hp} {p : Addr} {n : Nat} {xs : List V} {gs : List (List Str)} (S : StAt H p n) (x : Nx p H H') (h : GrpsV K H xs gs) : GrpsV K H' xs gs := Paired.mapP h fun _ _ q => GrpV.nx S x q
end OS
set_option Elab.async false
set_option linter.all false
set_option maxRecDepth 100000
set_option maxHeartbeats 4000000
/-! calls of a class, a classmethod, a method: within a try, by keywords, by a local name -/
namespace OS
open PySem PySem.Spec PyProof.Rows L2 ClX
/-! ### what may fly is told at the slots -/
def tMakeS (C : Addr) (sp : Sp) (E : L2.St → XK) (t : TA) : TE := fun σ H Q => t σ H fun vs H1 => ∀ x dx, H1 x = none → H1 dx = none → dx ≠ x →
  sp (.ref x :: vs) (upd (upd H1 dx (.own x)) x (.ins C dx [])) (fun v H2 => v = .non ∧ Q (.ref x) H2) (E σ)
def tMethSx (C : Addr) (m : Str) (sp : Sp) (E : L2.St → XK) (ta : TE) (t : TA) : TE := fun σ H Q => ta σ H fun x H1 => ∃ a dx fs, x = .ref a ∧ H1 a = some (.ins C dx fs) ∧ fs.lookup m = none ∧ t σ H1 fun vs H2 => sp (x :: vs) H2 Q (E σ)
def tCMethS (C : Addr) (sp : Sp) (E : L2.St → XK) (ta : TE) (t : TA) : TE := fun σ H Q => ta σ H fun x H1 => x = .ref C ∧ t σ H1 fun vs H2 => sp (.ref C :: vs) H2 Q (E σ)
section
variable {X : Cx} {CX : CXT} {k : Nat} {f C p g : Addr} {mc : Value} {fd : FuncData} {ps : List Str} {sp : Sp} {E : L2.St → XK} {E1 : XK} {x m : Str} {q pos apos : Pos} {e o : Expr} {es : List Expr} {ta : TE} {t tk : TA} {pl : Sem Bool} {kws : List Keyword} {ks : List Str}
theorem at_of (hx : Passes CX X E1) (σ : L2.St) : PassesAt CX X σ E1 := fun pins H s e s' I c => hx pins σ H s e s' I c
theorem run_makeS {pins : List (Addr × Obj)} {σ : L2.St} {H : Hp} {s : Shared} {Q : VK} {us : List Value} {vs : List V} (M : Mk X.K C f) (F : FnOk X.prog X.w X.K X.mg X.base CX k f fd ps sp) (hr : Room (k + 1) X.A) (hb : Binds X.K fd ps [])
    (hx : PassesAt CX X σ (E σ)) (I : Inv X pins σ H s) (r : Vals vs us)
    (h : ∀ x dx, H x = none → H dx = none → dx ≠ x → sp (.ref x :: vs) (upd (upd H dx (.own x)) x (.ins C dx [])) (fun v H2 => v = .non ∧ Q (.ref x) H2) (E σ)) :
    wpAny (model X.prog X.w) X.A (call (.ref C) us) (EP X pins σ Q) X.xe s := by
  have hq := h (s.heap.objs.size + 1) s.heap.objs.size (I.hok.fresh (Nat.le_succ _)) (I.hok.fresh (Nat.le_refl _)) (Nat.ne_of_lt (Nat.lt_succ_self _))
  have I2 := Inv.made (C := C) I
  have r2 : Vals (V.ref (s.heap.objs.size + 1) :: vs) (Value.ref (s.heap.objs.size + 1) :: us) := .cons rfl r
  have hl : (Value.ref (s.heap.objs.size + 1) :: us ++ []).length = ps.length := by
    have e := r2.length
    rw [F.len _ _ _ _ hq] at e
    rw [List.append_nil]
    exact e.symm
  have b := hb _ (Value.ref (s.heap.objs.size + 1) :: us) I2.kIn hl
  rw [List.append_nil] at b
  refine wpAny_call (make_map (f := f) I.kIn M.makes M.init (beq_iff_eq.mp M.fn) (codeAny_mono (F.run _ X.stack _ _ ⟨Value.ref (s.heap.objs.size + 1) :: us, []⟩ (Value.ref (s.heap.objs.size + 1) :: us) _ _ (E σ) (hr.make C us [])
    (I2.env0.make C us []) b r2 hq) fun r s' hq' => ?_))
  cases r with
  | error e => exact hx pins _ _ e s' I2 hq'
  | ok fl =>
    cases fl with
    | ret u =>
      obtain ⟨v, H', I3, rv, ev, q3⟩ := I2.after hq'
      subst ev
      exact ⟨rv, ⟨V.ref (s.heap.objs.size + 1), H', I3, rfl, q3⟩⟩
    | next => exact False.elim hq'
    | brk => exact False.elim hq'
    | cont => exact False.elim hq'
theorem pe_makeS (M : Mk X.K C f) (F : FnOk X.prog X.w X.K X.mg X.base CX k f fd ps sp) (hr : Room (k + 1) X.A) (hg : Gl X x) (hm : X.mg x = some (.ref C)) (hb : Binds X.K fd ps []) (hx : ∀ σ, PassesAt CX X σ (E σ))
    (ha : PA X (e :: es) t) (hdb : (x == ("__debug__" : Str)) = false := by decide) (he : starEach (e :: es) X.env = (false, eval e X.env) :: starEach es X.env := by rfl) (hpl : (backTo pos (starEach es X.env)).any (·.1) = false := by rfl) :
    PE X (.Call (.Name x q) (e :: es) [] pos) (tMakeS C sp E t) := by
  refine ⟨fun pins s σ H Q I h => ?_⟩
  refine wpAny_Call_Name_kw (ld_glob I hg hm ?_ hdb)
  refine PySem.W.callWith_K (h₀ := X.base) I.ok.mod.kin M.kp (thn (ha.run pos pins s σ H _ I h) fun us s1 ⟨vs, H1, I1, r, q⟩ => ⟨I1.kIn, ?_⟩) he hpl
  exact run_makeS M F hr hb (hx σ) I1 r q
/-- x(e, ..) where the name x of the def holds the class -/
def tMakeL (C : Addr) (i : Nat) (sp : Sp) (E : L2.St → XK) (t : TA) : TE := fun σ H Q => σ[i]? = some (some (.ref C)) ∧ tMakeS C sp E t σ H Q
theorem pe_makeL {i : Nat} (M : Mk X.K C f) (F : FnOk X.prog X.w X.K X.mg X.base CX k f fd ps sp) (hr : Room (k + 1) X.A) (hN : X.N[i]? = some x) (hv : Vis X.env.scope x) (hb : Binds X.K fd ps []) (hx : ∀ σ, PassesAt CX X σ (E σ))
    (ha : PA X (e :: es) t) (hdb : (x == ("__debug__" : Str)) = false := by decide) (hcd : (x == ("__classdict__" : Str)) = false := by decide) (he : starEach (e :: es) X.env = (false, eval e X.env) :: starEach es X.env := by rfl) (hpl : (backTo pos (starEach es X.env)).any (·.1) = false := by rfl) :
    PE X (.Call (.Name x q) (e :: es) [] pos) (tMakeL C i sp E t) := by
  refine ⟨fun pins s σ H Q I h => ?_⟩
  obtain ⟨hs, ht⟩ := h
  refine wpAny_Call_Name_kw (thn ((pe_var (pos := q) hN hv hdb hcd).run pins s σ H (fun v H1 => v = .ref C ∧ H1 = H) I ⟨.ref C, hs, rfl, rfl⟩) fun u s1 ⟨v, H1, I1, r1, q1⟩ => ?_)
  obtain ⟨rfl, rfl⟩ := q1
  cases r1
  refine PySem.W.callWith_K (h₀ := X.base) I.ok.mod.kin M.kp (thn (ha.run pos pins s1 σ _ _ I1 ht) fun us s2 ⟨vs, H2, I2, r, q⟩ => ⟨I2.kIn, ?_⟩) he hpl
  exact run_makeS M F hr hb (hx σ) I2 r q
theorem pe_methSx (he : PE X o ta) (c : Cls X.K C) (hm : Meth X.K C m f) (F : FnOk X.prog X.w X.K X.mg X.base CX k f fd ps sp) (hr : Room k X.A) (hb : Binds X.K fd ps []) (hx : ∀ σ, PassesAt CX X σ (E σ)) (ha : PA X (e :: es) t)
    (hst : starEach (e :: es) X.env = (false, eval e X.env) :: starEach es X.env := by rfl) (hpl : (backTo pos (starEach es X.env)).any (·.1) = false := by rfl)
    (ht : eval (.Call (.Attribute o m apos) (e :: es) [] pos) X.env = (do
      let ov ← eval o X.env
      standAt apos.atName
      let (f, first) ← holding [ov] (getMethod ov m pl)
      callWith pos f first (backTo pos (starEach (e :: es) X.env)) (backToKw pos (keywordEach [] X.env))) := by rfl) :
    PE X (.Call (.Attribute o m apos) (e :: es) [] pos) (tMethSx C m sp E ta t) := by
  refine ⟨fun pins s σ H Q I h => ?_⟩
  refine PySem.W.methodCall_KW (pl := pl) (thn (he.run pins s σ H _ I h) fun u s1 ⟨x, H1, I1, rx, a, dx, fs, ex, ea, l, q⟩ => ?_) ht
  subst ex
  obtain rfl : u = Value.ref a := rx
  refine getmeth_ok I1 ea c hm l ?_
  refine PySem.W.callWith_K (first := [.ref a]) (h₀ := X.base) I.ok.mod.kin hm.kp (thn (ha.run pos pins s1 σ H1 _ I1 q) fun us s2 ⟨vs, H2, I2, r, q2⟩ => ⟨I2.kIn, ?_⟩) hst hpl
  exact run_fnS (us := .ref a :: us) (vs := .ref a :: vs) F hr hb (hx σ) I2 (.cons rfl r) q2
theorem run_fnRS {pins : List (Addr × Obj)} {σ : L2.St} {H : Hp} {s : Shared} {Q : VK} {us : List Value} {vs : List V} {kz : List (Str × Value)} {zs : List Value} (F : FnOk X.prog X.w X.K X.mg X.base CX k f fd ps sp) (hr : Room k X.A) (hx : PassesAt CX X σ E1) (I : Inv X pins σ H s)
    (b : BindsTo s fd ⟨us, kz⟩ (ps.zip zs)) (r : Vals vs zs) (h : sp vs H Q E1) :
    codeAny (model X.prog X.w) X.A (.call (.ref f) ⟨us, kz⟩) (fun r s' => match r with | .ok (.ret v) => EP X pins σ Q v s' | .ok _ => False | .error e => X.xe e s') s := by
  refine codeAny_mono (F.run X.A X.stack s H ⟨us, kz⟩ zs vs Q E1 hr I.env0 b r h) fun r s' hq => ?_
  cases r with
  | error e => exact hx pins H s e s' I hq
  | ok fl =>
    cases fl with
    | ret u => exact I.after hq
    | next => exact False.elim hq
    | brk => exact False.elim hq
    | cont => exact False.elim hq
theorem pe_cmethS (he : PE X o ta) (r : CRead X.K C mc) (c : CMet X.K C mc m p g) (F : FnOk X.prog X.w X.K X.mg X.base CX k g fd ps sp) (hr : Room k X.A) (hb : Binds X.K fd ps []) (hx : ∀ σ, PassesAt CX X σ (E σ)) (ha : PA X (e :: es) t)
    (hst : starEach (e :: es) X.env = (false, eval e X.env) :: starEach es X.env := by rfl) (hpl : (backTo pos (starEach es X.env)).any (·.1) = false := by rfl)
    (ht : eval (.Call (.Attribute o m apos) (e :: es) [] pos) X.env = (do
      let ov ← eval o X.env
      standAt apos.atName
      let (f, first) ← holding [ov] (getMethod ov m pl)
      callWith pos f first (backTo pos (starEach (e :: es) X.env)) (backToKw pos (keywordEach [] X.env))) := by rfl) :
    PE X (.Call (.Attribute o m apos) (e :: es) [] pos) (tCMethS C sp E ta t) := by
  refine ⟨fun pins s σ H Q I h => ?_⟩
  refine PySem.W.methodCall_KW (pl := pl) (thn (he.run pins s σ H _ I h) fun u s1 ⟨x, H1, I1, rx, ex, q⟩ => ?_) ht
  subst ex
  obtain rfl : u = Value.ref C := rx
  refine getmethcm_ok I1 r c fun s2 I2 => ?_
  refine callwith_cm I2 (base_none I1 (Nat.le_refl _)) c.fi (thn (ha.run pos _ s2 σ H1 _ I2 q) fun us s3 ⟨vs, H2, I3, rv, q2⟩ => ⟨⟨pin_at I3, I3.kIn⟩, ?_⟩) hst hpl
  have hl : (Value.ref C :: us ++ []).length = ps.length := by
    rw [List.append_nil, List.length_cons, ← rv.length]
    exact F.len _ _ _ _ q2
  have b := hb s3 (Value.ref C :: us) I3.kIn hl
  rw [List.append_nil] at b
  have z := wpAny_call (PySem.W.method_call (pin_at I3) (run_fnRS (vs := .ref C :: vs) F hr (hx σ) I3 b (.cons rfl rv) q2))
  exact thn z fun _ _ y => unpinE y
/-! ### by keywords alone -/
variable {gg : List Value → List Value → List Value} {gV : List V → List V → List V}
end
end OS
set_option Elab.async false
set_option linter.all false
set_option maxRecDepth 100000
set_option maxHeartbeats 4000000
/-! != of lists whose items are equal: the same object, the same flat value, the same data, lists of such -/
namespace OS
open PySem PySem.Spec PyProof.Rows L2 PySem.OSS
/-- equal, seen without looking at what is the same object -/
def EqI (K : PySem.W.Frag) (H : Hp) (x y : V) : Prop := (x = y ∧ flatV x = true) ∨ (∃ a, x = .ref a ∧ y = .ref a) ∨ ∃ d, Dp K H x d ∧ Dp K H y d ∧ d.depth ≤ 20
theorem flat_self {x : V} (h : flatV x = true) : eqV x x = true := by
  cases x with
  | non => rfl
  | bl b => cases b <;> rfl
  | int i => simp [eqV]
  | str z => simp [eqV]
  | _ => cases h
section
variable {X : Cx} {pins : List (Addr × Obj)} {σ : L2.St} {H : Hp} {s : Shared}
theorem eqI_at (I : Inv X pins σ H s) {A : Around} (hu : A.units + 21 < cLine) {x y : V} {u v : Value} (h : EqI X.K H x y) (rx : RelV x u) (ry : RelV y v) : SeqAt.EqAt A s u v true := by
  rcases h with ⟨rfl, f⟩ | ⟨a, rfl, rfl⟩ | ⟨d, h1, h2, hd⟩
  · have := eqAt_V (A := A) (s := s) rx ry f f
    rwa [flat_self f] at this
  · cases (show u = Value.ref a from rx)
    cases (show v = Value.ref a from ry)
    exact SeqAt.EqAt.same _
  · obtain ⟨as, r1⟩ := Dp.reads I d x u h1 rx
    obtain ⟨bs, r2⟩ := Dp.reads I d y v h2 ry
    have := SeqAt.eqAt_plain d d A s u v as bs r1 r2 (dp_plain d _ h1) (dp_plain d _ h2) (by omega)
    rwa [SeqAt.eqv_refl_plain d (dp_plain d _ h1)] at this
end
theorem takesNo {X : Cx} : Takes X (fun _ _ _ _ => False) := fun _ _ x => by
  obtain ⟨_, _, _, _, _, _, _, _, _, _, _, _, _, _, _, _, z⟩ := x
  exact z.elim
theorem pass0x {X : Cx} : Passes (L2.CX X.prog X.w) X E0 := fun _ _ _ _ _ _ _ h => by
  obtain ⟨_, _, _, _, _, _, _, _, _, _, _, _, z⟩ := h
  exact z.elim
end OS
set_option Elab.async false
set_option linter.all false
set_option maxRecDepth 100000
set_option maxHeartbeats 4000000
/-! any values that stand beside the state of the draws; comprehensions whose test draws -/
namespace OS
open PySem PySem.Spec PyProof.Rows L2
/-- an address that is none of what stands beside the state -/
def Frn (p : Addr) (H : Hp) (q : Addr) : Prop := ∀ D o, Sep H p D o → q ≠ D
theorem Frn.none {p q : Addr} {H : Hp} (h : H q = none) : Frn p H q := fun D o s z => by
  have := s.at_
  rw [← z, h] at this
  cases this
theorem Frn.nx {p q : Addr} {H H1 : Hp} (x : Nx p H H1) (h : Frn p H1 q) : Frn p H q := fun D o s => h D o (x _ _ s)
/-- a tuple beside the state -/
def TupN (K : PySem.W.Frag) (p : Addr) (H : Hp) (a : Addr) (xs : List V) : Prop := (Sep H p a (.tup xs) ∨ ∃ o, Sep H p a (.frz o (.tup xs))) ∨ ∀ H', SqT K H' a xs
theorem TupN.of {K : PySem.W.Frag} {H : Hp} {p a : Addr} {n : Nat} {xs : List V} (S : StAt H p n) (h : SqT K H a xs) : TupN K p H a xs := by
  rcases h with (h | ⟨o, h⟩) | h
  · exact .inl (.inl (S.sep h fun _ z => nomatch z))
  · exact .inl (.inr ⟨o, S.sep h fun _ z => nomatch z⟩)
  · exact .inr fun H' => .inr h
theorem TupN.sq {K : PySem.W.Frag} {H : Hp} {p a : Addr} {xs : List V} (h : TupN K p H a xs) : SqT K H a xs := by
  rcases h with (h | ⟨o, h⟩) | h
  · exact .inl (.inl h.at_)
  · exact .inl (.inr ⟨o, h.at_⟩)
  · exact h H
theorem TupN.kept {K : PySem.W.Frag} {H H' : Hp} {p D a : Addr} {xs acc : List V} (sD : Sep H p D (.lst acc)) (k : ∀ q o, Sep H p q o → q ≠ D → Sep H' p q o) (h : TupN K p H a xs) : TupN K p H' a xs := by
  rcases h with (h | ⟨o, h⟩) | h
  · exact .inl (.inl (k _ _ h (ne_of h.at_ sD.at_ fun z => by cases z)))
  · exact .inl (.inr ⟨o, k _ _ h (ne_of h.at_ sD.at_ fun z => by cases z)⟩)
  · exact .inr h
theorem TupN.nx {K : PySem.W.Frag} {H H' : Hp} {p a : Addr} {xs : List V} (x : Nx p H H') (h : TupN K p H a xs) : TupN K p H' a xs := by
  rcases h with (h | ⟨o, h⟩) | h
  · exact .inl (.inl (x _ _ h))
  · exact .inl (.inr ⟨o, x _ _ h⟩)
  · exact .inr h
/-- an item beside the state; its lists and dicts are at addresses in B -/
inductive ItmX (K : PySem.W.Frag) (p : Addr) (H : Hp) (B : Addr → Prop) : V → Prop
  | flat {v : V} : flatV v = true → ItmX K p H B v
  | lst {a : Addr} {zs : List V} : Sep H p a (.lst zs) → B a → ItmX K p H B (.ref a)
  | dct {a : Addr} {kvs : List (Key × V)} : Sep H p a (.dK kvs) → B a → ItmX K p H B (.ref a)
  | tup {a : Addr} {zs : List V} : TupN K p H a zs → ItmX K p H B (.ref a)
/-- a value beside the state; if it is a tuple, its items -/
inductive ThgX (K : PySem.W.Frag) (p : Addr) (H : Hp) (B : Addr → Prop) : V → Option (List V) → Prop
  | flat {v : V} : flatV v = true → ThgX K p H B v none
  | lst {a : Addr} {zs : List V} : Sep H p a (.lst zs) → B a → ThgX K p H B (.ref a) none
  | dct {a : Addr} {kvs : List (Key × V)} : Sep H p a (.dK kvs) → B a → ThgX K p H B (.ref a) none
  | tup {a : Addr} {xs : List V} : TupN K p H a xs → (∀ v ∈ xs, ItmX K p H B v) → ThgX K p H B (.ref a) (some xs)
section
variable {K : PySem.W.Frag} {H H' : Hp} {p : Addr} {B B' : Addr → Prop} {v : V} {o : Option (List V)}
theorem ItmX.nx (x : Nx p H H') (h : ItmX K p H B v) : ItmX K p H' B v := by
  cases h with
  | flat f => exact .flat f
  | lst s b => exact .lst (x _ _ s) b
  | dct s b => exact .dct (x _ _ s) b
  | tup s => exact .tup (s.nx x)
theorem ThgX.nx (x : Nx p H H') (h : ThgX K p H B v o) : ThgX K p H' B v o := by
  cases h with
  | flat f => exact .flat f
  | lst s b => exact .lst (x _ _ s) b
  | dct s b => exact .dct (x _ _ s) b
  | tup s hi => exact .tup (s.nx x) fun w hw => (hi w hw).nx x
theorem ItmX.mono (b : ∀ a, B a → B' a) (h : ItmX K p H B v) : ItmX K p H B' v := by
  cases h with
  | flat f => exact .flat f
  | lst s c => exact .lst s (b _ c)
  | dct s c => exact .dct s (b _ c)
  | tup s => exact .tup s
theorem ThgX.mono (b : ∀ a, B a → B' a) (h : ThgX K p H B v o) : ThgX K p H B' v o := by
  cases h with
  | flat f => exact .flat f
  | lst s c => exact .lst s (b _ c)
  | dct s c => exact .dct s (b _ c)
  | tup s hi => exact .tup s fun w hw => (hi w hw).mono b
theorem ItmX.itm (h : ItmX K p H B v) : Itm K H v := by
  cases h with
  | flat f => exact .flat f
  | lst s b => exact .lst s.sq
  | dct s b => exact .dct s.at_
  | tup s => exact .tup s.sq
theorem ThgX.thing (h : ThgX K p H B v o) : Thing K H v o := by
  cases h with
  | flat f => exact .flat f
  | lst s b => exact .lst s.sq
  | dct s b => exact .dct s.at_
  | tup s hi => exact .tup s.sq fun w hw => (hi w hw).itm
/-- where all but the list at P is kept -/
theorem ItmX.but {P : Addr} {u : HO} (h : ItmX K p H (fun a => a ≠ P) v) {acc : List V} (sP : Sep H p P (.lst acc)) : ItmX K p (upd H P u) (fun a => a ≠ P) v := by
  have k : ∀ q o, Sep H p q o → q ≠ P → Sep (upd H P u) p q o := fun q o h n => h.put_ne sP n
  cases h with
  | flat f => exact .flat f
  | lst s b => exact .lst (k _ _ s b) b
  | dct s b => exact .dct (k _ _ s b) b
  | tup s => exact .tup (s.kept sP k)
theorem ThgX.but {P : Addr} {u : HO} (h : ThgX K p H (fun a => a ≠ P) v o) {acc : List V} (sP : Sep H p P (.lst acc)) : ThgX K p (upd H P u) (fun a => a ≠ P) v o := by
  have k : ∀ q o, Sep H p q o → q ≠ P → Sep (upd H P u) p q o := fun q o h n => h.put_ne sP n
  cases h with
  | flat f => exact .flat f
  | lst s b => exact .lst (k _ _ s b) b
  | dct s b => exact .dct (k _ _ s b) b
  | tup s hi => exact .tup (s.kept sP k) fun w hw => (hi w hw).but sP
end
end OS
set_option Elab.async false
set_option linter.all false
set_option maxRecDepth 100000
set_option maxHeartbeats 4000000
/-! the state of the takes: a list of a list of ints, a place, a count -/
namespace OS
open PySem PySem.Spec PyProof.Rows L2
structure StT (H : Hp) (p c : Addr) (zs : List Int) (k n : Nat) : Prop where
  hp : H p = some (.lst [.ref c, .int (k : Int), .int (n : Int)])
  hc : H c = some (.lst (zs.map V.int))
  kn : k ≤ n
  lz : zs.length ≤ 100
def StU (H : Hp) (p : Addr) (n : Nat) : Prop := ∃ c zs k, StT H p c zs k n
theorem StT.pc {H : Hp} {p c : Addr} {zs : List Int} {k n : Nat} (S : StT H p c zs k n) : p ≠ c := by
  refine ne_of S.hp S.hc fun z => ?_
  injection z with z
  cases zs <;> simp at z
theorem own_iffT {H : Hp} {p c : Addr} {k n : Int} (h : H p = some (.lst [.ref c, .int k, .int n])) (q : Addr) : Own H p q ↔ q = p ∨ q = c := by
  unfold Own
  rw [h]
  constructor
  · rintro (h | ⟨xs, e, m⟩)
    · exact .inl h
    · cases e
      simp at m
      exact .inr m
  · rintro (h | h)
    · exact .inl h
    · refine .inr ⟨_, rfl, ?_⟩
      simpa using h
theorem StT.mk' {H : Hp} {p c : Addr} {zs : List Int} {k n : Nat} (S : StT H p c zs k n) : StU H p n := ⟨c, zs, k, S⟩
theorem StT.same {H H' : Hp} {p c : Addr} {zs : List Int} {k n : Nat} (S : StT H p c zs k n) (s : Same H H') : StT H' p c zs k n := ⟨s _ _ S.hp, s _ _ S.hc, S.kn, S.lz⟩
theorem StU.same {H H' : Hp} {p : Addr} {n : Nat} (S : StU H p n) (s : Same H H') : StU H' p n := by
  obtain ⟨c, zs, k, S⟩ := S
  exact ⟨c, zs, k, S.same s⟩
theorem StU.nx {H H' : Hp} {p : Addr} {n : Nat} (S : StU H p n) (s : Same H H') : Nx p H H' := by
  obtain ⟨c, zs, k, S⟩ := S
  intro q o h
  refine ⟨s _ _ h.at_, fun z => h.no ?_⟩
  rw [own_iffT S.hp]
  exact (own_iffT (s _ _ S.hp) q).mp z
theorem StT.nx {H H' : Hp} {p c : Addr} {zs : List Int} {k n : Nat} (S : StT H p c zs k n) (s : Same H H') : Nx p H H' := S.mk'.nx s
theorem StU.free {H : Hp} {p q : Addr} {n : Nat} (S : StU H p n) (h : H q = none) : ¬ Own H p q := by
  obtain ⟨c, zs, k, S⟩ := S
  rw [own_iffT S.hp]
  rintro (z | z)
  · exact ne_of_none S.hp h z.symm
  · exact ne_of_none S.hc h z.symm
/-- a new object -/
theorem StU.new {H : Hp} {p q : Addr} {n : Nat} {o : HO} (S : StU H p n) (h : H q = none) : Sep (upd H q o) p q o := by
  refine ⟨upd_same, fun z => S.free h ?_⟩
  obtain ⟨c, zs, k, S⟩ := S
  rw [own_iffT S.hp]
  exact (own_iffT (same_new h _ _ S.hp) q).mp z
/-- an object of one's own is written -/
theorem StU.put {H : Hp} {p q : Addr} {n : Nat} {o u : HO} (S : StU H p n) (h : Sep H p q o) : StU (upd H q u) p n := by
  obtain ⟨c, zs, k, S⟩ := S
  have no := h.no
  rw [own_iffT S.hp] at no
  refine ⟨c, zs, k, ?_, ?_, S.kn, S.lz⟩
  · rw [upd_ne (fun z => no (.inl z.symm))]; exact S.hp
  · rw [upd_ne (fun z => no (.inr z.symm))]; exact S.hc
theorem Sep.of_newU {H H' : Hp} {p q : Addr} {n : Nat} {o : HO} (S : StU H p n) (s : Same H H') (hq : H q = none) (h : H' q = some o) : Sep H' p q o := by
  obtain ⟨c, zs, k, S⟩ := S
  refine ⟨h, fun z => ?_⟩
  rw [own_iffT (s _ _ S.hp)] at z
  rcases z with z | z
  · exact ne_of_none S.hp hq z.symm
  · exact ne_of_none S.hc hq z.symm
theorem StU.sep {H : Hp} {p q : Addr} {n : Nat} {o : HO} (S : StU H p n) (h : H q = some o) (nl : ∀ xs, o ≠ .lst xs) : Sep H p q o := by
  obtain ⟨c, zs, k, S⟩ := S
  refine ⟨h, fun z => ?_⟩
  rw [own_iffT S.hp] at z
  rcases z with z | z
  · subst z
    exact nl _ (Option.some.inj (h.symm.trans S.hp))
  · subst z
    exact nl _ (Option.some.inj (h.symm.trans S.hc))
/-- all but p and c stays -/
theorem StT.nx_put {H H' : Hp} {p c : Addr} {zs : List Int} {k n : Nat} (S : StT H p c zs k n) {i j : Int} (s : ∀ q o, H q = some o → q ≠ p → q ≠ c → H' q = some o) (hp : H' p = some (.lst [.ref c, .int i, .int j])) : Nx p H H' := by
  intro q o h
  have no := h.no
  rw [own_iffT S.hp] at no
  refine ⟨s _ _ h.at_ (fun z => no (.inl z)) (fun z => no (.inr z)), ?_⟩
  rw [own_iffT hp]
  exact no
theorem StT.put_p {H : Hp} {p c : Addr} {zs : List Int} {k n k' n' : Nat} (S : StT H p c zs k n) (h : k' ≤ n') : StT (upd H p (.lst [.ref c, .int (k' : Int), .int (n' : Int)])) p c zs k' n' ∧ Nx p H (upd H p (.lst [.ref c, .int (k' : Int), .int (n' : Int)])) :=
  ⟨⟨upd_same, by rw [upd_ne S.pc.symm]; exact S.hc, h, S.lz⟩, S.nx_put (fun q o e z _ => by rw [upd_ne z]; exact e) upd_same⟩
theorem StT.put_c {H : Hp} {p c : Addr} {zs zs' : List Int} {k n : Nat} (S : StT H p c zs k n) (h : zs'.length ≤ 100) : StT (upd H c (.lst (zs'.map V.int))) p c zs' k n ∧ Nx p H (upd H c (.lst (zs'.map V.int))) :=
  ⟨⟨by rw [upd_ne S.pc]; exact S.hp, upd_same, S.kn, h⟩, S.nx_put (fun q o e _ z => by rw [upd_ne z]; exact e) (by rw [upd_ne S.pc]; exact S.hp)⟩
theorem tupT_nxU {K : PySem.W.Frag} {H H' : Hp} {p a : Addr} {n : Nat} {xs : List V} (S : StU H p n) (x : Nx p H H') (h : SqT K H a xs) : SqT K H' a xs := by
  rcases h with (h | ⟨o, h⟩) | h
  · exact .inl (.inl (x _ _ (S.sep h fun _ z => nomatch z)).at_)
  · exact .inl (.inr ⟨o, (x _ _ (S.sep h fun _ z => nomatch z)).at_⟩)
  · exact .inr h
def spTake : Sp := fun vs H Q _ => ∃ (p : Addr) (n : Nat) (size : Int), vs = [.ref p, .int size] ∧ StU H p n ∧ DrawOk n size ∧
  ∀ (r : Int) (H' : Hp), 0 ≤ r → r < size → StU H' p (n + 1) → Nx p H H' → Q (.int r) H'
def spStartU (K : PySem.W.Frag) : Sp := fun vs H Q _ => ∃ (a : Addr) (ns : List Int), vs = [.ref a] ∧ SqL K H a (ns.map V.int) ∧ ns.length ≤ 63 ∧ ∀ (p : Addr) (H' : Hp), Same H H' → H p = none → StU H' p 0 → Q (.ref p) H'
end OS
set_option Elab.async false
set_option linter.all false
set_option maxRecDepth 100000
set_option maxHeartbeats 4000000
/-! == of two instances by their own __eq__, both answers -/
namespace OS
open PySem PySem.Spec PyProof.Rows L2
end OS
set_option Elab.async false
set_option linter.all false
set_option maxRecDepth 100000
set_option maxHeartbeats 4000000
/-! an instance with an own __eq__ in a list of values of builtin types: each declines, the own one is asked -/
namespace OS
open PySem PySem.Spec PyProof.Rows L2
/-- values whose own == declines -/
inductive DecV (K : PySem.W.Frag) (H : Hp) : V → Prop
  | non : DecV K H .non
  | int (i : Int) : DecV K H (.int i)
  | str (z : Str) : DecV K H (.str z)
  | tup {a : Addr} {xs : List V} : SqT K H a xs → DecV K H (.ref a)
  | lst {a : Addr} {xs : List V} : SqL K H a xs → DecV K H (.ref a)
  | dct {a : Addr} {kvs : List (Key × V)} : H a = some (.dK kvs) → DecV K H (.ref a)
theorem DecV.same {K : PySem.W.Frag} {H H' : Hp} {v : V} (h : DecV K H v) (s : Same H H') : DecV K H' v := by
  cases h with
  | non => exact .non
  | int i => exact .int i
  | str z => exact .str z
  | tup h => exact .tup (s.tupT h)
  | lst h => exact .lst (s.seq h)
  | dct h => exact .dct (s _ _ h)
end OS
set_option Elab.async false
set_option linter.all false
set_option maxRecDepth 100000
set_option maxHeartbeats 4000000
/-! str(x) by an own __str__ -/
namespace OS
open PySem PySem.Spec PyProof.Rows L2
end OS
set_option Elab.async false
set_option linter.all false
set_option maxRecDepth 100000
set_option maxHeartbeats 4000000
/-! != of two instances by their own __eq__; own | and &; methods without arguments and by keywords within a try; two for clauses; unpacking of a list -/
namespace PySem.OSNeO
open PySem PySem.Spec PySem.Calls PyProof.Rows PySem.W
end PySem.OSNeO
namespace OS
open PySem PySem.Spec PyProof.Rows L2 ClX
/-! ### own | and & -/
/-! ### two for clauses: for a in xs for b in ys -/
section
variable {J : It} {n : Nat} {G : Hp → Prop} {Y : Nat → Hp → V → Hp → Prop}
theorem in_it (w : Walk J n G Y) {g : TG} {tt : TT} {te : TE} {vs : List Nat} {σ : L2.St} {H1 : Hp} {D : Addr} {Qd : Hp → Prop} (Pv : Nat → Hp → Prop) (h0 : Pv 0 H1) (hG : ∀ i H, i ≤ n → Pv i H → G H)
    (hs : ∀ i x H H', i < n → Pv i H → Y i H x H' → g x (wipe σ vs) H' fun σ2 H2 => wipe σ2 vs = wipe σ vs ∧ tt σ2 H2 fun b H3 =>
      if b = true then te σ2 H3 fun y H4 => ∃ acc, H4 D = some (.lst acc) ∧ acc.length < sizeLine ∧ Pv (i + 1) (upd H4 D (.lst (acc ++ [y]))) else Pv (i + 1) H3) (hd : ∀ H, Pv n H → Qd H) :
    ∃ W : Nat → Nat → Hp → Prop, (∃ m, W 0 m H1) ∧ ∀ i m H, W i m H →
      (J.stop i H ∧ Qd H) ∨ (J.go i H ∧ ∃ Nx : Hp → Prop, (∀ H', Nx H' → ∃ m', m' < m ∧ W (i + 1) m' H') ∧ ∀ x H', J.yld i H x H' → g x (wipe σ vs) H' fun σ2 H2 => wipe σ2 vs = wipe σ vs ∧ tt σ2 H2 fun b H3 =>
        if b = true then te σ2 H3 fun y H4 => ∃ acc, H4 D = some (.lst acc) ∧ acc.length < sizeLine ∧ Nx (upd H4 D (.lst (acc ++ [y]))) else Nx H3) := by
  refine ⟨fun i m H => m = n - i ∧ i ≤ n ∧ Pv i H, ⟨n, by simp, Nat.zero_le _, h0⟩, ?_⟩
  rintro i m H ⟨rfl, hi, p⟩
  have q := hG i H hi p
  by_cases hlt : i < n
  · refine .inr ⟨w.goes i H hlt q, Pv (i + 1), fun H' p' => ⟨n - (i + 1), by omega, rfl, hlt, p'⟩, fun x H' y => hs i x H H' hlt p (w.yields i H x H' hlt q y)⟩
  · have e : i = n := by omega
    subst e
    exact .inl ⟨w.stops H q, hd H p⟩
theorem lc2_it (w : Walk J n G Y) {g : TG} {tt : TT} {tb : L2.St → Hp → (Hp → Prop) → Prop} {vs : List Nat} {σ : L2.St} {H1 : Hp} {D : Addr} {Qd : Hp → Prop} (Pv : Nat → Hp → Prop) (h0 : Pv 0 (upd H1 D (.lst []))) (hG : ∀ i H, i ≤ n → Pv i H → G H)
    (hs : ∀ i x H H', i < n → Pv i H → Y i H x H' → g x (wipe σ vs) H' fun σ2 H2 => wipe σ2 vs = wipe σ vs ∧ tt σ2 H2 fun b H3 =>
      if b = true then tb σ2 H3 (Pv (i + 1)) else Pv (i + 1) H3) (hd : ∀ H, Pv n H → Qd H) :
    ∃ W : Nat → Nat → Hp → Prop, (∃ m, W 0 m (upd H1 D (.lst []))) ∧ ∀ i m H, W i m H →
      (J.stop i H ∧ Qd H) ∨ (J.go i H ∧ ∃ Nx : Hp → Prop, (∀ H', Nx H' → ∃ m', m' < m ∧ W (i + 1) m' H') ∧ ∀ x H', J.yld i H x H' → g x (wipe σ vs) H' fun σ2 H2 => wipe σ2 vs = wipe σ vs ∧ tt σ2 H2 fun b H3 =>
        if b = true then tb σ2 H3 Nx else Nx H3) := by
  refine ⟨fun i m H => m = n - i ∧ i ≤ n ∧ Pv i H, ⟨n, by simp, Nat.zero_le _, h0⟩, ?_⟩
  rintro i m H ⟨rfl, hi, p⟩
  have q := hG i H hi p
  by_cases hlt : i < n
  · refine .inr ⟨w.goes i H hlt q, Pv (i + 1), fun H' p' => ⟨n - (i + 1), by omega, rfl, hlt, p'⟩, fun x H' y => hs i x H H' hlt p (w.yields i H x H' hlt q y)⟩
  · have e : i = n := by omega
    subst e
    exact .inl ⟨w.stops H q, hd H p⟩
end
/-! ### (a, b, ..) = a list of that length -/
end OS
set_option Elab.async false
set_option linter.all false
set_option maxRecDepth 100000
set_option maxHeartbeats 4000000
namespace OS
open PySem PySem.Spec PyProof.Rows L2
/-! ### f(k = v, ..) in a try -/
def tCallKS (sp : Sp) (gV : List V → List V → List V) (E : L2.St → XK) (tk : TA) : TE := fun σ H Q => tk σ H fun zs H1 => sp (gV [] zs) H1 Q (E σ)
section
variable {X : Cx} {CX : CXT} {k : Nat} {f : Addr} {fd : FuncData} {ps ks : List Str} {sp : Sp} {E : L2.St → XK} {x : Str} {p pos : Pos} {kws : List Keyword} {tk : TA} {g : List Value → List Value → List Value} {gV : List V → List V → List V}
theorem pe_callKS0 (F : FnOk X.prog X.w X.K X.mg X.base CX k f fd ps sp) (hr : Room k X.A) (hg : Gl X x) (hm : X.mg x = some (.ref f)) (hk : PySem.W.keepIn X.K (.ref f) = true) (hb : KBinds X.K fd ps ks g gV) (hx : ∀ σ, PassesAt CX X σ (E σ))
    (hkw : PK X kws tk) (hall : (backToKw pos (keywordEach kws X.env)).all (·.1.isSome) = true := by rfl) (hks : (backToKw pos (keywordEach kws X.env)).filterMap (·.1) = ks := by rfl)
    (hdb : (x == ("__debug__" : Str)) = false := by decide)
    (hpl : ((backTo pos (starEach [] X.env)).any (·.1) || (backToKw pos (keywordEach kws X.env)).any (·.1.isNone)) = false := by rfl) :
    PE X (.Call (.Name x p) [] kws pos) (tCallKS sp gV E tk) := by
  refine ⟨fun pins s σ H Q I h => ?_⟩
  refine wpAny_Call_Name_kw (ld_glob I hg hm ?_ hdb)
  refine PySem.W.callWith_KW0 (h₀ := X.base) I.ok.mod.kin hk hall ?_ hpl
  refine thn (hkw.run pos pins s σ H _ I h) fun ws s2 ⟨zs, H2, I2, rz, q2⟩ => ⟨I2.kIn, ?_⟩
  rw [hks]
  have r2 := hb.rel (vs := []) (us := []) .nil rz
  have hl : (g [] ws).length = ps.length := by rw [← r2.length]; exact F.len _ _ _ _ q2
  refine wpAny_call (codeAny_mono (F.run X.A X.stack s2 H2 ⟨[], ks.zip ws⟩ (g [] ws) (gV [] zs) Q (E σ) hr I2.env0 (hb.to s2 [] ws I2.kIn hl) r2 q2) fun r s' hq => ?_)
  cases r with
  | error e => exact hx σ pins H2 s2 e s' I2 hq
  | ok fl =>
    cases fl with
    | ret u => exact I2.after hq
    | next => exact False.elim hq
    | brk => exact False.elim hq
    | cont => exact False.elim hq
end
end OS
set_option Elab.async false
set_option linter.all false
set_option maxRecDepth 100000
set_option maxHeartbeats 4000000
/-! rules for the laws of the takes -/
namespace OS
open PySem PySem.Spec PyProof.Rows L2
/-- tuple(xs) of a list -/
def rTupL (K : PySem.W.Frag) : List V → Hp → VK → Prop := fun xs H Q => ∃ p ys, xs = [V.ref p] ∧ SqL K H p ys ∧ NewO H (.tup ys) Q
theorem call_tupL {X : Cx} : CallR X (.type "tuple") (rTupL X.K) := call_tuple_ofL
/-- [..] * n -/
def rRepO : R2 := fun x y H Q => ∃ l k xs, x = .ref l ∧ y = .int k ∧ H l = some (.lst xs) ∧ -(2 ^ 63) ≤ k ∧ k < 2 ^ 63 ∧ xs.length * k.toNat ≤ sizeLine ∧ NewO H (.lst (List.replicate k.toNat xs).flatten) Q
theorem op_mulL {X : Cx} : OpR X (binaryOp .Mult) rRepO := opImp op_rep fun _ _ _ _ ⟨l, k, xs, h1, h2, h3, h4, h5, h6, q⟩ => ⟨l, k, xs, h1, h2, h3, h4, h5, h6, q.to⟩
/-- sorted(d), keys that are texts -/
def rSortD : List V → Hp → VK → Prop := fun xs H Q => ∃ (a : Addr) (kvs : List (Key × V)) (ks : List Str), xs = [.ref a] ∧ Rd H a (.dK kvs) ∧ kvs.map (·.1) = ks.map Sum.inr ∧ ks.length < 64 ∧
  ∀ ys, ys.Perm ks → sortedS ys = true → NewO H (.lst (ys.map V.str)) Q
theorem cr_sortD {X : Cx} (hc : X.calm = true) : CallR X (.builtin "sorted") rSortD := callImp (call_sortedD hc) fun _ _ _ ⟨a, kvs, ks, h1, h2, h3, h4, q⟩ => ⟨a, kvs, ks, h1, h2, h3, h4, fun ys p h5 h6 => (q ys h5 h6).to p⟩
/-- len(xs), a list or a tuple -/
def rLenS (K : PySem.W.Frag) : List V → Hp → VK → Prop := fun xs H Q => ∃ p ys, xs = [V.ref p] ∧ (SqL K H p ys ∨ SqT K H p ys) ∧ Q (.int ys.length) H
theorem call_lenS {X : Cx} : CallR X (.builtin "len") (rLenS X.K) := call_len_seq
/-- list(xs) of a list or a tuple -/
def rListS (K : PySem.W.Frag) : List V → Hp → VK → Prop := fun xs H Q => ∃ p ys, xs = [V.ref p] ∧ (SqL K H p ys ∨ SqT K H p ys) ∧ NewO H (.lst ys) Q
theorem call_listS {X : Cx} : CallR X (.type "list") (rListS X.K) := call_list_ofO
/-- a pair (length, group) -/
def PairV (K : PySem.W.Frag) (H : Hp) (x : V) (g : List Str) : Prop := ∃ t b, x = .ref t ∧ SqT K H t [.int (g.length : Int), .ref b] ∧ SqT K H b (g.map V.str)
theorem PairV.same {K : PySem.W.Frag} {H H' : Hp} {x : V} {g : List Str} (h : PairV K H x g) (s : Same H H') : PairV K H' x g := by
  obtain ⟨t, b, h1, h2, h3⟩ := h
  exact ⟨t, b, h1, s.tupT h2, s.tupT h3⟩
theorem PairV.but {K : PySem.W.Frag} {H H' : Hp} {D : Addr} {acc : List V} {x : V} {g : List Str} (hD : H D = some (.lst acc)) (k : ∀ b o, H b = some o → b ≠ D → H' b = some o) (h : PairV K H x g) : PairV K H' x g := by
  obtain ⟨t, b, h1, h2, h3⟩ := h
  exact ⟨t, b, h1, tupT_but hD k h2, tupT_but hD k h3⟩
theorem PairV.dp {K : PySem.W.Frag} {H : Hp} {x : V} {g : List Str} (h : PairV K H x g) : Dp K H x (encP g) := by
  obtain ⟨t, b, rfl, h2, h3⟩ := h
  exact .tup h2 (.cons (.int _) (.cons (.tup h3 (dp_all (fun z => .str z) g)) .nil))
/-- what sorted makes of such pairs -/
theorem pairs_sorted {K : PySem.W.Frag} {H : Hp} {D : Addr} {acc : List V} {gs : List (List Str)} {Q : VK} (hD : H D = some (.lst acc)) (pr : Paired (PairV K H) acc gs)
    (q : ∀ p H' ys, H p = none → Same H H' → H' p = some (.lst ys) → Paired (PairV K H') ys (gs.mergeSort leP) → Q (.ref p) H') : SortXAt K H Q D := by
  obtain ⟨z1, z2, z3⟩ := paired_zip pr
  have sm1 : ((acc.zip gs).mergeSort (PySem.W.dataLe false fun b => encP b.2)).map Prod.snd = gs.mergeSort leP := by
    have h := PySem.W.sort_maps (r := PySem.W.dataLe false fun b : V × List Str => encP b.2) (s := PySem.W.dataLe false encP) (Prod.snd : V × List Str → List Str) (l := acc.zip gs) (fun _ _ _ _ => rfl)
    rw [z2] at h
    exact h
  refine ⟨V × List Str, acc.zip gs, Prod.fst, fun b => encP b.2, by rw [z1]; exact SqL.of hD, fun b hb => (z3 b hb).dp, PySem.W.AllAlike.of fun b b' => alike_P _ _, .inl (PySem.W.Sortable.tuples fun b => ⟨_, _, rfl⟩), fun b _ => by rw [depth_P]; decide, fun q1 H4 n4 s4 hq1 => ?_⟩
  refine q q1 H4 _ n4 s4 hq1 ?_
  rw [← sm1]
  exact paired_of fun c hc => (z3 c ((List.mergeSort_perm _ _).mem_iff.mp hc)).same s4
end OS
set_option Elab.async false
set_option linter.all false
set_option maxRecDepth 100000
set_option maxHeartbeats 2000000
/-! zip of two sequences, each a list or a tuple (kk = true: a tuple) -/
namespace OS
open PySem PyProof.Rows
open PySem.Sem (wp)
def ItS (kk : Bool) (h : Heap) (it l : Addr) (i : Nat) : Prop := match kk with | true => h.IsTupleIter it l i | false => h.IsListIter it l i
def SqS (kk : Bool) (h : Heap) (l : Addr) (xs : Array Value) : Prop := match kk with | true => h.IsTuple l xs | false => h.IsList l xs
def itN (kk : Bool) : String := match kk with | true => "tuple_iterator" | false => "list_iterator"
theorem ItS.at {kk : Bool} {h h' : Heap} {it l : Addr} {i : Nat} (x : ItS kk h it l i) (e : ∀ o, h.get? it = some o → h'.get? it = some o) : ItS kk h' it l i := by
  cases kk with
  | true => exact Heap.IsTupleIter.at x e
  | false => exact Heap.IsListIter.at x e
theorem ItS.ext {kk : Bool} {h h' : Heap} {it b l : Addr} {i : Nat} (x : ItS kk h it l i) (e : Heap.ExtBut b h h') (n : it ≠ b) : ItS kk h' it l i := by
  cases kk with
  | true => exact Heap.IsTupleIter.extBut x e n
  | false => exact Heap.IsListIter.extBut x e n
theorem SqS.ext {kk : Bool} {h h' : Heap} {b l : Addr} {xs : Array Value} (x : SqS kk h l xs) (e : Heap.ExtBut b h h') (n : l ≠ b) : SqS kk h' l xs := by
  cases kk with
  | true => exact Heap.IsTuple.extBut x e n
  | false => exact Heap.IsList.extBut x e n
theorem SqS.push {kk : Bool} {h : Heap} {l : Addr} {xs : Array Value} (x : SqS kk h l xs) (o : Obj) : SqS kk (h.push o) l xs := by
  cases kk with
  | true => exact Heap.IsTuple.push x o
  | false => exact Heap.IsList.push x o
theorem ItS.obj {kk : Bool} {h : Heap} {it l : Addr} {i : Nat} (x : ItS kk h it l i) : ∃ o, h.get? it = some o ∧ o.cls = .type (itN kk) ∧ o.data = .fields #[.ref l, rawInt i] := by
  cases kk with
  | true => exact x
  | false => exact x
theorem SqS.lt {kk : Bool} {h : Heap} {l : Addr} {xs : Array Value} (x : SqS kk h l xs) : l < h.objs.size := by
  cases kk with
  | true => obtain ⟨o, e, _⟩ := x; exact Heap.lt_size e
  | false => obtain ⟨o, e, _⟩ := x; exact Heap.lt_size e
section
variable {prog : Program} {w : World} {A : Around} {E : Value → Shared → Prop} {s : Shared}
theorem next_it {kk : Bool} {it l : Addr} {i : Nat} {xs : Array Value} {x : Value} {Q : Value → Shared → Prop} (a : ItS kk s.heap it l i) (b : SqS kk s.heap l xs) (hx : xs[i]? = some x)
    (q : ∀ h', ItS kk h' it l (i + 1) → Heap.SameBut it s.heap h' → Q x { s with heap := h' }) : wpAny (model prog w) A (Builtin.SmallTypes.nextOf (.ref it)) Q E s := by
  cases kk with
  | true => exact RZ.nextOf_tuple_item a b hx q
  | false => exact wpAny_nextOf_list_item a b hx q
theorem next_no {kk : Bool} {it l : Addr} {i : Nat} {xs : Array Value} {Q : Value → Shared → Prop} (hh : A.handled = none) (a : ItS kk s.heap it l i) (b : SqS kk s.heap l xs) (hx : xs[i]? = none)
    (q : ∀ h' e, Heap.ExtBut it s.heap h' → (∃ o, h'.get? e = some o ∧ o.cls = .type "StopIteration") → E (.ref e) { s with heap := h' }) : wpAny (model prog w) A (Builtin.SmallTypes.nextOf (.ref it)) Q E s := by
  cases kk with
  | true => exact RZ.nextOf_tuple_end hh a b hx q
  | false => exact wpAny_nextOf_list_end hh a b hx q
/-- both have an item: zip tells the pair of them, in a new tuple -/
theorem zipS_item {c1 c2 : Bool} {z ti to i1 i2 l1 l2 : Addr} {m1 m2 : Nat} {xs ys : Array Value} {x y a b : Value} {Q : Value → Shared → Prop} (D : ZipApart z ti to i1 i2 l1 l2)
    (zz : IsZip s.heap z ti to .none) (pt : IsPair s.heap ti (.ref i1) (.ref i2)) (po : IsPair s.heap to a b)
    (j1 : ItS c1 s.heap i1 l1 m1) (j2 : ItS c2 s.heap i2 l2 m2) (q1 : SqS c1 s.heap l1 xs) (q2 : SqS c2 s.heap l2 ys) (gx : xs[m1]? = some x) (gy : ys[m2]? = some y)
    (q : ∀ h', IsZip h' z ti to (rawInt s.heap.objs.size) → IsPair h' to x y → ItS c1 h' i1 l1 (m1 + 1) → ItS c2 h' i2 l2 (m2 + 1) → IsPair h' s.heap.objs.size x y → h'.objs.size = s.heap.objs.size + 1 →
      (∀ c o, c ≠ z → c ≠ to → c ≠ i1 → c ≠ i2 → s.heap.get? c = some o → h'.get? c = some o) → Q (.ref s.heap.objs.size) { s with heap := h' }) :
    wpAny (model prog w) A (Builtin.«zip.__next__» ⟨[.ref z], []⟩) (fun fin s' => ∃ v, fin = .done (.ret v) ∧ Q v s') E s := by
  show wpAny _ _ (field (.ref z) 2 >>= _) _ _ _
  refine wpAny_bind (wpAny_field zz rfl (x := .bool false) rfl ?_)
  show wpAny _ _ (field (.ref z) 3 >>= _) _ _ _
  refine wpAny_bind (wpAny_field zz rfl (x := .ref ti) rfl ?_)
  refine wpAny_bind (wpAny_seqItems pt rfl ?_)
  show wpAny _ _ (Builtin.SmallTypes.ownedTupleIsFree (.ref z) >>= _) _ _ _
  refine wpAny_bind ?_
  unfold Builtin.SmallTypes.ownedTupleIsFree
  refine wpAny_bind (wpAny_field zz rfl (x := .none) rfl (wpAny_pure ?_))
  simp only [if_true]
  refine wpAny_bind (wpAny_rule ?_)
  refine wpAny_bind (wpAny_field zz rfl (x := .ref to) rfl ?_)
  refine wpAny_bind (wpAny_setField_rec zz (by simp) fun g1 (z1 : IsZip g1 z ti to .ellipsis) u1 => ?_)
  refine wpAny_bind ?_
  simp only [List.zipIdx_cons, List.zipIdx_nil, List.forIn_cons, List.forIn_nil]
  refine wpAny_bind (wpAny_bind (wpAny_onRaise ?_))
  show wpAny _ _ (Builtin.SmallTypes.nextOf (.ref i1) >>= _) _ _ _
  refine wpAny_bind (next_it (j1.ext u1.extBut D.i1z) (q1.ext u1.extBut D.l1z) gx fun g2 j12 u2 => wpAny_pure ?_)
  have p2 : IsPair g2 to a b := u2.extBut _ _ D.TOi1 (u1.extBut _ _ D.TOz po)
  refine wpAny_bind (wpAny_seqItems p2 rfl ?_)
  refine wpAny_bind (wpAny_updateSeq_pair p2 fun g3 (p3 : IsPair g3 to x b) u3 => ?_)
  refine wpAny_bind (wpAny_letGo (wpAny_pure ?_))
  refine wpAny_bind (wpAny_bind (wpAny_onRaise ?_))
  show wpAny _ _ (Builtin.SmallTypes.nextOf (.ref i2) >>= _) _ _ _
  have j23 := ((j2.ext u1.extBut D.i2z).ext u2.extBut D.i12.symm).ext u3.extBut D.TOi2.symm
  have q23 := ((q2.ext u1.extBut D.l2z).ext u2.extBut D.l2i1).ext u3.extBut D.l2TO
  refine wpAny_bind (next_it j23 q23 gy fun g4 j24 u4 => wpAny_pure ?_)
  have p4 : IsPair g4 to x b := u4.extBut _ _ D.TOi2 p3
  refine wpAny_bind (wpAny_seqItems p4 rfl ?_)
  refine wpAny_bind (wpAny_updateSeq_pair p4 fun g5 (p5 : IsPair g5 to x y) u5 => ?_)
  refine wpAny_bind (wpAny_letGo (wpAny_pure (wpAny_pure ?_)))
  refine wpAny_bind (wpAny_seqItems p5 rfl ?_)
  refine wpAny_bind (wpAny_newTuple ?_)
  have size5 : g5.objs.size = s.heap.objs.size := by rw [u5.1, u4.1, u3.1, u2.1, u1.1]
  have z5 : IsZip g5 z ti to .ellipsis := u5.extBut _ _ D.TOz.symm (u4.extBut _ _ D.i2z.symm (u3.extBut _ _ D.TOz.symm (u2.extBut _ _ D.i1z.symm z1)))
  have stay5 : ∀ c o, c ≠ z → c ≠ to → c ≠ i1 → c ≠ i2 → s.heap.get? c = some o → g5.get? c = some o := fun c o n1 n2 n3 n4 e =>
    u5.extBut _ _ n2 (u4.extBut _ _ n4 (u3.extBut _ _ n2 (u2.extBut _ _ n3 (u1.extBut _ _ n1 e))))
  have j15 := ((j12.ext u3.extBut D.TOi1.symm).ext u4.extBut D.i12).ext u5.extBut D.TOi1.symm
  have j25 := j24.ext u5.extBut D.TOi2.symm
  have zlt : z < g5.objs.size := Heap.lt_size z5
  show wpAny _ _ (Builtin.SmallTypes.ownedTupleHandOut (.ref z) (.ref g5.objs.size) >>= _) _ _ _
  refine wpAny_bind ?_
  unfold Builtin.SmallTypes.ownedTupleHandOut
  have z6 : IsZip (g5.push { cls := .type "tuple", data := .seq #[x, y] }) z ti to .ellipsis := Heap.get?_push_of_some _ z5
  refine wpAny_bind (wpAny_setField_rec z6 (by simp) fun g7 (z7 : IsZip g7 z ti to (rawInt g5.objs.size)) u7 => ?_)
  refine wpAny_setField_rec z7 (by simp) fun g8 (z8 : IsZip g8 z ti to (rawInt g5.objs.size)) u8 => ?_
  have past : ∀ c o, c ≠ z → g5.get? c = some o → g8.get? c = some o := fun c o n1 e => u8.extBut _ _ n1 (u7.extBut _ _ n1 (Heap.get?_push_of_some _ e))
  have new8 : IsPair g8 g5.objs.size x y := u8.extBut _ _ (Nat.ne_of_gt zlt) (u7.extBut _ _ (Nat.ne_of_gt zlt) (Heap.get?_push_size _ rfl))
  have size8 : g8.objs.size = g5.objs.size + 1 := by rw [u8.1, u7.1, Heap.size_push]
  rw [size5] at z8 new8 size8
  refine wpAny_pure ⟨_, rfl, ?_⟩
  show Q (.ref g5.objs.size) _
  rw [size5]
  exact q g8 z8 (past _ _ D.TOz p5) (j15.at fun o e => past _ o D.i1z e) (j25.at fun o e => past _ o D.i2z e) new8 size8 fun c o n1 n2 n3 n4 e => past c o n1 (stay5 c o n1 n2 n3 n4 e)
/-- one of them has none: zip ends -/
theorem zipS_end {c1 c2 : Bool} {z ti to i1 i2 l1 l2 : Addr} {m1 m2 : Nat} {xs ys : Array Value} {a b : Value} {Q : Fin → Shared → Prop} (hh : A.handled = none) (D : ZipApart z ti to i1 i2 l1 l2)
    (zz : IsZip s.heap z ti to .none) (pt : IsPair s.heap ti (.ref i1) (.ref i2)) (po : IsPair s.heap to a b)
    (j1 : ItS c1 s.heap i1 l1 m1) (j2 : ItS c2 s.heap i2 l2 m2) (q1 : SqS c1 s.heap l1 xs) (q2 : SqS c2 s.heap l2 ys) (no : xs[m1]? = none ∨ ys[m2]? = none)
    (q : ∀ h' e, (∀ c o, c ≠ z → c ≠ to → c ≠ i1 → c ≠ i2 → s.heap.get? c = some o → h'.get? c = some o) → (∃ o, h'.get? e = some o ∧ o.cls = .type "StopIteration") → E (.ref e) { s with heap := h' }) :
    wpAny (model prog w) A (Builtin.«zip.__next__» ⟨[.ref z], []⟩) Q E s := by
  show wpAny _ _ (field (.ref z) 2 >>= _) _ _ _
  refine wpAny_bind (wpAny_field zz rfl (x := .bool false) rfl ?_)
  show wpAny _ _ (field (.ref z) 3 >>= _) _ _ _
  refine wpAny_bind (wpAny_field zz rfl (x := .ref ti) rfl ?_)
  refine wpAny_bind (wpAny_seqItems pt rfl ?_)
  show wpAny _ _ (Builtin.SmallTypes.ownedTupleIsFree (.ref z) >>= _) _ _ _
  refine wpAny_bind ?_
  unfold Builtin.SmallTypes.ownedTupleIsFree
  refine wpAny_bind (wpAny_field zz rfl (x := .none) rfl (wpAny_pure ?_))
  simp only [if_true]
  refine wpAny_bind (wpAny_rule ?_)
  refine wpAny_bind (wpAny_field zz rfl (x := .ref to) rfl ?_)
  refine wpAny_bind (wpAny_setField_rec zz (by simp) fun g1 (z1 : IsZip g1 z ti to .ellipsis) u1 => ?_)
  refine wpAny_bind ?_
  simp only [List.zipIdx_cons, List.zipIdx_nil, List.forIn_cons, List.forIn_nil]
  refine wpAny_bind (wpAny_bind (wpAny_onRaise ?_))
  show wpAny _ _ (Builtin.SmallTypes.nextOf (.ref i1) >>= _) _ _ _
  have j11 := j1.ext u1.extBut D.i1z
  have q11 := q1.ext u1.extBut D.l1z
  cases gx : xs[m1]? with
  | none =>
    refine wpAny_bind (next_no hh j11 q11 gx fun g2 e u2 he => ?_)
    obtain ⟨oe, ge, ce⟩ := he
    have z2 : IsZip g2 z ti to .ellipsis := u2 _ _ D.i1z.symm z1
    have ne : e ≠ z := fun r => by subst r; rw [z2] at ge; cases ge; simp at ce
    exact wpAny_setField_rec z2 (by simp) fun g3 _ u3 => q g3 e (fun c o n1 _ n3 _ r => u3.extBut _ _ n1 (u2 _ _ n3 (u1.extBut _ _ n1 r))) ⟨oe, u3.extBut _ _ ne ge, ce⟩
  | some x =>
    have gy : ys[m2]? = none := no.resolve_left fun r => by rw [gx] at r; cases r
    refine wpAny_bind (next_it j11 q11 gx fun g2 j12 u2 => wpAny_pure ?_)
    have p2 : IsPair g2 to a b := u2.extBut _ _ D.TOi1 (u1.extBut _ _ D.TOz po)
    refine wpAny_bind (wpAny_seqItems p2 rfl ?_)
    refine wpAny_bind (wpAny_updateSeq_pair p2 fun g3 p3 u3 => ?_)
    refine wpAny_bind (wpAny_letGo (wpAny_pure ?_))
    refine wpAny_bind (wpAny_bind (wpAny_onRaise ?_))
    show wpAny _ _ (Builtin.SmallTypes.nextOf (.ref i2) >>= _) _ _ _
    have j23 := ((j2.ext u1.extBut D.i2z).ext u2.extBut D.i12.symm).ext u3.extBut D.TOi2.symm
    have q23 := ((q2.ext u1.extBut D.l2z).ext u2.extBut D.l2i1).ext u3.extBut D.l2TO
    refine wpAny_bind (next_no hh j23 q23 gy fun g4 e u4 he => ?_)
    obtain ⟨oe, ge, ce⟩ := he
    have z4 : IsZip g4 z ti to .ellipsis := u4 _ _ D.i2z.symm (u3.extBut _ _ D.TOz.symm (u2.extBut _ _ D.i1z.symm z1))
    have ne : e ≠ z := fun r => by subst r; rw [z4] at ge; cases ge; simp at ce
    exact wpAny_setField_rec z4 (by simp) fun g5 _ u5 => q g5 e (fun c o n1 n2 n3 n4 r => u5.extBut _ _ n1 (u4 _ _ n4 (u3.extBut _ _ n2 (u2.extBut _ _ n3 (u1.extBut _ _ n1 r))))) ⟨oe, u5.extBut _ _ ne ge, ce⟩
theorem zipS_next {c1 c2 : Bool} {z ti to i1 i2 l1 l2 : Addr} {m1 m2 : Nat} {xs ys : Array Value} {x y a b : Value} {Q : Option Value → Shared → Prop} (D : ZipApart z ti to i1 i2 l1 l2)
    (zz : IsZip s.heap z ti to .none) (pt : IsPair s.heap ti (.ref i1) (.ref i2)) (po : IsPair s.heap to a b)
    (j1 : ItS c1 s.heap i1 l1 m1) (j2 : ItS c2 s.heap i2 l2 m2) (q1 : SqS c1 s.heap l1 xs) (q2 : SqS c2 s.heap l2 ys) (gx : xs[m1]? = some x) (gy : ys[m2]? = some y)
    (q : ∀ h', IsZip h' z ti to (rawInt s.heap.objs.size) → IsPair h' to x y → ItS c1 h' i1 l1 (m1 + 1) → ItS c2 h' i2 l2 (m2 + 1) → IsPair h' s.heap.objs.size x y → h'.objs.size = s.heap.objs.size + 1 →
      (∀ c o, c ≠ z → c ≠ to → c ≠ i1 → c ≠ i2 → s.heap.get? c = some o → h'.get? c = some o) → Q (some (.ref s.heap.objs.size)) { s with heap := h' }) : wpAny (model prog w) A (pyNext (.ref z)) Q E s := by
  have ty : s.TypeIs (.ref z) "zip" := ⟨_, zz, rfl⟩
  unfold pyNext
  refine wpAny_bind (wpAny_attempt (wpAny_callSpecial?_slot (name := Str.ofString "__next__") ty F.slot_zip_next ?_))
  exact wpAny_call_entry F.slot_zip_next ty F.entry_zip_next (zipS_item D zz pt po j1 j2 q1 q2 gx gy fun h' a1 a2 a3 a4 a5 a6 a7 => wpAny_pure (q h' a1 a2 a3 a4 a5 a6 a7)) (F.args_zip_next_1 _)
theorem zipS_stop {c1 c2 : Bool} {z ti to i1 i2 l1 l2 : Addr} {m1 m2 : Nat} {xs ys : Array Value} {a b : Value} {Q : Option Value → Shared → Prop} (hh : A.handled = none) (D : ZipApart z ti to i1 i2 l1 l2)
    (zz : IsZip s.heap z ti to .none) (pt : IsPair s.heap ti (.ref i1) (.ref i2)) (po : IsPair s.heap to a b)
    (j1 : ItS c1 s.heap i1 l1 m1) (j2 : ItS c2 s.heap i2 l2 m2) (q1 : SqS c1 s.heap l1 xs) (q2 : SqS c2 s.heap l2 ys) (no : xs[m1]? = none ∨ ys[m2]? = none)
    (q : ∀ h', (∀ c o, c ≠ z → c ≠ to → c ≠ i1 → c ≠ i2 → s.heap.get? c = some o → h'.get? c = some o) → Q none { s with heap := h' }) : wpAny (model prog w) A (pyNext (.ref z)) Q E s := by
  have ty : s.TypeIs (.ref z) "zip" := ⟨_, zz, rfl⟩
  unfold pyNext
  refine wpAny_bind (wpAny_attempt (wpAny_callSpecial?_slot (name := Str.ofString "__next__") ty F.slot_zip_next ?_))
  refine wpAny_call_entry F.slot_zip_next ty F.entry_zip_next (zipS_end hh D zz pt po j1 j2 q1 q2 no fun h' e keep he => ?_) (F.args_zip_next_1 _)
  obtain ⟨o, ho, hc⟩ := he
  exact wpAny_bind (wpAny_isInstance (T := "StopIteration") (b := true) ⟨o, ho, hc⟩ isSubtype_stop (wpAny_pure (q _ keep)))
end
/-! ### zip(a, b) made -/
def itObj (kk : Bool) (l : Addr) : Obj := { cls := .type (itN kk), data := .fields #[.ref l, .int 0 0] }
theorem iter_of {prog : Program} {w : World} {A : Around} {E : Value → Shared → Prop} {s : Shared} {kk : Bool} {l : Addr} {xs : Array Value} {Q : Value → Shared → Prop} (h : SqS kk s.heap l xs) (q : Q (.ref s.heap.objs.size) { s with heap := s.heap.push (itObj kk l) }) :
    wpAny (model prog w) A (pyIter (.ref l)) Q E s := by
  cases kk with
  | true => exact wpAny_pyIter_tuple h q
  | false => exact wpAny_pyIter_list h q
abbrev zs1 (c1 : Bool) (h : Heap) (l1 : Addr) : Heap := h.push (itObj c1 l1)
abbrev zs2 (c1 c2 : Bool) (h : Heap) (l1 l2 : Addr) : Heap := (zs1 c1 h l1).push (itObj c2 l2)
abbrev zs3 (c1 c2 : Bool) (h : Heap) (l1 l2 : Addr) : Heap := (zs2 c1 c2 h l1 l2).push { cls := .type "tuple", data := .seq #[.ref h.objs.size, .ref (zs1 c1 h l1).objs.size] }
abbrev zs4 (c1 c2 : Bool) (h : Heap) (l1 l2 : Addr) : Heap := (zs3 c1 c2 h l1 l2).push { cls := .type "tuple", data := .seq #[.none, .none] }
abbrev zs5 (c1 c2 : Bool) (h : Heap) (l1 l2 : Addr) : Heap := (zs4 c1 c2 h l1 l2).push { cls := .type "zip", data := .fields #[.none, .bool false, .bool false, .ref (zs2 c1 c2 h l1 l2).objs.size, .ref (zs3 c1 c2 h l1 l2).objs.size] }
theorem meets_zipS (c1 c2 : Bool) (l1 l2 : Addr) (xs ys : Array Value) : Meets (Builtin.«zip.__new__» ⟨[.type "zip", .ref l1, .ref l2], []⟩) (fun _ R s => SqS c1 s.heap l1 xs ∧ SqS c2 s.heap l2 ys ∧
    R (.ok (.ret (.ref (zs4 c1 c2 s.heap l1 l2).objs.size))) { s with heap := zs5 c1 c2 s.heap l1 l2 }) :=
  .of_wp fun prog w A R s h => by
    obtain ⟨hp, g, d, tk, os⟩ := s
    obtain ⟨a1, a2, h⟩ := h
    have := sub_zip
    have b1 : SqS c1 (Shared.heap ⟨hp, g, d, tk, os⟩) l1 xs := a1
    have b2 : SqS c2 (Shared.heap ⟨hp.push (itObj c1 l1), g, d, tk, os⟩) l2 ys := SqS.push a2 _
    wp_walk using iter_of b1, iter_of b2
    exact ⟨_, rfl, h⟩
section
variable {prog : Program} {w : World} {A : Around} {E : Value → Shared → Prop} {s : Shared}
theorem call_zipS {c1 c2 : Bool} {l1 l2 : Addr} {xs ys : Array Value} {Q : Value → Shared → Prop} (q1 : SqS c1 s.heap l1 xs) (q2 : SqS c2 s.heap l2 ys)
    (q : ∀ h', IsZip h' (s.heap.objs.size + 4) (s.heap.objs.size + 2) (s.heap.objs.size + 3) .none → IsPair h' (s.heap.objs.size + 2) (.ref s.heap.objs.size) (.ref (s.heap.objs.size + 1)) →
      IsPair h' (s.heap.objs.size + 3) .none .none → ItS c1 h' s.heap.objs.size l1 0 → ItS c2 h' (s.heap.objs.size + 1) l2 0 → h'.objs.size = s.heap.objs.size + 5 →
      (∀ c o, s.heap.get? c = some o → h'.get? c = some o) → Q (.ref (s.heap.objs.size + 4)) { s with heap := h' }) : wpAny (model prog w) A (call (.type "zip") [.ref l1, .ref l2]) Q E s := by
  refine callType_new F.called_zip (by decide) (F.typeCall_zip_2 _ _) (F.newCall_zip_2 _ _) (fun obj => F.args_object_init_3 obj _ _) F.entry_zip_new (meets_zipS c1 c2 l1 l2 xs ys) ⟨q1, q2, ?_⟩
  have e1 : (zs1 c1 s.heap l1).objs.size = s.heap.objs.size + 1 := Heap.size_push ..
  have e2 : (zs2 c1 c2 s.heap l1 l2).objs.size = s.heap.objs.size + 2 := by rw [Heap.size_push, e1]
  have e3 : (zs3 c1 c2 s.heap l1 l2).objs.size = s.heap.objs.size + 3 := by rw [Heap.size_push, e2]
  have e4 : (zs4 c1 c2 s.heap l1 l2).objs.size = s.heap.objs.size + 4 := by rw [Heap.size_push, e3]
  have e5 : (zs5 c1 c2 s.heap l1 l2).objs.size = s.heap.objs.size + 5 := by rw [Heap.size_push, e4]
  have w5 : (zs5 c1 c2 s.heap l1 l2).get? (zs4 c1 c2 s.heap l1 l2).objs.size = some _ := Heap.get?_push_size _ rfl
  have w4 : (zs5 c1 c2 s.heap l1 l2).get? (zs3 c1 c2 s.heap l1 l2).objs.size = some _ := Heap.get?_push_of_some _ (Heap.get?_push_size _ rfl)
  have w3 : (zs5 c1 c2 s.heap l1 l2).get? (zs2 c1 c2 s.heap l1 l2).objs.size = some _ := Heap.get?_push_of_some _ (Heap.get?_push_of_some _ (Heap.get?_push_size _ rfl))
  have w2 : (zs5 c1 c2 s.heap l1 l2).get? (zs1 c1 s.heap l1).objs.size = some (itObj c2 l2) := Heap.get?_push_of_some _ (Heap.get?_push_of_some _ (Heap.get?_push_of_some _ (Heap.get?_push_size _ rfl)))
  have w1 : (zs5 c1 c2 s.heap l1 l2).get? s.heap.objs.size = some (itObj c1 l1) := Heap.get?_push_of_some _ (Heap.get?_push_of_some _ (Heap.get?_push_of_some _ (Heap.get?_push_of_some _ (Heap.get?_push_size _ rfl))))
  show _ ∧ _
  rw [e2, e3, e4] at w5
  rw [e1, e2] at w3
  rw [e3] at w4
  rw [e1] at w2
  rw [e4]
  have t1 : ItS c1 (zs5 c1 c2 s.heap l1 l2) s.heap.objs.size l1 0 := by cases c1 <;> exact ⟨_, w1, rfl, rfl⟩
  have t2 : ItS c2 (zs5 c1 c2 s.heap l1 l2) (s.heap.objs.size + 1) l2 0 := by cases c2 <;> exact ⟨_, w2, rfl, rfl⟩
  refine ⟨⟨_, w5, rfl⟩, q _ w5 w3 w4 t1 t2 e5 fun c o r => ?_⟩
  exact Heap.get?_push_of_some _ (Heap.get?_push_of_some _ (Heap.get?_push_of_some _ (Heap.get?_push_of_some _ (Heap.get?_push_of_some _ r))))
end
end OS
namespace OS
open PySem PySem.Spec PyProof.Rows L2
/-- a list (false) or a tuple (true) that is read -/
def SqB (kk : Bool) (K : PySem.W.Frag) (H : Hp) (a : Addr) (xs : List V) : Prop := match kk with | true => SqT K H a xs | false => SqL K H a xs
theorem SqB.same {kk : Bool} {K : PySem.W.Frag} {H H' : Hp} {a : Addr} {xs : List V} (h : SqB kk K H a xs) (s : Same H H') : SqB kk K H' a xs := by
  cases kk with
  | true => exact s.tupT h
  | false => exact s.seq h
theorem SqB.real {kk : Bool} {X : Cx} {pins : List (Addr × Obj)} {σ : L2.St} {H : Hp} {s : Shared} {a : Addr} {xs : List V} (I : Inv X pins σ H s) (h : SqB kk X.K H a xs) : ∃ its : List Value, Vals xs its ∧ SqS kk s.heap a its.toArray := by
  cases kk with
  | true =>
    obtain ⟨its, r, p, _⟩ := I.tuple h
    exact ⟨its, r, p⟩
  | false =>
    obtain ⟨its, r, p, _⟩ := I.list h
    exact ⟨its, r, p.isList⟩
theorem SqB.inj {kk : Bool} {X : Cx} {pins : List (Addr × Obj)} {σ : L2.St} {H : Hp} {s : Shared} {a : Addr} {xs ys : List V} (I : Inv X pins σ H s) (h : SqB kk X.K H a xs) (h' : SqB kk X.K H a ys) : xs = ys := by
  cases kk with
  | true => exact I.tuple_inj h h'
  | false => exact I.list_inj h h'
def ItzM (K : PySem.W.Frag) (c1 c2 : Bool) (a b : Addr) : It :=
  ⟨fun i H => ∃ (xs ys : List V) (x y : V), SqB c1 K H a xs ∧ SqB c2 K H b ys ∧ xs[i]? = some x ∧ ys[i]? = some y,
    fun i H v H' => ∃ T x y, v = .ref T ∧ H T = none ∧ H' = upd H T (.tup [x, y]) ∧ (∀ xs, SqB c1 K H a xs → xs[i]? = some x) ∧ ∀ ys, SqB c2 K H b ys → ys[i]? = some y,
    fun i H => ∃ xs ys : List V, SqB c1 K H a xs ∧ SqB c2 K H b ys ∧ (xs.length ≤ i ∨ ys.length ≤ i)⟩
theorem turn_zipM {P : Program} {w : World} {K : PySem.W.Frag} {elts : List Expr} {kk : Nat} {tpos : Pos} {c1 c2 : Bool} {a b z ti to i1 i2 : Addr} (D : ZipApart z ti to i1 i2 a b) :
    Turn P w K (.Tuple elts kk tpos) (ItzM K c1 c2 a b) [z, ti, to, i1, i2] z (fun i h => IsZip h z ti to .none ∧ IsPair h ti (.ref i1) (.ref i2) ∧ (∃ x y, IsPair h to x y) ∧ ItS c1 h i1 a i ∧ ItS c2 h i2 b i) where
  mem := by simp
  obj := fun i h st c hc => by
    obtain ⟨zz, pt, ⟨x, y, po⟩, j1, j2⟩ := st
    obtain ⟨o1, e1, _, d1⟩ := j1.obj
    obtain ⟨o2, e2, _, d2⟩ := j2.obj
    have e' : c = z ∨ c = ti ∨ c = to ∨ c = i1 ∨ c = i2 := by simpa using hc
    rcases e' with rfl | rfl | rfl | rfl | rfl
    · exact ⟨_, zz, fun v q => nomatch q⟩
    · exact ⟨_, pt, fun v q => nomatch q⟩
    · exact ⟨_, po, fun v q => nomatch q⟩
    · exact ⟨o1, e1, fun v q => by rw [d1] at q; cases q⟩
    · exact ⟨o2, e2, fun v q => by rw [d2] at q; cases q⟩
  keep := fun i h h' st k => by
    obtain ⟨zz, pt, ⟨x, y, po⟩, j1, j2⟩ := st
    exact ⟨k z (by simp) _ zz, k ti (by simp) _ pt, ⟨x, y, k to (by simp) _ po⟩, j1.at fun o q => k i1 (by simp) o q, j2.at fun o q => k i2 (by simp) o q⟩
  item := by
    intro X hP hw hK hc i pins s σ H E I hf st hg
    subst hP hw hK
    obtain ⟨zz, pt, ⟨x0, y0, po⟩, j1, j2⟩ := st
    obtain ⟨xs, ys, x, y, sx, sy, gx, gy⟩ := hg
    obtain ⟨its, rv, q1⟩ := sx.real I
    obtain ⟨its2, rv2, q2⟩ := sy.real I
    obtain ⟨u, hu, ru⟩ := rv.get gx
    obtain ⟨u2, hu2, ru2⟩ := rv2.get gy
    have zlt : z < s.heap.objs.size := Heap.lt_size zz
    refine zipS_next D zz pt po j1 j2 q1 q2 (x := u) (y := u2) (by simpa using hu) (by simpa using hu2) fun h' z' po' j1' j2' hT hsz keep => ?_
    refine ⟨_, rfl, wpAny_letOwnedTupleGo_zip (s := { s with heap := h' }) z' fun h'' z'' sb => ?_⟩
    have new2 : h''.get? s.heap.objs.size = some { cls := .type "tuple", data := .seq #[u, u2] } := (sb.2 _ (Nat.ne_of_gt zlt)).trans hT
    have new : ObjOk X.prog X.w (upd H s.heap.objs.size (.tup [x, y])) h'' s.heap.objs.size (.tup [x, y]) := ⟨by show 2 ≤ sizeLine; decide, [u, u2], .cons ru (.cons ru2 .nil), ⟨_, new2, rfl, _, rfl⟩⟩
    have all : ∀ c o, c ∉ [z, ti, to, i1, i2] → s.heap.get? c = some o → h''.get? c = some o := fun c o hb r => by
      have nb : c ≠ z ∧ c ≠ ti ∧ c ≠ to ∧ c ≠ i1 ∧ c ≠ i2 := by simpa using hb
      exact (sb.2 c nb.1).trans (keep c o nb.1 nb.2.2.1 nb.2.2.2.1 nb.2.2.2.2 r)
    have I1 : Inv X pins σ (upd H s.heap.objs.size (.tup [x, y])) { s with heap := h'' } := I.turnedNew (t' := s.toks) (ch := [z, ti, to, i1, i2]) all hf (Nat.le_refl _) new
    have told : (ItzM X.K c1 c2 a b).yld i H (.ref s.heap.objs.size) (upd H s.heap.objs.size (.tup [x, y])) :=
      ⟨_, x, y, rfl, I.hok.fresh (Nat.le_refl _), rfl, fun l hl => by rw [hl.inj I sx]; exact gx, fun l hl => by rw [hl.inj I sy]; exact gy⟩
    refine ⟨.ref s.heap.objs.size, _, I1, rfl, told, ⟨z'', (sb.2 _ D.TIz).trans (keep _ _ D.TIz D.TITO D.TIi1 D.TIi2 pt), ⟨u, u2, (sb.2 _ D.TOz).trans po'⟩, j1'.at fun o r => (sb.2 _ D.i1z).trans r, j2'.at fun o r => (sb.2 _ D.i2z).trans r⟩, fun c hcm => ?_⟩
    have clt : c < s.heap.objs.size := by
      obtain ⟨o1, e1, _⟩ := j1.obj
      obtain ⟨o2, e2, _⟩ := j2.obj
      have e' : c = z ∨ c = ti ∨ c = to ∨ c = i1 ∨ c = i2 := by simpa using hcm
      rcases e' with rfl | rfl | rfl | rfl | rfl
      · exact zlt
      · exact Heap.lt_size pt
      · exact Heap.lt_size po
      · exact Heap.lt_size e1
      · exact Heap.lt_size e2
    rw [upd_ne (Nat.ne_of_lt clt)]
    exact (hf c hcm).1
  done := by
    intro X hP hw hK hc i pins s σ H E I hf st hg
    subst hP hw hK
    obtain ⟨zz, pt, ⟨x0, y0, po⟩, j1, j2⟩ := st
    obtain ⟨xs, ys, sx, sy, hend⟩ := hg
    obtain ⟨its, rv, q1⟩ := sx.real I
    obtain ⟨its2, rv2, q2⟩ := sy.real I
    have n1 := rv.length
    have n2 := rv2.length
    have no : its.toArray[i]? = none ∨ its2.toArray[i]? = none := hend.imp (fun q => by simp; omega) fun q => by simp; omega
    refine zipS_stop (I.ok.hd hc) D zz pt po j1 j2 q1 q2 no fun h' keep => ⟨rfl, I.turnedL (t' := s.toks) (ch := [z, ti, to, i1, i2]) (fun c o hb r => ?_) hf⟩
    have nb : c ≠ z ∧ c ≠ ti ∧ c ≠ to ∧ c ≠ i1 ∧ c ≠ i2 := by simpa using hb
    exact keep c o nb.1 nb.2.2.1 nb.2.2.2.1 nb.2.2.2.2 r
  self := fun A i s Q E st h => wpAny_pyIter_zip st.1 h
/-- zip(a, b), each a list or a tuple -/
def iZipM (K : PySem.W.Frag) (ta : TA) : TI := fun σ H R => ta σ H fun vs H1 => ∃ a b, vs = [.ref a, .ref b] ∧ ∃ (c1 c2 : Bool) (xs ys : List V), SqB c1 K H1 a xs ∧ SqB c2 K H1 b ys ∧ R (ItzM K c1 c2 a b) H1
theorem pi_zipM {X : Cx} {e e2 : Expr} {ta : TA} {p pos tpos : Pos} {elts : List Expr} {kk : Nat} (hg : Gl X "zip") (hm : X.mg "zip" = none) (ha : PA X [e, e2] ta)
    (hs : starEach [e, e2] X.env = (false, eval e X.env) :: starEach [e2] X.env := by rfl) (hpl : (backTo pos (starEach [e2] X.env)).any (·.1) = false := by rfl) : PI X (.Tuple elts kk tpos) (.Call (.Name "zip" p) [e, e2] [] pos) (iZipM X.K ta) := by
  refine ⟨fun pins s σ H R I h => Call_ (ld_blt I hg hm PyProof.Rows.boot_zip (PyProof.Rows.callWith_type1 (thn (ha.run pos pins s σ H _ I h) fun us s1 ⟨vs, H1, I1, r1, a, b, ev, c1, c2, xs, ys, sx, sy, q⟩ => ?_) hs hpl))⟩
  subst ev
  obtain ⟨r, rr⟩ : ∃ u1 u2, us = [u1, u2] ∧ RelV (.ref a) u1 ∧ RelV (.ref b) u2 := by
    cases r1 with
    | cons r rr =>
      cases rr with
      | cons r' rr =>
        cases rr
        exact ⟨_, _, rfl, r, r'⟩
  obtain ⟨u2, rfl, r1, r2⟩ := rr
  cases r1
  cases r2
  obtain ⟨its, rv, q1⟩ := sx.real I1
  obtain ⟨its2, rv2, q2⟩ := sy.real I1
  refine call_zipS q1 q2 fun h' zz pt po j1 j2 hsz keep => wpAny_pyIter_zip zz ?_
  have I2 : Inv X pins σ H1 { s1 with heap := h' } := I1.kept (t' := s1.toks) keep
  refine ⟨s1.heap.objs.size + 4, [s1.heap.objs.size + 4, s1.heap.objs.size + 2, s1.heap.objs.size + 3, s1.heap.objs.size, s1.heap.objs.size + 1], _, _, H1, rfl, I2, turn_zipM (PySem.W.ktu_apart s1.heap.objs.size a b q1.lt q2.lt), ⟨zz, pt, ⟨_, _, po⟩, j1, j2⟩, fun c hcm => ?_, q⟩
  have le : s1.heap.objs.size ≤ c := by
    have e' : c = s1.heap.objs.size + 4 ∨ c = s1.heap.objs.size + 2 ∨ c = s1.heap.objs.size + 3 ∨ c = s1.heap.objs.size ∨ c = s1.heap.objs.size + 1 := by simpa using hcm
    unfold Addr at *
    omega
  exact I1.fpOk le (I1.hok.fresh le)
theorem walk_zipM {K : PySem.W.Frag} {c1 c2 : Bool} {a b : Addr} {xs ys : List V} {n : Nat} (hn : n = min xs.length ys.length) : Walk (ItzM K c1 c2 a b) n (fun H => SqB c1 K H a xs ∧ SqB c2 K H b ys) (YPair (fun i => xs[i]?) (fun i => ys[i]?)) :=
  ⟨fun i _ hi q => ⟨xs, ys, xs[i]'(by omega), ys[i]'(by omega), q.1, q.2, List.getElem?_eq_getElem _, List.getElem?_eq_getElem _⟩, fun _ q => ⟨xs, ys, q.1, q.2, by omega⟩, fun i H v H' _ q ⟨T, x, y, h1, h2, h3, h4, h5⟩ => ⟨T, x, y, h1, h2, h3, h4 xs q.1, h5 ys q.2⟩⟩
end OS
namespace OS
open PySem PySem.Spec PyProof.Rows L2
/-! ### a walk over a list or a tuple -/
def ItB (kk : Bool) (K : PySem.W.Frag) (a : Addr) : It := match kk with | true => Itt K a | false => Itl K a
theorem seq_or {kk : Bool} {K : PySem.W.Frag} {H : Hp} {a : Addr} {xs : List V} (h : SqB kk K H a xs) : SqL K H a xs ∨ SqT K H a xs := by
  cases kk with
  | true => exact .inr h
  | false => exact .inl h
theorem walk_seq {kk : Bool} {K : PySem.W.Frag} {a : Addr} {xs : List V} : Walk (ItB kk K a) xs.length (fun H => SqB kk K H a xs) (fun i H x H' => H' = H ∧ xs[i]? = some x) := by
  cases kk with
  | true => exact walk_tup
  | false => exact walk_list
end OS
namespace OS
open PySem PySem.Spec PyProof.Rows L2
def iSeqB (K : PySem.W.Frag) (tl : TE) : TI := fun σ H R => tl σ H fun x H1 => ∃ a, x = .ref a ∧ ∃ (kk : Bool) (xs : List V), SqB kk K H1 a xs ∧ R (ItB kk K a) H1
theorem pi_seqB {X : Cx} {tg l : Expr} {tl : TE} (hl : PE X l tl) : PI X tg l (iSeqB X.K tl) := by
  constructor
  intro pins s σ H R I h
  refine thn (hl.run pins s σ H _ I h) fun v s1 ⟨x, H1, I1, r1, a, ex, kk, xs, hq, q⟩ => ?_
  subst ex
  cases r1
  have new : ∀ b, b ∈ [s1.heap.objs.size] → FpOk X pins H1 b := fun b hb => by
    rw [List.mem_singleton.mp hb]
    exact I1.fpOk (Nat.le_refl _) (I1.hok.fresh (Nat.le_refl _))
  cases kk with
  | false =>
    obtain ⟨its, _, p, _⟩ := I1.list hq
    refine wpAny_pyIter_list p.isList ⟨s1.heap.objs.size, [s1.heap.objs.size], _, _, H1, rfl, ?_, turn_list a _, ?_, new, q⟩
    · exact I1.kept (t' := s1.toks) fun b o e => Heap.get?_push_of_some _ e
    · exact ⟨_, Heap.get?_push_size _ rfl, rfl, rfl⟩
  | true =>
    obtain ⟨its, _, p, _⟩ := I1.tuple hq
    refine wpAny_pyIter_tuple (show s1.heap.IsTuple a its.toArray from p) ⟨s1.heap.objs.size, [s1.heap.objs.size], _, _, H1, rfl, ?_, turn_tuple a _, ?_, new, q⟩
    · exact I1.kept (t' := s1.toks) fun b o e => Heap.get?_push_of_some _ e
    · exact ⟨_, Heap.get?_push_size _ rfl, rfl, rfl⟩
end OS
set_option Elab.async false
set_option linter.all false
set_option maxRecDepth 100000
set_option maxHeartbeats 4000000
namespace OS
open PySem PySem.Spec PyProof.Rows L2
/-! an item of a list or a tuple -/
def rIxB (K : PySem.W.Frag) : R2 := fun x y H Q => ∃ p i, x = .ref p ∧ y = .int i ∧ ∃ (kk : Bool) (xs : List V) (v : V), SqB kk K H p xs ∧ atI xs i = some v ∧ Q v H
theorem ix_seqB {X : Cx} : IxR X (rIxB X.K) := by
  intro value slice pins s σ H x y v u Q I rx ry h hs
  obtain ⟨p, i, ex, ey, kk, xs, z, hq, he, q⟩ := h
  cases kk with
  | true => exact ix_tup value slice pins s σ H x y v u Q I rx ry ⟨p, xs, i, z, ex, ey, hq, he, q⟩ hs
  | false => exact ix_list value slice pins s σ H x y v u Q I rx ry ⟨p, xs, i, z, ex, ey, hq, he, q⟩ hs
/-- enumerate of a list or a tuple -/
def ItEB (kk : Bool) (K : PySem.W.Frag) (a : Addr) : It := match kk with | true => Itet K a | false => Ite K a
def iEnumB (K : PySem.W.Frag) (ta : TA) : TI := fun σ H R => ta σ H fun vs H1 => ∃ a, vs = [.ref a] ∧ ∃ (kk : Bool) (xs : List V), SqB kk K H1 a xs ∧ R (ItEB kk K a) H1
theorem pi_enumB {X : Cx} {e : Expr} {ta : TA} {p pos tpos : Pos} {elts : List Expr} {m : Nat} (hg : Gl X "enumerate") (hm : X.mg "enumerate" = none) (ha : PA X [e] ta) (hs : starEach [e] X.env = [(false, eval e X.env)] := by rfl) :
    PI X (.Tuple elts m tpos) (.Call (.Name "enumerate" p) [e] [] pos) (iEnumB X.K ta) := by
  refine ⟨fun pins s σ H R I h => Call_ (ld_blt I hg hm boot_enumerate (PyProof.Rows.callWith_type1 (thn (ha.run pos pins s σ H _ I h) fun us s1 ⟨vs, H1, I1, r1, a, ev, kk, xs, hq, q⟩ => ?_) hs rfl))⟩
  subst ev
  obtain ⟨rfl⟩ : us = [.ref a] := by
    cases r1 with
    | cons r rr =>
      cases rr
      cases r
      rfl
  have far : ∀ b ∈ [s1.heap.objs.size + 1, s1.heap.objs.size], FpOk X pins H1 b := fun b hb => by
    have le : s1.heap.objs.size ≤ b := by
      have : b = s1.heap.objs.size + 1 ∨ b = s1.heap.objs.size := by simpa using hb
      unfold Addr at *
      omega
    exact I1.fpOk le (I1.hok.fresh le)
  cases kk with
  | false =>
    obtain ⟨its, _, p', _⟩ := I1.list hq
    refine call_enumerate_list p'.isList fun h' he hit hsz keep => wpAny_pyIter_enum he ?_
    exact ⟨s1.heap.objs.size + 1, [s1.heap.objs.size + 1, s1.heap.objs.size], _, _, H1, rfl, I1.kept (t' := s1.toks) keep, turn_enum a _ _, ⟨⟨.none, he⟩, hit, Nat.succ_ne_self _⟩, far, q⟩
  | true =>
    obtain ⟨its, _, p', _⟩ := I1.tuple hq
    refine enum_one (begins_tuple a its.toArray) p' fun h' he hit hsz keep => wpAny_pyIter_enum he ?_
    exact ⟨s1.heap.objs.size + 1, [s1.heap.objs.size + 1, s1.heap.objs.size], _, _, H1, rfl, I1.kept (t' := s1.toks) keep, turn_enumT a _ _, ⟨⟨.none, he⟩, ⟨_, hit, rfl, rfl⟩, Nat.succ_ne_self _⟩, far, q⟩
theorem walk_enumB {kk : Bool} {K : PySem.W.Frag} {a : Addr} {xs : List V} : Walk (ItEB kk K a) xs.length (fun H => SqB kk K H a xs) (YPair (fun i => some (.int (i : Nat))) (fun i => xs[i]?)) := by
  cases kk with
  | true => exact walk_enumT
  | false => exact walk_enum
theorem atI_at {ns : List Int} {k : Nat} (h : k < ns.length) : atI (ns.map V.int) (k : Int) = some (.int (ns.getD k 0)) := by
  have e : (ns.map V.int)[k]? = some (.int (ns.getD k 0)) := by
    rw [List.getElem?_map, List.getD_eq_getElem?_getD, List.getElem?_eq_getElem h]
    rfl
  unfold atI ixN
  rw [if_pos (Int.natCast_nonneg k), if_pos (by simp; omega)]
  simpa using e
end OS
set_option Elab.async false
set_option linter.all false
set_option maxRecDepth 100000
set_option maxHeartbeats 4000000
namespace OS
open PySem PySem.Spec PyProof.Rows L2
/-! a list of anything against [] -/
def rNeNil (K : PySem.W.Frag) : R2 := fun x y H Q => ∃ a b zs, x = .ref a ∧ y = .ref b ∧ SqL K H a zs ∧ SqL K H b [] ∧ Q (.bl (!zs.isEmpty)) H
theorem op_neNil {X : Cx} (hu : X.A.units + 65 < cLine) : OpR X (compareOp .NotEq) (rNeNil X.K) := by
  intro pins s σ H x y v u Q I rx ry h
  obtain ⟨a, b, zs, rfl, rfl, ha, hb, q⟩ := h
  cases rx
  cases ry
  obtain ⟨us, r1, p1, _⟩ := I.list ha
  obtain ⟨ws, r2, p2, _⟩ := I.list hb
  cases r2
  have lt : X.A.units < cLine := by omega
  cases zs with
  | nil =>
    cases r1
    exact SeqAt.RcNeAt.lists (e := fun _ => true) p1.isList p2.isList rfl lt (fun j h1 h2 => absurd h2 (by simp)) X.prog X.w X.xe _ ⟨.bl _, H, I, rfl, q⟩
  | cons z zs =>
    cases r1
    exact SeqAt.RcNeAt.lists_lengths p1.isList p2.isList (by simp) lt X.prog X.w X.xe _ ⟨.bl _, H, I, rfl, q⟩
end OS
set_option Elab.async false
set_option linter.all false
set_option maxRecDepth 100000
set_option maxHeartbeats 4000000
/-! anything in a list or tuple of ints -/
namespace PySem.OSS
open PySem.SeqAt AutoSeq1 MeetsSeq PySem.Calls
theorem int_no_dict (b : Int) (u : Tok) (l : Addr) (c : Value) (es : Array DictEntry) (n : Nat) (dd : Option Addr) (sl : Array (Option Value)) :
    Meets (Builtin.«int.__eq__» ⟨[.int b u, .ref l], []⟩) (fun _ R s => s.heap.get? l = some { cls := c, dict := dd, data := .dict es n, slots := sl } ∧ R (.ok (.ret .notImplemented)) s) :=
  .of_wp fun prog w A R s h => by
    obtain ⟨hp, g, d, tk, os⟩ := s
    obtain ⟨hl, h⟩ := h
    wp_walk using wpAny_loadPart' hl, wpAny_load hl
    exact ⟨_, rfl, h⟩
theorem dict_no_int (l : Addr) (es : Array DictEntry) (n : Nat) (dd : Option Addr) (sl : Array (Option Value)) (b : Int) (u : Tok) :
    Meets (Builtin.«dict.__eq__» ⟨[.ref l, .int b u], []⟩) (fun _ R s => s.heap.get? l = some { cls := .type "dict", dict := dd, data := .dict es n, slots := sl } ∧ R (.ok (.ret .notImplemented)) s) :=
  .of_wp fun prog w A R s h => by
    obtain ⟨hp, g, d, tk, os⟩ := s
    obtain ⟨hl, h⟩ := h
    have f1 := F.sub_int_dict
    wp_walk using wpAny_loadPart' hl
    exact ⟨_, rfl, h⟩
section
variable {A : Around} {s : Shared}
theorem rcAt_int_dict {l : Addr} {es : Array DictEntry} {n : Nat} {dd : Option Addr} {sl : Array (Option Value)} (b : Int) (u : Tok) (ho : s.heap.get? l = some { cls := .type "dict", dict := dd, data := .dict es n, slots := sl }) (hu : A.units < cLine) : RcAt A s (.int b u) (.ref l) false := fun prog w E Q h => by
  refine rc_eq_decline_or (k := false) (typeIs_int s b u) ⟨_, ho, rfl⟩ (by decide) F.sub_dict_int F.slot_int_eq F.slot_dict_eq_refl ?_ ?_ (fun _ hq => wpAny_of_eq (rfl : isSame (.int b u) (.ref l) = pure false) hq) (.inr hu) h
  · exact fun _ hq => call_meets F.slot_int_eq (typeIs_int s b u) F.entry_int_eq (F.args_int_eq_2 _ _) (int_no_dict b u l (.type "dict") es n dd sl) ⟨ho, hq⟩
  · exact fun _ hq => call_meets F.slot_dict_eq_refl ⟨_, ho, rfl⟩ F.entry_dict_eq (F.args_dict_eq_2 _ _) (dict_no_int l es n dd sl b u) ⟨ho, hq⟩
theorem eqAt_int_dict {l : Addr} {es : Array DictEntry} {n : Nat} {dd : Option Addr} {sl : Array (Option Value)} (b : Int) (u : Tok) (ho : s.heap.get? l = some { cls := .type "dict", dict := dd, data := .dict es n, slots := sl }) (hu : A.units < cLine) : EqAt A s (.int b u) (.ref l) false := fun prog w E Q h => by
  unfold eqBool
  exact wpAny_holding (wpAny_ite_split (fun hab => absurd (eq_of_beq hab) nofun) fun _ => wpAny_bind (rcAt_int_dict b u ho hu prog w E _ (wpAny_truthy_bool h)))
end
end PySem.OSS
namespace OS
open PySem PySem.Spec PyProof.Rows L2 PySem.OSS
/-- the int i equals the value -/
def eqIV (x : V) (i : Int) : Bool := match x with | .int j => i == j | .bl b => i == (if b then 1 else 0) | _ => false
def eqIU (x : V) : Value → Bool | .int i _ => eqIV x i | _ => false
section
variable {X : Cx} {pins : List (Addr × Obj)} {σ : L2.St} {H : Hp} {s : Shared}
theorem int_eqAt (I : Inv X pins σ H s) {A : Around} (hu : A.units < cLine) {x : V} {v : Value} (hx : Itm X.K H x) (rx : RelV x v) (i : Int) (t : Tok) : SeqAt.EqAt A s (.int i t) v (eqIV x i) := by
  cases hx with
  | flat f =>
    cases x with
    | non => cases rx; exact SeqAt.EqAt.int_none i t
    | bl b => cases rx; exact SeqAt.EqAt.int_bool i t b
    | int j => obtain ⟨k, rfl⟩ := rx; exact SeqAt.EqAt.int_int i t j k
    | str z => obtain ⟨k, rfl⟩ := rx; exact SeqAt.EqAt.int_str i t z k
    | _ => exact absurd (show false = true from f) Bool.false_ne_true
  | lst h =>
    cases rx
    obtain ⟨_, _, pl, _⟩ := I.list h
    exact SeqAt.EqAt.int_list i t pl.isList hu
  | tup h =>
    cases rx
    obtain ⟨_, _, pl, _⟩ := I.tuple h
    exact SeqAt.EqAt.int_tuple i t pl hu
  | dct h =>
    cases rx
    obtain ⟨_, _, vs, _, o, es, ep, ho, ⟨h1, h2, h3⟩, h4, _⟩ := I.hok _ _ h
    obtain ⟨cls, dd, data, sl⟩ := o
    simp only at h1 h4
    subst h1 h4
    exact eqAt_int_dict i t ho hu
theorem any_eqIU {x : V} : ∀ {ns : List Int} {us : List Value}, Vals (ns.map V.int) us → us.any (eqIU x) = ns.any (eqIV x)
  | [], _, r => by cases r; rfl
  | n :: ns, _, r => by
    cases r with
    | cons r t =>
      obtain ⟨k, rfl⟩ := r
      rw [List.any_cons, List.any_cons, any_eqIU t]
      rfl
theorem mem_int : ∀ {ns : List Int} {us : List Value}, Vals (ns.map V.int) us → ∀ u ∈ us, ∃ i t, u = .int i t
  | [], _, r, u, h => by cases r; cases h
  | n :: ns, _, r, u, h => by
    cases r with
    | cons r t =>
      rcases List.mem_cons.mp h with rfl | h
      · obtain ⟨k, rfl⟩ := r
        exact ⟨_, _, rfl⟩
      · exact mem_int t u h
/-- anything not in a list or tuple of ints -/
def rNotInI (K : PySem.W.Frag) : R2 := fun x y H Q => ∃ (p : Addr) (ns : List Int), y = .ref p ∧ Itm K H x ∧ (SqL K H p (ns.map V.int) ∨ SqT K H p (ns.map V.int)) ∧ Q (.bl (!ns.any (eqIV x))) H
theorem op_notInI (hu : X.A.units + 65 < cLine) : OpR X (compareOp .NotIn) (rNotInI X.K) := by
  intro pins s σ H x y v u Q I rx ry h
  obtain ⟨p, ns, rfl, hx, hq, q⟩ := h
  cases ry
  have hu1 : X.A.in1.units < cLine := by
    show X.A.units + 1 < cLine
    omega
  rcases hq with hq | hq
  · obtain ⟨its, r, pl, hz⟩ := I.list hq
    refine SeqAt.notIn_listAt (eqIU x) pl.isList (fun w hw => ?_) ⟨.bl _, H, I, rfl, ?_⟩
    · obtain ⟨i, t, rfl⟩ := mem_int r w (by simpa using hw)
      exact int_eqAt I hu1 hx rx i t
    · rw [show its.toArray.any (eqIU x) = its.any (eqIU x) by simp, any_eqIU r]
      exact q
  · obtain ⟨its, r, pl, hz⟩ := I.tuple hq
    refine SeqAt.notIn_tupleAt (eqIU x) pl (fun w hw => ?_) ⟨.bl _, H, I, rfl, ?_⟩
    · obtain ⟨i, t, rfl⟩ := mem_int r w (by simpa using hw)
      exact int_eqAt I hu1 hx rx i t
    · rw [show its.toArray.any (eqIU x) = its.any (eqIU x) by simp, any_eqIU r]
      exact q
end
end OS
set_option Elab.async false
set_option linter.all false
set_option maxRecDepth 100000
set_option maxHeartbeats 4000000
/-! more rules for the laws of the takes -/
namespace OS
open PySem PySem.Spec PyProof.Rows L2 RZ
/-- a tuple against () -/
def rNeEmp (K : PySem.W.Frag) : R2 := fun x y H Q => ∃ a b zs, x = .ref a ∧ y = .ref b ∧ SqT K H a zs ∧ SqT K H b [] ∧ Q (.bl (!zs.isEmpty)) H
theorem op_neEmp {X : Cx} (hu : X.A.units + 65 < cLine) : OpR X (compareOp .NotEq) (rNeEmp X.K) := by
  intro pins s σ H x y v u Q I rx ry h
  obtain ⟨a, b, zs, rfl, rfl, ha, hb, q⟩ := h
  cases rx
  cases ry
  obtain ⟨us, r1, p1, _⟩ := I.tuple ha
  obtain ⟨ws, r2, p2, _⟩ := I.tuple hb
  cases r2
  refine SeqAt.RcNeAt.tuples (e := fun _ => true) p1 p2 (by omega) (fun j h1 h2 => absurd h2 (by simp)) X.prog X.w X.xe _ ⟨.bl _, H, I, ?_, q⟩
  cases zs with
  | nil =>
    cases r1
    rfl
  | cons z zs =>
    cases r1
    rfl
end OS
set_option Elab.async false
set_option linter.all false
set_option maxRecDepth 100000
set_option maxHeartbeats 4000000
/-! dicts by names: what they hold, comprehensions -/
namespace OS
open PySem PySem.Spec PyProof.Rows L2
/-- the dict kvs has just the keys ks, once each, in this order; R of each key and its value -/
structure DHas (R : Str → V → Prop) (kvs : List (Key × V)) (ks : List Str) : Prop where
  keys : kvs.map (·.1) = ks.map Sum.inr
  nd : ks.Nodup
  vals : ∀ k ∈ ks, ∃ v, valV kvs (.inr k) = some v ∧ R k v
theorem DHas.mono {R R' : Str → V → Prop} {kvs : List (Key × V)} {ks : List Str} (h : DHas R kvs ks) (m : ∀ k v, R k v → R' k v) : DHas R' kvs ks :=
  ⟨h.keys, h.nd, fun k hk => (h.vals k hk).imp fun v q => ⟨q.1, m k v q.2⟩⟩
theorem DHas.len {R : Str → V → Prop} {kvs : List (Key × V)} {ks : List Str} (h : DHas R kvs ks) : kvs.length = ks.length := by
  have := congrArg List.length h.keys
  rwa [List.length_map, List.length_map] at this
theorem DHas.none {R : Str → V → Prop} {kvs : List (Key × V)} {ks : List Str} (h : DHas R kvs ks) {k : Str} (hk : k ∉ ks) : valV kvs (.inr k) = none := by
  unfold valV
  rw [Option.map_eq_none_iff, List.find?_eq_none]
  intro kv hm e
  have h1 : kv.1 ∈ kvs.map (·.1) := List.mem_map.mpr ⟨kv, hm, rfl⟩
  rw [h.keys, of_decide_eq_true e] at h1
  obtain ⟨x, hx, e2⟩ := List.mem_map.mp h1
  exact hk (Sum.inr.inj e2 ▸ hx)
theorem DHas.nil {R : Str → V → Prop} : DHas R [] [] := ⟨rfl, List.nodup_nil, fun _ h => nomatch h⟩
/-- a new key -/
theorem DHas.add {R : Str → V → Prop} {kvs : List (Key × V)} {ks : List Str} (h : DHas R kvs ks) {k : Str} {v : V} (hk : k ∉ ks) (hv : R k v) : DHas R (putK kvs (.inr k) v) (ks ++ [k]) := by
  have hn := h.none hk
  refine ⟨?_, List.nodup_append.mpr ⟨h.nd, by simp, fun a ha b hb e => ?_⟩, fun j hj => ?_⟩
  · rw [putK_new v hn, List.map_append, List.map_append, h.keys]
    rfl
  · rw [List.mem_singleton] at hb
    exact hk (hb ▸ e ▸ ha)
  · rw [valV_put]
    by_cases e : (Sum.inr j : Key) = Sum.inr k
    · rw [if_pos e]
      exact ⟨v, rfl, Sum.inr.inj e ▸ hv⟩
    · rw [if_neg e]
      rcases List.mem_append.mp hj with hj | hj
      · exact h.vals j hj
      · exact absurd (congrArg Sum.inr (List.mem_singleton.mp hj)) e
/-- a key that stands there already, another value -/
theorem DHas.put {R : Str → V → Prop} {kvs : List (Key × V)} {ks : List Str} (h : DHas R kvs ks) {k : Str} {v : V} (hk : k ∈ ks) (hv : R k v) : DHas R (putK kvs (.inr k) v) ks := by
  refine ⟨?_, h.nd, fun j hj => ?_⟩
  · have hany : (kvs.any fun kv => decide (kv.1 = Sum.inr k)) = true := by
      have : (Sum.inr k : Key) ∈ kvs.map (·.1) := by
        rw [h.keys]
        exact List.mem_map.mpr ⟨k, hk, rfl⟩
      obtain ⟨kv, hm, e⟩ := List.mem_map.mp this
      exact List.any_eq_true.mpr ⟨kv, hm, decide_eq_true e⟩
    unfold putK
    rw [if_pos hany, List.map_map, ← h.keys]
    refine List.map_congr_left fun kv _ => ?_
    show (if kv.1 = Sum.inr k then (kv.1, v) else kv).1 = kv.1
    split <;> rfl
  · rw [valV_put]
    by_cases e : (Sum.inr j : Key) = Sum.inr k
    · rw [if_pos e]
      exact ⟨v, rfl, Sum.inr.inj e ▸ hv⟩
    · rw [if_neg e]
      exact h.vals j hj
/-- {k: .. for k in ks} -/
theorem dc_names {J : It} {n : Nat} {G : Hp → Prop} {Y : Nat → Hp → V → Hp → Prop} (w : Walk J n G Y) {ks : List Str} (hn : ks.length = n) (hz : n ≤ 100000) (hnd : ks.Nodup) (R : Hp → Str → V → Prop) {g : TG} {tk tv : TE} {vs : List Nat} {σ : L2.St} {H1 : Hp} {D : Addr} {Qd : Hp → Prop}
    (hD : H1 D = none) (hR : ∀ H H' k v kvs, Same H1 H → H D = some (.dK kvs) → (∀ b o, H b = some o → b ≠ D → H' b = some o) → R H k v → R H' k v) (hG : ∀ H, Same H1 H → G H)
    (hs : ∀ i k x H H' (Qk : V → V → Hp → Prop), ks[i]? = some k → Same H1 H → Y i H x H' → (∀ v H4, R H4 k v → Same H H4 → Qk (.str k) v H4) → g x (wipe σ vs) H' fun σ2 H2 => wipe σ2 vs = wipe σ vs ∧ tk σ2 H2 fun y H4 => tv σ2 H4 fun z H5 => Qk y z H5)
    (hd : ∀ H kvs, Same H1 H → H D = some (.dK kvs) → DHas (R H) kvs ks → Qd H) :
    ∃ W : Nat → Nat → Hp → Prop, (∃ m, W 0 m (upd H1 D (.dK []))) ∧ ∀ i m H, W i m H →
      (J.stop i H ∧ Qd H) ∨ (J.go i H ∧ ∃ Nx : Hp → Prop, (∀ H', Nx H' → ∃ m', m' < m ∧ W (i + 1) m' H') ∧ ∀ x H', J.yld i H x H' → g x (wipe σ vs) H' fun σ2 H2 => wipe σ2 vs = wipe σ vs ∧ tYes σ2 H2 fun b H3 =>
        if b = true then tk σ2 H3 fun y H4 => tv σ2 H4 fun z H5 => ∃ kvs k, y = kV k ∧ H5 D = some (.dK kvs) ∧ kvs.length < sizeLine ∧ Nx (upd H5 D (.dK (putK kvs k z))) else Nx H3) := by
  refine ⟨fun i m H => m = n - i ∧ i ≤ n ∧ Same H1 H ∧ ∃ kvs, H D = some (.dK kvs) ∧ DHas (R H) kvs (ks.take i), ⟨n, by simp, Nat.zero_le _, same_new hD, [], upd_same, .nil⟩, ?_⟩
  rintro i m H ⟨rfl, hi, sm, kvs, hkv, hh⟩
  by_cases hlt : i < n
  · refine .inr ⟨w.goes i H hlt (hG H sm), fun H' => i + 1 ≤ n ∧ Same H1 H' ∧ ∃ kvs, H' D = some (.dK kvs) ∧ DHas (R H') kvs (ks.take (i + 1)), fun H' q => ⟨n - (i + 1), by omega, rfl, q⟩, fun x H' y => ?_⟩
    have hki : ks[i]? = some (ks[i]'(by omega)) := List.getElem?_eq_getElem _
    have tks := take_snoc hki
    refine hs i _ x H H' _ hki sm (w.yields i H x H' hlt (hG H sm) y) fun v H4 hv s4 => ?_
    have h4 := s4 _ _ hkv
    have kp : ∀ b o, H4 b = some o → b ≠ D → (upd H4 D (.dK (putK kvs (.inr (ks[i]'(by omega))) v))) b = some o := fun b o q z => by rw [upd_ne z]; exact q
    have hnew : ks[i]'(by omega) ∉ ks.take i := fun hm => by
      have := hnd.sublist (List.take_sublist (i + 1) ks)
      rw [tks] at this
      exact (List.nodup_append.mp this).2.2 _ hm _ (List.mem_singleton.mpr rfl) rfl
    refine ⟨kvs, .inr (ks[i]'(by omega)), rfl, h4, ?_, hlt, fun b o q => ?_, _, upd_same, ?_⟩
    · rw [hh.len]
      exact Nat.lt_of_le_of_lt (List.length_take_le _ _) (Nat.lt_of_lt_of_le hlt (Nat.le_trans hz (by decide)))
    · rw [upd_ne (ne_of_none q hD)]
      exact s4 _ _ (sm _ _ q)
    · rw [tks]
      refine DHas.add ((hh.mono fun k v q => hR _ _ k v kvs sm hkv (fun b o q _ => s4 b o q) q).mono fun k v q => hR _ _ k v kvs (sm.trans s4) h4 kp q) hnew ?_
      exact hR _ _ _ _ kvs (sm.trans s4) h4 kp hv
  · have e : i = n := by omega
    subst e
    rw [List.take_of_length_le (by omega)] at hh
    exact .inl ⟨w.stops H (hG H sm), hd H kvs sm hkv hh⟩
end OS
set_option Elab.async false
set_option linter.all false
set_option maxRecDepth 100000
set_option maxHeartbeats 4000000
/-! l.remove(x) of data: the first item that is == x is gone -/
namespace OS
open PySem PySem.Spec PyProof.Rows L2 PySem.OSS
def rRemP (K : PySem.W.Frag) : V → List V → Hp → VK → Prop := fun x xs H Q => ∃ (l : Addr) (zs : List V) (v : V) (ds : List PyData) (d : PyData) (j : Nat), x = .ref l ∧ xs = [v] ∧ H l = some (.lst zs) ∧ DpAll K H zs ds ∧ Dp K H v d ∧ d.depth ≤ 60 ∧ SeqAt.dataPlace ds d = some j ∧ Q .non (upd H l (.lst (zs.eraseIdx j)))
theorem mt_removeP {X : Cx} (hu : X.A.units + 65 < cLine) : MtM X "list.remove" (rRemP X.K) := by
  intro pins s σ H x xs v us Q I rx rxs h
  obtain ⟨l, zs, w, ds, d, j, rfl, rfl, hH, hz, hd, hn, hp, q⟩ := h
  cases rx
  obtain ⟨u, rfl, ru⟩ := rxs.one
  obtain ⟨z, its, n, r, hl, e⟩ := I.lstM hH
  obtain ⟨as, r1⟩ := Dp.readsAll I ds zs its hz r
  obtain ⟨bs, r2⟩ := Dp.reads I d w u hd ru
  refine SeqAt.remove_list_data (vs := its.toArray) ⟨_, e, rfl, n, rfl⟩ (by rw [List.toList_toArray]; exact r1) r2 (dp_plains ds _ hz) (dp_plain d _ hd) (by omega) hp (by rw [List.size_toArray, ← hl]; exact z) ?_
  refine ⟨.non, _, I.lset (its' := its.eraseIdx j) (t' := s.toks) hH e ?_ (r.eraseIdx j) ?_, rfl, q⟩
  · show its.toArray.eraseIdxIfInBounds j = (its.eraseIdx j).toArray
    rw [List.eraseIdxIfInBounds_toArray]
  · have : (zs.eraseIdx j).length ≤ zs.length := by
      rw [List.length_eraseIdx]
      split <;> omega
    omega
end OS
set_option Elab.async false
set_option linter.all false
set_option maxRecDepth 100000
set_option maxHeartbeats 4000000
namespace P
open PySem PySem.Spec PyProof.Rows L2 OS
def top (i : Nat) : Stmt := PySem.Challenge.pw_openshares_k41_threshold_schemes.main.body.getD i (.Pass ⟨0, 0, 0, 0⟩)
abbrev s_BadName__init_ : Stmt := inClass (top 3) 0
abbrev N_BadName__init_ : List Str := ["self", "name"]
theorem sc_BadName__init_ : FnScope N_BadName__init_ ["self", "name"] (defScope s_BadName__init_) := ⟨rfl, rfl, rfl, by decide +kernel, rfl, by decide +kernel, by decide +kernel⟩
abbrev s_DuplicateName__init_ : Stmt := inClass (top 4) 0
abbrev N_DuplicateName__init_ : List Str := ["self", "name"]
theorem sc_DuplicateName__init_ : FnScope N_DuplicateName__init_ ["self", "name"] (defScope s_DuplicateName__init_) := ⟨rfl, rfl, rfl, by decide +kernel, rfl, by decide +kernel, by decide +kernel⟩
abbrev s_UnknownName__init_ : Stmt := inClass (top 5) 0
abbrev N_UnknownName__init_ : List Str := ["self", "name"]
theorem sc_UnknownName__init_ : FnScope N_UnknownName__init_ ["self", "name"] (defScope s_UnknownName__init_) := ⟨rfl, rfl, rfl, by decide +kernel, rfl, by decide +kernel, by decide +kernel⟩
abbrev s_BadCount__init_ : Stmt := inClass (top 6) 0
abbrev N_BadCount__init_ : List Str := ["self", "count"]
theorem sc_BadCount__init_ : FnScope N_BadCount__init_ ["self", "count"] (defScope s_BadCount__init_) := ⟨rfl, rfl, rfl, by decide +kernel, rfl, by decide +kernel, by decide +kernel⟩
abbrev s_BadGroup__init_ : Stmt := inClass (top 7) 0
abbrev N_BadGroup__init_ : List Str := ["self", "value"]
theorem sc_BadGroup__init_ : FnScope N_BadGroup__init_ ["self", "value"] (defScope s_BadGroup__init_) := ⟨rfl, rfl, rfl, by decide +kernel, rfl, by decide +kernel, by decide +kernel⟩
abbrev s_BadPrime__init_ : Stmt := inClass (top 9) 0
abbrev N_BadPrime__init_ : List Str := ["self", "number"]
theorem sc_BadPrime__init_ : FnScope N_BadPrime__init_ ["self", "number"] (defScope s_BadPrime__init_) := ⟨rfl, rfl, rfl, by decide +kernel, rfl, by decide +kernel, by decide +kernel⟩
abbrev s_BadRow__init_ : Stmt := inClass (top 10) 0
abbrev N_BadRow__init_ : List Str := ["self", "value"]
theorem sc_BadRow__init_ : FnScope N_BadRow__init_ ["self", "value"] (defScope s_BadRow__init_) := ⟨rfl, rfl, rfl, by decide +kernel, rfl, by decide +kernel, by decide +kernel⟩
abbrev s_valid_name : Stmt := top 17
abbrev N_valid_name : List Str := ["text", "char"]
theorem sc_valid_name : FnScope N_valid_name ["text"] (defScope s_valid_name) := ⟨rfl, rfl, rfl, by decide +kernel, rfl, by decide +kernel, by decide +kernel⟩
abbrev s_all_groups : Stmt := top 20
abbrev N_all_groups : List Str := ["persons", "groups", "name", "group"]
theorem sc_all_groups : FnScope N_all_groups ["persons"] (defScope s_all_groups) := ⟨rfl, rfl, rfl, by decide +kernel, rfl, by decide +kernel, by decide +kernel⟩
abbrev s_is_group : Stmt := top 21
abbrev N_is_group : List Str := ["persons", "value", "name"]
theorem sc_is_group : FnScope N_is_group ["persons", "value"] (defScope s_is_group) := ⟨rfl, rfl, rfl, by decide +kernel, rfl, by decide +kernel, by decide +kernel⟩
abbrev s_contains : Stmt := top 22
abbrev N_contains : List Str := ["group", "other", "name"]
theorem sc_contains : FnScope N_contains ["group", "other"] (defScope s_contains) := ⟨rfl, rfl, rfl, by decide +kernel, rfl, by decide +kernel, by decide +kernel⟩
abbrev s_checked_persons : Stmt := top 24
abbrev N_checked_persons : List Str := ["persons", "at", "name"]
theorem sc_checked_persons : FnScope N_checked_persons ["persons"] (defScope s_checked_persons) := ⟨rfl, rfl, rfl, by decide +kernel, rfl, by decide +kernel, by decide +kernel⟩
abbrev s_check_groups : Stmt := top 25
abbrev N_check_groups : List Str := ["persons", "groups", "value"]
theorem sc_check_groups : FnScope N_check_groups ["persons", "groups"] (defScope s_check_groups) := ⟨rfl, rfl, rfl, by decide +kernel, rfl, by decide +kernel, by decide +kernel⟩
abbrev s_least_groups : Stmt := top 26
abbrev N_least_groups : List Str := ["persons", "groups", "given", "group"]
theorem sc_least_groups : FnScope N_least_groups ["persons", "groups"] (defScope s_least_groups) := ⟨rfl, rfl, rfl, by decide +kernel, rfl, by decide +kernel, by decide +kernel⟩
abbrev s_contains_another : Stmt := top 27
abbrev N_contains_another : List Str := ["group", "groups", "other"]
theorem sc_contains_another : FnScope N_contains_another ["group", "groups"] (defScope s_contains_another) := ⟨rfl, rfl, rfl, by decide +kernel, rfl, by decide +kernel, by decide +kernel⟩
abbrev s_Family__init_ : Stmt := inClass (top 28) 0
abbrev N_Family__init_ : List Str := ["self", "persons", "groups", "names", "least", "name", "group"]
theorem sc_Family__init_ : FnScope N_Family__init_ ["self", "persons", "groups"] (defScope s_Family__init_) := ⟨rfl, rfl, rfl, by decide +kernel, rfl, by decide +kernel, by decide +kernel⟩
abbrev s_Family_threshold : Stmt := inClass (top 28) 1
abbrev N_Family_threshold : List Str := ["cls", "persons", "many", "names", "group"]
theorem sc_Family_threshold : FnScope N_Family_threshold ["cls", "persons", "many"] (defScope s_Family_threshold) := ⟨rfl, rfl, rfl, by decide +kernel, rfl, by decide +kernel, by decide +kernel⟩
abbrev s_Family_persons : Stmt := inClass (top 28) 3
abbrev N_Family_persons : List Str := ["self"]
theorem sc_Family_persons : FnScope N_Family_persons ["self"] (defScope s_Family_persons) := ⟨rfl, rfl, rfl, by decide +kernel, rfl, by decide +kernel, by decide +kernel⟩
abbrev s_Family_opens : Stmt := inClass (top 28) 10
abbrev N_Family_opens : List Str := ["self", "group", "least"]
theorem sc_Family_opens : FnScope N_Family_opens ["self", "group"] (defScope s_Family_opens) := ⟨rfl, rfl, rfl, by decide +kernel, rfl, by decide +kernel, by decide +kernel⟩
abbrev s_check_prime : Stmt := top 32
abbrev N_check_prime : List Str := ["prime"]
theorem sc_check_prime : FnScope N_check_prime ["prime"] (defScope s_check_prime) := ⟨rfl, rfl, rfl, by decide +kernel, rfl, by decide +kernel, by decide +kernel⟩
abbrev s_is_whole : Stmt := top 33
abbrev N_is_whole : List Str := ["value"]
theorem sc_is_whole : FnScope N_is_whole ["value"] (defScope s_is_whole) := ⟨rfl, rfl, rfl, by decide +kernel, rfl, by decide +kernel, by decide +kernel⟩
abbrev s_is_number : Stmt := top 34
abbrev N_is_number : List Str := ["prime", "value"]
theorem sc_is_number : FnScope N_is_number ["prime", "value"] (defScope s_is_number) := ⟨rfl, rfl, rfl, by decide +kernel, rfl, by decide +kernel, by decide +kernel⟩
abbrev s_has_numbers : Stmt := top 35
abbrev N_has_numbers : List Str := ["prime", "value", "many", "item"]
theorem sc_has_numbers : FnScope N_has_numbers ["prime", "value", "many"] (defScope s_has_numbers) := ⟨rfl, rfl, rfl, by decide +kernel, rfl, by decide +kernel, by decide +kernel⟩
abbrev s_check_rows : Stmt := top 36
abbrev N_check_rows : List Str := ["prime", "values", "width", "value"]
theorem sc_check_rows : FnScope N_check_rows ["prime", "values"] (defScope s_check_rows) := ⟨rfl, rfl, rfl, by decide +kernel, rfl, by decide +kernel, by decide +kernel⟩
abbrev s_check_width : Stmt := top 37
abbrev N_check_width : List Str := ["width", "rows", "row"]
theorem sc_check_width : FnScope N_check_width ["width", "rows"] (defScope s_check_width) := ⟨rfl, rfl, rfl, by decide +kernel, rfl, by decide +kernel, by decide +kernel⟩
abbrev s_goal_row : Stmt := top 38
abbrev N_goal_row : List Str := ["width"]
theorem sc_goal_row : FnScope N_goal_row ["width"] (defScope s_goal_row) := ⟨rfl, rfl, rfl, by decide +kernel, rfl, by decide +kernel, by decide +kernel⟩
abbrev s_factors_for : Stmt := top 39
abbrev N_factors_for : List Str := ["prime", "rows", "goal", "equations", "row", "at"]
theorem sc_factors_for : FnScope N_factors_for ["prime", "rows", "goal"] (defScope s_factors_for) := ⟨rfl, rfl, rfl, by decide +kernel, rfl, by decide +kernel, by decide +kernel⟩
abbrev s_solved : Stmt := top 40
abbrev N_solved : List Str := ["prime", "equations", "many", "found", "numbers", "lead", "equation"]
theorem sc_solved : FnScope N_solved ["prime", "equations", "many"] (defScope s_solved) := ⟨rfl, rfl, rfl, by decide +kernel, rfl, by decide +kernel, by decide +kernel⟩
abbrev s_is_unsolvable : Stmt := top 41
abbrev N_is_unsolvable : List Str := ["found", "many", "lead", "equation"]
theorem sc_is_unsolvable : FnScope N_is_unsolvable ["found", "many"] (defScope s_is_unsolvable) := ⟨rfl, rfl, rfl, by decide +kernel, rfl, by decide +kernel, by decide +kernel⟩
abbrev s_reduced : Stmt := top 42
abbrev N_reduced : List Str := ["prime", "rows", "found", "row", "left", "lead", "known", "places", "at", "number", "first", "factor", "fresh"]
theorem sc_reduced : FnScope N_reduced ["prime", "rows"] (defScope s_reduced) := ⟨rfl, rfl, rfl, by decide +kernel, rfl, by decide +kernel, by decide +kernel⟩
abbrev s_less : Stmt := top 43
abbrev N_less : List Str := ["prime", "row", "factor", "other", "number", "taken"]
theorem sc_less : FnScope N_less ["prime", "row", "factor", "other"] (defScope s_less) := ⟨rfl, rfl, rfl, by decide +kernel, rfl, by decide +kernel, by decide +kernel⟩
abbrev s_inverse : Stmt := top 44
abbrev N_inverse : List Str := ["prime", "number", "other"]
theorem sc_inverse : FnScope N_inverse ["prime", "number"] (defScope s_inverse) := ⟨rfl, rfl, rfl, by decide +kernel, rfl, by decide +kernel, by decide +kernel⟩
abbrev s_Scheme__init_ : Stmt := inClass (top 47) 0
abbrev N_Scheme__init_ : List Str := ["self", "prime", "width", "rows", "persons", "name"]
theorem sc_Scheme__init_ : FnScope N_Scheme__init_ ["self", "prime", "width", "rows"] (defScope s_Scheme__init_) := ⟨rfl, rfl, rfl, by decide +kernel, rfl, by decide +kernel, by decide +kernel⟩
abbrev s_Scheme_prime : Stmt := inClass (top 47) 1
abbrev N_Scheme_prime : List Str := ["self"]
theorem sc_Scheme_prime : FnScope N_Scheme_prime ["self"] (defScope s_Scheme_prime) := ⟨rfl, rfl, rfl, by decide +kernel, rfl, by decide +kernel, by decide +kernel⟩
abbrev s_Scheme_width : Stmt := inClass (top 47) 2
abbrev N_Scheme_width : List Str := ["self"]
theorem sc_Scheme_width : FnScope N_Scheme_width ["self"] (defScope s_Scheme_width) := ⟨rfl, rfl, rfl, by decide +kernel, rfl, by decide +kernel, by decide +kernel⟩
abbrev s_Scheme_persons : Stmt := inClass (top 47) 3
abbrev N_Scheme_persons : List Str := ["self"]
theorem sc_Scheme_persons : FnScope N_Scheme_persons ["self"] (defScope s_Scheme_persons) := ⟨rfl, rfl, rfl, by decide +kernel, rfl, by decide +kernel, by decide +kernel⟩
abbrev s_Scheme_rows : Stmt := inClass (top 47) 5
abbrev N_Scheme_rows : List Str := ["self", "name"]
theorem sc_Scheme_rows : FnScope N_Scheme_rows ["self", "name"] (defScope s_Scheme_rows) := ⟨rfl, rfl, rfl, by decide +kernel, rfl, by decide +kernel, by decide +kernel⟩
abbrev s_Scheme_opens : Stmt := inClass (top 47) 8
abbrev N_Scheme_opens : List Str := ["self", "group"]
theorem sc_Scheme_opens : FnScope N_Scheme_opens ["self", "group"] (defScope s_Scheme_opens) := ⟨rfl, rfl, rfl, by decide +kernel, rfl, by decide +kernel, by decide +kernel⟩
abbrev s_check_rows_of_person : Stmt := top 48
abbrev N_check_rows_of_person : List Str := ["prime", "width", "rows", "value"]
theorem sc_check_rows_of_person : FnScope N_check_rows_of_person ["prime", "width", "rows"] (defScope s_check_rows_of_person) := ⟨rfl, rfl, rfl, by decide +kernel, rfl, by decide +kernel, by decide +kernel⟩
abbrev s_rows_of_group : Stmt := top 49
abbrev N_rows_of_group : List Str := ["scheme", "group", "name", "row"]
theorem sc_rows_of_group : FnScope N_rows_of_group ["scheme", "group"] (defScope s_rows_of_group) := ⟨rfl, rfl, rfl, by decide +kernel, rfl, by decide +kernel, by decide +kernel⟩
abbrev s_goal_factors : Stmt := top 50
abbrev N_goal_factors : List Str := ["scheme", "group"]
theorem sc_goal_factors : FnScope N_goal_factors ["scheme", "group"] (defScope s_goal_factors) := ⟨rfl, rfl, rfl, by decide +kernel, rfl, by decide +kernel, by decide +kernel⟩
abbrev s_fits : Stmt := top 51
abbrev N_fits : List Str := ["scheme", "family", "group"]
theorem sc_fits : FnScope N_fits ["scheme", "family"] (defScope s_fits) := ⟨rfl, rfl, rfl, by decide +kernel, rfl, by decide +kernel, by decide +kernel⟩
abbrev s_threshold_scheme : Stmt := top 53
abbrev N_threshold_scheme : List Str := ["persons", "many", "prime", "names", "at", "name"]
theorem sc_threshold_scheme : FnScope N_threshold_scheme ["persons", "many", "prime"] (defScope s_threshold_scheme) := ⟨rfl, rfl, rfl, by decide +kernel, rfl, by decide +kernel, by decide +kernel⟩
abbrev s_powers : Stmt := top 54
abbrev N_powers : List Str := ["prime", "number", "many", "found"]
theorem sc_powers : FnScope N_powers ["prime", "number", "many"] (defScope s_powers) := ⟨rfl, rfl, rfl, by decide +kernel, rfl, by decide +kernel, by decide +kernel⟩
abbrev s_law_start : Stmt := top 56
abbrev N_law_start : List Str := ["_law_script", "_law_cell"]
theorem sc_law_start : FnScope N_law_start ["_law_script"] (defScope s_law_start) := ⟨rfl, rfl, rfl, by decide +kernel, rfl, by decide +kernel, by decide +kernel⟩
abbrev s_law_take : Stmt := top 57
abbrev N_law_take : List Str := ["_law_state", "_law_limit", "_law_cells", "_law_at", "_law_cell", "_law_number"]
theorem sc_law_take : FnScope N_law_take ["_law_state", "_law_limit"] (defScope s_law_take) := ⟨rfl, rfl, rfl, by decide +kernel, rfl, by decide +kernel, by decide +kernel⟩
abbrev s_law_shuffled : Stmt := top 58
abbrev N_law_shuffled : List Str := ["_law_state", "_law_items", "_law_left", "_law_told_here", "_law_k"]
theorem sc_law_shuffled : FnScope N_law_shuffled ["_law_state", "_law_items"] (defScope s_law_shuffled) := ⟨rfl, rfl, rfl, by decide +kernel, rfl, by decide +kernel, by decide +kernel⟩
abbrev s_law_persons : Stmt := top 59
abbrev N_law_persons : List Str := ["_law_state", "_law_most", "_law_lists", "_law_words"]
theorem sc_law_persons : FnScope N_law_persons ["_law_state", "_law_most"] (defScope s_law_persons) := ⟨rfl, rfl, rfl, by decide +kernel, rfl, by decide +kernel, by decide +kernel⟩
abbrev s_law_groups : Stmt := top 60
abbrev N_law_groups : List Str := ["_law_names", "_law_rows", "_law_name", "_law_row", "_law_size"]
theorem sc_law_groups : FnScope N_law_groups ["_law_names"] (defScope s_law_groups) := ⟨rfl, rfl, rfl, by decide +kernel, rfl, by decide +kernel, by decide +kernel⟩
abbrev s_law_reduced : Stmt := top 61
abbrev N_law_reduced : List Str := ["_law_prime1", "_law_rows", "_law_left", "_law_row", "_law_found", "_law_width", "_law_place", "_law_leads", "_law_lead", "_law_back", "_law_number"]
theorem sc_law_reduced : FnScope N_law_reduced ["_law_prime1", "_law_rows"] (defScope s_law_reduced) := ⟨rfl, rfl, rfl, by decide +kernel, rfl, by decide +kernel, by decide +kernel⟩
abbrev s_law_minus : Stmt := top 62
abbrev N_law_minus : List Str := ["_law_prime1", "_law_row", "_law_lead", "_law_place", "_law_head", "_law_k"]
theorem sc_law_minus : FnScope N_law_minus ["_law_prime1", "_law_row", "_law_lead", "_law_place"] (defScope s_law_minus) := ⟨rfl, rfl, rfl, by decide +kernel, rfl, by decide +kernel, by decide +kernel⟩
abbrev s_law_rank : Stmt := top 63
abbrev N_law_rank : List Str := ["_law_prime1", "_law_rows"]
theorem sc_law_rank : FnScope N_law_rank ["_law_prime1", "_law_rows"] (defScope s_law_rank) := ⟨rfl, rfl, rfl, by decide +kernel, rfl, by decide +kernel, by decide +kernel⟩
abbrev s_law_goal : Stmt := top 64
abbrev N_law_goal : List Str := ["_law_width"]
theorem sc_law_goal : FnScope N_law_goal ["_law_width"] (defScope s_law_goal) := ⟨rfl, rfl, rfl, by decide +kernel, rfl, by decide +kernel, by decide +kernel⟩
abbrev s_law_spans : Stmt := top 65
abbrev N_law_spans : List Str := ["_law_prime1", "_law_rows", "_law_goal_here"]
theorem sc_law_spans : FnScope N_law_spans ["_law_prime1", "_law_rows", "_law_goal_here"] (defScope s_law_spans) := ⟨rfl, rfl, rfl, by decide +kernel, rfl, by decide +kernel, by decide +kernel⟩
abbrev s_law_good : Stmt := top 66
abbrev N_law_good : List Str := ["_law_word", "_law_letters", "_law_sign"]
theorem sc_law_good : FnScope N_law_good ["_law_word"] (defScope s_law_good) := ⟨rfl, rfl, rfl, by decide +kernel, rfl, by decide +kernel, by decide +kernel⟩
abbrev s_law_due : Stmt := top 67
abbrev N_law_due : List Str := ["_law_labels", "_law_least", "_law_base", "_law_k"]
theorem sc_law_due : FnScope N_law_due ["_law_labels", "_law_least", "_law_base"] (defScope s_law_due) := ⟨rfl, rfl, rfl, by decide +kernel, rfl, by decide +kernel, by decide +kernel⟩
abbrev s_law_told : Stmt := top 68
abbrev N_law_told : List Str := ["_law_way", "_law_labels", "_law_least", "_law_base", "e"]
theorem sc_law_told : FnScope N_law_told ["_law_way", "_law_labels", "_law_least", "_law_base"] (defScope s_law_told) := ⟨rfl, rfl, rfl, by decide +kernel, rfl, by decide +kernel, by decide +kernel⟩
abbrev s_law_right : Stmt := top 69
abbrev N_law_right : List Str := ["_law_names", "_law_least", "_law_base", "_law_scheme", "_law_rows", "_law_k", "_law_power", "_law_row", "_law_place", "_law_name", "_law_group", "_law_opens"]
theorem sc_law_right : FnScope N_law_right ["_law_names", "_law_least", "_law_base", "_law_scheme"] (defScope s_law_right) := ⟨rfl, rfl, rfl, by decide +kernel, rfl, by decide +kernel, by decide +kernel⟩
abbrev s_law : Stmt := top 70
abbrev N_law : List Str := ["_law_script", "_law_state", "_law_turn", "_law_labels", "_law_least", "_law_base", "_law_plan", "_law_odd", "_law_step", "_law_passed", "_law_due_here", "_law_handed", "_law_kind", "_law_scheme"]
theorem sc_law : FnScope N_law ["_law_script"] (defScope s_law) := ⟨rfl, rfl, rfl, by decide +kernel, rfl, by decide +kernel, by decide +kernel⟩
structure Txt (K : PySem.W.Frag) (mg : Str → Option Value) where
  f_BadName__init_ : Addr
  fd_BadName__init_ : FuncData
  F_BadName__init_ : Fun K "__init__" "BadName.__init__" s_BadName__init_ f_BadName__init_ fd_BadName__init_
  b_BadName__init_ : Binds K fd_BadName__init_ ["self", "name"] []
  f_DuplicateName__init_ : Addr
  fd_DuplicateName__init_ : FuncData
  F_DuplicateName__init_ : Fun K "__init__" "DuplicateName.__init__" s_DuplicateName__init_ f_DuplicateName__init_ fd_DuplicateName__init_
  b_DuplicateName__init_ : Binds K fd_DuplicateName__init_ ["self", "name"] []
  f_UnknownName__init_ : Addr
  fd_UnknownName__init_ : FuncData
  F_UnknownName__init_ : Fun K "__init__" "UnknownName.__init__" s_UnknownName__init_ f_UnknownName__init_ fd_UnknownName__init_
  b_UnknownName__init_ : Binds K fd_UnknownName__init_ ["self", "name"] []
  f_BadCount__init_ : Addr
  fd_BadCount__init_ : FuncData
  F_BadCount__init_ : Fun K "__init__" "BadCount.__init__" s_BadCount__init_ f_BadCount__init_ fd_BadCount__init_
  b_BadCount__init_ : Binds K fd_BadCount__init_ ["self", "count"] []
  f_BadGroup__init_ : Addr
  fd_BadGroup__init_ : FuncData
  F_BadGroup__init_ : Fun K "__init__" "BadGroup.__init__" s_BadGroup__init_ f_BadGroup__init_ fd_BadGroup__init_
  b_BadGroup__init_ : Binds K fd_BadGroup__init_ ["self", "value"] []
  f_BadPrime__init_ : Addr
  fd_BadPrime__init_ : FuncData
  F_BadPrime__init_ : Fun K "__init__" "BadPrime.__init__" s_BadPrime__init_ f_BadPrime__init_ fd_BadPrime__init_
  b_BadPrime__init_ : Binds K fd_BadPrime__init_ ["self", "number"] []
  f_BadRow__init_ : Addr
  fd_BadRow__init_ : FuncData
  F_BadRow__init_ : Fun K "__init__" "BadRow.__init__" s_BadRow__init_ f_BadRow__init_ fd_BadRow__init_
  b_BadRow__init_ : Binds K fd_BadRow__init_ ["self", "value"] []
  f_valid_name : Addr
  fd_valid_name : FuncData
  F_valid_name : Fun K "valid_name" "valid_name" s_valid_name f_valid_name fd_valid_name
  b_valid_name : Binds K fd_valid_name ["text"] []
  g_valid_name : mg "valid_name" = some (.ref f_valid_name)
  f_all_groups : Addr
  fd_all_groups : FuncData
  F_all_groups : Fun K "all_groups" "all_groups" s_all_groups f_all_groups fd_all_groups
  b_all_groups : Binds K fd_all_groups ["persons"] []
  g_all_groups : mg "all_groups" = some (.ref f_all_groups)
  f_is_group : Addr
  fd_is_group : FuncData
  F_is_group : Fun K "is_group" "is_group" s_is_group f_is_group fd_is_group
  b_is_group : Binds K fd_is_group ["persons", "value"] []
  g_is_group : mg "is_group" = some (.ref f_is_group)
  f_contains : Addr
  fd_contains : FuncData
  F_contains : Fun K "contains" "contains" s_contains f_contains fd_contains
  b_contains : Binds K fd_contains ["group", "other"] []
  g_contains : mg "contains" = some (.ref f_contains)
  f_checked_persons : Addr
  fd_checked_persons : FuncData
  F_checked_persons : Fun K "checked_persons" "checked_persons" s_checked_persons f_checked_persons fd_checked_persons
  b_checked_persons : Binds K fd_checked_persons ["persons"] []
  g_checked_persons : mg "checked_persons" = some (.ref f_checked_persons)
  f_check_groups : Addr
  fd_check_groups : FuncData
  F_check_groups : Fun K "check_groups" "check_groups" s_check_groups f_check_groups fd_check_groups
  b_check_groups : Binds K fd_check_groups ["persons", "groups"] []
  g_check_groups : mg "check_groups" = some (.ref f_check_groups)
  f_least_groups : Addr
  fd_least_groups : FuncData
  F_least_groups : Fun K "least_groups" "least_groups" s_least_groups f_least_groups fd_least_groups
  b_least_groups : Binds K fd_least_groups ["persons", "groups"] []
  g_least_groups : mg "least_groups" = some (.ref f_least_groups)
  f_contains_another : Addr
  fd_contains_another : FuncData
  F_contains_another : Fun K "contains_another" "contains_another" s_contains_another f_contains_another fd_contains_another
  b_contains_another : Binds K fd_contains_another ["group", "groups"] []
  g_contains_another : mg "contains_another" = some (.ref f_contains_another)
  f_Family__init_ : Addr
  fd_Family__init_ : FuncData
  F_Family__init_ : Fun K "__init__" "Family.__init__" s_Family__init_ f_Family__init_ fd_Family__init_
  b_Family__init_ : Binds K fd_Family__init_ ["self", "persons", "groups"] []
  f_Family_threshold : Addr
  fd_Family_threshold : FuncData
  F_Family_threshold : Fun K "threshold" "Family.threshold" s_Family_threshold f_Family_threshold fd_Family_threshold
  b_Family_threshold : Binds K fd_Family_threshold ["cls", "persons", "many"] []
  f_Family_persons : Addr
  fd_Family_persons : FuncData
  F_Family_persons : Fun K "persons" "Family.persons" s_Family_persons f_Family_persons fd_Family_persons
  b_Family_persons : Binds K fd_Family_persons ["self"] []
  f_Family_opens : Addr
  fd_Family_opens : FuncData
  F_Family_opens : Fun K "opens" "Family.opens" s_Family_opens f_Family_opens fd_Family_opens
  b_Family_opens : Binds K fd_Family_opens ["self", "group"] []
  f_check_prime : Addr
  fd_check_prime : FuncData
  F_check_prime : Fun K "check_prime" "check_prime" s_check_prime f_check_prime fd_check_prime
  b_check_prime : Binds K fd_check_prime ["prime"] []
  g_check_prime : mg "check_prime" = some (.ref f_check_prime)
  f_is_whole : Addr
  fd_is_whole : FuncData
  F_is_whole : Fun K "is_whole" "is_whole" s_is_whole f_is_whole fd_is_whole
  b_is_whole : Binds K fd_is_whole ["value"] []
  g_is_whole : mg "is_whole" = some (.ref f_is_whole)
  f_is_number : Addr
  fd_is_number : FuncData
  F_is_number : Fun K "is_number" "is_number" s_is_number f_is_number fd_is_number
  b_is_number : Binds K fd_is_number ["prime", "value"] []
  g_is_number : mg "is_number" = some (.ref f_is_number)
  f_has_numbers : Addr
  fd_has_numbers : FuncData
  F_has_numbers : Fun K "has_numbers" "has_numbers" s_has_numbers f_has_numbers fd_has_numbers
  b_has_numbers : Binds K fd_has_numbers ["prime", "value", "many"] []
  g_has_numbers : mg "has_numbers" = some (.ref f_has_numbers)
  f_check_rows : Addr
  fd_check_rows : FuncData
  F_check_rows : Fun K "check_rows" "check_rows" s_check_rows f_check_rows fd_check_rows
  b_check_rows : Binds K fd_check_rows ["prime", "values"] []
  g_check_rows : mg "check_rows" = some (.ref f_check_rows)
  f_check_width : Addr
  fd_check_width : FuncData
  F_check_width : Fun K "check_width" "check_width" s_check_width f_check_width fd_check_width
  b_check_width : Binds K fd_check_width ["width", "rows"] []
  g_check_width : mg "check_width" = some (.ref f_check_width)
  f_goal_row : Addr
  fd_goal_row : FuncData
  F_goal_row : Fun K "goal_row" "goal_row" s_goal_row f_goal_row fd_goal_row
  b_goal_row : Binds K fd_goal_row ["width"] []
  g_goal_row : mg "goal_row" = some (.ref f_goal_row)
  f_factors_for : Addr
  fd_factors_for : FuncData
  F_factors_for : Fun K "factors_for" "factors_for" s_factors_for f_factors_for fd_factors_for
  b_factors_for : Binds K fd_factors_for ["prime", "rows", "goal"] []
  g_factors_for : mg "factors_for" = some (.ref f_factors_for)
  f_solved : Addr
  fd_solved : FuncData
  F_solved : Fun K "solved" "solved" s_solved f_solved fd_solved
  b_solved : Binds K fd_solved ["prime", "equations", "many"] []
  g_solved : mg "solved" = some (.ref f_solved)
  f_is_unsolvable : Addr
  fd_is_unsolvable : FuncData
  F_is_unsolvable : Fun K "is_unsolvable" "is_unsolvable" s_is_unsolvable f_is_unsolvable fd_is_unsolvable
  b_is_unsolvable : Binds K fd_is_unsolvable ["found", "many"] []
  g_is_unsolvable : mg "is_unsolvable" = some (.ref f_is_unsolvable)
  f_reduced : Addr
  fd_reduced : FuncData
  F_reduced : Fun K "reduced" "reduced" s_reduced f_reduced fd_reduced
  b_reduced : Binds K fd_reduced ["prime", "rows"] []
  g_reduced : mg "reduced" = some (.ref f_reduced)
  f_less : Addr
  fd_less : FuncData
  F_less : Fun K "less" "less" s_less f_less fd_less
  b_less : Binds K fd_less ["prime", "row", "factor", "other"] []
  g_less : mg "less" = some (.ref f_less)
  f_inverse : Addr
  fd_inverse : FuncData
  F_inverse : Fun K "inverse" "inverse" s_inverse f_inverse fd_inverse
  b_inverse : Binds K fd_inverse ["prime", "number"] []
  g_inverse : mg "inverse" = some (.ref f_inverse)
  f_Scheme__init_ : Addr
  fd_Scheme__init_ : FuncData
  F_Scheme__init_ : Fun K "__init__" "Scheme.__init__" s_Scheme__init_ f_Scheme__init_ fd_Scheme__init_
  b_Scheme__init_ : Binds K fd_Scheme__init_ ["self", "prime", "width", "rows"] []
  f_Scheme_prime : Addr
  fd_Scheme_prime : FuncData
  F_Scheme_prime : Fun K "prime" "Scheme.prime" s_Scheme_prime f_Scheme_prime fd_Scheme_prime
  b_Scheme_prime : Binds K fd_Scheme_prime ["self"] []
  f_Scheme_width : Addr
  fd_Scheme_width : FuncData
  F_Scheme_width : Fun K "width" "Scheme.width" s_Scheme_width f_Scheme_width fd_Scheme_width
  b_Scheme_width : Binds K fd_Scheme_width ["self"] []
  f_Scheme_persons : Addr
  fd_Scheme_persons : FuncData
  F_Scheme_persons : Fun K "persons" "Scheme.persons" s_Scheme_persons f_Scheme_persons fd_Scheme_persons
  b_Scheme_persons : Binds K fd_Scheme_persons ["self"] []
  f_Scheme_rows : Addr
  fd_Scheme_rows : FuncData
  F_Scheme_rows : Fun K "rows" "Scheme.rows" s_Scheme_rows f_Scheme_rows fd_Scheme_rows
  b_Scheme_rows : Binds K fd_Scheme_rows ["self", "name"] []
  f_Scheme_opens : Addr
  fd_Scheme_opens : FuncData
  F_Scheme_opens : Fun K "opens" "Scheme.opens" s_Scheme_opens f_Scheme_opens fd_Scheme_opens
  b_Scheme_opens : Binds K fd_Scheme_opens ["self", "group"] []
  f_check_rows_of_person : Addr
  fd_check_rows_of_person : FuncData
  F_check_rows_of_person : Fun K "check_rows_of_person" "check_rows_of_person" s_check_rows_of_person f_check_rows_of_person fd_check_rows_of_person
  b_check_rows_of_person : Binds K fd_check_rows_of_person ["prime", "width", "rows"] []
  g_check_rows_of_person : mg "check_rows_of_person" = some (.ref f_check_rows_of_person)
  f_rows_of_group : Addr
  fd_rows_of_group : FuncData
  F_rows_of_group : Fun K "rows_of_group" "rows_of_group" s_rows_of_group f_rows_of_group fd_rows_of_group
  b_rows_of_group : Binds K fd_rows_of_group ["scheme", "group"] []
  g_rows_of_group : mg "rows_of_group" = some (.ref f_rows_of_group)
  f_goal_factors : Addr
  fd_goal_factors : FuncData
  F_goal_factors : Fun K "goal_factors" "goal_factors" s_goal_factors f_goal_factors fd_goal_factors
  b_goal_factors : Binds K fd_goal_factors ["scheme", "group"] []
  g_goal_factors : mg "goal_factors" = some (.ref f_goal_factors)
  f_fits : Addr
  fd_fits : FuncData
  F_fits : Fun K "fits" "fits" s_fits f_fits fd_fits
  b_fits : Binds K fd_fits ["scheme", "family"] []
  g_fits : mg "fits" = some (.ref f_fits)
  f_threshold_scheme : Addr
  fd_threshold_scheme : FuncData
  F_threshold_scheme : Fun K "threshold_scheme" "threshold_scheme" s_threshold_scheme f_threshold_scheme fd_threshold_scheme
  b_threshold_scheme : Binds K fd_threshold_scheme ["persons", "many", "prime"] []
  g_threshold_scheme : mg "threshold_scheme" = some (.ref f_threshold_scheme)
  f_powers : Addr
  fd_powers : FuncData
  F_powers : Fun K "powers" "powers" s_powers f_powers fd_powers
  b_powers : Binds K fd_powers ["prime", "number", "many"] []
  g_powers : mg "powers" = some (.ref f_powers)
  f_law_start : Addr
  fd_law_start : FuncData
  F_law_start : Fun K "_law_start" "_law_start" s_law_start f_law_start fd_law_start
  b_law_start : Binds K fd_law_start ["_law_script"] []
  g_law_start : mg "_law_start" = some (.ref f_law_start)
  f_law_take : Addr
  fd_law_take : FuncData
  F_law_take : Fun K "_law_take" "_law_take" s_law_take f_law_take fd_law_take
  b_law_take : Binds K fd_law_take ["_law_state", "_law_limit"] []
  g_law_take : mg "_law_take" = some (.ref f_law_take)
  f_law_shuffled : Addr
  fd_law_shuffled : FuncData
  F_law_shuffled : Fun K "_law_shuffled" "_law_shuffled" s_law_shuffled f_law_shuffled fd_law_shuffled
  b_law_shuffled : Binds K fd_law_shuffled ["_law_state", "_law_items"] []
  g_law_shuffled : mg "_law_shuffled" = some (.ref f_law_shuffled)
  f_law_persons : Addr
  fd_law_persons : FuncData
  F_law_persons : Fun K "_law_persons" "_law_persons" s_law_persons f_law_persons fd_law_persons
  b_law_persons : Binds K fd_law_persons ["_law_state", "_law_most"] []
  g_law_persons : mg "_law_persons" = some (.ref f_law_persons)
  f_law_groups : Addr
  fd_law_groups : FuncData
  F_law_groups : Fun K "_law_groups" "_law_groups" s_law_groups f_law_groups fd_law_groups
  b_law_groups : Binds K fd_law_groups ["_law_names"] []
  g_law_groups : mg "_law_groups" = some (.ref f_law_groups)
  f_law_reduced : Addr
  fd_law_reduced : FuncData
  F_law_reduced : Fun K "_law_reduced" "_law_reduced" s_law_reduced f_law_reduced fd_law_reduced
  b_law_reduced : Binds K fd_law_reduced ["_law_prime1", "_law_rows"] []
  g_law_reduced : mg "_law_reduced" = some (.ref f_law_reduced)
  f_law_minus : Addr
  fd_law_minus : FuncData
  F_law_minus : Fun K "_law_minus" "_law_minus" s_law_minus f_law_minus fd_law_minus
  b_law_minus : Binds K fd_law_minus ["_law_prime1", "_law_row", "_law_lead", "_law_place"] []
  g_law_minus : mg "_law_minus" = some (.ref f_law_minus)
  f_law_rank : Addr
  fd_law_rank : FuncData
  F_law_rank : Fun K "_law_rank" "_law_rank" s_law_rank f_law_rank fd_law_rank
  b_law_rank : Binds K fd_law_rank ["_law_prime1", "_law_rows"] []
  g_law_rank : mg "_law_rank" = some (.ref f_law_rank)
  f_law_goal : Addr
  fd_law_goal : FuncData
  F_law_goal : Fun K "_law_goal" "_law_goal" s_law_goal f_law_goal fd_law_goal
  b_law_goal : Binds K fd_law_goal ["_law_width"] []
  g_law_goal : mg "_law_goal" = some (.ref f_law_goal)
  f_law_spans : Addr
  fd_law_spans : FuncData
  F_law_spans : Fun K "_law_spans" "_law_spans" s_law_spans f_law_spans fd_law_spans
  b_law_spans : Binds K fd_law_spans ["_law_prime1", "_law_rows", "_law_goal_here"] []
  g_law_spans : mg "_law_spans" = some (.ref f_law_spans)
  f_law_good : Addr
  fd_law_good : FuncData
  F_law_good : Fun K "_law_good" "_law_good" s_law_good f_law_good fd_law_good
  b_law_good : Binds K fd_law_good ["_law_word"] []
  g_law_good : mg "_law_good" = some (.ref f_law_good)
  f_law_due : Addr
  fd_law_due : FuncData
  F_law_due : Fun K "_law_due" "_law_due" s_law_due f_law_due fd_law_due
  b_law_due : Binds K fd_law_due ["_law_labels", "_law_least", "_law_base"] []
  g_law_due : mg "_law_due" = some (.ref f_law_due)
  f_law_told : Addr
  fd_law_told : FuncData
  F_law_told : Fun K "_law_told" "_law_told" s_law_told f_law_told fd_law_told
  b_law_told : Binds K fd_law_told ["_law_way", "_law_labels", "_law_least", "_law_base"] []
  g_law_told : mg "_law_told" = some (.ref f_law_told)
  f_law_right : Addr
  fd_law_right : FuncData
  F_law_right : Fun K "_law_right" "_law_right" s_law_right f_law_right fd_law_right
  b_law_right : Binds K fd_law_right ["_law_names", "_law_least", "_law_base", "_law_scheme"] []
  g_law_right : mg "_law_right" = some (.ref f_law_right)
  f_law : Addr
  fd_law : FuncData
  F_law : Fun K "law" "law" s_law f_law fd_law
  b_law : Binds K fd_law ["_law_script"] []
  g_law : mg "law" = some (.ref f_law)
  t_LETTERS : Tok
  c_LETTERS : mg "LETTERS" = some (.str "abcdefghijklmnopqrstuvwxyz" t_LETTERS)
  t_DIGITS : Tok
  c_DIGITS : mg "DIGITS" = some (.str "0123456789" t_DIGITS)
  t_LONGEST_NAME : Tok
  c_LONGEST_NAME : mg "LONGEST_NAME" = some (.int 6 t_LONGEST_NAME)
  t_MOST_PERSONS : Tok
  c_MOST_PERSONS : mg "MOST_PERSONS" = some (.int 5 t_MOST_PERSONS)
  t_MOST_WIDTH : Tok
  c_MOST_WIDTH : mg "MOST_WIDTH" = some (.int 40 t_MOST_WIDTH)
  t_MOST_ROWS : Tok
  c_MOST_ROWS : mg "MOST_ROWS" = some (.int 16 t_MOST_ROWS)
  n_set : mg "set" = none
  n_len : mg "len" = none
  n_all : mg "all" = none
  n_any : mg "any" = none
  n_abs : mg "abs" = none
  n_list : mg "list" = none
  n_int : mg "int" = none
  n_range : mg "range" = none
  n_isinstance : mg "isinstance" = none
  n_tuple : mg "tuple" = none
  n_sorted : mg "sorted" = none
  n_enumerate : mg "enumerate" = none
  n_zip : mg "zip" = none
  n_sum : mg "sum" = none
  n_max : mg "max" = none
  n_bool : mg "bool" = none
  kb_threshold_scheme_prime_many_persons : KBinds K fd_threshold_scheme ["persons", "many", "prime"] ["prime", "many", "persons"] (fun us ws => match us, ws with | [], [x0, x1, x2] => [x2, x1, x0] | _, _ => List.replicate 4 Value.none) (fun us ws => match us, ws with | [], [x0, x1, x2] => [x2, x1, x0] | _, _ => List.replicate 4 V.non)
  C_BadName : Addr
  g_BadName : mg "BadName" = some (.ref C_BadName)
  er_BadName : ErrT K C_BadName
  iC_BadName : PySem.W.findIn K (.ref C_BadName) "__init__" = some (some (.ref f_BadName__init_))
  tI_BadName : PySem.W.typeIn K (.ref f_BadName__init_) = some (.type "function")
  nf_BadName : PySem.W.findIn K (.ref C_BadName) "name" = some none
  C_DuplicateName : Addr
  g_DuplicateName : mg "DuplicateName" = some (.ref C_DuplicateName)
  er_DuplicateName : ErrT K C_DuplicateName
  iC_DuplicateName : PySem.W.findIn K (.ref C_DuplicateName) "__init__" = some (some (.ref f_DuplicateName__init_))
  tI_DuplicateName : PySem.W.typeIn K (.ref f_DuplicateName__init_) = some (.type "function")
  nf_DuplicateName : PySem.W.findIn K (.ref C_DuplicateName) "name" = some none
  C_UnknownName : Addr
  g_UnknownName : mg "UnknownName" = some (.ref C_UnknownName)
  er_UnknownName : ErrT K C_UnknownName
  iC_UnknownName : PySem.W.findIn K (.ref C_UnknownName) "__init__" = some (some (.ref f_UnknownName__init_))
  tI_UnknownName : PySem.W.typeIn K (.ref f_UnknownName__init_) = some (.type "function")
  nf_UnknownName : PySem.W.findIn K (.ref C_UnknownName) "name" = some none
  C_BadCount : Addr
  g_BadCount : mg "BadCount" = some (.ref C_BadCount)
  er_BadCount : ErrT K C_BadCount
  iC_BadCount : PySem.W.findIn K (.ref C_BadCount) "__init__" = some (some (.ref f_BadCount__init_))
  tI_BadCount : PySem.W.typeIn K (.ref f_BadCount__init_) = some (.type "function")
  nf_BadCount : PySem.W.findIn K (.ref C_BadCount) "count" = some none
  C_BadGroup : Addr
  g_BadGroup : mg "BadGroup" = some (.ref C_BadGroup)
  er_BadGroup : ErrT K C_BadGroup
  iC_BadGroup : PySem.W.findIn K (.ref C_BadGroup) "__init__" = some (some (.ref f_BadGroup__init_))
  tI_BadGroup : PySem.W.typeIn K (.ref f_BadGroup__init_) = some (.type "function")
  nf_BadGroup : PySem.W.findIn K (.ref C_BadGroup) "value" = some none
  C_BadPrime : Addr
  g_BadPrime : mg "BadPrime" = some (.ref C_BadPrime)
  er_BadPrime : ErrT K C_BadPrime
  iC_BadPrime : PySem.W.findIn K (.ref C_BadPrime) "__init__" = some (some (.ref f_BadPrime__init_))
  tI_BadPrime : PySem.W.typeIn K (.ref f_BadPrime__init_) = some (.type "function")
  nf_BadPrime : PySem.W.findIn K (.ref C_BadPrime) "number" = some none
  C_BadRow : Addr
  g_BadRow : mg "BadRow" = some (.ref C_BadRow)
  er_BadRow : ErrT K C_BadRow
  iC_BadRow : PySem.W.findIn K (.ref C_BadRow) "__init__" = some (some (.ref f_BadRow__init_))
  tI_BadRow : PySem.W.typeIn K (.ref f_BadRow__init_) = some (.type "function")
  nf_BadRow : PySem.W.findIn K (.ref C_BadRow) "value" = some none
  C_NoGroup : Addr
  g_NoGroup : mg "NoGroup" = some (.ref C_NoGroup)
  er_NoGroup : ErrT K C_NoGroup
  q_NoGroup : PySem.W.excIn K C_NoGroup [.type "ValueError", .type "Exception", .type "BaseException", .type "object"] "ValueError.__new__" = true
  k_NoGroup : PySem.W.keepIn K (.ref C_NoGroup) = true
  ex_BadName_BadName : PySem.W.exmOne K (.ref C_BadName) (.ref C_BadName) = some true
  ex_BadName_DuplicateName : PySem.W.exmOne K (.ref C_BadName) (.ref C_DuplicateName) = some false
  ex_BadName_UnknownName : PySem.W.exmOne K (.ref C_BadName) (.ref C_UnknownName) = some false
  ex_BadName_BadCount : PySem.W.exmOne K (.ref C_BadName) (.ref C_BadCount) = some false
  ex_BadName_BadGroup : PySem.W.exmOne K (.ref C_BadName) (.ref C_BadGroup) = some false
  ex_BadName_BadPrime : PySem.W.exmOne K (.ref C_BadName) (.ref C_BadPrime) = some false
  ex_BadName_BadRow : PySem.W.exmOne K (.ref C_BadName) (.ref C_BadRow) = some false
  ex_BadName_NoGroup : PySem.W.exmOne K (.ref C_BadName) (.ref C_NoGroup) = some false
  ex_DuplicateName_BadName : PySem.W.exmOne K (.ref C_DuplicateName) (.ref C_BadName) = some false
  ex_DuplicateName_DuplicateName : PySem.W.exmOne K (.ref C_DuplicateName) (.ref C_DuplicateName) = some true
  ex_DuplicateName_UnknownName : PySem.W.exmOne K (.ref C_DuplicateName) (.ref C_UnknownName) = some false
  ex_DuplicateName_BadCount : PySem.W.exmOne K (.ref C_DuplicateName) (.ref C_BadCount) = some false
  ex_DuplicateName_BadGroup : PySem.W.exmOne K (.ref C_DuplicateName) (.ref C_BadGroup) = some false
  ex_DuplicateName_BadPrime : PySem.W.exmOne K (.ref C_DuplicateName) (.ref C_BadPrime) = some false
  ex_DuplicateName_BadRow : PySem.W.exmOne K (.ref C_DuplicateName) (.ref C_BadRow) = some false
  ex_DuplicateName_NoGroup : PySem.W.exmOne K (.ref C_DuplicateName) (.ref C_NoGroup) = some false
  ex_UnknownName_BadName : PySem.W.exmOne K (.ref C_UnknownName) (.ref C_BadName) = some false
  ex_UnknownName_DuplicateName : PySem.W.exmOne K (.ref C_UnknownName) (.ref C_DuplicateName) = some false
  ex_UnknownName_UnknownName : PySem.W.exmOne K (.ref C_UnknownName) (.ref C_UnknownName) = some true
  ex_UnknownName_BadCount : PySem.W.exmOne K (.ref C_UnknownName) (.ref C_BadCount) = some false
  ex_UnknownName_BadGroup : PySem.W.exmOne K (.ref C_UnknownName) (.ref C_BadGroup) = some false
  ex_UnknownName_BadPrime : PySem.W.exmOne K (.ref C_UnknownName) (.ref C_BadPrime) = some false
  ex_UnknownName_BadRow : PySem.W.exmOne K (.ref C_UnknownName) (.ref C_BadRow) = some false
  ex_UnknownName_NoGroup : PySem.W.exmOne K (.ref C_UnknownName) (.ref C_NoGroup) = some false
  ex_BadCount_BadName : PySem.W.exmOne K (.ref C_BadCount) (.ref C_BadName) = some false
  ex_BadCount_DuplicateName : PySem.W.exmOne K (.ref C_BadCount) (.ref C_DuplicateName) = some false
  ex_BadCount_UnknownName : PySem.W.exmOne K (.ref C_BadCount) (.ref C_UnknownName) = some false
  ex_BadCount_BadCount : PySem.W.exmOne K (.ref C_BadCount) (.ref C_BadCount) = some true
  ex_BadCount_BadGroup : PySem.W.exmOne K (.ref C_BadCount) (.ref C_BadGroup) = some false
  ex_BadCount_BadPrime : PySem.W.exmOne K (.ref C_BadCount) (.ref C_BadPrime) = some false
  ex_BadCount_BadRow : PySem.W.exmOne K (.ref C_BadCount) (.ref C_BadRow) = some false
  ex_BadCount_NoGroup : PySem.W.exmOne K (.ref C_BadCount) (.ref C_NoGroup) = some false
  ex_BadGroup_BadName : PySem.W.exmOne K (.ref C_BadGroup) (.ref C_BadName) = some false
  ex_BadGroup_DuplicateName : PySem.W.exmOne K (.ref C_BadGroup) (.ref C_DuplicateName) = some false
  ex_BadGroup_UnknownName : PySem.W.exmOne K (.ref C_BadGroup) (.ref C_UnknownName) = some false
  ex_BadGroup_BadCount : PySem.W.exmOne K (.ref C_BadGroup) (.ref C_BadCount) = some false
  ex_BadGroup_BadGroup : PySem.W.exmOne K (.ref C_BadGroup) (.ref C_BadGroup) = some true
  ex_BadGroup_BadPrime : PySem.W.exmOne K (.ref C_BadGroup) (.ref C_BadPrime) = some false
  ex_BadGroup_BadRow : PySem.W.exmOne K (.ref C_BadGroup) (.ref C_BadRow) = some false
  ex_BadGroup_NoGroup : PySem.W.exmOne K (.ref C_BadGroup) (.ref C_NoGroup) = some false
  ex_BadPrime_BadName : PySem.W.exmOne K (.ref C_BadPrime) (.ref C_BadName) = some false
  ex_BadPrime_DuplicateName : PySem.W.exmOne K (.ref C_BadPrime) (.ref C_DuplicateName) = some false
  ex_BadPrime_UnknownName : PySem.W.exmOne K (.ref C_BadPrime) (.ref C_UnknownName) = some false
  ex_BadPrime_BadCount : PySem.W.exmOne K (.ref C_BadPrime) (.ref C_BadCount) = some false
  ex_BadPrime_BadGroup : PySem.W.exmOne K (.ref C_BadPrime) (.ref C_BadGroup) = some false
  ex_BadPrime_BadPrime : PySem.W.exmOne K (.ref C_BadPrime) (.ref C_BadPrime) = some true
  ex_BadPrime_BadRow : PySem.W.exmOne K (.ref C_BadPrime) (.ref C_BadRow) = some false
  ex_BadPrime_NoGroup : PySem.W.exmOne K (.ref C_BadPrime) (.ref C_NoGroup) = some false
  ex_BadRow_BadName : PySem.W.exmOne K (.ref C_BadRow) (.ref C_BadName) = some false
  ex_BadRow_DuplicateName : PySem.W.exmOne K (.ref C_BadRow) (.ref C_DuplicateName) = some false
  ex_BadRow_UnknownName : PySem.W.exmOne K (.ref C_BadRow) (.ref C_UnknownName) = some false
  ex_BadRow_BadCount : PySem.W.exmOne K (.ref C_BadRow) (.ref C_BadCount) = some false
  ex_BadRow_BadGroup : PySem.W.exmOne K (.ref C_BadRow) (.ref C_BadGroup) = some false
  ex_BadRow_BadPrime : PySem.W.exmOne K (.ref C_BadRow) (.ref C_BadPrime) = some false
  ex_BadRow_BadRow : PySem.W.exmOne K (.ref C_BadRow) (.ref C_BadRow) = some true
  ex_BadRow_NoGroup : PySem.W.exmOne K (.ref C_BadRow) (.ref C_NoGroup) = some false
  ex_NoGroup_BadName : PySem.W.exmOne K (.ref C_NoGroup) (.ref C_BadName) = some false
  ex_NoGroup_DuplicateName : PySem.W.exmOne K (.ref C_NoGroup) (.ref C_DuplicateName) = some false
  ex_NoGroup_UnknownName : PySem.W.exmOne K (.ref C_NoGroup) (.ref C_UnknownName) = some false
  ex_NoGroup_BadCount : PySem.W.exmOne K (.ref C_NoGroup) (.ref C_BadCount) = some false
  ex_NoGroup_BadGroup : PySem.W.exmOne K (.ref C_NoGroup) (.ref C_BadGroup) = some false
  ex_NoGroup_BadPrime : PySem.W.exmOne K (.ref C_NoGroup) (.ref C_BadPrime) = some false
  ex_NoGroup_BadRow : PySem.W.exmOne K (.ref C_NoGroup) (.ref C_BadRow) = some false
  ex_NoGroup_NoGroup : PySem.W.exmOne K (.ref C_NoGroup) (.ref C_NoGroup) = some true
  C_Family : Addr
  g_Family : mg "Family" = some (.ref C_Family)
  cl_Family : Cls K C_Family
  mk_Family : Mk K C_Family f_Family__init_
  C_Scheme : Addr
  g_Scheme : mg "Scheme" = some (.ref C_Scheme)
  cl_Scheme : Cls K C_Scheme
  mk_Scheme : Mk K C_Scheme f_Scheme__init_
  na_prime : NoAttr K C_Scheme "_prime"
  na_width : NoAttr K C_Scheme "_width"
  na_persons_Family : NoAttr K C_Family "_persons"
  na_persons_Scheme : NoAttr K C_Scheme "_persons"
  na_rows : NoAttr K C_Scheme "_rows"
  na_groups : NoAttr K C_Family "_groups"
  na_needed : NoAttr K C_Family "_needed"
  p_prime : Addr
  pp_prime : PropOf K C_Scheme "prime" p_prime f_Scheme_prime
  p_width : Addr
  pp_width : PropOf K C_Scheme "width" p_width f_Scheme_width
  p_persons_Family : Addr
  pp_persons_Family : PropOf K C_Family "persons" p_persons_Family f_Family_persons
  p_persons_Scheme : Addr
  pp_persons_Scheme : PropOf K C_Scheme "persons" p_persons_Scheme f_Scheme_persons
  me_rows : Meth K C_Scheme "rows" f_Scheme_rows
  me_opens_Family : Meth K C_Family "opens" f_Family_opens
  me_opens_Scheme : Meth K C_Scheme "opens" f_Scheme_opens
  mc_Family : Value
  cr_Family : ClX.CRead K C_Family mc_Family
  p_threshold : Addr
  cm_threshold : ClX.CMet K C_Family mc_Family "threshold" p_threshold f_Family_threshold
  fc_Scheme : PySem.W.findIn K (.ref C_Scheme) "__class__" = some (some (.builtin "object.__class__"))
  mro_Scheme : PySem.W.mroIn K C_Scheme (.type "object") = some true
  ki_Scheme : PySem.W.kitOne K (.ref C_Scheme) (.ref C_Scheme) = some true
  sp_cls : PySem.W.specialIn K (.builtin "object.__class__") "__get__" = some (some (.builtin "getset_descriptor.__get__"))
  tk_cls : PySem.W.takesIn K (.builtin "object.__class__") = some true
  a_PRIMES : Addr
  g_PRIMES : mg "PRIMES" = some (.ref a_PRIMES)
  t_PRIMES : ∀ H : Hp, SqT K H a_PRIMES [.int 2, .int 3, .int 5, .int 7, .int 11]
end P
set_option Elab.async false
set_option linter.all false
set_option maxRecDepth 100000
set_option maxHeartbeats 4000000
namespace P
open PySem PySem.Spec PyProof.Rows L2 OS
/-! short ways: "rd" opens a reading as far as equations go; "sep" finds what stands apart from the state; "sq" a list that is read; "nx" two heaps -/
local macro_rules | `(tactic| walk_at "sep") => `(tactic| first | assumption | (refine (by assumption : Nx _ _ _) _ _ ?_; walk_at "sep"))
local macro_rules | `(tactic| walk_at "sq") => `(tactic| first | assumption | exact .inl (.inl (by assumption)) | exact Sep.sq (by walk_at "sep") | exact Sep.st (by walk_at "sep") | exact .inl (.inl upd_same))
local macro_rules | `(tactic| walk_at "rd") => `(tactic| repeat (first
  | refine And.intro rfl ?_
  | apply Exists.intro
  | refine And.intro (by assumption) ?_
  | refine And.intro (DrawOk.mk (by omega) (by omega) (by omega)) ?_
  | refine And.intro at0 ?_
  | refine And.intro ⟨_, rfl⟩ ?_
  | refine And.intro (by walk_at "sq") ?_
  | refine And.intro (Or.inl (by walk_at "sq")) ?_
  | refine And.intro (Or.inr (by walk_at "sq")) ?_
  | refine And.intro (by omega) ?_))
section
variable {P : Program} {w : World} {K : PySem.W.Frag} {mg : Str → Option Value} {base : Heap}
theorem tNil_i {σ : L2.St} {H : Hp} {Q : List V → Hp → Prop} (h : Q [] H) : tNil σ H Q := h
theorem ok_law_start (T : Txt K mg) : FnOk P w K mg base CX0 1 T.f_law_start T.fd_law_start ["_law_script"] (spStartU K) := by
  refine T.F_law_start.ok sc_law_start (fun vs H Q E h => ?_) (fun cdv A outer s H vs Q E hr h => ?_)
  · obtain ⟨a, ns, rfl, _⟩ := h
    rfl
  · obtain ⟨a, ns, rfl, hS, hn, q⟩ := h
    refine ⟨_, (pss_one (ps_ret (pe_lstO (pa_cons (pe_lc (own := [("_law_cell", 1)]) (g := gName 1) (tt := tYes) rfl sc_law_start.nd (pi_list (pv 0)) (blkOk_by (own := [("_law_cell", 1)]) (N := N_law_start) (sc := defScope s_law_start) (by decide +kernel)) (fun _ _ _ _ _ => (pg_name (i := 1) sc_law_start.nd rfl (Or.inl rfl))) (fun _ _ _ _ _ => pts_nil) (fun _ _ _ _ _ => (pe_callTy (T := "int") call_int1 (by rfl) T.n_int (by decide +kernel) (pa_cons (pv 1) pa_nil)))) (pa_cons pe_int (pa_cons pe_int pa_nil)))))), ?_⟩
    walk_at "rd"
    refine ⟨⟨_, hS⟩, fun D hD => ?_⟩
    refine lc_fn (walk_list (xs := ns.map V.int)) (xs := ns) (by simp) (by simp; omega) (fun _ => true) V.int hD (fun H1 s => s.seq hS) ?_ ?_
    · intro i z x H1 H2 Qk Qn hz sm hy hk _
      obtain ⟨rfl, hx⟩ := hy
      have ex : x = V.int z := by
        rw [List.getElem?_map, hz] at hx
        exact (Option.some.inj hx).symm
      subst ex
      walk_at "rd"
      refine tNil_i (.inl ⟨_, rfl, ?_⟩)
      exact hk rfl _ (Same.refl _)
    · intro H1 sm hD1
      have hfl : ns.filter (fun _ => true) = ns := List.filter_eq_self.mpr fun _ _ => rfl
      rw [hfl] at hD1
      walk_at "rd"
      refine ⟨by show 3 ≤ sizeLine; decide, fun p H2 np s2 hp => ?_⟩
      exact q p _ (sm.trans s2) (sm.free np) ⟨D, ns, 0, hp, s2 _ _ hD1, Nat.le_refl _, by omega⟩
theorem ok_law_take (T : Txt K mg) : FnOk P w K mg base CX0 1 T.f_law_take T.fd_law_take ["_law_state", "_law_limit"] spTake := by
  refine T.F_law_take.ok sc_law_take (fun vs H Q E h => ?_) (fun cdv A outer s H vs Q E hr h => ?_)
  · obtain ⟨p, n, size, rfl, _⟩ := h
    rfl
  · obtain ⟨p, n, size, rfl, ⟨c, zs, k, S⟩, ⟨hn, h0, h1⟩, q⟩ := h
    refine ⟨_, (pss_cons (ps_set (i := 2) sc_law_take.nd rfl (Or.inl rfl) (pe_ix ix_list (pv 0) pe_int (fun _ _ => rfl)))
    (pss_cons (ps_asg (pe_op op_add (pe_ix ix_list (pv 0) pe_int (fun _ _ => rfl)) pe_int) (pg_sub (pv 0) pe_int set_list))
    (pss_cons (ps_set (i := 3) sc_law_take.nd rfl (Or.inl rfl) (pe_op op_mod (pe_callTy (T := "int") call_int1 (by rfl) T.n_int (by decide +kernel) (pa_cons (pe_ix ix_list (pv 0) pe_int (fun _ _ => rfl)) pa_nil)) (pe_callB (id := "max") (call_max2 rfl) (by rfl) T.n_max (by decide +kernel) (pa_cons pe_int (pa_cons (pe_callB (id := "len") call_len_seq (by rfl) T.n_len PySem.boot_len (pa_cons (pv 2) pa_nil)) pa_nil)))))
    (pss_cons (ps_set (i := 4) sc_law_take.nd rfl (Or.inl rfl) pe_int)
    (pss_stop (ps_if (pt_truth (pv 2) (fun _ => rfl))
      (pss_one (ps_set (i := 4) sc_law_take.nd rfl (Or.inl rfl) (pe_ix ix_list (pv 2) (pv 3) (fun _ _ => rfl)))) pss_nil)
    (pss_cons (ps_if (pt_cmpR op_ge (pe_callB (id := "abs") call_abs (by rfl) T.n_abs (by decide +kernel) (pa_cons (pv 4) pa_nil)) (pe_op op_pow pe_int pe_int) (nomark _))
      (pss_cons (ps_asg (pe_op op_fdivW (pe_callB (id := "abs") call_abs (by rfl) T.n_abs (by decide +kernel) (pa_cons (pv 4) pa_nil)) (pv 1)) (pg_sub (pv 2) (pv 3) set_list))
    (pss_one (ps_ret (pe_op op_mod (pe_callB (id := "abs") call_abs (by rfl) T.n_abs (by decide +kernel) (pa_cons (pv 4) pa_nil)) (pv 1))))) pss_nil)
    (pss_cons (ps_asg (pe_op op_add (pe_ix ix_list (pv 0) pe_int (fun _ _ => rfl)) pe_int) (pg_sub (pv 0) pe_int set_list))
    (pss_cons (ps_set (i := 5) sc_law_take.nd rfl (Or.inl rfl) (pe_op op_mod (pe_op op_pow (pe_callTy (T := "int") call_int1 (by rfl) T.n_int (by decide +kernel) (pa_cons (pe_op op_add (pe_op op_add (pe_op op_mul (pe_op op_mod (pe_callTy (T := "int") call_int1 (by rfl) T.n_int (by decide +kernel) (pa_cons (pv 4) pa_nil)) pe_int) pe_int) (pe_op op_mul (pe_ix ix_list (pv 0) pe_int (fun _ _ => rfl)) pe_int)) pe_int) pa_nil)) pe_int) pe_int))
    (pss_cons (ps_set (i := 5) sc_law_take.nd rfl (Or.inl rfl) (pe_op op_mod (pe_op op_pow (pe_callTy (T := "int") call_int1 (by rfl) T.n_int (by decide +kernel) (pa_cons (pe_op op_add (pe_op op_add (pe_op op_mul (pv 5) pe_int) (pe_op op_mul (pe_ix ix_list (pv 0) pe_int (fun _ _ => rfl)) pe_int)) pe_int) pa_nil)) pe_int) pe_int))
    (pss_one (ps_ret (pe_op op_mod (pe_op op_fdivW (pv 5) pe_int) (pv 1))))))))))))), ?_⟩
    have hq : SqL K H p [V.ref c, V.int (k : Int), V.int (n : Int)] := SqL.of S.hp
    have a0 : atI [V.ref c, V.int (k : Int), V.int (n : Int)] 0 = some (.ref c) := rfl
    have a2 : atI [V.ref c, V.int (k : Int), V.int (n : Int)] 2 = some (.int (n : Int)) := rfl
    walk_at "rd"
    refine ⟨S.hp, rfl, ?_⟩
    obtain ⟨S1, x1⟩ := S.put_p (k' := k) (n' := n + 1) (Nat.le_succ_of_le S.kn)
    have hcast : ((n : Int) + 1) = ((n + 1 : Nat) : Int) := by omega
    change StT (upd H p (.lst ([V.ref c, V.int (k : Int), V.int (n : Int)].set (Int.toNat 2) (V.int ((n + 1 : Nat) : Int))))) p c zs k (n + 1) at S1
    change Nx p H (upd H p (.lst ([V.ref c, V.int (k : Int), V.int (n : Int)].set (Int.toNat 2) (V.int ((n + 1 : Nat) : Int))))) at x1
    rw [← hcast] at S1 x1
    dsimp only
    generalize upd H p (.lst ([V.ref c, V.int (k : Int), V.int (n : Int)].set (Int.toNat 2) (V.int ((n : Int) + 1)))) = H1 at S1 x1 ⊢
    have hkn := S.kn
    clear hq a0 a2 S
    have hq : SqL K H1 p [V.ref c, V.int (k : Int), V.int ((n + 1 : Nat) : Int)] := SqL.of S1.hp
    have a0 : atI [V.ref c, V.int (k : Int), V.int ((n + 1 : Nat) : Int)] 0 = some (.ref c) := rfl
    have a1 : atI [V.ref c, V.int (k : Int), V.int ((n + 1 : Nat) : Int)] 1 = some (.int (k : Int)) := rfl
    have a2 : atI [V.ref c, V.int (k : Int), V.int ((n + 1 : Nat) : Int)] 2 = some (.int ((n + 1 : Nat) : Int)) := rfl
    have hcq : SqL K H1 c (zs.map V.int) := SqL.of S1.hc
    have hzl : (zs.map V.int).length = zs.length := List.length_map _
    walk_at "rd"
    refine tNil_i (.inl ⟨_, rfl, ?_⟩)
    have hmx : (0 : Int) < (if (((zs.map V.int).length : Nat) : Int) > 1 then (((zs.map V.int).length : Nat) : Int) else 1) := by
      split <;> omega
    have h0k : (0 : Int) ≤ (k : Int) := by omega
    have hat : ∃ j : Nat, (k : Int) % (if (((zs.map V.int).length : Nat) : Int) > 1 then (((zs.map V.int).length : Nat) : Int) else 1) = (j : Int) ∧ (zs ≠ [] → j < zs.length) := by
      have e1 := Int.emod_nonneg (k : Int) (show (if (((zs.map V.int).length : Nat) : Int) > 1 then (((zs.map V.int).length : Nat) : Int) else 1) ≠ 0 by omega)
      have e2 := Int.emod_lt_of_pos (k : Int) hmx
      obtain ⟨j, hj⟩ := Int.eq_ofNat_of_zero_le e1
      refine ⟨j, hj, fun hn => ?_⟩
      have h1 : 1 ≤ zs.length := List.length_pos_iff.mpr hn
      rw [hj] at e2
      split at e2 <;> omega
    walk_at "rd"
    obtain ⟨j, hj, hjl⟩ := hat
    dsimp only
    rw [hj]
    walk_at "rd"
    refine Stop.cut (fun σ H' => ∃ z : Int, σ = [some (.ref p), some (.int size), some (.ref c), some (.int (j : Int)), some (.int z), none] ∧ H1 = H' ∧ (zs ≠ [] ∨ z = 0)) (fun Qz hz => ?_) ?_
    · refine ⟨_, rfl, !(zs.map V.int).isEmpty, .inl ⟨_, hcq, rfl⟩, ?_⟩
      refine ite2 (fun e => ?_) (fun e => ?_)
      · have hne : zs ≠ [] := fun z => by
          rw [z] at e
          cases e
        have hcat : atI (zs.map V.int) (j : Int) = some (.int (zs[j]'(hjl hne))) := atI_nat (by rw [List.getElem?_map, List.getElem?_eq_getElem (hjl hne)]; rfl)
        walk_at "rd"
        exact hz _ _ ⟨_, rfl, rfl, .inl hne⟩
      · exact hz _ _ ⟨0, rfl, rfl, .inr rfl⟩
    · rintro _ _ ⟨z, rfl, rfl, hzz⟩
      walk_at "rd"
      refine ⟨⟨by decide, by decide, by decide⟩, ?_⟩
      walk_at "rd"
      refine ite2 (fun e => ?_) (fun e => ?_)
      · have hne : zs ≠ [] := hzz.elim id fun z0 => by
          have e2 := of_decide_eq_true e
          rw [z0] at e2
          exact absurd e2 (by decide)
        have hix : ixN (zs.map V.int).length (j : Int) = some j := by
          unfold ixN
          have := hjl hne
          rw [if_pos (by omega), if_pos (by omega)]
          rfl
        walk_at "rd"
        refine ⟨wide_div h0 (b := 64) (by omega) (by decide) (by decide), ?_⟩
        walk_at "rd"
        refine ⟨S1.hc, hix, ?_⟩
        have hl' : (zs.set j ((if z < 0 then -z else z) / size)).length ≤ 100 := by
          rw [List.length_set]
          exact S1.lz
        obtain ⟨S2, x2⟩ := S1.put_c hl'
        rw [List.map_set] at S2 x2
        walk_at "rd"
        exact q _ _ (Int.emod_nonneg _ (by omega)) (Int.emod_lt_of_pos _ h0) S2.mk' (x1.trans x2)
      · walk_at "rd"
        refine ⟨S1.hp, rfl, ?_⟩
        obtain ⟨S2, x2⟩ := S1.put_p (k' := k + 1) (n' := n + 1) (by omega)
        have hcast1 : ((k : Int) + 1) = ((k + 1 : Nat) : Int) := by omega
        change StT (upd H1 p (.lst ([V.ref c, V.int (k : Int), V.int ((n + 1 : Nat) : Int)].set (Int.toNat 1) (V.int ((k + 1 : Nat) : Int))))) p c zs (k + 1) (n + 1) at S2
        change Nx p H1 (upd H1 p (.lst ([V.ref c, V.int (k : Int), V.int ((n + 1 : Nat) : Int)].set (Int.toNat 1) (V.int ((k + 1 : Nat) : Int))))) at x2
        rw [← hcast1] at S2 x2
        dsimp only
        generalize upd H1 p (.lst ([V.ref c, V.int (k : Int), V.int ((n + 1 : Nat) : Int)].set (Int.toNat 1) (V.int ((k : Int) + 1)))) = H2 at S2 x2 ⊢
        have hq2 : SqL K H2 p [V.ref c, V.int ((k + 1 : Nat) : Int), V.int ((n + 1 : Nat) : Int)] := SqL.of S2.hp
        have a22 : atI [V.ref c, V.int ((k + 1 : Nat) : Int), V.int ((n + 1 : Nat) : Int)] 2 = some (.int ((n + 1 : Nat) : Int)) := rfl
        have hc0 := Int.emod_nonneg z (show (2147483647 : Int) ≠ 0 by decide)
        have hc1 := Int.emod_lt_of_pos z (show (0 : Int) < 2147483647 by decide)
        walk_at "rd"
        refine tNil_i (.inl ⟨_, rfl, ?_⟩)
        walk_at "rd"
        refine ⟨.inr ⟨by decide, by decide⟩, ?_⟩
        walk_at "rd"
        refine ⟨.inr ⟨by decide, by decide⟩, ?_⟩
        walk_at "rd"
        refine tNil_i (.inl ⟨_, rfl, ?_⟩)
        walk_at "rd"
        refine ⟨⟨by decide, by decide, ?_⟩, ?_⟩
        · show (z % 2147483647 * 48271 + ((n + 1 : Nat) : Int) * 69621 + 11).natAbs < 18446744073709551616
          generalize z % 2147483647 = c1 at hc0 hc1 ⊢
          omega
        walk_at "rd"
        have hd : 0 ≤ (z % 2147483647 * 48271 + (((n + 1 : Nat)) : Int) * 69621 + 11) ^ Int.toNat 5 % 2147483647 ∧ (z % 2147483647 * 48271 + (((n + 1 : Nat)) : Int) * 69621 + 11) ^ Int.toNat 5 % 2147483647 < 2147483647 := pow5 _
        walk_at "rd"
        refine ⟨.inr ⟨by decide, by decide⟩, ?_⟩
        walk_at "rd"
        refine ⟨.inr ⟨by decide, by decide⟩, ?_⟩
        walk_at "rd"
        refine tNil_i (.inl ⟨_, rfl, ?_⟩)
        walk_at "rd"
        refine ⟨⟨by decide, by decide, ?_⟩, ?_⟩
        · show ((z % 2147483647 * 48271 + ((n + 1 : Nat) : Int) * 69621 + 11) ^ Int.toNat 5 % 2147483647 * 16807 + ((n + 1 : Nat) : Int) * 40692 + 7).natAbs < 18446744073709551616
          generalize (z % 2147483647 * 48271 + ((n + 1 : Nat) : Int) * 69621 + 11) ^ Int.toNat 5 % 2147483647 = d1 at hd ⊢
          omega
        walk_at "rd"
        refine ⟨wide_div (by decide) (b := 64) (by decide) (by decide) (by decide), ?_⟩
        walk_at "rd"
        exact q _ _ (Int.emod_nonneg _ (by omega)) (Int.emod_lt_of_pos _ h0) S2.mk' (x1.trans x2)
theorem ok_BadName__init_ (T : Txt K mg) : FnOk P w K mg base CX0 1 T.f_BadName__init_ T.fd_BadName__init_ ["self", "name"] (spErr T.C_BadName "name") := by
  refine T.F_BadName__init_.ok sc_BadName__init_ (fun vs H Q E h => ?_) (fun cdv A outer s H vs Q E hr h => ?_)
  · obtain ⟨a, v, rfl, _⟩ := h
    rfl
  · obtain ⟨a, v, rfl, ha, q⟩ := h
    refine ⟨_, (pss_one (ps_ost (pv 0) (pv 1))), ?_⟩
    walk_at "rd"
    refine ⟨T.er_BadName.ox, T.nf_BadName, .inl ⟨ha, fun dx h1 h2 => q dx h1 h2⟩⟩
theorem ok_DuplicateName__init_ (T : Txt K mg) : FnOk P w K mg base CX0 1 T.f_DuplicateName__init_ T.fd_DuplicateName__init_ ["self", "name"] (spErr T.C_DuplicateName "name") := by
  refine T.F_DuplicateName__init_.ok sc_DuplicateName__init_ (fun vs H Q E h => ?_) (fun cdv A outer s H vs Q E hr h => ?_)
  · obtain ⟨a, v, rfl, _⟩ := h
    rfl
  · obtain ⟨a, v, rfl, ha, q⟩ := h
    refine ⟨_, (pss_one (ps_ost (pv 0) (pv 1))), ?_⟩
    walk_at "rd"
    refine ⟨T.er_DuplicateName.ox, T.nf_DuplicateName, .inl ⟨ha, fun dx h1 h2 => q dx h1 h2⟩⟩
theorem ok_UnknownName__init_ (T : Txt K mg) : FnOk P w K mg base CX0 1 T.f_UnknownName__init_ T.fd_UnknownName__init_ ["self", "name"] (spErr T.C_UnknownName "name") := by
  refine T.F_UnknownName__init_.ok sc_UnknownName__init_ (fun vs H Q E h => ?_) (fun cdv A outer s H vs Q E hr h => ?_)
  · obtain ⟨a, v, rfl, _⟩ := h
    rfl
  · obtain ⟨a, v, rfl, ha, q⟩ := h
    refine ⟨_, (pss_one (ps_ost (pv 0) (pv 1))), ?_⟩
    walk_at "rd"
    refine ⟨T.er_UnknownName.ox, T.nf_UnknownName, .inl ⟨ha, fun dx h1 h2 => q dx h1 h2⟩⟩
theorem ok_BadCount__init_ (T : Txt K mg) : FnOk P w K mg base CX0 1 T.f_BadCount__init_ T.fd_BadCount__init_ ["self", "count"] (spErr T.C_BadCount "count") := by
  refine T.F_BadCount__init_.ok sc_BadCount__init_ (fun vs H Q E h => ?_) (fun cdv A outer s H vs Q E hr h => ?_)
  · obtain ⟨a, v, rfl, _⟩ := h
    rfl
  · obtain ⟨a, v, rfl, ha, q⟩ := h
    refine ⟨_, (pss_one (ps_ost (pv 0) (pv 1))), ?_⟩
    walk_at "rd"
    refine ⟨T.er_BadCount.ox, T.nf_BadCount, .inl ⟨ha, fun dx h1 h2 => q dx h1 h2⟩⟩
theorem ok_BadGroup__init_ (T : Txt K mg) : FnOk P w K mg base CX0 1 T.f_BadGroup__init_ T.fd_BadGroup__init_ ["self", "value"] (spErr T.C_BadGroup "value") := by
  refine T.F_BadGroup__init_.ok sc_BadGroup__init_ (fun vs H Q E h => ?_) (fun cdv A outer s H vs Q E hr h => ?_)
  · obtain ⟨a, v, rfl, _⟩ := h
    rfl
  · obtain ⟨a, v, rfl, ha, q⟩ := h
    refine ⟨_, (pss_one (ps_ost (pv 0) (pv 1))), ?_⟩
    walk_at "rd"
    refine ⟨T.er_BadGroup.ox, T.nf_BadGroup, .inl ⟨ha, fun dx h1 h2 => q dx h1 h2⟩⟩
theorem ok_BadPrime__init_ (T : Txt K mg) : FnOk P w K mg base CX0 1 T.f_BadPrime__init_ T.fd_BadPrime__init_ ["self", "number"] (spErr T.C_BadPrime "number") := by
  refine T.F_BadPrime__init_.ok sc_BadPrime__init_ (fun vs H Q E h => ?_) (fun cdv A outer s H vs Q E hr h => ?_)
  · obtain ⟨a, v, rfl, _⟩ := h
    rfl
  · obtain ⟨a, v, rfl, ha, q⟩ := h
    refine ⟨_, (pss_one (ps_ost (pv 0) (pv 1))), ?_⟩
    walk_at "rd"
    refine ⟨T.er_BadPrime.ox, T.nf_BadPrime, .inl ⟨ha, fun dx h1 h2 => q dx h1 h2⟩⟩
theorem ok_BadRow__init_ (T : Txt K mg) : FnOk P w K mg base CX0 1 T.f_BadRow__init_ T.fd_BadRow__init_ ["self", "value"] (spErr T.C_BadRow "value") := by
  refine T.F_BadRow__init_.ok sc_BadRow__init_ (fun vs H Q E h => ?_) (fun cdv A outer s H vs Q E hr h => ?_)
  · obtain ⟨a, v, rfl, _⟩ := h
    rfl
  · obtain ⟨a, v, rfl, ha, q⟩ := h
    refine ⟨_, (pss_one (ps_ost (pv 0) (pv 1))), ?_⟩
    walk_at "rd"
    refine ⟨T.er_BadRow.ox, T.nf_BadRow, .inl ⟨ha, fun dx h1 h2 => q dx h1 h2⟩⟩
end
end P
set_option Elab.async false
set_option linter.all false
set_option maxRecDepth 100000
set_option maxHeartbeats 4000000
namespace P
open PySem PySem.Spec PyProof.Rows L2 OS
/-! short ways: "rd" opens a reading as far as equations go; "sep" finds what stands apart from the state; "sq" a list that is read; "nx" two heaps -/
local macro_rules | `(tactic| walk_at "sep") => `(tactic| first | assumption | (refine (by assumption : Nx _ _ _) _ _ ?_; walk_at "sep"))
local macro_rules | `(tactic| walk_at "sq") => `(tactic| first | assumption | exact .inl (.inl (by assumption)) | exact Sep.sq (by walk_at "sep") | exact Sep.st (by walk_at "sep") | exact .inl (.inl upd_same))
local macro_rules | `(tactic| walk_at "rd") => `(tactic| repeat (first
  | refine And.intro rfl ?_
  | apply Exists.intro
  | refine And.intro (by assumption) ?_
  | refine And.intro (DrawOk.mk (by omega) (by omega) (by omega)) ?_
  | refine And.intro at0 ?_
  | refine And.intro ⟨_, rfl⟩ ?_
  | refine And.intro (by walk_at "sq") ?_
  | refine And.intro (Or.inl (by walk_at "sq")) ?_
  | refine And.intro (Or.inr (by walk_at "sq")) ?_
  | refine And.intro (by omega) ?_))
section
variable {P : Program} {w : World} {K : PySem.W.Frag} {mg : Str → Option Value} {base : Heap}
/-- what a name is -/
def lowS : Str := "abcdefghijklmnopqrstuvwxyz"
def digS : Str := "0123456789"
def okN (l : List Nat) : Bool := decide (1 ≤ l.length) && decide (l.length ≤ 6) && decide (l.headD 0 ∈ lowS.cps.toList) && l.all fun c => decide (c ∈ (lowS ++ digS).cps.toList)
def spName : Sp := fun vs H Q _ => ∃ z : Str, vs = [.str z] ∧ z.length ≤ 100000 ∧ ∀ H', Same H H' → Q (.bl (okN z.cps.toList)) H'
theorem len_list (z : Str) : z.cps.toList.length = z.length := by simp [Str.length]
theorem ok_valid_name (T : Txt K mg) : FnOk P w K mg base CX0 1 T.f_valid_name T.fd_valid_name ["text"] spName := by
  refine T.F_valid_name.ok sc_valid_name (fun vs H Q E h => ?_) (fun cdv A outer s H vs Q E hr h => ?_)
  · obtain ⟨z, rfl, _⟩ := h
    rfl
  · obtain ⟨z, rfl, hz, q⟩ := h
    refine ⟨_, (pss_cons (ps_if (pt_not (pt_chain op_le op_le pe_int (pe_callB (id := "len") call_len_str (by rfl) T.n_len PySem.boot_len (pa_cons (pv 0) pa_nil)) (pe_glob (v := .int 6) rfl T.c_LONGEST_NAME ⟨_, rfl⟩)))
      (pss_one (ps_ret pe_bl)) pss_nil)
    (pss_one (ps_ret (pe_and (pe_cmpR op_in_sign (pe_ix ix_str (pv 0) pe_int (fun _ _ => rfl)) (pe_glob (v := .str "abcdefghijklmnopqrstuvwxyz") rfl T.c_LETTERS ⟨_, rfl⟩) (by rfl)) (pe_one (pe_callB (id := "all") (r := rAll K) (cr_all rfl) (by rfl) T.n_all (by decide +kernel) (pa_cons (pe_lc (own := [("char", 1)]) (g := gName 1) (tt := tYes) rfl sc_valid_name.nd (pi_str (pv 0)) (blkOk_by (own := [("char", 1)]) (N := N_valid_name) (sc := defScope s_valid_name) (by decide +kernel)) (fun _ _ _ _ _ => (pg_name (i := 1) sc_valid_name.nd rfl (Or.inl rfl))) (fun _ _ _ _ _ => pts_nil) (fun _ _ _ _ _ => (pe_cmpR op_in_sign (pv 1) (pe_op op_add_str (pe_glob (v := .str "abcdefghijklmnopqrstuvwxyz") rfl T.c_LETTERS ⟨_, rfl⟩) (pe_glob (v := .str "0123456789") rfl T.c_DIGITS ⟨_, rfl⟩)) (by rfl)))) pa_nil))))))), ?_⟩
    have hzl : z.length ≤ sizeLine := Nat.le_trans hz (by decide)
    have hl := len_list z
    have hz2 : (z.cps.toList.length : Int) = (z.length : Int) := by rw [hl]
    have bad : okN z.cps.toList = false → Q (.bl false) H := fun e => by
      have := q H (Same.refl H)
      rwa [e] at this
    walk_at "rd"
    refine ite2 (fun e1 => ?_) (fun e1 => ?_)
    · have e1' := of_decide_eq_true e1
      walk_at "rd"
      refine ite2 (fun e2 => ?_) (fun e2 => ?_)
      · refine bad ?_
        have e2' : ¬ (z.length ≤ 6) := fun x => by simp [decide_eq_true (show ((z.length : Nat) : Int) ≤ 6 by omega)] at e2
        unfold okN
        rw [hl, decide_eq_false e2', Bool.and_false]
        rfl
      · have e2' : z.length ≤ 6 := by
          apply Classical.byContradiction
          intro x
          exact e2 (by simp; omega)
        obtain ⟨c, cs, hc⟩ : ∃ c cs, z.cps.toList = c :: cs := by
          cases e : z.cps.toList with
          | nil =>
            rw [e] at hl
            simp at hl
            omega
          | cons c cs => exact ⟨c, cs, rfl⟩
        walk_at "rd"
        refine ⟨show atI z.cps.toList 0 = some c by rw [hc]; exact atI_nat (j := 0) rfl, ?_⟩
        walk_at "rd"
        have hN : okN z.cps.toList = (decide (c ∈ lowS.cps.toList) && z.cps.toList.all fun c => decide (c ∈ (lowS ++ digS).cps.toList)) := by
          unfold okN
          rw [hl, decide_eq_true (show 1 ≤ z.length by omega), decide_eq_true e2', Bool.true_and, Bool.true_and, show z.cps.toList.headD 0 = c by rw [hc]; rfl]
        refine ite2 (fun e3 => ?_) (fun e3 => ?_)
        · walk_at "rd"
          intro D hD
          refine lc_all walk_str (xs := z.cps.toList) (by simp) (by show z.length ≤ 100000; exact Nat.le_trans hz (by decide)) (fun c => V.bl (decide (c ∈ (lowS ++ digS).cps.toList))) hD (fun _ _ => trivial) ?_ ?_
          · intro i a x H1 H2 Qk ha sm hy hk
            obtain ⟨rfl, c', hc', rfl⟩ := hy
            have : a = c' := by
              rw [Array.getElem?_toList] at ha
              exact Option.some.inj (ha.symm.trans hc')
            subst this
            walk_at "rd"
            refine ⟨by decide +kernel, ?_⟩
            walk_at "rd"
            exact hk _ (Same.refl _)
          · intro H1 sm hD1
            walk_at "rd"
            refine ⟨show SqL _ H1 D ((z.cps.toList.map fun c => decide (c ∈ (lowS ++ digS).cps.toList)).map V.bl) from .inl (.inl (by rw [List.map_map]; exact hD1)), ?_⟩
            have := q H1 sm
            rw [hN, show decide (c ∈ lowS.cps.toList) = true from e3, Bool.true_and] at this
            rw [List.all_map]
            exact this
        · refine bad ?_
          rw [hN, show decide (c ∈ lowS.cps.toList) = false from (Bool.not_eq_true _).mp e3]
          rfl
    · have e1' : ¬ (1 ≤ z.length) := fun x => e1 (decide_eq_true (by omega))
      walk_at "rd"
      refine iteT ?_
      refine bad ?_
      unfold okN
      rw [hl, decide_eq_false e1']
      rfl
/-- what is wrong with the k-th name -/
def badAt (ps : List Str) (k : Nat) : Option (Str × Str) := if okN (ps.getD k default).cps.toList then (if ps.getD k default ∈ ps.take k then some ("twice", ps.getD k default) else none) else some ("name", ps.getD k default)
/-- the first that is wrong with the first k names -/
def wrongUp (ps : List Str) : Nat → Option (Str × Str)
  | 0 => none
  | k + 1 => match wrongUp ps k with
    | some r => some r
    | none => badAt ps k
theorem wrongUp_stay {ps : List Str} {r : Str × Str} : ∀ {i n : Nat}, wrongUp ps i = some r → i ≤ n → wrongUp ps n = some r := by
  intro i n h hle
  induction n with
  | zero =>
    have : i = 0 := by omega
    subst this
    exact h
  | succ n ih =>
    by_cases q : i ≤ n
    · show (match wrongUp ps n with | some r => some r | none => badAt ps n) = some r
      rw [ih q]
    · have : i = n + 1 := by omega
      subst this
      exact h
theorem erase_perm {α : Type} : ∀ {l : List α} {k : Nat} (h : k < l.length), (l[k] :: l.eraseIdx k).Perm l
  | [], _, h => absurd h (by simp)
  | x :: l, 0, _ => List.Perm.refl _
  | x :: l, k + 1, h => (List.Perm.swap _ _ _).trans ((erase_perm (l := l) (k := k) (by simpa using h)).cons x)
theorem wrongUp_none {ps : List Str} : ∀ {n : Nat}, wrongUp ps n = none → n ≤ ps.length → (ps.take n).Nodup ∧ ∀ z ∈ ps.take n, okN z.cps.toList = true := by
  intro n
  induction n with
  | zero => intro _ _; simp
  | succ n ih =>
    intro h hn
    have h0 : wrongUp ps n = none := by
      cases e : wrongUp ps n with
      | none => rfl
      | some r =>
        have : wrongUp ps (n + 1) = some r := wrongUp_stay e (Nat.le_succ n)
        rw [h] at this
        cases this
    obtain ⟨h1, h2⟩ := ih h0 (by omega)
    have hgi : ps[n]? = some ps[n] := List.getElem?_eq_getElem hn
    have hgd : ps.getD n default = ps[n] := by rw [List.getD_eq_getElem?_getD, hgi]; rfl
    have hb : badAt ps n = none := by
      have : wrongUp ps (n + 1) = badAt ps n := by
        show (match wrongUp ps n with | some r => some r | none => badAt ps n) = _
        rw [h0]
      rw [← this]
      exact h
    unfold badAt at hb
    rw [hgd] at hb
    have e1 : okN ps[n].cps.toList = true := by
      cases e : okN ps[n].cps.toList with
      | true => rfl
      | false =>
        rw [e] at hb
        cases hb
    rw [if_pos e1] at hb
    have e2 : ps[n] ∉ ps.take n := fun z => by
      rw [if_pos z] at hb
      cases hb
    rw [take_snoc hgi]
    refine ⟨List.nodup_append.mpr ⟨h1, by simp, fun a ha b hb e => ?_⟩, fun z hz => ?_⟩
    · rw [List.mem_singleton] at hb
      subst hb
      subst e
      exact e2 ha
    · rcases List.mem_append.mp hz with hz | hz
      · exact h2 z hz
      · rw [List.mem_singleton.mp hz]
        exact e1
theorem names_nodup {ps : List Str} (h : wrongUp ps ps.length = none) : ps.Nodup := by
  have := (wrongUp_none h (Nat.le_refl _)).1
  rwa [List.take_length] at this
theorem names_ok {ps : List Str} (h : wrongUp ps ps.length = none) : ∀ z ∈ ps, okN z.cps.toList = true := by
  have := (wrongUp_none h (Nat.le_refl _)).2
  rwa [List.take_length] at this
/-- the names in order -/
abbrev srt (ps : List Str) : List Str := ps.mergeSort leS
theorem srt_perm (ps : List Str) : (srt ps).Perm ps := List.mergeSort_perm _ _
theorem srt_len (ps : List Str) : (srt ps).length = ps.length := (srt_perm ps).length_eq
theorem srt_nodup {ps : List Str} (h : ps.Nodup) : (srt ps).Nodup := (srt_perm ps).nodup_iff.mpr h
end
end P
set_option Elab.async false
set_option linter.all false
set_option maxRecDepth 100000
set_option maxHeartbeats 4000000
namespace P
open PySem PySem.Spec PyProof.Rows L2 OS
/-! short ways: "rd" opens a reading as far as equations go; "sep" finds what stands apart from the state; "sq" a list that is read; "nx" two heaps -/
local macro_rules | `(tactic| walk_at "sep") => `(tactic| first | assumption | (refine (by assumption : Nx _ _ _) _ _ ?_; walk_at "sep"))
local macro_rules | `(tactic| walk_at "sq") => `(tactic| first | assumption | exact .inl (.inl (by assumption)) | exact Sep.sq (by walk_at "sep") | exact Sep.st (by walk_at "sep") | exact .inl (.inl upd_same))
local macro_rules | `(tactic| walk_at "rd") => `(tactic| repeat (first
  | refine And.intro rfl ?_
  | apply Exists.intro
  | refine And.intro (by assumption) ?_
  | refine And.intro (DrawOk.mk (by omega) (by omega) (by omega)) ?_
  | refine And.intro at0 ?_
  | refine And.intro ⟨_, rfl⟩ ?_
  | refine And.intro (by walk_at "sq") ?_
  | refine And.intro (Or.inl (by walk_at "sq")) ?_
  | refine And.intro (Or.inr (by walk_at "sq")) ?_
  | refine And.intro (by omega) ?_))
section
variable {P : Program} {w : World} {K : PySem.W.Frag} {mg : Str → Option Value} {base : Heap}
/-- a number of names that is no family's -/
abbrev badLen (ps : List Str) : Prop := ps.length < 1 ∨ 5 < ps.length
/-- checked_persons(persons) -/
def spPersons (T : Txt K mg) : Sp := fun vs H Q E => ∃ (p : Addr) (ps : List Str), vs = [.ref p] ∧ (SqL K H p (ps.map V.str) ∨ SqT K H p (ps.map V.str)) ∧ ps.length ≤ 90000 ∧ (∀ z ∈ ps, z.length ≤ 100000) ∧
  (badLen ps → ∀ H', Same H H' → Flies E T.C_BadCount "count" (.int (ps.length : Int)) H') ∧
  (∀ z H', ¬ badLen ps → wrongUp ps ps.length = some (("name" : Str), z) → Same H H' → Flies E T.C_BadName "name" (.str z) H') ∧
  (∀ z H', ¬ badLen ps → wrongUp ps ps.length = some (("twice" : Str), z) → Same H H' → Flies E T.C_DuplicateName "name" (.str z) H') ∧
  (¬ badLen ps → wrongUp ps ps.length = none → ∀ q H', Same H H' → SqT K H' q ((ps.mergeSort leS).map V.str) → Q (.ref q) H')
theorem ok_checked_persons (T : Txt K mg) : FnOk P w K mg base (L2.CX P w) 3 T.f_checked_persons T.fd_checked_persons ["persons"] (spPersons T) := by
  refine T.F_checked_persons.okX sc_checked_persons (fun vs H Q E h => ?_) (fun cdv A outer s H vs Q E hr h => ?_)
  · obtain ⟨p, ps, rfl, _⟩ := h
    rfl
  · obtain ⟨p, ps, rfl, hp, hl, hzl, qc, qN, qT, q⟩ := h
    refine ⟨_, (pss_cons (ps_if (pt_not (pt_chain op_le op_le pe_int (pe_callB (id := "len") (r := rLenS K) call_lenS (by rfl) T.n_len PySem.boot_len (pa_cons (pv 0) pa_nil)) (pe_glob (v := .int 5) rfl T.c_MOST_PERSONS ⟨_, rfl⟩)))
      (pss_one (ps_raise rfl (takes_of rfl rfl rfl rfl) (pmk_err T.er_BadCount T.iC_BadCount T.tI_BadCount (ok_BadCount__init_ T) (hr.mono (by decide)) T.b_BadCount__init_ (by rfl) T.g_BadCount (pe_callB (id := "len") (r := rLenS K) call_lenS (by rfl) T.n_len PySem.boot_len (pa_cons (pv 0) pa_nil))))) pss_nil)
    (pss_stop (ps_for (passes_of rfl) rfl (pi_hold (pi_enumS (by rfl) T.n_enumerate (pa_cons (pv 0) pa_nil))) (pg_tup rfl (pgs_cons (pg_name (i := 1) sc_checked_persons.nd rfl (Or.inl rfl)) (pgs_cons (pg_name (i := 2) sc_checked_persons.nd rfl (Or.inl rfl)) pgs_nil)))
      (pss_cons (ps_if (pt_not (pt_val (pe_call (ok_valid_name T) (hr.mono (by decide)) (by rfl) T.g_valid_name T.F_valid_name.kp T.b_valid_name .nil pass0 (pa_cons (pv 2) pa_nil))))
      (pss_one (ps_raise rfl (takes_of rfl rfl rfl rfl) (pmk_err T.er_BadName T.iC_BadName T.tI_BadName (ok_BadName__init_ T) (hr.mono (by decide)) T.b_BadName__init_ (by rfl) T.g_BadName (pv 2)))) pss_nil)
    (pss_one (ps_if (pt_cmpR (r := rIn K false) op_in_seq (pv 2) (pe_slice sl_seqO (pv 0) po_none (po_some (pv 1))) (by rfl))
      (pss_one (ps_raise rfl (takes_of rfl rfl rfl rfl) (pmk_err T.er_DuplicateName T.iC_DuplicateName T.tI_DuplicateName (ok_DuplicateName__init_ T) (hr.mono (by decide)) T.b_DuplicateName__init_ (by rfl) T.g_DuplicateName (pv 2)))) pss_nil))))
    (pss_one (ps_ret (pe_callTy (T := "tuple") (r := rTupL K) call_tupL (by rfl) T.n_tuple (by decide +kernel) (pa_cons (pe_callB (id := "sorted") (cr_sortS (room65 hr)) (by rfl) T.n_sorted (by decide +kernel) (pa_cons (pv 0) pa_nil)) pa_nil)))))), ?_⟩
    have hlm : (ps.map V.str).length = ps.length := List.length_map _
    walk_at "rd"
    refine ite2 (fun e1 => ?_) (fun e1 => ?_)
    · have e1' := of_decide_eq_true e1
      walk_at "rd"
      refine ite2 (fun e2 => ?_) (fun e2 => ?_)
      · have hb : badLen ps := .inr (by
          have : ¬ (((ps.map V.str).length : Nat) : Int) ≤ 5 := fun z => by rw [decide_eq_true z] at e2; cases e2
          omega)
        walk_at "rd"
        rw [hlm]
        exact qc hb H (Same.refl H)
      · have e2' : (((ps.map V.str).length : Nat) : Int) ≤ 5 := by
          apply Classical.byContradiction
          intro z
          exact e2 (by simp only [decide_eq_false z]; rfl)
        have hb : ¬ badLen ps := by
          rintro (z | z) <;> omega
        walk_at "rd"
        refine Stop.cut (fun σ H' => ∃ (y z : Option V), σ = [some (.ref p), y, z] ∧ Same H H' ∧ wrongUp ps ps.length = none) (fun Qz hz => ?_) ?_
        · walk_at "rd"
          rcases hp with hp | hp
          · refine .inl ⟨⟨_, hp⟩, ⟨for_it (walk_enum (K := K) (a := p) (xs := ps.map V.str)) (fun i σ H' => ∃ (y z : Option V), σ = [some (.ref p), y, z] ∧ Same H H' ∧ wrongUp ps i = none) ⟨none, none, rfl, Same.refl H, rfl⟩ (fun i σ H' _ ⟨_, _, _, s, _⟩ => s.seq hp) ?_ ?_⟩⟩
            · rintro i x _ H1 H2 hi ⟨y, z, rfl, s1, e3⟩ ⟨t, xi, xn, rfl, nt, rfl, hxi, hxn⟩
              have hi' : i < ps.length := by simpa using hi
              have hgi : ps[i]? = some ps[i] := List.getElem?_eq_getElem hi'
              obtain rfl := Option.some.inj hxi
              obtain rfl := strs_get hxn hgi
              have hgd : ps.getD i default = ps[i] := by rw [List.getD_eq_getElem?_getD, hgi]; rfl
              have hz1 := hzl _ (List.getElem_mem hi')
              have s2 : Same H (upd H1 t (.tup [.int (i : Nat), .str ps[i]])) := s1.trans (same_new nt)
              have ht2 : SqT K (upd H1 t (.tup [.int (i : Nat), .str ps[i]])) t [.int (i : Nat), .str ps[i]] := SqT.of upd_same
              generalize upd H1 t (.tup [.int (i : Nat), .str ps[i]]) = H2 at s2 ht2 ⊢
              refine ⟨t, _, rfl, ht2, rfl, ?_⟩
              walk_at "rd"
              intro H3 s3
              have s03 : Same H H3 := s2.trans s3
              have hp3 := s03.seq hp
              have hup : wrongUp ps (i + 1) = badAt ps i := by
                show (match wrongUp ps i with | some r => some r | none => badAt ps i) = _
                rw [e3]
              walk_at "rd"
              refine ite2 (fun e4 => ?_) (fun e4 => ?_)
              · have e5 : okN ps[i].cps.toList = false := (Bool.not_eq_true' _).mp e4
                have hw : wrongUp ps (i + 1) = some (("name" : Str), ps[i]) := by
                  rw [hup]
                  unfold badAt
                  rw [hgd, e5]
                  rfl
                walk_at "rd"
                exact qN _ H3 hb (wrongUp_stay hw hi') s03
              · have e5 : okN ps[i].cps.toList = true := by simpa using e4
                have hcut : cutV (ps.map V.str) none (some (i : Int)) = (ps.take i).map V.str := by
                  unfold cutV
                  rw [HT.sIx_none, HT.sIx_nat]
                  simp [Nat.min_eq_left (Nat.le_of_lt hi')]
                walk_at "rd"
                refine .inl ⟨p, _, rfl, hp3, ?_⟩
                rw [hcut]
                first
                  | intro c H4 s4 hc
                    have s04 := s03.trans s4
                    have hc' : SqL K H4 c ((ps.take i).map V.str) ∨ SqT K H4 c ((ps.take i).map V.str) := .inr hc
                    skip
                  | intro c H4 n4 s4 hc
                    have s04 := s03.trans s4
                    have hc' : SqL K H4 c ((ps.take i).map V.str) ∨ SqT K H4 c ((ps.take i).map V.str) := .inl (SqL.of hc)
                walk_at "rd"
                refine ⟨strs_flat _, ?_⟩
                rw [inV_strs]
                walk_at "rd"
                refine ite2 (fun e6 => ?_) (fun e6 => ?_)
                · have hw : wrongUp ps (i + 1) = some (("twice" : Str), ps[i]) := by
                    rw [hup]
                    unfold badAt
                    rw [hgd, if_pos e5, if_pos (of_decide_eq_true e6)]
                  walk_at "rd"
                  exact qT _ H4 hb (wrongUp_stay hw hi') s04
                · refine ⟨_, _, rfl, s04, ?_⟩
                  rw [hup]
                  unfold badAt
                  rw [hgd, if_pos e5, if_neg (fun z => e6 (decide_eq_true z))]
            · rintro σ H1 ⟨y, z, rfl, s1, e3⟩
              exact hz _ _ ⟨y, z, rfl, s1, by simpa using e3⟩
          · refine .inr ⟨⟨_, hp⟩, ⟨for_it (walk_enumT (K := K) (a := p) (xs := ps.map V.str)) (fun i σ H' => ∃ (y z : Option V), σ = [some (.ref p), y, z] ∧ Same H H' ∧ wrongUp ps i = none) ⟨none, none, rfl, Same.refl H, rfl⟩ (fun i σ H' _ ⟨_, _, _, s, _⟩ => s.tupT hp) ?_ ?_⟩⟩
            · rintro i x _ H1 H2 hi ⟨y, z, rfl, s1, e3⟩ ⟨t, xi, xn, rfl, nt, rfl, hxi, hxn⟩
              have hi' : i < ps.length := by simpa using hi
              have hgi : ps[i]? = some ps[i] := List.getElem?_eq_getElem hi'
              obtain rfl := Option.some.inj hxi
              obtain rfl := strs_get hxn hgi
              have hgd : ps.getD i default = ps[i] := by rw [List.getD_eq_getElem?_getD, hgi]; rfl
              have hz1 := hzl _ (List.getElem_mem hi')
              have s2 : Same H (upd H1 t (.tup [.int (i : Nat), .str ps[i]])) := s1.trans (same_new nt)
              have ht2 : SqT K (upd H1 t (.tup [.int (i : Nat), .str ps[i]])) t [.int (i : Nat), .str ps[i]] := SqT.of upd_same
              generalize upd H1 t (.tup [.int (i : Nat), .str ps[i]]) = H2 at s2 ht2 ⊢
              refine ⟨t, _, rfl, ht2, rfl, ?_⟩
              walk_at "rd"
              intro H3 s3
              have s03 : Same H H3 := s2.trans s3
              have hp3 := s03.tupT hp
              have hup : wrongUp ps (i + 1) = badAt ps i := by
                show (match wrongUp ps i with | some r => some r | none => badAt ps i) = _
                rw [e3]
              walk_at "rd"
              refine ite2 (fun e4 => ?_) (fun e4 => ?_)
              · have e5 : okN ps[i].cps.toList = false := (Bool.not_eq_true' _).mp e4
                have hw : wrongUp ps (i + 1) = some (("name" : Str), ps[i]) := by
                  rw [hup]
                  unfold badAt
                  rw [hgd, e5]
                  rfl
                walk_at "rd"
                exact qN _ H3 hb (wrongUp_stay hw hi') s03
              · have e5 : okN ps[i].cps.toList = true := by simpa using e4
                have hcut : cutV (ps.map V.str) none (some (i : Int)) = (ps.take i).map V.str := by
                  unfold cutV
                  rw [HT.sIx_none, HT.sIx_nat]
                  simp [Nat.min_eq_left (Nat.le_of_lt hi')]
                walk_at "rd"
                refine .inr ⟨p, _, rfl, hp3, ?_⟩
                rw [hcut]
                first
                  | intro c H4 s4 hc
                    have s04 := s03.trans s4
                    have hc' : SqL K H4 c ((ps.take i).map V.str) ∨ SqT K H4 c ((ps.take i).map V.str) := .inr hc
                    skip
                  | intro c H4 n4 s4 hc
                    have s04 := s03.trans s4
                    have hc' : SqL K H4 c ((ps.take i).map V.str) ∨ SqT K H4 c ((ps.take i).map V.str) := .inl (SqL.of hc)
                walk_at "rd"
                refine ⟨strs_flat _, ?_⟩
                rw [inV_strs]
                walk_at "rd"
                refine ite2 (fun e6 => ?_) (fun e6 => ?_)
                · have hw : wrongUp ps (i + 1) = some (("twice" : Str), ps[i]) := by
                    rw [hup]
                    unfold badAt
                    rw [hgd, if_pos e5, if_pos (of_decide_eq_true e6)]
                  walk_at "rd"
                  exact qT _ H4 hb (wrongUp_stay hw hi') s04
                · refine ⟨_, _, rfl, s04, ?_⟩
                  rw [hup]
                  unfold badAt
                  rw [hgd, if_pos e5, if_neg (fun z => e6 (decide_eq_true z))]
            · rintro σ H1 ⟨y, z, rfl, s1, e3⟩
              exact hz _ _ ⟨y, z, rfl, s1, by simpa using e3⟩
        · rintro _ H3 ⟨y, z, rfl, s3, e3⟩
          have hp3 : SqL K H3 p (ps.map V.str) ∨ SqT K H3 p (ps.map V.str) := hp.elim (fun h => .inl (s3.seq h)) fun h => .inr (s3.tupT h)
          walk_at "rd"
          intro a H4 n4 s4 h4
          walk_at "rd"
          intro b H5 n5 s5 h5
          exact q hb e3 b H5 ((s3.trans s4).trans s5) (SqT.of h5)
    · have hb : badLen ps := .inl (by
        have : ¬ (1 : Int) ≤ (((ps.map V.str).length : Nat) : Int) := fun z => e1 (decide_eq_true z)
        omega)
      refine ⟨_, rfl, ?_⟩
      refine iteT ?_
      walk_at "rd"
      rw [hlm]
      exact qc hb H (Same.refl H)
theorem badAt_none {ps : List Str} (h1 : ps.Nodup) (h2 : ∀ z ∈ ps, okN z.cps.toList = true) : ∀ {n : Nat}, n ≤ ps.length → wrongUp ps n = none := by
  intro n
  induction n with
  | zero => intro _; rfl
  | succ n ih =>
    intro hn
    show (match wrongUp ps n with | some r => some r | none => badAt ps n) = none
    rw [ih (by omega)]
    have hgi : ps[n]? = some ps[n] := List.getElem?_eq_getElem hn
    have hgd : ps.getD n default = ps[n] := by rw [List.getD_eq_getElem?_getD, hgi]; rfl
    show badAt ps n = none
    unfold badAt
    rw [hgd, if_pos (h2 _ (List.getElem_mem hn)), if_neg]
    intro hm
    obtain ⟨j, hj, e⟩ := List.getElem_of_mem hm
    rw [List.getElem_take] at e
    have hj' : j < n := by
      rw [List.length_take] at hj
      omega
    exact (List.pairwise_iff_getElem.mp h1) j n (by omega) hn hj' e
theorem leS_total : PySem.W.TotalLe leS := PySem.W.sortLe_total _ _ _
theorem srt_srt (ps : List Str) : srt (srt ps) = srt ps := List.mergeSort_of_pairwise (PySem.W.sort_pairwise leS_total ps)
theorem lenP {f : Str} {y : V} {fs : List (Str × V)} {n : Nat} (h : fs.length < n) : (putF f y fs).length < n + 1 := by
  have := length_putF f y fs
  omega
theorem tupT_ins {H H' : Hp} {f a C dx : Addr} {fs : List (Str × V)} {xs : List V} (hf : H f = some (.ins C dx fs)) (k : ∀ b o, H b = some o → b ≠ f → H' b = some o) (h : SqT K H a xs) : SqT K H' a xs := by
  rcases h with (h | ⟨o, h⟩) | h
  · exact .inl (.inl (k _ _ h (ne_of h hf fun z => by cases z)))
  · exact .inl (.inr ⟨o, k _ _ h (ne_of h hf fun z => by cases z)⟩)
  · exact .inr h
theorem srt_fine {ps : List Str} (h : wrongUp ps ps.length = none) : wrongUp (srt ps) (srt ps).length = none :=
  badAt_none (srt_nodup (names_nodup h)) (fun z hz => names_ok h z ((srt_perm ps).mem_iff.mp hz)) (Nat.le_refl _)
/-- names of persons -/
structure NamesOk (ks : List Str) : Prop where
  one : 1 ≤ ks.length
  five : ks.length ≤ 5
  nd : ks.Nodup
  ok : ∀ z ∈ ks, okN z.cps.toList = true
end
end P
set_option Elab.async false
set_option linter.all false
set_option maxRecDepth 100000
set_option maxHeartbeats 4000000
namespace P
open PySem PySem.Spec PyProof.Rows L2 OS
/-! short ways: "rd" opens a reading as far as equations go; "sep" finds what stands apart from the state; "sq" a list that is read; "nx" two heaps -/
local macro_rules | `(tactic| walk_at "sep") => `(tactic| first | assumption | (refine (by assumption : Nx _ _ _) _ _ ?_; walk_at "sep"))
local macro_rules | `(tactic| walk_at "sq") => `(tactic| first | assumption | exact .inl (.inl (by assumption)) | exact Sep.sq (by walk_at "sep") | exact Sep.st (by walk_at "sep") | exact .inl (.inl upd_same))
local macro_rules | `(tactic| walk_at "rd") => `(tactic| repeat (first
  | refine And.intro rfl ?_
  | apply Exists.intro
  | refine And.intro (by assumption) ?_
  | refine And.intro (DrawOk.mk (by omega) (by omega) (by omega)) ?_
  | refine And.intro at0 ?_
  | refine And.intro ⟨_, rfl⟩ ?_
  | refine And.intro (by walk_at "sq") ?_
  | refine And.intro (Or.inl (by walk_at "sq")) ?_
  | refine And.intro (Or.inr (by walk_at "sq")) ?_
  | refine And.intro (by omega) ?_))
section
variable {P : Program} {w : World} {K : PySem.W.Frag} {mg : Str → Option Value} {base : Heap}
/-- contains(group, other) -/
def spContains (K : PySem.W.Frag) : Sp := fun vs H Q _ => ∃ (a b : Addr) (gs os : List Str), vs = [.ref a, .ref b] ∧ SqT K H a (gs.map V.str) ∧ SqT K H b (os.map V.str) ∧ os.length ≤ 1000 ∧ ∀ H', Same H H' → Q (.bl (inside os gs)) H'
theorem ok_contains (T : Txt K mg) : FnOk P w K mg base CX0 1 T.f_contains T.fd_contains ["group", "other"] (spContains K) := by
  refine T.F_contains.ok sc_contains (fun vs H Q E h => ?_) (fun cdv A outer s H vs Q E hr h => ?_)
  · obtain ⟨a, b, gs, os, rfl, _⟩ := h
    rfl
  · obtain ⟨a, b, gs, os, rfl, hg, ho, hl, q⟩ := h
    refine ⟨_, (pss_one (ps_ret (pe_callB (id := "all") (r := rAll K) (cr_all rfl) (by rfl) T.n_all (by decide +kernel) (pa_cons (pe_lc (own := [("name", 2)]) (g := gName 2) (tt := tYes) rfl sc_contains.nd (pi_tup (pv 1)) (blkOk_by (own := [("name", 2)]) (N := N_contains) (sc := defScope s_contains) (by decide +kernel)) (fun _ _ _ _ _ => (pg_name (i := 2) sc_contains.nd rfl (Or.inl rfl))) (fun _ _ _ _ _ => pts_nil) (fun _ _ _ _ _ => (pe_cmpR (r := rIn K false) op_in_seq (pv 2) (pv 0) (by rfl)))) pa_nil)))), ?_⟩
    walk_at "rd"
    refine ⟨⟨_, ho⟩, fun D hD => ?_⟩
    refine lc_all (walk_tup (xs := os.map V.str)) (xs := os) (by simp) (by simp; omega) (fun n => V.bl (decide (n ∈ gs))) hD (fun H1 s => s.tupT ho) ?_ ?_
    · intro i n x H1 H2 Qk hn sm hy hk
      obtain ⟨rfl, hx⟩ := hy
      obtain rfl := strs_get hx hn
      have hg2 := sm.tupT hg
      walk_at "rd"
      refine ⟨strs_flat gs, ?_⟩
      rw [inV_strs]
      exact hk _ (Same.refl _)
    · intro H1 sm hD1
      refine ⟨D, os.map fun n => decide (n ∈ gs), rfl, SqL.of (by rw [List.map_map]; exact hD1), ?_⟩
      have e : (os.map fun n => decide (n ∈ gs)).all id = inside os gs := by
        unfold inside
        rw [List.all_map]
        rfl
      rw [e]
      exact q _ sm
/-- is_group(persons, value) -/
def spIsGrp (K : PySem.W.Frag) : Sp := fun vs H Q _ => ∃ (a : Addr) (ps : List Str) (x : V) (o : Option (List V)), vs = [.ref a, x] ∧ SqT K H a (ps.map V.str) ∧ Thing K H x o ∧ ps.length ≤ 1000 ∧ ∀ H', Same H H' → Q (.bl (isGrp ps o)) H'
theorem ok_is_group (T : Txt K mg) : FnOk P w K mg base CX0 1 T.f_is_group T.fd_is_group ["persons", "value"] (spIsGrp K) := by
  refine T.F_is_group.ok sc_is_group (fun vs H Q E h => ?_) (fun cdv A outer s H vs Q E hr h => ?_)
  · obtain ⟨a, ps, x, o, rfl, _⟩ := h
    rfl
  · obtain ⟨a, ps, x, o, rfl, hp, hx, hl, q⟩ := h
    refine ⟨_, (pss_cons (ps_if (pt_not (pt_val (pe_callB (id := "isinstance") (r := rIsi K) call_isi (by rfl) T.n_isinstance (by decide +kernel) (pa_cons (pv 1) (pa_cons (pe_bltn (v := .ty "tuple") (u := .type "tuple") (by rfl) T.n_tuple (by decide +kernel) rfl) pa_nil)))))
      (pss_one (ps_ret pe_bl)) pss_nil)
    (pss_one (ps_ret (pe_cmpR (r := rEqTS K) (op_eqTS (room65 hr)) (pv 1) (pe_callTy (T := "tuple") (r := rTupL K) call_tupL (by rfl) T.n_tuple (by decide +kernel) (pa_cons (pe_lc (own := [("name", 2)]) (g := gName 2) rfl sc_is_group.nd (pi_tup (pv 0)) (blkOk_by (own := [("name", 2)]) (N := N_is_group) (sc := defScope s_is_group) (by decide +kernel)) (fun _ _ _ _ _ => (pg_name (i := 2) sc_is_group.nd rfl (Or.inl rfl))) (fun _ _ _ _ _ => (pts_one (pt_cmpR (r := rInAny K false) (op_inAny (room65 hr)) (pv 2) (pv 1) (by rfl)))) (fun _ _ _ _ _ => (pv 2))) pa_nil)) (nomark _))))), ?_⟩
    obtain ⟨t, ht, hk⟩ := hx.isT
    walk_at "rd"
    refine ⟨.ty _, ht, hk, ?_⟩
    walk_at "rd"
    cases hx with
    | flat f => exact q H (Same.refl H)
    | lst z => exact q H (Same.refl H)
    | dct z => exact q H (Same.refl H)
    | @tup b xs hb hi =>
      walk_at "rd"
      refine ⟨⟨_, hp⟩, fun D hD => ?_⟩
      refine lc_fn (walk_tup (xs := ps.map V.str)) (xs := ps) (by simp) (by simp; omega) (fun n => xs.any (isS n)) V.str hD (fun H1 s => s.tupT hp) ?_ ?_
      · intro i n x H1 H2 Qk Qn hn sm hy hk hn'
        obtain ⟨rfl, hx⟩ := hy
        obtain rfl := strs_get hx hn
        have hb2 := sm.tupT hb
        have hi2 : ∀ v ∈ xs, Itm K H2 v := fun v hv => (hi v hv).same sm
        walk_at "rd"
        refine ite2 (fun e => ?_) (fun e => ?_)
        · walk_at "rd"
          exact hk e _ (Same.refl _)
        · exact hn' ((Bool.not_eq_true _).mp e) _ (Same.refl _)
      · intro H1 sm hD1
        refine ⟨D, _, rfl, SqL.of hD1, fun p H2 np s2 hp2 => ?_⟩
        have hb3 := (sm.trans s2).tupT hb
        have hi3 : ∀ v ∈ xs, Itm K H2 v := fun v hv => (hi v hv).same (sm.trans s2)
        refine ⟨b, p, xs, _, rfl, rfl, hb3, hi3, SqT.of hp2, ?_⟩
        exact q H2 (sm.trans s2)
end
end P
set_option Elab.async false
set_option linter.all false
set_option maxRecDepth 100000
set_option maxHeartbeats 4000000
namespace P
open PySem PySem.Spec PyProof.Rows L2 OS
/-! short ways: "rd" opens a reading as far as equations go; "sep" finds what stands apart from the state; "sq" a list that is read; "nx" two heaps -/
local macro_rules | `(tactic| walk_at "sep") => `(tactic| first | assumption | (refine (by assumption : Nx _ _ _) _ _ ?_; walk_at "sep"))
local macro_rules | `(tactic| walk_at "sq") => `(tactic| first | assumption | exact .inl (.inl (by assumption)) | exact Sep.sq (by walk_at "sep") | exact Sep.st (by walk_at "sep") | exact .inl (.inl upd_same))
local macro_rules | `(tactic| walk_at "rd") => `(tactic| repeat (first
  | refine And.intro rfl ?_
  | apply Exists.intro
  | refine And.intro (by assumption) ?_
  | refine And.intro (DrawOk.mk (by omega) (by omega) (by omega)) ?_
  | refine And.intro at0 ?_
  | refine And.intro ⟨_, rfl⟩ ?_
  | refine And.intro (by walk_at "sq") ?_
  | refine And.intro (Or.inl (by walk_at "sq")) ?_
  | refine And.intro (Or.inr (by walk_at "sq")) ?_
  | refine And.intro (by omega) ?_))
section
variable {P : Program} {w : World} {K : PySem.W.Frag} {mg : Str → Option Value} {base : Heap}
/-- contains_another(group, groups) -/
def spAnother (K : PySem.W.Frag) : Sp := fun vs H Q _ => ∃ (x : V) (p : Addr) (xs : List V) (g : List Str) (gs : List (List Str)), vs = [x, .ref p] ∧ GrpV K H x g ∧ SqL K H p xs ∧ GrpsV K H xs gs ∧ gs.length ≤ 1000 ∧ (∀ o ∈ gs, o.length ≤ 1000) ∧
  ∀ H', Same H H' → Q (.bl (gs.any fun o => decide (o ≠ g) && inside o g)) H'
theorem ok_contains_another (T : Txt K mg) : FnOk P w K mg base CX0 2 T.f_contains_another T.fd_contains_another ["group", "groups"] (spAnother K) := by
  refine T.F_contains_another.ok sc_contains_another (fun vs H Q E h => ?_) (fun cdv A outer s H vs Q E hr h => ?_)
  · obtain ⟨x, p, xs, g, gs, rfl, _⟩ := h
    rfl
  · obtain ⟨x, p, xs, g, gs, rfl, hx, hp, hg, hl, hl2, q⟩ := h
    refine ⟨_, (pss_one (ps_ret (pe_callB (id := "any") (r := rAny K) (cr_any rfl) (by rfl) T.n_any (by decide +kernel) (pa_cons (pe_lc (own := [("other", 2)]) (g := gName 2) (tt := tYes) rfl sc_contains_another.nd (pi_list (pv 1)) (blkOk_by (own := [("other", 2)]) (N := N_contains_another) (sc := defScope s_contains_another) (by decide +kernel)) (fun _ _ _ _ _ => (pg_name (i := 2) sc_contains_another.nd rfl (Or.inl rfl))) (fun _ _ _ _ _ => pts_nil) (fun _ _ _ _ _ => (pe_and (pe_cmpR (r := rNeP K) (op_neP (room65 hr)) (pv 2) (pv 0) (nomark _)) (pe_one (pe_call (ok_contains T) (hr.mono (by decide)) (by rfl) T.g_contains T.F_contains.kp T.b_contains .nil pass0 (pa_cons (pv 0) (pa_cons (pv 2) pa_nil))))))) pa_nil)))), ?_⟩
    walk_at "rd"
    refine ⟨⟨_, hp⟩, fun D hD => ?_⟩
    refine lc_all (walk_list (xs := xs)) (xs := gs) (paired_len hg).symm (by rw [paired_len hg]; exact Nat.le_trans hl (by decide)) (fun o => V.bl (decide (o ≠ g) && inside o g)) hD (fun H1 s => s.seq hp) ?_ ?_
    · intro i o y H1 H2 Qk ho sm hy hk
      obtain ⟨rfl, hy⟩ := hy
      obtain ⟨o', h1, h2⟩ := OS.paired_get hg hy
      obtain rfl : o' = o := Option.some.inj (h1.symm.trans ho)
      have hmem : o' ∈ gs := List.mem_of_getElem? ho
      have hx2 := hx.same sm
      have hy2 := h2.same sm
      walk_at "rd"
      refine ⟨hy2.dp, hx2.dp, by rw [depth_G]; decide, ?_⟩
      rw [eqv_G]
      walk_at "rd"
      obtain ⟨b, rfl, hb⟩ := hx2
      obtain ⟨c, rfl, hc⟩ := hy2
      refine ite2 (fun e => ?_) (fun e => ?_)
      · have e1 : o' ≠ g := by simpa using e
        have hl3 := hl2 _ hmem
        walk_at "rd"
        intro H3 s3
        rw [decide_eq_true e1, Bool.true_and] at hk
        exact hk H3 s3
      · have e1 : o' = g := by simpa using e
        subst e1
        have e2 : (decide (o' ≠ o') && inside o' o') = false := by simp
        rw [e2] at hk
        exact hk _ (Same.refl _)
    · intro H1 sm hD1
      refine ⟨D, gs.map (fun o => decide (o ≠ g) && inside o g), rfl, SqL.of (by rw [List.map_map]; exact hD1), ?_⟩
      rw [List.any_map]
      exact q _ sm
end
end P
set_option Elab.async false
set_option linter.all false
set_option maxRecDepth 100000
set_option maxHeartbeats 4000000
namespace P
open PySem PySem.Spec PyProof.Rows L2 OS
/-! short ways: "rd" opens a reading as far as equations go; "sep" finds what stands apart from the state; "sq" a list that is read; "nx" two heaps -/
local macro_rules | `(tactic| walk_at "sep") => `(tactic| first | assumption | (refine (by assumption : Nx _ _ _) _ _ ?_; walk_at "sep"))
local macro_rules | `(tactic| walk_at "sq") => `(tactic| first | assumption | exact .inl (.inl (by assumption)) | exact Sep.sq (by walk_at "sep") | exact Sep.st (by walk_at "sep") | exact .inl (.inl upd_same))
local macro_rules | `(tactic| walk_at "rd") => `(tactic| repeat (first
  | refine And.intro rfl ?_
  | apply Exists.intro
  | refine And.intro (by assumption) ?_
  | refine And.intro (DrawOk.mk (by omega) (by omega) (by omega)) ?_
  | refine And.intro at0 ?_
  | refine And.intro ⟨_, rfl⟩ ?_
  | refine And.intro (by walk_at "sq") ?_
  | refine And.intro (Or.inl (by walk_at "sq")) ?_
  | refine And.intro (Or.inr (by walk_at "sq")) ?_
  | refine And.intro (by omega) ?_))
section
variable {P : Program} {w : World} {K : PySem.W.Frag} {mg : Str → Option Value} {base : Heap}
/-- all_groups(persons) -/
def spAllGroups (K : PySem.W.Frag) : Sp := fun vs H Q _ => ∃ (a : Addr) (ps : List Str), vs = [.ref a] ∧ SqT K H a (ps.map V.str) ∧ ps.length ≤ 8 ∧ ∀ p H' xs, H p = none → Same H H' → H' p = some (.lst xs) → GrpsV K H' xs (allG ps) → Q (.ref p) H'
theorem sets_small {ps : List Str} (h : ps.length ≤ 8) : (setsL ps).length ≤ 256 := by
  rw [setsL_len]
  exact Nat.pow_le_pow_right (by decide : 2 > 0) h
theorem ok_all_groups (T : Txt K mg) : FnOk P w K mg base CX0 1 T.f_all_groups T.fd_all_groups ["persons"] (spAllGroups K) := by
  refine T.F_all_groups.ok sc_all_groups (fun vs H Q E h => ?_) (fun cdv A outer s H vs Q E hr h => ?_)
  · obtain ⟨a, ps, rfl, _⟩ := h
    rfl
  · obtain ⟨a, ps, rfl, hp, hl, q⟩ := h
    refine ⟨_, (pss_cons (ps_set (i := 1) sc_all_groups.nd rfl (Or.inl rfl) (pe_lstO (pa_cons (pe_tupO pa_nil) pa_nil)))
    (pss_stop (ps_for PassesOwn.never rfl (pi_hold (pi_tup (pv 0))) (pg_name (i := 2) sc_all_groups.nd rfl (Or.inr rfl))
      (pss_one (ps_set (i := 1) sc_all_groups.nd rfl (Or.inl rfl) (pe_op op_catO (pv 1) (pe_lc (own := [("group", 3)]) (g := gName 3) (tt := tYes) rfl sc_all_groups.nd (pi_list (pv 1)) (blkOk_by (own := [("group", 3)]) (N := N_all_groups) (sc := defScope s_all_groups) (by decide +kernel)) (fun _ _ _ _ _ => (pg_name (i := 3) sc_all_groups.nd rfl (Or.inl rfl))) (fun _ _ _ _ _ => pts_nil) (fun _ _ _ _ _ => (pe_op (r := rCatTO K) op_catTO (pv 3) (pe_tupO (pa_cons (pv 2) pa_nil)))))))))
    (pss_one (ps_ret (pe_sortLen (room65 hr) (by rfl) T.n_sorted (by rfl) T.n_len (pe_callB (id := "sorted") (cr_sortX (room65 hr)) (by rfl) T.n_sorted (by decide +kernel) (pa_cons (pv 1) pa_nil))))))), ?_⟩
    walk_at "rd"
    refine ⟨by decide, fun e H1 ne s1 he => ?_⟩
    walk_at "rd"
    refine ⟨by show 1 ≤ sizeLine; decide, fun p H2 n2 s2 hp2 => ?_⟩
    have s12 : Same H H2 := s1.trans s2
    have hg2 : GrpsV K H2 [V.ref e] (setsL (ps.take 0)) := .cons ⟨e, rfl, SqT.of (s2 _ _ he)⟩ .nil
    clear s1 s2 n2 ne he
    refine Stop.cut (fun σ H' => ∃ (p : Addr) (xs : List V) (y : Option V), σ = [some (.ref a), some (.ref p), y, none] ∧ Same H H' ∧ H' p = some (.lst xs) ∧ GrpsV K H' xs (setsL ps)) (fun Qz hz => ?_) ?_
    · walk_at "rd"
      refine ⟨⟨_, s12.tupT hp⟩, ⟨for_it (walk_tup (xs := ps.map V.str)) (fun i σ H' => ∃ (p : Addr) (xs : List V) (y : Option V), σ = [some (.ref a), some (.ref p), y, none] ∧ Same H H' ∧ H' p = some (.lst xs) ∧ GrpsV K H' xs (setsL (ps.take i))) ⟨p, _, none, rfl, s12, hp2, hg2⟩ (fun i σ H' _ ⟨_, _, _, _, s, _⟩ => s.tupT hp) ?_ ?_⟩⟩
      · rintro i x _ H3 H4 hi ⟨p3, xs, y, rfl, s3, hp3, hg3⟩ ⟨rfl, hx⟩
        have hi' : i < ps.length := by simpa using hi
        obtain rfl := strs_get hx (List.getElem?_eq_getElem hi')
        have hlen : (setsL (ps.take i)).length ≤ 256 := sets_small (by rw [List.length_take]; omega)
        have hxl := paired_len hg3
        walk_at "rd"
        refine ⟨⟨_, SqL.of hp3⟩, fun D hD => ?_⟩
        refine lc_rel (walk_list (xs := xs)) (xs := setsL (ps.take i)) hxl.symm (by omega) (fun _ => true) (fun H g v => GrpV K H v (g ++ [ps[i]])) hD (fun H H' g v acc _ hDa k h => h.but hDa k) (fun H s => s.seq (SqL.of hp3)) ?_ ?_
        · intro j g v H5 H6 Qk Qn hg sm hy hk _
          obtain ⟨rfl, hv⟩ := hy
          obtain ⟨g', h1, h2⟩ := OS.paired_get hg3 hv
          obtain rfl : g' = g := Option.some.inj (h1.symm.trans hg)
          obtain ⟨b, rfl, hb⟩ := h2.same sm
          walk_at "rd"
          refine ⟨by show 1 ≤ sizeLine; decide, fun t H7 n7 s7 ht => ?_⟩
          have hgl : g'.length ≤ 8 := by
            have h9 : g' ∈ setsL (ps.take i) := List.mem_of_getElem? hg
            have h8 := (mem_sets.mp h9).length_le
            rw [List.length_take] at h8
            omega
          refine ⟨b, t, g'.map V.str, [V.str ps[i]], rfl, rfl, s7.tupT hb, SqT.of ht, by rw [List.length_map]; exact Nat.le_trans (Nat.add_le_add_right hgl 1) (by decide), fun q8 H8 s8 hq8 => ?_⟩
          exact hk rfl _ _ ⟨q8, rfl, by rw [List.map_append]; exact hq8⟩ (s7.trans s8)
        · intro H5 acc sm hD5 pr
          have hfl : (setsL (ps.take i)).filter (fun _ => true) = setsL (ps.take i) := List.filter_eq_self.mpr fun _ _ => rfl
          rw [hfl] at pr
          refine ⟨p3, D, xs, acc, rfl, rfl, sm _ _ hp3, hD5, ?_, fun p6 H6 n6 s6 hp6 => ?_⟩
          · have := paired_len pr
            rw [hxl, ← this]
            exact Nat.le_trans (Nat.add_le_add hlen hlen) (by decide)
          · walk_at "rd"
            refine ⟨(s3.trans sm).trans s6, hp6, ?_⟩
            have e : ps.take (i + 1) = ps.take i ++ [ps[i]] := by rw [List.take_succ, List.getElem?_eq_getElem hi']; rfl
            rw [e, setsL_snoc]
            refine paired_app ((hg3.same sm).same s6) ?_
            have pr2 : Paired (fun (g : List Str) (v : V) => GrpV K H6 v (g ++ [ps[i]])) (setsL (ps.take i)) acc := Paired.mapP pr fun _ _ z => z.same s6
            exact paired_swap (paired_map (F := fun (g : List Str) (v : V) => GrpV K H6 v g) (f := fun g => g ++ [ps[i]]) pr2)
      · rintro σ H3 ⟨p3, xs, y, rfl, s3, hp3, hg3⟩
        rw [List.length_map, List.take_length] at hg3
        exact hz _ _ ⟨p3, xs, y, rfl, s3, hp3, hg3⟩
    · rintro _ H3 ⟨p3, xs, y, rfl, s3, hp3, hg3⟩
      walk_at "rd"
      obtain ⟨z1, z2, z3⟩ := paired_zip hg3
      have sm1 : ((xs.zip (setsL ps)).mergeSort (PySem.W.dataLe false fun b => encG b.2)).map Prod.snd = (setsL ps).mergeSort (PySem.W.dataLe false encG) := by
        have h := PySem.W.sort_maps (r := PySem.W.dataLe false fun b : V × List Str => encG b.2) (s := PySem.W.dataLe false encG) (Prod.snd : V × List Str → List Str) (l := xs.zip (setsL ps)) (fun _ _ _ _ => rfl)
        rw [z2] at h
        exact h
      refine ⟨V × List Str, xs.zip (setsL ps), Prod.fst, fun b => encG b.2, by rw [z1]; exact SqL.of hp3, fun b hb => (z3 b hb).dp, PySem.W.AllAlike.of fun b b' => alike_G _ _, .inr ?_, fun b _ => by rw [depth_G]; decide, fun q1 H4 n4 s4 hq1 => ?_⟩
      · obtain ⟨r, hr⟩ := setsL_head ps
        refine ⟨r.map encG, ?_, fun d hd => ?_⟩
        · have : (xs.zip (setsL ps)).map (fun b => encG b.2) = ((xs.zip (setsL ps)).map Prod.snd).map encG := by rw [List.map_map]; rfl
          rw [this, z2, hr]
          rfl
        · obtain ⟨g, _, rfl⟩ := List.mem_map.mp hd
          exact ⟨_, rfl⟩
      · refine ⟨q1, rfl, ⟨V × List Str, _, Prod.fst, fun b => b.2.length, SqL.of hq1, fun b hb => ?_, fun q2 H5 n5 s5 hq2 => ?_⟩⟩
        · obtain ⟨t, h1, h2⟩ := (z3 b ((List.mergeSort_perm _ _).mem_iff.mp hb)).same s4
          exact ⟨t, _, h1, h2, by simp⟩
        · refine q q2 H5 _ ((s3.trans s4).free n5) ((s3.trans s4).trans s5) hq2 ?_
          have e : allG ps = (((xs.zip (setsL ps)).mergeSort (PySem.W.dataLe false fun b => encG b.2)).mergeSort fun b c => decide ((b.2.length : Int) ≤ (c.2.length : Int))).map Prod.snd := by
            have h := PySem.W.sort_maps (r := fun b c : V × List Str => decide ((b.2.length : Int) ≤ (c.2.length : Int))) (s := fun b c : List Str => decide ((b.length : Int) ≤ (c.length : Int))) (Prod.snd : V × List Str → List Str) (l := (xs.zip (setsL ps)).mergeSort (PySem.W.dataLe false fun b => encG b.2)) (fun _ _ _ _ => rfl)
            rw [sm1, groups_sort] at h
            exact h.symm
          rw [e]
          refine paired_of fun c hc => ?_
          have hc' := (List.mergeSort_perm _ _).mem_iff.mp ((List.mergeSort_perm _ _).mem_iff.mp hc)
          exact ((z3 c hc').same s4).same s5
end
end P
set_option Elab.async false
set_option linter.all false
set_option maxRecDepth 100000
set_option maxHeartbeats 4000000
namespace P
open PySem PySem.Spec PyProof.Rows L2 OS
/-! short ways: "rd" opens a reading as far as equations go; "sep" finds what stands apart from the state; "sq" a list that is read; "nx" two heaps -/
local macro_rules | `(tactic| walk_at "sep") => `(tactic| first | assumption | (refine (by assumption : Nx _ _ _) _ _ ?_; walk_at "sep"))
local macro_rules | `(tactic| walk_at "sq") => `(tactic| first | assumption | exact .inl (.inl (by assumption)) | exact Sep.sq (by walk_at "sep") | exact Sep.st (by walk_at "sep") | exact .inl (.inl upd_same))
local macro_rules | `(tactic| walk_at "rd") => `(tactic| repeat (first
  | refine And.intro rfl ?_
  | apply Exists.intro
  | refine And.intro (by assumption) ?_
  | refine And.intro (DrawOk.mk (by omega) (by omega) (by omega)) ?_
  | refine And.intro at0 ?_
  | refine And.intro ⟨_, rfl⟩ ?_
  | refine And.intro (by walk_at "sq") ?_
  | refine And.intro (Or.inl (by walk_at "sq")) ?_
  | refine And.intro (Or.inr (by walk_at "sq")) ?_
  | refine And.intro (by omega) ?_))
section
variable {P : Program} {w : World} {K : PySem.W.Frag} {mg : Str → Option Value} {base : Heap}
/-- least_groups(persons, groups) -/
def spLeast (K : PySem.W.Frag) : Sp := fun vs H Q _ => ∃ (a p : Addr) (ps : List Str) (xs : List V) (rows : List (List Str)), vs = [.ref a, .ref p] ∧ SqT K H a (ps.map V.str) ∧ ps.length ≤ 8 ∧ (SqL K H p xs ∨ SqT K H p xs) ∧ GrpsV K H xs rows ∧
  ∀ q H' ys, Same H H' → SqT K H' q ys → GrpsV K H' ys (leastP ps rows) → Q (.ref q) H'
theorem ok_least_groups (T : Txt K mg) : FnOk P w K mg base CX0 3 T.f_least_groups T.fd_least_groups ["persons", "groups"] (spLeast K) := by
  refine T.F_least_groups.ok sc_least_groups (fun vs H Q E h => ?_) (fun cdv A outer s H vs Q E hr h => ?_)
  · obtain ⟨a, p, ps, xs, rows, rfl, _⟩ := h
    rfl
  · obtain ⟨a, p, ps, xs, rows, rfl, ha, hl, hp, hg, q⟩ := h
    refine ⟨_, (pss_cons (ps_set (i := 2) sc_least_groups.nd rfl (Or.inr rfl) (pe_lc (own := [("group", 3)]) (g := gName 3) rfl sc_least_groups.nd (pi_list (pe_call (ok_all_groups T) (hr.mono (by decide)) (by rfl) T.g_all_groups T.F_all_groups.kp T.b_all_groups .nil pass0 (pa_cons (pv 0) pa_nil))) (blkOk_by (own := [("group", 3)]) (N := N_least_groups) (sc := defScope s_least_groups) (by decide +kernel)) (fun _ _ _ _ _ => (pg_name (i := 3) sc_least_groups.nd rfl (Or.inl rfl))) (fun _ _ _ _ _ => (pts_one (pt_cmpR (r := rInP K false) (op_inP (room65 hr)) (pv 3) (pv 1) (by rfl)))) (fun _ _ _ _ _ => (pv 3))))
    (pss_one (ps_ret (pe_callTy (T := "tuple") (r := rTupL K) call_tupL (by rfl) T.n_tuple (by decide +kernel) (pa_cons (pe_lc (own := [("group", 3)]) (g := gName 3) rfl sc_least_groups.nd (pi_list (pv 2)) (blkOk_by (own := [("group", 3)]) (N := N_least_groups) (sc := defScope s_least_groups) (by decide +kernel)) (fun _ _ _ _ _ => (pg_name (i := 3) sc_least_groups.nd rfl (Or.inl rfl))) (fun _ _ _ _ _ => (pts_one (pt_not (pt_val (pe_call (ok_contains_another T) (hr.mono (by decide)) (by rfl) T.g_contains_another T.F_contains_another.kp T.b_contains_another .nil pass0 (pa_cons (pv 3) (pa_cons (pv 2) pa_nil))))))) (fun _ _ _ _ _ => (pv 3))) pa_nil))))), ?_⟩
    walk_at "rd"
    intro m H1 ys nm s1 hm hys
    have hal : (allG ps).length ≤ 256 := by rw [(allG_perm ps).length_eq]; exact sets_small hl
    have hyl := paired_len hys
    walk_at "rd"
    refine ⟨⟨_, SqL.of hm⟩, fun D hD => ?_⟩
    refine lc_rel (walk_list (xs := ys)) (xs := allG ps) hyl.symm (by omega) (fun g => decide (g ∈ rows)) (fun H g v => GrpV K H v g) hD (fun H H' g v acc _ hDa k h => h.but hDa k) (fun H s => s.seq (SqL.of hm)) ?_ ?_
    · intro i g v H2 H3 Qk Qn hgi sm hy hk hn
      obtain ⟨rfl, hv⟩ := hy
      obtain ⟨g', h1, h2⟩ := OS.paired_get hys hv
      obtain rfl : g' = g := Option.some.inj (h1.symm.trans hgi)
      have h3 := h2.same sm
      have hg3 := (hg.same s1).same sm
      have hp3 : Dp K H3 (.ref p) (.list (rows.map encG)) ∨ Dp K H3 (.ref p) (.tuple (rows.map encG)) := hp.imp (fun z => .lst (sm.seq (s1.seq z)) hg3.dps) (fun z => .tup (sm.tupT (s1.tupT z)) hg3.dps)
      walk_at "rd"
      refine ⟨h3.dp, hp3, by rw [depth_G]; decide, ?_⟩
      rw [any_encG]
      walk_at "rd"
      refine ite2 (fun e => ?_) (fun e => ?_)
      · walk_at "rd"
        exact hk e _ _ h3 (Same.refl _)
      · exact hn ((Bool.not_eq_true _).mp e) _ (Same.refl _)
    · intro H2 acc sm hD2 pr
      have pr' : GrpsV K H2 acc (givenP ps rows) := paired_swap pr
      have hgl : (givenP ps rows).length ≤ 256 := Nat.le_trans (List.length_filter_le _ _) hal
      have hal2 := paired_len pr'
      have hsub : ∀ o ∈ givenP ps rows, o.length ≤ 1000 := fun o ho => by
        have := (mem_allG.mp (List.mem_filter.mp ho).1).length_le
        omega
      walk_at "rd"
      refine ⟨⟨_, SqL.of hD2⟩, fun D3 hD3 => ?_⟩
      refine lc_rel (walk_list (xs := acc)) (xs := givenP ps rows) hal2.symm (by omega) (fun g => !((givenP ps rows).any fun o => decide (o ≠ g) && inside o g)) (fun H g v => GrpV K H v g) hD3 (fun H H' g v acc _ hDa k h => h.but hDa k) (fun H s => s.seq (SqL.of hD2)) ?_ ?_
      · intro i g v H4 H5 Qk Qn hgi sm2 hy hk hn
        obtain ⟨rfl, hv⟩ := hy
        obtain ⟨g', h1, h2⟩ := OS.paired_get pr' hv
        obtain rfl : g' = g := Option.some.inj (h1.symm.trans hgi)
        have h5 := h2.same sm2
        have hD5 := SqL.of (K := K) (sm2 _ _ hD2)
        have pr5 := pr'.same sm2
        walk_at "rd"
        intro H6 s6
        walk_at "rd"
        refine ite2 (fun e => ?_) (fun e => ?_)
        · walk_at "rd"
          exact hk e _ _ (h5.same s6) s6
        · exact hn ((Bool.not_eq_true _).mp e) _ s6
      · intro H4 acc2 sm2 hD4 pr2
        have pr4 : GrpsV K H4 acc2 (leastP ps rows) := paired_swap pr2
        refine ⟨D3, _, rfl, SqL.of hD4, fun q1 H5 n5 s5 hq5 => ?_⟩
        exact q q1 H5 acc2 (((s1.trans sm).trans sm2).trans s5) (SqT.of hq5) (pr4.same s5)
end
end P
set_option Elab.async false
set_option linter.all false
set_option maxRecDepth 100000
set_option maxHeartbeats 4000000
namespace P
open PySem PySem.Spec PyProof.Rows L2 OS
/-! short ways: "rd" opens a reading as far as equations go; "sep" finds what stands apart from the state; "sq" a list that is read; "nx" two heaps -/
local macro_rules | `(tactic| walk_at "sep") => `(tactic| first | assumption | (refine (by assumption : Nx _ _ _) _ _ ?_; walk_at "sep"))
local macro_rules | `(tactic| walk_at "sq") => `(tactic| first | assumption | exact .inl (.inl (by assumption)) | exact Sep.sq (by walk_at "sep") | exact Sep.st (by walk_at "sep") | exact .inl (.inl upd_same))
local macro_rules | `(tactic| walk_at "rd") => `(tactic| repeat (first
  | refine And.intro rfl ?_
  | apply Exists.intro
  | refine And.intro (by assumption) ?_
  | refine And.intro (DrawOk.mk (by omega) (by omega) (by omega)) ?_
  | refine And.intro at0 ?_
  | refine And.intro ⟨_, rfl⟩ ?_
  | refine And.intro (by walk_at "sq") ?_
  | refine And.intro (Or.inl (by walk_at "sq")) ?_
  | refine And.intro (Or.inr (by walk_at "sq")) ?_
  | refine And.intro (by omega) ?_))
section
variable {P : Program} {w : World} {K : PySem.W.Frag} {mg : Str → Option Value} {base : Heap}
/-- check_groups(persons, groups): the things os; the first that is no group, or is empty, flies -/
def spCheck (T : Txt K mg) : Sp := fun vs H Q E => ∃ (a p : Addr) (ps : List Str) (xs : List V) (os : List (Option (List V))), vs = [.ref a, .ref p] ∧ SqT K H a (ps.map V.str) ∧ ps.length ≤ 900 ∧ (SqL K H p xs ∨ SqT K H p xs) ∧ Paired (Thing K H) xs os ∧ os.length ≤ 1000 ∧
  (os = [] → ∀ H', Same H H' → E (.ref T.C_NoGroup) none H') ∧
  (∀ (i : Nat) (x : V) (o : Option (List V)), xs[i]? = some x → os[i]? = some o → (∀ j o', j < i → os[j]? = some o' → isGrp ps o' = true ∧ o' ≠ some []) → ¬ (isGrp ps o = true ∧ o ≠ some []) → ∀ H', Same H H' → Flies E T.C_BadGroup "value" x H') ∧
  (os ≠ [] → (∀ o ∈ os, isGrp ps o = true ∧ o ≠ some []) → ∀ H', Same H H' → Q .non H')
theorem ok_check_groups (T : Txt K mg) : FnOk P w K mg base (L2.CX P w) 3 T.f_check_groups T.fd_check_groups ["persons", "groups"] (spCheck T) := by
  refine T.F_check_groups.okX sc_check_groups (fun vs H Q E h => ?_) (fun cdv A outer s H vs Q E hr h => ?_)
  · obtain ⟨a, p, ps, xs, os, rfl, _⟩ := h
    rfl
  · obtain ⟨a, p, ps, xs, os, rfl, ha, hl, hp, hx, hol, qn, qb, q⟩ := h
    refine ⟨_, (pss_cons (ps_if (pt_cmpR op_eq (pe_callB (id := "len") (r := rLenS K) call_lenS (by rfl) T.n_len PySem.boot_len (pa_cons (pv 1) pa_nil)) pe_int (nomark _))
      (pss_one (ps_raise rfl (takes_of rfl rfl rfl rfl) (pmk_err0 PySem.F.excBase_ValueError T.q_NoGroup T.k_NoGroup T.er_NoGroup (by rfl) T.g_NoGroup))) pss_nil)
    (pss_one (ps_for (passes_of rfl) rfl (pi_hold (pi_seq (pv 1))) (pg_name (i := 2) sc_check_groups.nd rfl (Or.inl rfl))
      (pss_one (ps_if (PW.pt (pw_or (pt_cmpR (r := rEqEmp K) (op_eqEmp (room65 hr)) (pv 2) (pe_tupO pa_nil) (nomark _)) (pw_or1 (pt_not (pt_val (pe_call (ok_is_group T) (hr.mono (by decide)) (by rfl) T.g_is_group T.F_is_group.kp T.b_is_group .nil pass0 (pa_cons (pv 0) (pa_cons (pv 2) pa_nil))))))))
      (pss_one (ps_raise rfl (takes_of rfl rfl rfl rfl) (pmk_err T.er_BadGroup T.iC_BadGroup T.tI_BadGroup (ok_BadGroup__init_ T) (hr.mono (by decide)) T.b_BadGroup__init_ (by rfl) T.g_BadGroup (pv 2)))) pss_nil))))), ?_⟩
    have hxl := paired_len hx
    walk_at "rd"
    refine ite2 (fun e1 => ?_) (fun e1 => ?_)
    · have h0 : xs.length = 0 := by
        have h1 := V.int.inj (of_decide_eq_true e1)
        omega
      have hos : os = [] := List.eq_nil_of_length_eq_zero (by omega)
      exact qn hos H (Same.refl H)
    · have hne : os ≠ [] := fun z => e1 (decide_eq_true (by
        rw [z] at hxl
        have h1 : xs.length = 0 := hxl
        rw [h1]
        rfl))
      walk_at "rd"
      rcases hp with hp | hp
      · refine .inl ⟨⟨_, hp⟩, ⟨for_it (walk_list (xs := xs)) (fun i σ H' => ∃ (y : Option V), σ = [some (.ref a), some (.ref p), y] ∧ Same H H' ∧ ∀ j o', j < i → os[j]? = some o' → isGrp ps o' = true ∧ o' ≠ some []) ⟨none, rfl, Same.refl H, fun j _ h => absurd h (by omega)⟩ (fun i σ H' _ ⟨_, _, s, _⟩ => s.seq hp) ?_ ?_⟩⟩
        · rintro i x _ H1 H2 hi ⟨y, rfl, s1, hgood⟩ ⟨rfl, hxi⟩
          obtain ⟨o, hoi, hth⟩ := OS.paired_get hx hxi
          walk_at "rd"
          refine ⟨by decide, fun e H3 ne s3 he => ?_⟩
          have s13 := s1.trans s3
          have hth3 := hth.same s13
          refine ⟨e, _, hth3.emp, rfl, SqT.of he, ?_⟩
          walk_at "rd"
          refine ite2 (fun e2 => ?_) (fun e2 => ?_)
          · have e3 : o = some [] := of_decide_eq_true e2
            first
              | exact qb i x o hxi hoi hgood (fun z => z.2 e3) H3 s13
              | (refine iteT ?_; exact qb i x o hxi hoi hgood (fun z => z.2 e3) H3 s13)
              | (walk_at "rd"; exact qb i x o hxi hoi hgood (fun z => z.2 e3) H3 s13)
          · have e3 : o ≠ some [] := fun z => e2 (decide_eq_true z)
            have ha3 := s13.tupT ha
            have hl3 : ps.length ≤ 1000 := by omega
            walk_at "rd"
            intro H4 s4
            have s14 := s13.trans s4
            walk_at "rd"
            refine ite2 (fun e4 => ?_) (fun e4 => ?_)
            · have e5 : isGrp ps o = false := (Bool.not_eq_true' _).mp e4
              first
                | exact qb i x o hxi hoi hgood (fun z => by rw [e5] at z; exact absurd z.1 (by simp)) H4 s14
                | (walk_at "rd"; exact qb i x o hxi hoi hgood (fun z => by rw [e5] at z; exact absurd z.1 (by simp)) H4 s14)
            · have e5 : isGrp ps o = true := by simpa using e4
              refine ⟨_, rfl, s14, fun j o' hj hjo => ?_⟩
              by_cases q2 : j < i
              · exact hgood j o' q2 hjo
              · obtain rfl : j = i := by omega
                obtain rfl : o = o' := Option.some.inj (hoi.symm.trans hjo)
                exact ⟨e5, e3⟩
        · rintro σ H1 ⟨y, rfl, s1, hgood⟩
          refine q hne (fun o ho => ?_) H1 s1
          obtain ⟨j, hj⟩ := List.getElem?_of_mem ho
          have hjl := (List.getElem?_eq_some_iff.mp hj).1
          exact hgood j o (by omega) hj
      · refine .inr ⟨⟨_, hp⟩, ⟨for_it (walk_tup (xs := xs)) (fun i σ H' => ∃ (y : Option V), σ = [some (.ref a), some (.ref p), y] ∧ Same H H' ∧ ∀ j o', j < i → os[j]? = some o' → isGrp ps o' = true ∧ o' ≠ some []) ⟨none, rfl, Same.refl H, fun j _ h => absurd h (by omega)⟩ (fun i σ H' _ ⟨_, _, s, _⟩ => s.tupT hp) ?_ ?_⟩⟩
        · rintro i x _ H1 H2 hi ⟨y, rfl, s1, hgood⟩ ⟨rfl, hxi⟩
          obtain ⟨o, hoi, hth⟩ := OS.paired_get hx hxi
          walk_at "rd"
          refine ⟨by decide, fun e H3 ne s3 he => ?_⟩
          have s13 := s1.trans s3
          have hth3 := hth.same s13
          refine ⟨e, _, hth3.emp, rfl, SqT.of he, ?_⟩
          walk_at "rd"
          refine ite2 (fun e2 => ?_) (fun e2 => ?_)
          · have e3 : o = some [] := of_decide_eq_true e2
            first
              | exact qb i x o hxi hoi hgood (fun z => z.2 e3) H3 s13
              | (refine iteT ?_; exact qb i x o hxi hoi hgood (fun z => z.2 e3) H3 s13)
              | (walk_at "rd"; exact qb i x o hxi hoi hgood (fun z => z.2 e3) H3 s13)
          · have e3 : o ≠ some [] := fun z => e2 (decide_eq_true z)
            have ha3 := s13.tupT ha
            have hl3 : ps.length ≤ 1000 := by omega
            walk_at "rd"
            intro H4 s4
            have s14 := s13.trans s4
            walk_at "rd"
            refine ite2 (fun e4 => ?_) (fun e4 => ?_)
            · have e5 : isGrp ps o = false := (Bool.not_eq_true' _).mp e4
              first
                | exact qb i x o hxi hoi hgood (fun z => by rw [e5] at z; exact absurd z.1 (by simp)) H4 s14
                | (walk_at "rd"; exact qb i x o hxi hoi hgood (fun z => by rw [e5] at z; exact absurd z.1 (by simp)) H4 s14)
            · have e5 : isGrp ps o = true := by simpa using e4
              refine ⟨_, rfl, s14, fun j o' hj hjo => ?_⟩
              by_cases q2 : j < i
              · exact hgood j o' q2 hjo
              · obtain rfl : j = i := by omega
                obtain rfl : o = o' := Option.some.inj (hoi.symm.trans hjo)
                exact ⟨e5, e3⟩
        · rintro σ H1 ⟨y, rfl, s1, hgood⟩
          refine q hne (fun o ho => ?_) H1 s1
          obtain ⟨j, hj⟩ := List.getElem?_of_mem ho
          have hjl := (List.getElem?_eq_some_iff.mp hj).1
          exact hgood j o (by omega) hj
end
end P
set_option Elab.async false
set_option linter.all false
set_option maxRecDepth 100000
set_option maxHeartbeats 4000000
namespace P
open PySem PySem.Spec PyProof.Rows L2 OS
/-! short ways: "rd" opens a reading as far as equations go; "sep" finds what stands apart from the state; "sq" a list that is read; "nx" two heaps -/
local macro_rules | `(tactic| walk_at "sep") => `(tactic| first | assumption | (refine (by assumption : Nx _ _ _) _ _ ?_; walk_at "sep"))
local macro_rules | `(tactic| walk_at "sq") => `(tactic| first | assumption | exact .inl (.inl (by assumption)) | exact Sep.sq (by walk_at "sep") | exact Sep.st (by walk_at "sep") | exact .inl (.inl upd_same))
local macro_rules | `(tactic| walk_at "rd") => `(tactic| repeat (first
  | refine And.intro rfl ?_
  | apply Exists.intro
  | refine And.intro (by assumption) ?_
  | refine And.intro (DrawOk.mk (by omega) (by omega) (by omega)) ?_
  | refine And.intro at0 ?_
  | refine And.intro ⟨_, rfl⟩ ?_
  | refine And.intro (by walk_at "sq") ?_
  | refine And.intro (Or.inl (by walk_at "sq")) ?_
  | refine And.intro (Or.inr (by walk_at "sq")) ?_
  | refine And.intro (by omega) ?_))
section
variable {P : Program} {w : World} {K : PySem.W.Frag} {mg : Str → Option Value} {base : Heap}
/-- groups as things -/
abbrev asThing (g : List Str) : Option (List V) := some (g.map V.str)
theorem rows_ofG {ws : List Str} (hw : ws.Nodup) : ∀ {os : List (Option (List V))}, (∀ o ∈ os, isGrp ws o = true ∧ o ≠ some []) → ∃ rows : List (List Str), os = rows.map asThing ∧ ∀ g ∈ rows, g.Sublist ws ∧ g ≠ []
  | [], _ => ⟨[], rfl, fun g h => nomatch h⟩
  | o :: os, h => by
    obtain ⟨rows, e, hr⟩ := rows_ofG hw (os := os) fun o' ho => h o' (List.mem_cons_of_mem _ ho)
    obtain ⟨h1, h2⟩ := h o (List.mem_cons_self ..)
    obtain ⟨g, hg, rfl⟩ := (isGrp_iff hw).mp h1
    refine ⟨g :: rows, by rw [e]; rfl, fun g' hg' => ?_⟩
    rcases List.mem_cons.mp hg' with rfl | hg'
    · exact ⟨hg, fun z => h2 (by rw [z]; rfl)⟩
    · exact hr g' hg'
theorem Thing.grp {H : Hp} {v : V} {g : List Str} (h : Thing K H v (asThing g)) : GrpV K H v g := by
  generalize e : asThing g = o at h
  cases h with
  | flat f => cases e
  | lst q => cases e
  | dct q => cases e
  | @tup a xs q hi =>
    obtain rfl := Option.some.inj e
    exact ⟨a, rfl, q⟩
theorem things_grps {H : Hp} : ∀ {xs : List V} {rows : List (List Str)}, Paired (Thing K H) xs (rows.map asThing) → GrpsV K H xs rows
  | [], [], _ => .nil
  | [], _ :: _, h => by cases h
  | _ :: _, [], h => by cases h
  | x :: xs, g :: rows, h => by
    cases h with
    | cons h1 h2 => exact .cons (Thing.grp h1) (things_grps h2)
theorem things_same {H H' : Hp} {xs : List V} {os : List (Option (List V))} (h : Paired (Thing K H) xs os) (s : Same H H') : Paired (Thing K H') xs os := Paired.mapP h fun _ _ q => q.same s
/-- who is needed -/
def needL (ws : List Str) (gs : List (List Str)) : List Str := ws.filter fun n => gs.any fun g => decide (n ∈ g)
def flds (a b c : Addr) : List (Str × V) := putF "_needed" (.ref c) (putF "_groups" (.ref b) (putF "_persons" (.ref a) []))
/-- a Family stands at f -/
def FamAt (K : PySem.W.Frag) (C : Addr) (H : Hp) (f : Addr) (ws : List Str) (gs : List (List Str)) : Prop :=
  ∃ (dx a b c : Addr) (xs : List V), H f = some (.ins C dx (flds a b c)) ∧ SqT K H a (ws.map V.str) ∧ SqT K H b xs ∧ GrpsV K H xs gs ∧ SqT K H c ((needL ws gs).map V.str)
theorem FamAt.same {C : Addr} {H H' : Hp} {f : Addr} {ws : List Str} {gs : List (List Str)} (h : FamAt K C H f ws gs) (s : Same H H') : FamAt K C H' f ws gs := by
  obtain ⟨dx, a, b, c, xs, h1, h2, h3, h4, h5⟩ := h
  exact ⟨dx, a, b, c, xs, s _ _ h1, s.tupT h2, s.tupT h3, h4.same s, s.tupT h5⟩
theorem FamAt.nx {C : Addr} {H H' : Hp} {p f : Addr} {m : Nat} {ws : List Str} {gs : List (List Str)} (S : StAt H p m) (x : Nx p H H') (h : FamAt K C H f ws gs) : FamAt K C H' f ws gs := by
  obtain ⟨dx, a, b, c, xs, h1, h2, h3, h4, h5⟩ := h
  exact ⟨dx, a, b, c, xs, (x _ _ (S.sep h1 fun _ z => nomatch z)).at_, tupT_nx S x h2, tupT_nx S x h3, GrpsV.nx S x h4, tupT_nx S x h5⟩
theorem k_pg : ¬ (("_persons" : Str) = "_groups") := by decide +kernel
theorem k_pn : ¬ (("_persons" : Str) = "_needed") := by decide +kernel
theorem k_gn : ¬ (("_groups" : Str) = "_needed") := by decide +kernel
theorem flds_persons (a b c : Addr) : (flds a b c).lookup ("_persons" : Str) = some (.ref a) := by
  unfold flds
  rw [lookup_putF, if_neg k_pn, lookup_putF, if_neg k_pg, lookup_putF, if_pos rfl]
theorem flds_groups (a b c : Addr) : (flds a b c).lookup ("_groups" : Str) = some (.ref b) := by
  unfold flds
  rw [lookup_putF, if_neg k_gn, lookup_putF, if_pos rfl]
theorem flds_no (a b c : Addr) {m : Str} (h1 : ¬ m = "_persons") (h2 : ¬ m = "_groups") (h3 : ¬ m = "_needed") : (flds a b c).lookup m = none := by
  unfold flds
  rw [lookup_putF, if_neg h3, lookup_putF, if_neg h2, lookup_putF, if_neg h1]
  rfl
theorem grps_ins {H H' : Hp} {f C dx : Addr} {fs : List (Str × V)} {xs : List V} {gs : List (List Str)} (hf : H f = some (.ins C dx fs)) (k : ∀ b o, H b = some o → b ≠ f → H' b = some o) (h : GrpsV K H xs gs) : GrpsV K H' xs gs :=
  Paired.mapP h fun _ _ q => q.imp fun _ q => ⟨q.1, tupT_ins hf k q.2⟩
/-- what flies if the names are wrong -/
structure NamesBad (T : Txt K mg) (E : XK) (H : Hp) (ps : List Str) : Prop where
  c : badLen ps → ∀ H', Same H H' → Flies E T.C_BadCount "count" (.int (ps.length : Int)) H'
  n : ∀ z H', ¬ badLen ps → wrongUp ps ps.length = some (("name" : Str), z) → Same H H' → Flies E T.C_BadName "name" (.str z) H'
  t : ∀ z H', ¬ badLen ps → wrongUp ps ps.length = some (("twice" : Str), z) → Same H H' → Flies E T.C_DuplicateName "name" (.str z) H'
/-- what flies if the groups are wrong -/
structure GroupsBad (T : Txt K mg) (E : XK) (H : Hp) (ws : List Str) (xs : List V) (os : List (Option (List V))) : Prop where
  n : os = [] → ∀ H', Same H H' → E (.ref T.C_NoGroup) none H'
  g : ∀ (i : Nat) (x : V) (o : Option (List V)), xs[i]? = some x → os[i]? = some o → (∀ j o', j < i → os[j]? = some o' → isGrp ws o' = true ∧ o' ≠ some []) → ¬ (isGrp ws o = true ∧ o ≠ some []) → ∀ H', Same H H' → Flies E T.C_BadGroup "value" x H'
/-- Family.__init__ -/
def spFam (T : Txt K mg) : Sp := fun vs H Q E => ∃ (f p g dx : Addr) (ps : List Str) (xs : List V) (os : List (Option (List V))), vs = [.ref f, .ref p, .ref g] ∧ H f = some (.ins T.C_Family dx []) ∧
  (SqL K H p (ps.map V.str) ∨ SqT K H p (ps.map V.str)) ∧ ps.length ≤ 900 ∧ (∀ z ∈ ps, z.length ≤ 1000) ∧ (SqL K H g xs ∨ SqT K H g xs) ∧ Paired (Thing K H) xs os ∧ os.length ≤ 1000 ∧ NamesBad T E H ps ∧
  (¬ badLen ps → wrongUp ps ps.length = none → GroupsBad T E H (srt ps) xs os) ∧
  (¬ badLen ps → wrongUp ps ps.length = none → ∀ rows : List (List Str), os = rows.map asThing → rows ≠ [] → (∀ g ∈ rows, g.Sublist (srt ps) ∧ g ≠ []) → ∀ H', (∀ b o, H b = some o → b ≠ f → H' b = some o) → FamAt K T.C_Family H' f (srt ps) (leastP (srt ps) rows) → Q .non H')
theorem ok_Family__init_ (T : Txt K mg) : FnOk P w K mg base (L2.CX P w) 4 T.f_Family__init_ T.fd_Family__init_ ["self", "persons", "groups"] (spFam T) := by
  refine T.F_Family__init_.okX sc_Family__init_ (fun vs H Q E h => ?_) (fun cdv A outer s H vs Q E hr h => ?_)
  · obtain ⟨f, p, g, dx, ps, xs, os, rfl, _⟩ := h
    rfl
  · obtain ⟨f, p, g, dx, ps, xs, os, rfl, hf, hp, hl, hzl, hg, ho, hol, nb, gb, q⟩ := h
    refine ⟨_, (pss_cons (ps_set (i := 3) sc_Family__init_.nd rfl (Or.inl rfl) (pe_call (ok_checked_persons T) (hr.mono (by decide)) (by rfl) T.g_checked_persons T.F_checked_persons.kp T.b_checked_persons .nil (passes_call (takes_of rfl rfl rfl rfl) (fun _ _ _ _ h => h)) (pa_cons (pv 1) pa_nil)))
    (pss_cons (ps_expr (pe_call (ok_check_groups T) (hr.mono (by decide)) (by rfl) T.g_check_groups T.F_check_groups.kp T.b_check_groups .nil (passes_call (takes_of rfl rfl rfl rfl) (fun _ _ _ _ h => h)) (pa_cons (pv 3) (pa_cons (pv 2) pa_nil))))
    (pss_cons (ps_set (i := 4) sc_Family__init_.nd rfl (Or.inr rfl) (pe_call (ok_least_groups T) (hr.mono (by decide)) (by rfl) T.g_least_groups T.F_least_groups.kp T.b_least_groups .nil pass0 (pa_cons (pv 3) (pa_cons (pv 2) pa_nil))))
    (pss_cons (ps_fld (pv 0) (pv 3) rfl)
    (pss_cons (ps_fld (pv 0) (pv 4) rfl)
    (pss_one (ps_fld (pv 0) (pe_callTy (T := "tuple") (r := rTupL K) call_tupL (by rfl) T.n_tuple (by decide +kernel) (pa_cons (pe_lc (own := [("name", 5)]) (g := gName 5) rfl sc_Family__init_.nd (pi_tup (pv 3)) (blkOk_by (own := [("name", 5)]) (N := N_Family__init_) (sc := defScope s_Family__init_) (by decide +kernel)) (fun _ _ _ _ _ => (pg_name (i := 5) sc_Family__init_.nd rfl (Or.inr rfl))) (fun _ _ _ _ _ => (pts_one (pt_val (pe_callB (id := "any") (r := rAny K) (cr_any rfl) (by rfl) T.n_any (by decide +kernel) (pa_cons (pe_lc (own := [("group", 6)]) (wi := iTup K _) (g := gName 6) (tt := tYes) rfl sc_Family__init_.nd (pi_tup (pv 4)) (blkOk_by (own := [("group", 6)]) (N := N_Family__init_) (sc := { kind := ScopeKind.function, names := [(".0", NameKind.local), ("name", NameKind.cell), ("any", NameKind.globalImplicit), ("least", NameKind.cell)], isGenerator := false, isCoroutine := false }) (by decide +kernel)) (fun _ _ _ _ _ => (pg_name (i := 6) sc_Family__init_.nd rfl (Or.inl rfl))) (fun _ _ _ _ _ => pts_nil) (fun _ _ _ _ _ => (pe_cmpR (r := rIn K false) op_in_seq (pv 5) (pv 6) (by rfl)))) pa_nil))))) (fun _ _ _ _ _ => (pv 5))) pa_nil)) rfl))))))), ?_⟩
    have hzl2 : ∀ z ∈ ps, z.length ≤ 100000 := fun z hz => Nat.le_trans (hzl z hz) (by decide)
    walk_at "rd"
    refine ⟨nb.c, nb.n, nb.t, fun hb hw a H1 s1 ha => ?_⟩
    have hg1 : SqL K H1 g xs ∨ SqT K H1 g xs := hg.elim (fun h => .inl (s1.seq h)) fun h => .inr (s1.tupT h)
    have ho1 := things_same ho s1
    have gb1 := gb hb hw
    have hsl : (srt ps).length ≤ 900 := by rw [srt_len]; exact hl
    have hs8 : (srt ps).length ≤ 8 := by rw [srt_len]; omega
    have hwn := srt_nodup (names_nodup hw)
    have q1 := q hb hw
    clear q gb nb
    change SqT K H1 a ((srt ps).map V.str) at ha
    generalize srt ps = ws at *
    walk_at "rd"
    refine ⟨fun e H' s => gb1.n e H' (s1.trans s), fun i x o h1 h2 h3 h4 H' s => gb1.g i x o h1 h2 h3 h4 H' (s1.trans s), fun hne hgood H2 s2 => ?_⟩
    obtain ⟨rows, rfl, hrows⟩ := rows_ofG hwn hgood
    have hne' : rows ≠ [] := fun z => hne (by rw [z]; rfl)
    have q2 := q1 rows rfl hne' hrows
    have hgr := (things_grps ho1).same s2
    have ha2 := s2.tupT ha
    have hg2 : SqL K H2 g xs ∨ SqT K H2 g xs := hg1.elim (fun h => .inl (s2.seq h)) fun h => .inr (s2.tupT h)
    have s02 := s1.trans s2
    clear q1 gb1 ho ho1 hg1 hg
    walk_at "rd"
    intro c H3 ys s3 hc hys
    have hf3 := (s02.trans s3) _ _ hf
    have ha3 := s3.tupT ha2
    have s03 := s02.trans s3
    walk_at "rd"
    refine ⟨T.cl_Family, T.na_persons_Family, by decide, ?_⟩
    refine ⟨_, rfl, _, rfl, f, T.C_Family, dx, _, rfl, upd_same, T.cl_Family, T.na_groups, Nat.lt_of_lt_of_le (lenP (show ([] : List (Str × V)).length < 1 by decide)) (by decide), ?_⟩
    have k5 : ∀ b o, H3 b = some o → b ≠ f → (upd (upd H3 f (HO.ins T.C_Family dx (putF "_persons" (V.ref a) []))) f (HO.ins T.C_Family dx (putF "_groups" (V.ref c) (putF "_persons" (V.ref a) [])))) b = some o := fun b o e h => by
      rw [upd_ne h, upd_ne h]
      exact e
    have hf5 : (upd (upd H3 f (HO.ins T.C_Family dx (putF "_persons" (V.ref a) []))) f (HO.ins T.C_Family dx (putF "_groups" (V.ref c) (putF "_persons" (V.ref a) [])))) f = some (HO.ins T.C_Family dx (putF "_groups" (V.ref c) (putF "_persons" (V.ref a) []))) := upd_same
    generalize upd (upd H3 f (HO.ins T.C_Family dx (putF "_persons" (V.ref a) []))) f (HO.ins T.C_Family dx (putF "_groups" (V.ref c) (putF "_persons" (V.ref a) []))) = H5 at k5 hf5 ⊢
    have ha5 := tupT_ins hf3 k5 ha3
    have hc5 := tupT_ins hf3 k5 hc
    have hys5 := grps_ins hf3 k5 hys
    clear ha3 hc hys ha2 hg2 ha hgr
    have hgl : (leastP ws rows).length ≤ 256 := Nat.le_trans (List.length_filter_le _ _) (Nat.le_trans (List.length_filter_le _ _) (by rw [(allG_perm ws).length_eq]; exact sets_small hs8))
    walk_at "rd"
    refine ⟨⟨_, ha5⟩, fun D hD => ?_⟩
    refine lc_fn (walk_tup (xs := ws.map V.str)) (xs := ws) (by simp) (by simp; omega) (fun n => (leastP ws rows).any fun g => decide (n ∈ g)) V.str hD (fun H1 s => s.tupT ha5) ?_ ?_
    · intro i n x H6 H7 Qk Qn hn sm hy hk hn'
      obtain ⟨rfl, hx⟩ := hy
      obtain rfl := strs_get hx hn
      have hc6 := sm.tupT hc5
      have hys6 := hys5.same sm
      walk_at "rd"
      refine ⟨⟨_, hc6⟩, fun D2 hD2 => ?_⟩
      refine lc_all (walk_tup (xs := ys)) (xs := leastP ws rows) (paired_len hys6).symm (by rw [paired_len hys6]; omega) (fun g => V.bl (decide (n ∈ g))) hD2 (fun H1 s => s.tupT hc6) ?_ ?_
      · intro j g y H8 H9 Qk2 hg sm8 hy hk2
        obtain ⟨rfl, hy⟩ := hy
        obtain ⟨g', h1, h2⟩ := OS.paired_get hys6 hy
        obtain rfl : g' = g := Option.some.inj (h1.symm.trans hg)
        obtain ⟨b, rfl, hb⟩ := h2.same sm8
        walk_at "rd"
        refine ⟨strs_flat g', ?_⟩
        rw [inV_strs]
        exact hk2 _ (Same.refl _)
      · intro H8 sm8 hD8
        refine ⟨D2, (leastP ws rows).map (fun g => decide (n ∈ g)), rfl, SqL.of (by rw [List.map_map]; exact hD8), ?_⟩
        rw [List.any_map]
        walk_at "rd"
        refine ite2 (fun e => ?_) (fun e => ?_)
        · walk_at "rd"
          exact hk e _ sm8
        · exact hn' ((Bool.not_eq_true _).mp e) _ sm8
    · intro H6 sm hD6
      refine ⟨D, _, rfl, SqL.of hD6, fun t H7 n7 s7 ht => ?_⟩
      have s57 := sm.trans s7
      have hf7 := s57 _ _ hf5
      walk_at "rd"
      refine ⟨T.cl_Family, T.na_needed, Nat.lt_of_lt_of_le (lenP (lenP (show ([] : List (Str × V)).length < 1 by decide))) (by decide), ?_⟩
      have k8 : ∀ b o, H7 b = some o → b ≠ f → (upd H7 f (HO.ins T.C_Family dx (flds a c t))) b = some o := fun b o e h => by
        rw [upd_ne h]
        exact e
      refine q2 _ (fun b o e h => k8 b o (s57 _ _ (k5 b o (s03 b o e) h)) h) ⟨dx, a, c, t, ys, upd_same, tupT_ins hf7 k8 (s57.tupT ha5), tupT_ins hf7 k8 (s57.tupT hc5), grps_ins hf7 k8 (hys5.same s57), tupT_ins hf7 k8 (SqT.of ht)⟩
end
end P
set_option Elab.async false
set_option linter.all false
set_option maxRecDepth 100000
set_option maxHeartbeats 4000000
namespace P
open PySem PySem.Spec PyProof.Rows L2 OS
/-! short ways: "rd" opens a reading as far as equations go; "sep" finds what stands apart from the state; "sq" a list that is read; "nx" two heaps -/
local macro_rules | `(tactic| walk_at "sep") => `(tactic| first | assumption | (refine (by assumption : Nx _ _ _) _ _ ?_; walk_at "sep"))
local macro_rules | `(tactic| walk_at "sq") => `(tactic| first | assumption | exact .inl (.inl (by assumption)) | exact Sep.sq (by walk_at "sep") | exact Sep.st (by walk_at "sep") | exact .inl (.inl upd_same))
local macro_rules | `(tactic| walk_at "rd") => `(tactic| repeat (first
  | refine And.intro rfl ?_
  | apply Exists.intro
  | refine And.intro (by assumption) ?_
  | refine And.intro (DrawOk.mk (by omega) (by omega) (by omega)) ?_
  | refine And.intro at0 ?_
  | refine And.intro ⟨_, rfl⟩ ?_
  | refine And.intro (by walk_at "sq") ?_
  | refine And.intro (Or.inl (by walk_at "sq")) ?_
  | refine And.intro (Or.inr (by walk_at "sq")) ?_
  | refine And.intro (by omega) ?_))
section
variable {P : Program} {w : World} {K : PySem.W.Frag} {mg : Str → Option Value} {base : Heap}
theorem ok_Family_persons (T : Txt K mg) : FnOk P w K mg base CX0 1 T.f_Family_persons T.fd_Family_persons ["self"] (getSp T.C_Family "_persons") := by
  refine T.F_Family_persons.ok sc_Family_persons (fun vs H Q E h => ?_) (fun cdv A outer s H vs Q E hr h => ?_)
  · obtain ⟨a, dx, fs, v, e, _⟩ := h
    rw [e]
    rfl
  · obtain ⟨a, dx, fs, v, e, ea, l, q⟩ := h
    subst e
    refine ⟨_, (pss_one (ps_ret (pe_fld (pv 0) rfl))), ?_⟩
    exact ⟨_, rfl, a, T.C_Family, dx, fs, v, rfl, ea, T.cl_Family, T.na_persons_Family, l, q⟩
/-- family.opens(x) -/
def spFOpens (T : Txt K mg) : Sp := fun vs H Q E => ∃ (f : Addr) (x : V) (ws : List Str) (gs : List (List Str)) (o : Option (List V)), vs = [.ref f, x] ∧ FamAt K T.C_Family H f ws gs ∧ ws.length ≤ 8 ∧ ws.Nodup ∧ gs.length ≤ 900 ∧ (∀ g ∈ gs, g.length ≤ 900) ∧ Thing K H x o ∧
  (isGrp ws o = false → ∀ H', Same H H' → Flies E T.C_BadGroup "value" x H') ∧
  (∀ g : List Str, o = asThing g → g.Sublist ws → ∀ H', Same H H' → Q (.bl (gs.any fun l => inside l g)) H')
theorem ok_Family_opens (T : Txt K mg) : FnOk P w K mg base (L2.CX P w) 3 T.f_Family_opens T.fd_Family_opens ["self", "group"] (spFOpens T) := by
  refine T.F_Family_opens.okX sc_Family_opens (fun vs H Q E h => ?_) (fun cdv A outer s H vs Q E hr h => ?_)
  · obtain ⟨f, x, ws, gs, o, rfl, _⟩ := h
    rfl
  · obtain ⟨f, x, ws, gs, o, rfl, hf, hl, hwn, hgl, hgl2, hx, qb, q⟩ := h
    obtain ⟨dx, a, b, c, ys, hfi, ha, hb, hys, hc⟩ := hf
    have cl := T.cl_Family
    have n1 := T.na_persons_Family
    have n2 := T.na_groups
    have l1 := flds_persons a b c
    have l2 := flds_groups a b c
    have hl3 : ws.length ≤ 1000 := by omega
    refine ⟨_, (pss_cons (ps_if (pt_not (pt_val (pe_call (ok_is_group T) (hr.mono (by decide)) (by rfl) T.g_is_group T.F_is_group.kp T.b_is_group .nil pass0 (pa_cons (pe_fld (pv 0) rfl) (pa_cons (pv 1) pa_nil)))))
      (pss_one (ps_raise rfl (takes_of rfl rfl rfl rfl) (pmk_err T.er_BadGroup T.iC_BadGroup T.tI_BadGroup (ok_BadGroup__init_ T) (hr.mono (by decide)) T.b_BadGroup__init_ (by rfl) T.g_BadGroup (pv 1)))) pss_nil)
    (pss_one (ps_ret (pe_callB (id := "any") (r := rAny K) (cr_any rfl) (by rfl) T.n_any (by decide +kernel) (pa_cons (pe_lc (own := [("least", 2)]) (g := gName 2) (tt := tYes) rfl sc_Family_opens.nd (pi_tup (pe_fld (pv 0) rfl)) (blkOk_by (own := [("least", 2)]) (N := N_Family_opens) (sc := defScope s_Family_opens) (by decide +kernel)) (fun _ _ _ _ _ => (pg_name (i := 2) sc_Family_opens.nd rfl (Or.inl rfl))) (fun _ _ _ _ _ => pts_nil) (fun _ _ _ _ _ => (pe_call (ok_contains T) (hr.mono (by decide)) (by rfl) T.g_contains T.F_contains.kp T.b_contains .nil pass0 (pa_cons (pv 1) (pa_cons (pv 2) pa_nil))))) pa_nil))))), ?_⟩
    walk_at "rd"
    intro H1 s1
    walk_at "rd"
    refine ite2 (fun e1 => ?_) (fun e1 => ?_)
    · have e2 : isGrp ws o = false := (Bool.not_eq_true' _).mp e1
      walk_at "rd"
      exact qb e2 H1 s1
    · have e2 : isGrp ws o = true := by simpa using e1
      obtain ⟨g, hg, rfl⟩ := (isGrp_iff hwn).mp e2
      obtain ⟨xa, rfl, hxa⟩ := Thing.grp (hx.same s1)
      have hf1 := s1 _ _ hfi
      have hb1 := s1.tupT hb
      have hys1 := hys.same s1
      walk_at "rd"
      refine ⟨⟨_, hb1⟩, fun D hD => ?_⟩
      refine lc_all (walk_tup (xs := ys)) (xs := gs) (paired_len hys1).symm (by rw [paired_len hys1]; omega) (fun l => V.bl (inside l g)) hD (fun H1 s => s.tupT hb1) ?_ ?_
      · intro j l y H8 H9 Qk2 hgj sm8 hy hk2
        obtain ⟨rfl, hy⟩ := hy
        obtain ⟨l', h1, h2⟩ := OS.paired_get hys1 hy
        obtain rfl : l' = l := Option.some.inj (h1.symm.trans hgj)
        obtain ⟨bb, rfl, hbb⟩ := h2.same sm8
        have hxa8 := sm8.tupT hxa
        have hll : l'.length ≤ 1000 := Nat.le_trans (hgl2 _ (List.mem_of_getElem? hgj)) (by decide)
        walk_at "rd"
        exact hk2
      · intro H8 sm8 hD8
        refine ⟨D, gs.map (fun l => inside l g), rfl, SqL.of (by rw [List.map_map]; exact hD8), ?_⟩
        rw [List.any_map]
        exact q g rfl hg H8 (s1.trans sm8)
/-- what stands at a Family is one -/
theorem grps_things {H : Hp} : ∀ {xs : List V} {rows : List (List Str)}, GrpsV K H xs rows → Paired (Thing K H) xs (rows.map asThing)
  | _, _, .nil => .nil
  | _, _, .cons (b := g) ⟨a, e, q⟩ t => .cons (by
    subst e
    refine .tup q fun v hv => ?_
    obtain ⟨z, _, rfl⟩ := List.mem_map.mp hv
    exact .flat rfl) (grps_things t)
/-- the groups of so many -/
def manyG (ws : List Str) (k : Int) : List (List Str) := (allG ws).filter fun g => decide ((g.length : Int) = k)
theorem many_ne {ws : List Str} {k : Int} (h1 : 1 ≤ k) (h2 : k ≤ ws.length) : manyG ws k ≠ [] := by
  intro z
  have hm : ws.take k.toNat ∈ manyG ws k := by
    unfold manyG
    rw [List.mem_filter, mem_allG, decide_eq_true_eq]
    refine ⟨List.take_sublist _ _, ?_⟩
    rw [List.length_take]
    omega
  rw [z] at hm
  cases hm
theorem many_ok {ws : List Str} {k : Int} (h1 : 1 ≤ k) : ∀ g ∈ manyG ws k, g.Sublist ws ∧ g ≠ [] := by
  intro g hg
  unfold manyG at hg
  rw [List.mem_filter, mem_allG, decide_eq_true_eq] at hg
  refine ⟨hg.1, fun z => ?_⟩
  rw [z] at hg
  have := hg.2
  simp at this
  omega
/-- Family.threshold(persons, many) -/
def spThr (T : Txt K mg) : Sp := fun vs H Q E => ∃ (p : Addr) (k : Int) (ps : List Str), vs = [.ref T.C_Family, .ref p, .int k] ∧ (SqL K H p (ps.map V.str) ∨ SqT K H p (ps.map V.str)) ∧ ps.length ≤ 900 ∧ (∀ z ∈ ps, z.length ≤ 1000) ∧ NamesBad T E H ps ∧
  (¬ badLen ps → wrongUp ps ps.length = none → (k < 1 ∨ (ps.length : Int) < k) → ∀ H', Same H H' → Flies E T.C_BadCount "count" (.int k) H') ∧
  (¬ badLen ps → wrongUp ps ps.length = none → 1 ≤ k → k ≤ (ps.length : Int) → ∀ f H', H f = none → Same H H' → FamAt K T.C_Family H' f (srt ps) (leastP (srt ps) (manyG (srt ps) k)) → Q (.ref f) H')
theorem ok_Family_threshold (T : Txt K mg) : FnOk P w K mg base (L2.CX P w) 6 T.f_Family_threshold T.fd_Family_threshold ["cls", "persons", "many"] (spThr T) := by
  refine T.F_Family_threshold.okX sc_Family_threshold (fun vs H Q E h => ?_) (fun cdv A outer s H vs Q E hr h => ?_)
  · obtain ⟨p, k, ps, rfl, _⟩ := h
    rfl
  · obtain ⟨p, k, ps, rfl, hp, hl, hzl, nb, cb, q⟩ := h
    refine ⟨_, (pss_cons (ps_set (i := 3) sc_Family_threshold.nd rfl (Or.inl rfl) (pe_call (ok_checked_persons T) (hr.mono (by decide)) (by rfl) T.g_checked_persons T.F_checked_persons.kp T.b_checked_persons .nil (passes_call (takes_of rfl rfl rfl rfl) (fun _ _ _ _ h => h)) (pa_cons (pv 1) pa_nil)))
    (pss_cons (ps_if (PW.pt (pw_or (pt_val (pe_callB (id := "isinstance") (r := rIsi K) call_isi (by rfl) T.n_isinstance (by decide +kernel) (pa_cons (pv 2) (pa_cons (pe_bltn (v := .ty "bool") (u := .type "bool") (by rfl) T.n_bool (by decide +kernel) rfl) pa_nil)))) (pw_or1 (pt_not (pt_chain op_le op_le pe_int (pv 2) (pe_callB (id := "len") (r := rLenS K) call_lenS (by rfl) T.n_len PySem.boot_len (pa_cons (pv 3) pa_nil)))))))
      (pss_one (ps_raise rfl (takes_of rfl rfl rfl rfl) (pmk_err T.er_BadCount T.iC_BadCount T.tI_BadCount (ok_BadCount__init_ T) (hr.mono (by decide)) T.b_BadCount__init_ (by rfl) T.g_BadCount (pv 2)))) pss_nil)
    (pss_one (ps_ret (pe_makeL (i := 0) T.mk_Family (ok_Family__init_ T) (hr.mono (by decide)) rfl (.inl rfl) T.b_Family__init_ (fun σ => at_of (passes_call (takes_of rfl rfl rfl rfl) (fun _ _ _ _ h => h)) σ) (pa_cons (pv 3) (pa_cons (pe_lc (own := [("group", 4)]) (g := gName 4) rfl sc_Family_threshold.nd (pi_list (pe_call (ok_all_groups T) (hr.mono (by decide)) (by rfl) T.g_all_groups T.F_all_groups.kp T.b_all_groups .nil pass0 (pa_cons (pv 3) pa_nil))) (blkOk_by (own := [("group", 4)]) (N := N_Family_threshold) (sc := defScope s_Family_threshold) (by decide +kernel)) (fun _ _ _ _ _ => (pg_name (i := 4) sc_Family_threshold.nd rfl (Or.inl rfl))) (fun _ _ _ _ _ => (pts_one (pt_cmpR op_eq (pe_callB (id := "len") (r := rLenS K) call_lenS (by rfl) T.n_len PySem.boot_len (pa_cons (pv 4) pa_nil)) (pv 2) (nomark _)))) (fun _ _ _ _ _ => (pv 4))) pa_nil))))))), ?_⟩
    have hzl2 : ∀ z ∈ ps, z.length ≤ 100000 := fun z hz => Nat.le_trans (hzl z hz) (by decide)
    walk_at "rd"
    refine ⟨nb.c, nb.n, nb.t, fun hb hw a H1 s1 ha => ?_⟩
    have q1 := q hb hw
    have cb1 := cb hb hw
    have hs8 : (srt ps).length ≤ 8 := by rw [srt_len]; omega
    have hsl := srt_len ps
    have hwn := srt_nodup (names_nodup hw)
    have hss := srt_srt ps
    have hsf := srt_fine hw
    have hzl' : ∀ z ∈ srt ps, z.length ≤ 1000 := fun z hz => hzl z ((srt_perm ps).mem_iff.mp hz)
    have hbs : ¬ badLen (srt ps) := by
      rintro (z | z) <;> omega
    clear q cb nb
    change SqT K H1 a ((srt ps).map V.str) at ha
    generalize srt ps = ws at *
    walk_at "rd"
    refine ⟨.ty _, .base (.int k), kit_ty (r := false) (by decide +kernel), ?_⟩
    refine ⟨_, rfl, iteF ?_⟩
    walk_at "rd"
    have hlm : (ws.map V.str).length = ws.length := List.length_map _
    refine ite2 (fun e1 => ?_) (fun e1 => ?_)
    · have e1' : 1 ≤ k := of_decide_eq_true e1
      walk_at "rd"
      refine ite2 (fun e2 => ?_) (fun e2 => ?_)
      · have hk : (ps.length : Int) < k := by
          have : ¬ k ≤ (((ws.map V.str).length : Nat) : Int) := fun z => by rw [decide_eq_true z] at e2; cases e2
          omega
        walk_at "rd"
        exact cb1 (.inr hk) H1 s1
      · have e2' : k ≤ (((ws.map V.str).length : Nat) : Int) := by
          apply Classical.byContradiction
          intro z
          exact e2 (by simp only [decide_eq_false z]; rfl)
        have hk : k ≤ (ps.length : Int) := by omega
        have q2 := q1 e1' hk
        clear q1 cb1
        walk_at "rd"
        intro l H2 xs n2 s2 hl2 hxs
        have ha2 := s2.tupT ha
        have hgl : (allG ws).length ≤ 256 := by rw [(allG_perm ws).length_eq]; exact sets_small hs8
        walk_at "rd"
        refine ⟨⟨_, SqL.of hl2⟩, fun D hD => ?_⟩
        refine lc_rel (walk_list (xs := xs)) (xs := allG ws) (paired_len hxs).symm (by rw [paired_len hxs]; omega) (fun g => decide ((g.length : Int) = k)) (fun H g v => GrpV K H v g) hD (fun H H' g v acc _ hDa k h => h.but hDa k) (fun H s => s.seq (SqL.of hl2)) ?_ ?_
        · intro j g v H5 H6 Qk Qn hgj sm hy hkk hn
          obtain ⟨rfl, hv⟩ := hy
          obtain ⟨g', h1, h2⟩ := OS.paired_get hxs hv
          obtain rfl : g' = g := Option.some.inj (h1.symm.trans hgj)
          have h3 := h2.same sm
          obtain ⟨b, rfl, hb⟩ := id h3
          walk_at "rd"
          refine ite2 (fun e => ?_) (fun e => ?_)
          · have e' : decide ((g'.length : Int) = k) = true := by
              have := V.int.inj (of_decide_eq_true e)
              rw [List.length_map] at this
              exact decide_eq_true this
            walk_at "rd"
            exact hkk e' _ _ h3 (Same.refl _)
          · have e' : decide ((g'.length : Int) = k) = false := by
              refine decide_eq_false fun z => e (decide_eq_true ?_)
              rw [List.length_map, z]
            exact hn e' _ (Same.refl _)
        · intro H5 acc sm hD5 pr
          have pr' : GrpsV K H5 acc (manyG ws k) := paired_swap pr
          have ha5 := sm.tupT ha2
          walk_at "rd"
          intro f dx hfn hdn hne
          have s05 : Same H H5 := (s1.trans s2).trans sm
          have s5n : Same H5 (upd (upd H5 dx (HO.own f)) f (HO.ins T.C_Family dx [])) := (same_new hdn).trans (same_new (by rw [upd_ne hne.symm]; exact hfn))
          have fn0 : H f = none := s05.free hfn
          have hfat : (upd (upd H5 dx (HO.own f)) f (HO.ins T.C_Family dx [])) f = some (HO.ins T.C_Family dx []) := upd_same
          generalize upd (upd H5 dx (HO.own f)) f (HO.ins T.C_Family dx []) = H6 at s5n hfat ⊢
          have hmo := many_ok (ws := ws) e1'
          have hmn := many_ne (ws := ws) e1' (by omega)
          have good : ∀ (i : Nat) (o : Option (List V)), ((manyG ws k).map asThing)[i]? = some o → isGrp ws o = true ∧ o ≠ some [] := fun i o h => by
            rw [List.getElem?_map] at h
            cases hg : (manyG ws k)[i]? with
            | none =>
              rw [hg] at h
              cases h
            | some g =>
              rw [hg] at h
              obtain rfl := Option.some.inj h
              obtain ⟨h1, h2⟩ := hmo g (List.mem_of_getElem? hg)
              refine ⟨(isGrp_iff hwn).mpr ⟨g, h1, rfl⟩, fun z => h2 ?_⟩
              exact List.map_eq_nil_iff.mp (Option.some.inj z)
          refine ⟨f, a, D, dx, ws, acc, (manyG ws k).map asThing, rfl, hfat, .inr (s5n.tupT ha5), by omega, hzl', .inl (SqL.of (s5n _ _ hD5)), things_same (grps_things pr') s5n, ?_, ⟨fun z => absurd z hbs, fun z H' _ h => (by rw [hsf] at h; cases h), fun z H' _ h => (by rw [hsf] at h; cases h)⟩,
            fun _ _ => ⟨fun z => absurd (List.map_eq_nil_iff.mp z) hmn, fun i x o _ h2 _ h4 => absurd ?_ h4⟩, fun _ _ rows er _ _ H' kp hF => ⟨rfl, ?_⟩⟩
          · rw [List.length_map]
            exact Nat.le_trans (List.length_filter_le _ _) (by omega)
          · rw [hss]
            exact good i o h2
          · rw [hss] at hF
            have er' : manyG ws k = rows := (List.map_inj_right (fun x y h => List.map_inj_right (fun a b z => V.str.inj z) |>.mp (Option.some.inj h))).mp er
            subst er'
            exact q2 f H' fn0 (fun b o e => kp b o (s5n _ _ (s05 _ _ e)) (ne_of_none e fn0)) hF
    · have hk : k < 1 := by
        have : ¬ (1 : Int) ≤ k := fun z => e1 (decide_eq_true z)
        omega
      refine ⟨_, rfl, ?_⟩
      refine iteT ?_
      walk_at "rd"
      exact cb1 (.inl hk) H1 s1
end
end P
set_option Elab.async false
set_option linter.all false
set_option maxRecDepth 100000
set_option maxHeartbeats 4000000
namespace P
open PySem PySem.Spec PyProof.Rows L2 OS
/-! short ways: "rd" opens a reading as far as equations go; "sep" finds what stands apart from the state; "sq" a list that is read; "nx" two heaps -/
local macro_rules | `(tactic| walk_at "sep") => `(tactic| first | assumption | (refine (by assumption : Nx _ _ _) _ _ ?_; walk_at "sep"))
local macro_rules | `(tactic| walk_at "sq") => `(tactic| first | assumption | exact .inl (.inl (by assumption)) | exact Sep.sq (by walk_at "sep") | exact Sep.st (by walk_at "sep") | exact .inl (.inl upd_same))
local macro_rules | `(tactic| walk_at "rd") => `(tactic| repeat (first
  | refine And.intro rfl ?_
  | apply Exists.intro
  | refine And.intro (by assumption) ?_
  | refine And.intro (DrawOk.mk (by omega) (by omega) (by omega)) ?_
  | refine And.intro at0 ?_
  | refine And.intro ⟨_, rfl⟩ ?_
  | refine And.intro (by walk_at "sq") ?_
  | refine And.intro (Or.inl (by walk_at "sq")) ?_
  | refine And.intro (Or.inr (by walk_at "sq")) ?_
  | refine And.intro (by omega) ?_))
section
variable {P : Program} {w : World} {K : PySem.W.Frag} {mg : Str → Option Value} {base : Heap}
/-! ### numbers -/
def isIB : V → Bool | .int _ => true | .bl _ => true | _ => false
def isB : V → Bool | .bl _ => true | _ => false
def isI : V → Bool | .int _ => true | _ => false
/-- a number modulo p -/
def isN (p : Int) : V → Bool | .int i => decide (0 ≤ i) && decide (i < p) | _ => false
/-- what is known of a value's type -/
def Num2 (K : PySem.W.Frag) (H : Hp) (v : V) : Prop := ∃ t, TyX K H v t ∧ PySem.W.kitOne K t (.type "int") = some (isIB v) ∧ PySem.W.kitOne K t (.type "bool") = some (isB v)
theorem num_flat {H : Hp} {v : V} (f : flatV v = true) : Num2 K H v := by
  cases v with
  | non => exact ⟨_, .base .non, by rfl, by rfl⟩
  | bl b => exact ⟨_, .base (.bl b), by rfl, by rfl⟩
  | int i => exact ⟨_, .base (.int i), by rfl, by rfl⟩
  | str z => exact ⟨_, .base (.str z), by rfl, by rfl⟩
  | _ => exact absurd (show false = true from f) Bool.false_ne_true
theorem itm_num {H : Hp} {v : V} (h : Itm K H v) : Num2 K H v := by
  cases h with
  | flat f => exact num_flat f
  | lst q => exact ⟨_, ty_list q, by rfl, by rfl⟩
  | dct q => exact ⟨_, .base (.dK q), by rfl, by rfl⟩
  | tup q => exact ⟨_, ty_tup q, by rfl, by rfl⟩
/-- is_whole(value) -/
def spWhole (K : PySem.W.Frag) : Sp := fun vs H Q _ => ∃ v : V, vs = [v] ∧ Num2 K H v ∧ Q (.bl (isI v)) H
theorem ok_is_whole (T : Txt K mg) : FnOk P w K mg base CX0 1 T.f_is_whole T.fd_is_whole ["value"] (spWhole K) := by
  refine T.F_is_whole.ok sc_is_whole (fun vs H Q E h => ?_) (fun cdv A outer s H vs Q E hr h => ?_)
  · obtain ⟨v, rfl, _⟩ := h
    rfl
  · obtain ⟨v, rfl, ⟨t, ht, h1, h2⟩, q⟩ := h
    refine ⟨_, (pss_one (ps_ret (pe_and (pe_callB (id := "isinstance") (r := rIsi K) call_isi (by rfl) T.n_isinstance (by decide +kernel) (pa_cons (pv 0) (pa_cons (pe_bltn (v := .ty "int") (u := .type "int") (by rfl) T.n_int (by decide +kernel) rfl) pa_nil))) (pe_one (pe_not (pe_callB (id := "isinstance") (r := rIsi K) call_isi (by rfl) T.n_isinstance (by decide +kernel) (pa_cons (pv 0) (pa_cons (pe_bltn (v := .ty "bool") (u := .type "bool") (by rfl) T.n_bool (by decide +kernel) rfl) pa_nil)))))))), ?_⟩
    walk_at "rd"
    refine ⟨.ty _, ht, h1, ?_⟩
    walk_at "rd"
    refine ite2 (fun e => ?_) (fun e => ?_)
    · walk_at "rd"
      refine ⟨.ty _, ht, h2, ?_⟩
      have ev : (!isB v) = isI v := by
        cases v <;> first | rfl | exact absurd e Bool.false_ne_true
      walk_at "rd"
      rw [ev]
      exact q
    · have ev : isI v = false := by
        cases v <;> first | rfl | exact absurd rfl e
      rw [ev] at q
      exact q
/-- is_number(prime, value) -/
def spNumber (K : PySem.W.Frag) : Sp := fun vs H Q _ => ∃ (p : Int) (v : V), vs = [.int p, v] ∧ Num2 K H v ∧ Q (.bl (isN p v)) H
theorem ok_is_number (T : Txt K mg) : FnOk P w K mg base CX0 2 T.f_is_number T.fd_is_number ["prime", "value"] (spNumber K) := by
  refine T.F_is_number.ok sc_is_number (fun vs H Q E h => ?_) (fun cdv A outer s H vs Q E hr h => ?_)
  · obtain ⟨p, v, rfl, _⟩ := h
    rfl
  · obtain ⟨p, v, rfl, hv, q⟩ := h
    refine ⟨_, (pss_one (ps_ret (pe_and (pe_call (ok_is_whole T) (hr.mono (by decide)) (by rfl) T.g_is_whole T.F_is_whole.kp T.b_is_whole .nil pass0 (pa_cons (pv 1) pa_nil)) (pe_one (pe_chain op_le op_lt pe_int (pv 1) (pv 0)))))), ?_⟩
    walk_at "rd"
    refine ite2 (fun e => ?_) (fun e => ?_)
    · obtain ⟨i, rfl⟩ : ∃ i, v = .int i := by
        cases v <;> first | exact ⟨_, rfl⟩ | exact absurd e Bool.false_ne_true
      walk_at "rd"
      refine ite2 (fun e1 => ?_) (fun e1 => ?_)
      · walk_at "rd"
        have : isN p (.int i) = decide (i < p) := by
          show (decide (0 ≤ i) && decide (i < p)) = _
          rw [e1, Bool.true_and]
        rw [this] at q
        exact q
      · walk_at "rd"
        have : isN p (.int i) = false := by
          show (decide (0 ≤ i) && decide (i < p)) = _
          rw [(Bool.not_eq_true _).mp e1, Bool.false_and]
        rw [this] at q
        first
          | exact q
          | (rw [(Bool.not_eq_true _).mp e1]; exact q)
    · have ev : isN p v = false := by
        cases v <;> first | rfl | exact absurd rfl e
      rw [ev] at q
      exact q
/-- has_numbers(prime, value, many) -/
def numsB (p m : Int) : Option (List V) → Bool | some xs => decide ((xs.length : Int) = m) && xs.all (isN p) | none => false
def spNums (K : PySem.W.Frag) : Sp := fun vs H Q _ => ∃ (p m : Int) (v : V) (o : Option (List V)), vs = [.int p, v, .int m] ∧ Thing K H v o ∧ (∀ xs, o = some xs → xs.length ≤ 1000) ∧ ∀ H', Same H H' → Q (.bl (numsB p m o)) H'
theorem ok_has_numbers (T : Txt K mg) : FnOk P w K mg base CX0 3 T.f_has_numbers T.fd_has_numbers ["prime", "value", "many"] (spNums K) := by
  refine T.F_has_numbers.ok sc_has_numbers (fun vs H Q E h => ?_) (fun cdv A outer s H vs Q E hr h => ?_)
  · obtain ⟨p, m, v, o, rfl, _⟩ := h
    rfl
  · obtain ⟨p, m, v, o, rfl, hv, hl, q⟩ := h
    refine ⟨_, (pss_cons (ps_if (PW.pt (pw_or (pt_not (pt_val (pe_callB (id := "isinstance") (r := rIsi K) call_isi (by rfl) T.n_isinstance (by decide +kernel) (pa_cons (pv 1) (pa_cons (pe_bltn (v := .ty "tuple") (u := .type "tuple") (by rfl) T.n_tuple (by decide +kernel) rfl) pa_nil))))) (pw_or1 (pt_cmpR op_ne (pe_callB (id := "len") (r := rLenS K) call_lenS (by rfl) T.n_len PySem.boot_len (pa_cons (pv 1) pa_nil)) (pv 2) (nomark _)))))
      (pss_one (ps_ret pe_bl)) pss_nil)
    (pss_one (ps_ret (pe_callB (id := "all") (r := rAll K) (cr_all rfl) (by rfl) T.n_all (by decide +kernel) (pa_cons (pe_lc (own := [("item", 3)]) (g := gName 3) (tt := tYes) rfl sc_has_numbers.nd (pi_tup (pv 1)) (blkOk_by (own := [("item", 3)]) (N := N_has_numbers) (sc := defScope s_has_numbers) (by decide +kernel)) (fun _ _ _ _ _ => (pg_name (i := 3) sc_has_numbers.nd rfl (Or.inl rfl))) (fun _ _ _ _ _ => pts_nil) (fun _ _ _ _ _ => (pe_call (ok_is_number T) (hr.mono (by decide)) (by rfl) T.g_is_number T.F_is_number.kp T.b_is_number .nil pass0 (pa_cons (pv 0) (pa_cons (pv 3) pa_nil))))) pa_nil))))), ?_⟩
    obtain ⟨t, ht, hk⟩ := hv.isT
    walk_at "rd"
    refine ⟨.ty _, ht, hk, ?_⟩
    walk_at "rd"
    cases hv with
    | flat f => exact q H (Same.refl H)
    | lst z => exact q H (Same.refl H)
    | dct z => exact q H (Same.refl H)
    | @tup b xs hb hi =>
      have hx := hl xs rfl
      walk_at "rd"
      refine ite2 (fun e => ?_) (fun e => ?_)
      · have hne : ¬ ((xs.length : Int) = m) := fun z => by
          rw [z] at e
          simp at e
        have := q H (Same.refl H)
        rw [show numsB p m (some xs) = false by
          show (decide ((xs.length : Int) = m) && _) = false
          rw [decide_eq_false hne, Bool.false_and]] at this
        walk_at "rd"
        first
          | exact this
          | exact iteT this
      · have hm : (xs.length : Int) = m := Classical.byContradiction fun z => e (by simp [z])
        walk_at "rd"
        refine ⟨⟨_, hb⟩, fun D hD => ?_⟩
        refine lc_all (walk_tup (xs := xs)) (xs := xs) rfl (by omega) (fun v => V.bl (isN p v)) hD (fun H1 s => s.tupT hb) ?_ ?_
        · intro i v x H1 H2 Qk hv sm hy hk
          obtain ⟨rfl, hx'⟩ := hy
          obtain rfl : x = v := Option.some.inj (hx'.symm.trans hv)
          have hn : Num2 K H2 x := itm_num ((hi x (List.mem_of_getElem? hv)).same sm)
          walk_at "rd"
          exact hk _ (Same.refl _)
        · intro H1 sm hD1
          have hq : SqL K H1 D ((xs.map (isN p)).map V.bl) := SqL.of (by rw [List.map_map]; exact hD1)
          walk_at "rd"
          have := q H1 sm
          rw [show numsB p m (some xs) = (xs.map (isN p)).all id by
            show (decide ((xs.length : Int) = m) && _) = _
            rw [decide_eq_true hm, Bool.true_and, List.all_map]
            rfl] at this
          exact this
end
end P
set_option Elab.async false
set_option linter.all false
set_option maxRecDepth 100000
set_option maxHeartbeats 4000000
namespace P
open PySem PySem.Spec PyProof.Rows L2 OS
/-! short ways: "rd" opens a reading as far as equations go; "sep" finds what stands apart from the state; "sq" a list that is read; "nx" two heaps -/
local macro_rules | `(tactic| walk_at "sep") => `(tactic| first | assumption | (refine (by assumption : Nx _ _ _) _ _ ?_; walk_at "sep"))
local macro_rules | `(tactic| walk_at "sq") => `(tactic| first | assumption | exact .inl (.inl (by assumption)) | exact Sep.sq (by walk_at "sep") | exact Sep.st (by walk_at "sep") | exact .inl (.inl upd_same))
local macro_rules | `(tactic| walk_at "rd") => `(tactic| repeat (first
  | refine And.intro rfl ?_
  | apply Exists.intro
  | refine And.intro (by assumption) ?_
  | refine And.intro (DrawOk.mk (by omega) (by omega) (by omega)) ?_
  | refine And.intro at0 ?_
  | refine And.intro ⟨_, rfl⟩ ?_
  | refine And.intro (by walk_at "sq") ?_
  | refine And.intro (Or.inl (by walk_at "sq")) ?_
  | refine And.intro (Or.inr (by walk_at "sq")) ?_
  | refine And.intro (by omega) ?_))
section
variable {P : Program} {w : World} {K : PySem.W.Frag} {mg : Str → Option Value} {base : Heap}
/-! ### checks of numbers and rows -/
def isPr : V → Bool | .int i => decide (i = 2 ∨ i = 3 ∨ i = 5 ∨ i = 7 ∨ i = 11) | _ => false
theorem any_pr (v : V) : ([2, 3, 5, 7, 11] : List Int).any (eqIV v) = isPr v := by
  cases v with
  | int j =>
    rw [Bool.eq_iff_iff]
    show ((2 : Int) == j || ((3 : Int) == j || ((5 : Int) == j || ((7 : Int) == j || ((11 : Int) == j || false))))) = true ↔ decide (j = 2 ∨ j = 3 ∨ j = 5 ∨ j = 7 ∨ j = 11) = true
    rw [Bool.or_false, decide_eq_true_iff]
    simp only [Bool.or_eq_true, beq_iff_eq]
    omega
  | bl b => cases b <;> rfl
  | _ => rfl
theorem isPr_is {p : Int} (h : isPr (.int p) = true) : p = 2 ∨ p = 3 ∨ p = 5 ∨ p = 7 ∨ p = 11 := of_decide_eq_true h
/-- check_prime(prime) -/
def spPrime (T : Txt K mg) : Sp := fun vs H Q E => ∃ (v : V), vs = [v] ∧ Itm K H v ∧ (isPr v = false → ∀ H', Same H H' → Flies E T.C_BadPrime "number" v H') ∧ (isPr v = true → Q .non H)
theorem ok_check_prime (T : Txt K mg) : FnOk P w K mg base (L2.CX P w) 3 T.f_check_prime T.fd_check_prime ["prime"] (spPrime T) := by
  refine T.F_check_prime.okX sc_check_prime (fun vs H Q E h => ?_) (fun cdv A outer s H vs Q E hr h => ?_)
  · obtain ⟨v, rfl, _⟩ := h
    rfl
  · obtain ⟨v, rfl, hv, qb, q⟩ := h
    refine ⟨_, (pss_one (ps_if (pt_cmpR (r := rNotInI K) (op_notInI (room65 hr)) (pv 0) (pe_glob (v := .ref T.a_PRIMES) rfl T.g_PRIMES rfl) (by rfl))
      (pss_one (ps_raise rfl (takes_of rfl rfl rfl rfl) (pmk_err T.er_BadPrime T.iC_BadPrime T.tI_BadPrime (ok_BadPrime__init_ T) (hr.mono (by decide)) T.b_BadPrime__init_ (by rfl) T.g_BadPrime (pv 0)))) pss_nil)), ?_⟩
    have hT : SqL K H T.a_PRIMES (([2, 3, 5, 7, 11] : List Int).map V.int) ∨ SqT K H T.a_PRIMES (([2, 3, 5, 7, 11] : List Int).map V.int) := .inr (T.t_PRIMES H)
    walk_at "rd"
    rw [any_pr]
    refine ite2 (fun e => ?_) (fun e => ?_)
    · walk_at "rd"
      exact qb ((Bool.not_eq_true' _).mp e) H (Same.refl H)
    · exact q (by simpa using e)
/-- rows of numbers modulo p, of width n -/
def RowV (K : PySem.W.Frag) (H : Hp) (v : V) (ns : List Int) : Prop := ∃ b, v = .ref b ∧ SqT K H b (ns.map V.int)
theorem RowV.same {H H' : Hp} {v : V} {ns : List Int} (h : RowV K H v ns) (s : Same H H') : RowV K H' v ns := by
  obtain ⟨b, e, h⟩ := h
  exact ⟨b, e, s.tupT h⟩
structure RowOk (p : Int) (n : Nat) (ns : List Int) : Prop where
  len : ns.length = n
  rng : ∀ i ∈ ns, 0 ≤ i ∧ i < p
theorem RowV.thing {H : Hp} {v : V} {ns : List Int} (h : RowV K H v ns) : Thing K H v (some (ns.map V.int)) := by
  obtain ⟨b, rfl, h⟩ := h
  exact .tup h fun v hv => by
    obtain ⟨z, _, rfl⟩ := List.mem_map.mp hv
    exact .flat rfl
theorem RowOk.nums {p : Int} {n : Nat} {ns : List Int} (h : RowOk p n ns) : numsB p n (some (ns.map V.int)) = true := by
  show (decide ((((ns.map V.int).length : Nat) : Int) = n) && (ns.map V.int).all (isN p)) = true
  rw [decide_eq_true (by rw [List.length_map, h.len]), Bool.true_and, List.all_eq_true]
  intro v hv
  obtain ⟨i, hi, rfl⟩ := List.mem_map.mp hv
  obtain ⟨h1, h2⟩ := h.rng i hi
  show (decide (0 ≤ i) && decide (i < p)) = true
  rw [decide_eq_true h1, decide_eq_true h2]
  rfl
/-- the width that the first row tells -/
def wOf : List (Option (List V)) → Nat | some xs :: _ => xs.length | _ => 0
def goodR (p : Int) (n : Nat) (o : Option (List V)) : Bool := decide (1 ≤ n) && numsB p n o
/-- the first that is no row of the width that the first tells -/
def badRow (p : Int) (os : List (Option (List V))) : Option Nat := os.findIdx? fun o => !goodR p (wOf os) o
theorem badRow_no {p : Int} {os : List (Option (List V))} (h : badRow p os = none) {o : Option (List V)} (ho : o ∈ os) : goodR p (wOf os) o = true := by
  have := List.findIdx?_eq_none_iff.mp h o ho
  simpa using this
theorem badRow_at {p : Int} {os : List (Option (List V))} {i : Nat} {o : Option (List V)} (hi : os[i]? = some o) (hb : goodR p (wOf os) o = false) (hg : ∀ j u, j < i → os[j]? = some u → goodR p (wOf os) u = true) : badRow p os = some i := by
  refine List.findIdx?_eq_some_iff_getElem.mpr ?_
  obtain ⟨hl, rfl⟩ := List.getElem?_eq_some_iff.mp hi
  refine ⟨hl, by simp [hb], fun j hj => ?_⟩
  have := hg j os[j] hj (List.getElem?_eq_getElem (by omega))
  simp [this]
/-- check_rows(prime, values) -/
def spRows (T : Txt K mg) : Sp := fun vs H Q E => ∃ (p : Int) (a : Addr) (kk : Bool) (xs : List V) (os : List (Option (List V))), vs = [.int p, .ref a] ∧ SqB kk K H a xs ∧ Paired (Thing K H) xs os ∧ (∀ o ∈ os, ∀ zs, o = some zs → zs.length ≤ 1000) ∧
  (∀ i v, badRow p os = some i → xs[i]? = some v → ∀ H', Same H H' → Flies E T.C_BadRow "value" v H') ∧ (badRow p os = none → ∀ H', Same H H' → Q .non H')
theorem ok_check_rows (T : Txt K mg) : FnOk P w K mg base (L2.CX P w) 4 T.f_check_rows T.fd_check_rows ["prime", "values"] (spRows T) := by
  refine T.F_check_rows.okX sc_check_rows (fun vs H Q E h => ?_) (fun cdv A outer s H vs Q E hr h => ?_)
  · obtain ⟨p, a, kk, xs, os, rfl, _⟩ := h
    rfl
  · obtain ⟨p, a, kk, xs, os, rfl, ha, hx, hl, qb, q⟩ := h
    refine ⟨_, (pss_cons (ps_set (i := 2) sc_check_rows.nd rfl (Or.inl rfl) pe_non)
    (pss_one (ps_for (passes_of rfl) rfl (pi_hold (pi_seqB (pv 1))) (pg_name (i := 3) sc_check_rows.nd rfl (Or.inl rfl))
      (pss_stop (ps_if (PW.pt (pw_and (pt_cmpR op_isN (pv 2) pe_non (nomark _)) (pw_and (pt_val (pe_callB (id := "isinstance") (r := rIsi K) call_isi (by rfl) T.n_isinstance (by decide +kernel) (pa_cons (pv 3) (pa_cons (pe_bltn (v := .ty "tuple") (u := .type "tuple") (by rfl) T.n_tuple (by decide +kernel) rfl) pa_nil)))) (pw_and1 (pt_cmpR (r := rNeEmp K) (op_neEmp (room65 hr)) (pv 3) (pe_tupO pa_nil) (nomark _))))))
      (pss_one (ps_set (i := 2) sc_check_rows.nd rfl (Or.inl rfl) (pe_callB (id := "len") (r := rLenS K) call_lenS (by rfl) T.n_len PySem.boot_len (pa_cons (pv 3) pa_nil)))) pss_nil)
    (pss_one (ps_if (PW.pt (pw_or (pt_cmpR op_isN (pv 2) pe_non (nomark _)) (pw_or1 (pt_not (pt_val (pe_call (ok_has_numbers T) (hr.mono (by decide)) (by rfl) T.g_has_numbers T.F_has_numbers.kp T.b_has_numbers .nil pass0 (pa_cons (pv 0) (pa_cons (pv 3) (pa_cons (pv 2) pa_nil)))))))))
      (pss_one (ps_raise rfl (takes_of rfl rfl rfl rfl) (pmk_err T.er_BadRow T.iC_BadRow T.tI_BadRow (ok_BadRow__init_ T) (hr.mono (by decide)) T.b_BadRow__init_ (by rfl) T.g_BadRow (pv 3)))) pss_nil)))))), ?_⟩
    have hxl := paired_len hx
    walk_at "rd"
    refine ⟨for_it (walk_seq (xs := xs)) (fun i σ H' => ∃ (wv : V) (y : Option V), σ = [some (.int p), some (.ref a), some wv, y] ∧ Same H H' ∧ (i = 0 → wv = .non) ∧ (0 < i → wv = .int (wOf os : Int)) ∧ ∀ j u, j < i → os[j]? = some u → goodR p (wOf os) u = true) ⟨.non, none, rfl, Same.refl H, fun _ => rfl, fun h => absurd h (by omega), fun j u h => absurd h (by omega)⟩ (fun i σ H' _ ⟨_, _, _, s, _⟩ => ha.same s) ?_ ?_⟩
    · rintro i x _ H1 H2 hil ⟨wv, y, rfl, s1, hw0, hw1, hgood⟩ ⟨rfl, hxi⟩
      obtain ⟨o, hoi, hth⟩ := OS.paired_get hx hxi
      have hth2 := hth.same s1
      have hol := hl o (List.mem_of_getElem? hoi)
      have hpos : 0 < i → 1 ≤ wOf os := fun hi0 => by
        have h0 : os[0]? = some os[0] := List.getElem?_eq_getElem (by have := (List.getElem?_eq_some_iff.mp hoi).1; omega)
        have := hgood 0 _ hi0 h0
        unfold goodR at this
        rw [Bool.and_eq_true] at this
        exact of_decide_eq_true this.1
      refine Stop.cut (fun σ H' => ∃ wv', σ = [some (.int p), some (.ref a), some wv', some x] ∧ Same H2 H' ∧ ((wv' = .int (wOf os : Int) ∧ 1 ≤ wOf os) ∨ (wv' = .non ∧ goodR p (wOf os) o = false))) (fun Qz hz => ?_) ?_
      · walk_at "rd"
        refine ite2 (fun e => ?_) (fun e => ?_)
        · have ew : wv = .non := of_decide_eq_true e
          have hi0 : i = 0 := by
            rcases Nat.eq_zero_or_pos i with z | z
            · exact z
            · rw [hw1 z] at ew
              cases ew
          subst hi0
          have hos : ∃ r, os = o :: r := by
            cases os with
            | nil => simp at hoi
            | cons a r => exact ⟨r, by rw [Option.some.inj (show some a = some o from hoi)]⟩
          obtain ⟨r, hos⟩ := hos
          obtain ⟨t, ht, hk⟩ := hth2.isT
          walk_at "rd"
          refine ⟨.ty _, ht, hk, ?_⟩
          walk_at "rd"
          have none_bad : o = none → goodR p (wOf os) o = false := fun z => by
            subst z
            unfold goodR
            rw [show numsB p (wOf os) none = false from rfl, Bool.and_false]
          cases hth2 with
          | flat f => exact hz _ _ ⟨_, rfl, Same.refl _, .inr ⟨ew, none_bad rfl⟩⟩
          | lst z => exact hz _ _ ⟨_, rfl, Same.refl _, .inr ⟨ew, none_bad rfl⟩⟩
          | dct z => exact hz _ _ ⟨_, rfl, Same.refl _, .inr ⟨ew, none_bad rfl⟩⟩
          | @tup b zs hb hi =>
            have hwz : wOf os = zs.length := by rw [hos]; rfl
            walk_at "rd"
            refine ⟨by decide, fun t H3 nt s3 ht => ?_⟩
            have hb3 := s3.tupT hb
            have ht3 : SqT K H3 t [] := SqT.of ht
            walk_at "rd"
            refine ite2 (fun e2 => ?_) (fun e2 => ?_)
            · have : 1 ≤ zs.length := by
                cases zs with
                | nil => exact absurd e2 (by simp)
                | cons _ _ => simp
              walk_at "rd"
              refine hz _ _ ⟨_, rfl, s3, .inl ⟨?_, by omega⟩⟩
              rw [hwz]
            · have : zs = [] := by
                cases zs with
                | nil => rfl
                | cons _ _ => exact absurd rfl e2
              refine hz _ _ ⟨_, rfl, s3, .inr ⟨ew, ?_⟩⟩
              unfold goodR
              rw [hwz, this]
              rfl
        · have hi0 : 0 < i := Nat.pos_of_ne_zero fun z => e (decide_eq_true (hw0 z))
          exact hz _ _ ⟨_, rfl, Same.refl _, .inl ⟨hw1 hi0, hpos hi0⟩⟩
      · rintro _ H3 ⟨wv', rfl, s3, ⟨rfl, h1⟩ | ⟨rfl, hbad⟩⟩
        · have hth3 := hth2.same s3
          walk_at "rd"
          intro H4 s4
          walk_at "rd"
          refine ite2 (fun e => ?_) (fun e => ?_)
          · have hb : goodR p (wOf os) o = false := by
              unfold goodR
              rw [(Bool.not_eq_true' _).mp e, Bool.and_false]
            walk_at "rd"
            exact qb i x (badRow_at hoi hb hgood) hxi H4 ((s1.trans s3).trans s4)
          · have hg : goodR p (wOf os) o = true := by
              unfold goodR
              rw [decide_eq_true h1, Bool.true_and]
              simpa using e
            refine ⟨_, _, rfl, (s1.trans s3).trans s4, fun z => absurd z (by omega), fun _ => rfl, fun j u hj hu => ?_⟩
            by_cases q2 : j < i
            · exact hgood j u q2 hu
            · obtain rfl : j = i := by omega
              obtain rfl : o = u := Option.some.inj (hoi.symm.trans hu)
              exact hg
        · walk_at "rd"
          exact qb i x (badRow_at hoi hbad hgood) hxi H3 (s1.trans s3)
    · rintro σ H1 ⟨wv, y, rfl, s1, _, _, hgood⟩
      refine q (List.findIdx?_eq_none_iff.mpr fun o ho => ?_) H1 s1
      obtain ⟨j, hj⟩ := List.getElem?_of_mem ho
      have := hgood j o (by have := (List.getElem?_eq_some_iff.mp hj).1; omega) hj
      simp [this]
/-- rows of so many numbers, lists or tuples -/
def LenV (K : PySem.W.Frag) (H : Hp) (v : V) (n : Nat) : Prop := ∃ b zs, v = .ref b ∧ (SqL K H b zs ∨ SqT K H b zs) ∧ zs.length = n
theorem LenV.same {H H' : Hp} {v : V} {n : Nat} (h : LenV K H v n) (s : Same H H') : LenV K H' v n := by
  obtain ⟨b, zs, e, h, hl⟩ := h
  exact ⟨b, zs, e, h.imp (fun z => s.seq z) (fun z => s.tupT z), hl⟩
/-- check_width(width, rows) -/
def spWidth (T : Txt K mg) : Sp := fun vs H Q E => ∃ (m : Int) (a : Addr) (kk : Bool) (xs : List V) (ls : List Nat), vs = [.int m, .ref a] ∧ SqB kk K H a xs ∧ Paired (LenV K H) xs ls ∧ ls.length ≤ 1000 ∧
  (¬ (1 ≤ m ∧ m ≤ 40 ∧ ∀ l ∈ ls, (l : Int) = m) → ∀ H', Same H H' → Flies E T.C_BadCount "count" (.int m) H') ∧ ((1 ≤ m ∧ m ≤ 40 ∧ ∀ l ∈ ls, (l : Int) = m) → ∀ H', Same H H' → Q .non H')
theorem ok_check_width (T : Txt K mg) : FnOk P w K mg base (L2.CX P w) 3 T.f_check_width T.fd_check_width ["width", "rows"] (spWidth T) := by
  refine T.F_check_width.okX sc_check_width (fun vs H Q E h => ?_) (fun cdv A outer s H vs Q E hr h => ?_)
  · obtain ⟨m, a, kk, xs, ls, rfl, _⟩ := h
    rfl
  · obtain ⟨m, a, kk, xs, ls, rfl, ha, hx, hl, qb, q⟩ := h
    refine ⟨_, (pss_one (ps_if (PW.pt (pw_or (pt_not (pt_chain op_le op_le pe_int (pv 0) (pe_glob (v := .int 40) rfl T.c_MOST_WIDTH ⟨_, rfl⟩))) (pw_or1 (pt_val (pe_callB (id := "any") (r := rAny K) (cr_any rfl) (by rfl) T.n_any (by decide +kernel) (pa_cons (pe_lc (own := [("row", 2)]) (g := gName 2) (tt := tYes) rfl sc_check_width.nd (pi_seqB (pv 1)) (blkOk_by (own := [("row", 2)]) (N := N_check_width) (sc := defScope s_check_width) (by decide +kernel)) (fun _ _ _ _ _ => (pg_name (i := 2) sc_check_width.nd rfl (Or.inl rfl))) (fun _ _ _ _ _ => pts_nil) (fun _ _ _ _ _ => (pe_cmpR op_ne (pe_callB (id := "len") (r := rLenS K) call_lenS (by rfl) T.n_len PySem.boot_len (pa_cons (pv 2) pa_nil)) (pv 0) (nomark _)))) pa_nil))))))
      (pss_one (ps_raise rfl (takes_of rfl rfl rfl rfl) (pmk_err T.er_BadCount T.iC_BadCount T.tI_BadCount (ok_BadCount__init_ T) (hr.mono (by decide)) T.b_BadCount__init_ (by rfl) T.g_BadCount (pv 0)))) pss_nil)), ?_⟩
    have hxl := paired_len hx
    walk_at "rd"
    refine ite2 (fun e1 => ?_) (fun e1 => ?_)
    · have e1' : 1 ≤ m := of_decide_eq_true e1
      walk_at "rd"
      refine ite2 (fun e2 => ?_) (fun e2 => ?_)
      · have e2' : ¬ m ≤ 40 := fun z => by rw [decide_eq_true z] at e2; cases e2
        first
          | refine iteT ?_
          | skip
        walk_at "rd"
        exact qb (fun z => e2' z.2.1) H (Same.refl H)
      · have e2' : m ≤ 40 := Classical.byContradiction fun z => e2 (by rw [decide_eq_false z]; rfl)
        walk_at "rd"
        refine fun D hD => ?_
        refine lc_all (walk_seq (xs := xs)) (xs := ls) hxl.symm (by omega) (fun l : Nat => V.bl (!decide (V.int (l : Int) = V.int m))) hD (fun H1 s => ha.same s) ?_ ?_
        · intro i l x H1 H2 Qk hli sm hy hk
          obtain ⟨rfl, hx'⟩ := hy
          obtain ⟨l', h1, h2⟩ := OS.paired_get hx hx'
          obtain rfl : l' = l := Option.some.inj (h1.symm.trans hli)
          obtain ⟨b, zs, rfl, hb, rfl⟩ := h2.same sm
          walk_at "rd"
          exact hk _ (Same.refl _)
        · intro H1 sm hD1
          have hq : SqL K H1 D ((ls.map fun l : Nat => !decide (V.int (l : Int) = V.int m)).map V.bl) := SqL.of (by rw [List.map_map]; exact hD1)
          walk_at "rd"
          rw [List.any_map]
          refine ite2 (fun e3 => ?_) (fun e3 => ?_)
          · walk_at "rd"
            refine qb (fun z => ?_) H1 sm
            obtain ⟨l, h1, h2⟩ := List.any_eq_true.mp e3
            have := z.2.2 l h1
            simp [this] at h2
          · refine q ⟨e1', e2', fun l hl' => Classical.byContradiction fun z => e3 (List.any_eq_true.mpr ⟨l, hl', ?_⟩)⟩ H1 sm
            simp [z]
    · have e1' : ¬ 1 ≤ m := fun z => e1 (decide_eq_true z)
      walk_at "rd"
      exact qb (fun z => e1' z.1) H (Same.refl H)
theorem pr_le {p : Int} (h : isPr (.int p) = true) : 2 ≤ p ∧ p ≤ 11 := by
  have := isPr_is h
  omega
end
end P
set_option Elab.async false
set_option linter.all false
set_option maxRecDepth 100000
set_option maxHeartbeats 4000000
namespace P
open PySem PySem.Spec PyProof.Rows L2 OS
/-! short ways: "rd" opens a reading as far as equations go; "sep" finds what stands apart from the state; "sq" a list that is read; "nx" two heaps -/
local macro_rules | `(tactic| walk_at "sep") => `(tactic| first | assumption | (refine (by assumption : Nx _ _ _) _ _ ?_; walk_at "sep"))
local macro_rules | `(tactic| walk_at "sq") => `(tactic| first | assumption | exact .inl (.inl (by assumption)) | exact Sep.sq (by walk_at "sep") | exact Sep.st (by walk_at "sep") | exact .inl (.inl upd_same))
local macro_rules | `(tactic| walk_at "rd") => `(tactic| repeat (first
  | refine And.intro rfl ?_
  | apply Exists.intro
  | refine And.intro (by assumption) ?_
  | refine And.intro (DrawOk.mk (by omega) (by omega) (by omega)) ?_
  | refine And.intro at0 ?_
  | refine And.intro ⟨_, rfl⟩ ?_
  | refine And.intro (by walk_at "sq") ?_
  | refine And.intro (Or.inl (by walk_at "sq")) ?_
  | refine And.intro (Or.inr (by walk_at "sq")) ?_
  | refine And.intro (by omega) ?_))
section
variable {P : Program} {w : World} {K : PySem.W.Frag} {mg : Str → Option Value} {base : Heap}
theorem nums_ints {p : Int} : ∀ {xs : List V}, (∀ v ∈ xs, isN p v = true) → ∃ ns : List Int, xs = ns.map V.int ∧ ∀ i ∈ ns, 0 ≤ i ∧ i < p
  | [], _ => ⟨[], rfl, fun _ h => nomatch h⟩
  | v :: xs, h => by
    obtain ⟨ns, rfl, hn⟩ := nums_ints (xs := xs) fun u hu => h u (List.mem_cons_of_mem _ hu)
    have hv := h v (List.mem_cons_self ..)
    obtain ⟨i, rfl⟩ : ∃ i, v = .int i := by
      cases v <;> first | exact ⟨_, rfl⟩ | exact absurd hv Bool.false_ne_true
    have hi : 0 ≤ i ∧ i < p := by
      have : (decide (0 ≤ i) && decide (i < p)) = true := hv
      simpa using this
    exact ⟨i :: ns, rfl, fun j hj => (List.mem_cons.mp hj).elim (fun e => e ▸ hi) (hn j)⟩
/-- a prime, or a value that is none -/
inductive PrV (K : PySem.W.Frag) (H : Hp) : V → Option Int → Prop
  | ok (p : Int) : isPr (.int p) = true → PrV K H (.int p) (some p)
  | no {v : V} : Itm K H v → isPr v = false → PrV K H v none
theorem RowOk.la {p : Int} {n : Nat} {r : List Int} (h : RowOk p n r) : LA.Row p n r := ⟨h.len, h.rng⟩
theorem good_row {p : Int} {n : Nat} {o : Option (List V)} (h : goodR p n o = true) : 1 ≤ n ∧ ∃ r : List Int, o = some (r.map V.int) ∧ RowOk p n r := by
  unfold goodR at h
  rw [Bool.and_eq_true] at h
  obtain ⟨h1, h2⟩ := h
  refine ⟨of_decide_eq_true h1, ?_⟩
  cases o with
  | none => cases h2
  | some xs =>
    have h3 : (decide ((xs.length : Int) = n) && xs.all (isN p)) = true := h2
    rw [Bool.and_eq_true] at h3
    have hl := of_decide_eq_true h3.1
    obtain ⟨ns, rfl, hns⟩ := nums_ints (p := p) (xs := xs) fun v hv => List.all_eq_true.mp h3.2 v hv
    exact ⟨ns, rfl, by rw [List.length_map] at hl; omega, hns⟩
theorem good_rows {p : Int} {n : Nat} : ∀ {os : List (Option (List V))}, (∀ o ∈ os, goodR p n o = true) → ∃ rows : List (List Int), os = rows.map (fun r => some (r.map V.int)) ∧ ∀ r ∈ rows, RowOk p n r
  | [], _ => ⟨[], rfl, fun _ h => nomatch h⟩
  | o :: os, h => by
    obtain ⟨_, r, rfl, hr⟩ := good_row (h o (.head _))
    obtain ⟨rows, rfl, hrows⟩ := good_rows (os := os) fun x hx => h x (.tail _ hx)
    exact ⟨r :: rows, rfl, fun x hx => (List.mem_cons.mp hx).elim (fun e => e ▸ hr) (hrows x)⟩
theorem badRow_rows {p : Int} {os : List (Option (List V))} (h : badRow p os = none) : ∃ rows : List (List Int), os = rows.map (fun r => some (r.map V.int)) ∧ (∀ r ∈ rows, RowOk p (wOf os) r) ∧ (os ≠ [] → 1 ≤ wOf os) := by
  obtain ⟨rows, e, hr⟩ := good_rows (n := wOf os) fun o ho => badRow_no h ho
  refine ⟨rows, e, hr, fun ne => ?_⟩
  obtain ⟨o, r, rfl⟩ := List.exists_cons_of_ne_nil ne
  exact (good_row (badRow_no h (.head _))).1
theorem rows_things {H : Hp} : ∀ {xs : List V} {rows : List (List Int)}, Paired (Thing K H) xs (rows.map (fun r => some (r.map V.int))) → Paired (RowV K H) xs rows
  | [], [], _ => .nil
  | [], _ :: _, h => nomatch h
  | _ :: _, [], h => nomatch h
  | x :: xs, r :: rows, .cons h t => by
    refine .cons ?_ (rows_things t)
    cases h with
    | tup q _ => exact ⟨_, rfl, q⟩
end
end P
set_option Elab.async false
set_option linter.all false
set_option maxRecDepth 100000
set_option maxHeartbeats 4000000
namespace P
open PySem PySem.Spec PyProof.Rows L2 OS
/-! short ways: "rd" opens a reading as far as equations go; "sep" finds what stands apart from the state; "sq" a list that is read; "nx" two heaps -/
local macro_rules | `(tactic| walk_at "sep") => `(tactic| first | assumption | (refine (by assumption : Nx _ _ _) _ _ ?_; walk_at "sep"))
local macro_rules | `(tactic| walk_at "sq") => `(tactic| first | assumption | exact .inl (.inl (by assumption)) | exact Sep.sq (by walk_at "sep") | exact Sep.st (by walk_at "sep") | exact .inl (.inl upd_same))
local macro_rules | `(tactic| walk_at "rd") => `(tactic| repeat (first
  | refine And.intro rfl ?_
  | apply Exists.intro
  | refine And.intro (by assumption) ?_
  | refine And.intro (DrawOk.mk (by omega) (by omega) (by omega)) ?_
  | refine And.intro at0 ?_
  | refine And.intro ⟨_, rfl⟩ ?_
  | refine And.intro (by walk_at "sq") ?_
  | refine And.intro (Or.inl (by walk_at "sq")) ?_
  | refine And.intro (Or.inr (by walk_at "sq")) ?_
  | refine And.intro (by omega) ?_))
section
variable {P : Program} {w : World} {K : PySem.W.Frag} {mg : Str → Option Value} {base : Heap}
/-! ### schemes -/
/-- the rows rs stand in xs -/
def RowsV (K : PySem.W.Frag) (H : Hp) (xs : List V) (rs : List (List Int)) : Prop := Paired (RowV K H) xs rs
theorem RowsV.same {H H' : Hp} {xs : List V} {rs : List (List Int)} (h : RowsV K H xs rs) (s : Same H H') : RowsV K H' xs rs := Paired.mapP h fun _ _ q => q.same s
theorem RowV.but {H H' : Hp} {D : Addr} {u : HO} (hD : H D = some u) (hu : ∀ xs, u ≠ .tup xs ∧ ∀ o, u ≠ .frz o (.tup xs)) (k : ∀ b o, H b = some o → b ≠ D → H' b = some o) {v : V} {ns : List Int} (h : RowV K H v ns) : RowV K H' v ns := by
  obtain ⟨b, e, h⟩ := h
  refine ⟨b, e, ?_⟩
  rcases h with (h | ⟨o, h⟩) | h
  · exact .inl (.inl (k _ _ h fun z => by rw [z, hD] at h; exact (hu _).1 (Option.some.inj h)))
  · exact .inl (.inr ⟨o, k _ _ h fun z => by rw [z, hD] at h; exact (hu _).2 o (Option.some.inj h)⟩)
  · exact .inr h
/-- a list, a tuple of rows -/
def RowsL (K : PySem.W.Frag) (H : Hp) (v : V) (rs : List (List Int)) : Prop := ∃ b xs, v = .ref b ∧ SqL K H b xs ∧ RowsV K H xs rs
def RowsT (K : PySem.W.Frag) (H : Hp) (v : V) (rs : List (List Int)) : Prop := ∃ b xs, v = .ref b ∧ SqT K H b xs ∧ RowsV K H xs rs
theorem RowsL.same {H H' : Hp} {v : V} {rs : List (List Int)} (h : RowsL K H v rs) (s : Same H H') : RowsL K H' v rs := by
  obtain ⟨b, xs, e, h1, h2⟩ := h
  exact ⟨b, xs, e, s.seq h1, h2.same s⟩
theorem RowsT.same {H H' : Hp} {v : V} {rs : List (List Int)} (h : RowsT K H v rs) (s : Same H H') : RowsT K H' v rs := by
  obtain ⟨b, xs, e, h1, h2⟩ := h
  exact ⟨b, xs, e, s.tupT h1, h2.same s⟩
theorem RowsT.but {H H' : Hp} {D : Addr} {u : HO} (hD : H D = some u) (hu : ∀ xs, u ≠ .tup xs ∧ ∀ o, u ≠ .frz o (.tup xs)) (k : ∀ b o, H b = some o → b ≠ D → H' b = some o) {v : V} {rs : List (List Int)} (h : RowsT K H v rs) : RowsT K H' v rs := by
  obtain ⟨b, xs, e, h1, h2⟩ := h
  refine ⟨b, xs, e, ?_, Paired.mapP h2 fun _ _ q => q.but hD hu k⟩
  rcases h1 with (h | ⟨o, h⟩) | h
  · exact .inl (.inl (k _ _ h fun z => by rw [z, hD] at h; exact (hu _).1 (Option.some.inj h)))
  · exact .inl (.inr ⟨o, k _ _ h fun z => by rw [z, hD] at h; exact (hu _).2 o (Option.some.inj h)⟩)
  · exact .inr h
theorem no_dict {kvs : List (Key × V)} : ∀ xs, (HO.dK kvs) ≠ .tup xs ∧ ∀ o, (HO.dK kvs) ≠ .frz o (.tup xs) := fun xs => ⟨fun z => (by cases z), fun o z => (by cases z)⟩
theorem no_ins {C dx : Addr} {fs : List (Str × V)} : ∀ xs, (HO.ins C dx fs) ≠ .tup xs ∧ ∀ o, (HO.ins C dx fs) ≠ .frz o (.tup xs) := fun xs => ⟨fun z => (by cases z), fun o z => (by cases z)⟩
/-- rows that are right -/
def RowsOk (p : Int) (n : Nat) (rs : List (List Int)) : Prop := rs.length ≤ 16 ∧ ∀ r ∈ rs, RowOk p n r
/-- check_rows_of_person(prime, width, rows) of good rows -/
def spPersonOk (K : PySem.W.Frag) : Sp := fun vs H Q _ => ∃ (p : Int) (n : Nat) (a : Addr) (xs : List V) (rs : List (List Int)), vs = [.int p, .int (n : Int), .ref a] ∧ SqL K H a xs ∧ RowsV K H xs rs ∧ RowsOk p n rs ∧ n ≤ 1000 ∧ ∀ H', Same H H' → Q .non H'
theorem ok_check_rows_of_person (T : Txt K mg) : FnOk P w K mg base (L2.CX P w) 4 T.f_check_rows_of_person T.fd_check_rows_of_person ["prime", "width", "rows"] (spPersonOk K) := by
  refine T.F_check_rows_of_person.okX sc_check_rows_of_person (fun vs H Q E h => ?_) (fun cdv A outer s H vs Q E hr h => ?_)
  · obtain ⟨p, n, a, xs, rs, rfl, _⟩ := h
    rfl
  · obtain ⟨p, n, a, xs, rs, rfl, ha, hx, ⟨hl, hro⟩, hn, q⟩ := h
    refine ⟨_, (pss_cons (ps_if (pt_cmpR op_gt (pe_callB (id := "len") (r := rLenS K) call_lenS (by rfl) T.n_len PySem.boot_len (pa_cons (pv 2) pa_nil)) (pe_glob (v := .int 16) rfl T.c_MOST_ROWS ⟨_, rfl⟩) (nomark _))
      (pss_one (ps_raise rfl (takes_of rfl rfl rfl rfl) (pmk_err T.er_BadCount T.iC_BadCount T.tI_BadCount (ok_BadCount__init_ T) (hr.mono (by decide)) T.b_BadCount__init_ (by rfl) T.g_BadCount (pe_callB (id := "len") (r := rLenS K) call_lenS (by rfl) T.n_len PySem.boot_len (pa_cons (pv 2) pa_nil))))) pss_nil)
    (pss_one (ps_for (passes_of rfl) rfl (pi_hold (pi_list (pv 2))) (pg_name (i := 3) sc_check_rows_of_person.nd rfl (Or.inl rfl))
      (pss_one (ps_if (pt_not (pt_val (pe_call (ok_has_numbers T) (hr.mono (by decide)) (by rfl) T.g_has_numbers T.F_has_numbers.kp T.b_has_numbers .nil pass0 (pa_cons (pv 0) (pa_cons (pv 3) (pa_cons (pv 1) pa_nil))))))
      (pss_one (ps_raise rfl (takes_of rfl rfl rfl rfl) (pmk_err T.er_BadRow T.iC_BadRow T.tI_BadRow (ok_BadRow__init_ T) (hr.mono (by decide)) T.b_BadRow__init_ (by rfl) T.g_BadRow (pv 3)))) pss_nil))))), ?_⟩
    have hxl := paired_len hx
    walk_at "rd"
    refine ite2 (fun e => ?_) (fun e => ?_)
    · have := of_decide_eq_true e
      omega
    · walk_at "rd"
      refine ⟨⟨_, ha⟩, ⟨for_it (walk_list (xs := xs)) (fun i σ H' => ∃ (y : Option V), σ = [some (.int p), some (.int (n : Int)), some (.ref a), y] ∧ Same H H') ⟨none, rfl, Same.refl H⟩ (fun i σ H' _ ⟨_, _, s⟩ => s.seq ha) ?_ ?_⟩⟩
      · rintro i x _ H1 H2 hil ⟨y, rfl, s1⟩ ⟨rfl, hxi⟩
        obtain ⟨ns, hnsi, hrv⟩ := OS.paired_get hx hxi
        have hok := hro ns (List.mem_of_getElem? hnsi)
        have hth := (hrv.same s1).thing
        have hl1 : ∀ zs, (some (ns.map V.int)) = some zs → zs.length ≤ 1000 := fun zs e => by
          obtain rfl := Option.some.inj e
          rw [List.length_map, hok.len]
          exact hn
        walk_at "rd"
        intro H3 s3
        rw [hok.nums]
        walk_at "rd"
        exact s1.trans s3
      · rintro σ H1 ⟨y, rfl, s1⟩
        exact q H1 s1
theorem ok_Scheme_prime (T : Txt K mg) : FnOk P w K mg base CX0 1 T.f_Scheme_prime T.fd_Scheme_prime ["self"] (getSp T.C_Scheme "_prime") := by
  refine T.F_Scheme_prime.ok sc_Scheme_prime (fun vs H Q E h => ?_) (fun cdv A outer s H vs Q E hr h => ?_)
  · obtain ⟨a, dx, fs, v, e, _⟩ := h
    rw [e]
    rfl
  · obtain ⟨a, dx, fs, v, e, ea, l, q⟩ := h
    subst e
    refine ⟨_, (pss_one (ps_ret (pe_fld (pv 0) rfl))), ?_⟩
    exact ⟨_, rfl, a, T.C_Scheme, dx, fs, v, rfl, ea, T.cl_Scheme, T.na_prime, l, q⟩
theorem ok_Scheme_width (T : Txt K mg) : FnOk P w K mg base CX0 1 T.f_Scheme_width T.fd_Scheme_width ["self"] (getSp T.C_Scheme "_width") := by
  refine T.F_Scheme_width.ok sc_Scheme_width (fun vs H Q E h => ?_) (fun cdv A outer s H vs Q E hr h => ?_)
  · obtain ⟨a, dx, fs, v, e, _⟩ := h
    rw [e]
    rfl
  · obtain ⟨a, dx, fs, v, e, ea, l, q⟩ := h
    subst e
    refine ⟨_, (pss_one (ps_ret (pe_fld (pv 0) rfl))), ?_⟩
    exact ⟨_, rfl, a, T.C_Scheme, dx, fs, v, rfl, ea, T.cl_Scheme, T.na_width, l, q⟩
theorem ok_Scheme_persons (T : Txt K mg) : FnOk P w K mg base CX0 1 T.f_Scheme_persons T.fd_Scheme_persons ["self"] (getSp T.C_Scheme "_persons") := by
  refine T.F_Scheme_persons.ok sc_Scheme_persons (fun vs H Q E h => ?_) (fun cdv A outer s H vs Q E hr h => ?_)
  · obtain ⟨a, dx, fs, v, e, _⟩ := h
    rw [e]
    rfl
  · obtain ⟨a, dx, fs, v, e, ea, l, q⟩ := h
    subst e
    refine ⟨_, (pss_one (ps_ret (pe_fld (pv 0) rfl))), ?_⟩
    exact ⟨_, rfl, a, T.C_Scheme, dx, fs, v, rfl, ea, T.cl_Scheme, T.na_persons_Scheme, l, q⟩
def schF (p : Int) (n : Nat) (a d : Addr) : List (Str × V) := putF "_rows" (.ref d) (putF "_persons" (.ref a) (putF "_width" (.int (n : Int)) (putF "_prime" (.int p) [])))
/-- a Scheme stands at f -/
def SchAt (K : PySem.W.Frag) (C : Addr) (H : Hp) (f : Addr) (p : Int) (n : Nat) (ws : List Str) (ro : Str → List (List Int)) : Prop :=
  ∃ (dx a d : Addr) (kvs : List (Key × V)), H f = some (.ins C dx (schF p n a d)) ∧ SqT K H a (ws.map V.str) ∧ H d = some (.dK kvs) ∧ DHas (fun k v => RowsT K H v (ro k)) kvs ws
theorem SchAt.same {C : Addr} {H H' : Hp} {f : Addr} {p : Int} {n : Nat} {ws : List Str} {ro : Str → List (List Int)} (h : SchAt K C H f p n ws ro) (s : Same H H') : SchAt K C H' f p n ws ro := by
  obtain ⟨dx, a, d, kvs, h1, h2, h3, h4⟩ := h
  exact ⟨dx, a, d, kvs, s _ _ h1, s.tupT h2, s _ _ h3, h4.mono fun _ _ q => q.same s⟩
theorem k_pw : ¬ (("_prime" : Str) = "_width") := by decide +kernel
theorem k_pp : ¬ (("_prime" : Str) = "_persons") := by decide +kernel
theorem k_pr : ¬ (("_prime" : Str) = "_rows") := by decide +kernel
theorem k_wp : ¬ (("_width" : Str) = "_persons") := by decide +kernel
theorem k_wr : ¬ (("_width" : Str) = "_rows") := by decide +kernel
theorem k_sr : ¬ (("_persons" : Str) = "_rows") := by decide +kernel
theorem sch_prime (p : Int) (n : Nat) (a d : Addr) : (schF p n a d).lookup ("_prime" : Str) = some (.int p) := by
  unfold schF
  rw [lookup_putF, if_neg k_pr, lookup_putF, if_neg k_pp, lookup_putF, if_neg k_pw, lookup_putF, if_pos rfl]
theorem sch_width (p : Int) (n : Nat) (a d : Addr) : (schF p n a d).lookup ("_width" : Str) = some (.int (n : Int)) := by
  unfold schF
  rw [lookup_putF, if_neg k_wr, lookup_putF, if_neg k_wp, lookup_putF, if_pos rfl]
theorem sch_persons (p : Int) (n : Nat) (a d : Addr) : (schF p n a d).lookup ("_persons" : Str) = some (.ref a) := by
  unfold schF
  rw [lookup_putF, if_neg k_sr, lookup_putF, if_pos rfl]
theorem sch_rows (p : Int) (n : Nat) (a d : Addr) : (schF p n a d).lookup ("_rows" : Str) = some (.ref d) := by
  unfold schF
  rw [lookup_putF, if_pos rfl]
theorem sch_no (p : Int) (n : Nat) (a d : Addr) {m : Str} (h1 : ¬ m = "_prime") (h2 : ¬ m = "_width") (h3 : ¬ m = "_persons") (h4 : ¬ m = "_rows") : (schF p n a d).lookup m = none := by
  unfold schF
  rw [lookup_putF, if_neg h4, lookup_putF, if_neg h3, lookup_putF, if_neg h2, lookup_putF, if_neg h1]
  rfl
end
end P
set_option Elab.async false
set_option linter.all false
set_option maxRecDepth 100000
set_option maxHeartbeats 4000000
/-! a list that is another one's values in another order -/
namespace OS
open PySem PySem.Spec PyProof.Rows L2
theorem map_perm {α β : Type} {f : α → β} {vs ws : List β} (p : vs.Perm ws) : ∀ L : List α, ws = L.map f → ∃ M : List α, M.Perm L ∧ vs = M.map f := by
  induction p with
  | nil =>
    intro L e
    exact ⟨L, .refl _, e⟩
  | @cons x l1 l2 _ ih =>
    intro L e
    cases L with
    | nil => cases e
    | cons y L =>
      rw [List.map_cons] at e
      injection e with e1 e2
      obtain ⟨M, m1, m2⟩ := ih L e2
      exact ⟨y :: M, m1.cons y, by rw [List.map_cons, ← e1, ← m2]⟩
  | @swap x y l =>
    intro L e
    match L, e with
    | a :: b :: L, e =>
      rw [List.map_cons, List.map_cons] at e
      injection e with e1 e2
      injection e2 with e2 e3
      exact ⟨b :: a :: L, .swap .., by rw [List.map_cons, List.map_cons, ← e1, ← e2, ← e3]⟩
    | [], e => cases e
    | [_], e => cases e
  | trans _ _ ih1 ih2 =>
    intro L e
    obtain ⟨M, m1, m2⟩ := ih2 L e
    obtain ⟨N, n1, n2⟩ := ih1 M m2
    exact ⟨N, n1.trans m1, n2⟩
theorem leS_anti0 {a b : Str} (h1 : leS a b = true) (h2 : leS b a = true) : a = b := by
  have h1 : (!PySem.W.dataLt (.str b) (.str a)) = true := h1
  have h2 : (!PySem.W.dataLt (.str a) (.str b)) = true := h2
  rw [Bool.not_eq_true', PySem.W.dataLt_str] at h1 h2
  exact PySem.W.str_of_cps (List.le_antisymm (List.not_lt.mp (of_decide_eq_false h1)) (List.not_lt.mp (of_decide_eq_false h2)))
theorem sorted_one : ∀ {l m : List Str}, l.Pairwise (fun a b => leS a b = true) → m.Pairwise (fun a b => leS a b = true) → l.Perm m → l = m
  | [], m, _, _, p => (List.nil_perm.mp p).symm
  | x :: l, [], _, _, p => absurd (List.perm_nil.mp p) (by simp)
  | x :: l, y :: m, hl, hm, p => by
    obtain ⟨l1, l2⟩ := List.pairwise_cons.mp hl
    obtain ⟨m1, m2⟩ := List.pairwise_cons.mp hm
    have e : x = y := by
      rcases List.mem_cons.mp (p.mem_iff.mp (List.mem_cons_self ..)) with h | h
      · exact h
      · rcases List.mem_cons.mp (p.mem_iff.mpr (List.mem_cons_self ..)) with h' | h'
        · exact h'.symm
        · exact leS_anti0 (l1 _ h') (m1 _ h)
    subst e
    rw [sorted_one l2 m2 (List.Perm.cons_inv p)]
theorem leS_tot : PySem.W.TotalLe leS := PySem.W.sortLe_total _ _ _
theorem sort_perm {l m : List Str} (p : l.Perm m) : l.mergeSort leS = m.mergeSort leS :=
  sorted_one (PySem.W.sort_pairwise leS_tot l) (PySem.W.sort_pairwise leS_tot m) (((List.mergeSort_perm l leS).trans p).trans (List.mergeSort_perm m leS).symm)
end OS
set_option Elab.async false
set_option linter.all false
set_option maxRecDepth 100000
set_option maxHeartbeats 4000000
namespace P
open PySem PySem.Spec PyProof.Rows L2 OS
/-! short ways: "rd" opens a reading as far as equations go; "sep" finds what stands apart from the state; "sq" a list that is read; "nx" two heaps -/
local macro_rules | `(tactic| walk_at "sep") => `(tactic| first | assumption | (refine (by assumption : Nx _ _ _) _ _ ?_; walk_at "sep"))
local macro_rules | `(tactic| walk_at "sq") => `(tactic| first | assumption | exact .inl (.inl (by assumption)) | exact Sep.sq (by walk_at "sep") | exact Sep.st (by walk_at "sep") | exact .inl (.inl upd_same))
local macro_rules | `(tactic| walk_at "rd") => `(tactic| repeat (first
  | refine And.intro rfl ?_
  | apply Exists.intro
  | refine And.intro (by assumption) ?_
  | refine And.intro (DrawOk.mk (by omega) (by omega) (by omega)) ?_
  | refine And.intro at0 ?_
  | refine And.intro ⟨_, rfl⟩ ?_
  | refine And.intro (by walk_at "sq") ?_
  | refine And.intro (Or.inl (by walk_at "sq")) ?_
  | refine And.intro (Or.inr (by walk_at "sq")) ?_
  | refine And.intro (by omega) ?_))
section
variable {P : Program} {w : World} {K : PySem.W.Frag} {mg : Str → Option Value} {base : Heap}
theorem seqL_ins {H H' : Hp} {f a C dx : Addr} {fs : List (Str × V)} {xs : List V} (hf : H f = some (.ins C dx fs)) (k : ∀ b o, H b = some o → b ≠ f → H' b = some o) (h : SqL K H a xs) : SqL K H' a xs := by
  rcases h with (h | ⟨o, h⟩) | h
  · exact .inl (.inl (k _ _ h (ne_of h hf fun z => by cases z)))
  · exact .inl (.inr ⟨o, k _ _ h (ne_of h hf fun z => by cases z)⟩)
  · exact .inr h
theorem RowsL.ins {H H' : Hp} {f C dx : Addr} {fs : List (Str × V)} {v : V} {rs : List (List Int)} (hf : H f = some (.ins C dx fs)) (k : ∀ b o, H b = some o → b ≠ f → H' b = some o) (h : RowsL K H v rs) : RowsL K H' v rs := by
  obtain ⟨b, xs, e, h1, h2⟩ := h
  exact ⟨b, xs, e, seqL_ins hf k h1, Paired.mapP h2 fun _ _ q => q.imp fun _ q => ⟨q.1, tupT_ins hf k q.2⟩⟩
theorem names_wrong {ks : List Str} (h : NamesOk ks) : ¬ badLen ks ∧ wrongUp ks ks.length = none := by
  refine ⟨?_, badAt_none h.nd h.ok (Nat.le_refl _)⟩
  have h1 := h.one
  have h5 := h.five
  rintro (z | z) <;> omega
theorem NamesOk.perm {ks ys : List Str} (h : NamesOk ks) (p : ys.Perm ks) : NamesOk ys :=
  ⟨by rw [p.length_eq]; exact h.one, by rw [p.length_eq]; exact h.five, p.nodup_iff.mpr h.nd, fun z hz => h.ok z (p.mem_iff.mp hz)⟩
theorem ok_small {z : Str} (h : okN z.cps.toList = true) : z.length ≤ 6 := by
  unfold okN at h
  simp only [Bool.and_eq_true, decide_eq_true_eq] at h
  rw [← str_list_len]
  exact h.1.1.2
/-- Scheme(prime, width, rows) of what is right -/
def spSch (T : Txt K mg) : Sp := fun vs H Q E => ∃ (f d dx : Addr) (p : Int) (n : Nat) (kvs : List (Key × V)) (ks : List Str) (ro : Str → List (List Int)), vs = [.ref f, .int p, .int (n : Int), .ref d] ∧ H f = some (.ins T.C_Scheme dx []) ∧ isPr (.int p) = true ∧ 1 ≤ n ∧ n ≤ 40 ∧
  H d = some (.dK kvs) ∧ DHas (fun k v => RowsL K H v (ro k)) kvs ks ∧ NamesOk ks ∧ (∀ k ∈ ks, RowsOk p n (ro k)) ∧ ∀ H', (∀ b o, H b = some o → b ≠ f → H' b = some o) → SchAt K T.C_Scheme H' f p n (srt ks) ro → Q .non H'
theorem ok_Scheme__init_ (T : Txt K mg) : FnOk P w K mg base (L2.CX P w) 5 T.f_Scheme__init_ T.fd_Scheme__init_ ["self", "prime", "width", "rows"] (spSch T) := by
  refine T.F_Scheme__init_.okX sc_Scheme__init_ (fun vs H Q E h => ?_) (fun cdv A outer s H vs Q E hr h => ?_)
  · obtain ⟨f, d, dx, p, n, kvs, ks, ro, rfl, _⟩ := h
    rfl
  · obtain ⟨f, d, dx, p, n, kvs, ks, ro, rfl, hf, hpr, hn1, hn2, hd, hh, hk, hro, q⟩ := h
    refine ⟨_, (pss_cons (ps_expr (pe_call (ok_check_prime T) (hr.mono (by decide)) (by rfl) T.g_check_prime T.F_check_prime.kp T.b_check_prime .nil (passes_call (takes_of rfl rfl rfl rfl) (fun _ _ _ _ h => h)) (pa_cons (pv 1) pa_nil)))
    (pss_cons (ps_expr (pe_call (ok_check_width T) (hr.mono (by decide)) (by rfl) T.g_check_width T.F_check_width.kp T.b_check_width .nil (passes_call (takes_of rfl rfl rfl rfl) (fun _ _ _ _ h => h)) (pa_cons (pv 2) (pa_cons (pe_lstO pa_nil) pa_nil))))
    (pss_cons (ps_set (i := 4) sc_Scheme__init_.nd rfl (Or.inl rfl) (pe_call (ok_checked_persons T) (hr.mono (by decide)) (by rfl) T.g_checked_persons T.F_checked_persons.kp T.b_checked_persons .nil (passes_call (takes_of rfl rfl rfl rfl) (fun _ _ _ _ h => h)) (pa_cons (pe_callB (id := "sorted") (r := rSortD) (cr_sortD rfl) (by rfl) T.n_sorted (by decide +kernel) (pa_cons (pv 3) pa_nil)) pa_nil)))
    (pss_stop (ps_for (passes_of rfl) rfl (pi_hold (pi_tup (pv 4))) (pg_name (i := 5) sc_Scheme__init_.nd rfl (Or.inl rfl))
      (pss_one (ps_expr (pe_call (ok_check_rows_of_person T) (hr.mono (by decide)) (by rfl) T.g_check_rows_of_person T.F_check_rows_of_person.kp T.b_check_rows_of_person .nil (passes_call (takes_of rfl rfl rfl rfl) (fun _ _ _ _ h => h)) (pa_cons (pv 1) (pa_cons (pv 2) (pa_cons (pe_dget (hu_of hr) (pv 3) (pv 5) (fun _ _ => rfl)) pa_nil)))))))
    (pss_cons (ps_fld (pv 0) (pv 1) rfl)
    (pss_cons (ps_fld (pv 0) (pv 2) rfl)
    (pss_cons (ps_fld (pv 0) (pv 4) rfl)
    (pss_one (ps_fld (pv 0) (pe_dc (own := [("name", 5)]) (g := gName 5) (tt := tYes) rfl sc_Scheme__init_.nd (pi_tup (pv 4)) (blkOk_by (own := [("name", 5)]) (N := N_Scheme__init_) (sc := defScope s_Scheme__init_) (by decide +kernel)) (fun _ _ _ _ _ => (pg_name (i := 5) sc_Scheme__init_.nd rfl (Or.inl rfl))) (fun _ _ _ _ _ => pts_nil) (fun _ _ _ _ _ => (pv 5)) (fun _ _ _ _ _ => (pe_callTy (T := "tuple") (r := rTupL K) call_tupL (by rfl) T.n_tuple (by decide +kernel) (pa_cons (pe_dget (hu_of hr) (pv 3) (pv 5) (fun _ _ => rfl)) pa_nil)))) rfl))))))))), ?_⟩
    have hpd : Dp K H (.int p) (.int p) := .int p
    walk_at "rd"
    refine ⟨.flat rfl, fun e => absurd (e.symm.trans hpr) (by simp), fun _ => ?_⟩
    walk_at "rd"
    refine ⟨by decide, fun l H1 n1 s1 hl => ?_⟩
    have hq : SqB false K H1 l [] := SqL.of hl
    have hp0 : Paired (LenV K H1) [] [] := .nil
    walk_at "rd"
    refine ⟨by decide, fun h => absurd ⟨by omega, by omega, fun _ z => nomatch z⟩ h, fun _ H2 s2 => ?_⟩
    have s02 := s1.trans s2
    have k5 := hk.five
    have hrd : Rd H2 d (.dK kvs) := .of (s02 _ _ hd)
    have hky := hh.keys
    have h64 : ks.length < 64 := by omega
    walk_at "rd"
    intro ys pm st l3 H3 n3 s3 hl3
    have hkk := hk.perm pm
    obtain ⟨nb, nw⟩ := names_wrong hkk
    have hyq : SqL K H3 l3 (ys.map V.str) ∨ SqT K H3 l3 (ys.map V.str) := .inl (SqL.of hl3)
    have hy5 := hkk.five
    have hyz : ∀ z ∈ ys, z.length ≤ 100000 := fun z hz => by
      have := ok_small (hkk.ok z hz)
      omega
    walk_at "rd"
    refine ⟨fun z H' _ hw => (by rw [nw] at hw; cases hw), fun z H' _ hw => (by rw [nw] at hw; cases hw), fun _ _ a H4 s4 ha4 => ?_⟩
    have es : ys.mergeSort leS = srt ks := sort_perm pm
    rw [es] at ha4
    have s04 := s02.trans (s3.trans s4)
    have hd4 := s04 _ _ hd
    have hh4 : DHas (fun k v => RowsL K H4 v (ro k)) kvs ks := hh.mono fun _ _ q => q.same s04
    have hws : ∀ k ∈ srt ks, k ∈ ks := fun k hk' => (srt_perm ks).mem_iff.mp hk'
    have hl8 : (srt ks).length ≤ 8 := by rw [srt_len]; omega
    have hwn := srt_nodup hk.nd
    have hn40 : n ≤ 1000 := by omega
    clear hyq hyz hrd hq hp0 hl3 hl
    generalize srt ks = ws at ha4 hws hl8 hwn q
    refine Stop.cut (fun σ H' => ∃ y, σ = [some (.ref f), some (.int p), some (.int (n : Int)), some (.ref d), some (.ref a), y] ∧ Same H4 H') (fun Qz hz => ?_) ?_
    · walk_at "rd"
      refine ⟨⟨_, ha4⟩, ⟨for_it (walk_tup (xs := ws.map V.str)) (fun i σ H' => ∃ y, σ = [some (.ref f), some (.int p), some (.int (n : Int)), some (.ref d), some (.ref a), y] ∧ Same H4 H') ⟨none, rfl, Same.refl _⟩ (fun i σ H' _ ⟨_, _, s⟩ => s.tupT ha4) ?_ ?_⟩⟩
      · rintro i x _ H5 H6 hi ⟨y, rfl, s5⟩ ⟨rfl, hx⟩
        have hi' : i < ws.length := by simpa using hi
        obtain rfl := strs_get hx (List.getElem?_eq_getElem hi')
        have hmk := hws _ (List.getElem_mem hi')
        obtain ⟨v, hv, hrv⟩ := hh4.vals _ hmk
        obtain ⟨b, xs, rfl, hb, hxs⟩ := hrv.same s5
        have hdg : DGet H6 d (.str ws[i]) (some (.ref b)) := by
          have := DGet.k (k := (Sum.inr ws[i] : Key)) (s5 _ _ hd4)
          rwa [hv] at this
        have hrok := hro _ hmk
        walk_at "rd"
        intro H7 s7
        exact ⟨_, rfl, s5.trans s7⟩
      · rintro σ H5 ⟨y, rfl, s5⟩
        exact hz _ _ ⟨y, rfl, s5⟩
    · rintro _ H5 ⟨y, rfl, s5⟩
      have s05 := s04.trans s5
      have hf5 := s05 _ _ hf
      have cl := T.cl_Scheme
      have n1 := T.na_prime
      have n2 := T.na_width
      have n3 := T.na_persons_Scheme
      have n4 := T.na_rows
      walk_at "rd"
      refine ⟨by decide, ?_⟩
      refine ⟨_, rfl, _, rfl, f, T.C_Scheme, dx, _, rfl, upd_same, T.cl_Scheme, T.na_width, Nat.lt_of_lt_of_le (lenP (show ([] : List (Str × V)).length < 1 by decide)) (by decide), ?_⟩
      refine ⟨_, rfl, _, rfl, f, T.C_Scheme, dx, _, rfl, upd_same, T.cl_Scheme, T.na_persons_Scheme, Nat.lt_of_lt_of_le (lenP (lenP (show ([] : List (Str × V)).length < 1 by decide))) (by decide), ?_⟩
      generalize hF : (upd (upd (upd H5 f (HO.ins T.C_Scheme dx (putF "_prime" (V.int p) []))) f (HO.ins T.C_Scheme dx (putF "_width" (V.int (n : Int)) (putF "_prime" (V.int p) [])))) f (HO.ins T.C_Scheme dx (putF "_persons" (V.ref a) (putF "_width" (V.int (n : Int)) (putF "_prime" (V.int p) []))))) = H6
      have kp : ∀ b o, H5 b = some o → b ≠ f → H6 b = some o := fun b o e h => by
        rw [← hF, upd_ne h, upd_ne h, upd_ne h]
        exact e
      have hf6 : H6 f = some (HO.ins T.C_Scheme dx (putF "_persons" (V.ref a) (putF "_width" (V.int (n : Int)) (putF "_prime" (V.int p) [])))) := by
        rw [← hF]
        exact upd_same
      clear hF
      have ha6 := tupT_ins hf5 kp (s5.tupT ha4)
      have hd6 : H6 d = some (.dK kvs) := kp _ _ (s5 _ _ hd4) (ne_of (s5 _ _ hd4) hf5 fun z => by cases z)
      have hh6 : DHas (fun k v => RowsL K H6 v (ro k)) kvs ks := (hh4.mono fun _ _ q => q.same s5).mono fun _ _ q => q.ins hf5 kp
      walk_at "rd"
      refine ⟨⟨_, ha6⟩, fun D hD => ?_⟩
      refine dc_names (walk_tup (xs := ws.map V.str)) (ks := ws) (by simp) (by simp; omega) hwn (fun H k v => RowsT K H v (ro k)) hD (fun H H' k v kvs' _ hDk kp h => h.but hDk no_dict kp) (fun H s => s.tupT ha6) ?_ ?_
      · intro i k x H7 H8 Qk hki sm hy hk'
        obtain ⟨rfl, hx⟩ := hy
        obtain rfl := strs_get hx hki
        obtain ⟨v, hv, hrv⟩ := hh6.vals _ (hws _ (List.mem_of_getElem? hki))
        obtain ⟨b, xs, rfl, hb, hxs⟩ := hrv.same sm
        have hdg : DGet H8 d (.str k) (some (.ref b)) := by
          have := DGet.k (k := (Sum.inr k : Key)) (sm _ _ hd6)
          rwa [hv] at this
        walk_at "rd"
        intro t H9 n9 s9 ht9
        exact hk' _ _ ⟨t, xs, rfl, SqT.of ht9, hxs.same s9⟩ s9
      · intro H7 kvs2 s7 hD7 hh7
        have hf7 := s7 _ _ hf6
        refine ⟨_, rfl, f, T.C_Scheme, dx, _, rfl, hf7, T.cl_Scheme, T.na_rows, Nat.lt_of_lt_of_le (lenP (lenP (lenP (show ([] : List (Str × V)).length < 1 by decide)))) (by decide), ?_⟩
        have kp8 : ∀ b o, H7 b = some o → b ≠ f → (upd H7 f (HO.ins T.C_Scheme dx (schF p n a D))) b = some o := fun b o e h => by
          rw [upd_ne h]
          exact e
        have hfD : D ≠ f := ne_of hD7 hf7 fun z => by cases z
        refine q _ (fun b o e h => kp8 b o (s7 _ _ (kp b o (s05 b o e) h)) h) ⟨dx, a, D, kvs2, upd_same, tupT_ins hf7 kp8 (s7.tupT ha6), kp8 _ _ hD7 hfD, hh7.mono fun _ _ z => z.but hf7 no_ins kp8⟩
end
end P
set_option Elab.async false
set_option linter.all false
set_option maxRecDepth 100000
set_option maxHeartbeats 4000000
namespace P
open PySem PySem.Spec PyProof.Rows L2 OS
/-! short ways: "rd" opens a reading as far as equations go; "sep" finds what stands apart from the state; "sq" a list that is read; "nx" two heaps -/
local macro_rules | `(tactic| walk_at "sep") => `(tactic| first | assumption | (refine (by assumption : Nx _ _ _) _ _ ?_; walk_at "sep"))
local macro_rules | `(tactic| walk_at "sq") => `(tactic| first | assumption | exact .inl (.inl (by assumption)) | exact Sep.sq (by walk_at "sep") | exact Sep.st (by walk_at "sep") | exact .inl (.inl upd_same))
local macro_rules | `(tactic| walk_at "rd") => `(tactic| repeat (first
  | refine And.intro rfl ?_
  | apply Exists.intro
  | refine And.intro (by assumption) ?_
  | refine And.intro (DrawOk.mk (by omega) (by omega) (by omega)) ?_
  | refine And.intro at0 ?_
  | refine And.intro ⟨_, rfl⟩ ?_
  | refine And.intro (by walk_at "sq") ?_
  | refine And.intro (Or.inl (by walk_at "sq")) ?_
  | refine And.intro (Or.inr (by walk_at "sq")) ?_
  | refine And.intro (by omega) ?_))
section
variable {P : Program} {w : World} {K : PySem.W.Frag} {mg : Str → Option Value} {base : Heap}
/-- scheme.rows(name) -/
def spSRows (T : Txt K mg) : Sp := fun vs H Q E => ∃ (f : Addr) (p : Int) (n : Nat) (ws : List Str) (ro : Str → List (List Int)) (z : Str), vs = [.ref f, .str z] ∧ SchAt K T.C_Scheme H f p n ws ro ∧ (z ∉ ws → ∀ H', Same H H' → Flies E T.C_UnknownName "name" (.str z) H') ∧
  (z ∈ ws → ∀ q H' xs, H q = none → Same H H' → H' q = some (.lst xs) → RowsV K H' xs (ro z) → Q (.ref q) H')
theorem ok_Scheme_rows (T : Txt K mg) : FnOk P w K mg base (L2.CX P w) 3 T.f_Scheme_rows T.fd_Scheme_rows ["self", "name"] (spSRows T) := by
  refine T.F_Scheme_rows.okX sc_Scheme_rows (fun vs H Q E h => ?_) (fun cdv A outer s H vs Q E hr h => ?_)
  · obtain ⟨f, p, n, ws, ro, z, rfl, _⟩ := h
    rfl
  · obtain ⟨f, p, n, ws, ro, z, rfl, hs, qb, q⟩ := h
    refine ⟨_, (pss_cons (ps_if (pt_cmpR (r := rIn K true) op_notIn_seq (pv 1) (pe_fld (pv 0) rfl) (by rfl))
      (pss_one (ps_raise rfl (takes_of rfl rfl rfl rfl) (pmk_err T.er_UnknownName T.iC_UnknownName T.tI_UnknownName (ok_UnknownName__init_ T) (hr.mono (by decide)) T.b_UnknownName__init_ (by rfl) T.g_UnknownName (pv 1)))) pss_nil)
    (pss_one (ps_ret (pe_callTy (T := "list") (r := rListS K) call_listS (by rfl) T.n_list (by decide +kernel) (pa_cons (pe_dget (hu_of hr) (pe_fld (pv 0) rfl) (pv 1) (fun _ _ => rfl)) pa_nil))))), ?_⟩
    obtain ⟨dx, a, d, kvs, hf, ha, hd, hh⟩ := hs
    have cl := T.cl_Scheme
    have n3 := T.na_persons_Scheme
    have n4 := T.na_rows
    have l3 := sch_persons p n a d
    have l4 := sch_rows p n a d
    walk_at "rd"
    refine ⟨strs_flat ws, ?_⟩
    rw [inV_strs]
    walk_at "rd"
    refine ite2 (fun e => ?_) (fun e => ?_)
    · have hz : z ∉ ws := fun h => by
        rw [decide_eq_true h] at e
        cases e
      walk_at "rd"
      exact qb hz H (Same.refl H)
    · have hz : z ∈ ws := Classical.byContradiction fun h => e (by rw [decide_eq_false h]; rfl)
      obtain ⟨v, hv, b, xs, rfl, hb, hxs⟩ := hh.vals _ hz
      have hdg : DGet H d (.str z) (some (.ref b)) := by
        have := DGet.k (k := (Sum.inr z : Key)) hd
        rwa [hv] at this
      walk_at "rd"
      intro l H1 n1 s1 hl
      exact q hz l H1 xs n1 s1 hl (hxs.same s1)
end
end P
set_option Elab.async false
set_option linter.all false
set_option maxRecDepth 100000
set_option maxHeartbeats 4000000
namespace P
open PySem PySem.Spec PyProof.Rows L2 OS
/-! short ways: "rd" opens a reading as far as equations go; "sep" finds what stands apart from the state; "sq" a list that is read; "nx" two heaps -/
local macro_rules | `(tactic| walk_at "sep") => `(tactic| first | assumption | (refine (by assumption : Nx _ _ _) _ _ ?_; walk_at "sep"))
local macro_rules | `(tactic| walk_at "sq") => `(tactic| first | assumption | exact .inl (.inl (by assumption)) | exact Sep.sq (by walk_at "sep") | exact Sep.st (by walk_at "sep") | exact .inl (.inl upd_same))
local macro_rules | `(tactic| walk_at "rd") => `(tactic| repeat (first
  | refine And.intro rfl ?_
  | apply Exists.intro
  | refine And.intro (by assumption) ?_
  | refine And.intro (DrawOk.mk (by omega) (by omega) (by omega)) ?_
  | refine And.intro at0 ?_
  | refine And.intro ⟨_, rfl⟩ ?_
  | refine And.intro (by walk_at "sq") ?_
  | refine And.intro (Or.inl (by walk_at "sq")) ?_
  | refine And.intro (Or.inr (by walk_at "sq")) ?_
  | refine And.intro (by omega) ?_))
section
variable {P : Program} {w : World} {K : PySem.W.Frag} {mg : Str → Option Value} {base : Heap}
/-- less(prime, row, factor, other) -/
def spLess (K : PySem.W.Frag) : Sp := fun vs H Q _ => ∃ (p f : Int) (a b : Addr) (kk : Bool) (n : Nat) (ns ms : List Int), vs = [.int p, .ref a, .int f, .ref b] ∧ 0 < p ∧ (-(2 ^ 64) < f ∧ f < 2 ^ 64) ∧ SqB kk K H a (ns.map V.int) ∧ SqL K H b (ms.map V.int) ∧ ns.length = n ∧ ms.length = n ∧ n ≤ 1000 ∧
  ∀ q kk' H', Same H H' → SqB kk' K H' q ((LA.lessL p ns f ms).map V.int) → ((q = a ∧ H' = H ∧ LA.lessL p ns f ms = ns) ∨ (H q = none ∧ H' q = some (.lst ((LA.lessL p ns f ms).map V.int)))) → Q (.ref q) H'
theorem ok_less (T : Txt K mg) : FnOk P w K mg base CX0 1 T.f_less T.fd_less ["prime", "row", "factor", "other"] (spLess K) := by
  refine T.F_less.ok sc_less (fun vs H Q E h => ?_) (fun cdv A outer s H vs Q E hr h => ?_)
  · obtain ⟨p, f, a, b, kk, n, ns, ms, rfl, _⟩ := h
    rfl
  · obtain ⟨p, f, a, b, kk, n, ns, ms, rfl, hp, hf, ha, hb, hln, hlm, hn, q⟩ := h
    refine ⟨_, (pss_cons (ps_if (pt_cmpR op_eq (pv 2) pe_int (nomark _))
      (pss_one (ps_ret (pv 1))) pss_nil)
    (pss_one (ps_ret (pe_lc (own := [("number", 4), ("taken", 5)]) (g := gTup K 2 (gCons (gName 4) (gCons (gName 5) gNil))) (tt := tYes) rfl sc_less.nd (pi_zipM (by rfl) T.n_zip (pa_cons (pv 1) (pa_cons (pv 3) pa_nil))) (blkOk_by (own := [("number", 4), ("taken", 5)]) (N := N_less) (sc := defScope s_less) (by decide +kernel)) (fun _ _ _ _ _ => (pg_tup rfl (pgs_cons (pg_name (i := 4) sc_less.nd rfl (Or.inl rfl)) (pgs_cons (pg_name (i := 5) sc_less.nd rfl (Or.inl rfl)) pgs_nil)))) (fun _ _ _ _ _ => pts_nil) (fun _ _ _ _ _ => (pe_op op_mod (pe_op op_sub (pv 4) (pe_op op_mul (pv 2) (pv 5))) (pv 0))))))), ?_⟩
    walk_at "rd"
    refine ite2 (fun e => ?_) (fun e => ?_)
    · have ef : f = 0 := by simpa using e
      walk_at "rd"
      have el : LA.lessL p ns f ms = ns := by
        unfold LA.lessL
        rw [if_pos ef]
      exact q a kk H (Same.refl H) (by rw [el]; exact ha) (.inl ⟨rfl, rfl, el⟩)
    · have ef : f ≠ 0 := by simpa using e
      have hb' : SqB false K H b (ms.map V.int) := hb
      walk_at "rd"
      refine fun D hD => ?_
      have hlz : (ns.zip ms).length = min (ns.map V.int).length (ms.map V.int).length := by simp
      refine lc_all (walk_zipM (c1 := kk) (c2 := false) (xs := ns.map V.int) (ys := ms.map V.int) rfl) (xs := ns.zip ms) hlz (by rw [List.length_map, hln]; omega) (fun z => V.int ((z.1 - f * z.2) % p)) hD (fun H s => ⟨ha.same s, hb'.same s⟩) ?_ ?_
      · intro i z v H3 H4 Qk hz sm hy hk
        obtain ⟨t, x, y, rfl, nt, rfl, hx, hy'⟩ := hy
        obtain ⟨z1, z2⟩ := z
        obtain ⟨hz1, hz2⟩ := List.getElem?_zip_eq_some.mp hz
        replace hx : (ns.map V.int)[i]? = some x := hx
        replace hy' : (ms.map V.int)[i]? = some y := hy'
        rw [List.getElem?_map, hz1] at hx
        rw [List.getElem?_map, hz2] at hy'
        obtain rfl := Option.some.inj hx
        obtain rfl := Option.some.inj hy'
        have ht : SqT K (upd H3 t (.tup [V.int z1, V.int z2])) t [V.int z1, V.int z2] := SqT.of upd_same
        refine ⟨t, _, rfl, ht, rfl, ?_⟩
        walk_at "rd"
        exact hk _ (same_new nt)
      · intro H3 s3 hD3
        have hDl : H3 D = some (.lst ((LA.lessL p ns f ms).map V.int)) := by
          unfold LA.lessL
          rw [if_neg ef, hD3, List.zip, List.map_zipWith, List.map_zipWith]
        exact q D false H3 s3 (SqL.of hDl) (.inr ⟨hD, hDl⟩)
/-- inverse(prime, number) -/
def spInverse (K : PySem.W.Frag) : Sp := fun vs H Q _ => ∃ (p a : Int), vs = [.int p, .int a] ∧ (p = 2 ∨ p = 3 ∨ p = 5 ∨ p = 7 ∨ p = 11) ∧ 0 < a ∧ a < p ∧ ∀ H', Same H H' → Q (.int (LA.inv p a)) H'
theorem ok_inverse (T : Txt K mg) : FnOk P w K mg base CX0 1 T.f_inverse T.fd_inverse ["prime", "number"] (spInverse K) := by
  refine T.F_inverse.ok sc_inverse (fun vs H Q E h => ?_) (fun cdv A outer s H vs Q E hr h => ?_)
  · obtain ⟨p, a, rfl, _⟩ := h
    rfl
  · obtain ⟨p, a, rfl, hp, h0, h1, q⟩ := h
    refine ⟨_, (pss_one (ps_ret (pe_ix (r := rIxL K) ix_list (pe_lc (own := [("other", 2)]) (g := gName 2) rfl sc_inverse.nd (pi_range1 rfl T.n_range (pa_cons (pv 0) pa_nil)) (blkOk_by (own := [("other", 2)]) (N := N_inverse) (sc := defScope s_inverse) (by decide +kernel)) (fun _ _ _ _ _ => (pg_name (i := 2) sc_inverse.nd rfl (Or.inl rfl))) (fun _ _ _ _ _ => (pts_one (pt_cmpR op_eq (pe_op op_mod (pe_op op_mul (pv 1) (pv 2)) (pv 0)) pe_int (nomark _)))) (fun _ _ _ _ _ => (pv 2))) pe_int (fun _ _ => rfl)))), ?_⟩
    have hP := LA.prm_of hp
    have p0 : 0 < p := by omega
    have p11 : p ≤ 11 := by omega
    have ba : -(2 ^ 64) < a ∧ a < 2 ^ 64 := ⟨by omega, by omega⟩
    walk_at "rd"
    refine fun D hD => ?_
    have hlr : ((List.range p.toNat).map fun k : Nat => (k : Int)).length = p.toNat := by simp
    refine lc_fn walk_range (xs := (List.range p.toNat).map fun k : Nat => (k : Int)) hlr (by omega) (fun o : Int => decide (a * o % p = 1)) V.int hD (fun _ _ => trivial) ?_ ?_
    · intro i z x H1 H2 Qk Qn hz sm hy hk hn
      obtain ⟨rfl, rfl⟩ := hy
      obtain ⟨hi, rfl⟩ := List.getElem?_eq_some_iff.mp hz
      rw [List.getElem_map, List.getElem_range] at hk hn
      walk_at "rd"
      refine ite2 (fun e => ?_) (fun e => ?_)
      · walk_at "rd"
        have := hk (by simpa using e) _ (Same.refl _)
        simpa using this
      · exact hn (by simpa using e) _ (Same.refl _)
    · intro H1 sm hD1
      have hne : (LA.invs p a)[0]? = some (LA.inv p a) := by
        have h := hP.inv a h0 h1
        unfold LA.inv at h ⊢
        cases e : LA.invs p a with
        | nil =>
          rw [e] at h
          simp at h
        | cons x r => rfl
      have hDq : SqL K H1 D ((LA.invs p a).map V.int) := SqL.of hD1
      have hat : atI ((LA.invs p a).map V.int) 0 = some (.int (LA.inv p a)) := atI_nat (j := 0) (by rw [List.getElem?_map, hne]; rfl)
      walk_at "rd"
      exact q H1 sm
/-- a lead and its equation -/
def LeadV (K : PySem.W.Frag) (H : Hp) (v : V) (q : LA.Lead) : Prop := ∃ t b, v = .ref t ∧ SqT K H t [.int (q.1 : Int), .ref b] ∧ H b = some (.lst (q.2.map V.int))
theorem LeadV.same {H H' : Hp} {v : V} {q : LA.Lead} (h : LeadV K H v q) (s : Same H H') : LeadV K H' v q := by
  obtain ⟨t, b, e, h1, h2⟩ := h
  exact ⟨t, b, e, s.tupT h1, s _ _ h2⟩
/-- is_unsolvable(found, many) -/
def spUnsolv (K : PySem.W.Frag) : Sp := fun vs H Q _ => ∃ (a : Addr) (xs : List V) (found : List LA.Lead) (m : Nat), vs = [.ref a, .int (m : Int)] ∧ SqL K H a xs ∧ Paired (LeadV K H) xs found ∧ found.length ≤ 1000 ∧ ∀ H', Same H H' → Q (.bl (found.any fun q => decide (q.1 = m))) H'
theorem ok_is_unsolvable (T : Txt K mg) : FnOk P w K mg base CX0 1 T.f_is_unsolvable T.fd_is_unsolvable ["found", "many"] (spUnsolv K) := by
  refine T.F_is_unsolvable.ok sc_is_unsolvable (fun vs H Q E h => ?_) (fun cdv A outer s H vs Q E hr h => ?_)
  · obtain ⟨a, xs, found, m, rfl, _⟩ := h
    rfl
  · obtain ⟨a, xs, found, m, rfl, ha, hx, hl, q⟩ := h
    refine ⟨_, (pss_one (ps_ret (pe_callB (id := "any") (r := rAny K) (cr_any rfl) (by rfl) T.n_any (by decide +kernel) (pa_cons (pe_lc (own := [("lead", 2), ("equation", 3)]) (g := gTup K 2 (gCons (gName 2) (gCons (gName 3) gNil))) (tt := tYes) rfl sc_is_unsolvable.nd (pi_list (pv 0)) (blkOk_by (own := [("lead", 2), ("equation", 3)]) (N := N_is_unsolvable) (sc := defScope s_is_unsolvable) (by decide +kernel)) (fun _ _ _ _ _ => (pg_tup rfl (pgs_cons (pg_name (i := 2) sc_is_unsolvable.nd rfl (Or.inl rfl)) (pgs_cons (pg_name (i := 3) sc_is_unsolvable.nd rfl (Or.inl rfl)) pgs_nil)))) (fun _ _ _ _ _ => pts_nil) (fun _ _ _ _ _ => (pe_cmpR op_eq (pv 2) (pv 1) (nomark _)))) pa_nil)))), ?_⟩
    have hxl := paired_len hx
    walk_at "rd"
    refine ⟨⟨_, ha⟩, fun D hD => ?_⟩
    refine lc_all (walk_list (xs := xs)) (xs := found) hxl.symm (by omega) (fun q => V.bl (decide (q.1 = m))) hD (fun H1 s => s.seq ha) ?_ ?_
    · intro i o x H1 H2 Qk ho sm hy hk
      obtain ⟨rfl, hx'⟩ := hy
      obtain ⟨o', h1, h2⟩ := OS.paired_get hx hx'
      obtain rfl : o' = o := Option.some.inj (h1.symm.trans ho)
      obtain ⟨t, b, rfl, ht, hb⟩ := h2.same sm
      refine ⟨t, _, rfl, ht, rfl, ?_⟩
      walk_at "rd"
      have := hk _ (Same.refl _)
      rw [show (decide (V.int (o'.1 : Int) = V.int (m : Int))) = decide (o'.1 = m) by
        rw [Bool.eq_iff_iff, decide_eq_true_iff, decide_eq_true_iff]
        constructor
        · intro z
          injection z with z
          omega
        · rintro rfl
          rfl]
      exact this
    · intro H1 sm hD1
      have hDq : SqL K H1 D ((found.map fun q => decide (q.1 = m)).map V.bl) := SqL.of (by rw [List.map_map]; exact hD1)
      walk_at "rd"
      rw [List.any_map]
      exact q H1 sm
end
end P
set_option Elab.async false
set_option linter.all false
set_option maxRecDepth 100000
set_option maxHeartbeats 4000000
namespace OS
open PySem PySem.Spec PyProof.Rows L2
/-- as lc_rel; the list that grows is known at each turn -/
theorem lc_relD {α : Type} {J : It} {n : Nat} {G : Hp → Prop} {Y : Nat → Hp → V → Hp → Prop} (w : Walk J n G Y) {xs : List α} (hn : xs.length = n) (hz : n ≤ 100000) (t : α → Bool) (R : Hp → α → V → Prop) {g : TG} {tt : TT} {te : TE} {vs : List Nat} {σ : L2.St} {H1 : Hp} {D : Addr} {Qd : Hp → Prop}
    (hD : H1 D = none) (hR : ∀ H H' a v acc, Same H1 H → H D = some (.lst acc) → (∀ b o, H b = some o → b ≠ D → H' b = some o) → R H a v → R H' a v) (hG : ∀ H, Same H1 H → G H)
    (hs : ∀ i a x H H' (Qk : V → Hp → Prop) (Qn : Hp → Prop), xs[i]? = some a → Same H1 H → (∃ acc, H D = some (.lst acc)) → Y i H x H' → (t a = true → ∀ y H4, R H4 a y → Same H H4 → Qk y H4) → (t a = false → ∀ H4, Same H H4 → Qn H4) →
      g x (wipe σ vs) H' fun σ2 H2 => wipe σ2 vs = wipe σ vs ∧ tt σ2 H2 fun b H3 => if b = true then te σ2 H3 Qk else Qn H3)
    (hd : ∀ H acc, Same H1 H → H D = some (.lst acc) → Paired (R H) (xs.filter t) acc → Qd H) :
    ∃ W : Nat → Nat → Hp → Prop, (∃ m, W 0 m (upd H1 D (.lst []))) ∧ ∀ i m H, W i m H →
      (J.stop i H ∧ Qd H) ∨ (J.go i H ∧ ∃ Nx : Hp → Prop, (∀ H', Nx H' → ∃ m', m' < m ∧ W (i + 1) m' H') ∧ ∀ x H', J.yld i H x H' → g x (wipe σ vs) H' fun σ2 H2 => wipe σ2 vs = wipe σ vs ∧ tt σ2 H2 fun b H3 =>
        if b = true then te σ2 H3 fun y H4 => ∃ acc, H4 D = some (.lst acc) ∧ acc.length < sizeLine ∧ Nx (upd H4 D (.lst (acc ++ [y]))) else Nx H3) := by
  refine lc_it w (fun i H => Same H1 H ∧ ∃ acc, H D = some (.lst acc) ∧ acc.length ≤ i ∧ Paired (R H) ((xs.take i).filter t) acc) ⟨same_new hD, [], upd_same, Nat.le_refl _, .nil⟩ (fun i H _ h => hG H h.1) ?_ ?_
  · intro i x H H' hi ⟨sm, acc, hacc, hl, pr⟩ hy
    have hx : xs[i]? = some xs[i] := List.getElem?_eq_getElem (by omega)
    have ht := take_snoc hx
    refine hs i xs[i] x H H' _ _ hx sm ⟨acc, hacc⟩ hy (fun e y H4 hr s4 => ?_) (fun e H4 s4 => ?_)
    · have h4 := s4 _ _ hacc
      refine ⟨acc, h4, Nat.lt_of_le_of_lt hl (small1e5 (by omega)), same_put (sm.trans s4) hD, acc ++ [y], upd_same, by simp; omega, ?_⟩
      rw [ht, List.filter_append, show [xs[i]].filter t = [xs[i]] by simp [e]]
      have kp : ∀ b o, H4 b = some o → b ≠ D → (upd H4 D (.lst (acc ++ [y]))) b = some o := fun b o q z => by rw [upd_ne z]; exact q
      exact paired_snoc (L2.Paired.mapP pr fun a v q => hR _ _ a v acc (sm.trans s4) h4 kp (hR _ _ a v acc sm hacc (fun b o q _ => s4 b o q) q)) (hR _ _ _ _ acc (sm.trans s4) h4 kp hr)
    · refine ⟨sm.trans s4, acc, s4 _ _ hacc, by omega, ?_⟩
      rw [ht, List.filter_append, show [xs[i]].filter t = [] by simp [e], List.append_nil]
      exact L2.Paired.mapP pr fun a v q => hR _ _ a v acc sm hacc (fun b o q _ => s4 b o q) q
  · intro H ⟨sm, acc, hacc, hl, pr⟩
    rw [List.take_of_length_le (by omega)] at pr
    exact hd H acc sm hacc pr
end OS
set_option Elab.async false
set_option linter.all false
set_option maxRecDepth 100000
set_option maxHeartbeats 4000000
namespace P
open PySem PySem.Spec PyProof.Rows L2 OS
/-! short ways: "rd" opens a reading as far as equations go; "sep" finds what stands apart from the state; "sq" a list that is read; "nx" two heaps -/
local macro_rules | `(tactic| walk_at "sep") => `(tactic| first | assumption | (refine (by assumption : Nx _ _ _) _ _ ?_; walk_at "sep"))
local macro_rules | `(tactic| walk_at "sq") => `(tactic| first | assumption | exact .inl (.inl (by assumption)) | exact Sep.sq (by walk_at "sep") | exact Sep.st (by walk_at "sep") | exact .inl (.inl upd_same))
local macro_rules | `(tactic| walk_at "rd") => `(tactic| repeat (first
  | refine And.intro rfl ?_
  | apply Exists.intro
  | refine And.intro (by assumption) ?_
  | refine And.intro (DrawOk.mk (by omega) (by omega) (by omega)) ?_
  | refine And.intro at0 ?_
  | refine And.intro ⟨_, rfl⟩ ?_
  | refine And.intro (by walk_at "sq") ?_
  | refine And.intro (Or.inl (by walk_at "sq")) ?_
  | refine And.intro (Or.inr (by walk_at "sq")) ?_
  | refine And.intro (by omega) ?_))
section
variable {P : Program} {w : World} {K : PySem.W.Frag} {mg : Str → Option Value} {base : Heap}
/-- a row of numbers, a list or a tuple -/
def RowB (K : PySem.W.Frag) (H : Hp) (v : V) (ns : List Int) : Prop := ∃ (kk : Bool) (b : Addr), v = .ref b ∧ SqB kk K H b (ns.map V.int)
theorem RowB.same {H H' : Hp} {v : V} {ns : List Int} (h : RowB K H v ns) (s : Same H H') : RowB K H' v ns := by
  obtain ⟨kk, b, e, h⟩ := h
  exact ⟨kk, b, e, h.same s⟩
theorem RowV.toB {H : Hp} {v : V} {ns : List Int} (h : RowV K H v ns) : RowB K H v ns := by
  obtain ⟨b, e, h⟩ := h
  exact ⟨true, b, e, h⟩
theorem LeadV.put {H : Hp} {D : Addr} {acc : List V} {u : HO} {v : V} {q : LA.Lead} (hD : H D = some (.lst acc)) (hn : ∀ t b, v = .ref t → SqT K H t [.int (q.1 : Int), .ref b] → H b = some (.lst (q.2.map V.int)) → b ≠ D) (h : LeadV K H v q) : LeadV K (upd H D u) v q := by
  obtain ⟨t, b, e, h1, h2⟩ := h
  exact ⟨t, b, e, tupT_but hD (fun c o q z => by rw [upd_ne z]; exact q) h1, by rw [upd_ne (hn t b e h1 h2)]; exact h2⟩
theorem red_len (p : Int) (rows : List (List Int)) : (LA.redL p rows).length ≤ rows.length := by
  have step : ∀ found r, (LA.stepL p found r).length ≤ found.length + 1 := fun found r => by
    unfold LA.stepL
    simp only
    split
    · omega
    · simp
  have : ∀ (todo : List (List Int)) (found : List LA.Lead), (todo.foldl (LA.stepL p) found).length ≤ found.length + todo.length := by
    intro todo
    induction todo with
    | nil => exact fun found => Nat.le_refl _
    | cons r todo ih =>
      intro found
      have h1 := ih (LA.stepL p found r)
      have h2 := step found r
      simp only [List.foldl_cons, List.length_cons]
      omega
  have := this rows []
  simpa [LA.redL] using this
theorem sweep_app (p : Int) : ∀ (a b : List LA.Lead) (l : List Int), LA.sweep p l (a ++ b) = LA.sweep p (LA.sweep p l a) b
  | [], _, _ => rfl
  | q :: a, b, l => sweep_app p a b _
/-- reduced(prime, rows) -/
def spReduced (K : PySem.W.Frag) : Sp := fun vs H Q _ => ∃ (p : Int) (a : Addr) (kk : Bool) (n : Nat) (xs : List V) (rows : List (List Int)), vs = [.int p, .ref a] ∧ (p = 2 ∨ p = 3 ∨ p = 5 ∨ p = 7 ∨ p = 11) ∧ SqB kk K H a xs ∧ Paired (RowB K H) xs rows ∧ (∀ r ∈ rows, LA.Row p n r) ∧ n ≤ 1000 ∧ rows.length ≤ 500 ∧
  ∀ q xs' H', Same H H' → H' q = some (.lst xs') → Paired (LeadV K H') xs' (LA.redL p rows) → Q (.ref q) H'
theorem ok_reduced (T : Txt K mg) : FnOk P w K mg base CX0 2 T.f_reduced T.fd_reduced ["prime", "rows"] (spReduced K) := by
  refine T.F_reduced.ok sc_reduced (fun vs H Q E h => ?_) (fun cdv A outer s H vs Q E hr h => ?_)
  · obtain ⟨p, a, kk, n, xs, rows, rfl, _⟩ := h
    rfl
  · obtain ⟨p, a, kk, n, xs, rows, rfl, hp, ha, hx, hrow, hn, hrl, q⟩ := h
    refine ⟨_, (pss_cons (ps_set (i := 2) sc_reduced.nd rfl (Or.inl rfl) (pe_lstO pa_nil))
    (pss_stop (ps_for PassesOwn.never rfl (pi_hold (pi_seqB (pv 1))) (pg_name (i := 3) sc_reduced.nd rfl (Or.inl rfl))
      (pss_cons (ps_set (i := 4) sc_reduced.nd rfl (Or.inl rfl) (pv 3))
    (pss_stop (ps_for PassesOwn.never rfl (pi_hold (pi_list (pv 2))) (pg_tup rfl (pgs_cons (pg_name (i := 5) sc_reduced.nd rfl (Or.inl rfl)) (pgs_cons (pg_name (i := 6) sc_reduced.nd rfl (Or.inl rfl)) pgs_nil)))
      (pss_one (ps_set (i := 4) sc_reduced.nd rfl (Or.inl rfl) (pe_call (ok_less T) (hr.mono (by decide)) (by rfl) T.g_less T.F_less.kp T.b_less .nil pass0 (pa_cons (pv 0) (pa_cons (pv 4) (pa_cons (pe_ix (r := rIxB K) ix_seqB (pv 4) (pv 5) (fun _ _ => rfl)) (pa_cons (pv 6) pa_nil))))))))
    (pss_cons (ps_setLc (i := 7) (own := [("at", 8), ("number", 9)]) (g := gTup K 2 (gCons (gName 8) (gCons (gName 9) gNil))) rfl sc_reduced.nd rfl rfl (sw_true rfl rfl rfl (by decide +kernel)) (pi_enumB (by rfl) T.n_enumerate (pa_cons (pv 4) pa_nil)) (blkOk_by (own := [("at", 8), ("number", 9)]) (N := N_reduced) (sc := defScope s_reduced) (by decide +kernel)) (fun _ _ _ _ _ => (pg_tup rfl (pgs_cons (pg_name (i := 8) sc_reduced.nd rfl (Or.inl rfl)) (pgs_cons (pg_name (i := 9) sc_reduced.nd rfl (Or.inl rfl)) pgs_nil)))) (fun _ _ _ _ _ => (pts_one (pt_cmpR op_ne (pv 9) pe_int (nomark _)))) (fun _ _ _ _ _ => (pv 8)))
    (pss_one (ps_if (pt_truth (pv 7) (fun _ => rfl))
      (pss_cons (ps_set (i := 10) sc_reduced.nd rfl (Or.inr rfl) (pe_ix (r := rIxL K) ix_list (pv 7) pe_int (fun _ _ => rfl)))
    (pss_cons (ps_set (i := 11) sc_reduced.nd rfl (Or.inr rfl) (pe_call (ok_inverse T) (hr.mono (by decide)) (by rfl) T.g_inverse T.F_inverse.kp T.b_inverse .nil pass0 (pa_cons (pv 0) (pa_cons (pe_ix (r := rIxB K) ix_seqB (pv 4) (pv 10) (fun _ _ => rfl)) pa_nil))))
    (pss_cons (ps_set (i := 12) sc_reduced.nd rfl (Or.inr rfl) (pe_lc (own := [("number", 9)]) (g := gName 9) (tt := tYes) rfl sc_reduced.nd (pi_seqB (pv 4)) (blkOk_by (own := [("number", 9)]) (N := N_reduced) (sc := defScope s_reduced) (by decide +kernel)) (fun _ _ _ _ _ => (pg_name (i := 9) sc_reduced.nd rfl (Or.inl rfl))) (fun _ _ _ _ _ => pts_nil) (fun _ _ _ _ _ => (pe_op op_mod (pe_op op_mul (pv 9) (pv 11)) (pv 0)))))
    (pss_cons (ps_setLc (i := 2) (own := [("lead", 5), ("known", 6)]) (g := gTup K 2 (gCons (gName 5) (gCons (gName 6) gNil))) (tt := tYes) rfl sc_reduced.nd rfl rfl (sw_true rfl rfl rfl (by decide +kernel)) (pi_list (pv 2)) (blkOk_by (own := [("lead", 5), ("known", 6)]) (N := N_reduced) (sc := defScope s_reduced) (by decide +kernel)) (fun _ _ _ _ _ => (pg_tup rfl (pgs_cons (pg_name (i := 5) sc_reduced.nd rfl (Or.inl rfl)) (pgs_cons (pg_name (i := 6) sc_reduced.nd rfl (Or.inl rfl)) pgs_nil)))) (fun _ _ _ _ _ => pts_nil) (fun _ _ _ _ _ => (pe_tupO (pa_cons (pv 5) (pa_cons (pe_call (ok_less T) (hr.mono (by decide)) (by rfl) T.g_less T.F_less.kp T.b_less .nil pass0 (pa_cons (pv 0) (pa_cons (pv 6) (pa_cons (pe_ix (r := rIxL K) ix_list (pv 6) (pv 10) (fun _ _ => rfl)) (pa_cons (pv 12) pa_nil))))) pa_nil)))))
    (pss_one (ps_expr (pe_bm PySem.F.plainAttrs_list PySem.F.slot_list_append PySem.F.type_list_append mt_append (pv 2) (pa_cons (pe_tupO (pa_cons (pv 10) (pa_cons (pv 12) pa_nil))) pa_nil)))))))) pss_nil))))))
    (pss_one (ps_ret (pv 2))))), ?_⟩
    have hP := LA.prm_of hp
    have p0 : 0 < p := by omega
    have p11 : p ≤ 11 := by omega
    have hxl := paired_len hx
    refine ⟨by decide, fun f0 H0 nf0 sf0 hf0 => ?_⟩
    refine Stop.cut (fun σ H' => ∃ (y3 y4 y5 y6 y7 y10 y11 y12 : Option V) (fd : Addr) (zs : List V), σ = [some (.int p), some (.ref a), some (.ref fd), y3, y4, y5, y6, y7, none, none, y10, y11, y12] ∧ Same H H' ∧ H' fd = some (.lst zs) ∧ Paired (LeadV K H') zs (LA.redL p rows)) (fun Qz hz => ?_) ?_
    · have ha0 := ha.same sf0
      walk_at "rd"
      refine ⟨for_it (walk_seq (xs := xs)) (fun i σ H' => ∃ (y3 y4 y5 y6 y7 y10 y11 y12 : Option V) (fd : Addr) (zs : List V), σ = [some (.int p), some (.ref a), some (.ref fd), y3, y4, y5, y6, y7, none, none, y10, y11, y12] ∧ Same H H' ∧ H fd = none ∧ H' fd = some (.lst zs) ∧ Paired (LeadV K H') zs (LA.redL p (rows.take i)))
        ⟨none, none, none, none, none, none, none, none, f0, [], rfl, sf0, nf0, hf0, .nil⟩ (fun i σ H' _ ⟨_, _, _, _, _, _, _, _, _, _, _, s, _⟩ => ha.same s) ?_ ?_⟩
      · rintro i x _ H1 H2 hil ⟨y3, y4, y5, y6, y7, y10, y11, y12, fd, zs, rfl, s1, nfd, hfd, hzs⟩ ⟨rfl, hxi⟩
        obtain ⟨r, hri, hrv⟩ := OS.paired_get hx hxi
        have hr' := hrow r (List.mem_of_getElem? hri)
        have hil' : i < rows.length := (List.getElem?_eq_some_iff.mp hri).1
        have htk : rows.take (i + 1) = rows.take i ++ [r] := by rw [List.take_succ, hri]; rfl
        have R := LA.red_all hP (n := n) (rows := rows.take i) fun x hx => hrow x (List.mem_of_mem_take hx)
        have hstep : LA.redL p (rows.take (i + 1)) = LA.stepL p (LA.redL p (rows.take i)) r := by
          unfold LA.redL
          rw [htk, List.foldl_append]
          rfl
        rw [hstep]
        clear hstep htk
        have hfl : (LA.redL p (rows.take i)).length ≤ 600 := by
          have h1 := red_len p (rows.take i)
          rw [List.length_take] at h1
          omega
        generalize LA.redL p (rows.take i) = found at hzs R hfl ⊢
        obtain ⟨kr, rb, rfl, hrb⟩ := hrv.same s1
        have hzl := paired_len hzs
        have hflen : ∀ q ∈ found, q.2.length = n := fun q hq => (R.ok q hq).row.len
        have hqf : SqL K H2 fd zs := SqL.of hfd
        walk_at "rd"
        refine Stop.cut (fun σ H' => ∃ (y5 y6 : Option V) (la : Addr) (kl : Bool), σ = [some (.int p), some (.ref a), some (.ref fd), some (.ref rb), some (.ref la), y5, y6, y7, none, none, y10, y11, y12] ∧ Same H2 H' ∧ SqB kl K H' la ((LA.sweep p r found).map V.int)) (fun Qz2 hz2 => ?_) ?_
        · walk_at "rd"
          refine ⟨⟨_, hqf⟩, ⟨for_it (walk_list (xs := zs)) (fun j σ H' => ∃ (y5 y6 : Option V) (la : Addr) (kl : Bool), σ = [some (.int p), some (.ref a), some (.ref fd), some (.ref rb), some (.ref la), y5, y6, y7, none, none, y10, y11, y12] ∧ Same H2 H' ∧ SqB kl K H' la ((LA.sweep p r (found.take j)).map V.int))
            ⟨y5, y6, rb, kr, rfl, Same.refl _, hrb⟩ (fun j σ H' _ ⟨_, _, _, _, _, s, _⟩ => s.seq hqf) ?_ ?_⟩⟩
          · rintro j v _ H3 H4 hj ⟨y5, y6, la, kl, rfl, s3, hla⟩ ⟨rfl, hv⟩
            obtain ⟨q0, hq0, hlv⟩ := OS.paired_get hzs hv
            obtain ⟨t, b, rfl, ht, hb⟩ := hlv.same s3
            have hok := R.ok q0 (List.mem_of_getElem? hq0)
            have hsw : LA.Row p n (LA.sweep p r (found.take j)) := LA.sweep_row p0 hr' fun q hq => hflen q (List.mem_of_mem_take hq)
            have htk : found.take (j + 1) = found.take j ++ [q0] := by rw [List.take_succ, hq0]; rfl
            have hnx : LA.sweep p r (found.take (j + 1)) = LA.lessL p (LA.sweep p r (found.take j)) (LA.at_ (LA.sweep p r (found.take j)) q0.1) q0.2 := by
              rw [htk, sweep_app]
              rfl
            rw [hnx]
            generalize LA.sweep p r (found.take j) = cur at hla hsw ⊢
            have hat : atI (cur.map V.int) (q0.1 : Int) = some (.int (LA.at_ cur q0.1)) := atI_at (by rw [hsw.len]; exact hok.lt)
            have hrg := hsw.at_rng p0 q0.1
            have hf : -(2 ^ 64) < LA.at_ cur q0.1 ∧ LA.at_ cur q0.1 < 2 ^ 64 := ⟨by omega, by omega⟩
            have hl1 := hsw.len
            have hl2 := hok.row.len
            refine ⟨t, _, rfl, ht, rfl, ?_⟩
            have hbq : SqL K H4 b (q0.2.map V.int) := SqL.of hb
            walk_at "rd"
            intro lb kb H5 s5 hlb _
            exact ⟨_, _, lb, kb, rfl, s3.trans s5, hlb⟩
          · rintro σ H3 ⟨y5, y6, la, kl, rfl, s3, hla⟩
            rw [hzl, List.take_length] at hla
            exact hz2 _ _ ⟨y5, y6, la, kl, rfl, s3, hla⟩
        · rintro _ H3 ⟨y5, y6, la, kl, rfl, s3, hla⟩
          have hsw : LA.Row p n (LA.sweep p r found) := LA.sweep_row p0 hr' hflen
          have hzs3 : Paired (LeadV K H3) zs found := L2.Paired.mapP hzs fun _ _ z => z.same s3
          have hzq3 : SqL K H3 fd zs := SqL.of (s3 _ _ hfd)
          have stN : LA.places (LA.sweep p r found) = [] → LA.stepL p found r = found := fun e => by
            unfold LA.stepL
            simp only
            rw [e]
          have stC : ∀ f fs, LA.places (LA.sweep p r found) = f :: fs → LA.stepL p found r = (found.map fun q => (q.1, LA.lessL p q.2 (LA.at_ q.2 f) ((LA.sweep p r found).map fun x => x * LA.inv p (LA.at_ (LA.sweep p r found) f) % p))) ++ [(f, (LA.sweep p r found).map fun x => x * LA.inv p (LA.at_ (LA.sweep p r found) f) % p)] := fun f fs e => by
            unfold LA.stepL
            simp only
            rw [e]
          generalize LA.sweep p r found = left at hla hsw stN stC
          have hlr : (List.range n).length = (left.map V.int).length := by simp [hsw.len]
          walk_at "rd"
          refine fun D hD => ?_
          refine lc_fn (walk_enumB (kk := kl) (xs := left.map V.int)) (xs := List.range n) hlr (by rw [List.length_map, hsw.len]; omega) (fun k => !decide (LA.at_ left k = 0)) (fun k : Nat => V.int (k : Int)) hD (fun H1 s => hla.same s) ?_ ?_
          · intro j k x H4 H5 Qk Qn hk sm hy hkk hkn
            obtain ⟨t, x1, x2, rfl, nt, rfl, hx1, hx2⟩ := hy
            obtain ⟨hj, rfl⟩ := List.getElem?_eq_some_iff.mp hk
            rw [List.getElem_range] at hkk hkn
            obtain rfl : V.int (j : Int) = x1 := Option.some.inj hx1
            have hjl : j < left.length := by rw [hsw.len]; simpa using hj
            obtain rfl : V.int (LA.at_ left j) = x2 := by
              replace hx2 : (left.map V.int)[j]? = some x2 := hx2
              rw [List.getElem?_map, List.getElem?_eq_getElem hjl] at hx2
              rw [LA.at_get hjl]
              exact Option.some.inj hx2
            have ht : SqT K (upd H4 t (.tup [V.int (j : Int), V.int (LA.at_ left j)])) t [V.int (j : Int), V.int (LA.at_ left j)] := SqT.of upd_same
            refine ⟨t, _, rfl, ht, rfl, ?_⟩
            walk_at "rd"
            refine ite2 (fun e => ?_) (fun e => ?_)
            · walk_at "rd"
              exact hkk (by simpa using e) _ (same_new nt)
            · exact hkn (by simpa using e) _ (same_new nt)
          · intro H4 s4 hD4
            have hD4' : H4 D = some (.lst ((LA.places left).map fun k : Nat => V.int (k : Int))) := by
              unfold LA.places
              rw [hsw.len]
              exact hD4
            have hDq : SqL K H4 D ((LA.places left).map fun k : Nat => V.int (k : Int)) := SqL.of hD4'
            have hzs4 : Paired (LeadV K H4) zs found := L2.Paired.mapP hzs3 fun _ _ z => z.same s4
            have hla4 := hla.same s4
            walk_at "rd"
            refine ⟨.inl ⟨_, hDq, rfl⟩, ?_⟩
            have hsub : ∀ f, f ∈ LA.places left → f < n ∧ LA.at_ left f ≠ 0 := fun f hf => by
              obtain ⟨hf1, hf2⟩ := List.mem_filter.mp hf
              exact ⟨by rw [← hsw.len]; exact List.mem_range.mp hf1, by simpa using hf2⟩
            clear hD4 hD4'
            generalize LA.places left = pl at hDq hsub stN stC ⊢
            cases pl with
            | nil =>
              refine ite2 (fun e => absurd e (by decide)) fun _ => ?_
              rw [stN rfl]
              exact ⟨_, _, _, _, _, _, _, _, fd, zs, rfl, (s1.trans s3).trans s4, nfd, s4 _ _ (s3 _ _ hfd), hzs4⟩
            | cons f fs =>
              refine ite2 (fun _ => ?_) (fun e => absurd rfl e)
              obtain ⟨hfn, hfne⟩ := hsub f (.head _)
              rw [stC f fs rfl]
              clear stN stC hsub
              have hrg := hsw.at_rng p0 f
              have hat0 : atI ((f :: fs).map fun k : Nat => V.int (k : Int)) 0 = some (.int (f : Int)) := atI_nat (j := 0) rfl
              have hatf : atI (left.map V.int) (f : Int) = some (.int (LA.at_ left f)) := atI_at (by rw [hsw.len]; exact hfn)
              have g0 : 0 < LA.at_ left f := by omega
              have g1 := hrg.2
              walk_at "rd"
              intro H5 s5
              generalize LA.inv p (LA.at_ left f) = iv
              have hla5 := hla4.same s5
              walk_at "rd"
              refine fun D2 hD2 => ?_
              refine lc_all (walk_seq (kk := kl) (xs := left.map V.int)) (xs := left) (by simp) (by rw [List.length_map, hsw.len]; omega) (fun x => V.int (x * iv % p)) hD2 (fun H s => hla5.same s) ?_ ?_
              · intro j x v H6 H7 Qk hx sm hy hk
                obtain ⟨rfl, hv⟩ := hy
                rw [List.getElem?_map, hx] at hv
                obtain rfl := Option.some.inj hv
                have hxr := hsw.rng x (List.mem_of_getElem? hx)
                have hb : -(2 ^ 64) < x ∧ x < 2 ^ 64 := ⟨by omega, by omega⟩
                walk_at "rd"
                exact hk _ (Same.refl _)
              · intro H6 s6 hD6
                have hfrl : (left.map fun x => x * iv % p).length = n := by rw [List.length_map, hsw.len]
                have hD6' : H6 D2 = some (.lst ((left.map fun x => x * iv % p).map V.int)) := by rw [List.map_map]; exact hD6
                generalize left.map (fun x => x * iv % p) = fresh at hfrl hD6' ⊢
                have s46 := s5.trans s6
                have hzs6 : Paired (LeadV K H6) zs found := L2.Paired.mapP hzs4 fun _ _ z => z.same s46
                have hfd6 := s46 _ _ (s4 _ _ (s3 _ _ hfd))
                have hzq6 : SqL K H6 fd zs := SqL.of hfd6
                walk_at "rd"
                refine ⟨⟨_, hzq6⟩, fun D3 hD3 => ?_⟩
                refine lc_relD (walk_list (xs := zs)) (xs := found) hzl.symm (by omega) (fun _ => true) (fun H q v => ∃ t b, v = .ref t ∧ SqT K H t [.int (q.1 : Int), .ref b] ∧ H b = some (.lst ((LA.lessL p q.2 (LA.at_ q.2 f) fresh).map V.int)) ∧ b ≠ D3) hD3 ?_ (fun H s => s.seq hzq6) ?_ ?_
                · rintro H7 H8 q v acc _ hDa kp ⟨t, b, e, h1, h2, h3⟩
                  exact ⟨t, b, e, tupT_but hDa kp h1, kp _ _ h2 h3, h3⟩
                · intro j q0 v H7 H8 Qk Qn hq0 sm ⟨acc, hacc⟩ hy hkk _
                  obtain ⟨rfl, hv⟩ := hy
                  obtain ⟨q', h1, h2⟩ := OS.paired_get hzs6 hv
                  obtain rfl : q' = q0 := Option.some.inj (h1.symm.trans hq0)
                  obtain ⟨t0, b0, _, _, hb60⟩ := id h2
                  obtain ⟨t, b, rfl, ht6, hb6⟩ := h2
                  have ht := sm.tupT ht6
                  have hb := sm _ _ hb6
                  have hbD : b ≠ D3 := ne_of_none hb6 hD3
                  have hok := R.ok q' (List.mem_of_getElem? hq0)
                  have hbq : SqL K H8 b (q'.2.map V.int) := SqL.of hb
                  have hbB : SqB false K H8 b (q'.2.map V.int) := hbq
                  have hfq : SqL K H8 D2 (fresh.map V.int) := SqL.of (sm _ _ hD6')
                  have hatq : atI (q'.2.map V.int) (f : Int) = some (.int (LA.at_ q'.2 f)) := atI_at (by rw [hok.row.len]; exact hfn)
                  have hrq := hok.row.at_rng p0 f
                  have hbd : -(2 ^ 64) < LA.at_ q'.2 f ∧ LA.at_ q'.2 f < 2 ^ 64 := ⟨by omega, by omega⟩
                  have hlq := hok.row.len
                  refine ⟨t, _, rfl, ht, rfl, ?_⟩
                  walk_at "rd"
                  intro lb kb H9 s9 hlb hor
                  refine ⟨by show 2 ≤ sizeLine; decide, fun u H10 n10 s10 hu => ?_⟩
                  refine hkk rfl (.ref u) H10 ⟨u, lb, rfl, SqT.of hu, ?_, ?_⟩ (s9.trans s10)
                  · refine s10 _ _ ?_
                    rcases hor with ⟨rfl, rfl, el⟩ | ⟨hn9, h9⟩
                    · rw [el]
                      exact hb
                    · exact h9
                  · rcases hor with ⟨rfl, rfl, _⟩ | ⟨hn9, h9⟩
                    · exact hbD
                    · exact fun z => by
                        rw [z, hacc] at hn9
                        cases hn9
                · intro H7 acc s7 hD7 pr
                  walk_at "rd"
                  refine ⟨.inl ⟨rfl, _, SqL.of hD7⟩, ?_⟩
                  walk_at "rd"
                  refine ⟨by show 2 ≤ sizeLine; decide, fun u H8 n8 s8 hu => ?_⟩
                  have hD8 := s8 _ _ hD7
                  have hal : acc.length < sizeLine := by
                    have := paired_len pr
                    have h2 := List.length_filter_le (fun _ => true) found
                    exact small1e5 (by omega)
                  have hD2n : D2 ≠ D3 := ne_of_none hD6' hD3
                  have huD : u ≠ D3 := fun z => by
                    rw [z, hD7] at n8
                    cases n8
                  walk_at "rd"
                  have s48 := (((s1.trans s3).trans s4).trans s46).trans (s7.trans s8)
                  have hD3n : H D3 = none := by
                    cases hx : H D3 with
                    | none => rfl
                    | some o =>
                      have := ((((s1.trans s3).trans s4).trans s46)) _ _ hx
                      rw [hD3] at this
                      cases this
                  refine ⟨same_put s48 hD3n, hD3n, upd_same, ?_⟩
                  have kp : ∀ b o, H8 b = some o → b ≠ D3 → (upd H8 D3 (.lst (acc ++ [.ref u]))) b = some o := fun b o q z => by rw [upd_ne z]; exact q
                  have hall : found.filter (fun _ => true) = found := List.filter_eq_self.mpr fun _ _ => rfl
                  rw [hall] at pr
                  have pr2 : Paired (fun q v => LeadV K (upd H8 D3 (.lst (acc ++ [.ref u]))) v (q.1, LA.lessL p q.2 (LA.at_ q.2 f) fresh)) found acc := L2.Paired.mapP pr fun q v z => by
                    obtain ⟨t, b, e, h1, h2, h3⟩ := z
                    exact ⟨t, b, e, tupT_but hD8 kp (s8.tupT h1), kp _ _ (s8 _ _ h2) h3⟩
                  refine paired_swap (paired_app (paired_map (F := fun q v => LeadV K (upd H8 D3 (.lst (acc ++ [.ref u]))) v q) pr2) (.cons ⟨u, D2, rfl, tupT_but hD8 kp (SqT.of hu), kp _ _ (s8 _ _ (s7 _ _ hD6')) hD2n⟩ .nil))
      · rintro σ H1 ⟨y3, y4, y5, y6, y7, y10, y11, y12, fd, zs, rfl, s1, nfd, hfd, hzs⟩
        rw [hxl, List.take_length] at hzs
        exact hz _ _ ⟨y3, y4, y5, y6, y7, y10, y11, y12, fd, zs, rfl, s1, hfd, hzs⟩
    · rintro _ H1 ⟨y3, y4, y5, y6, y7, y10, y11, y12, fd, zs, rfl, s1, hfd, hzs⟩
      walk_at "rd"
      exact q fd zs H1 s1 hfd hzs
end
end P
set_option linter.all false
set_option maxHeartbeats 1000000
/-! a solution of equations, read off the cleared rows -/
namespace LA
section
variable {p : Int} {n : Nat}
/-- x0 v0 + x1 v1 + .. over n places -/
def dotN (x v : Vec) : Nat → Int
  | 0 => 0
  | n + 1 => dotN x v n + v n * x n
theorem dotN_lin (x : Vec) : ∀ (n : Nat) (c : List Int) (L : List Vec), dotN x (lin c L) n = lin c (L.map fun v _ => dotN x v n) 0
  | 0, c, L => by
    show (0 : Int) = lin c (L.map fun v _ => 0) 0
    induction L generalizing c with
    | nil => rw [List.map_nil, lin_nil_right]
    | cons v L ih =>
      cases c with
      | nil => rw [lin_nil_left]
      | cons a c =>
        show (0 : Int) = a * 0 + lin c (L.map fun v _ => 0) 0
        rw [← ih c]
        omega
  | n + 1, c, L => by
    show dotN x (lin c L) n + lin c L n * x n = lin c (L.map fun v _ => dotN x v n + v n * x n) 0
    rw [dotN_lin x n c L]
    induction L generalizing c with
    | nil => simp [lin_nil_right]
    | cons v L ih =>
      cases c with
      | nil => simp [lin_nil_left]
      | cons a c =>
        show (a * dotN x v n + lin c (L.map fun v _ => dotN x v n) 0) + (a * v n + lin c L n) * x n = a * (dotN x v n + v n * x n) + lin c (L.map fun v _ => dotN x v n + v n * x n) 0
        rw [← ih c, Int.add_mul, Int.mul_add, Int.mul_assoc]
        omega
theorem dotN_congr {x u v : Vec} : ∀ {n : Nat}, (∀ j, j < n → p ∣ u j - v j) → p ∣ dotN x u n - dotN x v n
  | 0, _ => ⟨0, by show (0 : Int) - 0 = p * 0; omega⟩
  | n + 1, h => by
    have h1 := dotN_congr (x := x) (n := n) fun j hj => h j (by omega)
    have h2 := Int.dvd_trans (h n (by omega)) (Int.dvd_mul_right (u n - v n) (x n))
    refine dvd_congr (Int.dvd_add h1 h2) ?_
    show _ = dotN x u n + u n * x n - (dotN x v n + v n * x n)
    rw [Int.sub_mul]
    omega
/-- x solves the equation v: v0 x0 + .. = vn -/
def Solves (p : Int) (n : Nat) (x v : Vec) : Prop := p ∣ dotN x v n - v n
theorem lin_fn {L : List Vec} {x : Vec} (h : ∀ v ∈ L, Solves p n x v) : ∀ c : List Int, p ∣ lin c (L.map fun v _ => dotN x v n) 0 - lin c L n := by
  induction L with
  | nil => exact fun c => ⟨0, by rw [List.map_nil, lin_nil_right, lin_nil_right]; omega⟩
  | cons v L ih =>
    intro c
    cases c with
    | nil => exact ⟨0, by rw [lin_nil_left, lin_nil_left]; omega⟩
    | cons a c =>
      have h1 := dvd_mul_r a (h v (.head _))
      have h2 := ih (fun w hw => h w (.tail _ hw)) c
      refine dvd_congr (Int.dvd_add h1 h2) ?_
      show _ = (a * dotN x v n + lin c (L.map fun v _ => dotN x v n) 0) - (a * v n + lin c L n)
      rw [Int.mul_sub]
      omega
/-- what solves rows solves their span -/
theorem Solves.span {L : List Vec} {x v : Vec} (h : ∀ w ∈ L, Solves p n x w) (s : InS p (n + 1) L v) : Solves p n x v := by
  obtain ⟨c, _, hc⟩ := s
  have h1 := dotN_congr (x := x) (n := n) fun j hj => hc j (by omega)
  have h2 := hc n (by omega)
  have h3 := lin_fn h c
  rw [← dotN_lin] at h3
  refine dvd_congr (Int.dvd_sub (Int.dvd_add h1 h3) h2) ?_
  show dotN x v n - dotN x (lin c L) n + (dotN x (lin c L) n - lin c L n) - (v n - lin c L n) = dotN x v n - v n
  omega
/-- set one by one, from the front -/
def setN (many : Nat) (ns : List Int) (found : List Lead) : List Int := found.foldl (fun ns q => ns.set q.1 (at_ q.2 many)) ns
theorem setN_len (many : Nat) : ∀ (found : List Lead) (ns : List Int), (setN many ns found).length = ns.length
  | [], _ => rfl
  | q :: found, ns => by
    show (setN many (ns.set q.1 (at_ q.2 many)) found).length = _
    rw [setN_len many found, List.length_set]
theorem at_set {ns : List Int} {i j : Nat} {z : Int} : at_ (ns.set i z) j = if i = j ∧ i < ns.length then z else at_ ns j := by
  unfold at_
  rw [List.getD_eq_getElem?_getD, List.getD_eq_getElem?_getD, List.getElem?_set]
  by_cases h : i = j
  · subst h
    by_cases hl : i < ns.length
    · simp [hl]
    · simp [hl]
  · simp [h]
theorem setN_other {many : Nat} {j : Nat} : ∀ (found : List Lead) (ns : List Int), (∀ q ∈ found, q.1 ≠ j) → at_ (setN many ns found) j = at_ ns j
  | [], _, _ => rfl
  | q :: found, ns, h => by
    show at_ (setN many (ns.set q.1 (at_ q.2 many)) found) j = _
    rw [setN_other found _ fun x hx => h x (.tail _ hx), at_set, if_neg fun z => h q (.head _) z.1]
theorem leads_ne {found : List Lead} (ho : ∀ q ∈ found, LeadOk p n q) {q q' : Lead} (a : Apart q q') (h' : q' ∈ found) : q.1 ≠ q'.1 := fun e => by
  have h1 := a.1
  have h2 := (ho q' h').own
  rw [e, h2] at h1
  omega
theorem setN_lead {many : Nat} : ∀ (found : List Lead) (ns : List Int), (∀ q ∈ found, LeadOk p n q) → found.Pairwise Apart → (∀ q ∈ found, q.1 < ns.length) → ∀ q ∈ found, at_ (setN many ns found) q.1 = at_ q.2 many
  | [], _, _, _, _, _, h => nomatch h
  | q :: found, ns, ho, ha, hl, q', hq => by
    obtain ⟨a1, a2⟩ := List.pairwise_cons.mp ha
    show at_ (setN many (ns.set q.1 (at_ q.2 many)) found) q'.1 = _
    rcases List.mem_cons.mp hq with rfl | hq
    · rw [setN_other found _ fun x hx e => leads_ne (fun y hy => ho y hy) (a1 x hx) (.tail _ hx) e.symm, at_set, if_pos ⟨rfl, hl _ (.head _)⟩]
    · exact setN_lead found _ (fun x hx => ho x (.tail _ hx)) a2 (fun x hx => by rw [List.length_set]; exact hl x (.tail _ hx)) q' hq
/-- the sum of a row whose only place where both are not nought is l -/
theorem dotN_one {x v : Vec} {l : Nat} : ∀ {n : Nat}, (∀ k, k < n → k ≠ l → v k * x k = 0) → dotN x v n = if l < n then v l * x l else 0
  | 0, _ => rfl
  | n + 1, h => by
    show dotN x v n + v n * x n = _
    rw [dotN_one (l := l) fun k hk => h k (by omega)]
    by_cases e : l = n
    · subst e
      rw [if_neg (by omega), if_pos (by omega)]
      omega
    · rw [h n (by omega) (fun z => e z.symm)]
      by_cases q : l < n
      · rw [if_pos q, if_pos (by omega)]
        omega
      · rw [if_neg q, if_neg (by omega)]
        omega
/-- the numbers that are read off solve the equations -/
theorem solves_all {many : Nat} {rows : List (List Int)} {found : List Lead} (R : Red p (many + 1) rows found) (hno : ∀ q ∈ found, q.1 ≠ many) : ∀ r ∈ rows, Solves p many (at_ (setN many (List.replicate many 0) found)) (at_ r) := by
  have hlt : ∀ q ∈ found, q.1 < many := fun q hq => by
    have := (R.ok q hq).lt
    have := hno q hq
    omega
  have hf : ∀ q ∈ found, Solves p many (at_ (setN many (List.replicate many 0) found)) (at_ q.2) := fun q hq => by
    have hl := setN_lead (many := many) found (List.replicate many 0) R.ok R.ap (fun x hx => by rw [List.length_replicate]; exact hlt x hx)
    have h1 : ∀ k, k < many → k ≠ q.1 → at_ q.2 k * at_ (setN many (List.replicate many 0) found) k = 0 := fun k hk hkq => by
      by_cases e : ∃ q' ∈ found, q'.1 = k
      · obtain ⟨q', hq', rfl⟩ := e
        have ap : at_ q.2 q'.1 = 0 := by
          obtain ⟨i, hi, rfl⟩ := List.mem_iff_getElem.mp hq
          obtain ⟨j, hj, rfl⟩ := List.mem_iff_getElem.mp hq'
          have pw := List.pairwise_iff_getElem.mp R.ap
          rcases Nat.lt_trichotomy i j with h | h | h
          · exact (pw i j hi hj h).2
          · subst h
            exact absurd rfl hkq
          · exact (pw j i hj hi h).1
        rw [ap]
        omega
      · rw [setN_other found _ fun x hx z => e ⟨x, hx, z⟩]
        have : at_ (List.replicate many 0) k = 0 := by
          unfold at_
          rw [List.getD_eq_getElem?_getD, List.getElem?_replicate]
          split <;> rfl
        rw [this]
        omega
    show p ∣ dotN _ (at_ q.2) many - at_ q.2 many
    rw [dotN_one h1, if_pos (hlt q hq), (R.ok q hq).own, hl q hq]
    exact ⟨0, by omega⟩
  intro r hr
  refine Solves.span (L := vecs found) (fun w hw => ?_) (R.sp r hr)
  obtain ⟨q, hq, rfl⟩ := List.mem_map.mp hw
  exact hf q hq
/-- no numbers solve them where a lead stands in the last place -/
theorem no_solution (hp : Prm p) {many : Nat} {rows : List (List Int)} {found : List Lead} (R : Red p (many + 1) rows found) {q : Lead} (hq : q ∈ found) (e : q.1 = many) {x : Vec} (h : ∀ r ∈ rows, Solves p many x (at_ r)) : False := by
  have h1 : Solves p many x (at_ q.2) := Solves.span (fun w hw => by
    obtain ⟨r, hr, rfl⟩ := List.mem_map.mp hw
    exact h r hr) (R.inR q hq)
  have ho := R.ok q hq
  have h2 : dotN x (at_ q.2) many = 0 := by
    rw [dotN_one (l := many) fun k hk _ => by rw [ho.z k (by omega)]; omega, if_neg (by omega)]
  have h3 : at_ q.2 many = 1 := by rw [← e]; exact ho.own
  have h4 : p ∣ dotN x (at_ q.2) many - at_ q.2 many := h1
  rw [h2, h3] at h4
  exact hp.one (dvd_congr (Int.dvd_neg.mpr h4) (by omega))
/-- a row that is in the span does not raise the rank, another one does -/
theorem rank_in (hp : Prm p) {R : List Vec} {v : Vec} {r s : Nat} (h : IsRank p n R r) (k : IsRank p n (R ++ [v]) s) : r = s ↔ InS p n R v := by
  obtain ⟨B, hB, hi, hb, hr⟩ := id h
  constructor
  · intro e
    apply Classical.byContradiction
    intro hv
    have hvB : ¬ InS p n B v := fun z => hv (z.trans hb)
    have ind : Indep p n (v :: B) := fun c hc hj => by
      cases c with
      | nil => intro x hx; cases hx
      | cons a c =>
        have ha : p ∣ a := by
          apply Classical.byContradiction
          intro na
          obtain ⟨b, hb2⟩ := hp.Inv a na
          apply hvB
          -- v = - b (c B)
          have h1 : InS p n B (fun j => -b * lin c B j) := (InS.lin (c := c) fun w hw => .mem hw).smul (-b)
          refine h1.congr fun j hjn => ?_
          have h2 := dvd_mul_r b (hj j hjn)
          have h3 := Int.dvd_trans hb2 (Int.dvd_mul_right _ (v j))
          refine dvd_congr (Int.dvd_sub h2 h3) ?_
          show b * (a * v j + lin c B j) - (a * b - 1) * v j = v j - -b * lin c B j
          rw [Int.mul_add, Int.sub_mul, Int.neg_mul, ← Int.mul_assoc, Int.mul_comm b a]
          omega
        intro x hx
        rcases List.mem_cons.mp hx with rfl | hx
        · exact ha
        · refine hi c (by simpa using hc) (fun j hjn => ?_) x hx
          have h2 := hj j hjn
          have h3 := Int.dvd_trans ha (Int.dvd_mul_right a (v j))
          exact dvd_congr (Int.dvd_sub h2 h3) (by show a * v j + lin c B j - a * v j = _; omega)
    obtain ⟨C, hC, ki, kc, kr⟩ := k
    have : (v :: B).length ≤ C.length := steinitz hp.Inv hp.one ind fun w hw => by
      rcases List.mem_cons.mp hw with rfl | hw
      · exact kr _ (List.mem_append_right _ (.head _))
      · exact ((hb w hw).trans fun u hu => .mem (List.mem_append_left _ hu)).trans kr
    rw [List.length_cons] at this
    omega
  · intro hv
    exact h.one hp.Inv hp.one k (fun w hw => .mem (List.mem_append_left _ hw)) fun w hw => (List.mem_append.mp hw).elim (fun z => .mem z) fun z => by rw [List.mem_singleton.mp z]; exact hv
end
end LA
set_option Elab.async false
set_option linter.all false
set_option maxRecDepth 100000
set_option maxHeartbeats 4000000
namespace OS
open PySem PySem.Spec PyProof.Rows L2
/-! tuple * int, of any number up to 1000 -/
theorem tup_mul_one (l : Addr) (items : Array Value) (n : Nat) (dd : Option Addr) (sl : Array (Option Value)) (u : Tok) :
    Meets (Builtin.«tuple.__mul__» ⟨[.ref l, .int 1 u], []⟩) (fun _ R s => s.heap.get? l = some { cls := .type "tuple", dict := dd, data := .seq items n, slots := sl } ∧
      R (.ok (.ret (Value.ref l))) s) :=
  .of_wp fun prog w A R s h => by
    obtain ⟨hp, g, d, tk, os⟩ := s
    obtain ⟨hl, h⟩ := h
    have f1 := AutoSeq1.idx_int
    have c1 : (items.isEmpty || (1 : Int) == 1) = true := by simp
    have c0 : (decide ((1 : Int) < -(2 ^ 63)) || decide ((1 : Int) ≥ 2 ^ 63)) = false := by decide
    wp_walk using wpAny_loadPart' hl
    repeat (first
      | (refine wpAny_ite_false (decide_eq_false (by rw [c0]; exact Bool.false_ne_true)) ?_; wp_walk using wpAny_loadPart' hl)
      | (refine wpAny_ite_true (decide_eq_true c1) ?_; wp_walk using wpAny_loadPart' hl))
    exact ⟨_, rfl, h⟩
theorem tup_mul_none (l : Addr) (items : Array Value) (n : Nat) (dd : Option Addr) (sl : Array (Option Value)) (x : Int) (u : Tok) (c0 : (decide (x < -(2 ^ 63)) || decide (x ≥ 2 ^ 63)) = false) (c1 : (items.isEmpty || x == 1) = false) (c2 : (decide (x ≤ 0) || items.isEmpty) = true) :
    Meets (Builtin.«tuple.__mul__» ⟨[.ref l, .int x u], []⟩) (fun _ R s => s.heap.get? l = some { cls := .type "tuple", dict := dd, data := .seq items n, slots := sl } ∧
      R (.ok (.ret (Value.ref s.heap.objs.size))) { s with heap := s.heap.push { cls := Value.type "tuple", data := Data.seq #[] }, toks := s.toks }) :=
  .of_wp fun prog w A R s h => by
    obtain ⟨hp, g, d, tk, os⟩ := s
    obtain ⟨hl, h⟩ := h
    have f1 := AutoSeq1.idx_int
    wp_walk using wpAny_loadPart' hl
    repeat (first
      | (refine wpAny_ite_false (decide_eq_false (by rw [c0]; exact Bool.false_ne_true)) ?_; wp_walk using wpAny_loadPart' hl)
      | (refine wpAny_ite_false (decide_eq_false (by rw [c1]; exact Bool.false_ne_true)) ?_; wp_walk using wpAny_loadPart' hl)
      | (refine wpAny_ite_true (decide_eq_true c2) ?_; wp_walk using wpAny_loadPart' hl))
    exact ⟨_, rfl, h⟩
section
variable {X : Cx}
theorem flat_one {α : Type} (xs : List α) : (List.replicate 1 xs).flatten = xs := by simp
/-- t * k -/
def rRepTO (K : PySem.W.Frag) : R2 := fun x y H Q => ∃ l k xs, x = .ref l ∧ y = .int k ∧ SqT K H l xs ∧ xs ≠ [] ∧ 0 ≤ k ∧ k ≤ 1000 ∧ xs.length ≤ 1000 ∧ ∀ q H', Same H H' → SqT K H' q (List.replicate k.toNat xs).flatten → Q (.ref q) H'
theorem op_mulT : OpR X (binaryOp .Mult) (rRepTO X.K) := by
  intro pins s σ H x y v u Q I rx ry h
  obtain ⟨l, k, xs, rfl, rfl, hT, hne, h1, h2, hz, q⟩ := h
  by_cases hk : 2 ≤ k
  · exact op_repT pins s σ H _ _ v u Q I rx ry ⟨l, k, xs, rfl, rfl, hT, hne, hk, h2, hz, fun p hp => q p _ (same_new hp) (SqT.of upd_same)⟩
  · cases rx
    obtain ⟨t, rfl⟩ := ry
    obtain ⟨its, r, ⟨⟨cls, dd, data, sl⟩, ho, hc, n, hd⟩, hs⟩ := I.tuple hT
    simp only at hc hd
    subst hc hd
    have hle : its.length = xs.length := r.length.symm
    have hi : its.toArray.isEmpty = false := by
      cases its with
      | nil => exact absurd (List.eq_nil_of_length_eq_zero hle.symm) hne
      | cons a b => rfl
    by_cases k1 : k = 1
    · subst k1
      refine wpAny_binaryOp_repeat_ref (T := "tuple") (U := "int") (by decide) ⟨_, ho, rfl⟩ (fun s' => typeIs_int s' 1 t) noFill_tuple_mul F.fills_int_mul F.slot_int_rmul repeat_tuple F.slot_int_index.lookup
        (call_meets F.slot_int_rmul (typeIs_int s 1 t) F.entry_int_rmul (F.args_int_rmul_2 _ _) (int_rmul_tuple 1 t l its.toArray n dd sl)
          ⟨ho, rfl, ⟨_, ho, rfl⟩, call_meets F.slot_tuple_mul ⟨_, ho, rfl⟩ F.entry_tuple_mul (F.args_tuple_mul_2 _ _) (tup_mul_one l its.toArray n dd sl t) ⟨ho, ?_⟩⟩)
      exact ⟨.ref l, H, I, rfl, q l H (Same.refl H) (by rw [show (1 : Int).toNat = 1 from rfl, flat_one]; exact hT)⟩
    · obtain rfl : k = 0 := by omega
      refine wpAny_binaryOp_repeat_ref (T := "tuple") (U := "int") (by decide) ⟨_, ho, rfl⟩ (fun s' => typeIs_int s' 0 t) noFill_tuple_mul F.fills_int_mul F.slot_int_rmul repeat_tuple F.slot_int_index.lookup
        (call_meets F.slot_int_rmul (typeIs_int s 0 t) F.entry_int_rmul (F.args_int_rmul_2 _ _) (int_rmul_tuple 0 t l its.toArray n dd sl)
          ⟨ho, rfl, ⟨_, ho, rfl⟩, call_meets F.slot_tuple_mul ⟨_, ho, rfl⟩ F.entry_tuple_mul (F.args_tuple_mul_2 _ _) (tup_mul_none l its.toArray n dd sl 0 t (by decide) (by rw [hi]; decide) (by simp)) ⟨ho, ?_⟩⟩)
      refine ⟨.ref s.heap.objs.size, _, I.laid (t' := s.toks) (o := .tup []) (fun b ob q => Heap.get?_push_of_some _ q) (Nat.le_refl _) ?_, rfl, q _ _ (same_new (I.hok.fresh (Nat.le_refl _))) (SqT.of upd_same)⟩
      exact ⟨by simp, _, .nil, IsTup.new _ _⟩
end
end OS
set_option Elab.async false
set_option linter.all false
set_option maxRecDepth 100000
set_option maxHeartbeats 4000000
namespace OS
open PySem PySem.Spec PyProof.Rows L2
section
variable {X : Cx} {e f : Expr} {te tf : TE} {p pos : Pos}
/-- [*e, f] -/
theorem pe_starL (K0 : PySem.W.Frag) (hK : X.K = K0) (he : PE X e te) (hf : PE X f tf) (hs : starEach [.Starred e p, f] X.env = (true, eval e X.env) :: starEach [f] X.env := by rfl)
    (hs2 : starEach [f] X.env = (false, eval f X.env) :: starEach [] X.env := by rfl) : PE X (.List [.Starred e p, f] pos) (tLstO (StX.tStar K0 te (tCons tf tNil))) := by
  subst hK
  exact pe_lstO (StX.pa_star he (pa_cons hf pa_nil hs2) hs)
end
end OS
set_option Elab.async false
set_option linter.all false
set_option maxRecDepth 100000
set_option maxHeartbeats 4000000
namespace P
open PySem PySem.Spec PyProof.Rows L2 OS
/-! short ways: "rd" opens a reading as far as equations go; "sep" finds what stands apart from the state; "sq" a list that is read; "nx" two heaps -/
local macro_rules | `(tactic| walk_at "sep") => `(tactic| first | assumption | (refine (by assumption : Nx _ _ _) _ _ ?_; walk_at "sep"))
local macro_rules | `(tactic| walk_at "sq") => `(tactic| first | assumption | exact .inl (.inl (by assumption)) | exact Sep.sq (by walk_at "sep") | exact Sep.st (by walk_at "sep") | exact .inl (.inl upd_same))
local macro_rules | `(tactic| walk_at "rd") => `(tactic| repeat (first
  | refine And.intro rfl ?_
  | apply Exists.intro
  | refine And.intro (by assumption) ?_
  | refine And.intro (DrawOk.mk (by omega) (by omega) (by omega)) ?_
  | refine And.intro at0 ?_
  | refine And.intro ⟨_, rfl⟩ ?_
  | refine And.intro (by walk_at "sq") ?_
  | refine And.intro (Or.inl (by walk_at "sq")) ?_
  | refine And.intro (Or.inr (by walk_at "sq")) ?_
  | refine And.intro (by omega) ?_))
section
variable {P : Program} {w : World} {K : PySem.W.Frag} {mg : Str → Option Value} {base : Heap}
def goalL (n : Nat) : List Int := 1 :: List.replicate (n - 1) 0
theorem goalL_len {n : Nat} (h : 1 ≤ n) : (goalL n).length = n := by
  unfold goalL
  rw [List.length_cons, List.length_replicate]
  omega
theorem flat_reps {α : Type} (x : α) : ∀ n, (List.replicate n [x]).flatten = List.replicate n x
  | 0 => rfl
  | n + 1 => by rw [List.replicate_succ, List.flatten_cons, flat_reps x n, List.replicate_succ]; rfl
/-- goal_row(width) -/
def spGoal (K : PySem.W.Frag) : Sp := fun vs H Q _ => ∃ (n : Nat), vs = [.int (n : Int)] ∧ 1 ≤ n ∧ n ≤ 900 ∧ ∀ u H', Same H H' → SqT K H' u ((goalL n).map V.int) → Q (.ref u) H'
theorem ok_goal_row (T : Txt K mg) : FnOk P w K mg base CX0 1 T.f_goal_row T.fd_goal_row ["width"] (spGoal K) := by
  refine T.F_goal_row.ok sc_goal_row (fun vs H Q E h => ?_) (fun cdv A outer s H vs Q E hr h => ?_)
  · obtain ⟨n, rfl, _⟩ := h
    rfl
  · obtain ⟨n, rfl, h1, h2, q⟩ := h
    refine ⟨_, (pss_one (ps_ret (pe_op (r := rCatTO K) op_catTO (pe_tupO (pa_cons pe_int pa_nil)) (pe_op op_mulT (pe_tupO (pa_cons pe_int pa_nil)) (pe_op op_sub (pv 0) pe_int))))), ?_⟩
    refine ⟨by decide, fun a H1 n1 s1 ha => ?_⟩
    have hA : SqT K H1 a [.int 1] := SqT.of ha
    refine ⟨by decide, fun b H2 n2 s2 hb => ?_⟩
    have hB : SqT K H2 b [.int 0] := SqT.of hb
    have hA2 := s2.tupT hA
    walk_at "rd"
    refine ⟨by simp, by omega, by omega, by simp, fun c H3 s3 hc => ?_⟩
    have hA3 := s3.tupT hA2
    refine ⟨a, c, _, _, rfl, rfl, hA3, hc, ?_, fun u H4 s4 hu => ?_⟩
    · rw [flat_reps]
      simp
      exact Nat.le_trans (show 1 + (n - 1) ≤ 1000 by omega) (by decide)
    · refine q u H4 (((s1.trans s2).trans s3).trans s4) ?_
      have e : ([V.int 1] ++ (List.replicate ((n : Int) - 1).toNat [V.int 0]).flatten) = (goalL n).map V.int := by
        rw [flat_reps]
        unfold goalL
        rw [List.map_cons, List.map_replicate, show ((n : Int) - 1).toNat = n - 1 by omega]
        rfl
      rw [← e]
      exact hu
/-- a lead that does not stand in a certain list -/
def LeadN (K : PySem.W.Frag) (nd : Addr) (H : Hp) (v : V) (q : LA.Lead) : Prop := ∃ t b, v = .ref t ∧ SqT K H t [.int (q.1 : Int), .ref b] ∧ H b = some (.lst (q.2.map V.int)) ∧ b ≠ nd
def solL (p : Int) (m : Nat) (rows : List (List Int)) : Option (List Int) := if (LA.redL p rows).any (fun q => decide (q.1 = m)) then none else some (LA.setN m (List.replicate m 0) (LA.redL p rows))
/-- solved(prime, equations, many) -/
def spSolved (K : PySem.W.Frag) : Sp := fun vs H Q _ => ∃ (p : Int) (a : Addr) (kk : Bool) (m : Nat) (xs : List V) (rows : List (List Int)), vs = [.int p, .ref a, .int (m : Int)] ∧ (p = 2 ∨ p = 3 ∨ p = 5 ∨ p = 7 ∨ p = 11) ∧ SqB kk K H a xs ∧ Paired (RowB K H) xs rows ∧ (∀ r ∈ rows, LA.Row p (m + 1) r) ∧ m ≤ 900 ∧ rows.length ≤ 500 ∧
  (solL p m rows = none → ∀ H', Same H H' → Q .non H') ∧ (∀ ns, solL p m rows = some ns → ∀ u H', H u = none → Same H H' → H' u = some (.lst (ns.map V.int)) → Q (.ref u) H')
theorem ok_solved (T : Txt K mg) : FnOk P w K mg base CX0 3 T.f_solved T.fd_solved ["prime", "equations", "many"] (spSolved K) := by
  refine T.F_solved.ok sc_solved (fun vs H Q E h => ?_) (fun cdv A outer s H vs Q E hr h => ?_)
  · obtain ⟨p, a, kk, m, xs, rows, rfl, _⟩ := h
    rfl
  · obtain ⟨p, a, kk, m, xs, rows, rfl, hp, ha, hx, hrow, hm, hrl, qn, q⟩ := h
    refine ⟨_, (pss_cons (ps_set (i := 3) sc_solved.nd rfl (Or.inl rfl) (pe_call (ok_reduced T) (hr.mono (by decide)) (by rfl) T.g_reduced T.F_reduced.kp T.b_reduced .nil pass0 (pa_cons (pv 0) (pa_cons (pv 1) pa_nil))))
    (pss_cons (ps_if (pt_val (pe_call (ok_is_unsolvable T) (hr.mono (by decide)) (by rfl) T.g_is_unsolvable T.F_is_unsolvable.kp T.b_is_unsolvable .nil pass0 (pa_cons (pv 3) (pa_cons (pv 2) pa_nil))))
      (pss_one (ps_ret pe_non)) pss_nil)
    (pss_cons (ps_set (i := 4) sc_solved.nd rfl (Or.inl rfl) (pe_op op_mulL (pe_lstO (pa_cons pe_int pa_nil)) (pv 2)))
    (pss_stop (ps_for PassesOwn.never rfl (pi_hold (pi_list (pv 3))) (pg_tup rfl (pgs_cons (pg_name (i := 5) sc_solved.nd rfl (Or.inl rfl)) (pgs_cons (pg_name (i := 6) sc_solved.nd rfl (Or.inl rfl)) pgs_nil)))
      (pss_one (ps_asg (pe_ix (r := rIxL K) ix_list (pv 6) (pv 2) (fun _ _ => rfl)) (pg_sub (pv 4) (pv 5) set_list))))
    (pss_one (ps_ret (pv 4))))))), ?_⟩
    have hP := LA.prm_of hp
    have R := LA.red_all hP (n := m + 1) (rows := rows) hrow
    have hredl := red_len p rows
    have hm1 : m + 1 ≤ 1000 := by omega
    unfold solL at q qn
    walk_at "rd"
    intro f zs H1 s1 hf hz
    generalize LA.redL p rows = found at *
    have hfq : SqL K H1 f zs := SqL.of hf
    have hfl : found.length ≤ 1000 := by omega
    have hzl := paired_len hz
    walk_at "rd"
    intro H2 s2
    walk_at "rd"
    refine ite2 (fun e => ?_) (fun e => ?_)
    · walk_at "rd"
      rw [if_pos e] at qn
      exact qn rfl H2 (s1.trans s2)
    · rw [if_neg e] at q
      have hno : ∀ q ∈ found, q.1 ≠ m := fun q hq z => e (List.any_eq_true.mpr ⟨q, hq, by simpa using z⟩)
      have hf2 : H2 f = some (.lst zs) := s2 _ _ hf
      have hz2 : Paired (LeadV K H2) zs found := L2.Paired.mapP hz fun _ _ z => z.same s2
      refine ⟨by decide, fun b H3 n3 s3 hb => ?_⟩
      refine ⟨.int (m : Int), rfl, b, (m : Int), [.int 0], rfl, rfl, hb, by omega, by omega, ?_, fun nd H4 n4 s4 hnd => ?_⟩
      · simp
        exact Nat.le_trans (show m ≤ 1000 by omega) (by decide)
      rw [flat_reps, show ((m : Int)).toNat = m by omega] at hnd
      have sA : Same H2 H4 := s3.trans s4
      have n0 : H nd = none := by
        cases hx : H nd with
        | none => rfl
        | some o =>
          have := ((s1.trans s2).trans s3) _ _ hx
          rw [n4] at this
          cases this
      have n2 : H2 nd = none := by
        cases hx : H2 nd with
        | none => rfl
        | some o =>
          have := s3 _ _ hx
          rw [n4] at this
          cases this
      have hf4 : H4 f = some (.lst zs) := sA _ _ hf2
      have hz4 : Paired (LeadN K nd H4) zs found := L2.Paired.mapP hz2 fun v q z => by
        obtain ⟨t, b, e, h1, h2⟩ := z
        exact ⟨t, b, e, sA.tupT h1, sA _ _ h2, fun z => by rw [z, n2] at h2; cases h2⟩
      have hfn : f ≠ nd := fun z => by rw [z, n2] at hf2; cases hf2
      have hnd4 : H4 nd = some (.lst ((List.replicate m (0 : Int)).map V.int)) := by rw [List.map_replicate]; exact hnd
      have hfq4 : SqL K H4 f zs := SqL.of hf4
      refine Stop.cut (fun σ H' => ∃ (y5 y6 : Option V), σ = [some (.int p), some (.ref a), some (.int (m : Int)), some (.ref f), some (.ref nd), y5, y6] ∧ Same H H' ∧ H' nd = some (.lst ((LA.setN m (List.replicate m 0) found).map V.int))) (fun Qz hz => ?_) ?_
      · walk_at "rd"
        refine ⟨⟨_, hfq4⟩, ⟨for_it (walk_list (xs := zs)) (fun j σ H' => ∃ (y5 y6 : Option V), σ = [some (.int p), some (.ref a), some (.int (m : Int)), some (.ref f), some (.ref nd), y5, y6] ∧ Same H H' ∧ H' f = some (.lst zs) ∧ Paired (LeadN K nd H') zs found ∧ H' nd = some (.lst ((LA.setN m (List.replicate m 0) (found.take j)).map V.int)))
          ⟨_, _, rfl, (s1.trans s2).trans sA, hf4, hz4, hnd4⟩ (fun j σ H' _ ⟨_, _, _, _, h, _⟩ => SqL.of h) ?_ ?_⟩⟩
        · rintro j v _ H5 H6 hj ⟨y5, y6, rfl, s5, hf5, hz5, hnd5⟩ ⟨rfl, hv⟩
          obtain ⟨q0, hq0, t, b6, rfl, ht, hb6, hbn⟩ := OS.paired_get hz5 hv
          have hok := R.ok q0 (List.mem_of_getElem? hq0)
          have hlt : q0.1 < m := by
            have := hok.lt
            have := hno q0 (List.mem_of_getElem? hq0)
            omega
          have htk : found.take (j + 1) = found.take j ++ [q0] := by rw [List.take_succ, hq0]; rfl
          have hnx : LA.setN m (List.replicate m 0) (found.take (j + 1)) = (LA.setN m (List.replicate m 0) (found.take j)).set q0.1 (LA.at_ q0.2 m) := by
            rw [htk]
            unfold LA.setN
            rw [List.foldl_append]
            rfl
          have hln : (LA.setN m (List.replicate m 0) (found.take j)).length = m := by rw [LA.setN_len, List.length_replicate]
          rw [hnx]
          generalize LA.setN m (List.replicate m 0) (found.take j) = cur at hnd5 hln ⊢
          have hat : atI (q0.2.map V.int) (m : Int) = some (.int (LA.at_ q0.2 m)) := atI_at (by rw [hok.row.len]; omega)
          have hbq : SqL K H6 b6 (q0.2.map V.int) := SqL.of hb6
          refine ⟨t, _, rfl, ht, rfl, ?_⟩
          have hix : ixN (cur.map V.int).length (q0.1 : Int) = some q0.1 := by
            unfold ixN
            rw [if_pos (by omega), if_pos (by rw [List.length_map, hln]; omega)]
            rfl
          walk_at "rd"
          refine ⟨same_put s5 n0, by rw [upd_ne hfn]; exact hf5, L2.Paired.mapP hz5 fun v q z => ?_, by rw [upd_same, List.map_set]⟩
          obtain ⟨t, b, e, h1, h2, h3⟩ := z
          exact ⟨t, b, e, tupT_but hnd5 (fun c o q z => by rw [upd_ne z]; exact q) h1, by rw [upd_ne h3]; exact h2, h3⟩
        · rintro σ H5 ⟨y5, y6, rfl, s5, _, _, hnd5⟩
          rw [hzl, List.take_length] at hnd5
          exact hz _ _ ⟨y5, y6, rfl, s5, hnd5⟩
      · rintro _ H5 ⟨y5, y6, rfl, s5, hnd5⟩
        walk_at "rd"
        exact q _ rfl nd H5 n0 s5 hnd5
end
end P
set_option Elab.async false
set_option linter.all false
set_option maxRecDepth 100000
set_option maxHeartbeats 4000000
namespace P
open PySem PySem.Spec PyProof.Rows L2 OS
/-! short ways: "rd" opens a reading as far as equations go; "sep" finds what stands apart from the state; "sq" a list that is read; "nx" two heaps -/
local macro_rules | `(tactic| walk_at "sep") => `(tactic| first | assumption | (refine (by assumption : Nx _ _ _) _ _ ?_; walk_at "sep"))
local macro_rules | `(tactic| walk_at "sq") => `(tactic| first | assumption | exact .inl (.inl (by assumption)) | exact Sep.sq (by walk_at "sep") | exact Sep.st (by walk_at "sep") | exact .inl (.inl upd_same))
local macro_rules | `(tactic| walk_at "rd") => `(tactic| repeat (first
  | refine And.intro rfl ?_
  | apply Exists.intro
  | refine And.intro (by assumption) ?_
  | refine And.intro (DrawOk.mk (by omega) (by omega) (by omega)) ?_
  | refine And.intro at0 ?_
  | refine And.intro ⟨_, rfl⟩ ?_
  | refine And.intro (by walk_at "sq") ?_
  | refine And.intro (Or.inl (by walk_at "sq")) ?_
  | refine And.intro (Or.inr (by walk_at "sq")) ?_
  | refine And.intro (by omega) ?_))
section
variable {P : Program} {w : World} {K : PySem.W.Frag} {mg : Str → Option Value} {base : Heap}
/-- each column of the rows, the goal's number behind it -/
def eqsL (rows : List (List Int)) (gl : List Int) : List (List Int) := (List.range gl.length).map fun j => (rows.map fun r => LA.at_ r j) ++ [LA.at_ gl j]
/-- factors_for(prime, rows, goal) -/
def spFactors (T : Txt K mg) : Sp := fun vs H Q E => ∃ (v g : V) (a : Addr) (op : Option Int) (kk : Bool) (xs : List V) (os : List (Option (List V))) (og : Option (List V)), vs = [v, .ref a, g] ∧ PrV K H v op ∧ SqB kk K H a xs ∧ Paired (Thing K H) xs os ∧ Thing K H g og ∧ (∀ o ∈ os ++ [og], ∀ zs, o = some zs → zs.length ≤ 400) ∧ os.length ≤ 400 ∧
  (op = none → ∀ H', Same H H' → Flies E T.C_BadPrime "number" v H') ∧ (∀ p i u, op = some p → badRow p (os ++ [og]) = some i → (xs ++ [g])[i]? = some u → ∀ H', Same H H' → Flies E T.C_BadRow "value" u H') ∧
  (∀ p rows gl, op = some p → badRow p (os ++ [og]) = none → os = rows.map (fun r : List Int => some (r.map V.int)) → og = some (gl.map V.int) → solL p rows.length (eqsL rows gl) = none → ∀ H', Same H H' → Q .non H') ∧
  (∀ p rows gl ns, op = some p → badRow p (os ++ [og]) = none → os = rows.map (fun r : List Int => some (r.map V.int)) → og = some (gl.map V.int) → solL p rows.length (eqsL rows gl) = some ns → ∀ u H', H u = none → Same H H' → H' u = some (.lst (ns.map V.int)) → Q (.ref u) H')
theorem rows_split {rows : List (List Int)} {os : List (Option (List V))} {og : Option (List V)} (h : os ++ [og] = rows.map (fun r : List Int => some (r.map V.int))) : ∃ rs gl, rows = rs ++ [gl] ∧ os = rs.map (fun r : List Int => some (r.map V.int)) ∧ og = some (gl.map V.int) := by
  obtain ⟨l1, l2, e, h1, h2⟩ := List.map_eq_append_iff.mp h.symm
  obtain ⟨gl, t, rfl, hg, ht⟩ := List.map_eq_cons_iff.mp h2
  obtain rfl := List.map_eq_nil_iff.mp ht
  exact ⟨l1, gl, e, h1.symm, hg.symm⟩
theorem ok_factors_for (T : Txt K mg) : FnOk P w K mg base (L2.CX P w) 5 T.f_factors_for T.fd_factors_for ["prime", "rows", "goal"] (spFactors T) := by
  refine T.F_factors_for.okX sc_factors_for (fun vs H Q E h => ?_) (fun cdv A outer s H vs Q E hr h => ?_)
  · obtain ⟨v, g, a, op, kk, xs, os, og, rfl, _⟩ := h
    rfl
  · obtain ⟨v, g, a, op, kk, xs, os, og, rfl, hp, ha, hx, hg, hol, hos, qp, qr, qn, q⟩ := h
    refine ⟨_, (pss_cons (ps_expr (pe_call (ok_check_prime T) (hr.mono (by decide)) (by rfl) T.g_check_prime T.F_check_prime.kp T.b_check_prime .nil (passes_call (takes_of rfl rfl rfl rfl) (fun _ _ _ _ h => h)) (pa_cons (pv 0) pa_nil)))
    (pss_cons (ps_expr (pe_call (ok_check_rows T) (hr.mono (by decide)) (by rfl) T.g_check_rows T.F_check_rows.kp T.b_check_rows .nil (passes_call (takes_of rfl rfl rfl rfl) (fun _ _ _ _ h => h)) (pa_cons (pv 0) (pa_cons (pe_starL K rfl (pv 1) (pv 2)) pa_nil))))
    (pss_cons (ps_setLc (i := 3) (own := [("at", 5)]) (g := gName 5) (tt := tYes) rfl sc_factors_for.nd rfl rfl (sw_true rfl rfl rfl (by decide +kernel)) (pi_range1 rfl T.n_range (pa_cons (pe_callB (id := "len") (r := rLenS K) call_lenS (by rfl) T.n_len PySem.boot_len (pa_cons (pv 2) pa_nil)) pa_nil)) (blkOk_by (own := [("at", 5)]) (N := N_factors_for) (sc := defScope s_factors_for) (by decide +kernel)) (fun _ _ _ _ _ => (pg_name (i := 5) sc_factors_for.nd rfl (Or.inr rfl))) (fun _ _ _ _ _ => pts_nil) (fun _ _ _ _ _ => (pe_op op_catO (pe_lc (own := [("row", 4)]) (wi := iSeqB K _) (g := gName 4) (tt := tYes) rfl sc_factors_for.nd (pi_seqB (pv 1)) (blkOk_by (own := [("row", 4)]) (N := N_factors_for) (sc := { kind := ScopeKind.function, names := [(".0", NameKind.local), ("at", NameKind.cell), ("goal", NameKind.cell), ("rows", NameKind.cell)], isGenerator := false, isCoroutine := false }) (by decide +kernel)) (fun _ _ _ _ _ => (pg_name (i := 4) sc_factors_for.nd rfl (Or.inl rfl))) (fun _ _ _ _ _ => pts_nil) (fun _ _ _ _ _ => (pe_ix (r := rIxT K) ix_tup (pv 4) (pv 5) (fun _ _ => rfl)))) (pe_lstO (pa_cons (pe_ix (r := rIxT K) ix_tup (pv 2) (pv 5) (fun _ _ => rfl)) pa_nil)))))
    (pss_one (ps_ret (pe_call (ok_solved T) (hr.mono (by decide)) (by rfl) T.g_solved T.F_solved.kp T.b_solved .nil pass0 (pa_cons (pv 0) (pa_cons (pv 3) (pa_cons (pe_callB (id := "len") (r := rLenS K) call_lenS (by rfl) T.n_len PySem.boot_len (pa_cons (pv 1) pa_nil)) pa_nil))))))))), ?_⟩
    cases hp with
    | no hd hn =>
      walk_at "rd"
      exact ⟨fun _ => qp rfl, fun e => absurd (e.symm.trans hn) (by simp)⟩
    | ok p hpr =>
    have hd : Itm K H (.int p) := .flat rfl
    have hpl := pr_le hpr
    walk_at "rd"
    refine ⟨fun e => absurd (e.symm.trans hpr) (by simp), fun _ => ?_⟩
    have hao := (seq_or ha).symm
    have hxl := paired_len hx
    walk_at "rd"
    refine ⟨?_, fun l1 H1 n1 s1 h1 => ?_⟩
    · simp
      exact Nat.le_trans (show xs.length + 1 ≤ 1001 by omega) (by decide)
    have hub : SqB false K H1 l1 (xs ++ [g]) := SqL.of h1
    have hxx : Paired (Thing K H1) (xs ++ [g]) (os ++ [og]) := OS.paired_app (L2.Paired.mapP hx fun _ _ z => z.same s1) (.cons (hg.same s1) .nil)
    have hol' : ∀ o ∈ os ++ [og], ∀ zs, o = some zs → zs.length ≤ 1000 := fun o ho zs e => Nat.le_trans (hol o ho zs e) (by decide)
    walk_at "rd"
    refine ⟨fun i u hb hu H2 s2 => qr p i u rfl hb hu H2 (s1.trans s2), fun hgood H2 s2' => ?_⟩
    have s2 := s1.trans s2'
    clear hub hxx h1 n1 s2' s1 hao
    obtain ⟨rows', erows, hro, hw⟩ := badRow_rows hgood
    obtain ⟨rs, gl, rfl, rfl, rfl⟩ := rows_split erows
    have hgl := (hro gl (by simp)).len
    have hn1 := hw (by simp)
    have hn4 : gl.length ≤ 400 := by
      have := hol (some (gl.map V.int)) (by simp) _ rfl
      rw [List.length_map] at this
      exact this
    have hxr2 : Paired (RowV K H2) xs rs := L2.Paired.mapP (rows_things hx) fun _ _ z => z.same s2
    obtain ⟨ga, rfl, hga⟩ : ∃ ga, g = .ref ga ∧ SqT K H ga (gl.map V.int) := by
      cases hg with
      | tup q _ => exact ⟨_, rfl, q⟩
    have hga2 := s2.tupT hga
    have ha2 := ha.same s2
    have hrsl : rs.length = xs.length := by rw [hxl, List.length_map]
    have hrs4 : rs.length ≤ 400 := by rw [List.length_map] at hos; exact hos
    have hnR : (List.range gl.length).length = (((gl.map V.int).length : Nat) : Int).toNat := by
      rw [List.length_range, List.length_map]
      omega
    have hrow : ∀ r ∈ rs, r.length = gl.length := fun r hr => by rw [(hro r (by simp [hr])).len, hgl]
    walk_at "rd"
    refine ⟨by rw [List.length_map]; omega, ?_⟩
    refine fun D hD => ?_
    refine lc_relD walk_range (xs := List.range gl.length) hnR (by rw [List.length_map]; omega) (fun _ => true) (fun H j v => ∃ b, v = .ref b ∧ H b = some (.lst (((rs.map fun r => LA.at_ r j) ++ [LA.at_ gl j]).map V.int)) ∧ b ≠ D) hD ?_ (fun _ _ => trivial) ?_ ?_
    · rintro H7 H8 j v acc _ hDa kp ⟨b, e, h1, h2⟩
      exact ⟨b, e, kp _ _ h1 h2, h2⟩
    · intro i j x H4 H5 Qk Qn hj sm ⟨acc, hacc⟩ hy hk _
      obtain ⟨rfl, rfl⟩ := hy
      obtain ⟨hi, rfl⟩ := List.getElem?_eq_some_iff.mp hj
      rw [List.getElem_range] at hk
      have hin : i < gl.length := by simpa using hi
      have ha5 := ha2.same sm
      have hga5 := sm.tupT hga2
      have hxr5 : Paired (RowV K H5) xs rs := L2.Paired.mapP hxr2 fun _ _ z => z.same sm
      walk_at "rd"
      refine fun D2 hD2 => ?_
      refine lc_all (walk_seq (kk := kk) (xs := xs)) (xs := rs) hrsl (by omega) (fun r => V.int (LA.at_ r i)) hD2 (fun H s => ha5.same s) ?_ ?_
      · intro k r x H6 H7 Qk2 hr sm2 hy2 hk2
        obtain ⟨rfl, hx2⟩ := hy2
        obtain ⟨r', h1, h2⟩ := OS.paired_get hxr5 hx2
        obtain rfl : r' = r := Option.some.inj (h1.symm.trans hr)
        obtain ⟨b, rfl, hb⟩ := h2.same sm2
        have hat : atI (r'.map V.int) (0 + (i : Int)) = some (.int (LA.at_ r' i)) := by
          rw [Int.zero_add]
          exact atI_at (by rw [hrow r' (List.mem_of_getElem? hr)]; exact hin)
        walk_at "rd"
        exact hk2 _ (Same.refl _)
      · intro H6 s6 hD6
        have hD6' : H6 D2 = some (.lst ((rs.map fun r => LA.at_ r i).map V.int)) := by rw [List.map_map]; exact hD6
        have hga6 := s6.tupT hga5
        have hat : atI (gl.map V.int) (0 + (i : Int)) = some (.int (LA.at_ gl i)) := by
          rw [Int.zero_add]
          exact atI_at hin
        walk_at "rd"
        refine ⟨show 1 ≤ sizeLine by decide, fun e7 H7 n7 s7 he7 => ?_⟩
        refine ⟨D2, e7, _, _, rfl, rfl, s7 _ _ hD6', he7, ?_, fun r8 H8 n8 s8 hr8 => ?_⟩
        · simp
          exact Nat.le_trans (show rs.length + 1 ≤ 1001 by omega) (by decide)
        refine hk rfl _ _ ⟨r8, rfl, ?_, fun z => ?_⟩ ((s6.trans s7).trans s8)
        · rw [List.map_append]
          exact hr8
        · rw [z, (s6.trans s7) _ _ hacc] at n8
          cases n8
    · intro H4 acc s4 hD4 pr
      have hall : (List.range gl.length).filter (fun _ => true) = List.range gl.length := List.filter_eq_self.mpr fun _ _ => rfl
      rw [hall] at pr
      have hq4 : SqB false K H4 D acc := SqL.of hD4
      have hxr4 : Paired (RowB K H4) acc (eqsL rs gl) := paired_swap (paired_map (F := fun r v => RowB K H4 v r) (L2.Paired.mapP pr fun j v z => by
        obtain ⟨b, e, h1, _⟩ := z
        exact ⟨false, b, e, SqL.of h1⟩))
      have hrows : ∀ r ∈ eqsL rs gl, LA.Row p (rs.length + 1) r := fun r hr => by
        obtain ⟨j, hj, rfl⟩ := List.mem_map.mp hr
        refine ⟨by simp, fun x hx => ?_⟩
        rcases List.mem_append.mp hx with h | h
        · obtain ⟨r', hr', rfl⟩ := List.mem_map.mp h
          exact (hro r' (by simp [hr'])).la.at_rng (by omega) j
        · rw [List.mem_singleton.mp h]
          exact (hro gl (by simp)).la.at_rng (by omega) j
      have hpp := isPr_is hpr
      have hel : (eqsL rs gl).length ≤ 500 := by
        unfold eqsL
        rw [List.length_map, List.length_range]
        omega
      have hao4 := seq_or (ha2.same s4)
      have s24 := s2.trans s4
      rw [hrsl] at hrows
      walk_at "rd"
      rw [← hrsl]
      refine ⟨fun hn H5 s5 => qn p rs gl rfl hgood rfl rfl hn H5 (s24.trans s5), fun ns hns u H5 n5 s5 hu => q p rs gl ns rfl hgood rfl rfl hns u H5 ?_ (s24.trans s5) hu⟩
      cases hx : H u with
      | none => rfl
      | some o =>
        have := s24 _ _ hx
        rw [n5] at this
        cases this
end
end P
set_option Elab.async false
set_option linter.all false
namespace LA
/-! equations solved: factors for a goal, a blind row -/
section
variable {p : Int} {n m : Nat}
def solve (p : Int) (m : Nat) (rows : List (List Int)) : Option (List Int) := if (redL p rows).any (fun q => decide (q.1 = m)) then none else some (setN m (List.replicate m 0) (redL p rows))
theorem setN_rng : ∀ (found : List Lead) (ns : List Int), (∀ x ∈ ns, 0 ≤ x ∧ x < p) → (∀ q ∈ found, 0 ≤ at_ q.2 m ∧ at_ q.2 m < p) → ∀ x ∈ setN m ns found, 0 ≤ x ∧ x < p
  | [], _, h, _ => h
  | q :: found, ns, h, k => by
    show ∀ x ∈ setN m (ns.set q.1 (at_ q.2 m)) found, 0 ≤ x ∧ x < p
    refine setN_rng found _ (fun x hx => ?_) fun q' hq' => k q' (.tail _ hq')
    rcases List.mem_or_eq_of_mem_set hx with h1 | h1
    · exact h x h1
    · rw [h1]
      exact k q (.head _)
theorem solve_some (hp : Prm p) (hp0 : 0 < p) {rows : List (List Int)} {ns : List Int} (h : ∀ r ∈ rows, Row p (m + 1) r) (e : solve p m rows = some ns) : ns.length = m ∧ (∀ x ∈ ns, 0 ≤ x ∧ x < p) ∧ ∀ r ∈ rows, Solves p m (at_ ns) (at_ r) := by
  have R := red_all hp h
  unfold solve at e
  split at e
  · cases e
  · rename_i ha
    obtain rfl := Option.some.inj e
    have hno : ∀ q ∈ redL p rows, q.1 ≠ m := fun q hq z => ha (List.any_eq_true.mpr ⟨q, hq, by simpa using z⟩)
    refine ⟨by rw [setN_len, List.length_replicate], setN_rng _ _ (fun x hx => ?_) (fun q hq => (R.ok q hq).row.at_rng hp0 m), solves_all R hno⟩
    rw [(List.mem_replicate.mp hx).2]
    omega
theorem solve_none (hp : Prm p) {rows : List (List Int)} (h : ∀ r ∈ rows, Row p (m + 1) r) (e : solve p m rows = none) : ∃ q ∈ redL p rows, q.1 = m := by
  unfold solve at e
  split at e
  · rename_i ha
    obtain ⟨q, hq, hm⟩ := List.any_eq_true.mp ha
    exact ⟨q, hq, by simpa using hm⟩
  · cases e
theorem dotN_front {x v : Vec} : ∀ n, dotN x v (n + 1) = v 0 * x 0 + dotN (fun k => x (k + 1)) (fun k => v (k + 1)) n
  | 0 => by
    show (0 : Int) + v 0 * x 0 = v 0 * x 0 + 0
    omega
  | n + 1 => by
    show dotN x v (n + 1) + v (n + 1) * x (n + 1) = v 0 * x 0 + (dotN (fun k => x (k + 1)) (fun k => v (k + 1)) n + v (n + 1) * x (n + 1))
    rw [dotN_front n]
    omega
theorem dotN_ext {x v u : Vec} : ∀ {n : Nat}, (∀ k, k < n → u k = v k) → dotN x u n = dotN x v n
  | 0, _ => rfl
  | n + 1, h => by
    show dotN x u n + u n * x n = dotN x v n + v n * x n
    rw [dotN_ext fun k hk => h k (by omega), h n (by omega)]
theorem linf_dot (j : Nat) : ∀ (rows : List (List Int)) (f : Nat → Int), linf f (rows.map at_) j = dotN f (fun k => at_ (rows.getD k []) j) rows.length
  | [], _ => rfl
  | r :: rows, f => by
    show f 0 * at_ r j + linf (fun k => f (k + 1)) (rows.map at_) j = dotN f (fun k => at_ ((r :: rows).getD k []) j) (rows.length + 1)
    rw [dotN_front, linf_dot j rows]
    show f 0 * at_ r j + _ = at_ r j * f 0 + _
    rw [Int.mul_comm]
    rfl
/-- each column of the rows, the goal's number behind it -/
def eqs (rows : List (List Int)) (gl : List Int) : List (List Int) := (List.range gl.length).map fun j => (rows.map fun r => at_ r j) ++ [at_ gl j]
theorem eq_at {rows : List (List Int)} {gl : List Int} {j k : Nat} (hk : k < rows.length) : at_ ((rows.map fun r => at_ r j) ++ [at_ gl j]) k = at_ (rows.getD k []) j := by
  unfold at_
  rw [List.getD_eq_getElem?_getD, List.getElem?_append_left (by simpa using hk), List.getElem?_map, List.getD_eq_getElem?_getD (l := rows)]
  rw [List.getElem?_eq_getElem hk]
  rfl
theorem eq_end {rows : List (List Int)} {gl : List Int} {j : Nat} : at_ ((rows.map fun r => at_ r j) ++ [at_ gl j]) rows.length = at_ gl j := by
  rw [show at_ ((rows.map fun r => at_ r j) ++ [at_ gl j]) rows.length = ((rows.map fun r => at_ r j) ++ [at_ gl j]).getD rows.length 0 from rfl, List.getD_eq_getElem?_getD, List.getElem?_append_right (by simp)]
  simp
theorem eq_solves {rows : List (List Int)} {gl : List Int} {j : Nat} {c : List Int} (hc : c.length = rows.length) : Solves p rows.length (at_ c) (at_ ((rows.map fun r => at_ r j) ++ [at_ gl j])) ↔ p ∣ lin c (rows.map at_) j - at_ gl j := by
  unfold Solves
  rw [dotN_ext (v := fun k => at_ (rows.getD k []) j) (fun k hk => eq_at hk), eq_end, ← linf_dot, lin_linf (W := rows.map at_) j (by simp [hc])]
  rfl
theorem eqs_row (hp0 : 0 < p) {rows : List (List Int)} {gl : List Int} (h : ∀ r ∈ rows, Row p n r) (hg : Row p n gl) : ∀ r ∈ eqs rows gl, Row p (rows.length + 1) r := fun r hr => by
  obtain ⟨j, hj, rfl⟩ := List.mem_map.mp hr
  refine ⟨by simp, fun x hx => ?_⟩
  rcases List.mem_append.mp hx with a | a
  · obtain ⟨r', hr', rfl⟩ := List.mem_map.mp a
    exact (h r' hr').at_rng hp0 j
  · rw [List.mem_singleton.mp a]
    exact hg.at_rng hp0 j
/-- factors found make the goal -/
theorem fac_some (hp : Prm p) (hp0 : 0 < p) {rows : List (List Int)} {gl ns : List Int} (h : ∀ r ∈ rows, Row p n r) (hg : Row p n gl) (e : solve p rows.length (eqs rows gl) = some ns) :
    ns.length = rows.length ∧ (∀ x ∈ ns, 0 ≤ x ∧ x < p) ∧ ∀ j, j < n → p ∣ lin ns (rows.map at_) j - at_ gl j := by
  obtain ⟨h1, h2, h3⟩ := solve_some hp hp0 (eqs_row hp0 h hg) e
  exact ⟨h1, h2, fun j hj => (eq_solves h1).mp (h3 _ (List.mem_map.mpr ⟨j, List.mem_range.mpr (by rw [hg.len]; exact hj), rfl⟩))⟩
theorem fac_in (hp : Prm p) (hp0 : 0 < p) {rows : List (List Int)} {gl : List Int} (h : ∀ r ∈ rows, Row p n r) (hg : Row p n gl) : (solve p rows.length (eqs rows gl)).isSome = true ↔ InS p n (rows.map at_) (at_ gl) := by
  constructor
  · intro e
    obtain ⟨ns, e⟩ := Option.isSome_iff_exists.mp e
    obtain ⟨h1, h2, h3⟩ := fac_some hp hp0 h hg e
    exact ⟨ns, by simp [h1], fun j hj => dvd_congr (Int.dvd_neg.mpr (h3 j hj)) (by omega)⟩
  · rintro ⟨c, hc, hj⟩
    rw [List.length_map] at hc
    cases e : solve p rows.length (eqs rows gl) with
    | some ns => rfl
    | none =>
      obtain ⟨q, hq, hqm⟩ := solve_none hp (eqs_row hp0 h hg) e
      refine (no_solution hp (red_all hp (eqs_row hp0 h hg)) hq hqm (x := at_ c) fun r hr => ?_).elim
      obtain ⟨j, hjr, rfl⟩ := List.mem_map.mp hr
      exact (eq_solves hc).mpr (dvd_congr (Int.dvd_neg.mpr (hj j (by rw [← hg.len]; exact List.mem_range.mp hjr))) (by omega))
/-! a blind row -/
def goal1 (n : Nat) : List Int := 1 :: List.replicate (n - 1) 0
theorem goal1_len (h : 1 ≤ n) : (goal1 n).length = n := by
  unfold goal1
  rw [List.length_cons, List.length_replicate]
  omega
theorem goal1_row (hp : 2 ≤ p) (h : 1 ≤ n) : Row p n (goal1 n) := ⟨goal1_len h, fun x hx => by
  rcases List.mem_cons.mp hx with rfl | h1
  · omega
  · rw [(List.mem_replicate.mp h1).2]
    omega⟩
end
end LA
set_option Elab.async false
set_option linter.all false
set_option maxRecDepth 100000
set_option maxHeartbeats 4000000
namespace P
open PySem PySem.Spec PyProof.Rows L2 OS
/-! short ways: "rd" opens a reading as far as equations go; "sep" finds what stands apart from the state; "sq" a list that is read; "nx" two heaps -/
local macro_rules | `(tactic| walk_at "sep") => `(tactic| first | assumption | (refine (by assumption : Nx _ _ _) _ _ ?_; walk_at "sep"))
local macro_rules | `(tactic| walk_at "sq") => `(tactic| first | assumption | exact .inl (.inl (by assumption)) | exact Sep.sq (by walk_at "sep") | exact Sep.st (by walk_at "sep") | exact .inl (.inl upd_same))
local macro_rules | `(tactic| walk_at "rd") => `(tactic| repeat (first
  | refine And.intro rfl ?_
  | apply Exists.intro
  | refine And.intro (by assumption) ?_
  | refine And.intro (DrawOk.mk (by omega) (by omega) (by omega)) ?_
  | refine And.intro at0 ?_
  | refine And.intro ⟨_, rfl⟩ ?_
  | refine And.intro (by walk_at "sq") ?_
  | refine And.intro (Or.inl (by walk_at "sq")) ?_
  | refine And.intro (Or.inr (by walk_at "sq")) ?_
  | refine And.intro (by omega) ?_))
section
variable {P : Program} {w : World} {K : PySem.W.Frag} {mg : Str → Option Value} {base : Heap}
def someR (rows : List (List Int)) : List (Option (List V)) := rows.map fun r : List Int => some (r.map V.int)
theorem badRow_good {p : Int} {n : Nat} {rows : List (List Int)} (h1 : 1 ≤ n) (h : ∀ r ∈ rows, RowOk p n r) : badRow p (someR rows) = none := List.findIdx?_eq_none_iff.mpr fun o ho => by
  obtain ⟨r, hr, rfl⟩ := List.mem_map.mp ho
  have hw : wOf (someR rows) = n := by
    cases rows with
    | nil => cases hr
    | cons r0 rr =>
      show (r0.map V.int).length = n
      rw [List.length_map, (h r0 (.head _)).len]
  rw [hw]
  have : goodR p n (some (r.map V.int)) = true := by
    unfold goodR
    rw [decide_eq_true h1, Bool.true_and]
    exact (h r hr).nums
  rw [this]
  rfl
theorem someR_app (rows : List (List Int)) (gl : List Int) : someR rows ++ [some (gl.map V.int)] = someR (rows ++ [gl]) := by
  unfold someR
  rw [List.map_append]
  rfl
theorem someR_inj {a b : List (List Int)} (h : someR a = someR b) : a = b := by
  have inj : ∀ x y : List Int, x.map V.int = y.map V.int → x = y := fun x => by
    induction x with
    | nil => intro y h; exact (List.map_eq_nil_iff.mp h.symm).symm
    | cons i x ih =>
      intro y h
      obtain ⟨j, t, rfl, hj, ht⟩ := List.map_eq_cons_iff.mp h.symm
      injection hj with hj
      rw [hj, ih t ht.symm]
  induction a generalizing b with
  | nil => exact (List.map_eq_nil_iff.mp h.symm).symm
  | cons r a ih =>
    obtain ⟨r', b', rfl, hr, hb⟩ := List.map_eq_cons_iff.mp h.symm
    rw [ih hb.symm, inj _ _ (Option.some.inj hr)]
theorem gl_inj {x y : List Int} (h : some (x.map V.int) = some (y.map V.int)) : x = y := by
  have := someR_inj (a := [x]) (b := [y]) (by unfold someR; rw [List.map_cons, List.map_cons, h])
  exact List.head_eq_of_cons_eq this
/-- what factors_for tells: None, or a new list -/
def FacV (H0 H : Hp) (v : V) (o : Option (List Int)) : Prop := (o = none ∧ v = .non) ∨ ∃ u ns, o = some ns ∧ v = .ref u ∧ H0 u = none ∧ H u = some (.lst (ns.map V.int))
theorem rowsV_things {H : Hp} {xs : List V} {rows : List (List Int)} (h : Paired (RowV K H) xs rows) : Paired (Thing K H) xs (someR rows) := by
  unfold someR
  exact paired_swap (paired_map (F := fun o v => Thing K H v o) (paired_swap (L2.Paired.mapP h fun _ _ z => z.thing)))
theorem facs_good (T : Txt K mg) {p : Int} {n : Nat} {a g : Addr} {kk : Bool} {xs : List V} {rows : List (List Int)} {gl : List Int} {H : Hp} {Q : VK} {E : XK} (hp : isPr (.int p) = true) (h1 : 1 ≤ n) (hn : n ≤ 400) (ha : SqB kk K H a xs) (hx : Paired (RowV K H) xs rows) (hr : ∀ r ∈ rows, RowOk p n r) (hl : rows.length ≤ 400)
    (hg : SqT K H g (gl.map V.int)) (hgr : RowOk p n gl) (q : ∀ v H', Same H H' → FacV H H' v (solL p rows.length (eqsL rows gl)) → Q v H') : spFactors T [.int p, .ref a, .ref g] H Q E := by
  have hall : ∀ r ∈ rows ++ [gl], RowOk p n r := fun r hr' => (List.mem_append.mp hr').elim (hr r) fun z => by rw [List.mem_singleton.mp z]; exact hgr
  have hb : badRow p (someR rows ++ [some (gl.map V.int)]) = none := by rw [someR_app]; exact badRow_good h1 hall
  refine ⟨.int p, .ref g, a, some p, kk, xs, someR rows, some (gl.map V.int), rfl, .ok p hp, ha, rowsV_things hx, RowV.thing ⟨g, rfl, hg⟩, fun o ho zs e => ?_, by unfold someR; rw [List.length_map]; exact hl, (fun z => nomatch z), fun p' i u e hb' _ => ?_, fun p' rows' gl' e _ er eg hn H' s' => ?_, fun p' rows' gl' ns e _ er eg hn u H' nu s' hu => ?_⟩
  · rw [someR_app] at ho
    obtain ⟨r, hr', rfl⟩ := List.mem_map.mp ho
    obtain rfl := Option.some.inj e
    rw [List.length_map, (hall r hr').len]
    exact hn
  · obtain rfl := Option.some.inj e
    rw [hb] at hb'
    cases hb'
  · obtain rfl := Option.some.inj e
    obtain rfl := someR_inj er
    obtain rfl := gl_inj eg
    exact q _ H' s' (.inl ⟨hn, rfl⟩)
  · obtain rfl := Option.some.inj e
    obtain rfl := someR_inj er
    obtain rfl := gl_inj eg
    exact q _ H' s' (.inr ⟨u, ns, hn, rfl, nu, hu⟩)
theorem facs_in {p : Int} {n : Nat} {rows : List (List Int)} {gl : List Int} (hp : isPr (.int p) = true) (hr : ∀ r ∈ rows, RowOk p n r) (hg : RowOk p n gl) : (solL p rows.length (eqsL rows gl)).isSome = true ↔ LA.InS p n (rows.map LA.at_) (LA.at_ gl) :=
  LA.fac_in (LA.prm_of (isPr_is hp)) (by have := pr_le hp; omega) (fun r h => (hr r h).la) hg.la
theorem neP_same {H : Hp} {x y : V} {d : PyData} {Q : VK} (hx : Dp K H x d) (hy : Dp K H y d) (hd : d.depth ≤ 60) (q : Q (.bl false) H) : rNeP K x y H Q := ⟨d, d, hx, hy, hd, by rw [SeqAt.eqv_refl_plain d (dp_plain d _ hx)]; exact q⟩
theorem dp_intsT {H : Hp} {b : Addr} {ns : List Int} (h : SqT K H b (ns.map V.int)) : Dp K H (.ref b) (.tuple (ns.map .int)) := .tup h (dp_all (fun z => .int z) ns)
theorem depth_ints : ∀ ns : List Int, PyData.depthAll (ns.map .int) = 0
  | [] => by simp [PyData.depthAll]
  | n :: ns => by
    simp only [List.map_cons, PyData.depthAll, PyData.depth, depth_ints ns]
    rfl
theorem dec_bl (a b : Bool) : decide (V.bl a = V.bl b) = (a == b) := by
  cases a <;> cases b <;> rfl
theorem PrV.itm {H : Hp} {v : V} {op : Option Int} (h : PrV K H v op) : Itm K H v := by
  cases h with
  | ok p _ => exact .flat rfl
  | no h _ => exact h
theorem PrV.same {H H' : Hp} {v : V} {op : Option Int} (h : PrV K H v op) (s : Same H H') : PrV K H' v op := by
  cases h with
  | ok p h => exact .ok p h
  | no h e => exact .no (h.same s) e
end
end P
set_option Elab.async false
set_option linter.all false
set_option maxRecDepth 100000
set_option maxHeartbeats 4000000
namespace P
open PySem PySem.Spec PyProof.Rows L2 OS
/-! short ways: "rd" opens a reading as far as equations go; "sep" finds what stands apart from the state; "sq" a list that is read; "nx" two heaps -/
local macro_rules | `(tactic| walk_at "sep") => `(tactic| first | assumption | (refine (by assumption : Nx _ _ _) _ _ ?_; walk_at "sep"))
local macro_rules | `(tactic| walk_at "sq") => `(tactic| first | assumption | exact .inl (.inl (by assumption)) | exact Sep.sq (by walk_at "sep") | exact Sep.st (by walk_at "sep") | exact .inl (.inl upd_same))
local macro_rules | `(tactic| walk_at "rd") => `(tactic| repeat (first
  | refine And.intro rfl ?_
  | apply Exists.intro
  | refine And.intro (by assumption) ?_
  | refine And.intro (DrawOk.mk (by omega) (by omega) (by omega)) ?_
  | refine And.intro at0 ?_
  | refine And.intro ⟨_, rfl⟩ ?_
  | refine And.intro (by walk_at "sq") ?_
  | refine And.intro (Or.inl (by walk_at "sq")) ?_
  | refine And.intro (Or.inr (by walk_at "sq")) ?_
  | refine And.intro (by omega) ?_))
section
variable {P : Program} {w : World} {K : PySem.W.Frag} {mg : Str → Option Value} {base : Heap}
/-- the rows of a group -/
def gRows (ro : Str → List (List Int)) (g : List Str) : List (List Int) := g.flatMap ro
theorem gRows_snoc (ro : Str → List (List Int)) (g : List Str) (z : Str) : gRows ro (g ++ [z]) = gRows ro g ++ ro z := by
  unfold gRows
  rw [List.flatMap_append]
  simp
theorem gRows_len {p : Int} {n : Nat} {ws : List Str} {ro : Str → List (List Int)} (hro : ∀ k ∈ ws, RowsOk p n (ro k)) : ∀ {g : List Str}, (∀ z ∈ g, z ∈ ws) → (gRows ro g).length ≤ 16 * g.length
  | [], _ => by simp [gRows]
  | z :: g, h => by
    have h1 := gRows_len hro (g := g) fun y hy => h y (.tail _ hy)
    have h2 := (hro z (h z (.head _))).1
    unfold gRows at h1 ⊢
    rw [List.flatMap_cons, List.length_append, List.length_cons]
    omega
theorem gRows_ok {p : Int} {n : Nat} {ws : List Str} {ro : Str → List (List Int)} (hro : ∀ k ∈ ws, RowsOk p n (ro k)) {g : List Str} (h : ∀ z ∈ g, z ∈ ws) : ∀ r ∈ gRows ro g, RowOk p n r := fun r hr => by
  obtain ⟨z, hz, hrz⟩ := List.mem_flatMap.mp hr
  exact (hro z (h z hz)).2 r hrz
theorem no_lst {xs : List V} : ∀ ys, (HO.lst xs) ≠ .tup ys ∧ ∀ o, (HO.lst xs) ≠ .frz o (.tup ys) := fun xs => ⟨fun z => (by cases z), fun o z => (by cases z)⟩
theorem things_no_grp {ws : List Str} (hw : ws.Nodup) {g : List Str} (hg : g.Sublist ws) : isGrp ws (asThing g) = true := (isGrp_iff hw).mpr ⟨g, hg, rfl⟩
theorem asThing_inj {g g' : List Str} (h : asThing g = asThing g') : g = g' := List.map_inj_right (fun a b z => V.str.inj z) |>.mp (Option.some.inj h)
/-- rows_of_group(scheme, group) -/
def spRowsOf (T : Txt K mg) : Sp := fun vs H Q E => ∃ (f : Addr) (x : V) (p : Int) (n : Nat) (ws : List Str) (ro : Str → List (List Int)) (o : Option (List V)), vs = [.ref f, x] ∧ SchAt K T.C_Scheme H f p n ws ro ∧ NamesOk ws ∧ (∀ k ∈ ws, RowsOk p n (ro k)) ∧ Thing K H x o ∧
  (isGrp ws o = false → ∀ H', Same H H' → Flies E T.C_BadGroup "value" x H') ∧
  (∀ g : List Str, o = asThing g → g.Sublist ws → ∀ q H' xs, H q = none → Same H H' → H' q = some (.lst xs) → RowsV K H' xs (gRows ro g) → Q (.ref q) H')
theorem ok_rows_of_group (T : Txt K mg) : FnOk P w K mg base (L2.CX P w) 4 T.f_rows_of_group T.fd_rows_of_group ["scheme", "group"] (spRowsOf T) := by
  refine T.F_rows_of_group.okX sc_rows_of_group (fun vs H Q E h => ?_) (fun cdv A outer s H vs Q E hr h => ?_)
  · obtain ⟨f, x, p, n, ws, ro, o, rfl, _⟩ := h
    rfl
  · obtain ⟨f, x, p, n, ws, ro, o, rfl, hs, hws, hro, hx, qb, q⟩ := h
    refine ⟨_, (pss_cons (ps_if (pt_not (pt_val (pe_call (ok_is_group T) (hr.mono (by decide)) (by rfl) T.g_is_group T.F_is_group.kp T.b_is_group .nil pass0 (pa_cons (pe_prop (pv 0) T.cl_Scheme T.pp_persons_Scheme (ok_Scheme_persons T) (hr.mono (by decide)) T.b_Scheme_persons .nil pass0 rfl) (pa_cons (pv 1) pa_nil)))))
      (pss_one (ps_raise rfl (takes_of rfl rfl rfl rfl) (pmk_err T.er_BadGroup T.iC_BadGroup T.tI_BadGroup (ok_BadGroup__init_ T) (hr.mono (by decide)) T.b_BadGroup__init_ (by rfl) T.g_BadGroup (pv 1)))) pss_nil)
    (pss_one (ps_ret (pe_lc2 (wi1 := iList K (tMethSx T.C_Scheme "rows" (spSRows T) (fun _ => E0) (tVar 0) (tCons (tVar 2) tNil))) (own := [("name", 2), ("row", 3)]) (vs1 := [3]) (g := gName 2) (g1 := gName 3) (tt := tYes) (tt1 := tYes) rfl sc_rows_of_group.nd (pi_tup (pv 1)) (blkOk_by (own := [("name", 2), ("row", 3)]) (N := N_rows_of_group) (sc := defScope s_rows_of_group) (by decide +kernel)) (by decide) (fun _ _ _ _ _ => (pg_name (i := 2) sc_rows_of_group.nd rfl (Or.inl rfl))) (fun _ _ _ _ _ => pts_nil) (fun _ _ _ _ _ => (pi_list (pe_methSx (E := fun _ => E0) (pv 0) T.cl_Scheme T.me_rows (ok_Scheme_rows T) (hr.mono (by decide)) T.b_Scheme_rows (fun σ => at_of pass0x σ) (pa_cons (pv 2) pa_nil)))) (fun _ _ _ _ _ => (pg_name (i := 3) sc_rows_of_group.nd rfl (Or.inl rfl))) (fun _ _ _ _ _ => pts_nil) (fun _ _ _ _ _ => (pv 3)))))), ?_⟩
    obtain ⟨dx, pa, d, kvs, hf, hpa, hd, hh⟩ := id hs
    have cl := T.cl_Scheme
    have n3 := T.na_persons_Scheme
    have l3 := sch_persons p n pa d
    have h5 := hws.five
    have hl3 : ws.length ≤ 1000 := by omega
    walk_at "rd"
    intro H1 s1
    walk_at "rd"
    refine ite2 (fun e1 => ?_) (fun e1 => ?_)
    · have e2 : isGrp ws o = false := (Bool.not_eq_true' _).mp e1
      walk_at "rd"
      exact qb e2 H1 s1
    · have e2 : isGrp ws o = true := by simpa using e1
      obtain ⟨g, hg, rfl⟩ := (isGrp_iff hws.nd).mp e2
      obtain ⟨xa, rfl, hxa⟩ := Thing.grp (hx.same s1)
      have q1 := q g rfl hg
      have hgm : ∀ z ∈ g, z ∈ ws := fun z hz => hg.subset hz
      have hs1 := hs.same s1
      have hgl := hg.length_le
      clear q qb hx e1 e2
      walk_at "rd"
      refine ⟨⟨_, hxa⟩, fun D hD => ?_⟩
      refine lc2_it (walk_tup (xs := g.map V.str)) (fun i H' => Same H1 H' ∧ ∃ acc, H' D = some (.lst acc) ∧ RowsV K H' acc (gRows ro (g.take i))) ⟨same_new hD, [], upd_same, .nil⟩ (fun i H' _ h => h.1.tupT hxa) ?_ ?_
      · rintro i y H2 H3 hi ⟨s2, acc, hacc, hpr⟩ ⟨rfl, hy⟩
        have hi' : i < g.length := by simpa using hi
        obtain rfl := strs_get hy (List.getElem?_eq_getElem hi')
        have hkm := hgm _ (List.getElem_mem hi')
        have hs3 := hs1.same s2
        obtain ⟨dx3, pa3, d3, kvs3, hf3, _⟩ := id hs3
        have no := sch_no p n pa3 d3 (m := "rows") (by decide +kernel) (by decide +kernel) (by decide +kernel) (by decide +kernel)
        walk_at "rd"
        refine ⟨fun h => absurd hkm h, fun _ l H4 ys n4 s4 hl4 hx4 => ?_⟩
        have hlD : l ≠ D := (ne_of_none hacc n4).symm
        have hrk := hro _ hkm
        have htk : gRows ro (g.take (i + 1)) = gRows ro (g.take i) ++ ro g[i] := by
          rw [List.take_succ, List.getElem?_eq_getElem hi']
          exact gRows_snoc _ _ _
        have hlen := gRows_len hro (g := g.take i) fun z hz => hgm z (List.mem_of_mem_take hz)
        have hlen2 : (gRows ro (g.take i)).length ≤ 80 := by
          rw [List.length_take] at hlen
          omega
        have hyl := paired_len hx4
        walk_at "rd"
        refine ⟨⟨_, SqL.of hl4⟩, ?_⟩
        refine in_it (walk_list (xs := ys)) (fun j H' => Same H1 H' ∧ H' l = some (.lst ys) ∧ RowsV K H' ys (ro g[i]) ∧ ∃ acc, H' D = some (.lst acc) ∧ RowsV K H' acc (gRows ro (g.take i) ++ (ro g[i]).take j)) ⟨s2.trans s4, hl4, hx4, acc, s4 _ _ hacc, by simpa using hpr.same s4⟩ (fun j H' _ h => SqL.of h.2.1) ?_ ?_
        · rintro j v H5 H6 hj ⟨s5, hl5, hx5, acc5, hacc5, hpr5⟩ ⟨rfl, hv⟩
          obtain ⟨r, hrj, hrv⟩ := OS.paired_get hx5 hv
          have hal := paired_len hpr5
          have hjl : j < (ro g[i]).length := by omega
          refine ⟨rfl, ?_⟩
          walk_at "rd"
          have h100 : acc5.length ≤ 200 := by
            rw [hal, List.length_append, List.length_take]
            have := hrk.1
            omega
          refine ⟨Nat.lt_of_le_of_lt h100 (by decide), same_put s5 hD, ?_, ?_, acc5 ++ [v], upd_same, ?_⟩
          · rw [upd_ne hlD]
            exact hl5
          · exact L2.Paired.mapP hx5 fun _ _ z => z.but hacc5 no_lst fun b o e h => by rw [upd_ne h]; exact e
          · rw [List.take_succ, hrj]
            have e3 : gRows ro (g.take i) ++ ((ro g[i]).take j ++ (some r).toList) = (gRows ro (g.take i) ++ (ro g[i]).take j) ++ [r] := by simp
            rw [e3]
            have kp : ∀ {v r}, RowV K H6 v r → RowV K (upd H6 D (.lst (acc5 ++ [v]))) v r := fun z => z.but hacc5 no_lst fun b o e h => by rw [upd_ne h]; exact e
            refine OS.paired_app (L2.Paired.mapP hpr5 fun _ _ z => z.but hacc5 no_lst fun b o e h => by rw [upd_ne h]; exact e) (.cons (kp hrv) .nil)
        · rintro H5 ⟨s5, hl5, hx5, acc5, hacc5, hpr5⟩
          refine ⟨s5, acc5, hacc5, ?_⟩
          rw [htk]
          have e4 : (ro g[i]).take ys.length = ro g[i] := List.take_of_length_le (by omega)
          rw [e4] at hpr5
          exact hpr5
      · rintro H2 ⟨s2, acc, hacc, hpr⟩
        rw [List.length_map, List.take_length] at hpr
        exact q1 D H2 acc (s1.free hD) (s1.trans s2) hacc hpr
end
end P
set_option Elab.async false
set_option linter.all false
set_option maxRecDepth 100000
set_option maxHeartbeats 4000000
namespace P
open PySem PySem.Spec PyProof.Rows L2 OS
/-! short ways: "rd" opens a reading as far as equations go; "sep" finds what stands apart from the state; "sq" a list that is read; "nx" two heaps -/
local macro_rules | `(tactic| walk_at "sep") => `(tactic| first | assumption | (refine (by assumption : Nx _ _ _) _ _ ?_; walk_at "sep"))
local macro_rules | `(tactic| walk_at "sq") => `(tactic| first | assumption | exact .inl (.inl (by assumption)) | exact Sep.sq (by walk_at "sep") | exact Sep.st (by walk_at "sep") | exact .inl (.inl upd_same))
local macro_rules | `(tactic| walk_at "rd") => `(tactic| repeat (first
  | refine And.intro rfl ?_
  | apply Exists.intro
  | refine And.intro (by assumption) ?_
  | refine And.intro (DrawOk.mk (by omega) (by omega) (by omega)) ?_
  | refine And.intro at0 ?_
  | refine And.intro ⟨_, rfl⟩ ?_
  | refine And.intro (by walk_at "sq") ?_
  | refine And.intro (Or.inl (by walk_at "sq")) ?_
  | refine And.intro (Or.inr (by walk_at "sq")) ?_
  | refine And.intro (by omega) ?_))
section
variable {P : Program} {w : World} {K : PySem.W.Frag} {mg : Str → Option Value} {base : Heap}
/-- the factors that show that a group opens -/
def gFacs (p : Int) (n : Nat) (ro : Str → List (List Int)) (g : List Str) : Option (List Int) := solL p (gRows ro g).length (eqsL (gRows ro g) (goalL n))
def openB (p : Int) (n : Nat) (ro : Str → List (List Int)) (g : List Str) : Bool := (gFacs p n ro g).isSome
/-- a scheme that is right -/
structure SchOk (p : Int) (n : Nat) (ws : List Str) (ro : Str → List (List Int)) : Prop where
  pr : isPr (.int p) = true
  n1 : 1 ≤ n
  n40 : n ≤ 40
  nm : NamesOk ws
  rr : ∀ k ∈ ws, RowsOk p n (ro k)
theorem goal_ok {p : Int} {n : Nat} (hp : isPr (.int p) = true) (h1 : 1 ≤ n) : RowOk p n (goalL n) := ⟨goalL_len h1, (LA.goal1_row (by have := pr_le hp; omega) h1).rng⟩
/-- goal_factors(scheme, group) -/
def spGoalF (T : Txt K mg) : Sp := fun vs H Q E => ∃ (f : Addr) (x : V) (p : Int) (n : Nat) (ws : List Str) (ro : Str → List (List Int)) (o : Option (List V)), vs = [.ref f, x] ∧ SchAt K T.C_Scheme H f p n ws ro ∧ SchOk p n ws ro ∧ Thing K H x o ∧
  (isGrp ws o = false → ∀ H', Same H H' → Flies E T.C_BadGroup "value" x H') ∧
  (∀ g : List Str, o = asThing g → g.Sublist ws → ∀ v H', Same H H' → FacV H H' v (gFacs p n ro g) → Q v H')
theorem FacV.weak {H0 H1 H : Hp} {v : V} {o : Option (List Int)} (s : Same H0 H1) (h : FacV H1 H v o) : FacV H0 H v o := h.imp id fun ⟨u, ns, e, e2, n, q⟩ => ⟨u, ns, e, e2, s.free n, q⟩
theorem ok_goal_factors (T : Txt K mg) : FnOk P w K mg base (L2.CX P w) 6 T.f_goal_factors T.fd_goal_factors ["scheme", "group"] (spGoalF T) := by
  refine T.F_goal_factors.okX sc_goal_factors (fun vs H Q E h => ?_) (fun cdv A outer s H vs Q E hr h => ?_)
  · obtain ⟨f, x, p, n, ws, ro, o, rfl, _⟩ := h
    rfl
  · obtain ⟨f, x, p, n, ws, ro, o, rfl, hs, hok, hx, qb, q⟩ := h
    refine ⟨_, (pss_one (ps_ret (pe_call (ok_factors_for T) (hr.mono (by decide)) (by rfl) T.g_factors_for T.F_factors_for.kp T.b_factors_for .nil (passes_call (takes_of rfl rfl rfl rfl) (fun _ _ _ _ h => h)) (pa_cons (pe_prop (pv 0) T.cl_Scheme T.pp_prime (ok_Scheme_prime T) (hr.mono (by decide)) T.b_Scheme_prime .nil pass0 rfl) (pa_cons (pe_call (ok_rows_of_group T) (hr.mono (by decide)) (by rfl) T.g_rows_of_group T.F_rows_of_group.kp T.b_rows_of_group .nil (passes_call (takes_of rfl rfl rfl rfl) (fun _ _ _ _ h => h)) (pa_cons (pv 0) (pa_cons (pv 1) pa_nil))) (pa_cons (pe_call (ok_goal_row T) (hr.mono (by decide)) (by rfl) T.g_goal_row T.F_goal_row.kp T.b_goal_row .nil pass0 (pa_cons (pe_prop (pv 0) T.cl_Scheme T.pp_width (ok_Scheme_width T) (hr.mono (by decide)) T.b_Scheme_width .nil pass0 rfl) pa_nil)) pa_nil)))))), ?_⟩
    obtain ⟨dx, pa, d, kvs, hf, hpa, hd, hh⟩ := id hs
    have cl := T.cl_Scheme
    have n1 := T.na_prime
    have n2 := T.na_width
    have l1 := sch_prime p n pa d
    have l2 := sch_width p n pa d
    have hws := hok.nm
    have hro := hok.rr
    have h1 := hok.n1
    have h40 := hok.n40
    have h5 := hws.five
    walk_at "rd"
    refine fun g eg hg l H1 xs nl s1 hl hxs => ?_
    have hgm : ∀ z ∈ g, z ∈ ws := fun z hz => hg.subset hz
    have hgl := hg.length_le
    have hlen := gRows_len hro hgm
    have hrows := gRows_ok hro hgm
    have hf1 := s1 _ _ hf
    have hn900 : n ≤ 900 := by omega
    walk_at "rd"
    intro u H2 s2 hu
    refine tNil_i ?_
    refine facs_good (n := n) (kk := false) T hok.pr h1 (by omega) (SqL.of (s2 _ _ hl)) (L2.Paired.mapP hxs fun _ _ z => z.same s2) hrows (by omega) hu (goal_ok hok.pr h1) fun v H3 s3 hv => ?_
    exact q g eg hg v H3 ((s1.trans s2).trans s3) (hv.weak (s1.trans s2))
/-- scheme.opens(group) -/
def spSOpens (T : Txt K mg) : Sp := fun vs H Q E => ∃ (f : Addr) (x : V) (p : Int) (n : Nat) (ws : List Str) (ro : Str → List (List Int)) (o : Option (List V)), vs = [.ref f, x] ∧ SchAt K T.C_Scheme H f p n ws ro ∧ SchOk p n ws ro ∧ Thing K H x o ∧
  (isGrp ws o = false → ∀ H', Same H H' → Flies E T.C_BadGroup "value" x H') ∧
  (∀ g : List Str, o = asThing g → g.Sublist ws → ∀ H', Same H H' → Q (.bl (openB p n ro g)) H')
theorem ok_Scheme_opens (T : Txt K mg) : FnOk P w K mg base (L2.CX P w) 7 T.f_Scheme_opens T.fd_Scheme_opens ["self", "group"] (spSOpens T) := by
  refine T.F_Scheme_opens.okX sc_Scheme_opens (fun vs H Q E h => ?_) (fun cdv A outer s H vs Q E hr h => ?_)
  · obtain ⟨f, x, p, n, ws, ro, o, rfl, _⟩ := h
    rfl
  · obtain ⟨f, x, p, n, ws, ro, o, rfl, hs, hok, hx, qb, q⟩ := h
    refine ⟨_, (pss_one (ps_ret (pe_cmpR op_notN (pe_call (ok_goal_factors T) (hr.mono (by decide)) (by rfl) T.g_goal_factors T.F_goal_factors.kp T.b_goal_factors .nil (passes_call (takes_of rfl rfl rfl rfl) (fun _ _ _ _ h => h)) (pa_cons (pv 0) (pa_cons (pv 1) pa_nil))) pe_non (nomark _)))), ?_⟩
    walk_at "rd"
    refine fun g eg hg v H1 s1 hv => ?_
    walk_at "rd"
    have e : (!decide (v = V.non)) = openB p n ro g := by
      unfold openB
      rcases hv with ⟨e1, e2⟩ | ⟨u, ns, e1, e2, _⟩ <;> rw [e1, e2] <;> rfl
    rw [e]
    exact q g eg hg H1 s1
theorem grp_thing {H : Hp} {x : V} {g : List Str} (h : GrpV K H x g) : Thing K H x (asThing g) := by
  obtain ⟨a, rfl, h⟩ := h
  exact .tup h fun v hv => by
    obtain ⟨z, _, rfl⟩ := List.mem_map.mp hv
    exact .flat rfl
/-- fits(scheme, family) for the same persons -/
def fitB (p : Int) (n : Nat) (ws : List Str) (ro : Str → List (List Int)) (gs : List (List Str)) : Bool := (allG ws).all fun g => openB p n ro g == gs.any fun l => inside l g
def spFits (T : Txt K mg) : Sp := fun vs H Q _ => ∃ (f a : Addr) (p : Int) (n : Nat) (ws fw : List Str) (ro : Str → List (List Int)) (gs : List (List Str)), vs = [.ref f, .ref a] ∧ SchAt K T.C_Scheme H f p n ws ro ∧ SchOk p n ws ro ∧ FamAt K T.C_Family H a fw gs ∧ gs.length ≤ 900 ∧ (∀ g ∈ gs, g.length ≤ 900) ∧
  ∀ H', Same H H' → Q (.bl (decide (ws = fw) && fitB p n ws ro gs)) H'
theorem strs_eqv (a b : List Str) : PyData.eqv (.tuple (a.map .str)) (.tuple (b.map .str)) = decide (a = b) := eqv_G a b
theorem ok_fits (T : Txt K mg) : FnOk P w K mg base CX0 8 T.f_fits T.fd_fits ["scheme", "family"] (spFits T) := by
  refine T.F_fits.ok sc_fits (fun vs H Q E h => ?_) (fun cdv A outer s H vs Q E hr h => ?_)
  · obtain ⟨f, a, p, n, ws, fw, ro, gs, rfl, _⟩ := h
    rfl
  · obtain ⟨f, a, p, n, ws, fw, ro, gs, rfl, hs, hok, hfa, hgl, hgl2, q⟩ := h
    refine ⟨_, (pss_cons (ps_if (pt_cmpR (r := rNeP K) (op_neP (room65 hr)) (pe_prop (pv 0) T.cl_Scheme T.pp_persons_Scheme (ok_Scheme_persons T) (hr.mono (by decide)) T.b_Scheme_persons .nil pass0 rfl) (pe_prop (pv 1) T.cl_Family T.pp_persons_Family (ok_Family_persons T) (hr.mono (by decide)) T.b_Family_persons .nil pass0 rfl) (nomark _))
      (pss_one (ps_ret pe_bl)) pss_nil)
    (pss_one (ps_ret (pe_callB (id := "all") (r := rAll K) (cr_all rfl) (by rfl) T.n_all (by decide +kernel) (pa_cons (pe_lc (own := [("group", 2)]) (g := gName 2) (tt := tYes) rfl sc_fits.nd (pi_list (pe_call (ok_all_groups T) (hr.mono (by decide)) (by rfl) T.g_all_groups T.F_all_groups.kp T.b_all_groups .nil pass0 (pa_cons (pe_prop (pv 0) T.cl_Scheme T.pp_persons_Scheme (ok_Scheme_persons T) (hr.mono (by decide)) T.b_Scheme_persons .nil pass0 rfl) pa_nil))) (blkOk_by (own := [("group", 2)]) (N := N_fits) (sc := defScope s_fits) (by decide +kernel)) (fun _ _ _ _ _ => (pg_name (i := 2) sc_fits.nd rfl (Or.inl rfl))) (fun _ _ _ _ _ => pts_nil) (fun _ _ _ _ _ => (pe_cmpR op_eq (pe_methSx (E := fun _ => E0) (pv 0) T.cl_Scheme T.me_opens_Scheme (ok_Scheme_opens T) (hr.mono (by decide)) T.b_Scheme_opens (fun σ => at_of pass0x σ) (pa_cons (pv 2) pa_nil)) (pe_methSx (E := fun _ => E0) (pv 1) T.cl_Family T.me_opens_Family (ok_Family_opens T) (hr.mono (by decide)) T.b_Family_opens (fun σ => at_of pass0x σ) (pa_cons (pv 2) pa_nil)) (nomark _)))) pa_nil))))), ?_⟩
    obtain ⟨dx, pa, d, kvs, hf, hpa, hd, hh⟩ := id hs
    obtain ⟨dx2, fa, fb, fc, ys, hfi, hfa1, hfb1, hys, hfc1⟩ := id hfa
    have cl := T.cl_Scheme
    have n3 := T.na_persons_Scheme
    have l3 := sch_persons p n pa d
    have cl2 := T.cl_Family
    have n4 := T.na_persons_Family
    have l4 := flds_persons fa fb fc
    have h5 := hok.nm.five
    have hnd := hok.nm.nd
    have h8 : ws.length ≤ 8 := by omega
    have dS : Dp K H (.ref pa) (.tuple (ws.map .str)) := .tup hpa (dp_all (fun z => .str z) ws)
    have dF : Dp K H (.ref fa) (.tuple (fw.map .str)) := .tup hfa1 (dp_all (fun z => .str z) fw)
    walk_at "rd"
    have hdep : ∀ l : List Str, (PyData.tuple (l.map PyData.str)).depth ≤ 60 := fun l => by
      show (encG l).depth ≤ 60
      rw [depth_G]
      decide
    refine ⟨hdep ws, ?_⟩
    rw [strs_eqv]
    refine ⟨_, rfl, ite2 (fun e => ?_) (fun e => ?_)⟩
    · have e1 : decide (ws = fw) = false := (Bool.not_eq_true' _).mp e
      walk_at "rd"
      have := q H (Same.refl H)
      rw [e1, Bool.false_and] at this
      exact this
    · have e1 : decide (ws = fw) = true := by simpa using e
      rw [e1, Bool.true_and] at q
      obtain rfl := of_decide_eq_true e1
      walk_at "rd"
      intro l H1 xs nl s1 hl hxs
      have hal : (allG ws).length ≤ 256 := by rw [(allG_perm ws).length_eq]; exact sets_small h8
      have hxl := paired_len hxs
      walk_at "rd"
      refine ⟨⟨_, SqL.of hl⟩, fun D hD => ?_⟩
      refine lc_all (walk_list (xs := xs)) (xs := allG ws) hxl.symm (by omega) (fun g => V.bl (openB p n ro g == gs.any fun l => inside l g)) hD (fun H s => s.seq (SqL.of hl)) ?_ ?_
      · intro i g v H2 H3 Qk hgi sm hy hk
        obtain ⟨rfl, hv⟩ := hy
        obtain ⟨g', h1, h2⟩ := OS.paired_get hxs hv
        obtain rfl : g' = g := Option.some.inj (h1.symm.trans hgi)
        have h3 := h2.same sm
        have hs3 := hs.same (s1.trans sm)
        have hfa3 := hfa.same (s1.trans sm)
        have hgs : g'.Sublist ws := mem_allG.mp (List.mem_of_getElem? hgi)
        have hig := things_no_grp hnd hgs
        have hf3 := (s1.trans sm) _ _ hf
        have no := sch_no p n pa d (m := "opens") (by decide +kernel) (by decide +kernel) (by decide +kernel) (by decide +kernel)
        refine ⟨rfl, .ref f, rfl, f, dx, _, rfl, hf3, no, ?_⟩
        refine ⟨v, rfl, ?_⟩
        refine tNil_i ?_
        refine ⟨f, v, p, n, ws, ro, asThing g', rfl, hs3, hok, grp_thing h3, fun z => absurd hig (by rw [z]; simp), fun g2 eg _ H4 s4 => ?_⟩
        obtain rfl := asThing_inj eg
        have hfi4 := ((s1.trans sm).trans s4) _ _ hfi
        have no2 := flds_no fa fb fc (m := "opens") (by decide +kernel) (by decide +kernel) (by decide +kernel)
        refine ⟨.ref a, rfl, a, dx2, _, rfl, hfi4, no2, ?_⟩
        refine ⟨v, rfl, ?_⟩
        refine tNil_i ?_
        refine ⟨a, v, ws, gs, asThing g', rfl, hfa3.same s4, h8, hnd, hgl, hgl2, grp_thing (h3.same s4), fun z => absurd hig (by rw [z]; simp), fun g2 eg _ H5 s5 => ?_⟩
        obtain rfl := asThing_inj eg
        have := hk H5 (s4.trans s5)
        rw [← dec_bl] at this
        walk_at "rd"
        exact this
      · intro H2 s2 hD2
        refine ⟨D, (allG ws).map (fun g => openB p n ro g == gs.any fun l => inside l g), rfl, SqL.of (by rw [List.map_map]; exact hD2), ?_⟩
        have e2 : ((allG ws).map (fun g => openB p n ro g == gs.any fun l => inside l g)).all id = fitB p n ws ro gs := by
          unfold fitB
          rw [List.all_map]
          rfl
        rw [e2]
        exact q H2 (s1.trans s2)
end
end P
set_option Elab.async false
set_option linter.all false
set_option maxRecDepth 100000
set_option maxHeartbeats 4000000
namespace P
open PySem PySem.Spec PyProof.Rows L2 OS
/-! short ways: "rd" opens a reading as far as equations go; "sep" finds what stands apart from the state; "sq" a list that is read; "nx" two heaps -/
local macro_rules | `(tactic| walk_at "sep") => `(tactic| first | assumption | (refine (by assumption : Nx _ _ _) _ _ ?_; walk_at "sep"))
local macro_rules | `(tactic| walk_at "sq") => `(tactic| first | assumption | exact .inl (.inl (by assumption)) | exact Sep.sq (by walk_at "sep") | exact Sep.st (by walk_at "sep") | exact .inl (.inl upd_same))
local macro_rules | `(tactic| walk_at "rd") => `(tactic| repeat (first
  | refine And.intro rfl ?_
  | apply Exists.intro
  | refine And.intro (by assumption) ?_
  | refine And.intro (DrawOk.mk (by omega) (by omega) (by omega)) ?_
  | refine And.intro at0 ?_
  | refine And.intro ⟨_, rfl⟩ ?_
  | refine And.intro (by walk_at "sq") ?_
  | refine And.intro (Or.inl (by walk_at "sq")) ?_
  | refine And.intro (Or.inr (by walk_at "sq")) ?_
  | refine And.intro (by omega) ?_))
section
variable {P : Program} {w : World} {K : PySem.W.Frag} {mg : Str → Option Value} {base : Heap}
/-- the powers of k modulo p -/
def pw (p k : Int) : Nat → Int | 0 => 1 | j + 1 => pw p k j * k % p
def powL (p k : Int) (m : Nat) : List Int := (List.range m).map (pw p k)
theorem powL_len (p k : Int) (m : Nat) : (powL p k m).length = m := by
  unfold powL
  rw [List.length_map, List.length_range]
theorem powL_succ (p k : Int) (m : Nat) : powL p k (m + 1) = powL p k m ++ [pw p k m] := by
  unfold powL
  rw [List.range_succ, List.map_append]
  rfl
theorem pw_rng {p k : Int} (hp : 2 ≤ p) (j : Nat) : 0 ≤ pw p k j ∧ pw p k j < p := by
  cases j with
  | zero => exact ⟨by show (0 : Int) ≤ 1; decide, by show 1 < p; omega⟩
  | succ j => exact ⟨Int.emod_nonneg _ (by omega), Int.emod_lt_of_pos _ (by omega)⟩
theorem powL_ok {p k : Int} (hp : 2 ≤ p) (m : Nat) : RowOk p m (powL p k m) := ⟨powL_len p k m, fun i hi => by
  unfold powL at hi
  obtain ⟨j, _, rfl⟩ := List.mem_map.mp hi
  exact pw_rng hp j⟩
theorem powL_at {p k : Int} {m : Nat} : atI ((powL p k (m + 1)).map V.int) (-1) = some (.int (pw p k m)) := by
  rw [powL_succ, List.map_append]
  unfold atI
  simp only [List.length_append, List.length_map, powL_len, List.length_cons, List.length_nil]
  have e : ixN (m + (0 + 1)) (-1) = some m := by
    unfold ixN
    simp
    omega
  rw [e]
  show ((powL p k m).map V.int ++ [V.int (pw p k m)])[m]? = _
  rw [List.getElem?_append_right (by rw [List.length_map, powL_len]; omega), List.length_map, powL_len, Nat.sub_self]
  rfl
/-- powers(prime, number, many) -/
def spPow (K : PySem.W.Frag) : Sp := fun vs H Q _ => ∃ (p k : Int) (m : Nat), vs = [.int p, .int k, .int (m : Int)] ∧ 2 ≤ p ∧ p ≤ 11 ∧ 0 ≤ k ∧ k ≤ 100 ∧ 1 ≤ m ∧ m ≤ 100 ∧ ∀ q H', Same H H' → SqT K H' q ((powL p k m).map V.int) → Q (.ref q) H'
theorem ok_powers (T : Txt K mg) : FnOk P w K mg base CX0 1 T.f_powers T.fd_powers ["prime", "number", "many"] (spPow K) := by
  refine T.F_powers.ok sc_powers (fun vs H Q E h => ?_) (fun cdv A outer s H vs Q E hr h => ?_)
  · obtain ⟨p, k, m, rfl, _⟩ := h
    rfl
  · obtain ⟨p, k, m, rfl, hp, hp2, hk0, hk1, hm1, hm2, q⟩ := h
    refine ⟨_, (pss_cons (ps_set (i := 3) sc_powers.nd rfl (Or.inl rfl) (pe_lstO (pa_cons pe_int pa_nil)))
    (pss_stop (ps_while PassesOwn.never (pt_cmpR op_lt (pe_callB (id := "len") (r := rLenS K) call_lenS (by rfl) T.n_len PySem.boot_len (pa_cons (pv 3) pa_nil)) (pv 2) (nomark _)) (pss_one (ps_expr (pe_bm PySem.F.plainAttrs_list PySem.F.slot_list_append PySem.F.type_list_append mt_append (pv 3) (pa_cons (pe_op op_mod (pe_op op_mul (pe_ix (r := rIxL K) ix_list (pv 3) (pe_un un_neg pe_int) (fun _ _ => rfl)) (pv 1)) (pv 0)) pa_nil)))))
    (pss_one (ps_ret (pe_callTy (T := "tuple") (r := rTupL K) call_tupL (by rfl) T.n_tuple (by decide +kernel) (pa_cons (pv 3) pa_nil)))))), ?_⟩
    walk_at "rd"
    refine ⟨by decide, fun l H1 nl s1 hl => ?_⟩
    refine Stop.cut (fun σ H' => σ = [some (.int p), some (.int k), some (.int (m : Int)), some (.ref l)] ∧ Same H H' ∧ H' l = some (.lst ((powL p k m).map V.int))) (fun Qz hz => ?_) ?_
    · refine ⟨fun mm σ H' => ∃ j, mm = m - j ∧ 1 ≤ j ∧ j ≤ m ∧ σ = [some (.int p), some (.int k), some (.int (m : Int)), some (.ref l)] ∧ Same H H' ∧ H' l = some (.lst ((powL p k j).map V.int)), ⟨m - 1, 1, rfl, Nat.le_refl _, hm1, rfl, s1, hl⟩, ?_⟩
      rintro _ _ H2 ⟨j, rfl, hj1, hj2, rfl, s2, hl2⟩
      have hlq : SqL K H2 l ((powL p k j).map V.int) := SqL.of hl2
      walk_at "rd"
      rw [List.length_map, powL_len]
      refine ite2 (fun e => ?_) (fun e => ?_)
      · have hlt : j < m := by
          have := of_decide_eq_true e
          omega
        obtain ⟨i, rfl⟩ : ∃ i, j = i + 1 := ⟨j - 1, by omega⟩
        refine ⟨fun σ' H' => σ' = [some (.int p), some (.int k), some (.int (m : Int)), some (.ref l)] ∧ Same H H' ∧ H' l = some (.lst ((powL p k (i + 2)).map V.int)), fun σ' H' ⟨e1, e2, e3⟩ => ⟨m - (i + 2), by omega, i + 2, rfl, by omega, by omega, e1, e2, e3⟩, ?_⟩
        have hat := powL_at (p := p) (k := k) (m := i)
        have hpw := pw_rng (k := k) hp i
        have hcm : CMul (pw p k i) k := .inl ⟨by omega, by omega⟩
        have hp0 : 0 < p := by omega
        refine ⟨_, rfl, .inl ⟨rfl, _, hlq⟩, ?_⟩
        walk_at "rd"
        refine ⟨by rw [List.length_map, powL_len]; exact Nat.lt_of_le_of_lt (show i + 1 ≤ 100 by omega) (by decide), rfl, same_put s2 nl, ?_⟩
        rw [upd_same, powL_succ p k (i + 1), List.map_append]
        rfl
      · have : j = m := by
          have : ¬ ((j : Int) < (m : Int)) := fun z => e (decide_eq_true z)
          omega
        subst this
        exact hz _ _ ⟨rfl, s2, hl2⟩
    · rintro _ H2 ⟨rfl, s2, hl2⟩
      have hlq : SqL K H2 l ((powL p k m).map V.int) := SqL.of hl2
      walk_at "rd"
      intro t H3 n3 s3 ht3
      exact q t H3 (s2.trans s3) (SqT.of ht3)
end
end P
set_option Elab.async false
set_option linter.all false
set_option maxRecDepth 100000
set_option maxHeartbeats 4000000
namespace P
open PySem PySem.Spec PyProof.Rows L2 OS
/-! short ways: "rd" opens a reading as far as equations go; "sep" finds what stands apart from the state; "sq" a list that is read; "nx" two heaps -/
local macro_rules | `(tactic| walk_at "sep") => `(tactic| first | assumption | (refine (by assumption : Nx _ _ _) _ _ ?_; walk_at "sep"))
local macro_rules | `(tactic| walk_at "sq") => `(tactic| first | assumption | exact .inl (.inl (by assumption)) | exact Sep.sq (by walk_at "sep") | exact Sep.st (by walk_at "sep") | exact .inl (.inl upd_same))
local macro_rules | `(tactic| walk_at "rd") => `(tactic| repeat (first
  | refine And.intro rfl ?_
  | apply Exists.intro
  | refine And.intro (by assumption) ?_
  | refine And.intro (DrawOk.mk (by omega) (by omega) (by omega)) ?_
  | refine And.intro at0 ?_
  | refine And.intro ⟨_, rfl⟩ ?_
  | refine And.intro (by walk_at "sq") ?_
  | refine And.intro (Or.inl (by walk_at "sq")) ?_
  | refine And.intro (Or.inr (by walk_at "sq")) ?_
  | refine And.intro (by omega) ?_))
section
variable {P : Program} {w : World} {K : PySem.W.Frag} {mg : Str → Option Value} {base : Heap}
def posOf : List Str → Str → Nat | [], _ => 0 | y :: ws, z => if y = z then 0 else posOf ws z + 1
/-- one row each: powers of 1, 2, .. in the order of the names -/
def thrR (p : Int) (m : Nat) (ws : List Str) (z : Str) : List (List Int) := [powL p ((posOf ws z : Int) + 1) m]
theorem thr_ok {p : Int} {m : Nat} {ws : List Str} (hp : isPr (.int p) = true) (h1 : 1 ≤ m) (h5 : m ≤ 40) (hw : NamesOk ws) : SchOk p m ws (thrR p m ws) :=
  ⟨hp, h1, h5, hw, fun z _ => ⟨by show 1 ≤ 16; decide, fun r hr => by rw [List.mem_singleton.mp hr]; exact powL_ok (pr_le hp).1 m⟩⟩
theorem names_of {ps : List Str} (hb : ¬ badLen ps) (hw : wrongUp ps ps.length = none) : NamesOk (srt ps) := by
  have h5 : ps.length ≤ 5 := Nat.le_of_not_lt fun z => hb (.inr z)
  have h1 : 1 ≤ ps.length := Nat.le_of_not_lt fun z => hb (.inl z)
  exact ⟨by rw [srt_len]; exact h1, by rw [srt_len]; exact h5, srt_nodup (names_nodup hw), fun z hz => names_ok hw z ((srt_perm ps).mem_iff.mp hz)⟩
theorem idx_of : ∀ {ws : List Str}, ws.Nodup → ∀ {i : Nat} {z : Str}, ws[i]? = some z → posOf ws z = i
  | [], _, i, z, h => by simp at h
  | y :: ws, hn, 0, z, h => if_pos (Option.some.inj h)
  | y :: ws, hn, i + 1, z, h => by
    have h2 : ws[i]? = some z := h
    have hm := List.mem_of_getElem? h2
    have ne : y ≠ z := fun e => (List.nodup_cons.mp hn).1 (e ▸ hm)
    show (if y = z then 0 else posOf ws z + 1) = _
    rw [if_neg ne, idx_of (List.nodup_cons.mp hn).2 h2]
theorem RowsL.butD {H H' : Hp} {D : Addr} {kvs : List (Key × V)} (hD : H D = some (.dK kvs)) (k : ∀ b o, H b = some o → b ≠ D → H' b = some o) {v : V} {rs : List (List Int)} (h : RowsL K H v rs) : RowsL K H' v rs := by
  obtain ⟨b, xs, e, h1, h2⟩ := h
  refine ⟨b, xs, e, ?_, Paired.mapP h2 fun _ _ q => q.but hD no_dict k⟩
  rcases h1 with (h | ⟨o, h⟩) | h
  · exact .inl (.inl (k _ _ h fun z => by rw [z, hD] at h; cases h))
  · exact .inl (.inr ⟨o, k _ _ h fun z => by rw [z, hD] at h; cases h⟩)
  · exact .inr h
/-- threshold_scheme(persons, many, prime) -/
def spThrS (T : Txt K mg) : Sp := fun vs H Q E => ∃ (a : Addr) (k : Int) (v : V) (op : Option Int) (ps : List Str), vs = [.ref a, .int k, v] ∧ (SqL K H a (ps.map V.str) ∨ SqT K H a (ps.map V.str)) ∧ ps.length ≤ 900 ∧ (∀ z ∈ ps, z.length ≤ 1000) ∧ PrV K H v op ∧ NamesBad T E H ps ∧
  (¬ badLen ps → wrongUp ps ps.length = none → (k < 1 ∨ (ps.length : Int) < k) → ∀ H', Same H H' → Flies E T.C_BadCount "count" (.int k) H') ∧
  (¬ badLen ps → wrongUp ps ps.length = none → 1 ≤ k → k ≤ (ps.length : Int) → (∀ p, op = some p → p ≤ (ps.length : Int)) → ∀ H', Same H H' → Flies E T.C_BadPrime "number" v H') ∧
  (¬ badLen ps → wrongUp ps ps.length = none → 1 ≤ k → k ≤ (ps.length : Int) → ∀ p, op = some p → (ps.length : Int) < p → ∀ f H', H f = none → Same H H' → SchAt K T.C_Scheme H' f p k.toNat (srt ps) (thrR p k.toNat (srt ps)) → Q (.ref f) H')
theorem ok_threshold_scheme (T : Txt K mg) : FnOk P w K mg base (L2.CX P w) 7 T.f_threshold_scheme T.fd_threshold_scheme ["persons", "many", "prime"] (spThrS T) := by
  refine T.F_threshold_scheme.okX sc_threshold_scheme (fun vs H Q E h => ?_) (fun cdv A outer s H vs Q E hr h => ?_)
  · obtain ⟨a, k, v, op, ps, rfl, _⟩ := h
    rfl
  · obtain ⟨a, k, v, op, ps, rfl, ha, hl, hzl, hv, nb, cb, pb, q⟩ := h
    refine ⟨_, (pss_cons (ps_set (i := 3) sc_threshold_scheme.nd rfl (Or.inl rfl) (pe_prop (pe_cmethS (pe_glob (v := .ref T.C_Family) rfl T.g_Family rfl) T.cr_Family T.cm_threshold (ok_Family_threshold T) (hr.mono (by decide)) T.b_Family_threshold (fun σ => at_of (passes_call (takes_of rfl rfl rfl rfl) (fun _ _ _ _ h => h)) σ) (pa_cons (pv 0) (pa_cons (pv 1) pa_nil))) T.cl_Family T.pp_persons_Family (ok_Family_persons T) (hr.mono (by decide)) T.b_Family_persons .nil pass0 rfl))
    (pss_cons (ps_expr (pe_call (ok_check_prime T) (hr.mono (by decide)) (by rfl) T.g_check_prime T.F_check_prime.kp T.b_check_prime .nil (passes_call (takes_of rfl rfl rfl rfl) (fun _ _ _ _ h => h)) (pa_cons (pv 2) pa_nil)))
    (pss_cons (ps_if (pt_cmpR op_le (pv 2) (pe_callB (id := "len") (r := rLenS K) call_lenS (by rfl) T.n_len PySem.boot_len (pa_cons (pv 3) pa_nil)) (nomark _))
      (pss_one (ps_raise rfl (takes_of rfl rfl rfl rfl) (pmk_err T.er_BadPrime T.iC_BadPrime T.tI_BadPrime (ok_BadPrime__init_ T) (hr.mono (by decide)) T.b_BadPrime__init_ (by rfl) T.g_BadPrime (pv 2)))) pss_nil)
    (pss_one (ps_ret (pe_makeS T.mk_Scheme (ok_Scheme__init_ T) (hr.mono (by decide)) (by rfl) T.g_Scheme T.b_Scheme__init_ (fun σ => at_of (passes_call (takes_of rfl rfl rfl rfl) (fun _ _ _ _ h => h)) σ) (pa_cons (pv 2) (pa_cons (pv 1) (pa_cons (pe_dc (own := [("at", 4), ("name", 5)]) (g := gTup K 2 (gCons (gName 4) (gCons (gName 5) gNil))) (tt := tYes) rfl sc_threshold_scheme.nd (pi_enumS (by rfl) T.n_enumerate (pa_cons (pv 3) pa_nil)) (blkOk_by (own := [("at", 4), ("name", 5)]) (N := N_threshold_scheme) (sc := defScope s_threshold_scheme) (by decide +kernel)) (fun _ _ _ _ _ => (pg_tup rfl (pgs_cons (pg_name (i := 4) sc_threshold_scheme.nd rfl (Or.inl rfl)) (pgs_cons (pg_name (i := 5) sc_threshold_scheme.nd rfl (Or.inl rfl)) pgs_nil)))) (fun _ _ _ _ _ => pts_nil) (fun _ _ _ _ _ => (pv 5)) (fun _ _ _ _ _ => (pe_lstO (pa_cons (pe_call (ok_powers T) (hr.mono (by decide)) (by rfl) T.g_powers T.F_powers.kp T.b_powers .nil pass0 (pa_cons (pv 2) (pa_cons (pe_op op_add (pv 4) pe_int) (pa_cons (pv 1) pa_nil)))) pa_nil)))) pa_nil))))))))), ?_⟩
    refine ⟨rfl, ?_⟩
    refine ⟨.ref a, rfl, .int k, rfl, ?_⟩
    refine tNil_i ?_
    refine ⟨a, k, ps, rfl, ha, hl, hzl, nb, cb, fun hb hw hk1 hk2 f0 H1 nf0 s1 hfam => ?_⟩
    have cl := T.cl_Family
    have n4 := T.na_persons_Family
    obtain ⟨dx2, fa, fb, fc, ys, hfi, hfa1, hfb1, hys, hfc1⟩ := id hfam
    have l4 := flds_persons fa fb fc
    have pb1 := pb hb hw hk1 hk2
    have q1 := q hb hw hk1 hk2
    have hnm := names_of hb hw
    have hsl := srt_len ps
    have hss := srt_srt ps
    obtain ⟨m, rfl⟩ : ∃ m : Nat, k = (m : Int) := ⟨k.toNat, by omega⟩
    rw [Int.toNat_natCast] at q1
    clear q pb cb nb hfam
    generalize srt ps = ws at *
    have h5 := hnm.five
    have hvI := hv.itm.same s1
    cases hv with
    | no hd hn =>
      walk_at "rd"
      exact ⟨fun _ H' s' => pb1 (fun p e => nomatch e) H' (s1.trans s'), fun e => absurd (e.symm.trans hn) (by simp)⟩
    | ok p hpr =>
    have hp2 := pr_le hpr
    walk_at "rd"
    refine ⟨fun e => absurd (e.symm.trans hpr) (by simp), fun _ => ?_⟩
    walk_at "rd"
    have hlm : (ws.map V.str).length = ws.length := List.length_map _
    refine ite2 (fun e => ?_) (fun e => ?_)
    · have hle := of_decide_eq_true e
      rw [hlm] at hle
      walk_at "rd"
      exact pb1 (fun p' e' => by cases e'; omega) H1 s1
    · have hlt : (ps.length : Int) < p := by
        have : ¬ p ≤ (((ws.map V.str).length : Nat) : Int) := fun z => e (decide_eq_true z)
        rw [hlm] at this
        omega
      walk_at "rd"
      refine .inr ⟨⟨_, hfa1⟩, fun D hD => ?_⟩
      refine dc_names (walk_enumT (K := K) (a := fa) (xs := ws.map V.str)) (ks := ws) (by simp) (by simp; omega) hnm.nd (fun H z v => RowsL K H v (thrR p m ws z)) hD (fun H H' z v kvs _ hDk kp h => h.butD hDk kp) (fun H s => s.tupT hfa1) ?_ ?_
      · intro i z x H7 H8 Qk hzi sm hy hk'
        obtain ⟨t, xi, xn, rfl, nt, rfl, hxi, hxn⟩ := hy
        have hi' : i < ws.length := (List.getElem?_eq_some_iff.mp hzi).1
        obtain rfl := Option.some.inj hxi
        obtain rfl := strs_get hxn hzi
        have s2 : Same H7 (upd H7 t (.tup [.int (i : Nat), .str z])) := same_new nt
        have ht2 : SqT K (upd H7 t (.tup [.int (i : Nat), .str z])) t [.int (i : Nat), .str z] := SqT.of upd_same
        generalize upd H7 t (.tup [.int (i : Nat), .str z]) = H9 at s2 ht2 ⊢
        refine ⟨t, _, rfl, ht2, rfl, ?_⟩
        have hp11 := hp2.2
        walk_at "rd"
        intro u H10 s10 hu
        refine ⟨by show 1 ≤ sizeLine; decide, fun l H11 n11 s11 hl => ?_⟩
        refine hk' _ _ ⟨l, [.ref u], rfl, SqL.of hl, ?_⟩ ((s2.trans s10).trans s11)
        unfold thrR
        rw [idx_of hnm.nd hzi]
        exact .cons ⟨u, rfl, s11.tupT hu⟩ .nil
      · intro H7 kvs s7 hD7 hh7
        walk_at "rd"
        intro x dx nx ndx ne
        have s5 : Same H7 (upd (upd H7 dx (.own x)) x (.ins T.C_Scheme dx [])) := (same_new ndx).trans (same_new (by rw [upd_ne ne.symm]; exact nx))
        have hok := thr_ok (m := m) (ws := ws) hpr (by omega) (by omega) hnm
        refine ⟨x, D, dx, p, m, kvs, ws, thrR p m ws, rfl, upd_same, hpr, hok.n1, hok.n40, s5 _ _ hD7, hh7.mono fun _ _ z => z.same s5, hnm, hok.rr, fun H' kp hs => ⟨rfl, ?_⟩⟩
        rw [hss] at hs
        exact q1 p rfl hlt x H' ((s1.trans s7).free nx) (fun b o e => kp b o (s5 _ _ (s7 _ _ (s1 _ _ e))) (ne_of_none (s7 _ _ (s1 _ _ e)) nx)) hs
end
end P
set_option Elab.async false
set_option linter.all false
set_option maxRecDepth 100000
set_option maxHeartbeats 4000000
namespace P
open PySem PySem.Spec PyProof.Rows L2 OS
/-! short ways: "rd" opens a reading as far as equations go; "sep" finds what stands apart from the state; "sq" a list that is read; "nx" two heaps -/
local macro_rules | `(tactic| walk_at "sep") => `(tactic| first | assumption | (refine (by assumption : Nx _ _ _) _ _ ?_; walk_at "sep"))
local macro_rules | `(tactic| walk_at "sq") => `(tactic| first | assumption | exact .inl (.inl (by assumption)) | exact Sep.sq (by walk_at "sep") | exact Sep.st (by walk_at "sep") | exact .inl (.inl upd_same))
local macro_rules | `(tactic| walk_at "rd") => `(tactic| repeat (first
  | refine And.intro rfl ?_
  | apply Exists.intro
  | refine And.intro (by assumption) ?_
  | refine And.intro (DrawOk.mk (by omega) (by omega) (by omega)) ?_
  | refine And.intro at0 ?_
  | refine And.intro ⟨_, rfl⟩ ?_
  | refine And.intro (by walk_at "sq") ?_
  | refine And.intro (Or.inl (by walk_at "sq")) ?_
  | refine And.intro (Or.inr (by walk_at "sq")) ?_
  | refine And.intro (by omega) ?_))
section
variable {P : Program} {w : World} {K : PySem.W.Frag} {mg : Str → Option Value} {base : Heap}
theorem ok_law_good (T : Txt K mg) : FnOk P w K mg base CX0 1 T.f_law_good T.fd_law_good ["_law_word"] spName := by
  refine T.F_law_good.ok sc_law_good (fun vs H Q E h => ?_) (fun cdv A outer s H vs Q E hr h => ?_)
  · obtain ⟨z, rfl, _⟩ := h
    rfl
  · obtain ⟨z, rfl, hz, q⟩ := h
    refine ⟨_, (pss_cons (ps_set (i := 1) sc_law_good.nd rfl (Or.inr rfl) pe_str)
    (pss_cons (ps_if (PW.pt (pw_or (pt_cmpR op_lt (pe_callB (id := "len") call_len_str (by rfl) T.n_len PySem.boot_len (pa_cons (pv 0) pa_nil)) pe_int (nomark _)) (pw_or (pt_cmpR op_gt (pe_callB (id := "len") call_len_str (by rfl) T.n_len PySem.boot_len (pa_cons (pv 0) pa_nil)) pe_int (nomark _)) (pw_or1 (pt_cmpR op_notIn_sign (pe_ix ix_str (pv 0) pe_int (fun _ _ => rfl)) (pv 1) (by rfl))))))
      (pss_one (ps_ret pe_bl)) pss_nil)
    (pss_one (ps_ret (pe_cmpR (r := rEqP K) (op_eqP (room65 hr)) (pe_lc (own := [("_law_sign", 2)]) (g := gName 2) rfl sc_law_good.nd (pi_str (pv 0)) (blkOk_by (own := [("_law_sign", 2)]) (N := N_law_good) (sc := defScope s_law_good) (by decide +kernel)) (fun _ _ _ _ _ => (pg_name (i := 2) sc_law_good.nd rfl (Or.inl rfl))) (fun _ _ _ _ _ => (pts_one (pt_cmpR op_notIn_sign (pv 2) (pe_op op_add_str (pv 1) pe_str) (by rfl)))) (fun _ _ _ _ _ => (pv 2))) (pe_lstO pa_nil) (nomark _)))))), ?_⟩
    have hzl : z.length ≤ sizeLine := Nat.le_trans hz (by decide)
    have hl := len_list z
    have bad : okN z.cps.toList = false → Q (.bl false) H := fun e => by
      have := q H (Same.refl H)
      rwa [e] at this
    walk_at "rd"
    refine ite2 (fun e1 => ?_) (fun e1 => ?_)
    · have e1' := of_decide_eq_true e1
      refine iteT (bad ?_)
      unfold okN
      rw [hl, decide_eq_false (show ¬ 1 ≤ z.length by omega)]
      rfl
    · have e1' : 1 ≤ z.length := by
        apply Classical.byContradiction
        intro x
        exact e1 (decide_eq_true (by omega))
      walk_at "rd"
      refine ite2 (fun e2 => ?_) (fun e2 => ?_)
      · have e2' := of_decide_eq_true e2
        refine iteT (bad ?_)
        unfold okN
        rw [hl, decide_eq_false (show ¬ z.length ≤ 6 by omega), Bool.and_false]
        rfl
      · have e2' : z.length ≤ 6 := by
          apply Classical.byContradiction
          intro x
          exact e2 (decide_eq_true (by omega))
        obtain ⟨c, cs, hc⟩ : ∃ c cs, z.cps.toList = c :: cs := by
          cases e : z.cps.toList with
          | nil =>
            rw [e] at hl
            simp at hl
            omega
          | cons c cs => exact ⟨c, cs, rfl⟩
        have hN : okN z.cps.toList = (decide (c ∈ lowS.cps.toList) && z.cps.toList.all fun c => decide (c ∈ (lowS ++ digS).cps.toList)) := by
          unfold okN
          rw [hl, decide_eq_true (show 1 ≤ z.length by omega), decide_eq_true e2', Bool.true_and, Bool.true_and, show z.cps.toList.headD 0 = c by rw [hc]; rfl]
        walk_at "rd"
        refine ⟨show atI z.cps.toList 0 = some c by rw [hc]; exact atI_nat (j := 0) rfl, ?_⟩
        walk_at "rd"
        refine ite2 (fun e3 => ?_) (fun e3 => ?_)
        · refine bad ?_
          rw [hN, show decide (c ∈ lowS.cps.toList) = false from (Bool.not_eq_true' _).mp e3]
          rfl
        · have e3' : decide (c ∈ lowS.cps.toList) = true := (Bool.not_eq_false' _).mp ((Bool.not_eq_true _).mp e3)
          walk_at "rd"
          intro D hD
          refine lc_fn walk_str (xs := z.cps.toList) (by simp) (by show z.length ≤ 100000; exact Nat.le_trans hz (by decide)) (fun c => !decide (c ∈ (lowS ++ digS).cps.toList)) (fun c => V.str ⟨#[c]⟩) hD (fun _ _ => trivial) ?_ ?_
          · intro i a x H1 H2 Qk Qn ha sm hy hk hn
            obtain ⟨rfl, c', hc', rfl⟩ := hy
            have : a = c' := by
              rw [Array.getElem?_toList] at ha
              exact Option.some.inj (ha.symm.trans hc')
            subst this
            walk_at "rd"
            refine ⟨by decide +kernel, ?_⟩
            walk_at "rd"
            refine ite2 (fun e4 => ?_) (fun e4 => ?_)
            · walk_at "rd"
              exact hk e4 _ (Same.refl _)
            · exact hn ((Bool.not_eq_true _).mp e4) _ (Same.refl _)
          · intro H1 sm hD1
            walk_at "rd"
            refine ⟨by decide, fun p H2 np s2 hp => ?_⟩
            have d1 : Dp K H2 (.ref D) (.list (((z.cps.toList.filter fun c => !decide (c ∈ (lowS ++ digS).cps.toList)).map fun c => (⟨#[c]⟩ : Str)).map .str)) := dp_strs (SqL.of (by rw [List.map_map]; exact s2 _ _ hD1))
            refine ⟨_, _, d1, dp_nil (SqL.of hp), ?_, ?_⟩
            · have := depth_strs ((z.cps.toList.filter fun c => !decide (c ∈ (lowS ++ digS).cps.toList)).map fun c => (⟨#[c]⟩ : Str))
              simp only [PyData.depth]
              omega
            · have := q _ (sm.trans s2)
              rw [hN, e3', Bool.true_and] at this
              rw [eqv_nil, List.isEmpty_map, List.isEmpty_map, filter_empty]
              exact this
end
end P
set_option Elab.async false
set_option linter.all false
set_option maxRecDepth 100000
set_option maxHeartbeats 4000000
namespace P
open PySem PySem.Spec PyProof.Rows L2 OS
/-! short ways: "rd" opens a reading as far as equations go; "sep" finds what stands apart from the state; "sq" a list that is read; "nx" two heaps -/
local macro_rules | `(tactic| walk_at "sep") => `(tactic| first | assumption | (refine (by assumption : Nx _ _ _) _ _ ?_; walk_at "sep"))
local macro_rules | `(tactic| walk_at "sq") => `(tactic| first | assumption | exact .inl (.inl (by assumption)) | exact Sep.sq (by walk_at "sep") | exact Sep.st (by walk_at "sep") | exact .inl (.inl upd_same))
local macro_rules | `(tactic| walk_at "rd") => `(tactic| repeat (first
  | refine And.intro rfl ?_
  | apply Exists.intro
  | refine And.intro (by assumption) ?_
  | refine And.intro (DrawOk.mk (by omega) (by omega) (by omega)) ?_
  | refine And.intro at0 ?_
  | refine And.intro ⟨_, rfl⟩ ?_
  | refine And.intro (by walk_at "sq") ?_
  | refine And.intro (Or.inl (by walk_at "sq")) ?_
  | refine And.intro (Or.inr (by walk_at "sq")) ?_
  | refine And.intro (by omega) ?_))
section
variable {P : Program} {w : World} {K : PySem.W.Frag} {mg : Str → Option Value} {base : Heap}
/-- what is due -/
inductive OT | cnt (k : Int) | nm (z : Str) | tw (z : Str) | pr (v : V) | told
def dueT (ps : List Str) (k : Int) (v : V) (op : Option Int) : OT :=
  if badLen ps then .cnt (ps.length : Int) else match wrongUp ps ps.length with
  | some r => if r.1 = "name" then .nm r.2 else .tw r.2
  | none => if k < 1 ∨ (ps.length : Int) < k then .cnt k else match op with | none => .pr v | some p => if p ≤ (ps.length : Int) then .pr v else .told
def OutT (K : PySem.W.Frag) (H : Hp) (u : Addr) : OT → Prop
  | .cnt k => SqT K H u [.str "count", .int k] | .nm z => SqT K H u [.str "name", .str z] | .tw z => SqT K H u [.str "twice", .str z] | .pr v => SqT K H u [.str "prime", v] | .told => SqT K H u [.str "told", .int 0]
theorem due_c {ps : List Str} {k : Int} {v : V} {op : Option Int} (h : badLen ps) : dueT ps k v op = .cnt (ps.length : Int) := if_pos h
theorem due_n {ps : List Str} {k : Int} {v : V} {op : Option Int} {z : Str} (h : ¬ badLen ps) (e : wrongUp ps ps.length = some (("name" : Str), z)) : dueT ps k v op = .nm z := by
  unfold dueT
  rw [if_neg h, e]
  rfl
theorem k_tn : ¬ (("twice" : Str) = "name") := by decide +kernel
theorem due_t {ps : List Str} {k : Int} {v : V} {op : Option Int} {z : Str} (h : ¬ badLen ps) (e : wrongUp ps ps.length = some (("twice" : Str), z)) : dueT ps k v op = .tw z := by
  unfold dueT
  rw [if_neg h, e]
  exact if_neg k_tn
theorem due_k {ps : List Str} {k : Int} {v : V} {op : Option Int} (h : ¬ badLen ps) (e : wrongUp ps ps.length = none) (hk : k < 1 ∨ (ps.length : Int) < k) : dueT ps k v op = .cnt k := by
  unfold dueT
  rw [if_neg h, e]
  exact if_pos hk
theorem due_p {ps : List Str} {k : Int} {v : V} {op : Option Int} (h : ¬ badLen ps) (e : wrongUp ps ps.length = none) (h1 : 1 ≤ k) (h2 : k ≤ (ps.length : Int)) (hp : ∀ p, op = some p → p ≤ (ps.length : Int)) : dueT ps k v op = .pr v := by
  unfold dueT
  rw [if_neg h, e]
  simp only
  rw [if_neg (by omega)]
  cases op with
  | none => rfl
  | some p => exact if_pos (hp p rfl)
theorem due_told {ps : List Str} {k : Int} {v : V} {p : Int} (h : ¬ badLen ps) (e : wrongUp ps ps.length = none) (h1 : 1 ≤ k) (h2 : k ≤ (ps.length : Int)) (hp : (ps.length : Int) < p) : dueT ps k v (some p) = .told := by
  unfold dueT
  rw [if_neg h, e]
  simp only
  rw [if_neg (by omega)]
  exact if_neg (by omega)
/-- _law_due(labels, least, base) -/
def spDueT (K : PySem.W.Frag) : Sp := fun vs H Q _ => ∃ (a : Addr) (k : Int) (v : V) (op : Option Int) (ps : List Str), vs = [.ref a, .int k, v] ∧ SqL K H a (ps.map V.str) ∧ ps.length ≤ 900 ∧ (∀ z ∈ ps, z.length ≤ 1000) ∧ PrV K H v op ∧
  ∀ u H', Same H H' → OutT K H' u (dueT ps k v op) → Q (.ref u) H'
theorem ok_law_due (T : Txt K mg) : FnOk P w K mg base CX0 2 T.f_law_due T.fd_law_due ["_law_labels", "_law_least", "_law_base"] (spDueT K) := by
  refine T.F_law_due.ok sc_law_due (fun vs H Q E h => ?_) (fun cdv A outer s H vs Q E hr h => ?_)
  · obtain ⟨a, k, v, op, ps, rfl, _⟩ := h
    rfl
  · obtain ⟨a, k, v, op, ps, rfl, ha, hl, hzl, hv, q⟩ := h
    refine ⟨_, (pss_cons (ps_if (PW.pt (pw_or (pt_cmpR op_lt (pe_callB (id := "len") (r := rLenS K) call_lenS (by rfl) T.n_len PySem.boot_len (pa_cons (pv 0) pa_nil)) pe_int (nomark _)) (pw_or1 (pt_cmpR op_gt (pe_callB (id := "len") (r := rLenS K) call_lenS (by rfl) T.n_len PySem.boot_len (pa_cons (pv 0) pa_nil)) pe_int (nomark _)))))
      (pss_one (ps_ret (pe_tupO (pa_cons pe_str (pa_cons (pe_callB (id := "len") (r := rLenS K) call_lenS (by rfl) T.n_len PySem.boot_len (pa_cons (pv 0) pa_nil)) pa_nil))))) pss_nil)
    (pss_stop (ps_for PassesOwn.never rfl (pi_hold (pi_range1 rfl T.n_range (pa_cons (pe_callB (id := "len") (r := rLenS K) call_lenS (by rfl) T.n_len PySem.boot_len (pa_cons (pv 0) pa_nil)) pa_nil))) (pg_name (i := 3) sc_law_due.nd rfl (Or.inl rfl))
      (pss_cons (ps_if (pt_not (pt_val (pe_call (ok_law_good T) (hr.mono (by decide)) (by rfl) T.g_law_good T.F_law_good.kp T.b_law_good .nil pass0 (pa_cons (pe_ix (r := rIxL K) ix_list (pv 0) (pv 3) (fun _ _ => rfl)) pa_nil))))
      (pss_one (ps_ret (pe_tupO (pa_cons pe_str (pa_cons (pe_ix (r := rIxL K) ix_list (pv 0) (pv 3) (fun _ _ => rfl)) pa_nil))))) pss_nil)
    (pss_one (ps_if (pt_cmpR (r := rIn K false) op_in_seq (pe_ix (r := rIxL K) ix_list (pv 0) (pv 3) (fun _ _ => rfl)) (pe_slice (r := rSlLO K) sl_listO (pv 0) po_none (po_some (pv 3))) (by rfl))
      (pss_one (ps_ret (pe_tupO (pa_cons pe_str (pa_cons (pe_ix (r := rIxL K) ix_list (pv 0) (pv 3) (fun _ _ => rfl)) pa_nil))))) pss_nil))))
    (pss_cons (ps_if (PW.pt (pw_or (pt_cmpR op_lt (pv 1) pe_int (nomark _)) (pw_or1 (pt_cmpR op_gt (pv 1) (pe_callB (id := "len") (r := rLenS K) call_lenS (by rfl) T.n_len PySem.boot_len (pa_cons (pv 0) pa_nil)) (nomark _)))))
      (pss_one (ps_ret (pe_tupO (pa_cons pe_str (pa_cons (pv 1) pa_nil))))) pss_nil)
    (pss_cons (ps_if (PW.pt (pw_or (pt_not (pt_val (pe_callB (id := "isinstance") (r := rIsi K) call_isi (by rfl) T.n_isinstance (by decide +kernel) (pa_cons (pv 2) (pa_cons (pe_bltn (v := .ty "int") (u := .type "int") (by rfl) T.n_int (by decide +kernel) rfl) pa_nil))))) (pw_or (pt_val (pe_callB (id := "isinstance") (r := rIsi K) call_isi (by rfl) T.n_isinstance (by decide +kernel) (pa_cons (pv 2) (pa_cons (pe_bltn (v := .ty "bool") (u := .type "bool") (by rfl) T.n_bool (by decide +kernel) rfl) pa_nil)))) (pw_or (pt_cmpR (r := rNotInI K) (op_notInI (room65 hr)) (pv 2) (pe_lstO (pa_cons pe_int (pa_cons pe_int (pa_cons pe_int (pa_cons pe_int (pa_cons pe_int pa_nil)))))) (by rfl)) (pw_or1 (pt_cmpR op_le (pv 2) (pe_callB (id := "len") (r := rLenS K) call_lenS (by rfl) T.n_len PySem.boot_len (pa_cons (pv 0) pa_nil)) (nomark _)))))))
      (pss_one (ps_ret (pe_tupO (pa_cons pe_str (pa_cons (pv 2) pa_nil))))) pss_nil)
    (pss_one (ps_ret (pe_tupO (pa_cons pe_str (pa_cons pe_int pa_nil))))))))), ?_⟩
    have hlm : (ps.map V.str).length = ps.length := List.length_map _
    walk_at "rd"
    refine ite2 (fun e1 => ?_) (fun e1 => ?_)
    · have hb : badLen ps := .inl (by have := of_decide_eq_true e1; omega)
      refine iteT ?_
      walk_at "rd"
      refine ⟨by show 2 ≤ sizeLine; decide, fun u H4 n4 s4 hu => q u H4 s4 ?_⟩
      rw [due_c hb]
      rw [hlm] at hu
      exact SqT.of hu
    have e1' : 1 ≤ ps.length := by
      have : ¬ ((((ps.map V.str).length : Nat) : Int) < 1) := fun z => e1 (decide_eq_true z)
      omega
    walk_at "rd"
    refine ite2 (fun e2 => ?_) (fun e2 => ?_)
    · have hb : badLen ps := .inr (by have := of_decide_eq_true e2; omega)
      walk_at "rd"
      refine ⟨by show 2 ≤ sizeLine; decide, fun u H4 n4 s4 hu => q u H4 s4 ?_⟩
      rw [due_c hb]
      rw [hlm] at hu
      exact SqT.of hu
    have e2' : ps.length ≤ 5 := by
      have : ¬ ((5 : Int) < (((ps.map V.str).length : Nat) : Int)) := fun z => e2 (decide_eq_true (by omega))
      omega
    have hb : ¬ badLen ps := by
      rintro (z | z) <;> omega
    refine Stop.cut (fun σ H' => ∃ y, σ = [some (.ref a), some (.int k), some v, y] ∧ Same H H' ∧ wrongUp ps ps.length = none) (fun Qz hz => ?_) ?_
    · refine ⟨.ref a, rfl, a, ps.map V.str, rfl, .inl ha, _, rfl, by omega, by omega, ?_⟩
      refine ⟨for_it walk_range (fun i σ H' => ∃ y, σ = [some (.ref a), some (.int k), some v, y] ∧ Same H H' ∧ wrongUp ps i = none) ⟨none, rfl, Same.refl H, rfl⟩ (fun _ _ _ _ _ => trivial) ?_ ?_⟩
      · rintro i x _ H1 H2 hi ⟨y, rfl, s1, e3⟩ ⟨rfl, rfl⟩
        have hi' : i < ps.length := by simpa using hi
        have hgi : ps[i]? = some ps[i] := List.getElem?_eq_getElem hi'
        have hgd : ps.getD i default = ps[i] := by rw [List.getD_eq_getElem?_getD, hgi]; rfl
        have hz1 := hzl _ (List.getElem_mem hi')
        have hz2 : ps[i].length ≤ 100000 := by omega
        have ha1 := s1.seq ha
        have hat : atI (ps.map V.str) (0 + (i : Int)) = some (.str ps[i]) := by
          rw [Int.zero_add]
          exact atI_nat (by rw [List.getElem?_map, hgi]; rfl)
        have hup : wrongUp ps (i + 1) = badAt ps i := by
          show (match wrongUp ps i with | some r => some r | none => badAt ps i) = _
          rw [e3]
        walk_at "rd"
        intro H3 s3
        have s03 := s1.trans s3
        have ha3 := s03.seq ha
        walk_at "rd"
        refine ite2 (fun e4 => ?_) (fun e4 => ?_)
        · have e5 : okN ps[i].cps.toList = false := (Bool.not_eq_true' _).mp e4
          have hw : wrongUp ps (i + 1) = some (("name" : Str), ps[i]) := by
            rw [hup]
            unfold badAt
            rw [hgd, e5]
            rfl
          walk_at "rd"
          refine ⟨by show 2 ≤ sizeLine; decide, fun u H4 n4 s4 hu => q u H4 (s03.trans s4) ?_⟩
          rw [due_n hb (wrongUp_stay hw hi')]
          exact SqT.of hu
        · have e5 : okN ps[i].cps.toList = true := by simpa using e4
          have hcut : cutV (ps.map V.str) none (some (0 + (i : Int))) = (ps.take i).map V.str := by
            rw [Int.zero_add]
            unfold cutV
            rw [HT.sIx_none, HT.sIx_nat]
            simp [Nat.min_eq_left (Nat.le_of_lt hi')]
          walk_at "rd"
          rw [hcut]
          intro c H4 n4 s4 hc
          have s04 := s03.trans s4
          have ha4 := s04.seq ha
          have hc' : SqL K H4 c ((ps.take i).map V.str) ∨ SqT K H4 c ((ps.take i).map V.str) := .inl (SqL.of hc)
          walk_at "rd"
          refine ⟨strs_flat _, ?_⟩
          rw [inV_strs]
          walk_at "rd"
          refine ite2 (fun e6 => ?_) (fun e6 => ?_)
          · have hw : wrongUp ps (i + 1) = some (("twice" : Str), ps[i]) := by
              rw [hup]
              unfold badAt
              rw [hgd, if_pos e5, if_pos (of_decide_eq_true e6)]
            walk_at "rd"
            refine ⟨by show 2 ≤ sizeLine; decide, fun u H5 n5 s5 hu => q u H5 (s04.trans s5) ?_⟩
            rw [due_t hb (wrongUp_stay hw hi')]
            exact SqT.of hu
          · refine ⟨_, rfl, s04, ?_⟩
            rw [hup]
            unfold badAt
            rw [hgd, if_pos e5, if_neg (fun z => e6 (decide_eq_true z))]
      · rintro σ H1 ⟨y, rfl, s1, e3⟩
        exact hz _ _ ⟨y, rfl, s1, by simpa using e3⟩
    rintro _ H1 ⟨y, rfl, s1, hw⟩
    have ha1 := s1.seq ha
    walk_at "rd"
    refine ite2 (fun e3 => ?_) (fun e3 => ?_)
    · have hk := of_decide_eq_true e3
      refine iteT ?_
      walk_at "rd"
      refine ⟨by show 2 ≤ sizeLine; decide, fun u H4 n4 s4 hu => q u H4 (s1.trans s4) ?_⟩
      rw [due_k hb hw (.inl hk)]
      exact SqT.of hu
    have e3' : 1 ≤ k := by
      have : ¬ k < 1 := fun z => e3 (decide_eq_true z)
      omega
    walk_at "rd"
    refine ite2 (fun e4 => ?_) (fun e4 => ?_)
    · have hk : (ps.length : Int) < k := by have := of_decide_eq_true e4; omega
      walk_at "rd"
      refine ⟨by show 2 ≤ sizeLine; decide, fun u H4 n4 s4 hu => q u H4 (s1.trans s4) ?_⟩
      rw [due_k hb hw (.inr hk)]
      exact SqT.of hu
    have e4' : k ≤ (ps.length : Int) := by
      have : ¬ ((((ps.map V.str).length : Nat) : Int) < k) := fun z => e4 (decide_eq_true (by omega))
      omega
    have hv1 := hv.same s1
    have hI1 := hv1.itm
    obtain ⟨t, ht, k1, k2⟩ := itm_num hI1
    have bad : (∀ p, op = some p → p ≤ (ps.length : Int)) → ∀ u H', Same H1 H' → H' u = some (.tup [.str "prime", v]) → Q (.ref u) H' := fun hp u H' s' hu => q u H' (s1.trans s') (by
      rw [due_p hb hw e3' e4' hp]
      exact SqT.of hu)
    walk_at "rd"
    refine ⟨.ty _, ht, k1, ?_⟩
    walk_at "rd"
    have hno : isPr v = false → ∀ p, op = some p → p ≤ (ps.length : Int) := fun e p ep => by
      cases hv with
      | ok p' h => rw [h] at e; cases e
      | no _ _ => cases ep
    refine ite2 (fun e5 => ?_) (fun e5 => ?_)
    · have hp : isPr v = false := by
        cases v <;> first | rfl | exact absurd e5 (show ¬ (!true) = true by decide)
      refine iteT ?_
      walk_at "rd"
      exact ⟨by show 2 ≤ sizeLine; decide, fun u H4 n4 s4 hu => bad (hno hp) u H4 s4 hu⟩
    walk_at "rd"
    refine ⟨.ty _, ht, k2, ?_⟩
    walk_at "rd"
    refine ite2 (fun e6 => ?_) (fun e6 => ?_)
    · have hp : isPr v = false := by
        cases v <;> first | rfl | exact absurd e6 (show ¬ false = true by decide)
      refine iteT ?_
      walk_at "rd"
      exact ⟨by show 2 ≤ sizeLine; decide, fun u H4 n4 s4 hu => bad (hno hp) u H4 s4 hu⟩
    walk_at "rd"
    refine ⟨by show 5 ≤ sizeLine; decide, fun l5 H5 n5 s5 hl5 => ?_⟩
    refine ⟨l5, [2, 3, 5, 7, 11], rfl, hI1.same s5, .inl (SqL.of hl5), ?_⟩
    rw [any_pr]
    refine ⟨_, rfl, ite2 (fun e7 => ?_) (fun e7 => ?_)⟩
    · refine iteT ?_
      walk_at "rd"
      exact ⟨by show 2 ≤ sizeLine; decide, fun u H4 n4 s4 hu => bad (hno ((Bool.not_eq_true' _).mp e7)) u H4 (s5.trans s4) hu⟩
    cases hv with
    | no _ h => rw [h] at e7; exact absurd rfl e7
    | ok p hpr =>
    have ha5 := s5.seq ha1
    walk_at "rd"
    refine ite2 (fun e8 => ?_) (fun e8 => ?_)
    · have := of_decide_eq_true e8
      walk_at "rd"
      exact ⟨by show 2 ≤ sizeLine; decide, fun u H4 n4 s4 hu => bad (fun p' e => by cases e; omega) u H4 (s5.trans s4) hu⟩
    · have hlt : (ps.length : Int) < p := by
        have : ¬ p ≤ (((ps.map V.str).length : Nat) : Int) := fun z => e8 (decide_eq_true z)
        omega
      walk_at "rd"
      refine ⟨by show 2 ≤ sizeLine; decide, fun u H6 n6 s6 hu => q u H6 ((s1.trans s5).trans s6) ?_⟩
      rw [due_told hb hw e3' e4' hlt]
      exact SqT.of hu
end
end P
set_option Elab.async false
set_option linter.all false
set_option maxRecDepth 100000
set_option maxHeartbeats 4000000
namespace P
open PySem PySem.Spec PyProof.Rows L2 OS
/-! short ways: "rd" opens a reading as far as equations go; "sep" finds what stands apart from the state; "sq" a list that is read; "nx" two heaps -/
local macro_rules | `(tactic| walk_at "sep") => `(tactic| first | assumption | (refine (by assumption : Nx _ _ _) _ _ ?_; walk_at "sep"))
local macro_rules | `(tactic| walk_at "sq") => `(tactic| first | assumption | exact .inl (.inl (by assumption)) | exact Sep.sq (by walk_at "sep") | exact Sep.st (by walk_at "sep") | exact .inl (.inl upd_same))
local macro_rules | `(tactic| walk_at "rd") => `(tactic| repeat (first
  | refine And.intro rfl ?_
  | apply Exists.intro
  | refine And.intro (by assumption) ?_
  | refine And.intro (DrawOk.mk (by omega) (by omega) (by omega)) ?_
  | refine And.intro at0 ?_
  | refine And.intro ⟨_, rfl⟩ ?_
  | refine And.intro (by walk_at "sq") ?_
  | refine And.intro (Or.inl (by walk_at "sq")) ?_
  | refine And.intro (Or.inr (by walk_at "sq")) ?_
  | refine And.intro (by omega) ?_))
section
variable {P : Program} {w : World} {K : PySem.W.Frag} {mg : Str → Option Value} {base : Heap}
/-- _law_told(way, labels, least, base) -/
def spToldT (T : Txt K mg) : Sp := fun vs H Q _ => ∃ (g : Int) (a : Addr) (k : Int) (v : V) (op : Option Int) (ps : List Str), vs = [.int g, .ref a, .int k, v] ∧ (SqL K H a (ps.map V.str) ∨ SqT K H a (ps.map V.str)) ∧ ps.length ≤ 900 ∧ (∀ z ∈ ps, z.length ≤ 1000) ∧ PrV K H v op ∧
  (dueT ps k v op ≠ .told → ∀ u H', Same H H' → OutT K H' u (dueT ps k v op) → Q (.ref u) H') ∧
  (∀ p f u H', dueT ps k v op = .told → op = some p → ¬ badLen ps → wrongUp ps ps.length = none → 1 ≤ k → k ≤ (ps.length : Int) → (ps.length : Int) < p → Same H H' → SchAt K T.C_Scheme H' f p k.toNat (srt ps) (thrR p k.toNat (srt ps)) → SqT K H' u [.str "told", .ref f] → Q (.ref u) H')
theorem ok_law_told (T : Txt K mg) : FnOk P w K mg base CX0 8 T.f_law_told T.fd_law_told ["_law_way", "_law_labels", "_law_least", "_law_base"] (spToldT T) := by
  refine T.F_law_told.ok sc_law_told (fun vs H Q E h => ?_) (fun cdv A outer s H vs Q E hr h => ?_)
  · obtain ⟨g, a, k, v, op, ps, rfl, _⟩ := h
    rfl
  · obtain ⟨g, a, k, v, op, ps, rfl, ha, hl, hzl, hv, qb, q⟩ := h
    have hu65 := room65 hr
    refine ⟨_, (pss_one (ps_try_mix rfl rfl sc_law_told.nd takesNo (fun W pn xe tk _ => (pss_cons (ps_if (pt_cmpR op_eq (pv 0) pe_int (nomark _))
      (pss_one (ps_ret (pe_tupO (pa_cons pe_str (pa_cons (pe_callS (E := WE W) (ok_threshold_scheme T) (hr.mono (by decide)) (by rfl) T.g_threshold_scheme T.F_threshold_scheme.kp T.b_threshold_scheme (fun σ => passAt tk σ) (pa_cons (pv 1) (pa_cons (pv 2) (pa_cons (pv 3) pa_nil)))) pa_nil))))) pss_nil)
    (pss_one (ps_ret (pe_tupO (pa_cons pe_str (pa_cons (pe_callKS0 (E := WE W) (ok_threshold_scheme T) (hr.mono (by decide)) (by rfl) T.g_threshold_scheme T.F_threshold_scheme.kp T.kb_threshold_scheme_prime_many_persons (fun σ => passAt tk σ) (pk_cons (pv 3) (pk_cons (pv 2) (pk_cons (pv 1) pk_nil)))) pa_nil))))))) (HdsMix.cons ⟨rfl, by decide, .inl T.g_BadCount⟩ (.yes (i := 4) rfl rfl)
      (fun a oe cls d pn hz hf => (pss_one (ps_ret (pe_tupO (pa_cons pe_str (pa_cons (pe_xf T.er_BadCount.xf T.nf_BadCount hz hf (pv 4)) pa_nil)))))) (HdsMix.cons ⟨rfl, by decide, .inl T.g_BadName⟩ (.yes (i := 4) rfl rfl)
      (fun a oe cls d pn hz hf => (pss_one (ps_ret (pe_tupO (pa_cons pe_str (pa_cons (pe_xf T.er_BadName.xf T.nf_BadName hz hf (pv 4)) pa_nil)))))) (HdsMix.cons ⟨rfl, by decide, .inl T.g_DuplicateName⟩ (.yes (i := 4) rfl rfl)
      (fun a oe cls d pn hz hf => (pss_one (ps_ret (pe_tupO (pa_cons pe_str (pa_cons (pe_xf T.er_DuplicateName.xf T.nf_DuplicateName hz hf (pv 4)) pa_nil)))))) (HdsMix.cons ⟨rfl, by decide, .inl T.g_BadPrime⟩ (.yes (i := 4) rfl rfl)
      (fun a oe cls d pn hz hf => (pss_one (ps_ret (pe_tupO (pa_cons pe_str (pa_cons (pe_xf T.er_BadPrime.xf T.nf_BadPrime hz hf (pv 4)) pa_nil)))))) HdsMix.nil)))))), ?_⟩
    generalize hW : wMix _ _ _ _ = W
    have fBadCount : ∀ (k' : Int) H1, Same H H1 → (∀ u H', Same H H' → SqT K H' u [.str "count", .int k'] → Q (.ref u) H') → Flies (WE W (L2.start N_law_told [V.int g, V.ref a, V.int k, v])) T.C_BadCount "count" (.int k') H1 := fun k' H1 s1 q dx H2 n2 s2 hdx => by
      subst hW
      refine ⟨true, T.ex_BadCount_BadCount, fun _ ea hea => ?_, fun z => nomatch z⟩
      refine ⟨.ref ea, rfl, rfl, rfl, dx, _, (.int k'), rfl, hdx, by rfl, ?_⟩
      walk_at "rd"
      exact ⟨by show 2 ≤ sizeLine; decide, fun p H3 n3 s3 hp => q p H3 ((s1.trans s2).trans s3) (SqT.of hp)⟩
    have fBadName : ∀ (z : Str) H1, Same H H1 → (∀ u H', Same H H' → SqT K H' u [.str "name", .str z] → Q (.ref u) H') → Flies (WE W (L2.start N_law_told [V.int g, V.ref a, V.int k, v])) T.C_BadName "name" (.str z) H1 := fun z H1 s1 q dx H2 n2 s2 hdx => by
      subst hW
      refine ⟨false, T.ex_BadName_BadCount, (fun z => nomatch z), fun _ => ⟨true, T.ex_BadName_BadName, fun _ ea hea => ?_, fun z => nomatch z⟩⟩
      refine ⟨.ref ea, rfl, rfl, rfl, dx, _, (.str z), rfl, hdx, by rfl, ?_⟩
      walk_at "rd"
      exact ⟨by show 2 ≤ sizeLine; decide, fun p H3 n3 s3 hp => q p H3 ((s1.trans s2).trans s3) (SqT.of hp)⟩
    have fDuplicateName : ∀ (z : Str) H1, Same H H1 → (∀ u H', Same H H' → SqT K H' u [.str "twice", .str z] → Q (.ref u) H') → Flies (WE W (L2.start N_law_told [V.int g, V.ref a, V.int k, v])) T.C_DuplicateName "name" (.str z) H1 := fun z H1 s1 q dx H2 n2 s2 hdx => by
      subst hW
      refine ⟨false, T.ex_DuplicateName_BadCount, (fun z => nomatch z), fun _ => ⟨false, T.ex_DuplicateName_BadName, (fun z => nomatch z), fun _ => ⟨true, T.ex_DuplicateName_DuplicateName, fun _ ea hea => ?_, fun z => nomatch z⟩⟩⟩
      refine ⟨.ref ea, rfl, rfl, rfl, dx, _, (.str z), rfl, hdx, by rfl, ?_⟩
      walk_at "rd"
      exact ⟨by show 2 ≤ sizeLine; decide, fun p H3 n3 s3 hp => q p H3 ((s1.trans s2).trans s3) (SqT.of hp)⟩
    have fBadPrime : ∀ (v' : V) H1, Same H H1 → (∀ u H', Same H H' → SqT K H' u [.str "prime", v'] → Q (.ref u) H') → Flies (WE W (L2.start N_law_told [V.int g, V.ref a, V.int k, v])) T.C_BadPrime "number" v' H1 := fun v' H1 s1 q dx H2 n2 s2 hdx => by
      subst hW
      refine ⟨false, T.ex_BadPrime_BadCount, (fun z => nomatch z), fun _ => ⟨false, T.ex_BadPrime_BadName, (fun z => nomatch z), fun _ => ⟨false, T.ex_BadPrime_DuplicateName, (fun z => nomatch z), fun _ => ⟨true, T.ex_BadPrime_BadPrime, fun _ ea hea => ?_, fun z => nomatch z⟩⟩⟩⟩
      refine ⟨.ref ea, rfl, rfl, rfl, dx, _, v', rfl, hdx, by rfl, ?_⟩
      walk_at "rd"
      exact ⟨by show 2 ≤ sizeLine; decide, fun p H3 n3 s3 hp => q p H3 ((s1.trans s2).trans s3) (SqT.of hp)⟩
    clear hW
    have key : ∀ Q2 : VK, (∀ p f H', op = some p → ¬ badLen ps → wrongUp ps ps.length = none → 1 ≤ k → k ≤ (ps.length : Int) → (ps.length : Int) < p → Same H H' → SchAt K T.C_Scheme H' f p k.toNat (srt ps) (thrR p k.toNat (srt ps)) → Q2 (.ref f) H') → spThrS T [.ref a, .int k, v] H Q2 (WE W (L2.start N_law_told [V.int g, V.ref a, V.int k, v])) := fun Q2 hq => by
      refine ⟨a, k, v, op, ps, rfl, ha, hl, hzl, hv, ⟨fun hb H' s' => ?_, fun z H' hb e s' => ?_, fun z H' hb e s' => ?_⟩, fun hb e hk H' s' => ?_, fun hb e h1 h2 hp H' s' => ?_, fun hb e h1 h2 p ep hp f H' nf s' hs => hq p f H' ep hb e h1 h2 hp s' hs⟩
      · have d := due_c (k := k) (v := v) (op := op) hb
        rw [d] at qb
        exact fBadCount _ H' s' (qb (fun z => nomatch z))
      · have d := due_n (k := k) (v := v) (op := op) hb e
        rw [d] at qb
        exact fBadName _ H' s' (qb (fun z => nomatch z))
      · have d := due_t (k := k) (v := v) (op := op) hb e
        rw [d] at qb
        exact fDuplicateName _ H' s' (qb (fun z => nomatch z))
      · have d := due_k (v := v) (op := op) hb e hk
        rw [d] at qb
        exact fBadCount _ H' s' (qb (fun z => nomatch z))
      · have d := due_p (v := v) (op := op) hb e h1 h2 hp
        rw [d] at qb
        exact fBadPrime _ H' s' (qb (fun z => nomatch z))
    have fin : ∀ p f H', op = some p → ¬ badLen ps → wrongUp ps ps.length = none → 1 ≤ k → k ≤ (ps.length : Int) → (ps.length : Int) < p → Same H H' → SchAt K T.C_Scheme H' f p k.toNat (srt ps) (thrR p k.toNat (srt ps)) → ∀ u H2, Same H' H2 → H2 u = some (.tup [.str "told", .ref f]) → Q (.ref u) H2 := fun p f H' ep hb e h1 h2 hp s' hs u H2 s2 hu => by
      have d := due_told (v := v) hb e h1 h2 hp
      rw [← ep] at d
      exact q p f u H2 d ep hb e h1 h2 hp (s'.trans s2) (hs.same s2) (SqT.of hu)
    walk_at "rd"
    refine ite2 (fun e => ?_) (fun e => ?_)
    · refine ⟨.ref a, rfl, .int k, rfl, v, rfl, ?_⟩
      refine tNil_i ?_
      refine key _ fun p f H' ep hb e h1 h2 hp s' hs => ?_
      exact ⟨by show 2 ≤ sizeLine; decide, fun u H2 n2 s2 hu => fin p f H' ep hb e h1 h2 hp s' hs u H2 s2 hu⟩
    · refine ⟨v, rfl, .int k, rfl, .ref a, rfl, ?_⟩
      refine tNil_i ?_
      refine key _ fun p f H' ep hb e h1 h2 hp s' hs => ?_
      exact ⟨by show 2 ≤ sizeLine; decide, fun u H2 n2 s2 hu => fin p f H' ep hb e h1 h2 hp s' hs u H2 s2 hu⟩
end
end P
set_option Elab.async false
set_option linter.all false
set_option maxRecDepth 100000
set_option maxHeartbeats 4000000
namespace P
open PySem PySem.Spec PyProof.Rows L2 OS
/-! short ways: "rd" opens a reading as far as equations go; "sep" finds what stands apart from the state; "sq" a list that is read; "nx" two heaps -/
local macro_rules | `(tactic| walk_at "sep") => `(tactic| first | assumption | (refine (by assumption : Nx _ _ _) _ _ ?_; walk_at "sep"))
local macro_rules | `(tactic| walk_at "sq") => `(tactic| first | assumption | exact .inl (.inl (by assumption)) | exact Sep.sq (by walk_at "sep") | exact Sep.st (by walk_at "sep") | exact .inl (.inl upd_same))
local macro_rules | `(tactic| walk_at "rd") => `(tactic| repeat (first
  | refine And.intro rfl ?_
  | apply Exists.intro
  | refine And.intro (by assumption) ?_
  | refine And.intro (DrawOk.mk (by omega) (by omega) (by omega)) ?_
  | refine And.intro at0 ?_
  | refine And.intro ⟨_, rfl⟩ ?_
  | refine And.intro (by walk_at "sq") ?_
  | refine And.intro (Or.inl (by walk_at "sq")) ?_
  | refine And.intro (Or.inr (by walk_at "sq")) ?_
  | refine And.intro (by omega) ?_))
section
variable {P : Program} {w : World} {K : PySem.W.Frag} {mg : Str → Option Value} {base : Heap}
theorem ne_of_none' {H : Hp} {a b : Addr} {o : HO} (h : H a = none) (k : H b = some o) : a ≠ b := fun z => by
  rw [z, k] at h
  cases h
theorem eqvAll_ints : ∀ xs ys : List Int, PyData.eqvAll (xs.map .int) (ys.map .int) = decide (xs = ys)
  | [], [] => by simp [PyData.eqvAll]
  | [], _ :: _ => by simp [PyData.eqvAll]
  | _ :: _, [] => by simp [PyData.eqvAll]
  | x :: xs, y :: ys => by
    show (PyData.eqv (.int x) (.int y) && PyData.eqvAll (xs.map .int) (ys.map .int)) = _
    rw [eqvAll_ints xs ys]
    show ((x == y) && decide (xs = ys)) = decide (x :: xs = y :: ys)
    by_cases h1 : x = y <;> by_cases h2 : xs = ys <;> simp [h1, h2]
def lstD (r : List Int) : PyData := .list (r.map .int)
theorem eqv_lst (a b : List Int) : PyData.eqv (lstD a) (lstD b) = decide (a = b) := eqvAll_ints a b
theorem lstD_depth (r : List Int) : (lstD r).depth ≤ 60 := by
  unfold lstD
  simp only [PyData.depth, depth_ints]
  decide
/-- the first that t holds of, by indices -/
theorem range_filter {t : List Int → Bool} : ∀ l : List (List Int), (((List.range l.length).filter fun k => t (l.getD k [])) = [] → l.filter t = []) ∧
    ∀ k ks, ((List.range l.length).filter fun k => t (l.getD k [])) = k :: ks → ∃ r rest, l[k]? = some r ∧ t r = true ∧ l.filter t = r :: rest ∧ ∀ i u, i < k → l[i]? = some u → t u = false
  | [] => ⟨fun _ => rfl, fun k ks h => by simp at h⟩
  | a :: l => by
    have ih := range_filter (t := t) l
    have e : ((List.range (a :: l).length).filter fun k => t ((a :: l).getD k [])) = if t a = true then 0 :: (((List.range l.length).filter fun k => t (l.getD k [])).map Nat.succ) else (((List.range l.length).filter fun k => t (l.getD k [])).map Nat.succ) := by
      rw [List.length_cons, List.range_succ_eq_map, List.filter_cons, List.filter_map]
      rfl
    rw [e]
    by_cases ha : t a = true
    · rw [if_pos ha]
      refine ⟨(fun h => by cases h), fun k ks h => ?_⟩
      obtain ⟨rfl, _⟩ := List.cons.inj h
      exact ⟨a, l.filter t, rfl, ha, by rw [List.filter_cons, if_pos ha], fun i u hi => absurd hi (by omega)⟩
    · rw [if_neg ha]
      have ef : (a :: l).filter t = l.filter t := by rw [List.filter_cons, if_neg ha]
      refine ⟨fun h => ?_, fun k ks h => ?_⟩
      · rw [ef]
        exact ih.1 (List.map_eq_nil_iff.mp h)
      · obtain ⟨k', ks', h1, rfl, h3⟩ := List.map_eq_cons_iff.mp h
        obtain ⟨r, rest, g1, g2, g3, g4⟩ := ih.2 k' ks' h1
        refine ⟨r, rest, g1, g2, by rw [ef, g3], fun i u hi hu => ?_⟩
        cases i with
        | zero =>
          obtain rfl : a = u := Option.some.inj hu
          exact (Bool.not_eq_true _).mp ha
        | succ i => exact g4 i u (by omega) hu
/-- the list without the first that is such -/
theorem data_place {left : List (List Int)} {k : Nat} {r : List Int} {t : List Int → Bool} (hk : left[k]? = some r) (ht : t r = true) (hb : ∀ i u, i < k → left[i]? = some u → t u = false) : SeqAt.dataPlace (left.map lstD) (lstD r) = some k := by
  unfold SeqAt.dataPlace
  obtain ⟨hl, rfl⟩ := List.getElem?_eq_some_iff.mp hk
  refine List.findIdx?_eq_some_iff_getElem.mpr ⟨by rw [List.length_map]; exact hl, by simp [eqv_lst], fun j hj => ?_⟩
  have hjl : j < left.length := by omega
  have := hb j left[j] hj (List.getElem?_eq_getElem hjl)
  simp only [List.getElem_map, eqv_lst]
  rw [decide_eq_false]
  · simp
  · intro e
    rw [e, ht] at this
    cases this
def minusL (p : Int) (n j : Nat) (r hd : List Int) : List Int := (List.range n).map fun i => (LA.at_ r i - LA.at_ r j * LA.at_ hd i) % p
theorem minus_row {p : Int} {n j : Nat} {r hd : List Int} (hp : 0 < p) : LA.Row p n (minusL p n j r hd) := ⟨by unfold minusL; rw [List.length_map, List.length_range], fun x hx => by
  unfold minusL at hx
  obtain ⟨i, _, rfl⟩ := List.mem_map.mp hx
  exact LA.mod_rng hp _⟩
/-- _law_minus(prime, row, lead, place) -/
def spMinus (K : PySem.W.Frag) : Sp := fun vs H Q _ => ∃ (p : Int) (n j : Nat) (a b : Addr) (r hd : List Int), vs = [.int p, .ref a, .ref b, .int (j : Int)] ∧ 0 < p ∧ p ≤ 11 ∧ SqL K H a (r.map V.int) ∧ SqL K H b (hd.map V.int) ∧ LA.Row p n r ∧ hd.length = n ∧ j < n ∧ n ≤ 1000 ∧
  ∀ u H', H u = none → Same H H' → H' u = some (.lst ((minusL p n j r hd).map V.int)) → Q (.ref u) H'
theorem ok_law_minus (T : Txt K mg) : FnOk P w K mg base CX0 1 T.f_law_minus T.fd_law_minus ["_law_prime1", "_law_row", "_law_lead", "_law_place"] (spMinus K) := by
  refine T.F_law_minus.ok sc_law_minus (fun vs H Q E h => ?_) (fun cdv A outer s H vs Q E hr h => ?_)
  · obtain ⟨p, n, j, a, b, r, hd, rfl, _⟩ := h
    rfl
  · obtain ⟨p, n, j, a, b, r, hd, rfl, hp0, hp11, ha, hb, hrw, hhl, hj, hn, q⟩ := h
    refine ⟨_, (pss_cons (ps_set (i := 4) sc_law_minus.nd rfl (Or.inr rfl) (pe_ix (r := rIxL K) ix_list (pv 1) (pv 3) (fun _ _ => rfl)))
    (pss_one (ps_ret (pe_lc (own := [("_law_k", 5)]) (g := gName 5) (tt := tYes) rfl sc_law_minus.nd (pi_range1 rfl T.n_range (pa_cons (pe_callB (id := "len") (r := rLenS K) call_lenS (by rfl) T.n_len PySem.boot_len (pa_cons (pv 1) pa_nil)) pa_nil)) (blkOk_by (own := [("_law_k", 5)]) (N := N_law_minus) (sc := defScope s_law_minus) (by decide +kernel)) (fun _ _ _ _ _ => (pg_name (i := 5) sc_law_minus.nd rfl (Or.inl rfl))) (fun _ _ _ _ _ => pts_nil) (fun _ _ _ _ _ => (pe_op op_mod (pe_op op_sub (pe_ix (r := rIxL K) ix_list (pv 1) (pv 5) (fun _ _ => rfl)) (pe_op op_mul (pv 4) (pe_ix (r := rIxL K) ix_list (pv 2) (pv 5) (fun _ _ => rfl)))) (pv 0))))))), ?_⟩
    have haj : atI (r.map V.int) (j : Int) = some (.int (LA.at_ r j)) := atI_at (by rw [hrw.len]; exact hj)
    have hrj := hrw.at_rng hp0 j
    have b1 : -(2 ^ 64) < LA.at_ r j ∧ LA.at_ r j < 2 ^ 64 := ⟨by omega, by omega⟩
    have hrl : (r.map V.int).length = n := by rw [List.length_map, hrw.len]
    refine ⟨.ref a, rfl, .int (j : Int), rfl, a, _, _, _, rfl, rfl, ha, haj, ?_⟩
    refine ⟨.ref a, rfl, a, r.map V.int, rfl, .inl ha, _, rfl, by omega, by omega, fun D hD => ?_⟩
    have e4 : ((((r.map V.int).length : Nat) : Int)).toNat = n := by omega
    refine lc_fn (walk_range (n := (((r.map V.int).length : Nat) : Int).toNat)) (xs := List.range n) (by rw [e4]; simp) (by rw [e4]; omega) (fun _ => true) (fun i => V.int ((LA.at_ r i - LA.at_ r j * LA.at_ hd i) % p)) hD (fun _ _ => trivial) ?_ ?_
    · intro i2 k2 x H13 H14 Qk2 Qn2 hj2 sm2 hy2 hk2 _
      obtain ⟨rfl, rfl⟩ := hy2
      obtain ⟨hi2, rfl⟩ := List.getElem?_eq_some_iff.mp hj2
      rw [List.getElem_range] at hk2
      have hin : i2 < n := by simpa using hi2
      have ha14 := sm2.seq ha
      have hb14 := sm2.seq hb
      have ha1 : atI (r.map V.int) (0 + (i2 : Int)) = some (.int (LA.at_ r i2)) := by
        rw [Int.zero_add]
        exact atI_at (by rw [hrw.len]; exact hin)
      have ha2 : atI (hd.map V.int) (0 + (i2 : Int)) = some (.int (LA.at_ hd i2)) := by
        rw [Int.zero_add]
        exact atI_at (by rw [hhl]; exact hin)
      have hcm : CMul (LA.at_ r j) (LA.at_ hd i2) := .inl b1
      walk_at "rd"
      exact hk2 rfl _ (Same.refl _)
    · intro H13 s13 hD13
      have hall2 : (List.range n).filter (fun _ => true) = List.range n := List.filter_eq_self.mpr fun _ _ => rfl
      rw [hall2] at hD13
      exact q D H13 hD s13 (by unfold minusL; rw [List.map_map]; exact hD13)
end
end P
set_option Elab.async false
set_option linter.all false
set_option maxRecDepth 100000
set_option maxHeartbeats 4000000
namespace P
open PySem PySem.Spec PyProof.Rows L2 OS
/-! short ways: "rd" opens a reading as far as equations go; "sep" finds what stands apart from the state; "sq" a list that is read; "nx" two heaps -/
local macro_rules | `(tactic| walk_at "sep") => `(tactic| first | assumption | (refine (by assumption : Nx _ _ _) _ _ ?_; walk_at "sep"))
local macro_rules | `(tactic| walk_at "sq") => `(tactic| first | assumption | exact .inl (.inl (by assumption)) | exact Sep.sq (by walk_at "sep") | exact Sep.st (by walk_at "sep") | exact .inl (.inl upd_same))
local macro_rules | `(tactic| walk_at "rd") => `(tactic| repeat (first
  | refine And.intro rfl ?_
  | apply Exists.intro
  | refine And.intro (by assumption) ?_
  | refine And.intro (DrawOk.mk (by omega) (by omega) (by omega)) ?_
  | refine And.intro at0 ?_
  | refine And.intro ⟨_, rfl⟩ ?_
  | refine And.intro (by walk_at "sq") ?_
  | refine And.intro (Or.inl (by walk_at "sq")) ?_
  | refine And.intro (Or.inr (by walk_at "sq")) ?_
  | refine And.intro (by omega) ?_))
section
variable {P : Program} {w : World} {K : PySem.W.Frag} {mg : Str → Option Value} {base : Heap}
/-- a list of its own, not the one that shrinks -/
def LsE (la : Addr) (H : Hp) (v : V) (r : List Int) : Prop := ∃ b, v = .ref b ∧ H b = some (.lst (r.map V.int)) ∧ b ≠ la
theorem LsE.same {la : Addr} {H H' : Hp} {v : V} {r : List Int} (h : LsE la H v r) (s : Same H H') : LsE la H' v r := by
  obtain ⟨b, e, h1, h2⟩ := h
  exact ⟨b, e, s _ _ h1, h2⟩
theorem LsE.dps {la : Addr} {H : Hp} : ∀ {xs : List V} {rs : List (List Int)}, Paired (LsE la H) xs rs → DpAll K H xs (rs.map lstD)
  | _, _, .nil => .nil
  | _, _, .cons ⟨b, e, h, _⟩ t => by
    subst e
    exact .cons (dp_ints (SqL.of h)) (LsE.dps t)
theorem clearN_len (p : Int) (n : Nat) (rows : List (List Int)) : ∀ j, (LA.clearN p n rows j).1.length ≤ rows.length ∧ (LA.clearN p n rows j).2.length ≤ j
  | 0 => ⟨Nat.le_refl _, Nat.le_refl _⟩
  | j + 1 => by
    obtain ⟨h1, h2⟩ := clearN_len p n rows j
    show (LA.clearS p n j (LA.clearN p n rows j)).1.length ≤ _ ∧ (LA.clearS p n j (LA.clearN p n rows j)).2.length ≤ _
    unfold LA.clearS
    split
    · exact ⟨h1, by omega⟩
    · simp only [List.length_map, List.length_append, List.length_singleton]
      refine ⟨Nat.le_trans (List.length_eraseIdx_le _ _) h1, by omega⟩
theorem clear_none (p : Int) (n : Nat) : ∀ j, LA.clearN p n [] j = ([], [])
  | 0 => rfl
  | j + 1 => by
    show LA.clearS p n j (LA.clearN p n [] j) = _
    rw [clear_none p n j]
    rfl
theorem paired_erase {α β : Type} {F : α → β → Prop} : ∀ {xs : List α} {ys : List β} (k : Nat), Paired F xs ys → Paired F (xs.eraseIdx k) (ys.eraseIdx k)
  | _, _, _, .nil => .nil
  | _, _, 0, .cons _ t => t
  | _, _, k + 1, .cons h t => .cons h (paired_erase k t)
/-- _law_reduced(prime, rows): as many as the rank -/
def spLRed (K : PySem.W.Frag) : Sp := fun vs H Q _ => ∃ (p : Int) (n : Nat) (a : Addr) (xs : List V) (rows : List (List Int)), vs = [.int p, .ref a] ∧ isPr (.int p) = true ∧ SqL K H a xs ∧ Paired (RowB K H) xs rows ∧ (∀ r ∈ rows, LA.Row p n r) ∧ n ≤ 1000 ∧ rows.length ≤ 500 ∧
  ∀ u zs H', Same H H' → SqL K H' u zs → zs.length = (LA.cleared p n rows).length → Q (.ref u) H'
theorem ok_law_reduced (T : Txt K mg) : FnOk P w K mg base CX0 2 T.f_law_reduced T.fd_law_reduced ["_law_prime1", "_law_rows"] (spLRed K) := by
  refine T.F_law_reduced.ok sc_law_reduced (fun vs H Q E h => ?_) (fun cdv A outer s H vs Q E hr h => ?_)
  · obtain ⟨p, n, a, xs, rows, rfl, _⟩ := h
    rfl
  · obtain ⟨p, n, a, xs, rows, rfl, hpr, ha, hx, hro, hn, hrl, q⟩ := h
    refine ⟨_, (pss_cons (ps_setLc (i := 2) (own := [("_law_row", 3)]) (g := gName 3) (tt := tYes) rfl sc_law_reduced.nd rfl rfl (sw_true rfl rfl rfl (by decide +kernel)) (pi_list (pv 1)) (blkOk_by (own := [("_law_row", 3)]) (N := N_law_reduced) (sc := defScope s_law_reduced) (by decide +kernel)) (fun _ _ _ _ _ => (pg_name (i := 3) sc_law_reduced.nd rfl (Or.inl rfl))) (fun _ _ _ _ _ => pts_nil) (fun _ _ _ _ _ => (pe_callTy (T := "list") (r := rListS K) call_listS (by rfl) T.n_list (by decide +kernel) (pa_cons (pv 3) pa_nil))))
    (pss_cons (ps_set (i := 4) sc_law_reduced.nd rfl (Or.inl rfl) (pe_lstO pa_nil))
    (pss_cons (ps_set (i := 5) sc_law_reduced.nd rfl (Or.inl rfl) pe_int)
    (pss_stop (ps_if (pt_cmpR (r := rNeNil K) (op_neNil (room65 hr)) (pv 2) (pe_lstO pa_nil) (nomark _))
      (pss_one (ps_set (i := 5) sc_law_reduced.nd rfl (Or.inl rfl) (pe_callB (id := "len") (r := rLenS K) call_lenS (by rfl) T.n_len PySem.boot_len (pa_cons (pe_ix (r := rIxL K) ix_list (pv 2) pe_int (fun _ _ => rfl)) pa_nil)))) pss_nil)
    (pss_stop (ps_for PassesOwn.never rfl (pi_hold (pi_range1 rfl T.n_range (pa_cons (pv 5) pa_nil))) (pg_name (i := 6) sc_law_reduced.nd rfl (Or.inr rfl))
      (pss_cons (ps_setLc (i := 7) (own := [("_law_row", 3)]) (g := gName 3) rfl sc_law_reduced.nd rfl rfl (sw_true rfl rfl rfl (by decide +kernel)) (pi_list (pv 2)) (blkOk_by (own := [("_law_row", 3)]) (N := N_law_reduced) (sc := defScope s_law_reduced) (by decide +kernel)) (fun _ _ _ _ _ => (pg_name (i := 3) sc_law_reduced.nd rfl (Or.inl rfl))) (fun _ _ _ _ _ => (pts_one (pt_cmpR op_ne (pe_ix (r := rIxL K) ix_list (pv 3) (pv 6) (fun _ _ => rfl)) pe_int (nomark _)))) (fun _ _ _ _ _ => (pv 3)))
    (pss_one (ps_if (pt_cmpR (r := rNeNil K) (op_neNil (room65 hr)) (pv 7) (pe_lstO pa_nil) (nomark _))
      (pss_cons (ps_set (i := 8) sc_law_reduced.nd rfl (Or.inr rfl) (pe_ix (r := rIxL K) ix_list (pv 7) pe_int (fun _ _ => rfl)))
    (pss_cons (ps_expr (pe_bm PySem.F.plainAttrs_list PySem.F.slot_list_remove PySem.F.type_list_remove (mt_removeP (room65 hr)) (pv 2) (pa_cons (pv 8) pa_nil)))
    (pss_cons (ps_set (i := 9) sc_law_reduced.nd rfl (Or.inr rfl) (pe_ix (r := rIxL K) ix_list (pe_lc (own := [("_law_number", 10)]) (g := gName 10) rfl sc_law_reduced.nd (pi_range2 rfl T.n_range (pa_cons pe_int (pa_cons (pv 0) pa_nil))) (blkOk_by (own := [("_law_number", 10)]) (N := N_law_reduced) (sc := defScope s_law_reduced) (by decide +kernel)) (fun _ _ _ _ _ => (pg_name (i := 10) sc_law_reduced.nd rfl (Or.inl rfl))) (fun _ _ _ _ _ => (pts_one (pt_cmpR op_eq (pe_op op_mod (pe_op op_mul (pv 10) (pe_ix (r := rIxL K) ix_list (pv 8) (pv 6) (fun _ _ => rfl))) (pv 0)) pe_int (nomark _)))) (fun _ _ _ _ _ => (pv 10))) pe_int (fun _ _ => rfl)))
    (pss_cons (ps_set (i := 8) sc_law_reduced.nd rfl (Or.inr rfl) (pe_lc (own := [("_law_number", 10)]) (g := gName 10) (tt := tYes) rfl sc_law_reduced.nd (pi_list (pv 8)) (blkOk_by (own := [("_law_number", 10)]) (N := N_law_reduced) (sc := defScope s_law_reduced) (by decide +kernel)) (fun _ _ _ _ _ => (pg_name (i := 10) sc_law_reduced.nd rfl (Or.inl rfl))) (fun _ _ _ _ _ => pts_nil) (fun _ _ _ _ _ => (pe_op op_mod (pe_op op_mul (pv 10) (pv 9)) (pv 0)))))
    (pss_cons (ps_setLc (i := 2) (own := [("_law_row", 3)]) (g := gName 3) (tt := tYes) rfl sc_law_reduced.nd rfl rfl (sw_true rfl rfl rfl (by decide +kernel)) (pi_list (pv 2)) (blkOk_by (own := [("_law_row", 3)]) (N := N_law_reduced) (sc := defScope s_law_reduced) (by decide +kernel)) (fun _ _ _ _ _ => (pg_name (i := 3) sc_law_reduced.nd rfl (Or.inl rfl))) (fun _ _ _ _ _ => pts_nil) (fun _ _ _ _ _ => (pe_call (ok_law_minus T) (hr.mono (by decide)) (by rfl) T.g_law_minus T.F_law_minus.kp T.b_law_minus .nil pass0 (pa_cons (pv 0) (pa_cons (pv 3) (pa_cons (pv 8) (pa_cons (pv 6) pa_nil)))))))
    (pss_one (ps_set (i := 4) sc_law_reduced.nd rfl (Or.inl rfl) (pe_op op_catO (pe_lc (own := [("_law_row", 3)]) (g := gName 3) (tt := tYes) rfl sc_law_reduced.nd (pi_list (pv 4)) (blkOk_by (own := [("_law_row", 3)]) (N := N_law_reduced) (sc := defScope s_law_reduced) (by decide +kernel)) (fun _ _ _ _ _ => (pg_name (i := 3) sc_law_reduced.nd rfl (Or.inl rfl))) (fun _ _ _ _ _ => pts_nil) (fun _ _ _ _ _ => (pe_call (ok_law_minus T) (hr.mono (by decide)) (by rfl) T.g_law_minus T.F_law_minus.kp T.b_law_minus .nil pass0 (pa_cons (pv 0) (pa_cons (pv 3) (pa_cons (pv 8) (pa_cons (pv 6) pa_nil))))))) (pe_lstO (pa_cons (pv 8) pa_nil)))))))))) pss_nil))))
    (pss_one (ps_ret (pv 4)))))))), ?_⟩
    have hpl := pr_le hpr
    have hPT := LA.prmT_of (isPr_is hpr)
    have p0 : 0 < p := by omega
    have hxl := paired_len hx
    walk_at "rd"
    refine ⟨⟨_, ha⟩, fun la hla => ?_⟩
    refine lc_relD (walk_list (xs := xs)) (xs := rows) hxl.symm (by omega) (fun _ => true) (fun H r v => LsE la H v r) hla ?_ (fun H s => s.seq ha) ?_ ?_
    · rintro H7 H8 j v acc _ hDa kp ⟨b, e, h1, h2⟩
      exact ⟨b, e, kp _ _ h1 h2, h2⟩
    · intro i r x H1 H2 Qk Qn hj sm ⟨acc, hacc⟩ hy hk _
      obtain ⟨rfl, hx2⟩ := hy
      obtain ⟨r', h1, h2⟩ := OS.paired_get hx hx2
      obtain rfl : r' = r := Option.some.inj (h1.symm.trans hj)
      obtain ⟨kb, b, rfl, hb⟩ := h2.same sm
      have hbo := seq_or hb
      walk_at "rd"
      intro l H3 n3 s3 hl
      exact hk rfl (.ref l) H3 ⟨l, rfl, hl, fun z => by
        rw [z, hacc] at n3
        cases n3⟩ s3
    · intro H1 acc s1 hD1 pr
      have hall : rows.filter (fun _ => true) = rows := List.filter_eq_self.mpr fun _ _ => rfl
      rw [hall] at pr
      have pr1 : Paired (LsE la H1) acc rows := paired_swap pr
      walk_at "rd"
      refine ⟨by decide, fun fa H2 n2 s2 hfa => ?_⟩
      have hlf : fa ≠ la := (ne_of_none hD1 n2).symm
      have hnfa : H fa = none := s1.free n2
      walk_at "rd"
      have s02 := s1.trans s2
      have hl2 := s2 _ _ hD1
      have pr2 : Paired (LsE la H2) acc rows := L2.Paired.mapP pr1 fun _ _ z => z.same s2
      have hal := paired_len pr2
      have hlq2 : SqL K H2 la acc := SqL.of hl2
      clear pr pr1 hD1
      -- the width
      refine Stop.cut (fun σ H' => ∃ (n' : Nat), σ = [some (.int p), some (.ref a), some (.ref la), none, some (.ref fa), some (.int (n' : Int)), none, none, none, none, none] ∧ Same H2 H' ∧ n' ≤ 1000 ∧ (∀ r ∈ rows, LA.Row p n' r) ∧ (LA.cleared p n' rows).length = (LA.cleared p n rows).length) (fun Qz hz => ?_) ?_
      · walk_at "rd"
        refine ⟨by decide, fun e0 H3 n3 s3 he0 => ?_⟩
        have hlq3 : SqL K H3 la acc := s3.seq hlq2
        have he3 : SqL K H3 e0 [] := SqL.of he0
        walk_at "rd"
        refine ite2 (fun e => ?_) (fun e => ?_)
        · cases acc with
          | nil => cases e
          | cons v0 acc =>
            cases rows with
            | nil => cases hal
            | cons r0 rows =>
              obtain ⟨r', hr1, b, rfl, hb, _⟩ := OS.paired_get pr2 (show (v0 :: acc)[0]? = some v0 from rfl)
              obtain rfl : r0 = r' := Option.some.inj hr1
              have hb3 : SqL K H3 b (r0.map V.int) := SqL.of (s3 _ _ hb)
              have hat : atI (V.ref b :: acc) 0 = some (.ref b) := at0
              walk_at "rd"
              rw [List.length_map, (hro r0 (.head _)).len]
              exact hz _ _ ⟨n, rfl, s3, hn, hro, rfl⟩
        · have e2 : acc = [] := by
            cases acc with
            | nil => rfl
            | cons _ _ => exact absurd rfl e
          have e3 : rows = [] := by
            rw [e2] at hal
            exact List.eq_nil_of_length_eq_zero hal.symm
          refine hz _ _ ⟨0, rfl, s3, by omega, (fun r hr => by rw [e3] at hr; cases hr), ?_⟩
          unfold LA.cleared
          rw [e3, clear_none, clear_none]
      rintro _ H3 ⟨n', rfl, s3, hn', hro', hcl⟩
      rw [← hcl] at q
      clear hcl hro hn
      have hl3 := s3 _ _ hl2
      have hf3 := s3 _ _ hfa
      have pr3 : Paired (LsE la H3) acc rows := L2.Paired.mapP pr2 fun _ _ z => z.same s3
      have s03 := s02.trans s3
      clear hl2 hfa pr2 hlq2 s02 s1 s2 s3 hx ha
      refine Stop.cut (fun σ H' => ∃ (y2 y6 y7 y8 y9 : Option V) (fa : Addr) (zs : List V), σ = [some (.int p), some (.ref a), y2, none, some (.ref fa), some (.int (n' : Int)), y6, y7, y8, y9, none] ∧ Same H H' ∧ H' fa = some (.lst zs) ∧ zs.length = (LA.cleared p n' rows).length) (fun Qz hz => ?_) ?_
      · refine ⟨.int (n' : Int), rfl, (n' : Int), rfl, by omega, by omega, ?_⟩
        refine ⟨for_it walk_range (fun j σ H' => ∃ (y6 y7 y8 y9 : Option V) (la fa : Addr) (ls zs : List V) (fs : List (List Int)), σ = [some (.int p), some (.ref a), some (.ref la), none, some (.ref fa), some (.int (n' : Int)), y6, y7, y8, y9, none] ∧ Same H H' ∧ H la = none ∧ fa ≠ la ∧ H' la = some (.lst ls) ∧ H' fa = some (.lst zs) ∧ Paired (LsE la H') ls (LA.clearN p n' rows j).1 ∧ Paired (LsE la H') zs fs ∧ (∀ r ∈ fs, LA.Row p n' r) ∧ fs.length = (LA.clearN p n' rows j).2.length)
          ⟨none, none, none, none, la, fa, acc, [], [], rfl, s03, hla, hlf, hl3, hf3, pr3, .nil, (fun _ h => nomatch h), rfl⟩ (fun _ _ _ _ _ => trivial) ?_ ?_⟩
        · rintro j x _ H4 H4' hj ⟨y6, y7, y8, y9, la, fa, ls, zs, fs, rfl, s4, nla, hlf, hl4, hf4, hls, hzs, hfs, hfl⟩ ⟨rfl, rfl⟩
          have hjn : j < n' := by simpa using hj
          have C := LA.clr_all hPT hro' j (by omega)
          have hst : LA.clearN p n' rows (j + 1) = LA.clearS p n' j (LA.clearN p n' rows j) := rfl
          obtain ⟨hc1, hc2⟩ := clearN_len p n' rows j
          rw [hst]
          generalize LA.clearN p n' rows j = st at hls C hc1 hc2 hfl ⊢
          obtain ⟨left, found⟩ := st
          simp only at hls hc1 hc2 hfl
          have hll := paired_len hls
          have hzl := paired_len hzs
          have hq4 : SqL K H4' la ls := SqL.of hl4
          -- leads
          walk_at "rd"
          refine ⟨⟨_, hq4⟩, fun D hD => ?_⟩
          refine lc_rel (walk_list (xs := ls)) (xs := left) hll.symm (by omega) (fun r => !decide (LA.at_ r j = 0)) (fun H r v => ∃ b, v = .ref b ∧ H b = some (.lst (r.map V.int)) ∧ b ≠ la ∧ b ≠ D) hD ?_ (fun H s => s.seq hq4) ?_ ?_
          · rintro H7 H8 r v acc _ hDa kp ⟨b, e, h1, h2, h3⟩
            exact ⟨b, e, kp _ _ h1 h3, h2, h3⟩
          · intro i r x H5 H6 Qk Qn hir sm hy hkk hkn
            obtain ⟨rfl, hxi⟩ := hy
            obtain ⟨r', g1, b, rfl, hb, hbl⟩ := OS.paired_get hls hxi
            obtain rfl : r' = r := Option.some.inj (g1.symm.trans hir)
            have hrow := (C.wl _ (List.mem_of_getElem? hir)).1
            have hb6 : SqL K H6 b (r'.map V.int) := SqL.of (sm _ _ hb)
            have g3 : atI (r'.map V.int) (0 + (j : Int)) = some (.int (LA.at_ r' j)) := by
              rw [Int.zero_add]
              exact atI_at (by rw [hrow.len]; exact hjn)
            walk_at "rd"
            refine ite2 (fun e => ?_) (fun e => ?_)
            · walk_at "rd"
              exact hkk (by simpa using e) _ _ ⟨b, rfl, sm _ _ hb, hbl, ne_of_none hb hD⟩ (Same.refl _)
            · exact hkn (by simpa using e) _ (Same.refl _)
          intro H5 ld s5 hD5 prl
          have hl5 := s5 _ _ hl4
          have hf5 := s5 _ _ hf4
          have hls5 : Paired (LsE la H5) ls left := L2.Paired.mapP hls fun _ _ z => z.same s5
          have hzs5 : Paired (LsE la H5) zs fs := L2.Paired.mapP hzs fun _ _ z => z.same s5
          have hDq5 : SqL K H5 D ld := SqL.of hD5
          walk_at "rd"
          refine ⟨by decide, fun e0 H6 n6 s6 he0 => ?_⟩
          have hDq6 : SqL K H6 D ld := s6.seq hDq5
          have he6 : SqL K H6 e0 [] := SqL.of he0
          have s46 := s4.trans (s5.trans s6)
          have hl6 := s6 _ _ hl5
          have hf6 := s6 _ _ hf5
          have hls6 : Paired (LsE la H6) ls left := L2.Paired.mapP hls5 fun _ _ z => z.same s6
          have hzs6 : Paired (LsE la H6) zs fs := L2.Paired.mapP hzs5 fun _ _ z => z.same s6
          have hDl : D ≠ la := ne_of_none' hD hl4
          walk_at "rd"
          have stN : LA.heads left j = [] → LA.clearS p n' j (left, found) = (left, found) := fun e => by
            unfold LA.clearS
            simp only
            rw [e]
          have stC : ∀ k ks r, LA.heads left j = k :: ks → left[k]? = some r → LA.clearS p n' j (left, found) = ((left.eraseIdx k).map fun row => minusL p n' j row (r.map fun x => LA.turn p (LA.at_ r j) * x % p), found ++ [r.map fun x => LA.turn p (LA.at_ r j) * x % p]) := fun k ks r e er => by
            unfold LA.clearS
            simp only
            rw [e]
            simp only
            rw [List.getD_eq_getElem?_getD, er]
            rfl
          have hrf := range_filter (t := fun r => !decide (LA.at_ r j = 0)) left
          have hheads : ((List.range left.length).filter fun k => !decide (LA.at_ (left.getD k []) j = 0)) = LA.heads left j := rfl
          rw [hheads] at hrf
          have hldl := paired_len prl
          cases hhd : LA.heads left j with
          | nil =>
            have hnil := hrf.1 hhd
            rw [hnil] at hldl
            have hld0 : ld = [] := List.eq_nil_of_length_eq_zero hldl.symm
            rw [hld0]
            refine ite2 (fun e => absurd e (by decide)) fun _ => ?_
            rw [stN hhd]
            exact ⟨_, _, _, _, la, fa, ls, zs, fs, rfl, s46, nla, hlf, hl6, hf6, hls6, hzs6, hfs, hfl⟩
          | cons k ks =>
            obtain ⟨r, rest, hkr, htr, hfe, hbef⟩ := hrf.2 k ks hhd
            rw [hfe] at prl
            have hprl := prl
            cases hprl with
            | cons h0 t0 =>
            rename_i v0 ld'
            obtain ⟨b, rfl, hb5, hbl, hbD⟩ := h0
            refine ite2 (fun _ => ?_) (fun e => absurd rfl e)
            have hat : atI (V.ref b :: ld') 0 = some (.ref b) := at0
            walk_at "rd"
            refine ⟨.inl ⟨rfl, _, SqL.of hl6⟩, ?_⟩
            refine ⟨.ref b, rfl, ?_⟩
            refine tNil_i ?_
            have hb6 := s6 _ _ hb5
            refine ⟨la, ls, .ref b, left.map lstD, lstD r, k, rfl, rfl, hl6, LsE.dps hls6, dp_ints (SqL.of hb6), lstD_depth r, data_place hkr htr hbef, ?_⟩
            rw [stC k ks r hhd hkr]
            have hkne : LA.at_ r j ≠ 0 := by simpa using htr
            have hrow := (C.wl r (List.mem_of_getElem? hkr)).1
            have C1 : ∀ r ∈ left.eraseIdx k, LA.Row p n' r := fun r hr => (C.wl r (List.mem_of_mem_eraseIdx hr)).1
            have hel0 : (left.eraseIdx k).length ≤ left.length := List.length_eraseIdx_le _ _
            clear stN stC hrf hhd hheads hbef hkr htr hfe prl t0 hldl C hDq6 he6 hDq5 hD5 hls hzs hls5 hzs5
            generalize hH7 : upd H6 la (.lst (ls.eraseIdx k)) = H7
            have hl7 : H7 la = some (.lst (ls.eraseIdx k)) := by rw [← hH7]; exact upd_same
            have kp7 : ∀ c o, H6 c = some o → c ≠ la → H7 c = some o := fun c o h z => by rw [← hH7, upd_ne z]; exact h
            have hf7 := kp7 _ _ hf6 hlf
            have hb7 := kp7 _ _ hb6 hbl
            have s37 : Same H H7 := by
              rw [← hH7]
              exact same_put s46 nla
            have kpE : ∀ {v r}, LsE la H6 v r → LsE la H7 v r := fun ⟨b, e, h1, h2⟩ => ⟨b, e, kp7 _ _ h1 h2, h2⟩
            have hls7 : Paired (LsE la H7) (ls.eraseIdx k) (left.eraseIdx k) := L2.Paired.mapP (paired_erase k hls6) fun _ _ z => kpE z
            have hzs7 : Paired (LsE la H7) zs fs := L2.Paired.mapP hzs6 fun _ _ z => kpE z
            have hbq7 : SqL K H7 b (r.map V.int) := SqL.of hb7
            clear hH7 kp7 kpE hls6 hzs6 hl6 hf6 hb6 s46 hb5
            generalize left.eraseIdx k = left1 at hls7 C1 hel0 ⊢
            generalize ls.eraseIdx k = ls1 at hls7 hl7 ⊢
            have hrg := hrow.at_rng p0 j
            have g0 : 0 < LA.at_ r j := by omega
            have hinv := hPT.inv _ g0 hrg.2
            have hatj : atI (r.map V.int) (0 + (j : Int)) = some (.int (LA.at_ r j)) := by
              rw [Int.zero_add]
              exact atI_at (by rw [hrow.len]; exact hjn)
            have b0 : -(2 ^ 64) < LA.at_ r j ∧ LA.at_ r j < 2 ^ 64 := ⟨by omega, by omega⟩
            walk_at "rd"
            refine fun D1 hD1 => ?_
            have hlt : ((List.range (p - 1).toNat).map fun k : Nat => 1 + (k : Int)).length = (p - 1).toNat := by simp
            refine lc_fn (walk_range (lo := 1)) (xs := (List.range (p - 1).toNat).map fun k : Nat => 1 + (k : Int)) hlt (by omega) (fun o : Int => decide (o * LA.at_ r j % p = 1)) V.int hD1 (fun _ _ => trivial) ?_ ?_
            · intro i z x H8 H9 Qk Qn hz sm hy hkk hkn
              obtain ⟨rfl, rfl⟩ := hy
              obtain ⟨hi, rfl⟩ := List.getElem?_eq_some_iff.mp hz
              rw [List.getElem_map, List.getElem_range] at hkk hkn
              have hb9 := sm.seq hbq7
              have hcm : CMul (1 + (i : Int)) (LA.at_ r j) := .inr b0
              walk_at "rd"
              refine ite2 (fun e => ?_) (fun e => ?_)
              · walk_at "rd"
                exact hkk (by simpa using e) _ (Same.refl _)
              · exact hkn (by simpa using e) _ (Same.refl _)
            intro H8 s8 hD8
            have hne : (LA.turns p (LA.at_ r j))[0]? = some (LA.turn p (LA.at_ r j)) := by
              have h := hinv
              unfold LA.turn at h ⊢
              cases e : LA.turns p (LA.at_ r j) with
              | nil =>
                rw [e] at h
                simp at h
              | cons x r => rfl
            have hDq8 : SqL K H8 D1 ((LA.turns p (LA.at_ r j)).map V.int) := SqL.of hD8
            have hat8 : atI ((LA.turns p (LA.at_ r j)).map V.int) 0 = some (.int (LA.turn p (LA.at_ r j))) := atI_nat (j := 0) (by rw [List.getElem?_map, hne]; rfl)
            generalize LA.turn p (LA.at_ r j) = tv at hat8 ⊢
            have hb8 := s8.seq hbq7
            walk_at "rd"
            refine ⟨⟨_, hb8⟩, fun D2 hD2 => ?_⟩
            refine lc_all (walk_list (xs := r.map V.int)) (xs := r) (by simp) (by rw [List.length_map, hrow.len]; omega) (fun x => V.int (x * tv % p)) hD2 (fun H s => s.seq hb8) ?_ ?_
            · intro i z x H9 H10 Qk hz sm hy hk
              obtain ⟨rfl, hv⟩ := hy
              rw [List.getElem?_map, hz] at hv
              obtain rfl := Option.some.inj hv
              have hzr := hrow.rng z (List.mem_of_getElem? hz)
              have b1 : -(2 ^ 64) < z ∧ z < 2 ^ 64 := ⟨by omega, by omega⟩
              have hcm : CMul z tv := .inl b1
              walk_at "rd"
              exact hk _ (Same.refl _)
            intro H9 s9 hD9
            have ecm : (r.map fun x => V.int (x * tv % p)) = (r.map fun x => tv * x % p).map V.int := by
              rw [List.map_map]
              refine List.map_congr_left fun x _ => ?_
              show V.int (x * tv % p) = V.int (tv * x % p)
              rw [Int.mul_comm]
            have hD9' : H9 D2 = some (.lst ((r.map fun x => tv * x % p).map V.int)) := by rw [← ecm]; exact hD9
            have hhl : (r.map fun x => tv * x % p).length = n' := by rw [List.length_map, hrow.len]
            have hhr : LA.Row p n' (r.map fun x => tv * x % p) := ⟨hhl, fun y hy => by
              obtain ⟨x, _, rfl⟩ := List.mem_map.mp hy
              exact LA.mod_rng p0 _⟩
            generalize r.map (fun x => tv * x % p) = hd at hD9' hhl hhr ⊢
            have s79 := s8.trans s9
            have hf9 := s79 _ _ hf7
            have hl9 := s79 _ _ hl7
            have hls9 : Paired (LsE la H9) ls1 left1 := L2.Paired.mapP hls7 fun _ _ z => z.same s79
            have hzs9 : Paired (LsE la H9) zs fs := L2.Paired.mapP hzs7 fun _ _ z => z.same s79
            have s39 := s37.trans s79
            have hlq9 : SqL K H9 la ls1 := SqL.of hl9
            have hel := paired_len hls9
            have hdq9 : SqL K H9 D2 (hd.map V.int) := SqL.of hD9'
            clear hDq8 hat8 hne hD8 hD9 ecm hb8 hls7 hzs7 hl7 hf7 hb7 hbq7 s37 s8 s9 s79
            walk_at "rd"
            refine ⟨⟨_, hlq9⟩, fun D3 hD3 => ?_⟩
            refine lc_relD (walk_list (xs := ls1)) (xs := left1) hel.symm (by omega) (fun _ => true) (fun H r v => LsE D3 H v (minusL p n' j r hd)) hD3 ?_ (fun H s => s.seq hlq9) ?_ ?_
            · rintro H7 H8 j v acc _ hDa kp ⟨b, e, h1, h2⟩
              exact ⟨b, e, kp _ _ h1 h2, h2⟩
            · intro i r' x H11 H12 Qk Qn hr sm ⟨acc, hacc⟩ hy hk _
              obtain ⟨rfl, hx2⟩ := hy
              obtain ⟨r'', h1, b2, rfl, hb2, _⟩ := OS.paired_get hls9 hx2
              obtain rfl : r'' = r' := Option.some.inj (h1.symm.trans hr)
              have hrw := C1 r'' (List.mem_of_getElem? hr)
              refine ⟨rfl, ?_⟩
              refine ⟨.int p, rfl, .ref b2, rfl, .ref D2, rfl, .int (0 + (j : Int)), rfl, ?_⟩
              refine tNil_i ?_
              refine ⟨p, n', j, b2, D2, r'', hd, by rw [Int.zero_add]; rfl, p0, hpl.2, SqL.of (sm _ _ hb2), sm.seq hdq9, hrw, hhl, hjn, hn', fun u H13 nu s13 hu => ?_⟩
              exact hk rfl _ _ ⟨u, rfl, hu, ne_of_none' nu hacc⟩ s13
            intro H11 ls2 s11 hD11 pr11
            have hall2 : left1.filter (fun _ => true) = left1 := List.filter_eq_self.mpr fun _ _ => rfl
            rw [hall2] at pr11
            have hD3n : H D3 = none := s39.free hD3
            have hD32 : D2 ≠ D3 := ne_of_none hD9' hD3
            have hls11 : Paired (LsE D3 H11) ls2 (left1.map fun r => minusL p n' j r hd) := paired_swap (paired_map (F := fun r v => LsE D3 H11 v r) pr11)
            have hf11 := s11 _ _ hf9
            have hfq11 : SqL K H11 fa zs := SqL.of hf11
            have hd11 := s11 _ _ hD9'
            have hdq11 : SqL K H11 D2 (hd.map V.int) := SqL.of hd11
            have hzs11 : Paired (LsE la H11) zs fs := L2.Paired.mapP hzs9 fun _ _ z => z.same s11
            clear pr11 hls9 hzs9 hlq9 hdq9
            walk_at "rd"
            refine ⟨⟨_, hfq11⟩, fun D4 hD4 => ?_⟩
            refine lc_relD (walk_list (xs := zs)) (xs := fs) hzl.symm (by omega) (fun _ => true) (fun H r v => ∃ b, v = .ref b ∧ H b = some (.lst ((minusL p n' j r hd).map V.int)) ∧ b ≠ D3 ∧ b ≠ D4) hD4 ?_ (fun H s => s.seq hfq11) ?_ ?_
            · rintro H7 H8 j v acc _ hDa kp ⟨b, e, h1, h2, h3⟩
              exact ⟨b, e, kp _ _ h1 h3, h2, h3⟩
            · intro i r' x H12 H13 Qk Qn hr sm ⟨acc, hacc⟩ hy hk _
              obtain ⟨rfl, hx2⟩ := hy
              obtain ⟨r'', h1, b2, rfl, hb2, _⟩ := OS.paired_get hzs11 hx2
              obtain rfl : r'' = r' := Option.some.inj (h1.symm.trans hr)
              have hrw := hfs r'' (List.mem_of_getElem? hr)
              refine ⟨rfl, ?_⟩
              refine ⟨.int p, rfl, .ref b2, rfl, .ref D2, rfl, .int (0 + (j : Int)), rfl, ?_⟩
              refine tNil_i ?_
              refine ⟨p, n', j, b2, D2, r'', hd, by rw [Int.zero_add]; rfl, p0, hpl.2, SqL.of (sm _ _ hb2), sm.seq hdq11, hrw, hhl, hjn, hn', fun u H14 nu s14 hu => ?_⟩
              exact hk rfl _ _ ⟨u, rfl, hu, ne_of_none' nu (sm _ _ hD11), ne_of_none' nu hacc⟩ s14
            intro H12 zs2 s12 hD12 pr12
            have hall3 : fs.filter (fun _ => true) = fs := List.filter_eq_self.mpr fun _ _ => rfl
            rw [hall3] at pr12
            walk_at "rd"
            refine ⟨by show 1 ≤ sizeLine; decide, fun l13 H13 n13 s13 hl13 => ?_⟩
            have hz2 := paired_len pr12
            refine ⟨D4, l13, zs2, _, rfl, rfl, s13 _ _ hD12, hl13, Nat.le_trans (show zs2.length + 1 ≤ 2000 by omega) (by decide), fun fa2 H14 n14 s14 hfa2 => ?_⟩
            have s1114 := (s12.trans s13).trans s14
            have hl14 := s1114 _ _ hD11
            refine ⟨_, _, _, _, D3, fa2, ls2, zs2 ++ [.ref D2], fs.map (fun r => minusL p n' j r hd) ++ [hd], rfl, (s39.trans s11).trans s1114, hD3n, ne_of_none' n14 (((s12.trans s13)) _ _ hD11), hl14, hfa2, L2.Paired.mapP hls11 fun _ _ z => z.same s1114, ?_, ?_, ?_⟩
            · refine OS.paired_app ?_ (.cons ⟨D2, rfl, s1114 _ _ hd11, hD32⟩ .nil)
              refine paired_swap (paired_map (F := fun r v => LsE D3 H14 v r) (L2.Paired.mapP pr12 fun r v z => ?_))
              obtain ⟨b, e, h1, h2, _⟩ := z
              exact ⟨b, e, (s13.trans s14) _ _ h1, h2⟩
            · intro y hy
              rcases List.mem_append.mp hy with h | h
              · obtain ⟨y', _, rfl⟩ := List.mem_map.mp h
                exact minus_row p0
              · rw [List.mem_singleton.mp h]
                exact hhr
            · simp only [List.length_append, List.length_map, List.length_cons, List.length_nil]
              omega
        · rintro σ H4 ⟨y6, y7, y8, y9, la, fa, ls, zs, fs, rfl, s4, nla, hlf, hl4, hf4, hls, hzs, hfs, hfl⟩
          exact hz _ _ ⟨_, y6, y7, y8, y9, fa, zs, rfl, s4, hf4, by rw [paired_len hzs, hfl]; simp [LA.cleared]⟩
      · rintro _ H4 ⟨y2, y6, y7, y8, y9, fa, zs, rfl, s4, hf4, hzl⟩
        walk_at "rd"
        exact q fa zs H4 s4 (SqL.of hf4) hzl
end
end P
set_option Elab.async false
set_option linter.all false
set_option maxRecDepth 100000
set_option maxHeartbeats 4000000
namespace P
open PySem PySem.Spec PyProof.Rows L2 OS
/-! short ways: "rd" opens a reading as far as equations go; "sep" finds what stands apart from the state; "sq" a list that is read; "nx" two heaps -/
local macro_rules | `(tactic| walk_at "sep") => `(tactic| first | assumption | (refine (by assumption : Nx _ _ _) _ _ ?_; walk_at "sep"))
local macro_rules | `(tactic| walk_at "sq") => `(tactic| first | assumption | exact .inl (.inl (by assumption)) | exact Sep.sq (by walk_at "sep") | exact Sep.st (by walk_at "sep") | exact .inl (.inl upd_same))
local macro_rules | `(tactic| walk_at "rd") => `(tactic| repeat (first
  | refine And.intro rfl ?_
  | apply Exists.intro
  | refine And.intro (by assumption) ?_
  | refine And.intro (DrawOk.mk (by omega) (by omega) (by omega)) ?_
  | refine And.intro at0 ?_
  | refine And.intro ⟨_, rfl⟩ ?_
  | refine And.intro (by walk_at "sq") ?_
  | refine And.intro (Or.inl (by walk_at "sq")) ?_
  | refine And.intro (Or.inr (by walk_at "sq")) ?_
  | refine And.intro (by omega) ?_))
section
variable {P : Program} {w : World} {K : PySem.W.Frag} {mg : Str → Option Value} {base : Heap}
/-- _law_rank(prime, rows) -/
def spLRank (K : PySem.W.Frag) : Sp := fun vs H Q _ => ∃ (p : Int) (n : Nat) (a : Addr) (xs : List V) (rows : List (List Int)), vs = [.int p, .ref a] ∧ isPr (.int p) = true ∧ SqL K H a xs ∧ Paired (RowB K H) xs rows ∧ (∀ r ∈ rows, LA.Row p n r) ∧ n ≤ 1000 ∧ rows.length ≤ 500 ∧
  ∀ H', Same H H' → Q (.int ((LA.cleared p n rows).length : Int)) H'
theorem ok_law_rank (T : Txt K mg) : FnOk P w K mg base CX0 3 T.f_law_rank T.fd_law_rank ["_law_prime1", "_law_rows"] (spLRank K) := by
  refine T.F_law_rank.ok sc_law_rank (fun vs H Q E h => ?_) (fun cdv A outer s H vs Q E hr h => ?_)
  · obtain ⟨p, n, a, xs, rows, rfl, _⟩ := h
    rfl
  · obtain ⟨p, n, a, xs, rows, rfl, hpr, ha, hx, hro, hn, hrl, q⟩ := h
    refine ⟨_, (pss_one (ps_ret (pe_callB (id := "len") (r := rLenS K) call_lenS (by rfl) T.n_len PySem.boot_len (pa_cons (pe_call (ok_law_reduced T) (hr.mono (by decide)) (by rfl) T.g_law_reduced T.F_law_reduced.kp T.b_law_reduced .nil pass0 (pa_cons (pv 0) (pa_cons (pv 1) pa_nil))) pa_nil)))), ?_⟩
    refine ⟨.int p, rfl, .ref a, rfl, ?_⟩
    refine tNil_i ?_
    refine ⟨p, n, a, xs, rows, rfl, hpr, ha, hx, hro, hn, hrl, fun u zs H' s1 hu hz => ?_⟩
    walk_at "rd"
    rw [hz]
    exact q H' s1
/-- _law_spans(prime, rows, goal) -/
def spansB (p : Int) (n : Nat) (rows : List (List Int)) (gl : List Int) : Bool := decide ((LA.cleared p n (rows ++ [gl])).length = (LA.cleared p n rows).length)
def spSpans (K : PySem.W.Frag) : Sp := fun vs H Q _ => ∃ (p : Int) (n : Nat) (a g : Addr) (xs : List V) (rows : List (List Int)) (gl : List Int), vs = [.int p, .ref a, .ref g] ∧ isPr (.int p) = true ∧ SqL K H a xs ∧ Paired (RowB K H) xs rows ∧ (∀ r ∈ rows, LA.Row p n r) ∧ n ≤ 1000 ∧ rows.length ≤ 400 ∧ SqT K H g (gl.map V.int) ∧ LA.Row p n gl ∧
  ∀ H', Same H H' → Q (.bl (spansB p n rows gl)) H'
theorem dec_nat (a b : Nat) : decide (V.int (a : Int) = V.int (b : Int)) = decide (a = b) := by
  rw [Bool.eq_iff_iff, decide_eq_true_iff, decide_eq_true_iff]
  constructor
  · intro z
    injection z with z
    omega
  · rintro rfl
    rfl
theorem ok_law_spans (T : Txt K mg) : FnOk P w K mg base CX0 4 T.f_law_spans T.fd_law_spans ["_law_prime1", "_law_rows", "_law_goal_here"] (spSpans K) := by
  refine T.F_law_spans.ok sc_law_spans (fun vs H Q E h => ?_) (fun cdv A outer s H vs Q E hr h => ?_)
  · obtain ⟨p, n, a, g, xs, rows, gl, rfl, _⟩ := h
    rfl
  · obtain ⟨p, n, a, g, xs, rows, gl, rfl, hpr, ha, hx, hro, hn, hrl, hg, hgl, q⟩ := h
    refine ⟨_, (pss_one (ps_ret (pe_cmpR op_eq (pe_call (ok_law_rank T) (hr.mono (by decide)) (by rfl) T.g_law_rank T.F_law_rank.kp T.b_law_rank .nil pass0 (pa_cons (pv 0) (pa_cons (pe_op op_catO (pe_callTy (T := "list") (r := rListS K) call_listS (by rfl) T.n_list (by decide +kernel) (pa_cons (pv 1) pa_nil)) (pe_lstO (pa_cons (pv 2) pa_nil))) pa_nil))) (pe_call (ok_law_rank T) (hr.mono (by decide)) (by rfl) T.g_law_rank T.F_law_rank.kp T.b_law_rank .nil pass0 (pa_cons (pv 0) (pa_cons (pv 1) pa_nil))) (nomark _)))), ?_⟩
    have ha' : SqL K H a xs ∨ SqT K H a xs := .inl ha
    have hxl := paired_len hx
    walk_at "rd"
    intro l1 H1 n1 s1 hl1
    walk_at "rd"
    refine ⟨by show 1 ≤ sizeLine; decide, fun l2 H2 n2 s2 hl2 => ?_⟩
    refine ⟨l1, l2, xs, _, rfl, rfl, s2 _ _ hl1, hl2, Nat.le_trans (show xs.length + 1 ≤ 500 by omega) (by decide), fun l3 H3 n3 s3 hl3 => ?_⟩
    have s03 := (s1.trans s2).trans s3
    refine tNil_i ?_
    have hB3 : Paired (RowB K H3) (xs ++ [.ref g]) (rows ++ [gl]) := OS.paired_app (L2.Paired.mapP hx fun _ _ z => z.same s03) (.cons ⟨true, g, rfl, s03.tupT hg⟩ .nil)
    have hro3 : ∀ r ∈ rows ++ [gl], LA.Row p n r := fun r h => (List.mem_append.mp h).elim (hro r) fun z => by rw [List.mem_singleton.mp z]; exact hgl
    refine ⟨p, n, l3, _, _, rfl, hpr, SqL.of hl3, hB3, hro3, hn, by rw [List.length_append]; show _ + 1 ≤ 500; omega, fun H4 s4 => ?_⟩
    have s04 := s03.trans s4
    refine ⟨.int p, rfl, .ref a, rfl, ?_⟩
    refine tNil_i ?_
    refine ⟨p, n, a, xs, rows, rfl, hpr, s04.seq ha, L2.Paired.mapP hx fun _ _ z => z.same s04, hro, hn, by omega, fun H5 s5 => ?_⟩
    walk_at "rd"
    rw [dec_nat]
    exact q H5 (s04.trans s5)
end
end P
set_option Elab.async false
set_option linter.all false
set_option maxRecDepth 100000
set_option maxHeartbeats 4000000
namespace P
open PySem PySem.Spec PyProof.Rows L2 OS
/-! short ways: "rd" opens a reading as far as equations go; "sep" finds what stands apart from the state; "sq" a list that is read; "nx" two heaps -/
local macro_rules | `(tactic| walk_at "sep") => `(tactic| first | assumption | (refine (by assumption : Nx _ _ _) _ _ ?_; walk_at "sep"))
local macro_rules | `(tactic| walk_at "sq") => `(tactic| first | assumption | exact .inl (.inl (by assumption)) | exact Sep.sq (by walk_at "sep") | exact Sep.st (by walk_at "sep") | exact .inl (.inl upd_same))
local macro_rules | `(tactic| walk_at "rd") => `(tactic| repeat (first
  | refine And.intro rfl ?_
  | apply Exists.intro
  | refine And.intro (by assumption) ?_
  | refine And.intro (DrawOk.mk (by omega) (by omega) (by omega)) ?_
  | refine And.intro at0 ?_
  | refine And.intro ⟨_, rfl⟩ ?_
  | refine And.intro (by walk_at "sq") ?_
  | refine And.intro (Or.inl (by walk_at "sq")) ?_
  | refine And.intro (Or.inr (by walk_at "sq")) ?_
  | refine And.intro (by omega) ?_))
section
variable {P : Program} {w : World} {K : PySem.W.Frag} {mg : Str → Option Value} {base : Heap}
/-! ### the groups that open -/
/-- a group opens by these rows -/
def opL (rows : List (List Str)) (g : List Str) : Bool := rows.any fun o => inside o g
theorem opL_iff {rows : List (List Str)} {g : List Str} : opL rows g = true ↔ ∃ o ∈ rows, ∀ n ∈ o, n ∈ g := by
  unfold opL
  rw [List.any_eq_true]
  exact ⟨fun ⟨o, h1, h2⟩ => ⟨o, h1, inside_iff.mp h2⟩, fun ⟨o, h1, h2⟩ => ⟨o, h1, inside_iff.mpr h2⟩⟩
theorem mem_given {ps : List Str} {rows : List (List Str)} (hr : ∀ g ∈ rows, g.Sublist ps) {g : List Str} : g ∈ givenP ps rows ↔ g ∈ rows := by
  unfold givenP
  rw [List.mem_filter, mem_allG, decide_eq_true_eq]
  exact ⟨fun h => h.2, fun h => ⟨hr g h, h⟩⟩
theorem least_sub (ps : List Str) (rows : List (List Str)) : (leastP ps rows).Sublist (allG ps) := List.filter_sublist.trans List.filter_sublist
theorem mem_least {ps : List Str} {rows : List (List Str)} (hr : ∀ g ∈ rows, g.Sublist ps) {g : List Str} : g ∈ leastP ps rows ↔ g ∈ rows ∧ ∀ o ∈ rows, (∀ n ∈ o, n ∈ g) → o = g := by
  unfold leastP
  rw [List.mem_filter, mem_given hr, Bool.not_eq_true', List.any_eq_false]
  refine and_congr Iff.rfl ⟨fun h o ho hin => ?_, fun h o ho => ?_⟩
  · have := h o ((mem_given hr).mpr ho)
    rw [Bool.and_eq_true, decide_eq_true_eq, inside_iff] at this
    exact Classical.byContradiction fun z => this ⟨z, hin⟩
  · rw [Bool.and_eq_true, decide_eq_true_eq, inside_iff]
    rintro ⟨h1, h2⟩
    exact h1 (h o ((mem_given hr).mp ho) h2)
theorem least_in {ps : List Str} {rows : List (List Str)} (hr : ∀ g ∈ rows, g.Sublist ps) {g : List Str} (h : g ∈ leastP ps rows) : g ∈ rows := ((mem_least hr).mp h).1
theorem least_below {ps : List Str} {rows : List (List Str)} (hp : ps.Nodup) (hr : ∀ g ∈ rows, g.Sublist ps) : ∀ (n : Nat) (o : List Str), o.length ≤ n → o ∈ rows → ∃ l ∈ leastP ps rows, ∀ n ∈ l, n ∈ o := by
  intro n
  induction n with
  | zero =>
    intro o hl ho
    refine ⟨o, (mem_least hr).mpr ⟨ho, fun q hq h2 => ?_⟩, fun n h => h⟩
    have hs := sub_of_inside hp (hr q hq) (hr o ho) h2
    exact hs.eq_of_length (by have := hs.length_le; omega)
  | succ n ih =>
    intro o hl ho
    by_cases h : ∃ q ∈ rows, q ≠ o ∧ ∀ n ∈ q, n ∈ o
    · obtain ⟨q, hq, h1, h2⟩ := h
      have hs := sub_of_inside hp (hr q hq) (hr o ho) h2
      have hlt : q.length ≠ o.length := fun z => h1 (hs.eq_of_length z)
      obtain ⟨l, h3, h4⟩ := ih q (by have := hs.length_le; omega) hq
      exact ⟨l, h3, fun n hn => h2 n (h4 n hn)⟩
    · exact ⟨o, (mem_least hr).mpr ⟨ho, fun q hq h2 => Classical.byContradiction fun h1 => h ⟨q, hq, h1, h2⟩⟩, fun n h => h⟩
theorem least_any {ps : List Str} {rows : List (List Str)} (hp : ps.Nodup) (hr : ∀ g ∈ rows, g.Sublist ps) (g : List Str) : opL (leastP ps rows) g = opL rows g := by
  rw [Bool.eq_iff_iff, opL_iff, opL_iff]
  constructor
  · rintro ⟨l, h1, h2⟩
    exact ⟨l, least_in hr h1, h2⟩
  · rintro ⟨o, h1, h2⟩
    obtain ⟨l, h3, h4⟩ := least_below hp hr o.length o (Nat.le_refl _) h1
    exact ⟨l, h3, fun n hn => h2 n (h4 n hn)⟩
/-- the rank is the same with the goal exactly if the goal is a sum of multiples -/
theorem right_rank {p : Int} {n : Nat} {rows : List (List Int)} {gl : List Int} (hp : isPr (.int p) = true) (hr : ∀ r ∈ rows, RowOk p n r) (hg : RowOk p n gl) : ((LA.cleared p n (rows ++ [gl])).length = (LA.cleared p n rows).length) ↔ LA.InS p n (rows.map LA.at_) (LA.at_ gl) := by
  have hpp := isPr_is hp
  have h1 := LA.cleared_rank (LA.prmT_of hpp) (n := n) (rows := rows) fun r h => (hr r h).la
  have h2 := LA.cleared_rank (LA.prmT_of hpp) (n := n) (rows := rows ++ [gl]) fun r h => (List.mem_append.mp h).elim (fun z => (hr r z).la) fun z => by rw [List.mem_singleton.mp z]; exact hg.la
  rw [List.map_append] at h2
  have := LA.rank_in (LA.prm_of hpp) h1 h2
  exact ⟨fun e => this.mp e.symm, fun e => (this.mpr e).symm⟩
end
end P
set_option Elab.async false
set_option linter.all false
set_option maxRecDepth 100000
set_option maxHeartbeats 4000000
namespace P
open PySem PySem.Spec PyProof.Rows L2 OS
/-! short ways: "rd" opens a reading as far as equations go; "sep" finds what stands apart from the state; "sq" a list that is read; "nx" two heaps -/
local macro_rules | `(tactic| walk_at "sep") => `(tactic| first | assumption | (refine (by assumption : Nx _ _ _) _ _ ?_; walk_at "sep"))
local macro_rules | `(tactic| walk_at "sq") => `(tactic| first | assumption | exact .inl (.inl (by assumption)) | exact Sep.sq (by walk_at "sep") | exact Sep.st (by walk_at "sep") | exact .inl (.inl upd_same))
local macro_rules | `(tactic| walk_at "rd") => `(tactic| repeat (first
  | refine And.intro rfl ?_
  | apply Exists.intro
  | refine And.intro (by assumption) ?_
  | refine And.intro (DrawOk.mk (by omega) (by omega) (by omega)) ?_
  | refine And.intro at0 ?_
  | refine And.intro ⟨_, rfl⟩ ?_
  | refine And.intro (by walk_at "sq") ?_
  | refine And.intro (Or.inl (by walk_at "sq")) ?_
  | refine And.intro (Or.inr (by walk_at "sq")) ?_
  | refine And.intro (by omega) ?_))
section
variable {P : Program} {w : World} {K : PySem.W.Frag} {mg : Str → Option Value} {base : Heap}
/-- the law's ranks say the same as the factors -/
theorem spans_open {p : Int} {n : Nat} {rows : List (List Int)} (hp : isPr (.int p) = true) (h1 : 1 ≤ n) (hr : ∀ r ∈ rows, RowOk p n r) : spansB p n rows (goalL n) = (solL p rows.length (eqsL rows (goalL n))).isSome := by
  unfold spansB
  rw [Bool.eq_iff_iff, decide_eq_true_iff]
  exact (right_rank hp hr (goal_ok hp h1)).trans (facs_in hp hr (goal_ok hp h1)).symm
/-! ### thresholds, computed -/
def subsN : List Nat → List (List Nat) | [] => [[]] | a :: l => subsN l ++ (subsN l).map (a :: ·)
theorem mem_subsN : ∀ {l s : List Nat}, s.Sublist l → s ∈ subsN l := by
  intro l s h
  induction h with
  | slnil => exact .head _
  | cons a h ih => exact List.mem_append.mpr (.inl ih)
  | cons_cons a h ih => exact List.mem_append.mpr (.inr (List.mem_map.mpr ⟨_, ih, rfl⟩))
def thrB (p : Int) (m : Nat) (s : List Nat) : Bool := (solL p s.length (eqsL (s.map fun i : Nat => powL p ((i : Int) + 1) m) (goalL m))).isSome == decide (m ≤ s.length)
def thrA (p : Int) (n : Nat) : Bool := (List.range n).all fun m => (subsN (List.range n)).all fun s => thrB p (m + 1) s
theorem thr_all : (([2, 3, 5, 7, 11] : List Int).all fun p => (List.range 6).all fun n => decide (p ≤ (n : Int)) || thrA p n) = true := by decide +kernel
theorem thr_sub {p : Int} {n m : Nat} {s : List Nat} (hp : isPr (.int p) = true) (hn : n ≤ 5) (hnp : (n : Int) < p) (h1 : 1 ≤ m) (hm : m ≤ n) (hs : s.Sublist (List.range n)) : (solL p s.length (eqsL (s.map fun i : Nat => powL p ((i : Int) + 1) m) (goalL m))).isSome = decide (m ≤ s.length) := by
  have hpm : p ∈ ([2, 3, 5, 7, 11] : List Int) := by
    have := isPr_is hp
    simp
    omega
  have h2 := List.all_eq_true.mp (List.all_eq_true.mp thr_all p hpm) n (List.mem_range.mpr (by omega))
  rw [decide_eq_false (show ¬ p ≤ (n : Int) by omega), Bool.false_or] at h2
  have h3 := List.all_eq_true.mp (List.all_eq_true.mp h2 (m - 1) (List.mem_range.mpr (by omega))) s (mem_subsN hs)
  rw [show m - 1 + 1 = m by omega] at h3
  exact eq_of_beq h3
theorem map_pos {ws : List Str} (h : ws.Nodup) : ws.map (posOf ws) = List.range ws.length := by
  refine List.ext_getElem (by simp) fun i h1 h2 => ?_
  rw [List.getElem_map, List.getElem_range]
  exact idx_of h (List.getElem?_eq_getElem (by simpa using h1))
theorem gRows_thr (p : Int) (m : Nat) (ws : List Str) : ∀ g : List Str, gRows (thrR p m ws) g = (g.map (posOf ws)).map fun i : Nat => powL p ((i : Int) + 1) m
  | [] => rfl
  | z :: g => by
    have := gRows_thr p m ws g
    unfold gRows at this ⊢
    rw [List.flatMap_cons, this]
    rfl
/-- just the groups of so many open -/
theorem thr_open {p : Int} {m : Nat} {ws g : List Str} (hp : isPr (.int p) = true) (hn : NamesOk ws) (hnp : (ws.length : Int) < p) (h1 : 1 ≤ m) (hm : m ≤ ws.length) (hg : g.Sublist ws) : openB p m (thrR p m ws) g = decide (m ≤ g.length) := by
  have hs : (g.map (posOf ws)).Sublist (List.range ws.length) := by
    rw [← map_pos hn.nd]
    exact hg.map _
  have := thr_sub hp hn.five hnp h1 hm hs
  unfold openB gFacs
  rw [gRows_thr, List.length_map, List.length_map]
  rw [List.length_map] at this
  exact this
theorem thr_fam {ws g : List Str} {m : Nat} (hn : ws.Nodup) (h1 : 1 ≤ m) (hg : g.Sublist ws) : ((leastP ws (manyG ws (m : Int))).any fun l => inside l g) = decide (m ≤ g.length) := by
  have hmo := many_ok (ws := ws) (k := (m : Int)) (by omega)
  have := least_any hn (fun g hg => (hmo g hg).1) g
  unfold opL at this
  rw [this, Bool.eq_iff_iff, decide_eq_true_iff]
  have e := opL_iff (rows := manyG ws (m : Int)) (g := g)
  unfold opL at e
  rw [e]
  constructor
  · rintro ⟨o, ho, hin⟩
    have hsub := sub_of_inside hn (hmo o ho).1 hg hin
    unfold manyG at ho
    have := of_decide_eq_true (List.mem_filter.mp ho).2
    have := hsub.length_le
    omega
  · intro hle
    refine ⟨g.take m, ?_, fun n hn => List.mem_of_mem_take hn⟩
    unfold manyG
    rw [List.mem_filter, mem_allG]
    refine ⟨(List.take_sublist _ _).trans hg, decide_eq_true ?_⟩
    rw [List.length_take]
    omega
theorem thr_fits {p : Int} {m : Nat} {ws : List Str} (hp : isPr (.int p) = true) (hn : NamesOk ws) (hnp : (ws.length : Int) < p) (h1 : 1 ≤ m) (hm : m ≤ ws.length) : fitB p m ws (thrR p m ws) (leastP ws (manyG ws (m : Int))) = true := by
  unfold fitB
  rw [List.all_eq_true]
  intro g hg
  have hgs := mem_allG.mp hg
  rw [thr_open hp hn hnp h1 hm hgs, thr_fam hn.nd h1 hgs]
  simp
end
end P
set_option Elab.async false
set_option linter.all false
set_option maxRecDepth 100000
set_option maxHeartbeats 4000000
namespace P
open PySem PySem.Spec PyProof.Rows L2 OS
/-! short ways: "rd" opens a reading as far as equations go; "sep" finds what stands apart from the state; "sq" a list that is read; "nx" two heaps -/
local macro_rules | `(tactic| walk_at "sep") => `(tactic| first | assumption | (refine (by assumption : Nx _ _ _) _ _ ?_; walk_at "sep"))
local macro_rules | `(tactic| walk_at "sq") => `(tactic| first | assumption | exact .inl (.inl (by assumption)) | exact Sep.sq (by walk_at "sep") | exact Sep.st (by walk_at "sep") | exact .inl (.inl upd_same))
local macro_rules | `(tactic| walk_at "rd") => `(tactic| repeat (first
  | refine And.intro rfl ?_
  | apply Exists.intro
  | refine And.intro (by assumption) ?_
  | refine And.intro (DrawOk.mk (by omega) (by omega) (by omega)) ?_
  | refine And.intro at0 ?_
  | refine And.intro ⟨_, rfl⟩ ?_
  | refine And.intro (by walk_at "sq") ?_
  | refine And.intro (Or.inl (by walk_at "sq")) ?_
  | refine And.intro (Or.inr (by walk_at "sq")) ?_
  | refine And.intro (by omega) ?_))
section
variable {P : Program} {w : World} {K : PySem.W.Frag} {mg : Str → Option Value} {base : Heap}
/-- _law_shuffled(state, items) -/
def spShuf (K : PySem.W.Frag) : Sp := fun vs H Q _ => ∃ (p a : Addr) (m : Nat) (xs : List V), vs = [.ref p, .ref a] ∧ StU H p m ∧ SqL K H a xs ∧ xs.length ≤ 400 ∧ m ≤ 900000000 ∧
  ∀ q H' ys m', H q = none → StU H' p m' → m' ≤ m + 400 → Nx p H H' → Sep H' p q (.lst ys) → ys.Perm xs → Q (.ref q) H'
theorem ok_law_shuffled (T : Txt K mg) : FnOk P w K mg base CX0 2 T.f_law_shuffled T.fd_law_shuffled ["_law_state", "_law_items"] (spShuf K) := by
  refine T.F_law_shuffled.ok sc_law_shuffled (fun vs H Q E h => ?_) (fun cdv A outer s H vs Q E hr h => ?_)
  · obtain ⟨p, a, m, xs, rfl, _⟩ := h
    rfl
  · obtain ⟨p, a, m, xs, rfl, S, ha, hl, hm, q⟩ := h
    refine ⟨_, (pss_cons (ps_set (i := 2) sc_law_shuffled.nd rfl (Or.inl rfl) (pe_callTy (T := "list") (r := rListS K) call_listS (by rfl) T.n_list (by decide +kernel) (pa_cons (pv 1) pa_nil)))
    (pss_cons (ps_set (i := 3) sc_law_shuffled.nd rfl (Or.inl rfl) (pe_lstO pa_nil))
    (pss_stop (ps_for PassesOwn.never rfl (pi_hold (pi_range1 rfl T.n_range (pa_cons (pe_callB (id := "len") (r := rLenS K) call_lenS (by rfl) T.n_len PySem.boot_len (pa_cons (pv 1) pa_nil)) pa_nil))) (pg_name (i := 4) sc_law_shuffled.nd rfl (Or.inl rfl))
      (pss_one (ps_expr (pe_bm PySem.F.plainAttrs_list PySem.F.slot_list_append PySem.F.type_list_append mt_append (pv 3) (pa_cons (pe_bm PySem.F.plainAttrs_list PySem.F.slot_list_pop PySem.F.type_list_pop mt_popAt (pv 2) (pa_cons (pe_call (ok_law_take T) (hr.mono (by decide)) (by rfl) T.g_law_take T.F_law_take.kp T.b_law_take .nil pass0 (pa_cons (pv 0) (pa_cons (pe_callB (id := "len") (r := rLenS K) call_lenS (by rfl) T.n_len PySem.boot_len (pa_cons (pv 2) pa_nil)) pa_nil))) pa_nil)) pa_nil)))))
    (pss_one (ps_ret (pv 3)))))), ?_⟩
    walk_at "rd"
    intro l H1 nl s1 hl1
    walk_at "rd"
    refine ⟨by decide, fun t H2 nt s2 ht2 => ?_⟩
    have hl2 : Sep H2 p l (.lst xs) := Sep.of_newU S (s1.trans s2) nl (s2 _ _ hl1)
    have ht : Sep H2 p t (.lst []) := Sep.of_newU S (s1.trans s2) (s1.free nt) ht2
    have hlt : l ≠ t := ne_of_none hl1 nt
    have S2 := S.same (s1.trans s2)
    have x2 : Nx p H H2 := S.nx (s1.trans s2)
    have ntH := s1.free nt
    have nlH := nl
    have haq2 : SqL K H2 a xs ∨ SqT K H2 a xs := .inl ((s1.trans s2).seq ha)
    clear s1 s2 hl1 nt ht2 nl ha
    have hl2' := hl2.at_
    refine Stop.cut (fun σ H' => ∃ (y : Option V) (ts : List V) (m' : Nat), σ = [some (.ref p), some (.ref a), some (.ref l), some (.ref t), y] ∧ StU H' p m' ∧ m' ≤ m + 400 ∧ Nx p H H' ∧ Sep H' p t (.lst ts) ∧ ts.Perm xs) (fun Qz hz => ?_) ?_
    · walk_at "rd"
      refine ⟨for_it walk_range (fun i σ H' => ∃ (y : Option V) (ls ts : List V) (m' : Nat), σ = [some (.ref p), some (.ref a), some (.ref l), some (.ref t), y] ∧ StU H' p m' ∧ m' ≤ m + i ∧ Nx p H H' ∧ Sep H' p l (.lst ls) ∧ Sep H' p t (.lst ts) ∧ ls.length = xs.length - i ∧ (ts ++ ls).Perm xs) ⟨none, xs, [], m, rfl, S2, by omega, x2, hl2, ht, by omega, List.Perm.refl _⟩ (fun _ _ _ _ _ => trivial) ?_ ?_⟩
      · rintro i x _ H3 H4 hi ⟨y, ls, ts, m', rfl, S3, hm3, x3, hl3, ht3, hls, pm⟩ ⟨rfl, rfl⟩
        have hi' : i < xs.length := by simpa using hi
        have hl3' := hl3.at_
        have ht3' := ht3.at_
        walk_at "rd"
        have hlsp : ((ls.length : Nat) : Int) = (xs.length : Int) - i := by omega
        refine ⟨.inl ⟨rfl, _, ht3.sq⟩, ?_⟩
        walk_at "rd"
        refine ⟨.inl ⟨rfl, _, hl3.sq⟩, ?_⟩
        walk_at "rd"
        intro r H5 h0 h1 S5 x5
        have hl5 := x5 _ _ hl3
        have ht5 := x5 _ _ ht3
        have hr1 : r.toNat < ls.length := by omega
        have hix : seqIndex? r ls.length = some r.toNat := by
          unfold seqIndex?
          simp
          omega
        refine ⟨l, ls, r, r.toNat, ls[r.toNat], rfl, rfl, hl5.at_, by omega, by omega, hix, List.getElem?_eq_getElem hr1, ?_⟩
        have ht6 := ht5.put_ne (u := .lst (ls.eraseIdx r.toNat)) hl5 hlt.symm
        have hl6 := hl5.put_same (u := .lst (ls.eraseIdx r.toNat))
        have hpm : (ts ++ [ls[r.toNat]] ++ ls.eraseIdx r.toNat).Perm xs := by
          refine List.Perm.trans ?_ pm
          rw [List.append_assoc]
          exact (erase_perm hr1).append_left ts
        have htl : ts.length ≤ 400 := by
          have := pm.length_eq
          rw [List.length_append] at this
          omega
        refine ⟨t, ts, ls[r.toNat], rfl, rfl, ht6.at_, Nat.lt_of_le_of_lt htl (by decide), ?_⟩
        refine ⟨_, ls.eraseIdx r.toNat, ts ++ [ls[r.toNat]], m' + 1, rfl, (S5.put hl5).put ht6, by omega, fun q o h => (((x3.trans x5) q o h).put_ne hl5 (ne_of_none h.at_ nlH)).put_ne ht6 (ne_of_none h.at_ ntH), hl6.put_ne ht6 hlt, ht6.put_same, ?_, hpm⟩
        rw [List.length_eraseIdx_of_lt hr1]
        omega
      · rintro σ H3 ⟨y, ls, ts, m', rfl, S3, hm3, x3, hl3, ht3, hls, pm⟩
        have hn : ls = [] := List.eq_nil_of_length_eq_zero (by rw [hls]; simp)
        subst hn
        rw [List.append_nil] at pm
        refine hz _ _ ⟨y, ts, m', rfl, S3, ?_, x3, ht3, pm⟩
        have : (0 + (xs.length : Int) - 0).toNat = xs.length := by omega
        omega
    · rintro _ H3 ⟨y, ts, m', rfl, S3, hm3, x3, ht3, pm⟩
      walk_at "rd"
      exact q t H3 ts m' ntH S3 hm3 x3 ht3 pm
end
end P
set_option Elab.async false
set_option linter.all false
set_option maxRecDepth 100000
set_option maxHeartbeats 4000000
namespace P
open PySem PySem.Spec PyProof.Rows L2 OS
/-! short ways: "rd" opens a reading as far as equations go; "sep" finds what stands apart from the state; "sq" a list that is read; "nx" two heaps -/
local macro_rules | `(tactic| walk_at "sep") => `(tactic| first | assumption | (refine (by assumption : Nx _ _ _) _ _ ?_; walk_at "sep"))
local macro_rules | `(tactic| walk_at "sq") => `(tactic| first | assumption | exact .inl (.inl (by assumption)) | exact Sep.sq (by walk_at "sep") | exact Sep.st (by walk_at "sep") | exact .inl (.inl upd_same))
local macro_rules | `(tactic| walk_at "rd") => `(tactic| repeat (first
  | refine And.intro rfl ?_
  | apply Exists.intro
  | refine And.intro (by assumption) ?_
  | refine And.intro (DrawOk.mk (by omega) (by omega) (by omega)) ?_
  | refine And.intro at0 ?_
  | refine And.intro ⟨_, rfl⟩ ?_
  | refine And.intro (by walk_at "sq") ?_
  | refine And.intro (Or.inl (by walk_at "sq")) ?_
  | refine And.intro (Or.inr (by walk_at "sq")) ?_
  | refine And.intro (by omega) ?_))
section
variable {P : Program} {w : World} {K : PySem.W.Frag} {mg : Str → Option Value} {base : Heap}
/-- _law_groups(names) -/
def spGroups (K : PySem.W.Frag) : Sp := fun vs H Q _ => ∃ (a : Addr) (ps : List Str), vs = [.ref a] ∧ SqT K H a (ps.map V.str) ∧ ps.length ≤ 8 ∧ ∀ p H' xs, H p = none → Same H H' → H' p = some (.lst xs) → GrpsV K H' xs (allG ps) → Q (.ref p) H'
theorem ok_law_groups (T : Txt K mg) : FnOk P w K mg base CX0 1 T.f_law_groups T.fd_law_groups ["_law_names"] (spGroups K) := by
  refine T.F_law_groups.ok sc_law_groups (fun vs H Q E h => ?_) (fun cdv A outer s H vs Q E hr h => ?_)
  · obtain ⟨a, ps, rfl, _⟩ := h
    rfl
  · obtain ⟨a, ps, rfl, hp, hl, q⟩ := h
    refine ⟨_, (pss_cons (ps_set (i := 1) sc_law_groups.nd rfl (Or.inl rfl) (pe_lstO (pa_cons (pe_tupO pa_nil) pa_nil)))
    (pss_stop (ps_for PassesOwn.never rfl (pi_hold (pi_tup (pv 0))) (pg_name (i := 2) sc_law_groups.nd rfl (Or.inr rfl))
      (pss_one (ps_set (i := 1) sc_law_groups.nd rfl (Or.inl rfl) (pe_op op_catO (pv 1) (pe_lc (own := [("_law_row", 3)]) (g := gName 3) (tt := tYes) rfl sc_law_groups.nd (pi_list (pv 1)) (blkOk_by (own := [("_law_row", 3)]) (N := N_law_groups) (sc := defScope s_law_groups) (by decide +kernel)) (fun _ _ _ _ _ => (pg_name (i := 3) sc_law_groups.nd rfl (Or.inl rfl))) (fun _ _ _ _ _ => pts_nil) (fun _ _ _ _ _ => (pe_op (r := rCatTO K) op_catTO (pv 3) (pe_tupO (pa_cons (pv 2) pa_nil)))))))))
    (pss_one (ps_ret (pe_lc (own := [("_law_size", 4), ("_law_row", 3)]) (g := gTup K 2 (gCons (gName 4) (gCons (gName 3) gNil))) (tt := tYes) rfl sc_law_groups.nd (pi_list (pe_callB (id := "sorted") (cr_sortX (room65 hr)) (by rfl) T.n_sorted (by decide +kernel) (pa_cons (pe_lc (own := [("_law_row", 3)]) (g := gName 3) (tt := tYes) rfl sc_law_groups.nd (pi_list (pv 1)) (blkOk_by (own := [("_law_row", 3)]) (N := N_law_groups) (sc := defScope s_law_groups) (by decide +kernel)) (fun _ _ _ _ _ => (pg_name (i := 3) sc_law_groups.nd rfl (Or.inl rfl))) (fun _ _ _ _ _ => pts_nil) (fun _ _ _ _ _ => (pe_tupO (pa_cons (pe_callB (id := "len") (r := rLenS K) call_lenS (by rfl) T.n_len PySem.boot_len (pa_cons (pv 3) pa_nil)) (pa_cons (pv 3) pa_nil))))) pa_nil))) (blkOk_by (own := [("_law_size", 4), ("_law_row", 3)]) (N := N_law_groups) (sc := defScope s_law_groups) (by decide +kernel)) (fun _ _ _ _ _ => (pg_tup rfl (pgs_cons (pg_name (i := 4) sc_law_groups.nd rfl (Or.inl rfl)) (pgs_cons (pg_name (i := 3) sc_law_groups.nd rfl (Or.inl rfl)) pgs_nil)))) (fun _ _ _ _ _ => pts_nil) (fun _ _ _ _ _ => (pv 3))))))), ?_⟩
    walk_at "rd"
    refine ⟨by decide, fun e H1 ne s1 he => ?_⟩
    walk_at "rd"
    refine ⟨by show 1 ≤ sizeLine; decide, fun p H2 n2 s2 hp2 => ?_⟩
    have s12 : Same H H2 := s1.trans s2
    have hg2 : GrpsV K H2 [V.ref e] (setsL (ps.take 0)) := .cons ⟨e, rfl, SqT.of (s2 _ _ he)⟩ .nil
    clear s1 s2 n2 ne he
    refine Stop.cut (fun σ H' => ∃ (p : Addr) (xs : List V) (y : Option V), σ = [some (.ref a), some (.ref p), y, none, none] ∧ Same H H' ∧ H' p = some (.lst xs) ∧ GrpsV K H' xs (setsL ps)) (fun Qz hz => ?_) ?_
    · walk_at "rd"
      refine ⟨⟨_, s12.tupT hp⟩, ⟨for_it (walk_tup (xs := ps.map V.str)) (fun i σ H' => ∃ (p : Addr) (xs : List V) (y : Option V), σ = [some (.ref a), some (.ref p), y, none, none] ∧ Same H H' ∧ H' p = some (.lst xs) ∧ GrpsV K H' xs (setsL (ps.take i))) ⟨p, _, none, rfl, s12, hp2, hg2⟩ (fun i σ H' _ ⟨_, _, _, _, s, _⟩ => s.tupT hp) ?_ ?_⟩⟩
      · rintro i x _ H3 H4 hi ⟨p3, xs, y, rfl, s3, hp3, hg3⟩ ⟨rfl, hx⟩
        have hi' : i < ps.length := by simpa using hi
        obtain rfl := strs_get hx (List.getElem?_eq_getElem hi')
        have hlen : (setsL (ps.take i)).length ≤ 256 := sets_small (by rw [List.length_take]; omega)
        have hxl := paired_len hg3
        walk_at "rd"
        refine ⟨⟨_, SqL.of hp3⟩, fun D hD => ?_⟩
        refine lc_rel (walk_list (xs := xs)) (xs := setsL (ps.take i)) hxl.symm (by omega) (fun _ => true) (fun H g v => GrpV K H v (g ++ [ps[i]])) hD (fun H H' g v acc _ hDa k h => h.but hDa k) (fun H s => s.seq (SqL.of hp3)) ?_ ?_
        · intro j g v H5 H6 Qk Qn hg sm hy hk _
          obtain ⟨rfl, hv⟩ := hy
          obtain ⟨g', h1, h2⟩ := OS.paired_get hg3 hv
          obtain rfl : g' = g := Option.some.inj (h1.symm.trans hg)
          obtain ⟨b, rfl, hb⟩ := h2.same sm
          walk_at "rd"
          refine ⟨by show 1 ≤ sizeLine; decide, fun t H7 n7 s7 ht => ?_⟩
          have hgl : g'.length ≤ 8 := by
            have h9 : g' ∈ setsL (ps.take i) := List.mem_of_getElem? hg
            have h8 := (mem_sets.mp h9).length_le
            rw [List.length_take] at h8
            omega
          refine ⟨b, t, g'.map V.str, [V.str ps[i]], rfl, rfl, s7.tupT hb, SqT.of ht, by rw [List.length_map]; exact Nat.le_trans (Nat.add_le_add_right hgl 1) (by decide), fun q8 H8 s8 hq8 => ?_⟩
          exact hk rfl _ _ ⟨q8, rfl, by rw [List.map_append]; exact hq8⟩ (s7.trans s8)
        · intro H5 acc sm hD5 pr
          have hfl : (setsL (ps.take i)).filter (fun _ => true) = setsL (ps.take i) := List.filter_eq_self.mpr fun _ _ => rfl
          rw [hfl] at pr
          refine ⟨p3, D, xs, acc, rfl, rfl, sm _ _ hp3, hD5, ?_, fun p6 H6 n6 s6 hp6 => ?_⟩
          · have := paired_len pr
            rw [hxl, ← this]
            exact Nat.le_trans (Nat.add_le_add hlen hlen) (by decide)
          · walk_at "rd"
            refine ⟨(s3.trans sm).trans s6, hp6, ?_⟩
            have e : ps.take (i + 1) = ps.take i ++ [ps[i]] := by rw [List.take_succ, List.getElem?_eq_getElem hi']; rfl
            rw [e, setsL_snoc]
            refine paired_app ((hg3.same sm).same s6) ?_
            have pr2 : Paired (fun (g : List Str) (v : V) => GrpV K H6 v (g ++ [ps[i]])) (setsL (ps.take i)) acc := Paired.mapP pr fun _ _ z => z.same s6
            exact paired_swap (paired_map (F := fun (g : List Str) (v : V) => GrpV K H6 v g) (f := fun g => g ++ [ps[i]]) pr2)
      · rintro σ H3 ⟨p3, xs, y, rfl, s3, hp3, hg3⟩
        rw [List.length_map, List.take_length] at hg3
        exact hz _ _ ⟨p3, xs, y, rfl, s3, hp3, hg3⟩
    · rintro _ H3 ⟨p3, xs, y, rfl, s3, hp3, hg3⟩
      have hlen := sets_small hl
      have hxl := paired_len hg3
      walk_at "rd"
      refine ⟨⟨_, SqL.of hp3⟩, fun D hD => ?_⟩
      refine lc_rel (walk_list (xs := xs)) (xs := setsL ps) hxl.symm (by omega) (fun _ => true) (fun H g v => PairV K H v g) hD (fun H H' g v acc _ hDa k h => h.but hDa k) (fun H s => s.seq (SqL.of hp3)) ?_ ?_
      · intro j g v H5 H6 Qk Qn hg sm hy hk _
        obtain ⟨rfl, hv⟩ := hy
        obtain ⟨g', h1, h2⟩ := OS.paired_get hg3 hv
        obtain rfl : g' = g := Option.some.inj (h1.symm.trans hg)
        obtain ⟨b, rfl, hb⟩ := h2.same sm
        walk_at "rd"
        refine ⟨by show 2 ≤ sizeLine; decide, fun t H7 n7 s7 ht => ?_⟩
        rw [List.length_map] at ht
        exact hk rfl _ _ ⟨t, b, rfl, SqT.of ht, s7.tupT hb⟩ s7
      · intro H5 acc sm hD5 pr
        have hfl : (setsL ps).filter (fun _ => true) = setsL ps := List.filter_eq_self.mpr fun _ _ => rfl
        rw [hfl] at pr
        refine ⟨D, rfl, pairs_sorted hD5 (paired_swap pr) fun m H6 ys n6 s6 hm hys => ?_⟩
        have hal : (allG ps).length ≤ 256 := by rw [(allG_perm ps).length_eq]; exact hlen
        have hyl := paired_len hys
        refine ⟨m, rfl, ⟨_, SqL.of hm⟩, fun D2 hD2 => ?_⟩
        refine lc_rel (walk_list (xs := ys)) (xs := allG ps) hyl.symm (by show ys.length ≤ 100000; rw [hyl]; exact Nat.le_trans hal (by decide)) (fun _ => true) (fun H g v => GrpV K H v g) hD2 (fun H H' g v acc _ hDa k h => h.but hDa k) (fun H s => s.seq (SqL.of hm)) ?_ ?_
        · intro j g v H7 H8 Qk Qn hg sm7 hy hk _
          obtain ⟨rfl, hv⟩ := hy
          obtain ⟨g', h1, h2⟩ := OS.paired_get hys hv
          obtain rfl : g' = g := Option.some.inj (h1.symm.trans hg)
          obtain ⟨t, b, rfl, ht, hb⟩ := h2.same sm7
          walk_at "rd"
          exact hk rfl _ _ ⟨b, rfl, hb⟩ (Same.refl _)
        · intro H7 acc2 sm7 hD7 pr7
          have hfl2 : (allG ps).filter (fun _ => true) = allG ps := List.filter_eq_self.mpr fun _ _ => rfl
          rw [hfl2] at pr7
          exact q D2 H7 acc2 ((((s3.trans sm).trans s6)).free hD2) (((s3.trans sm).trans s6).trans sm7) hD7 (paired_swap pr7)
end
end P
set_option Elab.async false
set_option linter.all false
set_option maxRecDepth 100000
set_option maxHeartbeats 4000000
namespace P
open PySem PySem.Spec PyProof.Rows L2 OS
/-! short ways: "rd" opens a reading as far as equations go; "sep" finds what stands apart from the state; "sq" a list that is read; "nx" two heaps -/
local macro_rules | `(tactic| walk_at "sep") => `(tactic| first | assumption | (refine (by assumption : Nx _ _ _) _ _ ?_; walk_at "sep"))
local macro_rules | `(tactic| walk_at "sq") => `(tactic| first | assumption | exact .inl (.inl (by assumption)) | exact Sep.sq (by walk_at "sep") | exact Sep.st (by walk_at "sep") | exact .inl (.inl upd_same))
local macro_rules | `(tactic| walk_at "rd") => `(tactic| repeat (first
  | refine And.intro rfl ?_
  | apply Exists.intro
  | refine And.intro (by assumption) ?_
  | refine And.intro (DrawOk.mk (by omega) (by omega) (by omega)) ?_
  | refine And.intro at0 ?_
  | refine And.intro ⟨_, rfl⟩ ?_
  | refine And.intro (by walk_at "sq") ?_
  | refine And.intro (Or.inl (by walk_at "sq")) ?_
  | refine And.intro (Or.inr (by walk_at "sq")) ?_
  | refine And.intro (by omega) ?_))
section
variable {P : Program} {w : World} {K : PySem.W.Frag} {mg : Str → Option Value} {base : Heap}
/-- _law_goal(width) -/
def spLGoal (K : PySem.W.Frag) : Sp := fun vs H Q _ => ∃ n : Nat, vs = [.int (n : Int)] ∧ 1 ≤ n ∧ n ≤ 100 ∧ ∀ p H', H p = none → Same H H' → H' p = some (.tup ((goalL n).map V.int)) → Q (.ref p) H'
theorem ok_law_goal (T : Txt K mg) : FnOk P w K mg base CX0 1 T.f_law_goal T.fd_law_goal ["_law_width"] (spLGoal K) := by
  refine T.F_law_goal.ok sc_law_goal (fun vs H Q E h => ?_) (fun cdv A outer s H vs Q E hr h => ?_)
  · obtain ⟨n, rfl, _⟩ := h
    rfl
  · obtain ⟨n, rfl, h1, h2, q⟩ := h
    refine ⟨_, (pss_one (ps_ret (pe_callTy (T := "tuple") (r := rTupL K) call_tupL (by rfl) T.n_tuple (by decide +kernel) (pa_cons (pe_op op_catO (pe_lstO (pa_cons pe_int pa_nil)) (pe_op op_mulL (pe_lstO (pa_cons pe_int pa_nil)) (pe_op op_sub (pv 0) pe_int))) pa_nil)))), ?_⟩
    walk_at "rd"
    refine ⟨by decide, fun a H1 na s1 ha => ?_⟩
    walk_at "rd"
    refine ⟨by decide, fun b H2 nb s2 hb => ?_⟩
    walk_at "rd"
    refine ⟨Nat.le_trans (show 1 * ((n : Int) - 1).toNat ≤ 1000 by omega) (by decide), fun c H3 nc s3 hc => ?_⟩
    have ha3 := s3 _ _ (s2 _ _ ha)
    have el : (List.replicate ((n : Int) - 1).toNat [V.int 0]).flatten = (List.replicate (n - 1) (0 : Int)).map V.int := by
      have e1 : ((n : Int) - 1).toNat = n - 1 := by omega
      rw [e1]
      generalize n - 1 = k
      induction k with
      | zero => rfl
      | succ k ih => rw [List.replicate_succ, List.replicate_succ, List.flatten_cons, ih]; rfl
    rw [el] at hc
    walk_at "rd"
    refine ⟨by rw [List.length_map, List.length_replicate]; exact Nat.le_trans (show 1 + (n - 1) ≤ 1000 by omega) (by decide), fun d H4 nd s4 hd => ?_⟩
    walk_at "rd"
    intro r H5 nr s5 hr5
    have S4 := ((s1.trans s2).trans s3).trans s4
    exact q r H5 (S4.free nr) (S4.trans s5) hr5
end
end P
set_option Elab.async false
set_option linter.all false
set_option maxRecDepth 100000
set_option maxHeartbeats 4000000
namespace P
open PySem PySem.Spec PyProof.Rows L2 OS
/-! short ways: "rd" opens a reading as far as equations go; "sep" finds what stands apart from the state; "sq" a list that is read; "nx" two heaps -/
local macro_rules | `(tactic| walk_at "sep") => `(tactic| first | assumption | (refine (by assumption : Nx _ _ _) _ _ ?_; walk_at "sep"))
local macro_rules | `(tactic| walk_at "sq") => `(tactic| first | assumption | exact .inl (.inl (by assumption)) | exact Sep.sq (by walk_at "sep") | exact Sep.st (by walk_at "sep") | exact .inl (.inl upd_same))
local macro_rules | `(tactic| walk_at "rd") => `(tactic| repeat (first
  | refine And.intro rfl ?_
  | apply Exists.intro
  | refine And.intro (by assumption) ?_
  | refine And.intro (DrawOk.mk (by omega) (by omega) (by omega)) ?_
  | refine And.intro at0 ?_
  | refine And.intro ⟨_, rfl⟩ ?_
  | refine And.intro (by walk_at "sq") ?_
  | refine And.intro (Or.inl (by walk_at "sq")) ?_
  | refine And.intro (Or.inr (by walk_at "sq")) ?_
  | refine And.intro (by omega) ?_))
section
variable {P : Program} {w : World} {K : PySem.W.Frag} {mg : Str → Option Value} {base : Heap}
theorem sch_ty (T : Txt K mg) {H : Hp} {f : Addr} {p : Int} {n : Nat} {ws : List Str} {ro : Str → List (List Int)} (h : SchAt K T.C_Scheme H f p n ws ro) : TyX K H (.ref f) (.ref T.C_Scheme) := by
  obtain ⟨dx, a, d, kvs, hf, _⟩ := h
  exact .base (.ins hf T.cl_Scheme T.fc_Scheme T.sp_cls T.tk_cls T.mro_Scheme)
def rowD (r : List Int) : PyData := .tuple (r.map .int)
theorem dp_rows {H : Hp} : ∀ {xs : List V} {rows : List (List Int)}, Paired (RowV K H) xs rows → DpAll K H xs (rows.map rowD)
  | [], [], _ => .nil
  | [], _ :: _, h => nomatch h
  | _ :: _, [], h => nomatch h
  | x :: xs, r :: rows, .cons h t => by
    obtain ⟨b, rfl, hb⟩ := h
    exact .cons (dp_intsT hb) (dp_rows t)
theorem depth_rows : ∀ rows : List (List Int), PyData.depthAll (rows.map rowD) ≤ 1
  | [] => by simp [PyData.depthAll]
  | r :: rows => by
    have := depth_rows rows
    simp only [List.map_cons, PyData.depthAll]
    unfold rowD
    simp only [PyData.depth, depth_ints]
    unfold rowD at this
    omega
/-- lists of rows -/
def rowsD (rs : List (List Int)) : PyData := .list (rs.map rowD)
theorem depth_lists : ∀ l : List (List (List Int)), PyData.depthAll (l.map rowsD) ≤ 2
  | [] => by simp [PyData.depthAll]
  | r :: rows => by
    have := depth_lists rows
    have h2 := depth_rows r
    simp only [List.map_cons, PyData.depthAll]
    unfold rowsD
    simp only [PyData.depth]
    unfold rowsD at this
    omega
def RowsN (K : PySem.W.Frag) (D : Addr) (H : Hp) (v : V) (rs : List (List Int)) : Prop := ∃ b xs, v = .ref b ∧ H b = some (.lst xs) ∧ RowsV K H xs rs ∧ b ≠ D
theorem rowsN_dps {D : Addr} {H : Hp} : ∀ {xs : List V} {l : List (List (List Int))}, Paired (RowsN K D H) xs l → DpAll K H xs (l.map rowsD)
  | _, _, .nil => .nil
  | _, _, .cons ⟨b, xs, e, h, hr, _⟩ t => by
    subst e
    exact .cons (.lst (SqL.of h) (dp_rows hr)) (rowsN_dps t)
theorem RowsN.keep {D : Addr} {H H' : Hp} {acc : List V} (hDa : H D = some (.lst acc)) (kp : ∀ b o, H b = some o → b ≠ D → H' b = some o) {v : V} {rs : List (List Int)} (h : RowsN K D H v rs) : RowsN K D H' v rs := by
  obtain ⟨b, xs, e, h1, h2, h3⟩ := h
  exact ⟨b, xs, e, kp _ _ h1 h3, L2.Paired.mapP h2 fun _ _ z => z.but hDa no_lst kp, h3⟩
/-- _law_right(names, least, base, scheme) -/
def spRightT (T : Txt K mg) : Sp := fun vs H Q _ => ∃ (a : Addr) (m : Nat) (p : Int) (f : Addr) (ws : List Str), vs = [.ref a, .int (m : Int), .int p, .ref f] ∧ SqT K H a (ws.map V.str) ∧ NamesOk ws ∧ wrongUp ws ws.length = none ∧ srt ws = ws ∧ isPr (.int p) = true ∧ (ws.length : Int) < p ∧ 1 ≤ m ∧ m ≤ ws.length ∧ SchAt K T.C_Scheme H f p m ws (thrR p m ws) ∧
  ∀ H', Same H H' → Q (.bl true) H'
theorem ok_law_right (T : Txt K mg) : FnOk P w K mg base CX0 9 T.f_law_right T.fd_law_right ["_law_names", "_law_least", "_law_base", "_law_scheme"] (spRightT T) := by
  refine T.F_law_right.ok sc_law_right (fun vs H Q E h => ?_) (fun cdv A outer s H vs Q E hr h => ?_)
  · obtain ⟨a, m, p, f, ws, rfl, _⟩ := h
    rfl
  · obtain ⟨a, m, p, f, ws, rfl, ha, hws, hwu, hss, hpr, hlt, h1, hm, hs, q⟩ := h
    refine ⟨_, (pss_cons (ps_if (PW.pt (pw_or (pt_not (pt_val (pe_callB (id := "isinstance") (r := rIsi K) call_isi (by rfl) T.n_isinstance (by decide +kernel) (pa_cons (pv 3) (pa_cons (pe_glob (v := .ref T.C_Scheme) rfl T.g_Scheme rfl) pa_nil))))) (pw_or1 (pt_cmpR (r := rNeP K) (op_neP (room65 hr)) (pe_prop (pv 3) T.cl_Scheme T.pp_persons_Scheme (ok_Scheme_persons T) (hr.mono (by decide)) T.b_Scheme_persons .nil pass0 rfl) (pv 0) (nomark _)))))
      (pss_one (ps_ret pe_bl)) pss_nil)
    (pss_cons (ps_if (PW.pt (pw_or (pt_cmpR op_ne (pe_prop (pv 3) T.cl_Scheme T.pp_width (ok_Scheme_width T) (hr.mono (by decide)) T.b_Scheme_width .nil pass0 rfl) (pv 1) (nomark _)) (pw_or1 (pt_cmpR op_ne (pe_prop (pv 3) T.cl_Scheme T.pp_prime (ok_Scheme_prime T) (hr.mono (by decide)) T.b_Scheme_prime .nil pass0 rfl) (pv 2) (nomark _)))))
      (pss_one (ps_ret pe_bl)) pss_nil)
    (pss_cons (ps_set (i := 4) sc_law_right.nd rfl (Or.inr rfl) pe_dnewK)
    (pss_stop (ps_for PassesOwn.never rfl (pi_hold (pi_range1 rfl T.n_range (pa_cons (pe_callB (id := "len") (r := rLenS K) call_lenS (by rfl) T.n_len PySem.boot_len (pa_cons (pv 0) pa_nil)) pa_nil))) (pg_name (i := 5) sc_law_right.nd rfl (Or.inl rfl))
      (pss_cons (ps_set (i := 6) sc_law_right.nd rfl (Or.inl rfl) pe_int)
    (pss_cons (ps_set (i := 7) sc_law_right.nd rfl (Or.inl rfl) (pe_lstO pa_nil))
    (pss_stop (ps_for PassesOwn.never rfl (pi_hold (pi_range1 rfl T.n_range (pa_cons (pv 1) pa_nil))) (pg_name (i := 8) sc_law_right.nd rfl (Or.inl rfl))
      (pss_cons (ps_expr (pe_bm PySem.F.plainAttrs_list PySem.F.slot_list_append PySem.F.type_list_append mt_append (pv 7) (pa_cons (pv 6) pa_nil)))
    (pss_one (ps_set (i := 6) sc_law_right.nd rfl (Or.inl rfl) (pe_op op_mod (pe_op op_mul (pv 6) (pe_op op_add (pv 5) pe_int)) (pv 2))))))
    (pss_one (ps_dput (hu_of hr) (pv 4) (pe_ix (r := rIxT K) ix_tup (pv 0) (pv 5) (fun _ _ => rfl)) (pe_callTy (T := "tuple") (r := rTupL K) call_tupL (by rfl) T.n_tuple (by decide +kernel) (pa_cons (pv 7) pa_nil)) rfl))))))
    (pss_cons (ps_if (pt_cmpR (r := rNeP K) (op_neP (room65 hr)) (pe_lc (own := [("_law_name", 9)]) (g := gName 9) (tt := tYes) rfl sc_law_right.nd (pi_tup (pv 0)) (blkOk_by (own := [("_law_name", 9)]) (N := N_law_right) (sc := defScope s_law_right) (by decide +kernel)) (fun _ _ _ _ _ => (pg_name (i := 9) sc_law_right.nd rfl (Or.inl rfl))) (fun _ _ _ _ _ => pts_nil) (fun _ _ _ _ _ => (pe_methSx (E := fun _ => E0) (pv 3) T.cl_Scheme T.me_rows (ok_Scheme_rows T) (hr.mono (by decide)) T.b_Scheme_rows (fun σ => at_of pass0x σ) (pa_cons (pv 9) pa_nil)))) (pe_lc (own := [("_law_name", 9)]) (g := gName 9) (tt := tYes) rfl sc_law_right.nd (pi_tup (pv 0)) (blkOk_by (own := [("_law_name", 9)]) (N := N_law_right) (sc := defScope s_law_right) (by decide +kernel)) (fun _ _ _ _ _ => (pg_name (i := 9) sc_law_right.nd rfl (Or.inl rfl))) (fun _ _ _ _ _ => pts_nil) (fun _ _ _ _ _ => (pe_lstO (pa_cons (pe_dget (hu_of hr) (pv 4) (pv 9) (fun _ _ => rfl)) pa_nil)))) (nomark _))
      (pss_one (ps_ret pe_bl)) pss_nil)
    (pss_stop (ps_for PassesOwn.never rfl (pi_hold (pi_list (pe_call (ok_law_groups T) (hr.mono (by decide)) (by rfl) T.g_law_groups T.F_law_groups.kp T.b_law_groups .nil pass0 (pa_cons (pv 0) pa_nil)))) (pg_name (i := 10) sc_law_right.nd rfl (Or.inl rfl))
      (pss_cons (ps_set (i := 11) sc_law_right.nd rfl (Or.inl rfl) (pe_call (ok_law_spans T) (hr.mono (by decide)) (by rfl) T.g_law_spans T.F_law_spans.kp T.b_law_spans .nil pass0 (pa_cons (pv 2) (pa_cons (pe_lc (own := [("_law_name", 9)]) (g := gName 9) (tt := tYes) rfl sc_law_right.nd (pi_tup (pv 10)) (blkOk_by (own := [("_law_name", 9)]) (N := N_law_right) (sc := defScope s_law_right) (by decide +kernel)) (fun _ _ _ _ _ => (pg_name (i := 9) sc_law_right.nd rfl (Or.inl rfl))) (fun _ _ _ _ _ => pts_nil) (fun _ _ _ _ _ => (pe_dget (hu_of hr) (pv 4) (pv 9) (fun _ _ => rfl)))) (pa_cons (pe_call (ok_law_goal T) (hr.mono (by decide)) (by rfl) T.g_law_goal T.F_law_goal.kp T.b_law_goal .nil pass0 (pa_cons (pv 1) pa_nil)) pa_nil)))))
    (pss_one (ps_if (PW.pt (pw_or (pt_cmpR op_ne (pv 11) (pe_cmpR op_ge (pe_callB (id := "len") (r := rLenS K) call_lenS (by rfl) T.n_len PySem.boot_len (pa_cons (pv 10) pa_nil)) (pv 1) (nomark _)) (nomark _)) (pw_or1 (pt_cmpR op_ne (pe_methSx (E := fun _ => E0) (pv 3) T.cl_Scheme T.me_opens_Scheme (ok_Scheme_opens T) (hr.mono (by decide)) T.b_Scheme_opens (fun σ => at_of pass0x σ) (pa_cons (pv 10) pa_nil)) (pv 11) (nomark _)))))
      (pss_one (ps_ret pe_bl)) pss_nil))))
    (pss_one (ps_ret (pe_cmpR op_isBl (pe_call (ok_fits T) (hr.mono (by decide)) (by rfl) T.g_fits T.F_fits.kp T.b_fits .nil pass0 (pa_cons (pv 3) (pa_cons (pe_cmethS (E := fun _ => E0) (pe_glob (v := .ref T.C_Family) rfl T.g_Family rfl) T.cr_Family T.cm_threshold (ok_Family_threshold T) (hr.mono (by decide)) T.b_Family_threshold (fun σ => at_of pass0x σ) (pa_cons (pe_callTy (T := "list") (r := rListS K) call_listS (by rfl) T.n_list (by decide +kernel) (pa_cons (pv 0) pa_nil)) (pa_cons (pv 1) pa_nil))) pa_nil))) pe_bl (nomark _)))))))))), ?_⟩
    have h5 := hws.five
    have hpl := pr_le hpr
    have hok := thr_ok (m := m) (ws := ws) hpr h1 (by omega) hws
    obtain ⟨dx, pa, d, kvs, hf, hpa, hd, hh⟩ := id hs
    have cl := T.cl_Scheme
    have n1 := T.na_prime
    have n2 := T.na_width
    have n3 := T.na_persons_Scheme
    have l1 := sch_prime p m pa d
    have l2 := sch_width p m pa d
    have l3 := sch_persons p m pa d
    have hty := sch_ty T hs
    have dS : Dp K H (.ref pa) (encG ws) := .tup hpa (dp_all (fun z => .str z) ws)
    have dN : Dp K H (.ref a) (encG ws) := .tup ha (dp_all (fun z => .str z) ws)
    walk_at "rd"
    refine ⟨.own _, hty, T.ki_Scheme, ?_⟩
    walk_at "rd"
    refine ⟨by rw [depth_G]; decide, ?_⟩
    rw [eqv_G, decide_eq_true rfl]
    refine ⟨false, rfl, iteF ?_⟩
    walk_at "rd"
    refine ite2 (fun e => absurd e (by simp)) (fun _ => ?_)
    walk_at "rd"
    refine ite2 (fun e => absurd e (by simp)) (fun _ => ?_)
    walk_at "rd"
    refine fun dd hdd => ?_
    have s1 : Same H (upd H dd (.dK [])) := same_new hdd
    have hde : (upd H dd (.dK [])) dd = some (.dK []) := upd_same
    generalize upd H dd (.dK []) = H1 at s1 hde ⊢
    have ha1 := s1.tupT ha
    have hlm : (ws.map V.str).length = ws.length := List.length_map _
    refine Stop.cut (fun σ H' => ∃ (y5 y6 y7 y8 : Option V) (kv : List (Key × V)), σ = [some (.ref a), some (.int (m : Int)), some (.int p), some (.ref f), some (.ref dd), y5, y6, y7, y8, none, none, none] ∧ Same H H' ∧ H' dd = some (.dK kv) ∧ DHas (fun z v => RowV K H' v (powL p ((posOf ws z : Int) + 1) m)) kv ws) (fun Qz hz => ?_) ?_
    · refine ⟨.ref a, rfl, a, ws.map V.str, rfl, .inr ha1, _, rfl, by omega, by omega, ?_⟩
      refine ⟨for_it walk_range (fun i σ H' => ∃ (y5 y6 y7 y8 : Option V) (kv : List (Key × V)), σ = [some (.ref a), some (.int (m : Int)), some (.int p), some (.ref f), some (.ref dd), y5, y6, y7, y8, none, none, none] ∧ Same H H' ∧ H' dd = some (.dK kv) ∧ DHas (fun z v => RowV K H' v (powL p ((posOf ws z : Int) + 1) m)) kv (ws.take i))
        ⟨none, none, none, none, [], rfl, s1, hde, .nil⟩ (fun _ _ _ _ _ => trivial) ?_ ?_⟩
      · rintro i x _ H2 H2' hi ⟨y5, y6, y7, y8, kv, rfl, s2, hkv, hh2⟩ ⟨rfl, rfl⟩
        have hi' : i < ws.length := by simpa using hi
        have hgi : ws[i]? = some ws[i] := List.getElem?_eq_getElem hi'
        have hpos := idx_of hws.nd hgi
        walk_at "rd"
        refine ⟨by decide, fun rl H3 n3' s3 hrl => ?_⟩
        have hrldd : rl ≠ dd := ne_of_none' n3' hkv
        refine Stop.cut (fun σ H' => ∃ (y6 y8 : Option V), σ = [some (.ref a), some (.int (m : Int)), some (.int p), some (.ref f), some (.ref dd), some (.int (0 + (i : Int))), y6, some (.ref rl), y8, none, none, none] ∧ Same H2' H' ∧ H' rl = some (.lst ((powL p ((i : Int) + 1) m).map V.int))) (fun Qz2 hz2 => ?_) ?_
        · refine ⟨.int (m : Int), rfl, (m : Int), rfl, by omega, by omega, ?_⟩
          refine ⟨for_it walk_range (fun j σ H' => ∃ (y8 : Option V), σ = [some (.ref a), some (.int (m : Int)), some (.int p), some (.ref f), some (.ref dd), some (.int (0 + (i : Int))), some (.int (pw p ((i : Int) + 1) j)), some (.ref rl), y8, none, none, none] ∧ Same H2' H' ∧ H' rl = some (.lst ((powL p ((i : Int) + 1) j).map V.int)))
            ⟨y8, rfl, s3, hrl⟩ (fun _ _ _ _ _ => trivial) ?_ ?_⟩
          · rintro j x _ H4 H4' hj ⟨y8, rfl, s4, hl4⟩ ⟨rfl, rfl⟩
            have hjm : j < m := by simpa using hj
            have hpw := pw_rng (k := (i : Int) + 1) hpl.1 j
            have hcm : CMul (pw p ((i : Int) + 1) j) ((0 + (i : Int)) + 1) := .inl ⟨by omega, by omega⟩
            have hp0 : 0 < p := by omega
            refine ⟨_, rfl, .inl ⟨rfl, _, SqL.of hl4⟩, ?_⟩
            refine ⟨_, rfl, rl, _, _, rfl, rfl, hl4, by rw [List.length_map, powL_len]; exact Nat.lt_of_le_of_lt (show j ≤ 100 by omega) (by decide), ?_⟩
            walk_at "rd"
            refine ⟨?_, same_put s4 n3', ?_⟩
            · show List.set _ _ _ = _
              rw [Int.zero_add]
              rfl
            · rw [upd_same, powL_succ, List.map_append]
              rfl
          · rintro σ H4 ⟨y8, rfl, s4, hl4⟩
            refine hz2 _ _ ⟨_, y8, rfl, s4, ?_⟩
            rw [show ((m : Int)).toNat = m by omega] at hl4
            exact hl4
        · rintro _ H4 ⟨y6, y8, rfl, s4, hl4⟩
          have s04 := s2.trans s4
          have ha4 := s04.tupT ha
          have hkv4 := s4 _ _ hkv
          have hat : atI (ws.map V.str) (0 + (i : Int)) = some (.str ws[i]) := by
            rw [Int.zero_add]
            exact atI_nat (by rw [List.getElem?_map, hgi]; rfl)
          have hlq : SqL K H4 rl ((powL p ((i : Int) + 1) m).map V.int) := SqL.of hl4
          walk_at "rd"
          intro t H5 n5 s5 ht
          have s05 := s04.trans s5
          have hkv5 := s5 _ _ hkv4
          have ha5 := s05.tupT ha
          have hln : kv.length < sizeLine := by
            rw [hh2.len, List.length_take]
            exact Nat.lt_of_le_of_lt (show min i ws.length ≤ 5 by omega) (by decide)
          have hdp : DPut H5 dd (.str ws[i]) (.ref t) (upd H5 dd (.dK (putK kv (.inr ws[i]) (.ref t)))) := DPut.k (k := (Sum.inr ws[i] : Key)) hkv5 hln
          have tk : ws.take (i + 1) = ws.take i ++ [ws[i]] := by rw [List.take_succ, List.getElem?_eq_getElem hi']; rfl
          have hnk : ws[i] ∉ ws.take i := fun z => by
            have := hws.nd
            rw [← List.take_append_drop i ws, List.drop_eq_getElem_cons hi'] at this
            exact (List.nodup_append.mp this).2.2 _ z _ (.head _) rfl
          have kp : ∀ b o, H5 b = some o → b ≠ dd → (upd H5 dd (.dK (putK kv (.inr ws[i]) (.ref t)))) b = some o := fun b o e h => by rw [upd_ne h]; exact e
          have hrow : RowV K H5 (.ref t) (powL p ((posOf ws ws[i] : Int) + 1) m) := ⟨t, rfl, by rw [hpos]; exact SqT.of ht⟩
          have hh5 : DHas (fun z v => RowV K (upd H5 dd (.dK (putK kv (.inr ws[i]) (.ref t)))) v (powL p ((posOf ws z : Int) + 1) m)) (putK kv (.inr ws[i]) (.ref t)) (ws.take i ++ [ws[i]]) := DHas.add (hh2.mono fun z v q => ((q.same s4).same s5).but hkv5 no_dict kp) hnk (hrow.but hkv5 no_dict kp)
          rw [← tk] at hh5
          walk_at "rd"
          exact ⟨same_put s05 hdd, upd_same, hh5⟩
      · rintro σ H2 ⟨y5, y6, y7, y8, kv, rfl, s2, hkv, hh2⟩
        have e : (((ws.map V.str).length : Nat) : Int).toNat = ws.length := by omega
        rw [e, List.take_length] at hh2
        exact hz _ _ ⟨y5, y6, y7, y8, kv, rfl, s2, hkv, hh2⟩
    · rintro _ H2 ⟨y5, y6, y7, y8, kv, rfl, s2, hkv, hh2⟩
      have ha2 := s2.tupT ha
      have hs2 := hs.same s2
      have hfl : ws.filter (fun _ => true) = ws := List.filter_eq_self.mpr fun _ _ => rfl
      have no := sch_no p m pa d (m := "rows") (by decide +kernel) (by decide +kernel) (by decide +kernel) (by decide +kernel)
      have no2 := sch_no p m pa d (m := "opens") (by decide +kernel) (by decide +kernel) (by decide +kernel) (by decide +kernel)
      refine ⟨.ref a, rfl, a, rfl, ⟨_, ha2⟩, fun D hD => ?_⟩
      refine lc_relD (walk_tup (xs := ws.map V.str)) (xs := ws) (by simp) (by simp; omega) (fun _ => true) (fun H z v => RowsN K D H v (thrR p m ws z)) hD (fun H H' z v acc _ hDa kp h => h.keep hDa kp) (fun H s => s.tupT ha2) ?_ ?_
      · intro i z x H3 H4 Qk Qn hzi sm ⟨acc, hacc⟩ hy hk _
        obtain ⟨rfl, hx⟩ := hy
        obtain rfl := strs_get hx hzi
        have hzm := List.mem_of_getElem? hzi
        have hs4 := hs2.same sm
        have hf4 := (s2.trans sm) _ _ hf
        refine ⟨rfl, .ref f, rfl, f, dx, _, rfl, hf4, no, ?_⟩
        refine ⟨.str z, rfl, ?_⟩
        refine tNil_i ?_
        refine ⟨f, p, m, ws, thrR p m ws, z, rfl, hs4, fun h => absurd hzm h, fun _ l H5 ys n5 s5 hl5 hx5 => ?_⟩
        exact hk rfl _ _ ⟨l, ys, rfl, hl5, hx5, ne_of_none' n5 hacc⟩ s5
      intro H3 l1 s3 hD1 pr1
      rw [hfl] at pr1
      have p1 : Paired (RowsN K D H3) l1 (ws.map (thrR p m ws)) := paired_swap (paired_map (F := fun rs v => RowsN K D H3 v rs) pr1)
      have ha3 := s3.tupT ha2
      have hkv3 := s3 _ _ hkv
      have hh3 : DHas (fun z v => RowV K H3 v (powL p ((posOf ws z : Int) + 1) m)) kv ws := hh2.mono fun z v q => q.same s3
      refine ⟨.ref a, rfl, a, rfl, ⟨_, ha3⟩, fun D2 hD2 => ?_⟩
      refine lc_relD (walk_tup (xs := ws.map V.str)) (xs := ws) (by simp) (by simp; omega) (fun _ => true) (fun H z v => RowsN K D2 H v (thrR p m ws z)) hD2 (fun H H' z v acc _ hDa kp h => h.keep hDa kp) (fun H s => s.tupT ha3) ?_ ?_
      · intro i z x H4 H5 Qk Qn hzi sm ⟨acc, hacc⟩ hy hk _
        obtain ⟨rfl, hx⟩ := hy
        obtain rfl := strs_get hx hzi
        have hzm := List.mem_of_getElem? hzi
        obtain ⟨v, hv, hrv⟩ := hh3.vals _ hzm
        have hdg : DGet H5 dd (.str z) (some v) := by
          have := DGet.k (k := (Sum.inr z : Key)) (sm _ _ hkv3)
          rwa [hv] at this
        walk_at "rd"
        refine ⟨by show 1 ≤ sizeLine; decide, fun l H6 n6 s6 hl => ?_⟩
        exact hk rfl _ _ ⟨l, [v], rfl, hl, .cons ((hrv.same sm).same s6) .nil, ne_of_none' n6 hacc⟩ s6
      intro H4 l2 s4 hD24 pr2
      rw [hfl] at pr2
      have p2 : Paired (RowsN K D2 H4) l2 (ws.map (thrR p m ws)) := paired_swap (paired_map (F := fun rs v => RowsN K D2 H4 v rs) pr2)
      have p14 : Paired (RowsN K D H4) l1 (ws.map (thrR p m ws)) := L2.Paired.mapP p1 fun v r z => by
        obtain ⟨b, xs, e, g1, g2, g3⟩ := z
        exact ⟨b, xs, e, s4 _ _ g1, g2.same s4, g3⟩
      refine neP_same (.lst (SqL.of (s4 _ _ hD1)) (rowsN_dps p14)) (.lst (SqL.of hD24) (rowsN_dps p2)) ?_ ?_
      · have := depth_lists (ws.map (thrR p m ws))
        simp only [PyData.depth]
        omega
      refine ⟨false, rfl, iteF ?_⟩
      have s04 := (s2.trans s3).trans s4
      have hkv4 := s4 _ _ hkv3
      have hh4 : DHas (fun z v => RowV K H4 v (powL p ((posOf ws z : Int) + 1) m)) kv ws := hh3.mono fun z v q => q.same s4
      have hs4 := hs2.same (s3.trans s4)
      have ha4 := s4.tupT ha3
      clear p1 p2 p14 pr1 pr2 hD1 hD24 hD hD2 hkv hkv3 hh2 hh3 ha2 ha3 hs2 s2 s3 s4
      refine Stop.cut (fun σ H' => ∃ (y10 y11 : Option V), σ = [some (.ref a), some (.int (m : Int)), some (.int p), some (.ref f), some (.ref dd), y5, y6, y7, y8, none, y10, y11] ∧ Same H4 H') (fun Qz hz => ?_) ?_
      · have h8 : ws.length ≤ 8 := by omega
        walk_at "rd"
        intro gl H5 gxs ng s5 hgl hgv
        have hal : (allG ws).length ≤ 256 := by rw [(allG_perm ws).length_eq]; exact sets_small h8
        have hgxl := paired_len hgv
        refine ⟨gl, rfl, ⟨_, SqL.of hgl⟩, ⟨for_it (walk_list (xs := gxs)) (fun i σ H' => ∃ (y10 y11 : Option V), σ = [some (.ref a), some (.int (m : Int)), some (.int p), some (.ref f), some (.ref dd), y5, y6, y7, y8, none, y10, y11] ∧ Same H5 H') ⟨none, none, rfl, Same.refl _⟩ (fun i σ H' _ ⟨_, _, _, s⟩ => s.seq (SqL.of hgl)) ?_ ?_⟩⟩
        · rintro i x _ H6 H7 hil ⟨y10, y11, rfl, s6⟩ ⟨rfl, hxi⟩
          obtain ⟨g, hgi, hg6⟩ := OS.paired_get hgv hxi
          have hgs : g.Sublist ws := mem_allG.mp (List.mem_of_getElem? hgi)
          have hgm : ∀ z ∈ g, z ∈ ws := fun z hz => hgs.subset hz
          have hgl5 := hgs.length_le
          have s47 := s5.trans s6
          have hg7 := hg6.same s6
          have hkv7 := s47 _ _ hkv4
          have hh7 : DHas (fun z v => RowV K H7 v (powL p ((posOf ws z : Int) + 1) m)) kv ws := hh4.mono fun z v q => q.same s47
          obtain ⟨ga, rfl, hga⟩ := id hg7
          refine ⟨.int p, rfl, .ref ga, rfl, ga, rfl, ⟨_, hga⟩, fun D3 hD3 => ?_⟩
          refine lc_rel (walk_tup (xs := g.map V.str)) (xs := g) (by simp) (by simp; omega) (fun _ => true) (fun H z v => RowV K H v (powL p ((posOf ws z : Int) + 1) m)) hD3 (fun H H' z v acc _ hDa kp h => h.but hDa no_lst kp) (fun H s => s.tupT hga) ?_ ?_
          · intro i z x H8 H9 Qk Qn hzi sm hy hk _
            obtain ⟨rfl, hx⟩ := hy
            obtain rfl := strs_get hx hzi
            obtain ⟨v, hv, hrv⟩ := hh7.vals _ (hgm _ (List.mem_of_getElem? hzi))
            have hdg : DGet H9 dd (.str z) (some v) := by
              have := DGet.k (k := (Sum.inr z : Key)) (sm _ _ hkv7)
              rwa [hv] at this
            walk_at "rd"
            exact hk rfl _ _ (hrv.same sm) (Same.refl _)
          intro H8 rs s8 hD8 pr8
          have hfg : g.filter (fun _ => true) = g := List.filter_eq_self.mpr fun _ _ => rfl
          rw [hfg] at pr8
          have egr : g.map (fun z => powL p ((posOf ws z : Int) + 1) m) = gRows (thrR p m ws) g := by
            rw [gRows_thr, List.map_map]
            rfl
          have p8 : Paired (RowV K H8) rs (gRows (thrR p m ws) g) := by
            rw [← egr]
            exact paired_swap (paired_map (F := fun r v => RowV K H8 v r) pr8)
          have hm100 : m ≤ 100 := by omega
          walk_at "rd"
          intro gq H9 ngq s9 hgq
          refine tNil_i ?_
          have hrok := gRows_ok (ro := thrR p m ws) hok.rr hgm
          have hrln := gRows_len (ro := thrR p m ws) hok.rr hgm
          refine ⟨p, m, D3, gq, rs, gRows (thrR p m ws) g, goalL m, rfl, hpr, SqL.of (s9 _ _ hD8), L2.Paired.mapP p8 fun _ _ z => RowV.toB (z.same s9), fun r hr => (hrok r hr).la, by omega, by omega, SqT.of hgq, (goal_ok hpr h1).la, fun H10 s10 => ?_⟩
          have eop := thr_open hpr hws hlt h1 hm hgs
          have esp : spansB p m (gRows (thrR p m ws) g) (goalL m) = decide (m ≤ g.length) := by
            rw [spans_open hpr h1 hrok]
            exact eop
          rw [esp]
          have s710 := (s8.trans s9).trans s10
          have hga10 := s710.tupT hga
          have hgl10 : (g.map V.str).length = g.length := List.length_map _
          walk_at "rd"
          have ege : decide ((((g.map V.str).length : Nat) : Int) ≥ (m : Int)) = decide (m ≤ g.length) := by
            rw [hgl10, Bool.eq_iff_iff, decide_eq_true_iff, decide_eq_true_iff]
            omega
          refine ite2 (fun e => ?_) (fun _ => ?_)
          · exfalso
            rw [dec_bl] at e
            change (!(_ == decide ((((g.map V.str).length : Nat) : Int) ≥ (m : Int)))) = true at e
            rw [ege] at e
            simp at e
          have hf10 := (s04.trans (s47.trans s710)) _ _ hf
          refine ⟨.ref f, rfl, f, dx, _, rfl, hf10, no2, ?_⟩
          refine ⟨.ref ga, rfl, ?_⟩
          refine tNil_i ?_
          refine ⟨f, .ref ga, p, m, ws, thrR p m ws, asThing g, rfl, hs4.same (s47.trans s710), hok, grp_thing ⟨ga, rfl, hga10⟩, fun z => absurd (things_no_grp hws.nd hgs) (by rw [z]; simp), fun g2 eg _ H11 s11 => ?_⟩
          obtain rfl := asThing_inj eg
          rw [eop]
          walk_at "rd"
          refine ite2 (fun e => absurd e (by simp)) (fun _ => ?_)
          exact ⟨_, _, rfl, (s6.trans s710).trans s11⟩
        · rintro σ H6 ⟨y10, y11, rfl, s6⟩
          exact hz _ _ ⟨y10, y11, rfl, s5.trans s6⟩
      · rintro _ H5 ⟨y10, y11, rfl, s5⟩
        have ha5 := s5.tupT ha4
        have ha5' : SqL K H5 a (ws.map V.str) ∨ SqT K H5 a (ws.map V.str) := .inr ha5
        have hs5 := hs4.same s5
        have hbl : ¬ badLen ws := by
          have := hws.one
          rintro (z | z) <;> omega
        refine ⟨.ref f, rfl, rfl, ?_⟩
        refine ⟨.ref a, rfl, a, _, rfl, ha5', fun l H6 n6 s6 hl => ?_⟩
        refine ⟨.int (m : Int), rfl, ?_⟩
        refine tNil_i ?_
        have hsm : ∀ z ∈ ws, z.length ≤ 1000 := fun z hz => by
          have := ok_small (hws.ok z hz)
          omega
        refine ⟨l, (m : Int), ws, rfl, .inl (SqL.of hl), by omega, hsm, ⟨fun z => absurd z hbl, fun z H' _ h => (by rw [hwu] at h; cases h), fun z H' _ h => (by rw [hwu] at h; cases h)⟩, fun _ _ z => by omega, fun _ _ _ _ fa H7 nfa s7 hfam => ?_⟩
        rw [hss] at hfam
        refine tNil_i ?_
        have hs7 := (hs5.same s6).same s7
        have h8 : ws.length ≤ 8 := by omega
        have hal : (allG ws).length ≤ 256 := by rw [(allG_perm ws).length_eq]; exact sets_small h8
        have hmo := many_ok (ws := ws) (k := (m : Int)) (by omega)
        refine ⟨f, fa, p, m, ws, ws, thrR p m ws, leastP ws (manyG ws (m : Int)), rfl, hs7, hok, hfam, ?_, fun g hg => ?_, fun H8 s8 => ?_⟩
        · have := (least_sub ws (manyG ws (m : Int))).length_le
          omega
        · have := (mem_allG.mp ((least_sub ws (manyG ws (m : Int))).subset hg)).length_le
          omega
        rw [decide_eq_true rfl, Bool.true_and, thr_fits hpr hws hlt h1 hm]
        refine ⟨true, true, rfl, rfl, ?_⟩
        exact q H8 (((((s04.trans s5).trans s6).trans s7).trans s8))
end
end P
set_option Elab.async false
set_option linter.all false
set_option maxRecDepth 100000
set_option maxHeartbeats 4000000
namespace P
open PySem PySem.Spec PyProof.Rows L2 OS
/-! short ways: "rd" opens a reading as far as equations go; "sep" finds what stands apart from the state; "sq" a list that is read; "nx" two heaps -/
local macro_rules | `(tactic| walk_at "sep") => `(tactic| first | assumption | (refine (by assumption : Nx _ _ _) _ _ ?_; walk_at "sep"))
local macro_rules | `(tactic| walk_at "sq") => `(tactic| first | assumption | exact .inl (.inl (by assumption)) | exact Sep.sq (by walk_at "sep") | exact Sep.st (by walk_at "sep") | exact .inl (.inl upd_same))
local macro_rules | `(tactic| walk_at "rd") => `(tactic| repeat (first
  | refine And.intro rfl ?_
  | apply Exists.intro
  | refine And.intro (by assumption) ?_
  | refine And.intro (DrawOk.mk (by omega) (by omega) (by omega)) ?_
  | refine And.intro at0 ?_
  | refine And.intro ⟨_, rfl⟩ ?_
  | refine And.intro (by walk_at "sq") ?_
  | refine And.intro (Or.inl (by walk_at "sq")) ?_
  | refine And.intro (Or.inr (by walk_at "sq")) ?_
  | refine And.intro (by omega) ?_))
section
variable {P : Program} {w : World} {K : PySem.W.Frag} {mg : Str → Option Value} {base : Heap}
theorem cutV_take (xs : List V) (k : Nat) : cutV xs none (some (k : Int)) = xs.take k := by
  unfold cutV
  rw [HT.sIx_none, HT.sIx_nat, List.drop_zero, Nat.sub_zero]
  by_cases h : xs.length ≤ k
  · rw [Nat.min_eq_right h, List.take_of_length_le (Nat.le_refl _), List.take_of_length_le h]
  · rw [Nat.min_eq_left (by omega)]
/-- the words of a list of names -/
structure WordsOk (ws : List Str) : Prop where
  len : ws.length = 5
  nd : ws.Nodup
  ok : ∀ z ∈ ws, okN z.cps.toList = true
theorem words1 : WordsOk ["a", "b", "c", "d", "e"] := ⟨rfl, by decide +kernel, by decide +kernel⟩
theorem words2 : WordsOk ["x", "xy", "y", "x1", "x10"] := ⟨rfl, by decide +kernel, by decide +kernel⟩
theorem words3 : WordsOk ["ann", "bob", "cy", "put", "turn"] := ⟨rfl, by decide +kernel, by decide +kernel⟩
theorem words4 : WordsOk ["annabe", "annabf", "b12345", "z", "zq1"] := ⟨rfl, by decide +kernel, by decide +kernel⟩
/-- _law_persons(state, most) -/
def spLPersons (K : PySem.W.Frag) : Sp := fun vs H Q _ => ∃ (p : Addr) (m : Nat), vs = [.ref p, .int 5] ∧ StU H p m ∧ m ≤ 800000000 ∧ ∀ a H' ps m', StU H' p m' → m' ≤ m + 1000 → Nx p H H' → SqT K H' a (ps.map V.str) → NamesOk ps → Q (.ref a) H'
theorem ok_law_persons (T : Txt K mg) : FnOk P w K mg base CX0 3 T.f_law_persons T.fd_law_persons ["_law_state", "_law_most"] (spLPersons K) := by
  refine T.F_law_persons.ok sc_law_persons (fun vs H Q E h => ?_) (fun cdv A outer s H vs Q E hr h => ?_)
  · obtain ⟨p, m, rfl, _⟩ := h
    rfl
  · obtain ⟨p, m, rfl, S, hm, q⟩ := h
    refine ⟨_, (pss_cons (ps_set (i := 2) sc_law_persons.nd rfl (Or.inl rfl) (pe_lstO (pa_cons (pe_lstO (pa_cons pe_str (pa_cons pe_str (pa_cons pe_str (pa_cons pe_str (pa_cons pe_str pa_nil)))))) (pa_cons (pe_lstO (pa_cons pe_str (pa_cons pe_str (pa_cons pe_str (pa_cons pe_str (pa_cons pe_str pa_nil)))))) (pa_cons (pe_lstO (pa_cons pe_str (pa_cons pe_str (pa_cons pe_str (pa_cons pe_str (pa_cons pe_str pa_nil)))))) pa_nil)))))
    (pss_cons (ps_expr (pe_bm PySem.F.plainAttrs_list PySem.F.slot_list_append PySem.F.type_list_append mt_append (pv 2) (pa_cons (pe_lstO (pa_cons pe_str (pa_cons pe_str (pa_cons pe_str (pa_cons pe_str (pa_cons pe_str pa_nil)))))) pa_nil)))
    (pss_cons (ps_set (i := 3) sc_law_persons.nd rfl (Or.inl rfl) (pe_call (ok_law_shuffled T) (hr.mono (by decide)) (by rfl) T.g_law_shuffled T.F_law_shuffled.kp T.b_law_shuffled .nil pass0 (pa_cons (pv 0) (pa_cons (pe_ix (r := rIxL K) ix_list (pv 2) (pe_call (ok_law_take T) (hr.mono (by decide)) (by rfl) T.g_law_take T.F_law_take.kp T.b_law_take .nil pass0 (pa_cons (pv 0) (pa_cons pe_int pa_nil))) (fun _ _ => rfl)) pa_nil))))
    (pss_one (ps_ret (pe_callTy (T := "tuple") (r := rTupL K) call_tupL (by rfl) T.n_tuple (by decide +kernel) (pa_cons (pe_callB (id := "sorted") (cr_sortS (room65 hr)) (by rfl) T.n_sorted (by decide +kernel) (pa_cons (pe_slice (r := rSlLO K) sl_listO (pv 3) po_none (po_some (pe_op op_add pe_int (pe_call (ok_law_take T) (hr.mono (by decide)) (by rfl) T.g_law_take T.F_law_take.kp T.b_law_take .nil pass0 (pa_cons (pv 0) (pa_cons (pv 1) pa_nil)))))) pa_nil)) pa_nil))))))), ?_⟩
    refine ⟨by decide, fun l1 H1 n1 s1 h1 => ?_⟩
    walk_at "rd"
    refine ⟨by decide, fun l2 H2 n2 s2 h2 => ?_⟩
    walk_at "rd"
    refine ⟨by decide, fun l3 H3 n3 s3 h3 => ?_⟩
    walk_at "rd"
    refine ⟨by show 3 ≤ sizeLine; decide, fun t H4 n4 s4 h4 => ?_⟩
    walk_at "rd"
    refine ⟨.inl ⟨rfl, _, SqL.of h4⟩, ?_⟩
    refine ⟨by decide, fun l4 H5 n5 s5 h5 => ?_⟩
    have S12 := s1.trans s2
    have S13 := S12.trans s3
    have S14 := S13.trans s4
    have S15 := S14.trans s5
    have q1 : Sep H5 p l1 _ := Sep.of_newU S S15 n1 (s5 _ _ (s4 _ _ (s3 _ _ (s2 _ _ h1))))
    have q2 : Sep H5 p l2 _ := Sep.of_newU S S15 (s1.free n2) (s5 _ _ (s4 _ _ (s3 _ _ h2)))
    have q3 : Sep H5 p l3 _ := Sep.of_newU S S15 (S12.free n3) (s5 _ _ (s4 _ _ h3))
    have q4 : Sep H5 p l4 _ := Sep.of_newU S S15 (S14.free n5) h5
    have qt : Sep H5 p t _ := Sep.of_newU S S15 (S13.free n4) (s5 _ _ h4)
    have e1 : l1 ≠ t := ne_of_none (s3 _ _ (s2 _ _ h1)) n4
    have e2 : l2 ≠ t := ne_of_none (s3 _ _ h2) n4
    have e3 : l3 ≠ t := ne_of_none h3 n4
    have e4 : l4 ≠ t := (ne_of_none h4 n5).symm
    have S5 := (S.same S15).put (u := .lst [V.ref l1, V.ref l2, V.ref l3, V.ref l4]) qt
    have x5 : Nx p H (upd H5 t (.lst [V.ref l1, V.ref l2, V.ref l3, V.ref l4])) := fun q o h => (S.nx S15 q o h).put_ne qt (ne_of_none h.at_ (S13.free n4))
    replace q1 := q1.put_ne (u := .lst [V.ref l1, V.ref l2, V.ref l3, V.ref l4]) qt e1
    replace q2 := q2.put_ne (u := .lst [V.ref l1, V.ref l2, V.ref l3, V.ref l4]) qt e2
    replace q3 := q3.put_ne (u := .lst [V.ref l1, V.ref l2, V.ref l3, V.ref l4]) qt e3
    replace q4 := q4.put_ne (u := .lst [V.ref l1, V.ref l2, V.ref l3, V.ref l4]) qt e4
    have qt' := qt.at_
    replace qt := qt.put_same (u := .lst [V.ref l1, V.ref l2, V.ref l3, V.ref l4])
    have hlt : [V.ref l1, V.ref l2, V.ref l3].length < sizeLine := by show 3 < sizeLine; decide
    clear s1 s2 s3 s4 s5 S12 S13 S14 S15 h1 h2 h3 h4 h5 n1 n2 n3 n4 n5
    walk_at "rd"
    intro r H7 r0 r1 S7 x7
    replace x7 : Nx p (upd H5 t (.lst [V.ref l1, V.ref l2, V.ref l3, V.ref l4])) H7 := x7
    replace q1 := x7 _ _ q1
    replace q2 := x7 _ _ q2
    replace q3 := x7 _ _ q3
    replace q4 := x7 _ _ q4
    replace qt := x7 _ _ qt
    replace x7 := x5.trans x7
    have key : ∃ (l : Addr) (ws : List Str), atI [V.ref l1, V.ref l2, V.ref l3, V.ref l4] r = some (.ref l) ∧ Sep H7 p l (.lst (ws.map V.str)) ∧ WordsOk ws := by
      obtain e | e | e | e : r = 0 ∨ r = 1 ∨ r = 2 ∨ r = 3 := by omega
      · exact ⟨l1, ["a", "b", "c", "d", "e"], by rw [e]; rfl, q1, words1⟩
      · exact ⟨l2, ["x", "xy", "y", "x1", "x10"], by rw [e]; rfl, q2, words2⟩
      · exact ⟨l3, ["ann", "bob", "cy", "put", "turn"], by rw [e]; rfl, q3, words3⟩
      · exact ⟨l4, ["annabe", "annabf", "b12345", "z", "zq1"], by rw [e]; rfl, q4, words4⟩
    obtain ⟨l, ws, hat, hl, hw⟩ := key
    have hts := SqL.of (K := K) qt.at_
    have hls : SqL K H7 l (ws.map V.str) := SqL.of hl.at_
    have hl400 : (ws.map V.str).length ≤ 400 := by rw [List.length_map, hw.len]; decide
    have hm1 : m + 1 ≤ 900000000 := by omega
    walk_at "rd"
    intro b H8 ys m8 n8 S8 h8 x8 qb pm
    obtain ⟨zs, pz, rfl⟩ := map_perm pm ws rfl
    walk_at "rd"
    intro r2 H9 r20 r21 S9 x9
    have hb9 := x9 _ _ qb
    have hbs : SqL K H9 b (zs.map V.str) := SqL.of hb9.at_
    walk_at "rd"
    intro c H10 n10 s10 hc
    have hk : ∃ k : Nat, 1 + r2 = (k : Int) ∧ 1 ≤ k ∧ k ≤ 5 := ⟨(1 + r2).toNat, by omega, by omega, by omega⟩
    obtain ⟨k, ek, k1, k5⟩ := hk
    rw [ek, cutV_take, ← List.map_take] at hc
    walk_at "rd"
    intro d H11 n11 s11 hd
    walk_at "rd"
    intro u H12 n12 s12 hu
    have zl : zs.length = 5 := pz.length_eq.trans hw.len
    have pm2 := List.mergeSort_perm (zs.take k) leS
    have X9 : Nx p H H9 := (x7.trans x8).trans x9
    have S912 := (s10.trans s11).trans s12
    refine q u H12 _ (m8 + 1) (S9.same S912) (by omega) (X9.trans (S9.nx S912)) (SqT.of hu) ⟨?_, ?_, ?_, ?_⟩
    · rw [pm2.length_eq, List.length_take]
      omega
    · rw [pm2.length_eq, List.length_take]
      omega
    · exact pm2.nodup_iff.mpr ((pz.nodup_iff.mpr hw.nd).sublist (List.take_sublist _ _))
    · intro z hz
      exact hw.ok z (pz.mem_iff.mp (List.mem_of_mem_take (pm2.mem_iff.mp hz)))
end
end P
set_option Elab.async false
set_option linter.all false
set_option maxRecDepth 100000
set_option maxHeartbeats 4000000
/-! != of two tuples whose items are equal, one by one -/
namespace PySem.SeqAt
open AutoSeq1 (wpAny_loadPart')
open MeetsSeq MeetsSeq2 MeetsSeq3
section
variable {prog : Program} {w : World} {A : Around} {s : Shared}
theorem ne_alikeIn (l b : Addr) (items items2 : Array Value) (n n2 : Nat) (dd dd2 : Option Addr) (sl sl2 : Array (Option Value)) (hsz : items.size = items2.size) :
    MeetsIn prog w (Builtin.«tuple.__ne__» ⟨[.ref l, .ref b], []⟩)
      (fun A R s => s.heap.get? l = some { cls := .type "tuple", dict := dd, data := .seq items n, slots := sl } ∧ s.heap.get? b = some { cls := .type "tuple", dict := dd2, data := .seq items2 n2, slots := sl2 } ∧
        (∀ p ∈ items.toList.zip items2.toList, EqIn prog w A.in1 s p.1 p.2 true) ∧ R (.ok (.ret (.bool false))) s) :=
  .of_wp fun A R s h => by
    obtain ⟨hp, g, d, tk, os⟩ := s
    obtain ⟨hl, hb, he, h⟩ := h
    have f2 := AutoSeq1.sub_tuple_tuple
    wp_walk using wpAny_loadPart' hl, wpAny_loadPart' hb, wpAny_forIn_list _ (fun rest r s' => (r.1 = none ∧ s' = ⟨hp, g, d, tk, os⟩) ∧ ∀ p ∈ rest, EqIn prog w A.in1 ⟨hp, g, d, tk, os⟩ p.1 p.2 true) _
    case turn =>
      rintro ⟨y, x⟩ rest r s' ⟨⟨hr, rfl⟩, hall⟩
      refine wpAny_bind (hall (y, x) (.head _) _ _ ?_)
      wp_walk
      exact ⟨⟨rfl, rfl⟩, fun p hp' => hall p (.tail _ hp')⟩
    case fin =>
      rintro ⟨r1, r2⟩ s' ⟨⟨hr, rfl⟩, _⟩
      simp only at hr
      subst hr
      wp_walk
      exact ⟨_, rfl, by simpa [Builtin.Tuple.tupleCompareSizes, bne, hsz] using h⟩
    case h =>
      exact ⟨⟨rfl, rfl⟩, he⟩
theorem ne_alike {E : Value → Shared → Prop} {l b : Addr} {items items2 : Array Value} {Q : Value → Shared → Prop} (hl : s.heap.IsTuple l items) (hb : s.heap.IsTuple b items2) (hsz : items.size = items2.size) (hu : A.units < cLine)
    (he : ∀ p ∈ items.toList.zip items2.toList, EqIn prog w A.in1 s p.1 p.2 true) (h : Q (.bool false) s) : wpAny (model prog w) A (richCompare .NotEq (.ref l) (.ref b)) Q E s := by
  obtain ⟨⟨c1, d1, dt1, sl1⟩, o1, e1, n1, f1⟩ := id hl
  obtain ⟨⟨c2, d2, dt2, sl2⟩, o2, e2, n2, f2⟩ := id hb
  simp only at e1 f1 e2 f2
  subst e1 f1 e2 f2
  exact wpAny_richCompare_same_room (T := "tuple") (op := .NotEq) ⟨_, o1, rfl⟩ ⟨_, o2, rfl⟩ F.slot_tuple_ne (call_meetsIn F.slot_tuple_ne ⟨_, o1, rfl⟩ F.entry_tuple_ne (F.args_tuple_ne_2 _ _) (ne_alikeIn l b items items2 n1 n2 d1 d2 sl1 sl2 hsz)
    ⟨o1, o2, he, show Value.bool false ≠ Value.notImplemented ∧ Q (.bool false) s from ⟨(fun x => nomatch x), h⟩⟩) hu
end
end PySem.SeqAt
namespace OS
open PySem PySem.Spec PyProof.Rows L2 PySem.OSS
/-- equal items: as EqI says, or two dicts of the same keys with such values -/
def EqX (K : PySem.W.Frag) (H : Hp) (x y : V) : Prop := EqI K H x y ∨ EqR K H (EqI K H) x y
def rNeT (K : PySem.W.Frag) : R2 := fun x y H Q => ∃ a b xs ys, x = .ref a ∧ y = .ref b ∧ SqT K H a xs ∧ SqT K H b ys ∧ Paired (EqX K H) xs ys ∧ Q (.bl false) H
section
variable {X : Cx} {pins : List (Addr × Obj)} {σ : L2.St} {H : Hp} {s : Shared}
theorem eqX_at (I : Inv X pins σ H s) {A : Around} (hu : A.units + 30 < cLine) {x y : V} {u v : Value} (h : EqX X.K H x y) (rx : RelV x u) (ry : RelV y v) : SeqAt.EqP X.prog X.w A s u v true := by
  rcases h with h | h
  · exact (eqI_at I (by omega) h rx ry).eqP
  · have step := eqR_run I (A := A) (by omega) (fun x y v u q r1 r2 => (eqI_at I (A := A.in1) (by show A.units + 1 + 21 < cLine; omega) q r1 r2).eqP) h rx ry
    obtain ⟨a, b, rfl, rfl⟩ : ∃ a b, x = V.ref a ∧ y = V.ref b := by
      rcases h with ⟨a, b, _, _, e1, e2, _⟩ | ⟨a, b, _, _, e1, e2, _⟩
      · exact ⟨a, b, e1, e2⟩
      · exact ⟨a, b, e1, e2⟩
    cases (show u = Value.ref a from rx)
    cases (show v = Value.ref b from ry)
    by_cases e : a = b
    · subst e
      exact (SeqAt.EqAt.same _).eqP
    · exact SeqAt.eqP_refs e step
theorem op_neT (hu : X.A.units + 65 < cLine) : OpR X (compareOp .NotEq) (rNeT X.K) := by
  intro pins s σ H x y v u Q I rx ry h
  obtain ⟨a, b, xs, ys, rfl, rfl, ha, hb, hp, q⟩ := h
  cases (show v = Value.ref a from rx)
  cases (show u = Value.ref b from ry)
  obtain ⟨us, r1, p1, _⟩ := I.tuple ha
  obtain ⟨ws, r2, p2, _⟩ := I.tuple hb
  have hsz : us.toArray.size = ws.toArray.size := by
    rw [List.size_toArray, List.size_toArray, ← r1.length, ← r2.length]
    exact Paired.length hp
  refine SeqAt.ne_alike (E := X.xe) (A := X.A) p1 p2 hsz (by omega) (fun p hp' => ?_) ⟨.bl false, H, I, rfl, q⟩
  obtain ⟨j, hj⟩ := List.getElem?_of_mem hp'
  have hj' : (us.zip ws)[j]? = some p := by simpa using hj
  obtain ⟨h1, h2⟩ := List.getElem?_zip_eq_some.mp hj'
  have l1 : j < us.length := (List.getElem?_eq_some_iff.mp h1).1
  obtain ⟨x0, hx0⟩ : ∃ x0, xs[j]? = some x0 := ⟨_, List.getElem?_eq_getElem (by rw [r1.length]; exact l1)⟩
  obtain ⟨y0, hy0, hxy⟩ := paired_get hp hx0
  obtain ⟨u0, hu0, ru0⟩ := r1.get hx0
  obtain ⟨v0, hv0, rv0⟩ := r2.get hy0
  rw [h1] at hu0
  rw [h2] at hv0
  obtain rfl := Option.some.inj hu0
  obtain rfl := Option.some.inj hv0
  exact eqX_at I (A := X.A.in1) (by show X.A.units + 1 + 30 < cLine; omega) hxy ru0 rv0
end
end OS
set_option Elab.async false
set_option linter.all false
set_option maxRecDepth 100000
set_option maxHeartbeats 4000000
namespace P
open PySem PySem.Spec PyProof.Rows L2 OS
/-! short ways: "rd" opens a reading as far as equations go; "sep" finds what stands apart from the state; "sq" a list that is read; "nx" two heaps -/
local macro_rules | `(tactic| walk_at "sep") => `(tactic| first | assumption | (refine (by assumption : Nx _ _ _) _ _ ?_; walk_at "sep"))
local macro_rules | `(tactic| walk_at "sq") => `(tactic| first | assumption | exact .inl (.inl (by assumption)) | exact Sep.sq (by walk_at "sep") | exact Sep.st (by walk_at "sep") | exact .inl (.inl upd_same))
local macro_rules | `(tactic| walk_at "rd") => `(tactic| repeat (first
  | refine And.intro rfl ?_
  | apply Exists.intro
  | refine And.intro (by assumption) ?_
  | refine And.intro (DrawOk.mk (by omega) (by omega) (by omega)) ?_
  | refine And.intro at0 ?_
  | refine And.intro ⟨_, rfl⟩ ?_
  | refine And.intro (by walk_at "sq") ?_
  | refine And.intro (Or.inl (by walk_at "sq")) ?_
  | refine And.intro (Or.inr (by walk_at "sq")) ?_
  | refine And.intro (by omega) ?_))
section
variable {P : Program} {w : World} {K : PySem.W.Frag} {mg : Str → Option Value} {base : Heap}
theorem itm_same {H : Hp} {v : V} (h : Itm K H v) : EqI K H v v := by
  cases h with
  | flat f => exact .inl ⟨rfl, f⟩
  | lst _ => exact .inr (.inl ⟨_, rfl, rfl⟩)
  | tup _ => exact .inr (.inl ⟨_, rfl, rfl⟩)
  | dct _ => exact .inr (.inl ⟨_, rfl, rfl⟩)
/-- all but the list la is kept -/
def Kept (p la : Addr) (H H' : Hp) : Prop := ∀ q o, Sep H p q o → q ≠ la → Sep H' p q o
theorem Kept.refl (p la : Addr) (H : Hp) : Kept p la H H := fun _ _ h _ => h
theorem Kept.nx {p la : Addr} {H H1 H2 : Hp} (k : Kept p la H H1) (x : Nx p H1 H2) : Kept p la H H2 := fun q o h n => x _ _ (k q o h n)
theorem Nx.kept {p la : Addr} {H H' : Hp} (x : Nx p H H') : Kept p la H H' := fun q o h _ => x q o h
theorem Kept.put {p la : Addr} {H H1 : Hp} {o u : HO} (k : Kept p la H H1) (s : Sep H1 p la o) : Kept p la H (upd H1 la u) := fun q o h n => (k q o h n).put_ne s n
/-- a prime, or any other value, which stays while la changes -/
inductive BasV (p la : Addr) (H : Hp) : V → Option Int → Prop
  | ok (q : Int) : isPr (.int q) = true → BasV p la H (.int q) (some q)
  | flat {v : V} : flatV v = true → isPr v = false → BasV p la H v none
  | lst {a : Addr} {zs : List V} : Sep H p a (.lst zs) → a ≠ la → BasV p la H (.ref a) none
  | dct {a : Addr} {kvs : List (Key × V)} : Sep H p a (.dK kvs) → a ≠ la → BasV p la H (.ref a) none
theorem BasV.kept {p la : Addr} {H H' : Hp} {v : V} {op : Option Int} (k : Kept p la H H') (h : BasV p la H v op) : BasV p la H' v op := by
  cases h with
  | ok q e => exact .ok q e
  | flat f e => exact .flat f e
  | lst s n => exact .lst (k _ _ s n) n
  | dct s n => exact .dct (k _ _ s n) n
theorem BasV.pr {p la : Addr} {H : Hp} {v : V} {op : Option Int} (h : BasV p la H v op) : PrV K H v op := by
  cases h with
  | ok q e => exact .ok q e
  | flat f e => exact .no (.flat f) e
  | lst s n => exact .no (.lst s.sq) rfl
  | dct s n => exact .no (.dct s.at_) rfl
def kindO : OT → Str | .cnt _ => "count" | .nm _ => "name" | .tw _ => "twice" | .pr _ => "prime" | .told => "told"
def valO : OT → V | .cnt k => .int k | .nm z => .str z | .tw z => .str z | .pr v => v | .told => .int 0
theorem OutT.sq {H : Hp} {u : Addr} {o : OT} (h : OutT K H u o) : SqT K H u [.str (kindO o), valO o] := by
  cases o <;> exact h
theorem kind_ne {o : OT} (h : o ≠ .told) : ¬ kindO o = "told" := by
  cases o with
  | told => exact absurd rfl h
  | cnt _ => exact (by decide +kernel : ¬ (("count" : Str) = "told"))
  | nm _ => exact (by decide +kernel : ¬ (("name" : Str) = "told"))
  | tw _ => exact (by decide +kernel : ¬ (("twice" : Str) = "told"))
  | pr _ => exact (by decide +kernel : ¬ (("prime" : Str) = "told"))
theorem due_val {ps : List Str} {k : Int} {v : V} {op : Option Int} {H : Hp} (h : Itm K H v) : Itm K H (valO (dueT ps k v op)) := by
  unfold dueT
  split
  · exact .flat rfl
  · split
    · split
      · exact .flat rfl
      · exact .flat rfl
    · split
      · exact .flat rfl
      · split
        · exact h
        · split
          · exact h
          · exact .flat rfl
theorem dp_strsL {H : Hp} {a : Addr} {zs : List Str} (h : SqL K H a (zs.map V.str)) : Dp K H (.ref a) (.list (zs.map .str)) := .lst h (dp_all (fun z => .str z) zs)
def spLaw (K : PySem.W.Frag) : Sp := fun vs H Q _ => ∃ (a : Addr) (ns : List Int), vs = [.ref a] ∧ SqL K H a (ns.map V.int) ∧ ns.length ≤ 63 ∧ ∀ H', Q (.bl true) H'
theorem ok_law (T : Txt K mg) : FnOk P w K mg base CX0 10 T.f_law T.fd_law ["_law_script"] (spLaw K) := by
  refine T.F_law.ok sc_law (fun vs H Q E h => ?_) (fun cdv A outer s H vs Q E hr h => ?_)
  · obtain ⟨a, ns, rfl, _⟩ := h
    rfl
  · obtain ⟨a, ns, rfl, ha, hl, q⟩ := h
    refine ⟨_, (pss_cons (ps_set (i := 1) sc_law.nd rfl (Or.inl rfl) (pe_call (ok_law_start T) (hr.mono (by decide)) (by rfl) T.g_law_start T.F_law_start.kp T.b_law_start .nil pass0 (pa_cons (pv 0) pa_nil)))
    (pss_stop (ps_for PassesOwn.never rfl (pi_hold (pi_range1 rfl T.n_range (pa_cons pe_int pa_nil))) (pg_name (i := 2) sc_law.nd rfl (Or.inl rfl))
      (pss_cons (ps_set (i := 3) sc_law.nd rfl (Or.inl rfl) (pe_call (ok_law_shuffled T) (hr.mono (by decide)) (by rfl) T.g_law_shuffled T.F_law_shuffled.kp T.b_law_shuffled .nil pass0 (pa_cons (pv 1) (pa_cons (pe_callTy (T := "list") (r := rListS K) call_listS (by rfl) T.n_list (by decide +kernel) (pa_cons (pe_call (ok_law_persons T) (hr.mono (by decide)) (by rfl) T.g_law_persons T.F_law_persons.kp T.b_law_persons .nil pass0 (pa_cons (pv 1) (pa_cons pe_int pa_nil))) pa_nil)) pa_nil))))
    (pss_cons (ps_set (i := 4) sc_law.nd rfl (Or.inl rfl) (pe_op op_add pe_int (pe_call (ok_law_take T) (hr.mono (by decide)) (by rfl) T.g_law_take T.F_law_take.kp T.b_law_take .nil pass0 (pa_cons (pv 1) (pa_cons (pe_callB (id := "len") (r := rLenS K) call_lenS (by rfl) T.n_len PySem.boot_len (pa_cons (pv 3) pa_nil)) pa_nil)))))
    (pss_cons (ps_set (i := 5) sc_law.nd rfl (Or.inl rfl) (pe_ix (r := rIxL K) ix_list (pe_lstO (pa_cons pe_int (pa_cons pe_int (pa_cons pe_int (pa_cons pe_int (pa_cons pe_int (pa_cons pe_int (pa_cons pe_int (pa_cons pe_int (pa_cons pe_int (pa_cons pe_bl (pa_cons pe_non (pa_cons pe_str (pa_cons (pe_lstO (pa_cons pe_int pa_nil)) (pa_cons pe_dnewK pa_nil))))))))))))))) (pe_call (ok_law_take T) (hr.mono (by decide)) (by rfl) T.g_law_take T.F_law_take.kp T.b_law_take .nil pass0 (pa_cons (pv 1) (pa_cons pe_int pa_nil))) (fun _ _ => rfl)))
    (pss_cons (ps_set (i := 6) sc_law.nd rfl (Or.inl rfl) (pe_call (ok_law_take T) (hr.mono (by decide)) (by rfl) T.g_law_take T.F_law_take.kp T.b_law_take .nil pass0 (pa_cons (pv 1) (pa_cons pe_int pa_nil))))
    (pss_stop (ps_if (pt_cmpR op_eq (pv 6) pe_int (nomark _))
      (pss_cons (ps_set (i := 7) sc_law.nd rfl (Or.inl rfl) (pe_lstO (pa_cons pe_str (pa_cons pe_str (pa_cons pe_str (pa_cons pe_str (pa_cons (pe_ix (r := rIxL K) ix_list (pv 3) pe_int (fun _ _ => rfl)) (pa_cons (pe_ix (r := rIxL K) ix_list (pv 3) (pe_un un_neg pe_int) (fun _ _ => rfl)) (pa_cons pe_str (pa_cons pe_str (pa_cons pe_str (pa_cons pe_str pa_nil))))))))))))
    (pss_one (ps_for PassesOwn.never rfl (pi_hold (pi_range1 rfl T.n_range (pa_cons (pe_op op_add pe_int (pe_call (ok_law_take T) (hr.mono (by decide)) (by rfl) T.g_law_take T.F_law_take.kp T.b_law_take .nil pass0 (pa_cons (pv 1) (pa_cons pe_int pa_nil)))) pa_nil))) (pg_name (i := 8) sc_law.nd rfl (Or.inl rfl))
      (pss_one (ps_asg (pe_ix (r := rIxL K) ix_list (pv 7) (pe_call (ok_law_take T) (hr.mono (by decide)) (by rfl) T.g_law_take T.F_law_take.kp T.b_law_take .nil pass0 (pa_cons (pv 1) (pa_cons pe_int pa_nil))) (fun _ _ => rfl)) (pg_sub (pv 3) (pe_call (ok_law_take T) (hr.mono (by decide)) (by rfl) T.g_law_take T.F_law_take.kp T.b_law_take .nil pass0 (pa_cons (pv 1) (pa_cons (pe_callB (id := "len") (r := rLenS K) call_lenS (by rfl) T.n_len PySem.boot_len (pa_cons (pv 3) pa_nil)) pa_nil))) set_list)))))) pss_nil)
    (pss_stop (ps_if (pt_cmpR op_eq (pv 6) pe_int (nomark _))
      (pss_one (ps_set (i := 3) sc_law.nd rfl (Or.inl rfl) (pe_ix (r := rIxL K) ix_list (pe_lstO (pa_cons (pe_op op_catO (pv 3) (pe_lstO (pa_cons pe_str (pa_cons pe_str (pa_cons pe_str (pa_cons pe_str (pa_cons pe_str pa_nil))))))) (pa_cons (pe_lstO pa_nil) pa_nil))) (pe_call (ok_law_take T) (hr.mono (by decide)) (by rfl) T.g_law_take T.F_law_take.kp T.b_law_take .nil pass0 (pa_cons (pv 1) (pa_cons pe_int pa_nil))) (fun _ _ => rfl)))) pss_nil)
    (pss_stop (ps_if (pt_cmpR op_eq (pv 6) pe_int (nomark _))
      (pss_one (ps_set (i := 4) sc_law.nd rfl (Or.inl rfl) (pe_ix (r := rIxL K) ix_list (pe_lstO (pa_cons pe_int (pa_cons (pe_un un_neg pe_int) (pa_cons (pe_op op_add (pe_callB (id := "len") (r := rLenS K) call_lenS (by rfl) T.n_len PySem.boot_len (pa_cons (pv 3) pa_nil)) pe_int) pa_nil)))) (pe_call (ok_law_take T) (hr.mono (by decide)) (by rfl) T.g_law_take T.F_law_take.kp T.b_law_take .nil pass0 (pa_cons (pv 1) (pa_cons pe_int pa_nil))) (fun _ _ => rfl)))) pss_nil)
    (pss_cons (ps_set (i := 9) sc_law.nd rfl (Or.inl rfl) (pe_callTy (T := "list") (r := rListS K) call_listS (by rfl) T.n_list (by decide +kernel) (pa_cons (pv 3) pa_nil)))
    (pss_cons (ps_set (i := 10) sc_law.nd rfl (Or.inl rfl) (pe_call (ok_law_due T) (hr.mono (by decide)) (by rfl) T.g_law_due T.F_law_due.kp T.b_law_due .nil pass0 (pa_cons (pv 3) (pa_cons (pv 4) (pa_cons (pv 5) pa_nil)))))
    (pss_cons (ps_set (i := 11) sc_law.nd rfl (Or.inl rfl) (pe_ix (r := rIxL K) ix_list (pe_lstO (pa_cons (pv 9) (pa_cons (pe_callTy (T := "tuple") (r := rTupL K) call_tupL (by rfl) T.n_tuple (by decide +kernel) (pa_cons (pv 3) pa_nil)) pa_nil))) (pe_call (ok_law_take T) (hr.mono (by decide)) (by rfl) T.g_law_take T.F_law_take.kp T.b_law_take .nil pass0 (pa_cons (pv 1) (pa_cons pe_int pa_nil))) (fun _ _ => rfl)))
    (pss_cons (ps_asg (pe_call (ok_law_told T) (hr.mono (by decide)) (by rfl) T.g_law_told T.F_law_told.kp T.b_law_told .nil pass0 (pa_cons (pe_op op_mod (pv 2) pe_int) (pa_cons (pv 11) (pa_cons (pv 4) (pa_cons (pv 5) pa_nil))))) (pg_tup rfl (pgs_cons (pg_name (i := 12) sc_law.nd rfl (Or.inl rfl)) (pgs_cons (pg_name (i := 13) sc_law.nd rfl (Or.inl rfl)) pgs_nil))))
    (pss_cons (ps_if (pt_cmpR (r := rNeP K) (op_neP (room65 hr)) (pv 9) (pv 3) (nomark _))
      (pss_one (ps_ret pe_bl)) pss_nil)
    (pss_cons (ps_if (PW.pt (pw_and (pt_cmpR op_ne (pe_ix (r := rIxT K) ix_tup (pv 10) pe_int (fun _ _ => rfl)) pe_str (nomark _)) (pw_and1 (pt_cmpR (r := rNeT K) (op_neT (room65 hr)) (pe_tupO (pa_cons (pv 12) (pa_cons (pv 13) pa_nil))) (pv 10) (nomark _)))))
      (pss_one (ps_ret pe_bl)) pss_nil)
    (pss_one (ps_if (pt_cmpR op_eq (pe_ix (r := rIxT K) ix_tup (pv 10) pe_int (fun _ _ => rfl)) pe_str (nomark _))
      (pss_one (ps_if (PW.pt (pw_or (pt_cmpR op_ne (pv 12) pe_str (nomark _)) (pw_or1 (pt_not (pt_val (pe_call (ok_law_right T) (hr.mono (by decide)) (by rfl) T.g_law_right T.F_law_right.kp T.b_law_right .nil pass0 (pa_cons (pe_callTy (T := "tuple") (r := rTupL K) call_tupL (by rfl) T.n_tuple (by decide +kernel) (pa_cons (pe_callB (id := "sorted") (cr_sortS (room65 hr)) (by rfl) T.n_sorted (by decide +kernel) (pa_cons (pv 3) pa_nil)) pa_nil)) (pa_cons (pv 4) (pa_cons (pv 5) (pa_cons (pv 13) pa_nil))))))))))
      (pss_one (ps_ret pe_bl)) pss_nil)) pss_nil))))))))))))))))
    (pss_one (ps_ret pe_bl)))), ?_⟩
    walk_at "rd"
    intro p H1 s1 n1 S1
    refine Stop.cut (fun σ H' => True) (fun Qz hz => ?_) ?_
    rotate_left
    · rintro σ H2 _
      exact q H2
    walk_at "rd"
    refine ⟨for_it walk_range (fun i σ H' => ∃ (y2 y3 y4 y5 y6 y7 y8 y9 y10 y11 y12 y13 : Option V) (m : Nat), σ = [some (.ref a), some (.ref p), y2, y3, y4, y5, y6, y7, y8, y9, y10, y11, y12, y13] ∧ StU H' p m ∧ m ≤ 3000 * i)
      ⟨none, none, none, none, none, none, none, none, none, none, none, none, 0, rfl, S1, by omega⟩ (fun _ _ _ _ _ => trivial) ?_ ?_⟩
    rotate_left
    · rintro σ H2 _
      exact hz _ _ trivial
    rintro i x _ H2 H2' hi ⟨y2, y3, y4, y5, y6, y7, y8, y9, y10, y11, y12, y13, m, rfl, S2, hm⟩ ⟨rfl, rfl⟩
    have hi5 : i < 5 := hi
    have hm8 : m ≤ 800000000 := by omega
    walk_at "rd"
    intro na H3 ps m3 S3 h3 x3 hna hps
    have hna' : SqL K H3 na (ps.map V.str) ∨ SqT K H3 na (ps.map V.str) := .inr hna
    walk_at "rd"
    intro l1 H4 n4 s4 hl1
    have S4 := S3.same s4
    have hl1q : SqL K H4 l1 (ps.map V.str) := SqL.of hl1
    have hp5 := hps.five
    have hp1 := hps.one
    have hpl : (ps.map V.str).length ≤ 400 := by rw [List.length_map]; omega
    have hm3 : m3 ≤ 900000000 := by omega
    walk_at "rd"
    intro la H5 ys m5 nla S5 h5 x5 sla pm
    obtain ⟨zs, pz, rfl⟩ := map_perm pm ps rfl
    have hzn := hps.perm pz
    have hz1 := hzn.one
    have hz5 := hzn.five
    have hzl : ∀ z ∈ zs, z.length ≤ 100 := fun z hz => by
      have := ok_small (hzn.ok z hz)
      omega
    have hlen : ((zs.map V.str).length : Int) = zs.length := by rw [List.length_map]
    have hlaq := sla.sq (K := K)
    have hm5 : m5 ≤ 900000000 := by omega
    clear hna hna' S4 hl1q hl1 s4 n4 S3 x3 x5
    walk_at "rd"
    intro r0 H6 a0 b0 S6 x6
    walk_at "rd"
    refine ⟨by show 1 ≤ sizeLine; decide, fun lb H7 n7 s7 hlb => ?_⟩
    walk_at "rd"
    refine fun dd hd => ?_
    have s8 : Same H7 (upd H7 dd (.dK [])) := same_new hd
    have hde : (upd H7 dd (.dK [])) dd = some (.dK []) := upd_same
    generalize upd H7 dd (.dK []) = H8 at s8 hde ⊢
    walk_at "rd"
    refine ⟨by show 14 ≤ sizeLine; decide, fun bl H9 n9 s9 hbl => ?_⟩
    have s69 := (s7.trans s8).trans s9
    have S9 := S6.same s69
    have sla6 := x6 _ _ sla
    have sla9 := S6.nx s69 _ _ sla6
    have slb9 : Sep H9 p lb (.lst [V.int 7]) := Sep.of_newU S6 s69 n7 ((s8.trans s9) _ _ hlb)
    have sdd9 : Sep H9 p dd (.dK []) := S9.sep (s9 _ _ hde) (fun _ z => by cases z)
    have sbl9 := Sep.of_newU S6 s69 ((s7.trans s8).free n9) hbl
    have elb : lb ≠ la := ne_of_none' n7 sla6.at_
    have edd : dd ≠ la := ne_of sdd9.at_ sla9.at_ fun z => by cases z
    have Z : ∀ v ∈ [V.int 7, .int 11, .int 7, .int 11, .int 2, .int 3, .int 5, .int 4, .int 13, .bl true, .non, .str "7", .ref lb, .ref dd], ∃ op, BasV p la H9 v op := fun v hv => by
      simp only [List.mem_cons, List.not_mem_nil, or_false] at hv
      rcases hv with rfl | rfl | rfl | rfl | rfl | rfl | rfl | rfl | rfl | rfl | rfl | rfl | rfl | rfl
      · exact ⟨_, .ok _ (by decide)⟩
      · exact ⟨_, .ok _ (by decide)⟩
      · exact ⟨_, .ok _ (by decide)⟩
      · exact ⟨_, .ok _ (by decide)⟩
      · exact ⟨_, .ok _ (by decide)⟩
      · exact ⟨_, .ok _ (by decide)⟩
      · exact ⟨_, .ok _ (by decide)⟩
      · exact ⟨_, .flat rfl (by decide)⟩
      · exact ⟨_, .flat rfl (by decide)⟩
      · exact ⟨_, .flat rfl rfl⟩
      · exact ⟨_, .flat rfl rfl⟩
      · exact ⟨_, .flat rfl rfl⟩
      · exact ⟨_, .lst slb9 elb⟩
      · exact ⟨_, .dct sdd9 edd⟩
    have hm6 : m5 + 1 ≤ 900000000 := by omega
    walk_at "rd"
    intro r1 H10 a1 b1 S10 x10
    obtain ⟨v, hv, hvm⟩ := at_pick (l := [V.int 7, .int 11, .int 7, .int 11, .int 2, .int 3, .int 5, .int 4, .int 13, .bl true, .non, .str "7", .ref lb, .ref dd]) a1 b1
    have hqb := (x10 _ _ sbl9).sq (K := K)
    obtain ⟨op, hB9⟩ := Z v hvm
    have hB10 := hB9.kept (Nx.kept x10)
    have sla10 := x10 _ _ sla9
    have hm10 : m5 + 1 + 1 ≤ 900000000 := by omega
    clear Z hB9 sla9 slb9 sdd9 sbl9 S9 s69 s7 s8 s9 hbl hde hlb n7 n9 hd sla6 sla S6 x6 hlaq S5 a1 b1 hvm elb edd
    walk_at "rd"
    intro pl H11 a2 b2 S11 x11
    have hB11 := hB10.kept (Nx.kept x11)
    have sla11 := x11 _ _ sla10
    clear hB10 sla10 S10 x10 hqb hv
    obtain ⟨k0, hk0⟩ : ∃ k0 : Int, 1 + r0 = k0 := ⟨_, rfl⟩
    refine Stop.cut (fun σ H' => ∃ (y7 y8 : Option V) (zs' : List Str) (m' : Nat), σ = [some (.ref a), some (.ref p), some (.int (0 + (i : Int))), some (.ref la), some (.int k0), some v, some (.int pl), y7, y8, y9, y10, y11, y12, y13] ∧ StU H' p m' ∧ m' ≤ m5 + 20 ∧ BasV p la H' v op ∧ Sep H' p la (.lst (zs'.map V.str)) ∧ zs'.length = zs.length ∧ ∀ z ∈ zs', z.length ≤ 100) (fun Qz2 hz2 => ?_) ?_
    · have hk0' : 1 + r0 = k0 := hk0
      walk_at "rd"
      refine ite2 (fun e => ?_) (fun e => ?_)
      rotate_left
      · exact hz2 _ _ ⟨y7, y8, zs, _, by rw [← hk0]; rfl, S11, by omega, hB11, sla11, rfl, hzl⟩
      obtain ⟨z0, zt, ez⟩ : ∃ z0 zt, zs = z0 :: zt := List.exists_cons_of_ne_nil fun z => by rw [z] at hz1; exact absurd hz1 (by decide)
      obtain ⟨zi, zL, ez2⟩ : ∃ zi zL, zs = zi ++ [zL] := ⟨zs.dropLast, zs.getLast (fun z => by rw [z] at hz1; exact absurd hz1 (by decide)), (List.dropLast_concat_getLast _).symm⟩
      have hat0 : atI (zs.map V.str) 0 = some (.str z0) := by rw [ez]; exact at0
      have hatL : atI (zs.map V.str) (-1) = some (.str zL) := by rw [ez2, List.map_append]; exact atI_last _ _
      have hz0 : z0.length ≤ 100 := hzl _ (by rw [ez]; exact .head _)
      have hzL : zL.length ≤ 100 := hzl _ (by rw [ez2]; exact List.mem_append.mpr (.inr (.head _)))
      have hq11 := sla11.sq (K := K)
      walk_at "rd"
      refine ⟨by show 10 ≤ sizeLine; decide, fun od H12 n12 s12 hod => ?_⟩
      have S12 := S11.same s12
      obtain ⟨os, hos, hosl, hosz⟩ : ∃ os : List Str, [V.str "", .str "X", .str "1a", .str "abcdefg", .str z0, .str zL, .str "aB", .str "a-", .str "a b", .str "a\n"] = os.map V.str ∧ os.length = 10 ∧ ∀ z ∈ os, z.length ≤ 100 := by
        refine ⟨["", "X", "1a", "abcdefg", z0, zL, "aB", "a-", "a b", "a\n"], rfl, rfl, fun z hz => ?_⟩
        simp only [List.mem_cons, List.not_mem_nil, or_false] at hz
        rcases hz with rfl | rfl | rfl | rfl | rfl | rfl | rfl | rfl | rfl | rfl
        · decide +kernel
        · decide +kernel
        · decide +kernel
        · decide +kernel
        · exact hz0
        · exact hzL
        · decide +kernel
        · decide +kernel
        · decide +kernel
        · decide +kernel
      have hod' : H12 od = some (.lst (os.map V.str)) := by rw [← hos]; exact hod
      have sod12 := Sep.of_newU S11 s12 n12 hod'
      have eod : od ≠ la := ne_of_none' n12 sla11.at_
      have hB12 := hB11.kept (Nx.kept (S11.nx s12))
      have sla12 := S11.nx s12 _ _ sla11
      have hm12 : m5 + 1 + 1 + 1 ≤ 900000000 := by omega
      clear hod hod' hos hat0 hatL hz0 hzL ez ez2 hq11 sla11 hB11
      walk_at "rd"
      intro r2 H13 a3 b3 S13 x13
      have hB13 := hB12.kept (Nx.kept x13)
      have sla13 := x13 _ _ sla12
      have sod13 := x13 _ _ sod12
      clear hB12 sla12 sod12 S12 s12 n12
      walk_at "rd"
      refine ⟨for_it walk_range (fun j σ H' => ∃ (y8 : Option V) (zs' : List Str) (m' : Nat), σ = [some (.ref a), some (.ref p), some (.int (0 + (i : Int))), some (.ref la), some (.int k0), some v, some (.int pl), some (.ref od), y8, y9, y10, y11, y12, y13] ∧ StU H' p m' ∧ m' ≤ m5 + 4 + 2 * j ∧ BasV p la H' v op ∧ Sep H' p la (.lst (zs'.map V.str)) ∧ Sep H' p od (.lst (os.map V.str)) ∧ zs'.length = zs.length ∧ ∀ z ∈ zs', z.length ≤ 100)
        ⟨y8, zs, _, by rw [← hk0]; rfl, S13, by omega, hB13, sla13, sod13, rfl, hzl⟩ (fun _ _ _ _ _ => trivial) ?_ ?_⟩
      rotate_left
      · rintro σ H14 ⟨y8, zs', m', rfl, S14, hm14, hB14, sla14, _, hl14, hz14⟩
        exact hz2 _ _ ⟨_, _, zs', m', rfl, S14, by omega, hB14, sla14, hl14, hz14⟩
      rintro j x _ H14 H14' hj ⟨y8, zs', m', rfl, S14, hm14, hB14, sla14, sod14, hl14, hz14⟩ ⟨rfl, rfl⟩
      have hj2 : j < 2 := by omega
      have hm14b : m' ≤ 900000000 := by omega
      walk_at "rd"
      intro r3 H15 a4 b4 S15 x15
      obtain ⟨vz, hvz, hvzm⟩ := at_pick (l := os.map V.str) a4 (by rw [List.length_map, hosl]; exact b4)
      obtain ⟨z3, hz3, rfl⟩ := List.mem_map.mp hvzm
      have hqo := (x15 _ _ sod14).sq (K := K)
      have hB15 := hB14.kept (Nx.kept x15)
      have sla15 := x15 _ _ sla14
      have sod15 := x15 _ _ sod14
      have hql := sla15.sq (K := K)
      have hll : ((zs'.map V.str).length : Int) = zs.length := by rw [List.length_map, hl14]
      have hm15b : m' + 1 ≤ 900000000 := by omega
      clear hB14 sla14 sod14 S14
      walk_at "rd"
      intro r4 H16 a5 b5 S16 x16
      have hB16 := hB15.kept (Nx.kept x16)
      have sla16 := x16 _ _ sla15
      have sod16 := x16 _ _ sod15
      refine ⟨la, _, r4, r4.toNat, rfl, rfl, sla16.at_, ?_, ?_⟩
      · unfold ixN
        rw [if_pos a5, if_pos (by omega)]
      have eset : (zs'.map V.str).set r4.toNat (.str z3) = (zs'.set r4.toNat z3).map V.str := by rw [List.map_set]
      rw [eset]
      refine ⟨_, zs'.set r4.toNat z3, _, rfl, S16.put sla16, by omega, hB16.kept (Kept.put (Kept.refl _ _ _) sla16), sla16.put_same, sod16.put_ne sla16 eod, by rw [List.length_set]; exact hl14, fun z hz => ?_⟩
      rcases List.mem_or_eq_of_mem_set hz with h | rfl
      · exact hz14 z h
      · exact hosz z hz3
    rintro _ H12 ⟨y7, y8, zs1, m12, rfl, S12, hm12, hB12, sla12, hl1, hzl1⟩
    clear hB11 sla11 S11 x11 hzl pz hzn pm
    refine Stop.cut (fun σ H' => ∃ (lb : Addr) (zs2 : List Str) (m' : Nat), σ = [some (.ref a), some (.ref p), some (.int (0 + (i : Int))), some (.ref lb), some (.int k0), some v, some (.int pl), y7, y8, y9, y10, y11, y12, y13] ∧ StU H' p m' ∧ m' ≤ m12 + 1 ∧ BasV p la H' v op ∧ Sep H' p lb (.lst (zs2.map V.str)) ∧ zs2.length ≤ 10 ∧ ∀ z ∈ zs2, z.length ≤ 100) (fun Qz2 hz2 => ?_) ?_
    · walk_at "rd"
      refine ite2 (fun e => ?_) (fun e => hz2 _ _ ⟨la, zs1, _, rfl, S12, by omega, hB12, sla12, by omega, hzl1⟩)
      walk_at "rd"
      refine ⟨by show 5 ≤ sizeLine; decide, fun l5 H13 n13 s13 hl5 => ?_⟩
      have sla13 := S12.nx s13 _ _ sla12
      refine ⟨la, l5, _, _, rfl, rfl, sla13.at_, hl5, Nat.le_trans (show (zs1.map V.str).length + 5 ≤ 100 by rw [List.length_map]; omega) (by decide), fun lA H14 n14 s14 hlA => ?_⟩
      refine ⟨by decide, fun lB H15 n15 s15 hlB => ?_⟩
      refine ⟨by show 2 ≤ sizeLine; decide, fun lc H16 n16 s16 hlc => ?_⟩
      have s1216 := ((s13.trans s14).trans s15).trans s16
      have S16 := S12.same s1216
      have eA : zs1.map V.str ++ [V.str "n1", .str "n2", .str "n3", .str "n4", .str "n5"] = (zs1 ++ (["n1", "n2", "n3", "n4", "n5"] : List Str)).map V.str := by rw [List.map_append]; rfl
      have hlA' : H14 lA = some (.lst ((zs1 ++ (["n1", "n2", "n3", "n4", "n5"] : List Str)).map V.str)) := by rw [← eA]; exact hlA
      have sA := Sep.of_newU S12 s1216 (s13.free n14) ((s15.trans s16) _ _ hlA')
      have sB : Sep H16 p lB (.lst (([] : List Str).map V.str)) := Sep.of_newU S12 s1216 ((s13.trans s14).free n15) (s16 _ _ hlB)
      have sc := Sep.of_newU S12 s1216 (((s13.trans s14).trans s15).free n16) hlc
      have hB16 := hB12.kept (Nx.kept (S12.nx s1216))
      have hm12b : m12 ≤ 900000000 := by omega
      clear hB12 sla12 sla13 hlA hlA' eA hl5 S12
      walk_at "rd"
      intro r5 H17 a6 b6 S17 x17
      obtain ⟨vl, hvl, hvlm⟩ := at_pick (l := [V.ref lA, .ref lB]) a6 (by show r5 < 2; exact b6)
      have hqc := (x17 _ _ sc).sq (K := K)
      have hB17 := hB16.kept (Nx.kept x17)
      walk_at "rd"
      simp only [List.mem_cons, List.not_mem_nil, or_false] at hvlm
      rcases hvlm with rfl | rfl
      · refine hz2 _ _ ⟨lA, _, _, rfl, S17, by omega, hB17, x17 _ _ sA, by rw [List.length_append]; show zs1.length + 5 ≤ 10; omega, fun z hz => ?_⟩
        rcases List.mem_append.mp hz with h | h
        · exact hzl1 z h
        · simp only [List.mem_cons, List.not_mem_nil, or_false] at h
          rcases h with rfl | rfl | rfl | rfl | rfl <;> decide +kernel
      · exact hz2 _ _ ⟨lB, [], _, rfl, S17, by omega, hB17, x17 _ _ sB, by decide, fun z hz => nomatch hz⟩
    rintro _ H13 ⟨lb, zs2, m13, rfl, S13, hm13, hB13, slb13, hl2, hzl2⟩
    refine Stop.cut (fun σ H' => ∃ (k1 : Int) (m' : Nat), σ = [some (.ref a), some (.ref p), some (.int (0 + (i : Int))), some (.ref lb), some (.int k1), some v, some (.int pl), y7, y8, y9, y10, y11, y12, y13] ∧ StU H' p m' ∧ m' ≤ m13 + 1 ∧ BasV p la H' v op ∧ Sep H' p lb (.lst (zs2.map V.str))) (fun Qz2 hz2 => ?_) ?_
    · walk_at "rd"
      refine ite2 (fun e => ?_) (fun e => hz2 _ _ ⟨k0, _, rfl, S13, by omega, hB13, slb13⟩)
      have hq13 := slb13.sq (K := K)
      walk_at "rd"
      refine ⟨by show 3 ≤ sizeLine; decide, fun ll H14 n14 s14 hll => ?_⟩
      have S14 := S13.same s14
      have sll := Sep.of_newU S13 s14 n14 hll
      have hB14 := hB13.kept (Nx.kept (S13.nx s14))
      have slb14 := S13.nx s14 _ _ slb13
      have hm13b : m13 ≤ 900000000 := by omega
      clear hB13 slb13 hq13 S13
      walk_at "rd"
      intro r5 H15 a6 b6 S15 x15
      obtain ⟨vl, hvl, hvlm⟩ := at_pick (l := [V.int 0, .int (-1), .int (((zs2.map V.str).length : Int) + 1)]) a6 (by show r5 < 3; exact b6)
      have hql := (x15 _ _ sll).sq (K := K)
      have hB15 := hB14.kept (Nx.kept x15)
      have slb15 := x15 _ _ slb14
      walk_at "rd"
      obtain ⟨kv, rfl⟩ : ∃ kv : Int, vl = .int kv := by
        simp only [List.mem_cons, List.not_mem_nil, or_false] at hvlm
        rcases hvlm with rfl | rfl | rfl <;> exact ⟨_, rfl⟩
      exact hz2 _ _ ⟨kv, _, rfl, S15, by omega, hB15, slb15⟩
    rintro _ H14 ⟨k1, m14, rfl, S14, hm14, hB14, slb14⟩
    have hqb14 : SqL K H14 lb (zs2.map V.str) ∨ SqT K H14 lb (zs2.map V.str) := .inl (slb14.sq (K := K))
    have hl900 : zs2.length ≤ 900 := by omega
    have hsm : ∀ z ∈ zs2, z.length ≤ 1000 := fun z hz => by
      have := hzl2 z hz
      omega
    have hlm : (zs2.map V.str).length = zs2.length := List.length_map _
    have hdep : (PyData.list (zs2.map PyData.str)).depth ≤ 60 := by
      simp only [PyData.depth, depth_strs]
      decide
    walk_at "rd"
    intro pq H15 n15 s15 hpq
    have S15 := S14.same s15
    have spq15 := Sep.of_newU S14 s15 n15 hpq
    have slb15 := S14.nx s15 _ _ slb14
    have hB15 := hB14.kept (Nx.kept (S14.nx s15))
    clear hqb14 hB14 slb14 S14 hpq
    refine ⟨.ref lb, rfl, .int k1, rfl, v, rfl, ?_⟩
    refine tNil_i ?_
    refine ⟨lb, k1, v, op, zs2, rfl, slb15.sq, hl900, hsm, hB15.pr, fun du H16 s16 hdu => ?_⟩
    have S16 := S15.same s16
    have spq16 := S15.nx s16 _ _ spq15
    have slb16 := S15.nx s16 _ _ slb15
    have hB16 := hB15.kept (Nx.kept (S15.nx s16))
    have hq16 := slb16.sq (K := K)
    have hp16 := spq16.sq (K := K)
    clear hB15 spq15 slb15 S15 s15 n15
    walk_at "rd"
    intro tq H17 n17 s17 htq
    refine ⟨by show 2 ≤ sizeLine; decide, fun hl2' H18 n18 s18 hhl => ?_⟩
    have s1618 := s17.trans s18
    have S18 := S16.same s1618
    have slh := Sep.of_newU S16 s1618 (s17.free n18) hhl
    have spq18 := S16.nx s1618 _ _ spq16
    have slb18 := S16.nx s1618 _ _ slb16
    have hB18 := hB16.kept (Nx.kept (S16.nx s1618))
    have htq18 : SqT K H18 tq (zs2.map V.str) := SqT.of (s18 _ _ htq)
    have hdu18 := s1618.tupT hdu.sq
    have hm14b : m14 ≤ 900000000 := by omega
    clear hB16 spq16 slb16 S16 hq16 hp16 htq hhl
    walk_at "rd"
    intro r6 H19 a7 b7 S19 x19
    obtain ⟨vh, hvh, hvhm⟩ := at_pick (l := [V.ref pq, .ref tq]) a7 (by show r6 < 2; exact b7)
    have hqh := (x19 _ _ slh).sq (K := K)
    have spq19 := x19 _ _ spq18
    have slb19 := x19 _ _ slb18
    have hB19 := hB18.kept (Nx.kept x19)
    have htq19 := tupT_nxU S18 x19 htq18
    have hdu19 := tupT_nxU S18 x19 hdu18
    obtain ⟨hd, rfl, hhd⟩ : ∃ hd, vh = .ref hd ∧ (SqL K H19 hd (zs2.map V.str) ∨ SqT K H19 hd (zs2.map V.str)) := by
      simp only [List.mem_cons, List.not_mem_nil, or_false] at hvhm
      rcases hvhm with rfl | rfl
      · exact ⟨_, rfl, .inl spq19.sq⟩
      · exact ⟨_, rfl, .inr htq19⟩
    have hPr19 := hB19.pr (K := K)
    clear hB18 spq18 slb18 S18 htq18 hdu18 htq19 slh x19 hvhm
    walk_at "rd"
    refine ⟨fun hne u H20 s20 hu => ?_, fun p' f u H20 hdt ep hb hw h1 h2 hlt s20 hs hu => ?_⟩
    · have hu2 := hu.sq
      have hdu20 := s20.tupT hdu19
      have dP := dp_strsL (s20.seq (spq19.sq (K := K)))
      have dL := dp_strsL (s20.seq (slb19.sq (K := K)))
      have hI := due_val (ps := zs2) (k := k1) (op := op) (hPr19.itm.same s20)
      have hkn := kind_ne hne
      generalize dueT zs2 k1 v op = o at hu2 hdu20 hI hkn
      have S20 := S19.same s20
      clear hdu19 hdu hu hne
      walk_at "rd"
      rw [SeqAt.eqv_refl_plain _ (dp_plain _ _ dP)]
      refine ite2 (fun e => absurd e (by decide)) (fun _ => ?_)
      have ek : decide (V.str (kindO o) = V.str (Str.ofString "told")) = false := decide_eq_false fun z => hkn (V.str.inj z)
      have hat0 : atI [V.str (kindO o), valO o] 0 = some (.str (kindO o)) := at0
      walk_at "rd"
      rw [ek]
      refine iteT ?_
      walk_at "rd"
      refine ⟨by show 2 ≤ sizeLine; decide, fun tk H21 n21 s21 htk => ?_⟩
      refine ⟨.ref du, rfl, tk, du, _, _, rfl, rfl, SqT.of htk, s21.tupT hdu20, .cons (.inl (.inl ⟨rfl, rfl⟩)) (.cons (.inl (itm_same (hI.same s21))) .nil), ?_⟩
      refine ⟨false, rfl, iteF ?_⟩
      have hdu21 := s21.tupT hdu20
      walk_at "rd"
      rw [ek]
      refine ite2 (fun e => absurd e (by decide)) (fun _ => ?_)
      exact ⟨_, _, _, _, _, _, _, _, _, _, _, _, _, rfl, S20.same s21, by omega⟩
    · have hdu20 : SqT K H20 du [.str "told", .int 0] := by
        have := s20.tupT (show SqT K H19 du [.str (kindO (dueT zs2 k1 v op)), valO (dueT zs2 k1 v op)] from hdu19)
        rw [hdt] at this
        exact this
      have dP := dp_strsL (s20.seq (spq19.sq (K := K)))
      have dL := dp_strsL (s20.seq (slb19.sq (K := K)))
      have hq20 : SqL K H20 lb (zs2.map V.str) ∨ SqT K H20 lb (zs2.map V.str) := .inl (s20.seq (slb19.sq (K := K)))
      have S20 := S19.same s20
      obtain ⟨rfl, hpr⟩ : v = .int p' ∧ isPr (.int p') = true := by
        cases hPr19 with
        | ok p2 h2 =>
          obtain rfl := Option.some.inj ep
          exact ⟨rfl, h2⟩
        | no _ _ => cases ep
      obtain ⟨mm, rfl⟩ : ∃ mm : Nat, k1 = (mm : Int) := ⟨k1.toNat, by omega⟩
      rw [Int.toNat_natCast] at hs
      clear hdu19 hdu
      have hat0 : atI [V.str "told", V.int 0] 0 = some (.str "told") := at0
      walk_at "rd"
      rw [SeqAt.eqv_refl_plain _ (dp_plain _ _ dP)]
      refine ite2 (fun e => absurd e (by decide)) (fun _ => ?_)
      walk_at "rd"
      intro sq H21 n21 s21 hsq
      have hsq' : SqL K H21 sq ((srt zs2).map V.str) := SqL.of hsq
      walk_at "rd"
      intro tb H22 n22 s22 htb
      refine ⟨.int (mm : Int), rfl, .int p', rfl, .ref f, rfl, ?_⟩
      refine tNil_i ?_
      have hnm := names_of hb hw
      have hsl := srt_len zs2
      refine ⟨tb, mm, p', f, srt zs2, rfl, SqT.of htb, hnm, srt_fine hw, srt_srt zs2, hpr, by omega, by omega, by omega, (hs.same s21).same s22, fun H23 s23 => ?_⟩
      refine ⟨true, rfl, iteF ?_⟩
      exact ⟨_, _, _, _, _, _, _, _, _, _, _, _, _, rfl, ((S20.same s21).same s22).same s23, by omega⟩
end
end P
set_option Elab.async false
set_option linter.all false
set_option maxRecDepth 100000
set_option maxHeartbeats 4000000
namespace P
open PySem PySem.Spec PyProof.Rows L2 OS
theorem ve_at (S : Addr) : PySem.HandSPX.refsVE (.ref S :: [.type "ValueError", .type "Exception", .type "BaseException", .type "object"]) = true :=
  (show PySem.HandSPX.refsVE [.type "ValueError", .type "Exception", .type "BaseException", .type "object"] = true by decide +kernel)
theorem all_mk {l : PySem.W.OpenLaw} {w : World} {K : PySem.W.Frag} {h : Heap} {mg : Str → Option Value} {fa f_BadName__init_ f_DuplicateName__init_ f_UnknownName__init_ f_BadCount__init_ f_BadGroup__init_ f_BadPrime__init_ f_BadRow__init_ f_valid_name f_all_groups f_is_group f_contains f_checked_persons f_check_groups f_least_groups f_contains_another f_Family__init_ f_Family_threshold f_Family_persons f_Family_opens f_check_prime f_is_whole f_is_number f_has_numbers f_check_rows f_check_width f_goal_row f_factors_for f_solved f_is_unsolvable f_reduced f_less f_inverse f_Scheme__init_ f_Scheme_prime f_Scheme_width f_Scheme_persons f_Scheme_rows f_Scheme_opens f_check_rows_of_person f_rows_of_group f_goal_factors f_fits f_threshold_scheme f_powers f_law_start f_law_take f_law_shuffled f_law_persons f_law_groups f_law_reduced f_law_minus f_law_rank f_law_goal f_law_spans f_law_good f_law_due f_law_told f_law_right f_law : Addr} (X : K.In h) (G : h.Ns mainGlobals mg) (hfa : mg "law" = some (.ref fa))
    {od0 an0 : Option Addr} {sl0 : Array (Option Value)} {oc0 kV0 dc0 pm0 cd0 ct0 : Value}
    {od1 an1 : Option Addr} {sl1 : Array (Option Value)} {oc1 kV1 dc1 pm1 cd1 ct1 : Value}
    {od2 an2 : Option Addr} {sl2 : Array (Option Value)} {oc2 kV2 dc2 pm2 cd2 ct2 : Value}
    {od3 an3 : Option Addr} {sl3 : Array (Option Value)} {oc3 kV3 dc3 pm3 cd3 ct3 : Value}
    {od4 an4 : Option Addr} {sl4 : Array (Option Value)} {oc4 kV4 dc4 pm4 cd4 ct4 : Value}
    {od5 an5 : Option Addr} {sl5 : Array (Option Value)} {oc5 kV5 dc5 pm5 cd5 ct5 : Value}
    {od6 an6 : Option Addr} {sl6 : Array (Option Value)} {oc6 kV6 dc6 pm6 cd6 ct6 : Value}
    {od7 an7 : Option Addr} {sl7 : Array (Option Value)} {oc7 kV7 dc7 pm7 cd7 ct7 : Value}
    {od8 an8 : Option Addr} {sl8 : Array (Option Value)} {oc8 kV8 dc8 pm8 cd8 ct8 : Value}
    {od9 an9 : Option Addr} {sl9 : Array (Option Value)} {oc9 kV9 dc9 pm9 cd9 ct9 : Value}
    {od10 an10 : Option Addr} {sl10 : Array (Option Value)} {oc10 kV10 dc10 pm10 cd10 ct10 : Value}
    {od11 an11 : Option Addr} {sl11 : Array (Option Value)} {oc11 kV11 dc11 pm11 cd11 ct11 : Value}
    {od12 an12 : Option Addr} {sl12 : Array (Option Value)} {oc12 kV12 dc12 pm12 cd12 ct12 : Value}
    {od13 an13 : Option Addr} {sl13 : Array (Option Value)} {oc13 kV13 dc13 pm13 cd13 ct13 : Value}
    {od14 an14 : Option Addr} {sl14 : Array (Option Value)} {oc14 kV14 dc14 pm14 cd14 ct14 : Value}
    {od15 an15 : Option Addr} {sl15 : Array (Option Value)} {oc15 kV15 dc15 pm15 cd15 ct15 : Value}
    {od16 an16 : Option Addr} {sl16 : Array (Option Value)} {oc16 kV16 dc16 pm16 cd16 ct16 : Value}
    {od17 an17 : Option Addr} {sl17 : Array (Option Value)} {oc17 kV17 dc17 pm17 cd17 ct17 : Value}
    {od18 an18 : Option Addr} {sl18 : Array (Option Value)} {oc18 kV18 dc18 pm18 cd18 ct18 : Value}
    {od19 an19 : Option Addr} {sl19 : Array (Option Value)} {oc19 kV19 dc19 pm19 cd19 ct19 : Value}
    {od20 an20 : Option Addr} {sl20 : Array (Option Value)} {oc20 kV20 dc20 pm20 cd20 ct20 : Value}
    {od21 an21 : Option Addr} {sl21 : Array (Option Value)} {oc21 kV21 dc21 pm21 cd21 ct21 : Value}
    {od22 an22 : Option Addr} {sl22 : Array (Option Value)} {oc22 kV22 dc22 pm22 cd22 ct22 : Value}
    {od23 an23 : Option Addr} {sl23 : Array (Option Value)} {oc23 kV23 dc23 pm23 cd23 ct23 : Value}
    {od24 an24 : Option Addr} {sl24 : Array (Option Value)} {oc24 kV24 dc24 pm24 cd24 ct24 : Value}
    {od25 an25 : Option Addr} {sl25 : Array (Option Value)} {oc25 kV25 dc25 pm25 cd25 ct25 : Value}
    {od26 an26 : Option Addr} {sl26 : Array (Option Value)} {oc26 kV26 dc26 pm26 cd26 ct26 : Value}
    {od27 an27 : Option Addr} {sl27 : Array (Option Value)} {oc27 kV27 dc27 pm27 cd27 ct27 : Value}
    {od28 an28 : Option Addr} {sl28 : Array (Option Value)} {oc28 kV28 dc28 pm28 cd28 ct28 : Value}
    {od29 an29 : Option Addr} {sl29 : Array (Option Value)} {oc29 kV29 dc29 pm29 cd29 ct29 : Value}
    {od30 an30 : Option Addr} {sl30 : Array (Option Value)} {oc30 kV30 dc30 pm30 cd30 ct30 : Value}
    {od31 an31 : Option Addr} {sl31 : Array (Option Value)} {oc31 kV31 dc31 pm31 cd31 ct31 : Value}
    {od32 an32 : Option Addr} {sl32 : Array (Option Value)} {oc32 kV32 dc32 pm32 cd32 ct32 : Value}
    {od33 an33 : Option Addr} {sl33 : Array (Option Value)} {oc33 kV33 dc33 pm33 cd33 ct33 : Value}
    {od34 an34 : Option Addr} {sl34 : Array (Option Value)} {oc34 kV34 dc34 pm34 cd34 ct34 : Value}
    {od35 an35 : Option Addr} {sl35 : Array (Option Value)} {oc35 kV35 dc35 pm35 cd35 ct35 : Value}
    {od36 an36 : Option Addr} {sl36 : Array (Option Value)} {oc36 kV36 dc36 pm36 cd36 ct36 : Value}
    {od37 an37 : Option Addr} {sl37 : Array (Option Value)} {oc37 kV37 dc37 pm37 cd37 ct37 : Value}
    {od38 an38 : Option Addr} {sl38 : Array (Option Value)} {oc38 kV38 dc38 pm38 cd38 ct38 : Value}
    {od39 an39 : Option Addr} {sl39 : Array (Option Value)} {oc39 kV39 dc39 pm39 cd39 ct39 : Value}
    {od40 an40 : Option Addr} {sl40 : Array (Option Value)} {oc40 kV40 dc40 pm40 cd40 ct40 : Value}
    {od41 an41 : Option Addr} {sl41 : Array (Option Value)} {oc41 kV41 dc41 pm41 cd41 ct41 : Value}
    {od42 an42 : Option Addr} {sl42 : Array (Option Value)} {oc42 kV42 dc42 pm42 cd42 ct42 : Value}
    {od43 an43 : Option Addr} {sl43 : Array (Option Value)} {oc43 kV43 dc43 pm43 cd43 ct43 : Value}
    {od44 an44 : Option Addr} {sl44 : Array (Option Value)} {oc44 kV44 dc44 pm44 cd44 ct44 : Value}
    {od45 an45 : Option Addr} {sl45 : Array (Option Value)} {oc45 kV45 dc45 pm45 cd45 ct45 : Value}
    {od46 an46 : Option Addr} {sl46 : Array (Option Value)} {oc46 kV46 dc46 pm46 cd46 ct46 : Value}
    {od47 an47 : Option Addr} {sl47 : Array (Option Value)} {oc47 kV47 dc47 pm47 cd47 ct47 : Value}
    {od48 an48 : Option Addr} {sl48 : Array (Option Value)} {oc48 kV48 dc48 pm48 cd48 ct48 : Value}
    {od49 an49 : Option Addr} {sl49 : Array (Option Value)} {oc49 kV49 dc49 pm49 cd49 ct49 : Value}
    {od50 an50 : Option Addr} {sl50 : Array (Option Value)} {oc50 kV50 dc50 pm50 cd50 ct50 : Value}
    {od51 an51 : Option Addr} {sl51 : Array (Option Value)} {oc51 kV51 dc51 pm51 cd51 ct51 : Value}
    {od52 an52 : Option Addr} {sl52 : Array (Option Value)} {oc52 kV52 dc52 pm52 cd52 ct52 : Value}
    {od53 an53 : Option Addr} {sl53 : Array (Option Value)} {oc53 kV53 dc53 pm53 cd53 ct53 : Value}
    {od54 an54 : Option Addr} {sl54 : Array (Option Value)} {oc54 kV54 dc54 pm54 cd54 ct54 : Value}
    {od55 an55 : Option Addr} {sl55 : Array (Option Value)} {oc55 kV55 dc55 pm55 cd55 ct55 : Value}
    {od56 an56 : Option Addr} {sl56 : Array (Option Value)} {oc56 kV56 dc56 pm56 cd56 ct56 : Value}
    {od57 an57 : Option Addr} {sl57 : Array (Option Value)} {oc57 kV57 dc57 pm57 cd57 ct57 : Value}
    {od58 an58 : Option Addr} {sl58 : Array (Option Value)} {oc58 kV58 dc58 pm58 cd58 ct58 : Value}
    {C_ShareError C_Family C_Scheme C_BadName C_DuplicateName C_UnknownName C_BadCount C_BadGroup C_BadPrime C_BadRow C_NoGroup : Addr}
    {p_prime p_width p_persons_Family p_persons_Scheme : Addr} {rest_prime rest_width rest_persons_Family rest_persons_Scheme : List Value}
    {p_threshold : Addr} {rest_threshold : List Value}
    {nmBadName qBadName : Str} {NBadName : Addr} {bsBadName : List Value} {snBadName : List Str} {subBadName : List Value} {abBadName : Bool} {colBadName : Option Bool} {ddBadName : Option Addr} {x0BadName x1BadName x2BadName x3BadName x5BadName : Option Value}
    (aCBadName : PySem.W.nsIn K mainGlobals "BadName" = some (some (.ref C_BadName)))
    (xCBadName : K.lookup C_BadName = some (excClassObj nmBadName qBadName C_BadName NBadName bsBadName (.ref C_ShareError :: [.type "ValueError", .type "Exception", .type "BaseException", .type "object"]) true snBadName subBadName abBadName colBadName ddBadName x0BadName x1BadName x2BadName x3BadName x5BadName "ValueError.__new__"))
    (eCBadName : errB K C_BadName = true)
    (iCBadName : PySem.W.findIn K (.ref C_BadName) "__init__" = some (some (.ref f_BadName__init_)))
    (tIBadName : PySem.W.typeIn K (.ref f_BadName__init_) = some (.type "function"))
    (nfBadName : PySem.W.findIn K (.ref C_BadName) "name" = some none)
    {nmDuplicateName qDuplicateName : Str} {NDuplicateName : Addr} {bsDuplicateName : List Value} {snDuplicateName : List Str} {subDuplicateName : List Value} {abDuplicateName : Bool} {colDuplicateName : Option Bool} {ddDuplicateName : Option Addr} {x0DuplicateName x1DuplicateName x2DuplicateName x3DuplicateName x5DuplicateName : Option Value}
    (aCDuplicateName : PySem.W.nsIn K mainGlobals "DuplicateName" = some (some (.ref C_DuplicateName)))
    (xCDuplicateName : K.lookup C_DuplicateName = some (excClassObj nmDuplicateName qDuplicateName C_DuplicateName NDuplicateName bsDuplicateName (.ref C_ShareError :: [.type "ValueError", .type "Exception", .type "BaseException", .type "object"]) true snDuplicateName subDuplicateName abDuplicateName colDuplicateName ddDuplicateName x0DuplicateName x1DuplicateName x2DuplicateName x3DuplicateName x5DuplicateName "ValueError.__new__"))
    (eCDuplicateName : errB K C_DuplicateName = true)
    (iCDuplicateName : PySem.W.findIn K (.ref C_DuplicateName) "__init__" = some (some (.ref f_DuplicateName__init_)))
    (tIDuplicateName : PySem.W.typeIn K (.ref f_DuplicateName__init_) = some (.type "function"))
    (nfDuplicateName : PySem.W.findIn K (.ref C_DuplicateName) "name" = some none)
    {nmUnknownName qUnknownName : Str} {NUnknownName : Addr} {bsUnknownName : List Value} {snUnknownName : List Str} {subUnknownName : List Value} {abUnknownName : Bool} {colUnknownName : Option Bool} {ddUnknownName : Option Addr} {x0UnknownName x1UnknownName x2UnknownName x3UnknownName x5UnknownName : Option Value}
    (aCUnknownName : PySem.W.nsIn K mainGlobals "UnknownName" = some (some (.ref C_UnknownName)))
    (xCUnknownName : K.lookup C_UnknownName = some (excClassObj nmUnknownName qUnknownName C_UnknownName NUnknownName bsUnknownName (.ref C_ShareError :: [.type "ValueError", .type "Exception", .type "BaseException", .type "object"]) true snUnknownName subUnknownName abUnknownName colUnknownName ddUnknownName x0UnknownName x1UnknownName x2UnknownName x3UnknownName x5UnknownName "ValueError.__new__"))
    (eCUnknownName : errB K C_UnknownName = true)
    (iCUnknownName : PySem.W.findIn K (.ref C_UnknownName) "__init__" = some (some (.ref f_UnknownName__init_)))
    (tIUnknownName : PySem.W.typeIn K (.ref f_UnknownName__init_) = some (.type "function"))
    (nfUnknownName : PySem.W.findIn K (.ref C_UnknownName) "name" = some none)
    {nmBadCount qBadCount : Str} {NBadCount : Addr} {bsBadCount : List Value} {snBadCount : List Str} {subBadCount : List Value} {abBadCount : Bool} {colBadCount : Option Bool} {ddBadCount : Option Addr} {x0BadCount x1BadCount x2BadCount x3BadCount x5BadCount : Option Value}
    (aCBadCount : PySem.W.nsIn K mainGlobals "BadCount" = some (some (.ref C_BadCount)))
    (xCBadCount : K.lookup C_BadCount = some (excClassObj nmBadCount qBadCount C_BadCount NBadCount bsBadCount (.ref C_ShareError :: [.type "ValueError", .type "Exception", .type "BaseException", .type "object"]) true snBadCount subBadCount abBadCount colBadCount ddBadCount x0BadCount x1BadCount x2BadCount x3BadCount x5BadCount "ValueError.__new__"))
    (eCBadCount : errB K C_BadCount = true)
    (iCBadCount : PySem.W.findIn K (.ref C_BadCount) "__init__" = some (some (.ref f_BadCount__init_)))
    (tIBadCount : PySem.W.typeIn K (.ref f_BadCount__init_) = some (.type "function"))
    (nfBadCount : PySem.W.findIn K (.ref C_BadCount) "count" = some none)
    {nmBadGroup qBadGroup : Str} {NBadGroup : Addr} {bsBadGroup : List Value} {snBadGroup : List Str} {subBadGroup : List Value} {abBadGroup : Bool} {colBadGroup : Option Bool} {ddBadGroup : Option Addr} {x0BadGroup x1BadGroup x2BadGroup x3BadGroup x5BadGroup : Option Value}
    (aCBadGroup : PySem.W.nsIn K mainGlobals "BadGroup" = some (some (.ref C_BadGroup)))
    (xCBadGroup : K.lookup C_BadGroup = some (excClassObj nmBadGroup qBadGroup C_BadGroup NBadGroup bsBadGroup (.ref C_ShareError :: [.type "ValueError", .type "Exception", .type "BaseException", .type "object"]) true snBadGroup subBadGroup abBadGroup colBadGroup ddBadGroup x0BadGroup x1BadGroup x2BadGroup x3BadGroup x5BadGroup "ValueError.__new__"))
    (eCBadGroup : errB K C_BadGroup = true)
    (iCBadGroup : PySem.W.findIn K (.ref C_BadGroup) "__init__" = some (some (.ref f_BadGroup__init_)))
    (tIBadGroup : PySem.W.typeIn K (.ref f_BadGroup__init_) = some (.type "function"))
    (nfBadGroup : PySem.W.findIn K (.ref C_BadGroup) "value" = some none)
    {nmBadPrime qBadPrime : Str} {NBadPrime : Addr} {bsBadPrime : List Value} {snBadPrime : List Str} {subBadPrime : List Value} {abBadPrime : Bool} {colBadPrime : Option Bool} {ddBadPrime : Option Addr} {x0BadPrime x1BadPrime x2BadPrime x3BadPrime x5BadPrime : Option Value}
    (aCBadPrime : PySem.W.nsIn K mainGlobals "BadPrime" = some (some (.ref C_BadPrime)))
    (xCBadPrime : K.lookup C_BadPrime = some (excClassObj nmBadPrime qBadPrime C_BadPrime NBadPrime bsBadPrime (.ref C_ShareError :: [.type "ValueError", .type "Exception", .type "BaseException", .type "object"]) true snBadPrime subBadPrime abBadPrime colBadPrime ddBadPrime x0BadPrime x1BadPrime x2BadPrime x3BadPrime x5BadPrime "ValueError.__new__"))
    (eCBadPrime : errB K C_BadPrime = true)
    (iCBadPrime : PySem.W.findIn K (.ref C_BadPrime) "__init__" = some (some (.ref f_BadPrime__init_)))
    (tIBadPrime : PySem.W.typeIn K (.ref f_BadPrime__init_) = some (.type "function"))
    (nfBadPrime : PySem.W.findIn K (.ref C_BadPrime) "number" = some none)
    {nmBadRow qBadRow : Str} {NBadRow : Addr} {bsBadRow : List Value} {snBadRow : List Str} {subBadRow : List Value} {abBadRow : Bool} {colBadRow : Option Bool} {ddBadRow : Option Addr} {x0BadRow x1BadRow x2BadRow x3BadRow x5BadRow : Option Value}
    (aCBadRow : PySem.W.nsIn K mainGlobals "BadRow" = some (some (.ref C_BadRow)))
    (xCBadRow : K.lookup C_BadRow = some (excClassObj nmBadRow qBadRow C_BadRow NBadRow bsBadRow (.ref C_ShareError :: [.type "ValueError", .type "Exception", .type "BaseException", .type "object"]) true snBadRow subBadRow abBadRow colBadRow ddBadRow x0BadRow x1BadRow x2BadRow x3BadRow x5BadRow "ValueError.__new__"))
    (eCBadRow : errB K C_BadRow = true)
    (iCBadRow : PySem.W.findIn K (.ref C_BadRow) "__init__" = some (some (.ref f_BadRow__init_)))
    (tIBadRow : PySem.W.typeIn K (.ref f_BadRow__init_) = some (.type "function"))
    (nfBadRow : PySem.W.findIn K (.ref C_BadRow) "value" = some none)
    {nmNoGroup qNoGroup : Str} {NNoGroup : Addr} {bsNoGroup : List Value} {snNoGroup : List Str} {subNoGroup : List Value} {abNoGroup : Bool} {colNoGroup : Option Bool} {ddNoGroup : Option Addr} {x0NoGroup x1NoGroup x2NoGroup x3NoGroup x5NoGroup : Option Value}
    (aCNoGroup : PySem.W.nsIn K mainGlobals "NoGroup" = some (some (.ref C_NoGroup)))
    (xCNoGroup : K.lookup C_NoGroup = some (excClassObj nmNoGroup qNoGroup C_NoGroup NNoGroup bsNoGroup (.ref C_ShareError :: [.type "ValueError", .type "Exception", .type "BaseException", .type "object"]) true snNoGroup subNoGroup abNoGroup colNoGroup ddNoGroup x0NoGroup x1NoGroup x2NoGroup x3NoGroup x5NoGroup "ValueError.__new__"))
    (eCNoGroup : errB K C_NoGroup = true)
    (qCNoGroup : PySem.W.excIn K C_NoGroup [.type "ValueError", .type "Exception", .type "BaseException", .type "object"] "ValueError.__new__" = true)
    (kCNoGroup : PySem.W.keepIn K (.ref C_NoGroup) = true)
    (ex_BadName_BadName : PySem.W.exmOne K (.ref C_BadName) (.ref C_BadName) = some true)
    (ex_BadName_DuplicateName : PySem.W.exmOne K (.ref C_BadName) (.ref C_DuplicateName) = some false)
    (ex_BadName_UnknownName : PySem.W.exmOne K (.ref C_BadName) (.ref C_UnknownName) = some false)
    (ex_BadName_BadCount : PySem.W.exmOne K (.ref C_BadName) (.ref C_BadCount) = some false)
    (ex_BadName_BadGroup : PySem.W.exmOne K (.ref C_BadName) (.ref C_BadGroup) = some false)
    (ex_BadName_BadPrime : PySem.W.exmOne K (.ref C_BadName) (.ref C_BadPrime) = some false)
    (ex_BadName_BadRow : PySem.W.exmOne K (.ref C_BadName) (.ref C_BadRow) = some false)
    (ex_BadName_NoGroup : PySem.W.exmOne K (.ref C_BadName) (.ref C_NoGroup) = some false)
    (ex_DuplicateName_BadName : PySem.W.exmOne K (.ref C_DuplicateName) (.ref C_BadName) = some false)
    (ex_DuplicateName_DuplicateName : PySem.W.exmOne K (.ref C_DuplicateName) (.ref C_DuplicateName) = some true)
    (ex_DuplicateName_UnknownName : PySem.W.exmOne K (.ref C_DuplicateName) (.ref C_UnknownName) = some false)
    (ex_DuplicateName_BadCount : PySem.W.exmOne K (.ref C_DuplicateName) (.ref C_BadCount) = some false)
    (ex_DuplicateName_BadGroup : PySem.W.exmOne K (.ref C_DuplicateName) (.ref C_BadGroup) = some false)
    (ex_DuplicateName_BadPrime : PySem.W.exmOne K (.ref C_DuplicateName) (.ref C_BadPrime) = some false)
    (ex_DuplicateName_BadRow : PySem.W.exmOne K (.ref C_DuplicateName) (.ref C_BadRow) = some false)
    (ex_DuplicateName_NoGroup : PySem.W.exmOne K (.ref C_DuplicateName) (.ref C_NoGroup) = some false)
    (ex_UnknownName_BadName : PySem.W.exmOne K (.ref C_UnknownName) (.ref C_BadName) = some false)
    (ex_UnknownName_DuplicateName : PySem.W.exmOne K (.ref C_UnknownName) (.ref C_DuplicateName) = some false)
    (ex_UnknownName_UnknownName : PySem.W.exmOne K (.ref C_UnknownName) (.ref C_UnknownName) = some true)
    (ex_UnknownName_BadCount : PySem.W.exmOne K (.ref C_UnknownName) (.ref C_BadCount) = some false)
    (ex_UnknownName_BadGroup : PySem.W.exmOne K (.ref C_UnknownName) (.ref C_BadGroup) = some false)
    (ex_UnknownName_BadPrime : PySem.W.exmOne K (.ref C_UnknownName) (.ref C_BadPrime) = some false)
    (ex_UnknownName_BadRow : PySem.W.exmOne K (.ref C_UnknownName) (.ref C_BadRow) = some false)
    (ex_UnknownName_NoGroup : PySem.W.exmOne K (.ref C_UnknownName) (.ref C_NoGroup) = some false)
    (ex_BadCount_BadName : PySem.W.exmOne K (.ref C_BadCount) (.ref C_BadName) = some false)
    (ex_BadCount_DuplicateName : PySem.W.exmOne K (.ref C_BadCount) (.ref C_DuplicateName) = some false)
    (ex_BadCount_UnknownName : PySem.W.exmOne K (.ref C_BadCount) (.ref C_UnknownName) = some false)
    (ex_BadCount_BadCount : PySem.W.exmOne K (.ref C_BadCount) (.ref C_BadCount) = some true)
    (ex_BadCount_BadGroup : PySem.W.exmOne K (.ref C_BadCount) (.ref C_BadGroup) = some false)
    (ex_BadCount_BadPrime : PySem.W.exmOne K (.ref C_BadCount) (.ref C_BadPrime) = some false)
    (ex_BadCount_BadRow : PySem.W.exmOne K (.ref C_BadCount) (.ref C_BadRow) = some false)
    (ex_BadCount_NoGroup : PySem.W.exmOne K (.ref C_BadCount) (.ref C_NoGroup) = some false)
    (ex_BadGroup_BadName : PySem.W.exmOne K (.ref C_BadGroup) (.ref C_BadName) = some false)
    (ex_BadGroup_DuplicateName : PySem.W.exmOne K (.ref C_BadGroup) (.ref C_DuplicateName) = some false)
    (ex_BadGroup_UnknownName : PySem.W.exmOne K (.ref C_BadGroup) (.ref C_UnknownName) = some false)
    (ex_BadGroup_BadCount : PySem.W.exmOne K (.ref C_BadGroup) (.ref C_BadCount) = some false)
    (ex_BadGroup_BadGroup : PySem.W.exmOne K (.ref C_BadGroup) (.ref C_BadGroup) = some true)
    (ex_BadGroup_BadPrime : PySem.W.exmOne K (.ref C_BadGroup) (.ref C_BadPrime) = some false)
    (ex_BadGroup_BadRow : PySem.W.exmOne K (.ref C_BadGroup) (.ref C_BadRow) = some false)
    (ex_BadGroup_NoGroup : PySem.W.exmOne K (.ref C_BadGroup) (.ref C_NoGroup) = some false)
    (ex_BadPrime_BadName : PySem.W.exmOne K (.ref C_BadPrime) (.ref C_BadName) = some false)
    (ex_BadPrime_DuplicateName : PySem.W.exmOne K (.ref C_BadPrime) (.ref C_DuplicateName) = some false)
    (ex_BadPrime_UnknownName : PySem.W.exmOne K (.ref C_BadPrime) (.ref C_UnknownName) = some false)
    (ex_BadPrime_BadCount : PySem.W.exmOne K (.ref C_BadPrime) (.ref C_BadCount) = some false)
    (ex_BadPrime_BadGroup : PySem.W.exmOne K (.ref C_BadPrime) (.ref C_BadGroup) = some false)
    (ex_BadPrime_BadPrime : PySem.W.exmOne K (.ref C_BadPrime) (.ref C_BadPrime) = some true)
    (ex_BadPrime_BadRow : PySem.W.exmOne K (.ref C_BadPrime) (.ref C_BadRow) = some false)
    (ex_BadPrime_NoGroup : PySem.W.exmOne K (.ref C_BadPrime) (.ref C_NoGroup) = some false)
    (ex_BadRow_BadName : PySem.W.exmOne K (.ref C_BadRow) (.ref C_BadName) = some false)
    (ex_BadRow_DuplicateName : PySem.W.exmOne K (.ref C_BadRow) (.ref C_DuplicateName) = some false)
    (ex_BadRow_UnknownName : PySem.W.exmOne K (.ref C_BadRow) (.ref C_UnknownName) = some false)
    (ex_BadRow_BadCount : PySem.W.exmOne K (.ref C_BadRow) (.ref C_BadCount) = some false)
    (ex_BadRow_BadGroup : PySem.W.exmOne K (.ref C_BadRow) (.ref C_BadGroup) = some false)
    (ex_BadRow_BadPrime : PySem.W.exmOne K (.ref C_BadRow) (.ref C_BadPrime) = some false)
    (ex_BadRow_BadRow : PySem.W.exmOne K (.ref C_BadRow) (.ref C_BadRow) = some true)
    (ex_BadRow_NoGroup : PySem.W.exmOne K (.ref C_BadRow) (.ref C_NoGroup) = some false)
    (ex_NoGroup_BadName : PySem.W.exmOne K (.ref C_NoGroup) (.ref C_BadName) = some false)
    (ex_NoGroup_DuplicateName : PySem.W.exmOne K (.ref C_NoGroup) (.ref C_DuplicateName) = some false)
    (ex_NoGroup_UnknownName : PySem.W.exmOne K (.ref C_NoGroup) (.ref C_UnknownName) = some false)
    (ex_NoGroup_BadCount : PySem.W.exmOne K (.ref C_NoGroup) (.ref C_BadCount) = some false)
    (ex_NoGroup_BadGroup : PySem.W.exmOne K (.ref C_NoGroup) (.ref C_BadGroup) = some false)
    (ex_NoGroup_BadPrime : PySem.W.exmOne K (.ref C_NoGroup) (.ref C_BadPrime) = some false)
    (ex_NoGroup_BadRow : PySem.W.exmOne K (.ref C_NoGroup) (.ref C_BadRow) = some false)
    (ex_NoGroup_NoGroup : PySem.W.exmOne K (.ref C_NoGroup) (.ref C_NoGroup) = some true)
    (hn : PySem.W.specialIn K (.builtin "object.__class__") "__get__" = some (some (.builtin "getset_descriptor.__get__")))
    (ht : PySem.W.takesIn K (.builtin "object.__class__") = some true)
    (aClFamily : PySem.W.nsIn K mainGlobals "Family" = some (some (.ref C_Family)))
    (pgFamily : PySem.W.plainGet K C_Family Str.empty = true)
    (hdFamily : PySem.W.hasDictIn K C_Family = true)
    (poFamily : PySem.W.plainOver K C_Family = true)
    (saFamily : PySem.W.findIn K (.ref C_Family) "__setattr__" = some (some (.builtin "object.__setattr__")))
    (mk1Family : PySem.W.makesIn K C_Family = true)
    (mk2Family : PySem.W.findIn K (.ref C_Family) "__init__" = some (some (.ref f_Family__init_)))
    (mk3Family : PySem.W.isFn K (.ref f_Family__init_) = true)
    (mk4Family : PySem.W.keepIn K (.ref C_Family) = true)
    (aClScheme : PySem.W.nsIn K mainGlobals "Scheme" = some (some (.ref C_Scheme)))
    (pgScheme : PySem.W.plainGet K C_Scheme Str.empty = true)
    (hdScheme : PySem.W.hasDictIn K C_Scheme = true)
    (poScheme : PySem.W.plainOver K C_Scheme = true)
    (saScheme : PySem.W.findIn K (.ref C_Scheme) "__setattr__" = some (some (.builtin "object.__setattr__")))
    (mk1Scheme : PySem.W.makesIn K C_Scheme = true)
    (mk2Scheme : PySem.W.findIn K (.ref C_Scheme) "__init__" = some (some (.ref f_Scheme__init_)))
    (mk3Scheme : PySem.W.isFn K (.ref f_Scheme__init_) = true)
    (mk4Scheme : PySem.W.keepIn K (.ref C_Scheme) = true)
    (na_prime : PySem.W.findIn K (.ref C_Scheme) "_prime" = some none)
    (na_width : PySem.W.findIn K (.ref C_Scheme) "_width" = some none)
    (na_persons_Family : PySem.W.findIn K (.ref C_Family) "_persons" = some none)
    (na_persons_Scheme : PySem.W.findIn K (.ref C_Scheme) "_persons" = some none)
    (na_rows : PySem.W.findIn K (.ref C_Scheme) "_rows" = some none)
    (na_groups : PySem.W.findIn K (.ref C_Family) "_groups" = some none)
    (na_needed : PySem.W.findIn K (.ref C_Family) "_needed" = some none)
    (pa_prime : PySem.W.findIn K (.ref C_Scheme) "prime" = some (some (.ref p_prime)))
    (pb_prime : PySem.W.specialIn K (.ref p_prime) "__get__" = some (some (.builtin "property.__get__")))
    (pc_prime : PySem.W.takesIn K (.ref p_prime) = some true)
    (pd_prime : PySem.W.recIn K p_prime "property" = some (.ref f_Scheme_prime :: rest_prime))
    (pa_width : PySem.W.findIn K (.ref C_Scheme) "width" = some (some (.ref p_width)))
    (pb_width : PySem.W.specialIn K (.ref p_width) "__get__" = some (some (.builtin "property.__get__")))
    (pc_width : PySem.W.takesIn K (.ref p_width) = some true)
    (pd_width : PySem.W.recIn K p_width "property" = some (.ref f_Scheme_width :: rest_width))
    (pa_persons_Family : PySem.W.findIn K (.ref C_Family) "persons" = some (some (.ref p_persons_Family)))
    (pb_persons_Family : PySem.W.specialIn K (.ref p_persons_Family) "__get__" = some (some (.builtin "property.__get__")))
    (pc_persons_Family : PySem.W.takesIn K (.ref p_persons_Family) = some true)
    (pd_persons_Family : PySem.W.recIn K p_persons_Family "property" = some (.ref f_Family_persons :: rest_persons_Family))
    (pa_persons_Scheme : PySem.W.findIn K (.ref C_Scheme) "persons" = some (some (.ref p_persons_Scheme)))
    (pb_persons_Scheme : PySem.W.specialIn K (.ref p_persons_Scheme) "__get__" = some (some (.builtin "property.__get__")))
    (pc_persons_Scheme : PySem.W.takesIn K (.ref p_persons_Scheme) = some true)
    (pd_persons_Scheme : PySem.W.recIn K p_persons_Scheme "property" = some (.ref f_Scheme_persons :: rest_persons_Scheme))
    (moa_rows : PySem.W.findIn K (.ref C_Scheme) "rows" = some (some (.ref f_Scheme_rows)))
    (mob_rows : PySem.W.isFn K (.ref f_Scheme_rows) = true)
    (moc_rows : PySem.W.keepIn K (.ref f_Scheme_rows) = true)
    (moa_opens_Family : PySem.W.findIn K (.ref C_Family) "opens" = some (some (.ref f_Family_opens)))
    (mob_opens_Family : PySem.W.isFn K (.ref f_Family_opens) = true)
    (moc_opens_Family : PySem.W.keepIn K (.ref f_Family_opens) = true)
    (moa_opens_Scheme : PySem.W.findIn K (.ref C_Scheme) "opens" = some (some (.ref f_Scheme_opens)))
    (mob_opens_Scheme : PySem.W.isFn K (.ref f_Scheme_opens) = true)
    (moc_opens_Scheme : PySem.W.keepIn K (.ref f_Scheme_opens) = true)
    (cr1_Family : PySem.W.readsIn K C_Family (.type "type") = true)
    (cr2_Family : PySem.W.specialIn K (.ref C_Family) "__getattribute__" = some (some (.builtin "type.__getattribute__")))
    (cma_threshold : PySem.W.findCls K (.ref C_Family) (.type "type") "threshold" = some (.get (.builtin "classmethod.__get__") (.ref p_threshold) .none (.ref C_Family)))
    (cmb_threshold : PySem.W.recIn K p_threshold "classmethod" = some (.ref f_Family_threshold :: rest_threshold))
    (cmc_threshold : PySem.W.fnIn K f_Family_threshold = true)
    (fca_Scheme : PySem.W.findIn K (.ref C_Scheme) "__class__" = some (some (.builtin "object.__class__")))
    (mroa_Scheme : PySem.W.mroIn K C_Scheme (.type "object") = some true)
    (kia_Scheme : PySem.W.kitOne K (.ref C_Scheme) (.ref C_Scheme) = some true)
    {a_PRIMES : Addr} {od_PRIMES : Option Addr} {its_PRIMES : Array Value} {n_PRIMES : Nat} {sl_PRIMES : Array (Option Value)}
    (v_PRIMES : PySem.W.nsIn K mainGlobals "PRIMES" = some (some (.ref a_PRIMES)))
    (l_PRIMES : K.lookup a_PRIMES = some ⟨.type "tuple", od_PRIMES, .seq its_PRIMES n_PRIMES, sl_PRIMES⟩)
    (s_PRIMES : its_PRIMES.size ≤ sizeLine ∧ L2.Vals [.int 2, .int 3, .int 5, .int 7, .int 11] its_PRIMES.toList)
    (l0 : K.lookup f_BadName__init_ = some ⟨oc0, od0, .func (PySem.W.fnOf "__init__" "BadName.__init__" (defArgs s_BadName__init_) (defBody s_BadName__init_) (defScope s_BadName__init_) .none kV0 dc0 pm0 an0 cd0 ct0), sl0⟩) (c0 : PySem.W.codeIn K cd0 "BadName.__init__" = true) (k0 : PySem.W.keepIn K (.ref f_BadName__init_) = true)
    (l1 : K.lookup f_DuplicateName__init_ = some ⟨oc1, od1, .func (PySem.W.fnOf "__init__" "DuplicateName.__init__" (defArgs s_DuplicateName__init_) (defBody s_DuplicateName__init_) (defScope s_DuplicateName__init_) .none kV1 dc1 pm1 an1 cd1 ct1), sl1⟩) (c1 : PySem.W.codeIn K cd1 "DuplicateName.__init__" = true) (k1 : PySem.W.keepIn K (.ref f_DuplicateName__init_) = true)
    (l2 : K.lookup f_UnknownName__init_ = some ⟨oc2, od2, .func (PySem.W.fnOf "__init__" "UnknownName.__init__" (defArgs s_UnknownName__init_) (defBody s_UnknownName__init_) (defScope s_UnknownName__init_) .none kV2 dc2 pm2 an2 cd2 ct2), sl2⟩) (c2 : PySem.W.codeIn K cd2 "UnknownName.__init__" = true) (k2 : PySem.W.keepIn K (.ref f_UnknownName__init_) = true)
    (l3 : K.lookup f_BadCount__init_ = some ⟨oc3, od3, .func (PySem.W.fnOf "__init__" "BadCount.__init__" (defArgs s_BadCount__init_) (defBody s_BadCount__init_) (defScope s_BadCount__init_) .none kV3 dc3 pm3 an3 cd3 ct3), sl3⟩) (c3 : PySem.W.codeIn K cd3 "BadCount.__init__" = true) (k3 : PySem.W.keepIn K (.ref f_BadCount__init_) = true)
    (l4 : K.lookup f_BadGroup__init_ = some ⟨oc4, od4, .func (PySem.W.fnOf "__init__" "BadGroup.__init__" (defArgs s_BadGroup__init_) (defBody s_BadGroup__init_) (defScope s_BadGroup__init_) .none kV4 dc4 pm4 an4 cd4 ct4), sl4⟩) (c4 : PySem.W.codeIn K cd4 "BadGroup.__init__" = true) (k4 : PySem.W.keepIn K (.ref f_BadGroup__init_) = true)
    (l5 : K.lookup f_BadPrime__init_ = some ⟨oc5, od5, .func (PySem.W.fnOf "__init__" "BadPrime.__init__" (defArgs s_BadPrime__init_) (defBody s_BadPrime__init_) (defScope s_BadPrime__init_) .none kV5 dc5 pm5 an5 cd5 ct5), sl5⟩) (c5 : PySem.W.codeIn K cd5 "BadPrime.__init__" = true) (k5 : PySem.W.keepIn K (.ref f_BadPrime__init_) = true)
    (l6 : K.lookup f_BadRow__init_ = some ⟨oc6, od6, .func (PySem.W.fnOf "__init__" "BadRow.__init__" (defArgs s_BadRow__init_) (defBody s_BadRow__init_) (defScope s_BadRow__init_) .none kV6 dc6 pm6 an6 cd6 ct6), sl6⟩) (c6 : PySem.W.codeIn K cd6 "BadRow.__init__" = true) (k6 : PySem.W.keepIn K (.ref f_BadRow__init_) = true)
    (a7 : PySem.W.nsIn K mainGlobals "valid_name" = some (some (.ref f_valid_name)))
    (l7 : K.lookup f_valid_name = some ⟨oc7, od7, .func (PySem.W.fnOf "valid_name" "valid_name" (defArgs s_valid_name) (defBody s_valid_name) (defScope s_valid_name) .none kV7 dc7 pm7 an7 cd7 ct7), sl7⟩) (c7 : PySem.W.codeIn K cd7 "valid_name" = true) (k7 : PySem.W.keepIn K (.ref f_valid_name) = true)
    (a8 : PySem.W.nsIn K mainGlobals "all_groups" = some (some (.ref f_all_groups)))
    (l8 : K.lookup f_all_groups = some ⟨oc8, od8, .func (PySem.W.fnOf "all_groups" "all_groups" (defArgs s_all_groups) (defBody s_all_groups) (defScope s_all_groups) .none kV8 dc8 pm8 an8 cd8 ct8), sl8⟩) (c8 : PySem.W.codeIn K cd8 "all_groups" = true) (k8 : PySem.W.keepIn K (.ref f_all_groups) = true)
    (a9 : PySem.W.nsIn K mainGlobals "is_group" = some (some (.ref f_is_group)))
    (l9 : K.lookup f_is_group = some ⟨oc9, od9, .func (PySem.W.fnOf "is_group" "is_group" (defArgs s_is_group) (defBody s_is_group) (defScope s_is_group) .none kV9 dc9 pm9 an9 cd9 ct9), sl9⟩) (c9 : PySem.W.codeIn K cd9 "is_group" = true) (k9 : PySem.W.keepIn K (.ref f_is_group) = true)
    (a10 : PySem.W.nsIn K mainGlobals "contains" = some (some (.ref f_contains)))
    (l10 : K.lookup f_contains = some ⟨oc10, od10, .func (PySem.W.fnOf "contains" "contains" (defArgs s_contains) (defBody s_contains) (defScope s_contains) .none kV10 dc10 pm10 an10 cd10 ct10), sl10⟩) (c10 : PySem.W.codeIn K cd10 "contains" = true) (k10 : PySem.W.keepIn K (.ref f_contains) = true)
    (a11 : PySem.W.nsIn K mainGlobals "checked_persons" = some (some (.ref f_checked_persons)))
    (l11 : K.lookup f_checked_persons = some ⟨oc11, od11, .func (PySem.W.fnOf "checked_persons" "checked_persons" (defArgs s_checked_persons) (defBody s_checked_persons) (defScope s_checked_persons) .none kV11 dc11 pm11 an11 cd11 ct11), sl11⟩) (c11 : PySem.W.codeIn K cd11 "checked_persons" = true) (k11 : PySem.W.keepIn K (.ref f_checked_persons) = true)
    (a12 : PySem.W.nsIn K mainGlobals "check_groups" = some (some (.ref f_check_groups)))
    (l12 : K.lookup f_check_groups = some ⟨oc12, od12, .func (PySem.W.fnOf "check_groups" "check_groups" (defArgs s_check_groups) (defBody s_check_groups) (defScope s_check_groups) .none kV12 dc12 pm12 an12 cd12 ct12), sl12⟩) (c12 : PySem.W.codeIn K cd12 "check_groups" = true) (k12 : PySem.W.keepIn K (.ref f_check_groups) = true)
    (a13 : PySem.W.nsIn K mainGlobals "least_groups" = some (some (.ref f_least_groups)))
    (l13 : K.lookup f_least_groups = some ⟨oc13, od13, .func (PySem.W.fnOf "least_groups" "least_groups" (defArgs s_least_groups) (defBody s_least_groups) (defScope s_least_groups) .none kV13 dc13 pm13 an13 cd13 ct13), sl13⟩) (c13 : PySem.W.codeIn K cd13 "least_groups" = true) (k13 : PySem.W.keepIn K (.ref f_least_groups) = true)
    (a14 : PySem.W.nsIn K mainGlobals "contains_another" = some (some (.ref f_contains_another)))
    (l14 : K.lookup f_contains_another = some ⟨oc14, od14, .func (PySem.W.fnOf "contains_another" "contains_another" (defArgs s_contains_another) (defBody s_contains_another) (defScope s_contains_another) .none kV14 dc14 pm14 an14 cd14 ct14), sl14⟩) (c14 : PySem.W.codeIn K cd14 "contains_another" = true) (k14 : PySem.W.keepIn K (.ref f_contains_another) = true)
    (l15 : K.lookup f_Family__init_ = some ⟨oc15, od15, .func (PySem.W.fnOf "__init__" "Family.__init__" (defArgs s_Family__init_) (defBody s_Family__init_) (defScope s_Family__init_) .none kV15 dc15 pm15 an15 cd15 ct15), sl15⟩) (c15 : PySem.W.codeIn K cd15 "Family.__init__" = true) (k15 : PySem.W.keepIn K (.ref f_Family__init_) = true)
    (l16 : K.lookup f_Family_threshold = some ⟨oc16, od16, .func (PySem.W.fnOf "threshold" "Family.threshold" (defArgs s_Family_threshold) (defBody s_Family_threshold) (defScope s_Family_threshold) .none kV16 dc16 pm16 an16 cd16 ct16), sl16⟩) (c16 : PySem.W.codeIn K cd16 "Family.threshold" = true) (k16 : PySem.W.keepIn K (.ref f_Family_threshold) = true)
    (l17 : K.lookup f_Family_persons = some ⟨oc17, od17, .func (PySem.W.fnOf "persons" "Family.persons" (defArgs s_Family_persons) (defBody s_Family_persons) (defScope s_Family_persons) .none kV17 dc17 pm17 an17 cd17 ct17), sl17⟩) (c17 : PySem.W.codeIn K cd17 "Family.persons" = true) (k17 : PySem.W.keepIn K (.ref f_Family_persons) = true)
    (l18 : K.lookup f_Family_opens = some ⟨oc18, od18, .func (PySem.W.fnOf "opens" "Family.opens" (defArgs s_Family_opens) (defBody s_Family_opens) (defScope s_Family_opens) .none kV18 dc18 pm18 an18 cd18 ct18), sl18⟩) (c18 : PySem.W.codeIn K cd18 "Family.opens" = true) (k18 : PySem.W.keepIn K (.ref f_Family_opens) = true)
    (a19 : PySem.W.nsIn K mainGlobals "check_prime" = some (some (.ref f_check_prime)))
    (l19 : K.lookup f_check_prime = some ⟨oc19, od19, .func (PySem.W.fnOf "check_prime" "check_prime" (defArgs s_check_prime) (defBody s_check_prime) (defScope s_check_prime) .none kV19 dc19 pm19 an19 cd19 ct19), sl19⟩) (c19 : PySem.W.codeIn K cd19 "check_prime" = true) (k19 : PySem.W.keepIn K (.ref f_check_prime) = true)
    (a20 : PySem.W.nsIn K mainGlobals "is_whole" = some (some (.ref f_is_whole)))
    (l20 : K.lookup f_is_whole = some ⟨oc20, od20, .func (PySem.W.fnOf "is_whole" "is_whole" (defArgs s_is_whole) (defBody s_is_whole) (defScope s_is_whole) .none kV20 dc20 pm20 an20 cd20 ct20), sl20⟩) (c20 : PySem.W.codeIn K cd20 "is_whole" = true) (k20 : PySem.W.keepIn K (.ref f_is_whole) = true)
    (a21 : PySem.W.nsIn K mainGlobals "is_number" = some (some (.ref f_is_number)))
    (l21 : K.lookup f_is_number = some ⟨oc21, od21, .func (PySem.W.fnOf "is_number" "is_number" (defArgs s_is_number) (defBody s_is_number) (defScope s_is_number) .none kV21 dc21 pm21 an21 cd21 ct21), sl21⟩) (c21 : PySem.W.codeIn K cd21 "is_number" = true) (k21 : PySem.W.keepIn K (.ref f_is_number) = true)
    (a22 : PySem.W.nsIn K mainGlobals "has_numbers" = some (some (.ref f_has_numbers)))
    (l22 : K.lookup f_has_numbers = some ⟨oc22, od22, .func (PySem.W.fnOf "has_numbers" "has_numbers" (defArgs s_has_numbers) (defBody s_has_numbers) (defScope s_has_numbers) .none kV22 dc22 pm22 an22 cd22 ct22), sl22⟩) (c22 : PySem.W.codeIn K cd22 "has_numbers" = true) (k22 : PySem.W.keepIn K (.ref f_has_numbers) = true)
    (a23 : PySem.W.nsIn K mainGlobals "check_rows" = some (some (.ref f_check_rows)))
    (l23 : K.lookup f_check_rows = some ⟨oc23, od23, .func (PySem.W.fnOf "check_rows" "check_rows" (defArgs s_check_rows) (defBody s_check_rows) (defScope s_check_rows) .none kV23 dc23 pm23 an23 cd23 ct23), sl23⟩) (c23 : PySem.W.codeIn K cd23 "check_rows" = true) (k23 : PySem.W.keepIn K (.ref f_check_rows) = true)
    (a24 : PySem.W.nsIn K mainGlobals "check_width" = some (some (.ref f_check_width)))
    (l24 : K.lookup f_check_width = some ⟨oc24, od24, .func (PySem.W.fnOf "check_width" "check_width" (defArgs s_check_width) (defBody s_check_width) (defScope s_check_width) .none kV24 dc24 pm24 an24 cd24 ct24), sl24⟩) (c24 : PySem.W.codeIn K cd24 "check_width" = true) (k24 : PySem.W.keepIn K (.ref f_check_width) = true)
    (a25 : PySem.W.nsIn K mainGlobals "goal_row" = some (some (.ref f_goal_row)))
    (l25 : K.lookup f_goal_row = some ⟨oc25, od25, .func (PySem.W.fnOf "goal_row" "goal_row" (defArgs s_goal_row) (defBody s_goal_row) (defScope s_goal_row) .none kV25 dc25 pm25 an25 cd25 ct25), sl25⟩) (c25 : PySem.W.codeIn K cd25 "goal_row" = true) (k25 : PySem.W.keepIn K (.ref f_goal_row) = true)
    (a26 : PySem.W.nsIn K mainGlobals "factors_for" = some (some (.ref f_factors_for)))
    (l26 : K.lookup f_factors_for = some ⟨oc26, od26, .func (PySem.W.fnOf "factors_for" "factors_for" (defArgs s_factors_for) (defBody s_factors_for) (defScope s_factors_for) .none kV26 dc26 pm26 an26 cd26 ct26), sl26⟩) (c26 : PySem.W.codeIn K cd26 "factors_for" = true) (k26 : PySem.W.keepIn K (.ref f_factors_for) = true)
    (a27 : PySem.W.nsIn K mainGlobals "solved" = some (some (.ref f_solved)))
    (l27 : K.lookup f_solved = some ⟨oc27, od27, .func (PySem.W.fnOf "solved" "solved" (defArgs s_solved) (defBody s_solved) (defScope s_solved) .none kV27 dc27 pm27 an27 cd27 ct27), sl27⟩) (c27 : PySem.W.codeIn K cd27 "solved" = true) (k27 : PySem.W.keepIn K (.ref f_solved) = true)
    (a28 : PySem.W.nsIn K mainGlobals "is_unsolvable" = some (some (.ref f_is_unsolvable)))
    (l28 : K.lookup f_is_unsolvable = some ⟨oc28, od28, .func (PySem.W.fnOf "is_unsolvable" "is_unsolvable" (defArgs s_is_unsolvable) (defBody s_is_unsolvable) (defScope s_is_unsolvable) .none kV28 dc28 pm28 an28 cd28 ct28), sl28⟩) (c28 : PySem.W.codeIn K cd28 "is_unsolvable" = true) (k28 : PySem.W.keepIn K (.ref f_is_unsolvable) = true)
    (a29 : PySem.W.nsIn K mainGlobals "reduced" = some (some (.ref f_reduced)))
    (l29 : K.lookup f_reduced = some ⟨oc29, od29, .func (PySem.W.fnOf "reduced" "reduced" (defArgs s_reduced) (defBody s_reduced) (defScope s_reduced) .none kV29 dc29 pm29 an29 cd29 ct29), sl29⟩) (c29 : PySem.W.codeIn K cd29 "reduced" = true) (k29 : PySem.W.keepIn K (.ref f_reduced) = true)
    (a30 : PySem.W.nsIn K mainGlobals "less" = some (some (.ref f_less)))
    (l30 : K.lookup f_less = some ⟨oc30, od30, .func (PySem.W.fnOf "less" "less" (defArgs s_less) (defBody s_less) (defScope s_less) .none kV30 dc30 pm30 an30 cd30 ct30), sl30⟩) (c30 : PySem.W.codeIn K cd30 "less" = true) (k30 : PySem.W.keepIn K (.ref f_less) = true)
    (a31 : PySem.W.nsIn K mainGlobals "inverse" = some (some (.ref f_inverse)))
    (l31 : K.lookup f_inverse = some ⟨oc31, od31, .func (PySem.W.fnOf "inverse" "inverse" (defArgs s_inverse) (defBody s_inverse) (defScope s_inverse) .none kV31 dc31 pm31 an31 cd31 ct31), sl31⟩) (c31 : PySem.W.codeIn K cd31 "inverse" = true) (k31 : PySem.W.keepIn K (.ref f_inverse) = true)
    (l32 : K.lookup f_Scheme__init_ = some ⟨oc32, od32, .func (PySem.W.fnOf "__init__" "Scheme.__init__" (defArgs s_Scheme__init_) (defBody s_Scheme__init_) (defScope s_Scheme__init_) .none kV32 dc32 pm32 an32 cd32 ct32), sl32⟩) (c32 : PySem.W.codeIn K cd32 "Scheme.__init__" = true) (k32 : PySem.W.keepIn K (.ref f_Scheme__init_) = true)
    (l33 : K.lookup f_Scheme_prime = some ⟨oc33, od33, .func (PySem.W.fnOf "prime" "Scheme.prime" (defArgs s_Scheme_prime) (defBody s_Scheme_prime) (defScope s_Scheme_prime) .none kV33 dc33 pm33 an33 cd33 ct33), sl33⟩) (c33 : PySem.W.codeIn K cd33 "Scheme.prime" = true) (k33 : PySem.W.keepIn K (.ref f_Scheme_prime) = true)
    (l34 : K.lookup f_Scheme_width = some ⟨oc34, od34, .func (PySem.W.fnOf "width" "Scheme.width" (defArgs s_Scheme_width) (defBody s_Scheme_width) (defScope s_Scheme_width) .none kV34 dc34 pm34 an34 cd34 ct34), sl34⟩) (c34 : PySem.W.codeIn K cd34 "Scheme.width" = true) (k34 : PySem.W.keepIn K (.ref f_Scheme_width) = true)
    (l35 : K.lookup f_Scheme_persons = some ⟨oc35, od35, .func (PySem.W.fnOf "persons" "Scheme.persons" (defArgs s_Scheme_persons) (defBody s_Scheme_persons) (defScope s_Scheme_persons) .none kV35 dc35 pm35 an35 cd35 ct35), sl35⟩) (c35 : PySem.W.codeIn K cd35 "Scheme.persons" = true) (k35 : PySem.W.keepIn K (.ref f_Scheme_persons) = true)
    (l36 : K.lookup f_Scheme_rows = some ⟨oc36, od36, .func (PySem.W.fnOf "rows" "Scheme.rows" (defArgs s_Scheme_rows) (defBody s_Scheme_rows) (defScope s_Scheme_rows) .none kV36 dc36 pm36 an36 cd36 ct36), sl36⟩) (c36 : PySem.W.codeIn K cd36 "Scheme.rows" = true) (k36 : PySem.W.keepIn K (.ref f_Scheme_rows) = true)
    (l37 : K.lookup f_Scheme_opens = some ⟨oc37, od37, .func (PySem.W.fnOf "opens" "Scheme.opens" (defArgs s_Scheme_opens) (defBody s_Scheme_opens) (defScope s_Scheme_opens) .none kV37 dc37 pm37 an37 cd37 ct37), sl37⟩) (c37 : PySem.W.codeIn K cd37 "Scheme.opens" = true) (k37 : PySem.W.keepIn K (.ref f_Scheme_opens) = true)
    (a38 : PySem.W.nsIn K mainGlobals "check_rows_of_person" = some (some (.ref f_check_rows_of_person)))
    (l38 : K.lookup f_check_rows_of_person = some ⟨oc38, od38, .func (PySem.W.fnOf "check_rows_of_person" "check_rows_of_person" (defArgs s_check_rows_of_person) (defBody s_check_rows_of_person) (defScope s_check_rows_of_person) .none kV38 dc38 pm38 an38 cd38 ct38), sl38⟩) (c38 : PySem.W.codeIn K cd38 "check_rows_of_person" = true) (k38 : PySem.W.keepIn K (.ref f_check_rows_of_person) = true)
    (a39 : PySem.W.nsIn K mainGlobals "rows_of_group" = some (some (.ref f_rows_of_group)))
    (l39 : K.lookup f_rows_of_group = some ⟨oc39, od39, .func (PySem.W.fnOf "rows_of_group" "rows_of_group" (defArgs s_rows_of_group) (defBody s_rows_of_group) (defScope s_rows_of_group) .none kV39 dc39 pm39 an39 cd39 ct39), sl39⟩) (c39 : PySem.W.codeIn K cd39 "rows_of_group" = true) (k39 : PySem.W.keepIn K (.ref f_rows_of_group) = true)
    (a40 : PySem.W.nsIn K mainGlobals "goal_factors" = some (some (.ref f_goal_factors)))
    (l40 : K.lookup f_goal_factors = some ⟨oc40, od40, .func (PySem.W.fnOf "goal_factors" "goal_factors" (defArgs s_goal_factors) (defBody s_goal_factors) (defScope s_goal_factors) .none kV40 dc40 pm40 an40 cd40 ct40), sl40⟩) (c40 : PySem.W.codeIn K cd40 "goal_factors" = true) (k40 : PySem.W.keepIn K (.ref f_goal_factors) = true)
    (a41 : PySem.W.nsIn K mainGlobals "fits" = some (some (.ref f_fits)))
    (l41 : K.lookup f_fits = some ⟨oc41, od41, .func (PySem.W.fnOf "fits" "fits" (defArgs s_fits) (defBody s_fits) (defScope s_fits) .none kV41 dc41 pm41 an41 cd41 ct41), sl41⟩) (c41 : PySem.W.codeIn K cd41 "fits" = true) (k41 : PySem.W.keepIn K (.ref f_fits) = true)
    (a42 : PySem.W.nsIn K mainGlobals "threshold_scheme" = some (some (.ref f_threshold_scheme)))
    (l42 : K.lookup f_threshold_scheme = some ⟨oc42, od42, .func (PySem.W.fnOf "threshold_scheme" "threshold_scheme" (defArgs s_threshold_scheme) (defBody s_threshold_scheme) (defScope s_threshold_scheme) .none kV42 dc42 pm42 an42 cd42 ct42), sl42⟩) (c42 : PySem.W.codeIn K cd42 "threshold_scheme" = true) (k42 : PySem.W.keepIn K (.ref f_threshold_scheme) = true)
    (a43 : PySem.W.nsIn K mainGlobals "powers" = some (some (.ref f_powers)))
    (l43 : K.lookup f_powers = some ⟨oc43, od43, .func (PySem.W.fnOf "powers" "powers" (defArgs s_powers) (defBody s_powers) (defScope s_powers) .none kV43 dc43 pm43 an43 cd43 ct43), sl43⟩) (c43 : PySem.W.codeIn K cd43 "powers" = true) (k43 : PySem.W.keepIn K (.ref f_powers) = true)
    (a44 : PySem.W.nsIn K mainGlobals "_law_start" = some (some (.ref f_law_start)))
    (l44 : K.lookup f_law_start = some ⟨oc44, od44, .func (PySem.W.fnOf "_law_start" "_law_start" (defArgs s_law_start) (defBody s_law_start) (defScope s_law_start) .none kV44 dc44 pm44 an44 cd44 ct44), sl44⟩) (c44 : PySem.W.codeIn K cd44 "_law_start" = true) (k44 : PySem.W.keepIn K (.ref f_law_start) = true)
    (a45 : PySem.W.nsIn K mainGlobals "_law_take" = some (some (.ref f_law_take)))
    (l45 : K.lookup f_law_take = some ⟨oc45, od45, .func (PySem.W.fnOf "_law_take" "_law_take" (defArgs s_law_take) (defBody s_law_take) (defScope s_law_take) .none kV45 dc45 pm45 an45 cd45 ct45), sl45⟩) (c45 : PySem.W.codeIn K cd45 "_law_take" = true) (k45 : PySem.W.keepIn K (.ref f_law_take) = true)
    (a46 : PySem.W.nsIn K mainGlobals "_law_shuffled" = some (some (.ref f_law_shuffled)))
    (l46 : K.lookup f_law_shuffled = some ⟨oc46, od46, .func (PySem.W.fnOf "_law_shuffled" "_law_shuffled" (defArgs s_law_shuffled) (defBody s_law_shuffled) (defScope s_law_shuffled) .none kV46 dc46 pm46 an46 cd46 ct46), sl46⟩) (c46 : PySem.W.codeIn K cd46 "_law_shuffled" = true) (k46 : PySem.W.keepIn K (.ref f_law_shuffled) = true)
    (a47 : PySem.W.nsIn K mainGlobals "_law_persons" = some (some (.ref f_law_persons)))
    (l47 : K.lookup f_law_persons = some ⟨oc47, od47, .func (PySem.W.fnOf "_law_persons" "_law_persons" (defArgs s_law_persons) (defBody s_law_persons) (defScope s_law_persons) .none kV47 dc47 pm47 an47 cd47 ct47), sl47⟩) (c47 : PySem.W.codeIn K cd47 "_law_persons" = true) (k47 : PySem.W.keepIn K (.ref f_law_persons) = true)
    (a48 : PySem.W.nsIn K mainGlobals "_law_groups" = some (some (.ref f_law_groups)))
    (l48 : K.lookup f_law_groups = some ⟨oc48, od48, .func (PySem.W.fnOf "_law_groups" "_law_groups" (defArgs s_law_groups) (defBody s_law_groups) (defScope s_law_groups) .none kV48 dc48 pm48 an48 cd48 ct48), sl48⟩) (c48 : PySem.W.codeIn K cd48 "_law_groups" = true) (k48 : PySem.W.keepIn K (.ref f_law_groups) = true)
    (a49 : PySem.W.nsIn K mainGlobals "_law_reduced" = some (some (.ref f_law_reduced)))
    (l49 : K.lookup f_law_reduced = some ⟨oc49, od49, .func (PySem.W.fnOf "_law_reduced" "_law_reduced" (defArgs s_law_reduced) (defBody s_law_reduced) (defScope s_law_reduced) .none kV49 dc49 pm49 an49 cd49 ct49), sl49⟩) (c49 : PySem.W.codeIn K cd49 "_law_reduced" = true) (k49 : PySem.W.keepIn K (.ref f_law_reduced) = true)
    (a50 : PySem.W.nsIn K mainGlobals "_law_minus" = some (some (.ref f_law_minus)))
    (l50 : K.lookup f_law_minus = some ⟨oc50, od50, .func (PySem.W.fnOf "_law_minus" "_law_minus" (defArgs s_law_minus) (defBody s_law_minus) (defScope s_law_minus) .none kV50 dc50 pm50 an50 cd50 ct50), sl50⟩) (c50 : PySem.W.codeIn K cd50 "_law_minus" = true) (k50 : PySem.W.keepIn K (.ref f_law_minus) = true)
    (a51 : PySem.W.nsIn K mainGlobals "_law_rank" = some (some (.ref f_law_rank)))
    (l51 : K.lookup f_law_rank = some ⟨oc51, od51, .func (PySem.W.fnOf "_law_rank" "_law_rank" (defArgs s_law_rank) (defBody s_law_rank) (defScope s_law_rank) .none kV51 dc51 pm51 an51 cd51 ct51), sl51⟩) (c51 : PySem.W.codeIn K cd51 "_law_rank" = true) (k51 : PySem.W.keepIn K (.ref f_law_rank) = true)
    (a52 : PySem.W.nsIn K mainGlobals "_law_goal" = some (some (.ref f_law_goal)))
    (l52 : K.lookup f_law_goal = some ⟨oc52, od52, .func (PySem.W.fnOf "_law_goal" "_law_goal" (defArgs s_law_goal) (defBody s_law_goal) (defScope s_law_goal) .none kV52 dc52 pm52 an52 cd52 ct52), sl52⟩) (c52 : PySem.W.codeIn K cd52 "_law_goal" = true) (k52 : PySem.W.keepIn K (.ref f_law_goal) = true)
    (a53 : PySem.W.nsIn K mainGlobals "_law_spans" = some (some (.ref f_law_spans)))
    (l53 : K.lookup f_law_spans = some ⟨oc53, od53, .func (PySem.W.fnOf "_law_spans" "_law_spans" (defArgs s_law_spans) (defBody s_law_spans) (defScope s_law_spans) .none kV53 dc53 pm53 an53 cd53 ct53), sl53⟩) (c53 : PySem.W.codeIn K cd53 "_law_spans" = true) (k53 : PySem.W.keepIn K (.ref f_law_spans) = true)
    (a54 : PySem.W.nsIn K mainGlobals "_law_good" = some (some (.ref f_law_good)))
    (l54 : K.lookup f_law_good = some ⟨oc54, od54, .func (PySem.W.fnOf "_law_good" "_law_good" (defArgs s_law_good) (defBody s_law_good) (defScope s_law_good) .none kV54 dc54 pm54 an54 cd54 ct54), sl54⟩) (c54 : PySem.W.codeIn K cd54 "_law_good" = true) (k54 : PySem.W.keepIn K (.ref f_law_good) = true)
    (a55 : PySem.W.nsIn K mainGlobals "_law_due" = some (some (.ref f_law_due)))
    (l55 : K.lookup f_law_due = some ⟨oc55, od55, .func (PySem.W.fnOf "_law_due" "_law_due" (defArgs s_law_due) (defBody s_law_due) (defScope s_law_due) .none kV55 dc55 pm55 an55 cd55 ct55), sl55⟩) (c55 : PySem.W.codeIn K cd55 "_law_due" = true) (k55 : PySem.W.keepIn K (.ref f_law_due) = true)
    (a56 : PySem.W.nsIn K mainGlobals "_law_told" = some (some (.ref f_law_told)))
    (l56 : K.lookup f_law_told = some ⟨oc56, od56, .func (PySem.W.fnOf "_law_told" "_law_told" (defArgs s_law_told) (defBody s_law_told) (defScope s_law_told) .none kV56 dc56 pm56 an56 cd56 ct56), sl56⟩) (c56 : PySem.W.codeIn K cd56 "_law_told" = true) (k56 : PySem.W.keepIn K (.ref f_law_told) = true)
    (a57 : PySem.W.nsIn K mainGlobals "_law_right" = some (some (.ref f_law_right)))
    (l57 : K.lookup f_law_right = some ⟨oc57, od57, .func (PySem.W.fnOf "_law_right" "_law_right" (defArgs s_law_right) (defBody s_law_right) (defScope s_law_right) .none kV57 dc57 pm57 an57 cd57 ct57), sl57⟩) (c57 : PySem.W.codeIn K cd57 "_law_right" = true) (k57 : PySem.W.keepIn K (.ref f_law_right) = true)
    (a58 : PySem.W.nsIn K mainGlobals "law" = some (some (.ref f_law)))
    (l58 : K.lookup f_law = some ⟨oc58, od58, .func (PySem.W.fnOf "law" "law" (defArgs s_law) (defBody s_law) (defScope s_law) .none kV58 dc58 pm58 an58 cd58 ct58), sl58⟩) (c58 : PySem.W.codeIn K cd58 "law" = true) (k58 : PySem.W.keepIn K (.ref f_law) = true)
    {t_LETTERS : Tok}
    (v_LETTERS : PySem.W.nsIn K mainGlobals "LETTERS" = some (some (.str "abcdefghijklmnopqrstuvwxyz" t_LETTERS)))
    {t_DIGITS : Tok}
    (v_DIGITS : PySem.W.nsIn K mainGlobals "DIGITS" = some (some (.str "0123456789" t_DIGITS)))
    {t_LONGEST_NAME : Tok}
    (v_LONGEST_NAME : PySem.W.nsIn K mainGlobals "LONGEST_NAME" = some (some (.int 6 t_LONGEST_NAME)))
    {t_MOST_PERSONS : Tok}
    (v_MOST_PERSONS : PySem.W.nsIn K mainGlobals "MOST_PERSONS" = some (some (.int 5 t_MOST_PERSONS)))
    {t_MOST_WIDTH : Tok}
    (v_MOST_WIDTH : PySem.W.nsIn K mainGlobals "MOST_WIDTH" = some (some (.int 40 t_MOST_WIDTH)))
    {t_MOST_ROWS : Tok}
    (v_MOST_ROWS : PySem.W.nsIn K mainGlobals "MOST_ROWS" = some (some (.int 16 t_MOST_ROWS)))
    (z_set : PySem.W.nsIn K mainGlobals "set" = some none)
    (z_len : PySem.W.nsIn K mainGlobals "len" = some none)
    (z_all : PySem.W.nsIn K mainGlobals "all" = some none)
    (z_any : PySem.W.nsIn K mainGlobals "any" = some none)
    (z_abs : PySem.W.nsIn K mainGlobals "abs" = some none)
    (z_list : PySem.W.nsIn K mainGlobals "list" = some none)
    (z_int : PySem.W.nsIn K mainGlobals "int" = some none)
    (z_range : PySem.W.nsIn K mainGlobals "range" = some none)
    (z_isinstance : PySem.W.nsIn K mainGlobals "isinstance" = some none)
    (z_tuple : PySem.W.nsIn K mainGlobals "tuple" = some none)
    (z_sorted : PySem.W.nsIn K mainGlobals "sorted" = some none)
    (z_enumerate : PySem.W.nsIn K mainGlobals "enumerate" = some none)
    (z_zip : PySem.W.nsIn K mainGlobals "zip" = some none)
    (z_sum : PySem.W.nsIn K mainGlobals "sum" = some none)
    (z_max : PySem.W.nsIn K mainGlobals "max" = some none)
    (z_bool : PySem.W.nsIn K mainGlobals "bool" = some none)
    : ∃ fd : FuncData, (∀ (s : Shared) (v : Value), BindsTo s fd ⟨[v], []⟩ [("_law_script", v)]) ∧ ∀ base : Heap, K.In base → base.Ns mainGlobals mg → FnOk l.prog w K mg base CX0 10 fa fd ["_law_script"] (P.spLaw K) := by
  have e := hfa.symm.trans (PySem.W.mg_of X G a58)
  cases e
  have F0 := fun_mk (st := s_BadName__init_) l0 c0 k0
  have b0 := F0.binds (ps := ["self", "name"]) fun _ _ _ _ _ _ us hl => match us, hl with | [_, _], _ => rfl
  have F1 := fun_mk (st := s_DuplicateName__init_) l1 c1 k1
  have b1 := F1.binds (ps := ["self", "name"]) fun _ _ _ _ _ _ us hl => match us, hl with | [_, _], _ => rfl
  have F2 := fun_mk (st := s_UnknownName__init_) l2 c2 k2
  have b2 := F2.binds (ps := ["self", "name"]) fun _ _ _ _ _ _ us hl => match us, hl with | [_, _], _ => rfl
  have F3 := fun_mk (st := s_BadCount__init_) l3 c3 k3
  have b3 := F3.binds (ps := ["self", "count"]) fun _ _ _ _ _ _ us hl => match us, hl with | [_, _], _ => rfl
  have F4 := fun_mk (st := s_BadGroup__init_) l4 c4 k4
  have b4 := F4.binds (ps := ["self", "value"]) fun _ _ _ _ _ _ us hl => match us, hl with | [_, _], _ => rfl
  have F5 := fun_mk (st := s_BadPrime__init_) l5 c5 k5
  have b5 := F5.binds (ps := ["self", "number"]) fun _ _ _ _ _ _ us hl => match us, hl with | [_, _], _ => rfl
  have F6 := fun_mk (st := s_BadRow__init_) l6 c6 k6
  have b6 := F6.binds (ps := ["self", "value"]) fun _ _ _ _ _ _ us hl => match us, hl with | [_, _], _ => rfl
  have F7 := fun_mk (st := s_valid_name) l7 c7 k7
  have b7 := F7.binds (ps := ["text"]) fun _ _ _ _ _ _ us hl => match us, hl with | [_], _ => rfl
  have F8 := fun_mk (st := s_all_groups) l8 c8 k8
  have b8 := F8.binds (ps := ["persons"]) fun _ _ _ _ _ _ us hl => match us, hl with | [_], _ => rfl
  have F9 := fun_mk (st := s_is_group) l9 c9 k9
  have b9 := F9.binds (ps := ["persons", "value"]) fun _ _ _ _ _ _ us hl => match us, hl with | [_, _], _ => rfl
  have F10 := fun_mk (st := s_contains) l10 c10 k10
  have b10 := F10.binds (ps := ["group", "other"]) fun _ _ _ _ _ _ us hl => match us, hl with | [_, _], _ => rfl
  have F11 := fun_mk (st := s_checked_persons) l11 c11 k11
  have b11 := F11.binds (ps := ["persons"]) fun _ _ _ _ _ _ us hl => match us, hl with | [_], _ => rfl
  have F12 := fun_mk (st := s_check_groups) l12 c12 k12
  have b12 := F12.binds (ps := ["persons", "groups"]) fun _ _ _ _ _ _ us hl => match us, hl with | [_, _], _ => rfl
  have F13 := fun_mk (st := s_least_groups) l13 c13 k13
  have b13 := F13.binds (ps := ["persons", "groups"]) fun _ _ _ _ _ _ us hl => match us, hl with | [_, _], _ => rfl
  have F14 := fun_mk (st := s_contains_another) l14 c14 k14
  have b14 := F14.binds (ps := ["group", "groups"]) fun _ _ _ _ _ _ us hl => match us, hl with | [_, _], _ => rfl
  have F15 := fun_mk (st := s_Family__init_) l15 c15 k15
  have b15 := F15.binds (ps := ["self", "persons", "groups"]) fun _ _ _ _ _ _ us hl => match us, hl with | [_, _, _], _ => rfl
  have F16 := fun_mk (st := s_Family_threshold) l16 c16 k16
  have b16 := F16.binds (ps := ["cls", "persons", "many"]) fun _ _ _ _ _ _ us hl => match us, hl with | [_, _, _], _ => rfl
  have F17 := fun_mk (st := s_Family_persons) l17 c17 k17
  have b17 := F17.binds (ps := ["self"]) fun _ _ _ _ _ _ us hl => match us, hl with | [_], _ => rfl
  have F18 := fun_mk (st := s_Family_opens) l18 c18 k18
  have b18 := F18.binds (ps := ["self", "group"]) fun _ _ _ _ _ _ us hl => match us, hl with | [_, _], _ => rfl
  have F19 := fun_mk (st := s_check_prime) l19 c19 k19
  have b19 := F19.binds (ps := ["prime"]) fun _ _ _ _ _ _ us hl => match us, hl with | [_], _ => rfl
  have F20 := fun_mk (st := s_is_whole) l20 c20 k20
  have b20 := F20.binds (ps := ["value"]) fun _ _ _ _ _ _ us hl => match us, hl with | [_], _ => rfl
  have F21 := fun_mk (st := s_is_number) l21 c21 k21
  have b21 := F21.binds (ps := ["prime", "value"]) fun _ _ _ _ _ _ us hl => match us, hl with | [_, _], _ => rfl
  have F22 := fun_mk (st := s_has_numbers) l22 c22 k22
  have b22 := F22.binds (ps := ["prime", "value", "many"]) fun _ _ _ _ _ _ us hl => match us, hl with | [_, _, _], _ => rfl
  have F23 := fun_mk (st := s_check_rows) l23 c23 k23
  have b23 := F23.binds (ps := ["prime", "values"]) fun _ _ _ _ _ _ us hl => match us, hl with | [_, _], _ => rfl
  have F24 := fun_mk (st := s_check_width) l24 c24 k24
  have b24 := F24.binds (ps := ["width", "rows"]) fun _ _ _ _ _ _ us hl => match us, hl with | [_, _], _ => rfl
  have F25 := fun_mk (st := s_goal_row) l25 c25 k25
  have b25 := F25.binds (ps := ["width"]) fun _ _ _ _ _ _ us hl => match us, hl with | [_], _ => rfl
  have F26 := fun_mk (st := s_factors_for) l26 c26 k26
  have b26 := F26.binds (ps := ["prime", "rows", "goal"]) fun _ _ _ _ _ _ us hl => match us, hl with | [_, _, _], _ => rfl
  have F27 := fun_mk (st := s_solved) l27 c27 k27
  have b27 := F27.binds (ps := ["prime", "equations", "many"]) fun _ _ _ _ _ _ us hl => match us, hl with | [_, _, _], _ => rfl
  have F28 := fun_mk (st := s_is_unsolvable) l28 c28 k28
  have b28 := F28.binds (ps := ["found", "many"]) fun _ _ _ _ _ _ us hl => match us, hl with | [_, _], _ => rfl
  have F29 := fun_mk (st := s_reduced) l29 c29 k29
  have b29 := F29.binds (ps := ["prime", "rows"]) fun _ _ _ _ _ _ us hl => match us, hl with | [_, _], _ => rfl
  have F30 := fun_mk (st := s_less) l30 c30 k30
  have b30 := F30.binds (ps := ["prime", "row", "factor", "other"]) fun _ _ _ _ _ _ us hl => match us, hl with | [_, _, _, _], _ => rfl
  have F31 := fun_mk (st := s_inverse) l31 c31 k31
  have b31 := F31.binds (ps := ["prime", "number"]) fun _ _ _ _ _ _ us hl => match us, hl with | [_, _], _ => rfl
  have F32 := fun_mk (st := s_Scheme__init_) l32 c32 k32
  have b32 := F32.binds (ps := ["self", "prime", "width", "rows"]) fun _ _ _ _ _ _ us hl => match us, hl with | [_, _, _, _], _ => rfl
  have F33 := fun_mk (st := s_Scheme_prime) l33 c33 k33
  have b33 := F33.binds (ps := ["self"]) fun _ _ _ _ _ _ us hl => match us, hl with | [_], _ => rfl
  have F34 := fun_mk (st := s_Scheme_width) l34 c34 k34
  have b34 := F34.binds (ps := ["self"]) fun _ _ _ _ _ _ us hl => match us, hl with | [_], _ => rfl
  have F35 := fun_mk (st := s_Scheme_persons) l35 c35 k35
  have b35 := F35.binds (ps := ["self"]) fun _ _ _ _ _ _ us hl => match us, hl with | [_], _ => rfl
  have F36 := fun_mk (st := s_Scheme_rows) l36 c36 k36
  have b36 := F36.binds (ps := ["self", "name"]) fun _ _ _ _ _ _ us hl => match us, hl with | [_, _], _ => rfl
  have F37 := fun_mk (st := s_Scheme_opens) l37 c37 k37
  have b37 := F37.binds (ps := ["self", "group"]) fun _ _ _ _ _ _ us hl => match us, hl with | [_, _], _ => rfl
  have F38 := fun_mk (st := s_check_rows_of_person) l38 c38 k38
  have b38 := F38.binds (ps := ["prime", "width", "rows"]) fun _ _ _ _ _ _ us hl => match us, hl with | [_, _, _], _ => rfl
  have F39 := fun_mk (st := s_rows_of_group) l39 c39 k39
  have b39 := F39.binds (ps := ["scheme", "group"]) fun _ _ _ _ _ _ us hl => match us, hl with | [_, _], _ => rfl
  have F40 := fun_mk (st := s_goal_factors) l40 c40 k40
  have b40 := F40.binds (ps := ["scheme", "group"]) fun _ _ _ _ _ _ us hl => match us, hl with | [_, _], _ => rfl
  have F41 := fun_mk (st := s_fits) l41 c41 k41
  have b41 := F41.binds (ps := ["scheme", "family"]) fun _ _ _ _ _ _ us hl => match us, hl with | [_, _], _ => rfl
  have F42 := fun_mk (st := s_threshold_scheme) l42 c42 k42
  have b42 := F42.binds (ps := ["persons", "many", "prime"]) fun _ _ _ _ _ _ us hl => match us, hl with | [_, _, _], _ => rfl
  have F43 := fun_mk (st := s_powers) l43 c43 k43
  have b43 := F43.binds (ps := ["prime", "number", "many"]) fun _ _ _ _ _ _ us hl => match us, hl with | [_, _, _], _ => rfl
  have F44 := fun_mk (st := s_law_start) l44 c44 k44
  have b44 := F44.binds (ps := ["_law_script"]) fun _ _ _ _ _ _ us hl => match us, hl with | [_], _ => rfl
  have F45 := fun_mk (st := s_law_take) l45 c45 k45
  have b45 := F45.binds (ps := ["_law_state", "_law_limit"]) fun _ _ _ _ _ _ us hl => match us, hl with | [_, _], _ => rfl
  have F46 := fun_mk (st := s_law_shuffled) l46 c46 k46
  have b46 := F46.binds (ps := ["_law_state", "_law_items"]) fun _ _ _ _ _ _ us hl => match us, hl with | [_, _], _ => rfl
  have F47 := fun_mk (st := s_law_persons) l47 c47 k47
  have b47 := F47.binds (ps := ["_law_state", "_law_most"]) fun _ _ _ _ _ _ us hl => match us, hl with | [_, _], _ => rfl
  have F48 := fun_mk (st := s_law_groups) l48 c48 k48
  have b48 := F48.binds (ps := ["_law_names"]) fun _ _ _ _ _ _ us hl => match us, hl with | [_], _ => rfl
  have F49 := fun_mk (st := s_law_reduced) l49 c49 k49
  have b49 := F49.binds (ps := ["_law_prime1", "_law_rows"]) fun _ _ _ _ _ _ us hl => match us, hl with | [_, _], _ => rfl
  have F50 := fun_mk (st := s_law_minus) l50 c50 k50
  have b50 := F50.binds (ps := ["_law_prime1", "_law_row", "_law_lead", "_law_place"]) fun _ _ _ _ _ _ us hl => match us, hl with | [_, _, _, _], _ => rfl
  have F51 := fun_mk (st := s_law_rank) l51 c51 k51
  have b51 := F51.binds (ps := ["_law_prime1", "_law_rows"]) fun _ _ _ _ _ _ us hl => match us, hl with | [_, _], _ => rfl
  have F52 := fun_mk (st := s_law_goal) l52 c52 k52
  have b52 := F52.binds (ps := ["_law_width"]) fun _ _ _ _ _ _ us hl => match us, hl with | [_], _ => rfl
  have F53 := fun_mk (st := s_law_spans) l53 c53 k53
  have b53 := F53.binds (ps := ["_law_prime1", "_law_rows", "_law_goal_here"]) fun _ _ _ _ _ _ us hl => match us, hl with | [_, _, _], _ => rfl
  have F54 := fun_mk (st := s_law_good) l54 c54 k54
  have b54 := F54.binds (ps := ["_law_word"]) fun _ _ _ _ _ _ us hl => match us, hl with | [_], _ => rfl
  have F55 := fun_mk (st := s_law_due) l55 c55 k55
  have b55 := F55.binds (ps := ["_law_labels", "_law_least", "_law_base"]) fun _ _ _ _ _ _ us hl => match us, hl with | [_, _, _], _ => rfl
  have F56 := fun_mk (st := s_law_told) l56 c56 k56
  have b56 := F56.binds (ps := ["_law_way", "_law_labels", "_law_least", "_law_base"]) fun _ _ _ _ _ _ us hl => match us, hl with | [_, _, _, _], _ => rfl
  have F57 := fun_mk (st := s_law_right) l57 c57 k57
  have b57 := F57.binds (ps := ["_law_names", "_law_least", "_law_base", "_law_scheme"]) fun _ _ _ _ _ _ us hl => match us, hl with | [_, _, _, _], _ => rfl
  have F58 := fun_mk (st := s_law) l58 c58 k58
  have b58 := F58.binds (ps := ["_law_script"]) fun _ _ _ _ _ _ us hl => match us, hl with | [_], _ => rfl
  let T : Txt K mg := {
    f_BadName__init_ := f_BadName__init_, fd_BadName__init_ := _, F_BadName__init_ := F0, b_BadName__init_ := b0
    f_DuplicateName__init_ := f_DuplicateName__init_, fd_DuplicateName__init_ := _, F_DuplicateName__init_ := F1, b_DuplicateName__init_ := b1
    f_UnknownName__init_ := f_UnknownName__init_, fd_UnknownName__init_ := _, F_UnknownName__init_ := F2, b_UnknownName__init_ := b2
    f_BadCount__init_ := f_BadCount__init_, fd_BadCount__init_ := _, F_BadCount__init_ := F3, b_BadCount__init_ := b3
    f_BadGroup__init_ := f_BadGroup__init_, fd_BadGroup__init_ := _, F_BadGroup__init_ := F4, b_BadGroup__init_ := b4
    f_BadPrime__init_ := f_BadPrime__init_, fd_BadPrime__init_ := _, F_BadPrime__init_ := F5, b_BadPrime__init_ := b5
    f_BadRow__init_ := f_BadRow__init_, fd_BadRow__init_ := _, F_BadRow__init_ := F6, b_BadRow__init_ := b6
    f_valid_name := f_valid_name, fd_valid_name := _, F_valid_name := F7, b_valid_name := b7, g_valid_name := PySem.W.mg_of X G a7
    f_all_groups := f_all_groups, fd_all_groups := _, F_all_groups := F8, b_all_groups := b8, g_all_groups := PySem.W.mg_of X G a8
    f_is_group := f_is_group, fd_is_group := _, F_is_group := F9, b_is_group := b9, g_is_group := PySem.W.mg_of X G a9
    f_contains := f_contains, fd_contains := _, F_contains := F10, b_contains := b10, g_contains := PySem.W.mg_of X G a10
    f_checked_persons := f_checked_persons, fd_checked_persons := _, F_checked_persons := F11, b_checked_persons := b11, g_checked_persons := PySem.W.mg_of X G a11
    f_check_groups := f_check_groups, fd_check_groups := _, F_check_groups := F12, b_check_groups := b12, g_check_groups := PySem.W.mg_of X G a12
    f_least_groups := f_least_groups, fd_least_groups := _, F_least_groups := F13, b_least_groups := b13, g_least_groups := PySem.W.mg_of X G a13
    f_contains_another := f_contains_another, fd_contains_another := _, F_contains_another := F14, b_contains_another := b14, g_contains_another := PySem.W.mg_of X G a14
    f_Family__init_ := f_Family__init_, fd_Family__init_ := _, F_Family__init_ := F15, b_Family__init_ := b15
    f_Family_threshold := f_Family_threshold, fd_Family_threshold := _, F_Family_threshold := F16, b_Family_threshold := b16
    f_Family_persons := f_Family_persons, fd_Family_persons := _, F_Family_persons := F17, b_Family_persons := b17
    f_Family_opens := f_Family_opens, fd_Family_opens := _, F_Family_opens := F18, b_Family_opens := b18
    f_check_prime := f_check_prime, fd_check_prime := _, F_check_prime := F19, b_check_prime := b19, g_check_prime := PySem.W.mg_of X G a19
    f_is_whole := f_is_whole, fd_is_whole := _, F_is_whole := F20, b_is_whole := b20, g_is_whole := PySem.W.mg_of X G a20
    f_is_number := f_is_number, fd_is_number := _, F_is_number := F21, b_is_number := b21, g_is_number := PySem.W.mg_of X G a21
    f_has_numbers := f_has_numbers, fd_has_numbers := _, F_has_numbers := F22, b_has_numbers := b22, g_has_numbers := PySem.W.mg_of X G a22
    f_check_rows := f_check_rows, fd_check_rows := _, F_check_rows := F23, b_check_rows := b23, g_check_rows := PySem.W.mg_of X G a23
    f_check_width := f_check_width, fd_check_width := _, F_check_width := F24, b_check_width := b24, g_check_width := PySem.W.mg_of X G a24
    f_goal_row := f_goal_row, fd_goal_row := _, F_goal_row := F25, b_goal_row := b25, g_goal_row := PySem.W.mg_of X G a25
    f_factors_for := f_factors_for, fd_factors_for := _, F_factors_for := F26, b_factors_for := b26, g_factors_for := PySem.W.mg_of X G a26
    f_solved := f_solved, fd_solved := _, F_solved := F27, b_solved := b27, g_solved := PySem.W.mg_of X G a27
    f_is_unsolvable := f_is_unsolvable, fd_is_unsolvable := _, F_is_unsolvable := F28, b_is_unsolvable := b28, g_is_unsolvable := PySem.W.mg_of X G a28
    f_reduced := f_reduced, fd_reduced := _, F_reduced := F29, b_reduced := b29, g_reduced := PySem.W.mg_of X G a29
    f_less := f_less, fd_less := _, F_less := F30, b_less := b30, g_less := PySem.W.mg_of X G a30
    f_inverse := f_inverse, fd_inverse := _, F_inverse := F31, b_inverse := b31, g_inverse := PySem.W.mg_of X G a31
    f_Scheme__init_ := f_Scheme__init_, fd_Scheme__init_ := _, F_Scheme__init_ := F32, b_Scheme__init_ := b32
    f_Scheme_prime := f_Scheme_prime, fd_Scheme_prime := _, F_Scheme_prime := F33, b_Scheme_prime := b33
    f_Scheme_width := f_Scheme_width, fd_Scheme_width := _, F_Scheme_width := F34, b_Scheme_width := b34
    f_Scheme_persons := f_Scheme_persons, fd_Scheme_persons := _, F_Scheme_persons := F35, b_Scheme_persons := b35
    f_Scheme_rows := f_Scheme_rows, fd_Scheme_rows := _, F_Scheme_rows := F36, b_Scheme_rows := b36
    f_Scheme_opens := f_Scheme_opens, fd_Scheme_opens := _, F_Scheme_opens := F37, b_Scheme_opens := b37
    f_check_rows_of_person := f_check_rows_of_person, fd_check_rows_of_person := _, F_check_rows_of_person := F38, b_check_rows_of_person := b38, g_check_rows_of_person := PySem.W.mg_of X G a38
    f_rows_of_group := f_rows_of_group, fd_rows_of_group := _, F_rows_of_group := F39, b_rows_of_group := b39, g_rows_of_group := PySem.W.mg_of X G a39
    f_goal_factors := f_goal_factors, fd_goal_factors := _, F_goal_factors := F40, b_goal_factors := b40, g_goal_factors := PySem.W.mg_of X G a40
    f_fits := f_fits, fd_fits := _, F_fits := F41, b_fits := b41, g_fits := PySem.W.mg_of X G a41
    f_threshold_scheme := f_threshold_scheme, fd_threshold_scheme := _, F_threshold_scheme := F42, b_threshold_scheme := b42, g_threshold_scheme := PySem.W.mg_of X G a42
    f_powers := f_powers, fd_powers := _, F_powers := F43, b_powers := b43, g_powers := PySem.W.mg_of X G a43
    f_law_start := f_law_start, fd_law_start := _, F_law_start := F44, b_law_start := b44, g_law_start := PySem.W.mg_of X G a44
    f_law_take := f_law_take, fd_law_take := _, F_law_take := F45, b_law_take := b45, g_law_take := PySem.W.mg_of X G a45
    f_law_shuffled := f_law_shuffled, fd_law_shuffled := _, F_law_shuffled := F46, b_law_shuffled := b46, g_law_shuffled := PySem.W.mg_of X G a46
    f_law_persons := f_law_persons, fd_law_persons := _, F_law_persons := F47, b_law_persons := b47, g_law_persons := PySem.W.mg_of X G a47
    f_law_groups := f_law_groups, fd_law_groups := _, F_law_groups := F48, b_law_groups := b48, g_law_groups := PySem.W.mg_of X G a48
    f_law_reduced := f_law_reduced, fd_law_reduced := _, F_law_reduced := F49, b_law_reduced := b49, g_law_reduced := PySem.W.mg_of X G a49
    f_law_minus := f_law_minus, fd_law_minus := _, F_law_minus := F50, b_law_minus := b50, g_law_minus := PySem.W.mg_of X G a50
    f_law_rank := f_law_rank, fd_law_rank := _, F_law_rank := F51, b_law_rank := b51, g_law_rank := PySem.W.mg_of X G a51
    f_law_goal := f_law_goal, fd_law_goal := _, F_law_goal := F52, b_law_goal := b52, g_law_goal := PySem.W.mg_of X G a52
    f_law_spans := f_law_spans, fd_law_spans := _, F_law_spans := F53, b_law_spans := b53, g_law_spans := PySem.W.mg_of X G a53
    f_law_good := f_law_good, fd_law_good := _, F_law_good := F54, b_law_good := b54, g_law_good := PySem.W.mg_of X G a54
    f_law_due := f_law_due, fd_law_due := _, F_law_due := F55, b_law_due := b55, g_law_due := PySem.W.mg_of X G a55
    f_law_told := f_law_told, fd_law_told := _, F_law_told := F56, b_law_told := b56, g_law_told := PySem.W.mg_of X G a56
    f_law_right := f_law_right, fd_law_right := _, F_law_right := F57, b_law_right := b57, g_law_right := PySem.W.mg_of X G a57
    f_law := fa, fd_law := _, F_law := F58, b_law := b58, g_law := PySem.W.mg_of X G a58
    t_LETTERS := t_LETTERS, c_LETTERS := PySem.W.mg_of X G v_LETTERS
    t_DIGITS := t_DIGITS, c_DIGITS := PySem.W.mg_of X G v_DIGITS
    t_LONGEST_NAME := t_LONGEST_NAME, c_LONGEST_NAME := PySem.W.mg_of X G v_LONGEST_NAME
    t_MOST_PERSONS := t_MOST_PERSONS, c_MOST_PERSONS := PySem.W.mg_of X G v_MOST_PERSONS
    t_MOST_WIDTH := t_MOST_WIDTH, c_MOST_WIDTH := PySem.W.mg_of X G v_MOST_WIDTH
    t_MOST_ROWS := t_MOST_ROWS, c_MOST_ROWS := PySem.W.mg_of X G v_MOST_ROWS
    n_set := PySem.W.mg_none_of X G z_set
    n_len := PySem.W.mg_none_of X G z_len
    n_all := PySem.W.mg_none_of X G z_all
    n_any := PySem.W.mg_none_of X G z_any
    n_abs := PySem.W.mg_none_of X G z_abs
    n_list := PySem.W.mg_none_of X G z_list
    n_int := PySem.W.mg_none_of X G z_int
    n_range := PySem.W.mg_none_of X G z_range
    n_isinstance := PySem.W.mg_none_of X G z_isinstance
    n_tuple := PySem.W.mg_none_of X G z_tuple
    n_sorted := PySem.W.mg_none_of X G z_sorted
    n_enumerate := PySem.W.mg_none_of X G z_enumerate
    n_zip := PySem.W.mg_none_of X G z_zip
    n_sum := PySem.W.mg_none_of X G z_sum
    n_max := PySem.W.mg_none_of X G z_max
    n_bool := PySem.W.mg_none_of X G z_bool
    kb_threshold_scheme_prime_many_persons := ⟨fun s us ws _ hl => by
      match us, ws, hl with
      | [], [x0, x1, x2], _ => exact .of_eq rfl
      | [], [], h => exact absurd (show (List.replicate 4 Value.none).length = 3 from h) (by decide)
      | [], [_], h => exact absurd (show (List.replicate 4 Value.none).length = 3 from h) (by decide)
      | [], [_, _], h => exact absurd (show (List.replicate 4 Value.none).length = 3 from h) (by decide)
      | [], _ :: _ :: _ :: _ :: _, h => exact absurd (show (List.replicate 4 Value.none).length = 3 from h) (by decide)
      | _ :: _, _, h => exact absurd (show (List.replicate 4 Value.none).length = 3 from h) (by decide),
    fun h1 t0 => by cases h1 with | nil => (cases t0 with | nil => exact vals_rep _ | cons r0 t1 => (cases t1 with | nil => exact vals_rep _ | cons r1 t2 => (cases t2 with | nil => exact vals_rep _ | cons r2 t3 => (cases t3 with | nil => exact (.cons r2 (.cons r1 (.cons r0 .nil))) | cons _ _ => exact vals_rep _)))) | cons _ _ => exact vals_rep _⟩
    C_BadName := C_BadName, g_BadName := PySem.W.mg_of X G aCBadName, er_BadName := errT_of eCBadName ⟨_, _, _, _, _, _, _, _, _, _, _, _, _, _, _, xCBadName, ve_at _⟩ hn ht
    iC_BadName := iCBadName, tI_BadName := tIBadName, nf_BadName := nfBadName
    ex_BadName_BadName := ex_BadName_BadName
    ex_BadName_DuplicateName := ex_BadName_DuplicateName
    ex_BadName_UnknownName := ex_BadName_UnknownName
    ex_BadName_BadCount := ex_BadName_BadCount
    ex_BadName_BadGroup := ex_BadName_BadGroup
    ex_BadName_BadPrime := ex_BadName_BadPrime
    ex_BadName_BadRow := ex_BadName_BadRow
    ex_BadName_NoGroup := ex_BadName_NoGroup
    C_DuplicateName := C_DuplicateName, g_DuplicateName := PySem.W.mg_of X G aCDuplicateName, er_DuplicateName := errT_of eCDuplicateName ⟨_, _, _, _, _, _, _, _, _, _, _, _, _, _, _, xCDuplicateName, ve_at _⟩ hn ht
    iC_DuplicateName := iCDuplicateName, tI_DuplicateName := tIDuplicateName, nf_DuplicateName := nfDuplicateName
    ex_DuplicateName_BadName := ex_DuplicateName_BadName
    ex_DuplicateName_DuplicateName := ex_DuplicateName_DuplicateName
    ex_DuplicateName_UnknownName := ex_DuplicateName_UnknownName
    ex_DuplicateName_BadCount := ex_DuplicateName_BadCount
    ex_DuplicateName_BadGroup := ex_DuplicateName_BadGroup
    ex_DuplicateName_BadPrime := ex_DuplicateName_BadPrime
    ex_DuplicateName_BadRow := ex_DuplicateName_BadRow
    ex_DuplicateName_NoGroup := ex_DuplicateName_NoGroup
    C_UnknownName := C_UnknownName, g_UnknownName := PySem.W.mg_of X G aCUnknownName, er_UnknownName := errT_of eCUnknownName ⟨_, _, _, _, _, _, _, _, _, _, _, _, _, _, _, xCUnknownName, ve_at _⟩ hn ht
    iC_UnknownName := iCUnknownName, tI_UnknownName := tIUnknownName, nf_UnknownName := nfUnknownName
    ex_UnknownName_BadName := ex_UnknownName_BadName
    ex_UnknownName_DuplicateName := ex_UnknownName_DuplicateName
    ex_UnknownName_UnknownName := ex_UnknownName_UnknownName
    ex_UnknownName_BadCount := ex_UnknownName_BadCount
    ex_UnknownName_BadGroup := ex_UnknownName_BadGroup
    ex_UnknownName_BadPrime := ex_UnknownName_BadPrime
    ex_UnknownName_BadRow := ex_UnknownName_BadRow
    ex_UnknownName_NoGroup := ex_UnknownName_NoGroup
    C_BadCount := C_BadCount, g_BadCount := PySem.W.mg_of X G aCBadCount, er_BadCount := errT_of eCBadCount ⟨_, _, _, _, _, _, _, _, _, _, _, _, _, _, _, xCBadCount, ve_at _⟩ hn ht
    iC_BadCount := iCBadCount, tI_BadCount := tIBadCount, nf_BadCount := nfBadCount
    ex_BadCount_BadName := ex_BadCount_BadName
    ex_BadCount_DuplicateName := ex_BadCount_DuplicateName
    ex_BadCount_UnknownName := ex_BadCount_UnknownName
    ex_BadCount_BadCount := ex_BadCount_BadCount
    ex_BadCount_BadGroup := ex_BadCount_BadGroup
    ex_BadCount_BadPrime := ex_BadCount_BadPrime
    ex_BadCount_BadRow := ex_BadCount_BadRow
    ex_BadCount_NoGroup := ex_BadCount_NoGroup
    C_BadGroup := C_BadGroup, g_BadGroup := PySem.W.mg_of X G aCBadGroup, er_BadGroup := errT_of eCBadGroup ⟨_, _, _, _, _, _, _, _, _, _, _, _, _, _, _, xCBadGroup, ve_at _⟩ hn ht
    iC_BadGroup := iCBadGroup, tI_BadGroup := tIBadGroup, nf_BadGroup := nfBadGroup
    ex_BadGroup_BadName := ex_BadGroup_BadName
    ex_BadGroup_DuplicateName := ex_BadGroup_DuplicateName
    ex_BadGroup_UnknownName := ex_BadGroup_UnknownName
    ex_BadGroup_BadCount := ex_BadGroup_BadCount
    ex_BadGroup_BadGroup := ex_BadGroup_BadGroup
    ex_BadGroup_BadPrime := ex_BadGroup_BadPrime
    ex_BadGroup_BadRow := ex_BadGroup_BadRow
    ex_BadGroup_NoGroup := ex_BadGroup_NoGroup
    C_BadPrime := C_BadPrime, g_BadPrime := PySem.W.mg_of X G aCBadPrime, er_BadPrime := errT_of eCBadPrime ⟨_, _, _, _, _, _, _, _, _, _, _, _, _, _, _, xCBadPrime, ve_at _⟩ hn ht
    iC_BadPrime := iCBadPrime, tI_BadPrime := tIBadPrime, nf_BadPrime := nfBadPrime
    ex_BadPrime_BadName := ex_BadPrime_BadName
    ex_BadPrime_DuplicateName := ex_BadPrime_DuplicateName
    ex_BadPrime_UnknownName := ex_BadPrime_UnknownName
    ex_BadPrime_BadCount := ex_BadPrime_BadCount
    ex_BadPrime_BadGroup := ex_BadPrime_BadGroup
    ex_BadPrime_BadPrime := ex_BadPrime_BadPrime
    ex_BadPrime_BadRow := ex_BadPrime_BadRow
    ex_BadPrime_NoGroup := ex_BadPrime_NoGroup
    C_BadRow := C_BadRow, g_BadRow := PySem.W.mg_of X G aCBadRow, er_BadRow := errT_of eCBadRow ⟨_, _, _, _, _, _, _, _, _, _, _, _, _, _, _, xCBadRow, ve_at _⟩ hn ht
    iC_BadRow := iCBadRow, tI_BadRow := tIBadRow, nf_BadRow := nfBadRow
    ex_BadRow_BadName := ex_BadRow_BadName
    ex_BadRow_DuplicateName := ex_BadRow_DuplicateName
    ex_BadRow_UnknownName := ex_BadRow_UnknownName
    ex_BadRow_BadCount := ex_BadRow_BadCount
    ex_BadRow_BadGroup := ex_BadRow_BadGroup
    ex_BadRow_BadPrime := ex_BadRow_BadPrime
    ex_BadRow_BadRow := ex_BadRow_BadRow
    ex_BadRow_NoGroup := ex_BadRow_NoGroup
    C_NoGroup := C_NoGroup, g_NoGroup := PySem.W.mg_of X G aCNoGroup, er_NoGroup := errT_of eCNoGroup ⟨_, _, _, _, _, _, _, _, _, _, _, _, _, _, _, xCNoGroup, ve_at _⟩ hn ht
    q_NoGroup := qCNoGroup, k_NoGroup := kCNoGroup
    ex_NoGroup_BadName := ex_NoGroup_BadName
    ex_NoGroup_DuplicateName := ex_NoGroup_DuplicateName
    ex_NoGroup_UnknownName := ex_NoGroup_UnknownName
    ex_NoGroup_BadCount := ex_NoGroup_BadCount
    ex_NoGroup_BadGroup := ex_NoGroup_BadGroup
    ex_NoGroup_BadPrime := ex_NoGroup_BadPrime
    ex_NoGroup_BadRow := ex_NoGroup_BadRow
    ex_NoGroup_NoGroup := ex_NoGroup_NoGroup
    C_Family := C_Family, g_Family := PySem.W.mg_of X G aClFamily, cl_Family := ⟨pgFamily, hdFamily, poFamily, saFamily⟩, mk_Family := ⟨mk1Family, mk2Family, mk3Family, mk4Family⟩
    C_Scheme := C_Scheme, g_Scheme := PySem.W.mg_of X G aClScheme, cl_Scheme := ⟨pgScheme, hdScheme, poScheme, saScheme⟩, mk_Scheme := ⟨mk1Scheme, mk2Scheme, mk3Scheme, mk4Scheme⟩
    na_prime := na_prime
    na_width := na_width
    na_persons_Family := na_persons_Family
    na_persons_Scheme := na_persons_Scheme
    na_rows := na_rows
    na_groups := na_groups
    na_needed := na_needed
    p_prime := p_prime, pp_prime := ⟨pa_prime, pb_prime, pc_prime, _, pd_prime⟩
    p_width := p_width, pp_width := ⟨pa_width, pb_width, pc_width, _, pd_width⟩
    p_persons_Family := p_persons_Family, pp_persons_Family := ⟨pa_persons_Family, pb_persons_Family, pc_persons_Family, _, pd_persons_Family⟩
    p_persons_Scheme := p_persons_Scheme, pp_persons_Scheme := ⟨pa_persons_Scheme, pb_persons_Scheme, pc_persons_Scheme, _, pd_persons_Scheme⟩
    me_rows := ⟨moa_rows, mob_rows, moc_rows⟩
    me_opens_Family := ⟨moa_opens_Family, mob_opens_Family, moc_opens_Family⟩
    me_opens_Scheme := ⟨moa_opens_Scheme, mob_opens_Scheme, moc_opens_Scheme⟩
    mc_Family := .type "type", cr_Family := ⟨cr1_Family, cr2_Family⟩
    p_threshold := p_threshold, cm_threshold := ⟨cma_threshold, ⟨_, cmb_threshold⟩, cmc_threshold⟩
    fc_Scheme := fca_Scheme, mro_Scheme := mroa_Scheme, ki_Scheme := kia_Scheme
    sp_cls := hn, tk_cls := ht
    a_PRIMES := a_PRIMES, g_PRIMES := PySem.W.mg_of X G v_PRIMES, t_PRIMES := fun H => .inr ⟨_, _, _, l_PRIMES, rfl, rfl, s_PRIMES.1, s_PRIMES.2⟩
  }
  exact ⟨PySem.W.fnOf "law" "law" (defArgs s_law) (defBody s_law) (defScope s_law) .none kV58 dc58 pm58 an58 cd58 ct58, fun s v => .of_eq rfl, fun base _ _ => ok_law T⟩
end P
open PySem PySem.W PyProof.Rows
set_option maxRecDepth 100000 in
set_option maxHeartbeats 0 in
theorem PySem.Challenge.cw_openshares_k41_threshold_schemes_holds : PySem.Challenge.rw_openshares_k41_threshold_schemes.Holds := by
  w_on; o_law; k_head; (case hw => w_witness2)
  k_fill
  refine L2.walk_of (l := PySem.Challenge.rw_openshares_k41_threshold_schemes) (n := 63) (k := 10) (x := "_law_script") (CX := fun _ => L2.CX0) (sp := fun w => P.spLaw _) rfl (by decide) rfl ⟨rfl, by decide, by decide⟩ (fun w h Y => PySem.W.kIn_of Y) ?F (fun _ _ a ns hl _ hS => ⟨a, ns, rfl, hS, hl, fun _ => rfl⟩) (fun _ _ _ _ _ h => h)
  case F =>
    intro w mg fa h KX G hmg
    refine' P.all_mk KX G hmg ?aCBadName ?xCBadName ?eCBadName ?iCBadName ?tIBadName ?nfBadName ?aCDuplicateName ?xCDuplicateName ?eCDuplicateName ?iCDuplicateName ?tIDuplicateName ?nfDuplicateName ?aCUnknownName ?xCUnknownName ?eCUnknownName ?iCUnknownName ?tIUnknownName ?nfUnknownName ?aCBadCount ?xCBadCount ?eCBadCount ?iCBadCount ?tIBadCount ?nfBadCount ?aCBadGroup ?xCBadGroup ?eCBadGroup ?iCBadGroup ?tIBadGroup ?nfBadGroup ?aCBadPrime ?xCBadPrime ?eCBadPrime ?iCBadPrime ?tIBadPrime ?nfBadPrime ?aCBadRow ?xCBadRow ?eCBadRow ?iCBadRow ?tIBadRow ?nfBadRow ?aCNoGroup ?xCNoGroup ?eCNoGroup ?qCNoGroup ?kCNoGroup ?ex_BadName_BadName ?ex_BadName_DuplicateName ?ex_BadName_UnknownName ?ex_BadName_BadCount ?ex_BadName_BadGroup ?ex_BadName_BadPrime ?ex_BadName_BadRow ?ex_BadName_NoGroup ?ex_DuplicateName_BadName ?ex_DuplicateName_DuplicateName ?ex_DuplicateName_UnknownName ?ex_DuplicateName_BadCount ?ex_DuplicateName_BadGroup ?ex_DuplicateName_BadPrime ?ex_DuplicateName_BadRow ?ex_DuplicateName_NoGroup ?ex_UnknownName_BadName ?ex_UnknownName_DuplicateName ?ex_UnknownName_UnknownName ?ex_UnknownName_BadCount ?ex_UnknownName_BadGroup ?ex_UnknownName_BadPrime ?ex_UnknownName_BadRow ?ex_UnknownName_NoGroup ?ex_BadCount_BadName ?ex_BadCount_DuplicateName ?ex_BadCount_UnknownName ?ex_BadCount_BadCount ?ex_BadCount_BadGroup ?ex_BadCount_BadPrime ?ex_BadCount_BadRow ?ex_BadCount_NoGroup ?ex_BadGroup_BadName ?ex_BadGroup_DuplicateName ?ex_BadGroup_UnknownName ?ex_BadGroup_BadCount ?ex_BadGroup_BadGroup ?ex_BadGroup_BadPrime ?ex_BadGroup_BadRow ?ex_BadGroup_NoGroup ?ex_BadPrime_BadName ?ex_BadPrime_DuplicateName ?ex_BadPrime_UnknownName ?ex_BadPrime_BadCount ?ex_BadPrime_BadGroup ?ex_BadPrime_BadPrime ?ex_BadPrime_BadRow ?ex_BadPrime_NoGroup ?ex_BadRow_BadName ?ex_BadRow_DuplicateName ?ex_BadRow_UnknownName ?ex_BadRow_BadCount ?ex_BadRow_BadGroup ?ex_BadRow_BadPrime ?ex_BadRow_BadRow ?ex_BadRow_NoGroup ?ex_NoGroup_BadName ?ex_NoGroup_DuplicateName ?ex_NoGroup_UnknownName ?ex_NoGroup_BadCount ?ex_NoGroup_BadGroup ?ex_NoGroup_BadPrime ?ex_NoGroup_BadRow ?ex_NoGroup_NoGroup ?hn ?ht ?aClFamily ?pgFamily ?hdFamily ?poFamily ?saFamily ?mk1Family ?mk2Family ?mk3Family ?mk4Family ?aClScheme ?pgScheme ?hdScheme ?poScheme ?saScheme ?mk1Scheme ?mk2Scheme ?mk3Scheme ?mk4Scheme ?na_prime ?na_width ?na_persons_Family ?na_persons_Scheme ?na_rows ?na_groups ?na_needed ?pa_prime ?pb_prime ?pc_prime ?pd_prime ?pa_width ?pb_width ?pc_width ?pd_width ?pa_persons_Family ?pb_persons_Family ?pc_persons_Family ?pd_persons_Family ?pa_persons_Scheme ?pb_persons_Scheme ?pc_persons_Scheme ?pd_persons_Scheme ?moa_rows ?mob_rows ?moc_rows ?moa_opens_Family ?mob_opens_Family ?moc_opens_Family ?moa_opens_Scheme ?mob_opens_Scheme ?moc_opens_Scheme ?cr1_Family ?cr2_Family ?cma_threshold ?cmb_threshold ?cmc_threshold ?fca_Scheme ?mroa_Scheme ?kia_Scheme ?v_PRIMES ?l_PRIMES ?s_PRIMES ?l0 ?c0 ?k0 ?l1 ?c1 ?k1 ?l2 ?c2 ?k2 ?l3 ?c3 ?k3 ?l4 ?c4 ?k4 ?l5 ?c5 ?k5 ?l6 ?c6 ?k6 ?a7 ?l7 ?c7 ?k7 ?a8 ?l8 ?c8 ?k8 ?a9 ?l9 ?c9 ?k9 ?a10 ?l10 ?c10 ?k10 ?a11 ?l11 ?c11 ?k11 ?a12 ?l12 ?c12 ?k12 ?a13 ?l13 ?c13 ?k13 ?a14 ?l14 ?c14 ?k14 ?l15 ?c15 ?k15 ?l16 ?c16 ?k16 ?l17 ?c17 ?k17 ?l18 ?c18 ?k18 ?a19 ?l19 ?c19 ?k19 ?a20 ?l20 ?c20 ?k20 ?a21 ?l21 ?c21 ?k21 ?a22 ?l22 ?c22 ?k22 ?a23 ?l23 ?c23 ?k23 ?a24 ?l24 ?c24 ?k24 ?a25 ?l25 ?c25 ?k25 ?a26 ?l26 ?c26 ?k26 ?a27 ?l27 ?c27 ?k27 ?a28 ?l28 ?c28 ?k28 ?a29 ?l29 ?c29 ?k29 ?a30 ?l30 ?c30 ?k30 ?a31 ?l31 ?c31 ?k31 ?l32 ?c32 ?k32 ?l33 ?c33 ?k33 ?l34 ?c34 ?k34 ?l35 ?c35 ?k35 ?l36 ?c36 ?k36 ?l37 ?c37 ?k37 ?a38 ?l38 ?c38 ?k38 ?a39 ?l39 ?c39 ?k39 ?a40 ?l40 ?c40 ?k40 ?a41 ?l41 ?c41 ?k41 ?a42 ?l42 ?c42 ?k42 ?a43 ?l43 ?c43 ?k43 ?a44 ?l44 ?c44 ?k44 ?a45 ?l45 ?c45 ?k45 ?a46 ?l46 ?c46 ?k46 ?a47 ?l47 ?c47 ?k47 ?a48 ?l48 ?c48 ?k48 ?a49 ?l49 ?c49 ?k49 ?a50 ?l50 ?c50 ?k50 ?a51 ?l51 ?c51 ?k51 ?a52 ?l52 ?c52 ?k52 ?a53 ?l53 ?c53 ?k53 ?a54 ?l54 ?c54 ?k54 ?a55 ?l55 ?c55 ?k55 ?a56 ?l56 ?c56 ?k56 ?a57 ?l57 ?c57 ?k57 ?a58 ?l58 ?c58 ?k58 ?v_LETTERS ?v_DIGITS ?v_LONGEST_NAME ?v_MOST_PERSONS ?v_MOST_WIDTH ?v_MOST_ROWS ?z_set ?z_len ?z_all ?z_any ?z_abs ?z_list ?z_int ?z_range ?z_isinstance ?z_tuple ?z_sorted ?z_enumerate ?z_zip ?z_sum ?z_max ?z_bool
    (case aCBadName => k_is)
    (case xCBadName => k_is)
    (case eCBadName => kernel_rfl)
    (case iCBadName => k_is)
    (case tIBadName => k_is)
    (case nfBadName => k_is)
    (case aCDuplicateName => k_is)
    (case xCDuplicateName => k_is)
    (case eCDuplicateName => kernel_rfl)
    (case iCDuplicateName => k_is)
    (case tIDuplicateName => k_is)
    (case nfDuplicateName => k_is)
    (case aCUnknownName => k_is)
    (case xCUnknownName => k_is)
    (case eCUnknownName => kernel_rfl)
    (case iCUnknownName => k_is)
    (case tIUnknownName => k_is)
    (case nfUnknownName => k_is)
    (case aCBadCount => k_is)
    (case xCBadCount => k_is)
    (case eCBadCount => kernel_rfl)
    (case iCBadCount => k_is)
    (case tIBadCount => k_is)
    (case nfBadCount => k_is)
    (case aCBadGroup => k_is)
    (case xCBadGroup => k_is)
    (case eCBadGroup => kernel_rfl)
    (case iCBadGroup => k_is)
    (case tIBadGroup => k_is)
    (case nfBadGroup => k_is)
    (case aCBadPrime => k_is)
    (case xCBadPrime => k_is)
    (case eCBadPrime => kernel_rfl)
    (case iCBadPrime => k_is)
    (case tIBadPrime => k_is)
    (case nfBadPrime => k_is)
    (case aCBadRow => k_is)
    (case xCBadRow => k_is)
    (case eCBadRow => kernel_rfl)
    (case iCBadRow => k_is)
    (case tIBadRow => k_is)
    (case nfBadRow => k_is)
    (case aCNoGroup => k_is)
    (case xCNoGroup => k_is)
    (case eCNoGroup => kernel_rfl)
    (case qCNoGroup => k_exc)
    (case kCNoGroup => k_is)
    (case ex_BadName_BadName => kernel_rfl)
    (case ex_BadName_DuplicateName => kernel_rfl)
    (case ex_BadName_UnknownName => kernel_rfl)
    (case ex_BadName_BadCount => kernel_rfl)
    (case ex_BadName_BadGroup => kernel_rfl)
    (case ex_BadName_BadPrime => kernel_rfl)
    (case ex_BadName_BadRow => kernel_rfl)
    (case ex_BadName_NoGroup => kernel_rfl)
    (case ex_DuplicateName_BadName => kernel_rfl)
    (case ex_DuplicateName_DuplicateName => kernel_rfl)
    (case ex_DuplicateName_UnknownName => kernel_rfl)
    (case ex_DuplicateName_BadCount => kernel_rfl)
    (case ex_DuplicateName_BadGroup => kernel_rfl)
    (case ex_DuplicateName_BadPrime => kernel_rfl)
    (case ex_DuplicateName_BadRow => kernel_rfl)
    (case ex_DuplicateName_NoGroup => kernel_rfl)
    (case ex_UnknownName_BadName => kernel_rfl)
    (case ex_UnknownName_DuplicateName => kernel_rfl)
    (case ex_UnknownName_UnknownName => kernel_rfl)
    (case ex_UnknownName_BadCount => kernel_rfl)
    (case ex_UnknownName_BadGroup => kernel_rfl)
    (case ex_UnknownName_BadPrime => kernel_rfl)
    (case ex_UnknownName_BadRow => kernel_rfl)
    (case ex_UnknownName_NoGroup => kernel_rfl)
    (case ex_BadCount_BadName => kernel_rfl)
    (case ex_BadCount_DuplicateName => kernel_rfl)
    (case ex_BadCount_UnknownName => kernel_rfl)
    (case ex_BadCount_BadCount => kernel_rfl)
    (case ex_BadCount_BadGroup => kernel_rfl)
    (case ex_BadCount_BadPrime => kernel_rfl)
    (case ex_BadCount_BadRow => kernel_rfl)
    (case ex_BadCount_NoGroup => kernel_rfl)
    (case ex_BadGroup_BadName => kernel_rfl)
    (case ex_BadGroup_DuplicateName => kernel_rfl)
    (case ex_BadGroup_UnknownName => kernel_rfl)
    (case ex_BadGroup_BadCount => kernel_rfl)
    (case ex_BadGroup_BadGroup => kernel_rfl)
    (case ex_BadGroup_BadPrime => kernel_rfl)
    (case ex_BadGroup_BadRow => kernel_rfl)
    (case ex_BadGroup_NoGroup => kernel_rfl)
    (case ex_BadPrime_BadName => kernel_rfl)
    (case ex_BadPrime_DuplicateName => kernel_rfl)
    (case ex_BadPrime_UnknownName => kernel_rfl)
    (case ex_BadPrime_BadCount => kernel_rfl)
    (case ex_BadPrime_BadGroup => kernel_rfl)
    (case ex_BadPrime_BadPrime => kernel_rfl)
    (case ex_BadPrime_BadRow => kernel_rfl)
    (case ex_BadPrime_NoGroup => kernel_rfl)
    (case ex_BadRow_BadName => kernel_rfl)
    (case ex_BadRow_DuplicateName => kernel_rfl)
    (case ex_BadRow_UnknownName => kernel_rfl)
    (case ex_BadRow_BadCount => kernel_rfl)
    (case ex_BadRow_BadGroup => kernel_rfl)
    (case ex_BadRow_BadPrime => kernel_rfl)
    (case ex_BadRow_BadRow => kernel_rfl)
    (case ex_BadRow_NoGroup => kernel_rfl)
    (case ex_NoGroup_BadName => kernel_rfl)
    (case ex_NoGroup_DuplicateName => kernel_rfl)
    (case ex_NoGroup_UnknownName => kernel_rfl)
    (case ex_NoGroup_BadCount => kernel_rfl)
    (case ex_NoGroup_BadGroup => kernel_rfl)
    (case ex_NoGroup_BadPrime => kernel_rfl)
    (case ex_NoGroup_BadRow => kernel_rfl)
    (case ex_NoGroup_NoGroup => kernel_rfl)
    (case hn => k_is)
    (case ht => k_is)
    (case aClFamily => k_is)
    (case pgFamily => k_is)
    (case hdFamily => k_is)
    (case poFamily => k_is)
    (case saFamily => k_is)
    (case mk1Family => k_is)
    (case mk2Family => k_is)
    (case mk3Family => k_is)
    (case mk4Family => k_is)
    (case aClScheme => k_is)
    (case pgScheme => k_is)
    (case hdScheme => k_is)
    (case poScheme => k_is)
    (case saScheme => k_is)
    (case mk1Scheme => k_is)
    (case mk2Scheme => k_is)
    (case mk3Scheme => k_is)
    (case mk4Scheme => k_is)
    (case na_prime => k_is)
    (case na_width => k_is)
    (case na_persons_Family => k_is)
    (case na_persons_Scheme => k_is)
    (case na_rows => k_is)
    (case na_groups => k_is)
    (case na_needed => k_is)
    (case pa_prime => k_is)
    (case pb_prime => k_is)
    (case pc_prime => k_is)
    (case pd_prime => k_is)
    (case pa_width => k_is)
    (case pb_width => k_is)
    (case pc_width => k_is)
    (case pd_width => k_is)
    (case pa_persons_Family => k_is)
    (case pb_persons_Family => k_is)
    (case pc_persons_Family => k_is)
    (case pd_persons_Family => k_is)
    (case pa_persons_Scheme => k_is)
    (case pb_persons_Scheme => k_is)
    (case pc_persons_Scheme => k_is)
    (case pd_persons_Scheme => k_is)
    (case moa_rows => k_is)
    (case mob_rows => k_is)
    (case moc_rows => k_is)
    (case moa_opens_Family => k_is)
    (case mob_opens_Family => k_is)
    (case moc_opens_Family => k_is)
    (case moa_opens_Scheme => k_is)
    (case mob_opens_Scheme => k_is)
    (case moc_opens_Scheme => k_is)
    (case cr1_Family => k_is)
    (case cr2_Family => k_is)
    (case cma_threshold => k_is)
    (case cmb_threshold => k_is)
    (case cmc_threshold => k_is)
    (case fca_Scheme => k_is)
    (case mroa_Scheme => k_is)
    (case kia_Scheme => kernel_rfl)
    (case v_PRIMES => k_is)
    (case l_PRIMES => k_is)
    (case s_PRIMES => exact ⟨by decide, (.cons ⟨_, rfl⟩ (.cons ⟨_, rfl⟩ (.cons ⟨_, rfl⟩ (.cons ⟨_, rfl⟩ (.cons ⟨_, rfl⟩ .nil)))))⟩)
    (case l0 => k_is)
    (case c0 => k_is)
    (case k0 => k_is)
    (case l1 => k_is)
    (case c1 => k_is)
    (case k1 => k_is)
    (case l2 => k_is)
    (case c2 => k_is)
    (case k2 => k_is)
    (case l3 => k_is)
    (case c3 => k_is)
    (case k3 => k_is)
    (case l4 => k_is)
    (case c4 => k_is)
    (case k4 => k_is)
    (case l5 => k_is)
    (case c5 => k_is)
    (case k5 => k_is)
    (case l6 => k_is)
    (case c6 => k_is)
    (case k6 => k_is)
    (case a7 => k_is)
    (case l7 => k_is)
    (case c7 => k_is)
    (case k7 => k_is)
    (case a8 => k_is)
    (case l8 => k_is)
    (case c8 => k_is)
    (case k8 => k_is)
    (case a9 => k_is)
    (case l9 => k_is)
    (case c9 => k_is)
    (case k9 => k_is)
    (case a10 => k_is)
    (case l10 => k_is)
    (case c10 => k_is)
    (case k10 => k_is)
    (case a11 => k_is)
    (case l11 => k_is)
    (case c11 => k_is)
    (case k11 => k_is)
    (case a12 => k_is)
    (case l12 => k_is)
    (case c12 => k_is)
    (case k12 => k_is)
    (case a13 => k_is)
    (case l13 => k_is)
    (case c13 => k_is)
    (case k13 => k_is)
    (case a14 => k_is)
    (case l14 => k_is)
    (case c14 => k_is)
    (case k14 => k_is)
    (case l15 => k_is)
    (case c15 => k_is)
    (case k15 => k_is)
    (case l16 => k_is)
    (case c16 => k_is)
    (case k16 => k_is)
    (case l17 => k_is)
    (case c17 => k_is)
    (case k17 => k_is)
    (case l18 => k_is)
    (case c18 => k_is)
    (case k18 => k_is)
    (case a19 => k_is)
    (case l19 => k_is)
    (case c19 => k_is)
    (case k19 => k_is)
    (case a20 => k_is)
    (case l20 => k_is)
    (case c20 => k_is)
    (case k20 => k_is)
    (case a21 => k_is)
    (case l21 => k_is)
    (case c21 => k_is)
    (case k21 => k_is)
    (case a22 => k_is)
    (case l22 => k_is)
    (case c22 => k_is)
    (case k22 => k_is)
    (case a23 => k_is)
    (case l23 => k_is)
    (case c23 => k_is)
    (case k23 => k_is)
    (case a24 => k_is)
    (case l24 => k_is)
    (case c24 => k_is)
    (case k24 => k_is)
    (case a25 => k_is)
    (case l25 => k_is)
    (case c25 => k_is)
    (case k25 => k_is)
    (case a26 => k_is)
    (case l26 => k_is)
    (case c26 => k_is)
    (case k26 => k_is)
    (case a27 => k_is)
    (case l27 => k_is)
    (case c27 => k_is)
    (case k27 => k_is)
    (case a28 => k_is)
    (case l28 => k_is)
    (case c28 => k_is)
    (case k28 => k_is)
    (case a29 => k_is)
    (case l29 => k_is)
    (case c29 => k_is)
    (case k29 => k_is)
    (case a30 => k_is)
    (case l30 => k_is)
    (case c30 => k_is)
    (case k30 => k_is)
    (case a31 => k_is)
    (case l31 => k_is)
    (case c31 => k_is)
    (case k31 => k_is)
    (case l32 => k_is)
    (case c32 => k_is)
    (case k32 => k_is)
    (case l33 => k_is)
    (case c33 => k_is)
    (case k33 => k_is)
    (case l34 => k_is)
    (case c34 => k_is)
    (case k34 => k_is)
    (case l35 => k_is)
    (case c35 => k_is)
    (case k35 => k_is)
    (case l36 => k_is)
    (case c36 => k_is)
    (case k36 => k_is)
    (case l37 => k_is)
    (case c37 => k_is)
    (case k37 => k_is)
    (case a38 => k_is)
    (case l38 => k_is)
    (case c38 => k_is)
    (case k38 => k_is)
    (case a39 => k_is)
    (case l39 => k_is)
    (case c39 => k_is)
    (case k39 => k_is)
    (case a40 => k_is)
    (case l40 => k_is)
    (case c40 => k_is)
    (case k40 => k_is)
    (case a41 => k_is)
    (case l41 => k_is)
    (case c41 => k_is)
    (case k41 => k_is)
    (case a42 => k_is)
    (case l42 => k_is)
    (case c42 => k_is)
    (case k42 => k_is)
    (case a43 => k_is)
    (case l43 => k_is)
    (case c43 => k_is)
    (case k43 => k_is)
    (case a44 => k_is)
    (case l44 => k_is)
    (case c44 => k_is)
    (case k44 => k_is)
    (case a45 => k_is)
    (case l45 => k_is)
    (case c45 => k_is)
    (case k45 => k_is)
    (case a46 => k_is)
    (case l46 => k_is)
    (case c46 => k_is)
    (case k46 => k_is)
    (case a47 => k_is)
    (case l47 => k_is)
    (case c47 => k_is)
    (case k47 => k_is)
    (case a48 => k_is)
    (case l48 => k_is)
    (case c48 => k_is)
    (case k48 => k_is)
    (case a49 => k_is)
    (case l49 => k_is)
    (case c49 => k_is)
    (case k49 => k_is)
    (case a50 => k_is)
    (case l50 => k_is)
    (case c50 => k_is)
    (case k50 => k_is)
    (case a51 => k_is)
    (case l51 => k_is)
    (case c51 => k_is)
    (case k51 => k_is)
    (case a52 => k_is)
    (case l52 => k_is)
    (case c52 => k_is)
    (case k52 => k_is)
    (case a53 => k_is)
    (case l53 => k_is)
    (case c53 => k_is)
    (case k53 => k_is)
    (case a54 => k_is)
    (case l54 => k_is)
    (case c54 => k_is)
    (case k54 => k_is)
    (case a55 => k_is)
    (case l55 => k_is)
    (case c55 => k_is)
    (case k55 => k_is)
    (case a56 => k_is)
    (case l56 => k_is)
    (case c56 => k_is)
    (case k56 => k_is)
    (case a57 => k_is)
    (case l57 => k_is)
    (case c57 => k_is)
    (case k57 => k_is)
    (case a58 => k_is)
    (case l58 => k_is)
    (case c58 => k_is)
    (case k58 => k_is)
    (case v_LETTERS => k_is)
    (case v_DIGITS => k_is)
    (case v_LONGEST_NAME => k_is)
    (case v_MOST_PERSONS => k_is)
    (case v_MOST_WIDTH => k_is)
    (case v_MOST_ROWS => k_is)
    (case z_set => k_is)
    (case z_len => k_is)
    (case z_all => k_is)
    (case z_any => k_is)
    (case z_abs => k_is)
    (case z_list => k_is)
    (case z_int => k_is)
    (case z_range => k_is)
    (case z_isinstance => k_is)
    (case z_tuple => k_is)
    (case z_sorted => k_is)
    (case z_enumerate => k_is)
    (case z_zip => k_is)
    (case z_sum => k_is)
    (case z_max => k_is)
    (case z_bool => k_is)
#print axioms PySem.Challenge.cw_openshares_k41_threshold_schemes_holds
