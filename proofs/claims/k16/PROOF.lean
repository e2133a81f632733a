import PyProof.Rows.All
import Wide.All
import OpenK.AllK
import Wide.FinOn
import HandS.ForMost
import HandS.Walk
import HandS.Wide
import HandS.Deep
import HandS.TupAny
import HandS.Style
import HandS.IsInst
import HandS.Flow
import KE.KRevSl
import HandS.ForExc
import HandS.ExcInit
import HandS.ExcField
import HandS.ExcIs
import HandS.ExcValue
import HandS.DeepEq
import KE.KExcIs
import KE.SortKeyHeap
import HandS.SortKw
import PyProof.FactsAll.dict
import PyProof.FactsAll.subtypes
import KE.DataEq
import HandS.TryMany
import HandS.Iter
import KE.GoesEnum
import HandS.ExcOwn
import HandS.ClsMeth
import HandS.Property
import HandS.OwnEq
import HandS.MakeKwOnly
import HandS.CallLocal
import HandS.FStr
import KE.KCallOwn
import KE.KFmtOwn
import PyProof.InstEq
import HandS.Star
import HandS.Zip
import HandS.DictComp
import HandS.Finally
import HandS.More
import KE.KEqNest
import HandS.TupMul
import PySem.Challenge.RW_openshares_k16_whole_factors_or_blind_ro
set_option linter.all false
set_option maxHeartbeats 1000000
/-! linear algebra modulo p, over rows as functions of the place -/
namespace LA
abbrev Vec := Nat → Int
/-- c1 v1 + c2 v2 + .. at the place j -/
def lin : List Int → List Vec → Nat → Int
  | c :: cs, v :: vs, j => c * v j + lin cs vs j
  | _, _, _ => 0
theorem lin_nil_left (vs : List Vec) (j : Nat) : lin [] vs j = 0 := by cases vs <;> rfl
theorem lin_nil_right (cs : List Int) (j : Nat) : lin cs [] j = 0 := by cases cs <;> rfl
theorem lin_append : ∀ {c1 : List Int} {v1 : List Vec} (c2 : List Int) (v2 : List Vec) (j : Nat), c1.length = v1.length → lin (c1 ++ c2) (v1 ++ v2) j = lin c1 v1 j + lin c2 v2 j
  | [], [], c2, v2, j, _ => by simp [lin]
  | [], _ :: _, _, _, _, h => by simp at h
  | _ :: _, [], _, _, _, h => by simp at h
  | c :: cs, v :: vs, c2, v2, j, h => by
    show c * v j + lin (cs ++ c2) (vs ++ v2) j = (c * v j + lin cs vs j) + lin c2 v2 j
    rw [lin_append c2 v2 j (by simpa using h)]
    omega
theorem lin_zero : ∀ (n : Nat) (vs : List Vec) (j : Nat), lin (List.replicate n 0) vs j = 0
  | 0, vs, j => lin_nil_left vs j
  | n + 1, [], j => rfl
  | n + 1, v :: vs, j => by
    show 0 * v j + lin (List.replicate n 0) vs j = 0
    rw [lin_zero n vs j]
    omega
theorem lin_add : ∀ {a b : List Int} {vs : List Vec} (j : Nat), a.length = b.length → lin (List.zipWith (· + ·) a b) vs j = lin a vs j + lin b vs j
  | [], [], vs, j, _ => by simp [lin_nil_left]
  | [], _ :: _, _, _, h => by simp at h
  | _ :: _, [], _, _, h => by simp at h
  | a :: as, b :: bs, [], j, h => by simp [lin_nil_right]
  | a :: as, b :: bs, v :: vs, j, h => by
    show (a + b) * v j + lin (List.zipWith (· + ·) as bs) vs j = (a * v j + lin as vs j) + (b * v j + lin bs vs j)
    rw [lin_add (a := as) (b := bs) j (by simpa using h), Int.add_mul]
    omega
theorem lin_smul (k : Int) : ∀ (a : List Int) (vs : List Vec) (j : Nat), lin (a.map (k * ·)) vs j = k * lin a vs j
  | [], vs, j => by simp [lin_nil_left]
  | a :: as, [], j => by simp [lin_nil_right]
  | a :: as, v :: vs, j => by
    show k * a * v j + lin (as.map (k * ·)) vs j = k * (a * v j + lin as vs j)
    rw [lin_smul k as vs j, Int.mul_add, Int.mul_assoc]
/-- in the span, at the places below n -/
def InS (p : Int) (n : Nat) (L : List Vec) (v : Vec) : Prop := ∃ c : List Int, c.length = L.length ∧ ∀ j, j < n → p ∣ v j - lin c L j
section
variable {p : Int} {n : Nat} {L M : List Vec} {u v : Vec}
theorem dvd_mul_r {a : Int} (t : Int) (h : p ∣ a) : p ∣ t * a := Int.dvd_trans h (Int.dvd_mul_left _ _)
theorem dvd_congr {a b : Int} (h : p ∣ a) (e : a = b) : p ∣ b := e ▸ h
theorem InS.congr (h : InS p n L v) (e : ∀ j, j < n → p ∣ u j - v j) : InS p n L u := by
  obtain ⟨c, hc, h⟩ := h
  exact ⟨c, hc, fun j hj => dvd_congr (Int.dvd_add (e j hj) (h j hj)) (by omega)⟩
theorem InS.zero : InS p n L (fun _ => 0) := ⟨List.replicate L.length 0, by simp, fun j _ => by rw [lin_zero]; exact ⟨0, by show (0 : Int) - 0 = p * 0; omega⟩⟩
theorem InS.add (h : InS p n L u) (k : InS p n L v) : InS p n L (fun j => u j + v j) := by
  obtain ⟨a, ha, h⟩ := h
  obtain ⟨b, hb, k⟩ := k
  refine ⟨List.zipWith (· + ·) a b, by simp [ha, hb], fun j hj => ?_⟩
  rw [lin_add j (ha.trans hb.symm)]
  exact dvd_congr (Int.dvd_add (h j hj) (k j hj)) (by show _ = u j + v j - _; omega)
theorem InS.smul (t : Int) (h : InS p n L u) : InS p n L (fun j => t * u j) := by
  obtain ⟨a, ha, h⟩ := h
  refine ⟨a.map (t * ·), by simp [ha], fun j hj => ?_⟩
  rw [lin_smul]
  exact dvd_congr (dvd_mul_r t (h j hj)) (Int.mul_sub _ _ _)
theorem InS.lin : ∀ {c : List Int} {L : List Vec}, (∀ w ∈ L, InS p n M w) → InS p n M (fun j => LA.lin c L j)
  | [], L, _ => by
    have : (fun j => LA.lin [] L j) = fun _ => 0 := funext fun j => lin_nil_left L j
    rw [this]
    exact .zero
  | c :: cs, [], _ => by
    show InS p n M (fun _ => 0)
    exact .zero
  | c :: cs, w :: ws, h => ((h w (.head _)).smul c).add (InS.lin (c := cs) fun x hx => h x (.tail _ hx))
theorem InS.trans (h : InS p n L v) (k : ∀ w ∈ L, InS p n M w) : InS p n M v := by
  obtain ⟨c, hc, h⟩ := h
  exact (InS.lin (c := c) k).congr h
theorem InS.cons (h : InS p n L v) : InS p n (u :: L) v := by
  obtain ⟨c, hc, h⟩ := h
  refine ⟨0 :: c, by simp [hc], fun j hj => dvd_congr (h j hj) ?_⟩
  show _ = v j - (0 * u j + LA.lin c L j)
  omega
theorem InS.head : InS p n (v :: L) v := by
  refine ⟨1 :: List.replicate L.length 0, by simp, fun j _ => ?_⟩
  show p ∣ v j - (1 * v j + LA.lin (List.replicate L.length 0) L j)
  rw [lin_zero]
  exact ⟨0, by omega⟩
theorem InS.mem : ∀ {L : List Vec}, v ∈ L → InS p n L v
  | _ :: _, .head _ => .head
  | _ :: _, .tail _ h => (InS.mem h).cons
theorem InS.sub (h : InS p n L u) (k : InS p n L v) (t : Int) : InS p n L (fun j => u j - t * v j) :=
  (h.add (k.smul (-t))).congr fun j _ => ⟨0, by rw [Int.neg_mul]; omega⟩
theorem InS.less (h : InS p n L v) {m : Nat} (hm : m ≤ n) : InS p m L v := by
  obtain ⟨c, hc, h⟩ := h
  exact ⟨c, hc, fun j hj => h j (Nat.lt_of_lt_of_le hj hm)⟩
end
/-- every number but the multiples of p has an inverse -/
def Inv (p : Int) : Prop := ∀ a : Int, ¬ p ∣ a → ∃ b : Int, p ∣ a * b - 1
theorem lin_all {p : Int} {j : Nat} : ∀ {L : List Vec}, (∀ v ∈ L, p ∣ v j) → ∀ c : List Int, p ∣ lin c L j
  | [], _, c => by rw [lin_nil_right]; exact ⟨0, by show (0 : Int) = p * 0; omega⟩
  | _ :: _, _, [] => ⟨0, by show (0 : Int) = p * 0; omega⟩
  | v :: L, q, a :: c => Int.dvd_add (dvd_mul_r a (q v (.head _))) (lin_all (fun w hw => q w (.tail _ hw)) c)
/-- more unknowns than equations: a solution that is not nought -/
theorem hom {p : Int} (hp : Inv p) (h1 : ¬ p ∣ 1) : ∀ (s : Nat) (L : List Vec), s < L.length → ∃ c : List Int, c.length = L.length ∧ (∃ x ∈ c, ¬ p ∣ x) ∧ ∀ j, j < s → p ∣ lin c L j
  | 0, [], h => absurd h (by simp)
  | 0, v :: L, _ => ⟨1 :: List.replicate L.length 0, by simp, ⟨1, .head _, h1⟩, fun j h => absurd h (by omega)⟩
  | s + 1, L, h => by
    by_cases q : ∀ v ∈ L, p ∣ v s
    · obtain ⟨c, hc, hx, hj⟩ := hom hp h1 s L (by omega)
      refine ⟨c, hc, hx, fun j h => ?_⟩
      by_cases e : j = s
      · subst e
        exact lin_all q c
      · exact hj j (by omega)
    · obtain ⟨v, q⟩ := Classical.not_forall.mp q
      obtain ⟨hv, hn⟩ := Classical.not_imp.mp q
      obtain ⟨L1, L2, rfl⟩ := List.append_of_mem hv
      obtain ⟨u, hu⟩ := hp _ hn
      let f : Vec → Vec := fun w j => w j - w s * u * v j
      obtain ⟨c, hc, hx, hj⟩ := hom hp h1 s ((L1 ++ L2).map f) (by simp at h ⊢; omega)
      have linf : ∀ (c : List Int) (M : List Vec) (j : Nat), lin c (M.map f) j = lin c M j - lin c M s * u * v j := by
        intro c M j
        induction M generalizing c with
        | nil => simp [lin_nil_right]
        | cons w M ih =>
          cases c with
          | nil => simp [lin_nil_left]
          | cons a c =>
            show a * (w j - w s * u * v j) + lin c (M.map f) j = (a * w j + lin c M j) - (a * w s + lin c M s) * u * v j
            rw [ih c, Int.mul_sub, Int.add_mul, Int.add_mul]
            have : a * (w s * u * v j) = a * w s * u * v j := by rw [Int.mul_assoc, Int.mul_assoc, Int.mul_assoc]
            omega
      have hlc : c.length = L1.length + L2.length := by simpa using hc
      let c1 := c.take L1.length
      let c2 := c.drop L1.length
      have e1 : c1.length = L1.length := by simp [c1]; omega
      have e2 : c2.length = L2.length := by simp [c2]; omega
      have ec : c = c1 ++ c2 := (List.take_append_drop _ _).symm
      let k : Int := -(u * lin c (L1 ++ L2) s)
      have tot : ∀ j, lin (c1 ++ k :: c2) (L1 ++ v :: L2) j = lin c (L1 ++ L2) j + k * v j := by
        intro j
        rw [lin_append _ _ _ e1, ec, lin_append _ _ _ e1]
        show lin c1 L1 j + (k * v j + lin c2 L2 j) = _
        omega
      refine ⟨c1 ++ k :: c2, by simp [e1, e2], ?_, fun j h => ?_⟩
      · obtain ⟨x, hx, hx'⟩ := hx
        rw [ec] at hx
        exact ⟨x, (List.mem_append.mp hx).elim (fun z => List.mem_append_left _ z) (fun z => List.mem_append_right _ (.tail _ z)), hx'⟩
      · rw [tot j]
        have hk : k * v j = -(lin c (L1 ++ L2) s * u * v j) := by
          show -(u * lin c (L1 ++ L2) s) * v j = _
          rw [Int.neg_mul, Int.mul_comm u]
        by_cases e : j = s
        · subst e
          rw [hk]
          have : lin c (L1 ++ L2) j + -(lin c (L1 ++ L2) j * u * v j) = -(lin c (L1 ++ L2) j * (v j * u - 1)) := by
            rw [Int.mul_sub, Int.mul_one, Int.mul_assoc, Int.mul_comm u]
            omega
          rw [this]
          exact Int.dvd_neg.mpr (dvd_mul_r _ hu)
        · have := hj j (by omega)
          rw [linf] at this
          rw [hk]
          exact dvd_congr this (by omega)
/-- independent at the places below n -/
def Indep (p : Int) (n : Nat) (V : List Vec) : Prop := ∀ c : List Int, c.length = V.length → (∀ j, j < n → p ∣ lin c V j) → ∀ x ∈ c, p ∣ x
def linf (f : Nat → Int) : List Vec → Nat → Int
  | [], _ => 0
  | w :: ws, j => f 0 * w j + linf (fun k => f (k + 1)) ws j
theorem lin_linf : ∀ {a : List Int} {W : List Vec} (j : Nat), a.length = W.length → lin a W j = linf (fun k => a.getD k 0) W j
  | [], [], _, _ => rfl
  | [], _ :: _, _, h => by simp at h
  | _ :: _, [], _, h => by simp at h
  | a :: as, w :: ws, j, h => by
    show a * w j + lin as ws j = a * w j + linf (fun k => as.getD k 0) ws j
    rw [lin_linf j (by simpa using h)]
theorem linf_add : ∀ (f g : Nat → Int) (c : Int) (W : List Vec) (j : Nat), linf (fun k => c * f k + g k) W j = c * linf f W j + linf g W j
  | f, g, c, [], j => by simp [linf]
  | f, g, c, w :: ws, j => by
    show (c * f 0 + g 0) * w j + linf (fun k => c * f (k + 1) + g (k + 1)) ws j = c * (f 0 * w j + linf (fun k => f (k + 1)) ws j) + (g 0 * w j + linf (fun k => g (k + 1)) ws j)
    rw [linf_add, Int.add_mul, Int.mul_add, Int.mul_assoc]
    omega
theorem linf_zero : ∀ (W : List Vec) (j : Nat), linf (fun _ => 0) W j = 0
  | [], _ => rfl
  | w :: ws, j => by
    show 0 * w j + linf (fun _ => 0) ws j = 0
    rw [linf_zero ws j]
    omega
theorem linf_dvd {p : Int} : ∀ (f : Nat → Int) (W : List Vec) (j : Nat), (∀ k, k < W.length → p ∣ f k) → p ∣ linf f W j
  | f, [], j, _ => ⟨0, by show (0 : Int) = p * 0; omega⟩
  | f, w :: ws, j, h => Int.dvd_add (Int.dvd_trans (h 0 (by simp)) (Int.dvd_mul_right _ _)) (linf_dvd _ ws j fun k hk => h (k + 1) (by simpa using hk))
theorem steinitz {p : Int} {n : Nat} (hp : Inv p) (h1 : ¬ p ∣ 1) {V W : List Vec} (hi : Indep p n V) (hs : ∀ v ∈ V, InS p n W v) : V.length ≤ W.length := by
  apply Classical.byContradiction
  intro hlt
  have hex : ∀ v : Vec, ∃ a : List Int, InS p n W v → a.length = W.length ∧ ∀ j, j < n → p ∣ v j - lin a W j := fun v => by
    by_cases q : InS p n W v
    · obtain ⟨a, h⟩ := q
      exact ⟨a, fun _ => h⟩
    · exact ⟨[], fun z => absurd z q⟩
  let co : Vec → List Int := fun v => Classical.choose (hex v)
  have hco : ∀ v, InS p n W v → (co v).length = W.length ∧ ∀ j, j < n → p ∣ v j - lin (co v) W j := fun v => Classical.choose_spec (hex v)
  let mat : Vec → Vec := fun v k => (co v).getD k 0
  obtain ⟨c, hc, ⟨x, hx, hx'⟩, hj⟩ := hom hp h1 W.length (V.map mat) (by rw [List.length_map]; omega)
  have key : ∀ (V' : List Vec) (c : List Int), (∀ v ∈ V', InS p n W v) → ∀ j, j < n → p ∣ lin c V' j - linf (fun k => lin c (V'.map mat) k) W j := by
    intro V'
    induction V' with
    | nil =>
      intro c _ j hj
      have : (fun k => lin c ([].map mat) k) = fun _ => 0 := funext fun k => lin_nil_right c k
      rw [this, lin_nil_right, linf_zero]
      exact ⟨0, by show (0 : Int) - 0 = p * 0; omega⟩
    | cons v V' ih =>
      intro c h j hj
      cases c with
      | nil =>
        have : (fun k => lin [] ((v :: V').map mat) k) = fun _ => 0 := funext fun k => lin_nil_left _ k
        rw [this, lin_nil_left, linf_zero]
        exact ⟨0, by show (0 : Int) - 0 = p * 0; omega⟩
      | cons a c =>
        have h1 := ih c (fun w hw => h w (.tail _ hw)) j hj
        obtain ⟨hl, hv⟩ := hco v (h v (.head _))
        have h2 := hv j hj
        rw [lin_linf j hl] at h2
        show p ∣ (a * v j + lin c V' j) - linf (fun k => a * mat v k + lin c (V'.map mat) k) W j
        rw [linf_add]
        refine dvd_congr (Int.dvd_add (dvd_mul_r a h2) h1) ?_
        show a * (v j - linf (mat v) W j) + _ = _
        rw [Int.mul_sub]
        show _ = _ - (a * linf (fun k => (co v).getD k 0) W j + linf (fun k => lin c (V'.map mat) k) W j)
        generalize linf (fun k => (co v).getD k 0) W j = t1 at *
        generalize linf (fun k => lin c (V'.map mat) k) W j = t2 at *
        omega
  have hz : ∀ j, j < n → p ∣ lin c V j := fun j hjn => by
    have h2 := linf_dvd (p := p) (fun k => lin c (V.map mat) k) W j fun k hk => hj k hk
    exact dvd_congr (Int.dvd_add (key V c hs j hjn) h2) (by omega)
  exact hx' (hi c (by simpa using hc) hz x hx)
/-- the rank of rows, at the places below n -/
def IsRank (p : Int) (n : Nat) (R : List Vec) (r : Nat) : Prop := ∃ B : List Vec, B.length = r ∧ Indep p n B ∧ (∀ b ∈ B, InS p n R b) ∧ ∀ v ∈ R, InS p n B v
theorem IsRank.one {p : Int} {n : Nat} (hp : Inv p) (h1 : ¬ p ∣ 1) {R R' : List Vec} {r s : Nat} (h : IsRank p n R r) (k : IsRank p n R' s) (a : ∀ v ∈ R, InS p n R' v) (b : ∀ v ∈ R', InS p n R v) : r = s := by
  obtain ⟨B, rfl, hi, hb, hr⟩ := h
  obtain ⟨C, rfl, ki, kc, kr⟩ := k
  exact Nat.le_antisymm (steinitz hp h1 hi fun v hv => ((hb v hv).trans a).trans kr) (steinitz hp h1 ki fun v hv => ((kc v hv).trans b).trans hr)
/-- every row has a place where it is not nought and the later ones are -/
inductive Tri (p : Int) (n : Nat) : List Vec → Prop
  | nil : Tri p n []
  | cons {v : Vec} {V : List Vec} (l : Nat) (hl : l < n) (h : p ∣ v l - 1) (hz : ∀ w ∈ V, p ∣ w l) (t : Tri p n V) : Tri p n (v :: V)
theorem lin_dvd {p : Int} {l : Nat} : ∀ (c : List Int) (V : List Vec), (∀ w ∈ V, p ∣ w l) → p ∣ lin c V l
  | [], V, _ => by rw [lin_nil_left]; exact ⟨0, by omega⟩
  | _ :: _, [], _ => ⟨0, by show (0 : Int) = p * 0; omega⟩
  | a :: c, w :: V, h => Int.dvd_add (dvd_mul_r a (h w (.head _))) (lin_dvd c V fun x hx => h x (.tail _ hx))
theorem Tri.indep {p : Int} {n : Nat} : ∀ {V : List Vec}, Tri p n V → Indep p n V
  | [], _, c, hc, _ => by
    intro x hx
    rw [List.eq_nil_of_length_eq_zero hc] at hx
    cases hx
  | v :: V, .cons l hl h hz t, c, hc, hj => by
    cases c with
    | nil => intro x hx; cases hx
    | cons a c =>
      have h1 : p ∣ a := by
        have h2 := hj l hl
        have h3 := lin_dvd c V hz
        have h4 : p ∣ a * v l := dvd_congr (Int.dvd_sub h2 h3) (by show a * v l + lin c V l - lin c V l = _; omega)
        have h5 := dvd_mul_r a h
        exact dvd_congr (Int.dvd_sub h4 h5) (by rw [Int.mul_sub]; omega)
      intro x hx
      rcases List.mem_cons.mp hx with rfl | hx
      · exact h1
      · refine t.indep c (by simpa using hc) (fun j hjn => ?_) x hx
        have h2 := hj j hjn
        exact dvd_congr (Int.dvd_sub h2 (Int.dvd_trans h1 (Int.dvd_mul_right _ (v j)))) (by show a * v j + lin c V j - a * v j = _; omega)
end LA

set_option linter.all false
set_option maxHeartbeats 1000000
/-! two ways of clearing rows modulo p -/
namespace LA
def at_ (r : List Int) : Vec := fun k => r.getD k 0
theorem at_get {r : List Int} {k : Nat} (h : k < r.length) : at_ r k = r[k] := by
  unfold at_
  rw [List.getD_eq_getElem?_getD, List.getElem?_eq_getElem h]
  rfl
theorem at_out {r : List Int} {k : Nat} (h : r.length ≤ k) : at_ r k = 0 := by
  unfold at_
  rw [List.getD_eq_getElem?_getD, List.getElem?_eq_none h]
  rfl
/-- a row of n numbers from 0 to p - 1 -/
structure Row (p : Int) (n : Nat) (r : List Int) : Prop where
  len : r.length = n
  rng : ∀ x ∈ r, 0 ≤ x ∧ x < p
theorem Row.at_rng {p : Int} {n : Nat} {r : List Int} (h : Row p n r) (hp : 0 < p) (k : Nat) : 0 ≤ at_ r k ∧ at_ r k < p := by
  by_cases q : k < r.length
  · rw [at_get q]
    exact h.rng _ (List.getElem_mem q)
  · rw [at_out (by omega)]
    omega
theorem dvd_zero {p a : Int} (h : p ∣ a) (h0 : 0 ≤ a) (h1 : a < p) : a = 0 := by
  obtain ⟨c, rfl⟩ := h
  have hp : 0 < p := by omega
  have : c < 1 := Int.lt_of_mul_lt_mul_left (a := p) (by omega) (by omega)
  have : -1 < c := Int.lt_of_mul_lt_mul_left (a := p) (by rw [Int.mul_neg]; omega) (by omega)
  obtain rfl : c = 0 := by omega
  omega
theorem dvd_mod (p a : Int) : p ∣ a % p - a := by
  have := Int.emod_add_mul_ediv a p
  exact ⟨-(a / p), by rw [Int.mul_neg]; omega⟩
theorem dvd_mod' (p a : Int) : p ∣ a - a % p := by
  have := Int.emod_add_mul_ediv a p
  exact ⟨a / p, by omega⟩
theorem mod_rng {p : Int} (hp : 0 < p) (a : Int) : 0 ≤ a % p ∧ a % p < p := ⟨Int.emod_nonneg _ (by omega), Int.emod_lt_of_pos _ hp⟩
theorem zip_at {g : Int → Int → Int} {n : Nat} {r o : List Int} (hr : r.length = n) (ho : o.length = n) {k : Nat} (hk : k < n) : at_ (List.zipWith g r o) k = g (at_ r k) (at_ o k) := by
  rw [at_get (by simp; omega), at_get (by omega), at_get (by omega), List.getElem_zipWith]
theorem map_at {g : Int → Int} {r : List Int} {k : Nat} (hk : k < r.length) : at_ (r.map g) k = g (at_ r k) := by
  rw [at_get (by simpa using hk), at_get hk, List.getElem_map]
/-- row - f * other -/
def lessL (p : Int) (r : List Int) (f : Int) (o : List Int) : List Int := if f = 0 then r else List.zipWith (fun a b => (a - f * b) % p) r o
section
variable {p : Int} {n : Nat}
theorem lessL_row (hp : 0 < p) {r o : List Int} (f : Int) (hr : Row p n r) (ho : o.length = n) : Row p n (lessL p r f o) := by
  unfold lessL
  split
  · exact hr
  · refine ⟨by simp [hr.len, ho], fun x hx => ?_⟩
    obtain ⟨i, hi, rfl⟩ := List.mem_iff_getElem.mp hx
    rw [List.getElem_zipWith]
    exact mod_rng hp _
theorem lessL_at {r o : List Int} (hp : 0 < p) (f : Int) (hr : Row p n r) (ho : o.length = n) {k : Nat} (hk : k < n) : at_ (lessL p r f o) k = (at_ r k - f * at_ o k) % p := by
  unfold lessL
  split
  · next e =>
    subst e
    rw [Int.zero_mul, Int.sub_zero, Int.emod_eq_of_lt (hr.at_rng hp k).1 (hr.at_rng hp k).2]
  · rw [zip_at hr.len ho hk]
theorem lessL_dvd {r o : List Int} (hp : 0 < p) (f : Int) (hr : Row p n r) (ho : o.length = n) {k : Nat} (hk : k < n) : p ∣ at_ (lessL p r f o) k - (at_ r k - f * at_ o k) := by
  rw [lessL_at hp f hr ho hk]
  exact dvd_mod _ _
abbrev Lead := Nat × List Int
def sweep (p : Int) : List Int → List Lead → List Int
  | l, [] => l
  | l, q :: found => sweep p (lessL p l (at_ l q.1) q.2) found
def vecs (found : List Lead) : List Vec := found.map fun q => at_ q.2
theorem sweep_keep (hp : 0 < p) {c : Nat} (hc : c < n) : ∀ {found : List Lead} {l : List Int}, Row p n l → (∀ q ∈ found, q.2.length = n ∧ at_ q.2 c = 0) → at_ l c = 0 → at_ (sweep p l found) c = 0
  | [], l, _, _, h => h
  | q :: found, l, hl, hf, h => by
    obtain ⟨h1, h2⟩ := hf q (.head _)
    refine sweep_keep hp hc (found := found) (lessL_row hp _ hl h1) (fun q hq => hf q (.tail _ hq)) ?_
    rw [lessL_at hp _ hl h1 hc, h, h2]
    simp
theorem sweep_row (hp : 0 < p) : ∀ {found : List Lead} {l : List Int}, Row p n l → (∀ q ∈ found, q.2.length = n) → Row p n (sweep p l found)
  | [], l, hl, _ => hl
  | q :: found, l, hl, hf => sweep_row hp (found := found) (lessL_row hp _ hl (hf q (.head _))) fun q hq => hf q (.tail _ hq)
structure LeadOk (p : Int) (n : Nat) (q : Lead) : Prop where
  lt : q.1 < n
  row : Row p n q.2
  own : at_ q.2 q.1 = 1
  z : ∀ k, k < q.1 → at_ q.2 k = 0
/-- none has anything at another's place -/
def Apart (q q' : Lead) : Prop := at_ q'.2 q.1 = 0 ∧ at_ q.2 q'.1 = 0
theorem sweep_zero (hp : 0 < p) : ∀ {found : List Lead} {l : List Int}, Row p n l → (∀ q ∈ found, LeadOk p n q) → found.Pairwise Apart → ∀ q ∈ found, at_ (sweep p l found) q.1 = 0
  | [], _, _, _, _, _, h => nomatch h
  | q :: found, l, hl, hf, hs, q', hq => by
    have ho := hf q (.head _)
    have hl1 := lessL_row hp (at_ l q.1) hl ho.row.len
    obtain ⟨s1, s2⟩ := List.pairwise_cons.mp hs
    rcases List.mem_cons.mp hq with rfl | hq
    · refine sweep_keep hp ho.lt (found := found) hl1 (fun x hx => ⟨(hf x (.tail _ hx)).row.len, (s1 x hx).1⟩) ?_
      rw [lessL_at hp _ hl ho.row.len ho.lt, ho.own]
      simp
    · exact sweep_zero hp (found := found) hl1 (fun x hx => hf x (.tail _ hx)) s2 q' hq
theorem sweep_diff (hp : 0 < p) : ∀ {found : List Lead} {l : List Int}, Row p n l → (∀ q ∈ found, q.2.length = n) → InS p n (vecs found) (fun k => at_ l k - at_ (sweep p l found) k)
  | [], l, _, _ => InS.zero.congr fun j _ => ⟨0, by show at_ l j - at_ l j - 0 = p * 0; omega⟩
  | q :: found, l, hl, hf => by
    have ho := hf q (.head _)
    have hl1 := lessL_row hp (at_ l q.1) hl ho
    have ih := sweep_diff hp (found := found) hl1 fun x hx => hf x (.tail _ hx)
    have h1 : InS p n (vecs (q :: found)) (fun k => at_ l q.1 * at_ q.2 k) := InS.head.smul _
    refine (h1.add ih.cons).congr fun j hj => ?_
    have := lessL_dvd hp (at_ l q.1) hl ho hj
    refine dvd_congr (Int.dvd_neg.mpr this) ?_
    show _ = at_ l j - at_ (sweep p (lessL p l (at_ l q.1) q.2) found) j - (at_ l q.1 * at_ q.2 j + (at_ (lessL p l (at_ l q.1) q.2) j - at_ (sweep p (lessL p l (at_ l q.1) q.2) found) j))
    omega
def places (r : List Int) : List Nat := (List.range r.length).filter fun k => !decide (at_ r k = 0)
/-- the inverses of a -/
def invs (p a : Int) : List Int := ((List.range p.toNat).map fun k : Nat => (k : Int)).filter fun o => decide (a * o % p = 1)
def inv (p a : Int) : Int := (invs p a).headD 0
structure Prm (p : Int) : Prop where
  pos : 2 ≤ p
  inv : ∀ a, 0 < a → a < p → a * inv p a % p = 1
def stepL (p : Int) (found : List Lead) (row : List Int) : List Lead :=
  let left := sweep p row found
  match places left with
  | [] => found
  | f :: _ =>
    let fresh := left.map fun x => x * inv p (at_ left f) % p
    (found.map fun q => (q.1, lessL p q.2 (at_ q.2 f) fresh)) ++ [(f, fresh)]
def redL (p : Int) (rows : List (List Int)) : List Lead := rows.foldl (stepL p) []
structure Red (p : Int) (n : Nat) (rows : List (List Int)) (found : List Lead) : Prop where
  ok : ∀ q ∈ found, LeadOk p n q
  ap : found.Pairwise Apart
  inR : ∀ q ∈ found, InS p n (rows.map at_) (at_ q.2)
  sp : ∀ r ∈ rows, InS p n (vecs found) (at_ r)
theorem red_nil : Red p n [] [] := ⟨(fun _ h => nomatch h), .nil, (fun _ h => nomatch h), (fun _ h => nomatch h)⟩
theorem InS.more {L M : List Vec} {v : Vec} (h : InS p n L v) (s : ∀ w ∈ L, w ∈ M) : InS p n M v := h.trans fun w hw => .mem (s w hw)
theorem Red.step (hp : Prm p) {rows : List (List Int)} {found : List Lead} {row : List Int} (R : Red p n rows found) (hr : Row p n row) : Red p n (rows ++ [row]) (stepL p found row) := by
  have p0 : 0 < p := by have := hp.pos; omega
  have hlen : ∀ q ∈ found, q.2.length = n := fun q hq => (R.ok q hq).row.len
  have hL := sweep_row p0 hr hlen
  have hz := sweep_zero p0 hr R.ok R.ap
  have hD := sweep_diff p0 hr hlen
  have incl : ∀ w ∈ rows.map at_, w ∈ (rows ++ [row]).map at_ := fun w hw => by
    rw [List.map_append]
    exact List.mem_append_left _ hw
  have hrow : InS p n ((rows ++ [row]).map at_) (at_ row) := .mem (by rw [List.map_append]; exact List.mem_append_right _ (.head _))
  unfold stepL
  generalize sweep p row found = left at *
  simp only
  cases e : places left with
  | nil =>
    have hl0 : ∀ k, at_ left k = 0 := fun k => by
      by_cases q : k < left.length
      · apply Classical.byContradiction
        intro ne
        have : k ∈ places left := List.mem_filter.mpr ⟨List.mem_range.mpr q, by simp [ne]⟩
        rw [e] at this
        cases this
      · exact at_out (by omega)
    refine ⟨R.ok, R.ap, fun q hq => (R.inR q hq).more incl, fun r hr' => ?_⟩
    rcases List.mem_append.mp hr' with h | h
    · exact R.sp r h
    · rw [List.mem_singleton.mp h]
      exact hD.congr fun j _ => ⟨0, by show at_ row j - (at_ row j - at_ left j) = p * 0; rw [hl0 j]; omega⟩
  | cons f fs =>
    have hf : f ∈ places left := by rw [e]; exact .head _
    obtain ⟨hf1, hf2⟩ := List.mem_filter.mp hf
    have hfn : f < n := by rw [← hL.len]; exact List.mem_range.mp hf1
    have hfne : at_ left f ≠ 0 := by simpa using hf2
    have hf0 : ∀ k, k < f → at_ left k = 0 := fun k hk => by
      apply Classical.byContradiction
      intro ne
      have hm : k ∈ places left := List.mem_filter.mpr ⟨List.mem_range.mpr (by rw [hL.len]; omega), by simp [ne]⟩
      have hsort : (places left).Pairwise (· < ·) := List.Pairwise.filter _ List.pairwise_lt_range
      rw [e] at hm hsort
      rcases List.mem_cons.mp hm with rfl | hm
      · omega
      · have := (List.pairwise_cons.mp hsort).1 k hm
        omega
    have hfr := hL.at_rng p0 f
    have hinv := hp.inv (at_ left f) (by omega) hfr.2
    show Red p n (rows ++ [row]) ((found.map fun q => (q.1, lessL p q.2 (at_ q.2 f) (left.map fun x => x * inv p (at_ left f) % p))) ++ [(f, left.map fun x => x * inv p (at_ left f) % p)])
    generalize inv p (at_ left f) = t at hinv ⊢
    have hFat : ∀ k, k < n → at_ (left.map fun x => x * t % p) k = at_ left k * t % p := fun k hk => map_at (by rw [hL.len]; exact hk)
    have hFrow : Row p n (left.map fun x => x * t % p) := ⟨by rw [List.length_map, hL.len], fun x hx => by
      obtain ⟨y, _, rfl⟩ := List.mem_map.mp hx
      exact mod_rng p0 _⟩
    generalize left.map (fun x => x * t % p) = fresh at hFat hFrow ⊢
    have hFf : at_ fresh f = 1 := by rw [hFat f hfn, hinv]
    have hF0 : ∀ k, k < n → at_ left k = 0 → at_ fresh k = 0 := fun k hk h => by
      rw [hFat k hk, h]
      simp
    have hFq : ∀ q ∈ found, at_ fresh q.1 = 0 := fun q hq => hF0 _ (R.ok q hq).lt (hz q hq)
    have one : (1 : Int) % p = 1 := Int.emod_eq_of_lt (by omega) (by have := hp.pos; omega)
    have hq' : ∀ q ∈ found, ∀ k, k < n → at_ (lessL p q.2 (at_ q.2 f) fresh) k = (at_ q.2 k - at_ q.2 f * at_ fresh k) % p := fun q hq k hk => lessL_at p0 _ (R.ok q hq).row hFrow.len hk
    -- spans
    have hleft : InS p n ((rows ++ [row]).map at_) (at_ left) := by
      have h1 : InS p n ((rows ++ [row]).map at_) (fun k => at_ row k - at_ left k) := hD.trans fun w hw => by
        obtain ⟨q, hq, rfl⟩ := List.mem_map.mp hw
        exact (R.inR q hq).more incl
      exact (hrow.sub h1 1).congr fun j _ => ⟨0, by show at_ left j - (at_ row j - 1 * (at_ row j - at_ left j)) = p * 0; omega⟩
    have hfresh : InS p n ((rows ++ [row]).map at_) (at_ fresh) := (hleft.smul t).congr fun j hj => by
      rw [hFat j hj, Int.mul_comm t]
      exact dvd_mod _ _
    have new : ∀ q ∈ found, at_ (lessL p q.2 (at_ q.2 f) fresh) ∈ vecs ((found.map fun q => (q.1, lessL p q.2 (at_ q.2 f) fresh)) ++ [(f, fresh)]) := fun q hq => by
      unfold vecs
      rw [List.map_append, List.map_map]
      exact List.mem_append_left _ (List.mem_map.mpr ⟨q, hq, rfl⟩)
    have newf : at_ fresh ∈ vecs ((found.map fun q => (q.1, lessL p q.2 (at_ q.2 f) fresh)) ++ [(f, fresh)]) := by
      unfold vecs
      rw [List.map_append]
      exact List.mem_append_right _ (.head _)
    have old : ∀ q ∈ found, InS p n (vecs ((found.map fun q => (q.1, lessL p q.2 (at_ q.2 f) fresh)) ++ [(f, fresh)])) (at_ q.2) := fun q hq => by
      refine ((InS.mem (new q hq)).add ((InS.mem newf).smul (at_ q.2 f))).congr fun j hj => ?_
      refine dvd_congr (Int.dvd_neg.mpr (lessL_dvd p0 (at_ q.2 f) (R.ok q hq).row hFrow.len hj)) ?_
      show _ = at_ q.2 j - (at_ (lessL p q.2 (at_ q.2 f) fresh) j + at_ q.2 f * at_ fresh j)
      omega
    refine ⟨fun q hq => ?_, ?_, fun q hq => ?_, fun r hr' => ?_⟩
    · rcases List.mem_append.mp hq with h | h
      · obtain ⟨q0, h0, rfl⟩ := List.mem_map.mp h
        have ho := R.ok q0 h0
        refine ⟨ho.lt, lessL_row p0 _ ho.row hFrow.len, ?_, fun k hk => ?_⟩
        · show at_ (lessL p q0.2 (at_ q0.2 f) fresh) q0.1 = 1
          rw [hq' q0 h0 _ ho.lt, ho.own, hFq q0 h0, Int.mul_zero, Int.sub_zero, one]
        · show at_ (lessL p q0.2 (at_ q0.2 f) fresh) k = 0
          replace hk : k < q0.1 := hk
          have hkn : k < n := Nat.lt_trans hk ho.lt
          rw [hq' q0 h0 _ hkn, ho.z k hk]
          by_cases q1 : k < f
          · rw [hF0 k hkn (hf0 k q1)]
            simp
          · rw [ho.z f (by omega)]
            simp
      · rw [List.mem_singleton.mp h]
        exact ⟨hfn, hFrow, hFf, fun k hk => hF0 k (Nat.lt_trans hk hfn) (hf0 k hk)⟩
    · refine List.pairwise_append.mpr ⟨List.pairwise_map.mpr ?_, List.pairwise_singleton _ _, fun a ha b hb => ?_⟩
      · refine List.Pairwise.imp_of_mem (fun {a b} ha hb h => ?_) R.ap
        refine ⟨?_, ?_⟩
        · show at_ (lessL p b.2 (at_ b.2 f) fresh) a.1 = 0
          rw [hq' b hb _ (R.ok a ha).lt, h.1, hFq a ha]
          simp
        · show at_ (lessL p a.2 (at_ a.2 f) fresh) b.1 = 0
          rw [hq' a ha _ (R.ok b hb).lt, h.2, hFq b hb]
          simp
      · obtain ⟨q0, h0, rfl⟩ := List.mem_map.mp ha
        rw [List.mem_singleton.mp hb]
        refine ⟨hFq q0 h0, ?_⟩
        show at_ (lessL p q0.2 (at_ q0.2 f) fresh) f = 0
        rw [hq' q0 h0 _ hfn, hFf]
        simp
    · rcases List.mem_append.mp hq with h | h
      · obtain ⟨q0, h0, rfl⟩ := List.mem_map.mp h
        exact (((R.inR q0 h0).more incl).sub hfresh (at_ q0.2 f)).congr fun j hj => lessL_dvd p0 _ (R.ok q0 h0).row hFrow.len hj
      · rw [List.mem_singleton.mp h]
        exact hfresh
    · rcases List.mem_append.mp hr' with h | h
      · exact (R.sp r h).trans fun w hw => by
          obtain ⟨q, hq, rfl⟩ := List.mem_map.mp hw
          exact old q hq
      · rw [List.mem_singleton.mp h]
        have h1 : InS p n (vecs ((found.map fun q => (q.1, lessL p q.2 (at_ q.2 f) fresh)) ++ [(f, fresh)])) (fun k => at_ row k - at_ left k) := hD.trans fun w hw => by
          obtain ⟨q, hq, rfl⟩ := List.mem_map.mp hw
          exact old q hq
        refine (h1.add ((InS.mem newf).smul (at_ left f))).congr fun j hj => ?_
        show p ∣ at_ row j - (at_ row j - at_ left j + at_ left f * at_ fresh j)
        rw [hFat j hj]
        have a1 := dvd_mul_r (at_ left f) (dvd_mod' p (at_ left j * t))
        have a2 : p ∣ at_ left f * t - 1 := by
          have := dvd_mod' p (at_ left f * t)
          rw [hinv] at this
          exact this
        have a3 := dvd_mul_r (at_ left j) a2
        refine dvd_congr (Int.dvd_sub a1 a3) ?_
        rw [Int.mul_sub, Int.mul_sub, Int.mul_one]
        have : at_ left f * (at_ left j * t) = at_ left j * (at_ left f * t) := Int.mul_left_comm _ _ _
        omega
theorem red_all (hp : Prm p) {rows : List (List Int)} (h : ∀ r ∈ rows, Row p n r) : Red p n rows (redL p rows) := by
  have : ∀ (done todo : List (List Int)) (found : List Lead), Red p n done found → (∀ r ∈ todo, Row p n r) → Red p n (done ++ todo) (todo.foldl (stepL p) found) := by
    intro done todo
    induction todo generalizing done with
    | nil => exact fun found R _ => by rw [List.append_nil]; exact R
    | cons r todo ih =>
      intro found R h
      have := ih (done ++ [r]) (stepL p found r) (R.step hp (h r (.head _))) fun x hx => h x (.tail _ hx)
      rwa [List.append_assoc] at this
  exact this [] rows [] red_nil h
theorem leads_tri : ∀ {found : List Lead}, (∀ q ∈ found, LeadOk p n q) → found.Pairwise Apart → ∀ {m : Nat}, (∀ q ∈ found, q.1 < m) → Tri p m (vecs found)
  | [], _, _, _, _ => .nil
  | q :: found, ho, ha, m, hm => by
    obtain ⟨a1, a2⟩ := List.pairwise_cons.mp ha
    refine .cons q.1 (hm q (.head _)) ⟨0, by show at_ q.2 q.1 - 1 = p * 0; rw [(ho q (.head _)).own]; omega⟩ (fun w hw => ?_) (leads_tri (fun x hx => ho x (.tail _ hx)) a2 fun x hx => hm x (.tail _ hx))
    obtain ⟨x, hx, rfl⟩ := List.mem_map.mp hw
    rw [(a1 x hx).1]
    exact ⟨0, by omega⟩
theorem Red.rank {rows : List (List Int)} {found : List Lead} (R : Red p n rows found) : IsRank p n (rows.map at_) found.length :=
  ⟨vecs found, by simp [vecs], (leads_tri R.ok R.ap fun q hq => (R.ok q hq).lt).indep, fun b hb => by
    obtain ⟨q, hq, rfl⟩ := List.mem_map.mp hb
    exact R.inR q hq, fun v hv => by
    obtain ⟨r, hr, rfl⟩ := List.mem_map.mp hv
    exact R.sp r hr⟩
theorem Prm.Inv (hp : Prm p) : LA.Inv p := fun a h => by
  have p0 : 0 < p := by have := hp.pos; omega
  have hr := mod_rng p0 a
  have hne : a % p ≠ 0 := fun z => h (Int.dvd_of_emod_eq_zero z)
  have h1 := hp.inv (a % p) (by omega) hr.2
  refine ⟨LA.inv p (a % p), ?_⟩
  have h2 := dvd_mod' p (a % p * LA.inv p (a % p))
  rw [h1] at h2
  have h3 := dvd_mul_r (LA.inv p (a % p)) (dvd_mod' p a)
  refine dvd_congr (Int.dvd_add h2 h3) ?_
  rw [Int.mul_sub, Int.mul_comm _ a, Int.mul_comm _ (a % p)]
  omega
theorem Prm.one (hp : Prm p) : ¬ p ∣ 1 := fun z => by
  have := hp.pos
  have := Int.le_of_dvd (by omega) z
  omega
theorem prm_of {p : Int} (h : p = 2 ∨ p = 3 ∨ p = 5 ∨ p = 7 ∨ p = 11) : Prm p := by
  have : ∀ p : Int, (p = 2 ∨ p = 3 ∨ p = 5 ∨ p = 7 ∨ p = 11) → ∀ a : Nat, 0 < a → (a : Int) < p → (a : Int) * inv p a % p = 1 := by
    intro p h a h0 h1
    have ha : a < 11 := by omega
    have : ∀ p ∈ [(2 : Int), 3, 5, 7, 11], ∀ a ∈ List.range 11, 0 < a → (a : Int) < p → (a : Int) * inv p a % p = 1 := by decide +kernel
    exact this p (by simpa using h) a (List.mem_range.mpr ha) h0 h1
  refine ⟨by omega, fun a h0 h1 => ?_⟩
  obtain ⟨k, rfl⟩ : ∃ k : Nat, a = (k : Int) := ⟨a.toNat, by omega⟩
  exact this p h k (by omega) h1
/-! ### the law's way: column by column -/
def heads (left : List (List Int)) (j : Nat) : List Nat := (List.range left.length).filter fun k => !decide (at_ (left.getD k []) j = 0)
/-- the first of 1 .. p - 1 that makes 1 of a -/
def turns (p a : Int) : List Int := ((List.range (p - 1).toNat).map fun k : Nat => 1 + (k : Int)).filter fun o => decide (o * a % p = 1)
def turn (p a : Int) : Int := (turns p a).headD 0
def clearS (p : Int) (n : Nat) (j : Nat) (st : List (List Int) × List (List Int)) : List (List Int) × List (List Int) :=
  match heads st.1 j with
  | [] => st
  | k :: _ =>
    let h0 := st.1.getD k []
    let head := h0.map fun x => turn p (at_ h0 j) * x % p
    ((st.1.eraseIdx k).map fun row => (List.range n).map fun i => (at_ row i - at_ row j * at_ head i) % p, st.2 ++ [head])
def clearN (p : Int) (n : Nat) (rows : List (List Int)) : Nat → List (List Int) × List (List Int)
  | 0 => (rows, [])
  | j + 1 => clearS p n j (clearN p n rows j)
def cleared (p : Int) (n : Nat) (rows : List (List Int)) : List (List Int) := (clearN p n rows n).2
structure Clr (p : Int) (n j : Nat) (rows : List (List Int)) (st : List (List Int) × List (List Int)) : Prop where
  wl : ∀ r ∈ st.1, Row p n r ∧ ∀ k, k < j → at_ r k = 0
  fr : ∀ r ∈ st.2, Row p n r
  ext : ∀ V : List Vec, (∀ v ∈ V, ∀ k, k < j → p ∣ v k) → Tri p n V → Tri p n (st.2.map at_ ++ V)
  inR : ∀ r, r ∈ st.1 ∨ r ∈ st.2 → InS p n (rows.map at_) (at_ r)
  sp : ∀ r ∈ rows, InS p n ((st.1 ++ st.2).map at_) (at_ r)
structure PrmT (p : Int) : Prop where
  pos : 2 ≤ p
  inv : ∀ a, 0 < a → a < p → turn p a * a % p = 1
theorem prmT_of {p : Int} (h : p = 2 ∨ p = 3 ∨ p = 5 ∨ p = 7 ∨ p = 11) : PrmT p := by
  have : ∀ p : Int, (p = 2 ∨ p = 3 ∨ p = 5 ∨ p = 7 ∨ p = 11) → ∀ a : Nat, 0 < a → (a : Int) < p → turn p a * (a : Int) % p = 1 := by
    intro p h a h0 h1
    have ha : a < 11 := by omega
    have : ∀ p ∈ [(2 : Int), 3, 5, 7, 11], ∀ a ∈ List.range 11, 0 < a → (a : Int) < p → turn p a * (a : Int) % p = 1 := by decide +kernel
    exact this p (by simpa using h) a (List.mem_range.mpr ha) h0 h1
  refine ⟨by omega, fun a h0 h1 => ?_⟩
  obtain ⟨k, rfl⟩ : ∃ k : Nat, a = (k : Int) := ⟨a.toNat, by omega⟩
  exact this p h k (by omega) h1
theorem clr_start {rows : List (List Int)} (h : ∀ r ∈ rows, Row p n r) : Clr p n 0 rows (rows, []) :=
  ⟨fun r hr => ⟨h r hr, fun k hk => absurd hk (by omega)⟩, (fun _ h => nomatch h), fun V _ t => t, fun r hr => .mem (List.mem_map.mpr ⟨r, hr.elim id (fun z => nomatch z), rfl⟩), fun r hr => .mem (List.mem_map.mpr ⟨r, List.mem_append_left _ hr, rfl⟩)⟩
theorem Clr.step (hp : PrmT p) {rows : List (List Int)} {st : List (List Int) × List (List Int)} {j : Nat} (hj : j < n) (C : Clr p n j rows st) : Clr p n (j + 1) rows (clearS p n j st) := by
  have p0 : 0 < p := by have := hp.pos; omega
  obtain ⟨left, found⟩ := st
  unfold clearS
  simp only
  cases e : heads left j with
  | nil =>
    refine ⟨fun r hr => ⟨(C.wl r hr).1, fun k hk => ?_⟩, C.fr, fun V hV t => C.ext V (fun v hv k hk => hV v hv k (by omega)) t, C.inR, C.sp⟩
    by_cases q : k < j
    · exact (C.wl r hr).2 k q
    · obtain rfl : k = j := by omega
      obtain ⟨i, hi, rfl⟩ := List.mem_iff_getElem.mp hr
      apply Classical.byContradiction
      intro ne
      have : i ∈ heads left k := List.mem_filter.mpr ⟨List.mem_range.mpr hi, by
        rw [show left.getD i [] = left[i] by rw [List.getD_eq_getElem?_getD, List.getElem?_eq_getElem hi]; rfl]
        simp [ne]⟩
      rw [e] at this
      cases this
  | cons k ks =>
    have hk : k ∈ heads left j := by rw [e]; exact .head _
    obtain ⟨hk1, hk2⟩ := List.mem_filter.mp hk
    have hkl : k < left.length := List.mem_range.mp hk1
    have hg : left.getD k [] = left[k] := by rw [List.getD_eq_getElem?_getD, List.getElem?_eq_getElem hkl]; rfl
    rw [hg] at hk2
    show Clr p n (j + 1) rows (((left.eraseIdx k).map fun row => (List.range n).map fun i => (at_ row i - at_ row j * at_ ((left.getD k []).map fun x => turn p (at_ (left.getD k []) j) * x % p) i) % p), found ++ [(left.getD k []).map fun x => turn p (at_ (left.getD k []) j) * x % p])
    rw [hg]
    have hne : at_ left[k] j ≠ 0 := by simpa using hk2
    have hmem : left[k] ∈ left := List.getElem_mem hkl
    have her : ∀ r, r ∈ left.eraseIdx k → r ∈ left := fun r h => List.mem_of_mem_eraseIdx h
    have hall : ∀ r, r ∈ left → r = left[k] ∨ r ∈ left.eraseIdx k := fun r h => by
      have : left = left.take k ++ left[k] :: left.drop (k + 1) := by
        rw [← List.drop_eq_getElem_cons hkl, List.take_append_drop]
      rw [this] at h
      rw [List.eraseIdx_eq_take_drop_succ]
      rcases List.mem_append.mp h with h | h
      · exact .inr (List.mem_append_left _ h)
      · rcases List.mem_cons.mp h with h | h
        · exact .inl h
        · exact .inr (List.mem_append_right _ h)
    obtain ⟨hrow, hzero⟩ := C.wl _ hmem
    have hrng := hrow.at_rng p0 j
    have hinv := hp.inv (at_ left[k] j) (by omega) hrng.2
    have hin : InS p n (rows.map at_) (at_ left[k]) := C.inR _ (.inl hmem)
    generalize left[k] = h0 at *
    show Clr p n (j + 1) rows (((left.eraseIdx k).map fun row => (List.range n).map fun i => (at_ row i - at_ row j * at_ (h0.map fun x => turn p (at_ h0 j) * x % p) i) % p), found ++ [h0.map fun x => turn p (at_ h0 j) * x % p])
    generalize turn p (at_ h0 j) = t at hinv ⊢
    have hHat : ∀ i, i < n → at_ (h0.map fun x => t * x % p) i = t * at_ h0 i % p := fun i hi => map_at (by rw [hrow.len]; exact hi)
    have hHrow : Row p n (h0.map fun x => t * x % p) := ⟨by rw [List.length_map, hrow.len], fun x hx => by
      obtain ⟨y, _, rfl⟩ := List.mem_map.mp hx
      exact mod_rng p0 _⟩
    generalize h0.map (fun x => t * x % p) = head at hHat hHrow ⊢
    have hHj : at_ head j = 1 := by rw [hHat j hj, hinv]
    have hHz : ∀ i, i < j → at_ head i = 0 := fun i hi => by rw [hHat i (by omega), hzero i hi]; simp
    have hHin : InS p n (rows.map at_) (at_ head) := (hin.smul t).congr fun i hi => by rw [hHat i hi]; exact dvd_mod _ _
    generalize left.eraseIdx k = left1 at her hall ⊢
    have hNat : ∀ row i, i < n → at_ ((List.range n).map fun i => (at_ row i - at_ row j * at_ head i) % p) i = (at_ row i - at_ row j * at_ head i) % p := fun row i hi => by
      rw [at_get (by simpa using hi), List.getElem_map, List.getElem_range]
    have hNew : ∀ row, Row p n ((List.range n).map fun i => (at_ row i - at_ row j * at_ head i) % p) := fun row => ⟨by simp, fun x hx => by
      obtain ⟨y, _, rfl⟩ := List.mem_map.mp hx
      exact mod_rng p0 _⟩
    refine ⟨fun r hr => ?_, fun r hr => ?_, fun V hV tV => ?_, fun r hr => ?_, fun r hr => ?_⟩
    · obtain ⟨r0, h, rfl⟩ := List.mem_map.mp hr
      refine ⟨hNew r0, fun i hi => ?_⟩
      show at_ ((List.range n).map fun i => (at_ r0 i - at_ r0 j * at_ head i) % p) i = 0
      rw [hNat r0 i (by omega)]
      by_cases q : i < j
      · rw [(C.wl r0 (her r0 h)).2 i q, hHz i q]
        simp
      · obtain rfl : i = j := by omega
        rw [hHj]
        simp
    · rcases List.mem_append.mp hr with h | h
      · exact C.fr r h
      · rw [List.mem_singleton.mp h]
        exact hHrow
    · show Tri p n ((found ++ [head]).map at_ ++ V)
      rw [List.map_append, List.append_assoc]
      refine C.ext (at_ head :: V) (fun v hv i hi => ?_) (.cons j hj ⟨0, by rw [hHj]; omega⟩ (fun v hv => hV v hv j (by omega)) tV)
      rcases List.mem_cons.mp hv with rfl | hv
      · rw [hHz i hi]
        exact ⟨0, by omega⟩
      · exact hV v hv i (by omega)
    · rcases hr with h | h
      · obtain ⟨r0, h1, rfl⟩ := List.mem_map.mp h
        refine ((C.inR r0 (.inl (her r0 h1))).sub hHin (at_ r0 j)).congr fun i hi => ?_
        show p ∣ at_ ((List.range n).map fun i => (at_ r0 i - at_ r0 j * at_ head i) % p) i - _
        rw [hNat r0 i hi]
        exact dvd_mod _ _
      · rcases List.mem_append.mp h with h | h
        · exact C.inR r (.inr h)
        · rw [List.mem_singleton.mp h]
          exact hHin
    · have M : ∀ x, x ∈ ((left1.map fun row => (List.range n).map fun i => (at_ row i - at_ row j * at_ head i) % p) ++ (found ++ [head])) → InS p n (((left1.map fun row => (List.range n).map fun i => (at_ row i - at_ row j * at_ head i) % p) ++ (found ++ [head])).map at_) (at_ x) := fun x hx => .mem (List.mem_map.mpr ⟨x, hx, rfl⟩)
      have mh := M head (List.mem_append_right _ (List.mem_append_right _ (.head _)))
      refine (C.sp r hr).trans fun w hw => ?_
      obtain ⟨x, hx, rfl⟩ := List.mem_map.mp hw
      rcases List.mem_append.mp hx with h | h
      · rcases hall x h with rfl | h
        · -- the head's row
          refine (mh.smul (at_ x j)).congr fun i hi => ?_
          show p ∣ at_ x i - at_ x j * at_ head i
          rw [hHat i hi]
          have a1 := dvd_mul_r (at_ x j) (dvd_mod' p (t * at_ x i))
          have a2 : p ∣ t * at_ x j - 1 := by
            have := dvd_mod' p (t * at_ x j)
            rw [hinv] at this
            exact this
          have a3 := dvd_mul_r (at_ x i) a2
          refine dvd_congr (Int.dvd_sub a1 a3) ?_
          rw [Int.mul_sub, Int.mul_sub, Int.mul_one]
          have : at_ x j * (t * at_ x i) = at_ x i * (t * at_ x j) := by
            rw [Int.mul_left_comm, Int.mul_left_comm (at_ x i), Int.mul_comm (at_ x i)]
          omega
        · have m1 := M _ (List.mem_append_left (found ++ [head]) (List.mem_map.mpr ⟨x, h, rfl⟩))
          refine (m1.add (mh.smul (at_ x j))).congr fun i hi => ?_
          show p ∣ at_ x i - (at_ ((List.range n).map fun i => (at_ x i - at_ x j * at_ head i) % p) i + at_ x j * at_ head i)
          rw [hNat x i hi]
          exact dvd_congr (dvd_mod' p (at_ x i - at_ x j * at_ head i)) (by omega)
      · exact M x (List.mem_append_right _ (List.mem_append_left _ h))
theorem clr_all (hp : PrmT p) {rows : List (List Int)} (h : ∀ r ∈ rows, Row p n r) : ∀ j, j ≤ n → Clr p n j rows (clearN p n rows j)
  | 0, _ => clr_start h
  | j + 1, hj => (clr_all hp h j (by omega)).step hp (by omega)
theorem cleared_rank (hp : PrmT p) {rows : List (List Int)} (h : ∀ r ∈ rows, Row p n r) : IsRank p n (rows.map at_) (cleared p n rows).length := by
  have C := clr_all hp h n (Nat.le_refl _)
  unfold cleared
  generalize clearN p n rows n = st at C
  have tri := C.ext [] (fun _ h => nomatch h) .nil
  rw [List.append_nil] at tri
  refine ⟨st.2.map at_, by simp, tri.indep, fun b hb => ?_, fun v hv => ?_⟩
  · obtain ⟨r, hr, rfl⟩ := List.mem_map.mp hb
    exact C.inR r (.inr hr)
  · obtain ⟨r, hr, rfl⟩ := List.mem_map.mp hv
    refine (C.sp r hr).trans fun w hw => ?_
    obtain ⟨x, hx, rfl⟩ := List.mem_map.mp hw
    rcases List.mem_append.mp hx with h | h
    · exact InS.zero.congr fun j hj => ⟨0, by rw [(C.wl x h).2 j hj]; omega⟩
    · exact .mem (List.mem_map.mpr ⟨x, h, rfl⟩)
/-- two ways, one rank -/
theorem ranks_same (hp : Prm p) (hq : PrmT p) {rows : List (List Int)} (h : ∀ r ∈ rows, Row p n r) : (redL p rows).length = (cleared p n rows).length :=
  (red_all hp h).rank.one hp.Inv hp.one (cleared_rank hq h) (fun v hv => .mem hv) fun v hv => .mem hv
/-- the leads but the last place's -/
def inner (w : Nat) (found : List Lead) : List Lead := found.filter fun q => !decide (q.1 = w)
theorem inner_rank {w : Nat} {full rows : List (List Int)} {found : List Lead} (R : Red p (w + 1) full found) (h1 : ∀ r ∈ full, ∃ a ∈ rows, ∀ j, j < w → at_ r j = at_ a j) (h2 : ∀ a ∈ rows, ∃ r ∈ full, ∀ j, j < w → at_ r j = at_ a j) :
    IsRank p w (rows.map at_) (inner w found).length := by
  have hmem : ∀ q, q ∈ inner w found → q ∈ found ∧ q.1 < w := fun q hq => by
    obtain ⟨a, b⟩ := List.mem_filter.mp hq
    have := (R.ok q a).lt
    have : q.1 ≠ w := by simpa using b
    exact ⟨a, by omega⟩
  refine ⟨vecs (inner w found), by simp [vecs], (leads_tri (fun q hq => R.ok q (hmem q hq).1) (R.ap.filter _) fun q hq => (hmem q hq).2).indep, fun b hb => ?_, fun v hv => ?_⟩
  · obtain ⟨q, hq, rfl⟩ := List.mem_map.mp hb
    refine ((R.inR q (hmem q hq).1).less (by omega)).trans fun x hx => ?_
    obtain ⟨r, hr, rfl⟩ := List.mem_map.mp hx
    obtain ⟨a, ha, e⟩ := h1 r hr
    exact (InS.mem (List.mem_map.mpr ⟨a, ha, rfl⟩)).congr fun j hj => ⟨0, by rw [e j hj]; omega⟩
  · obtain ⟨a, ha, rfl⟩ := List.mem_map.mp hv
    obtain ⟨r, hr, e⟩ := h2 a ha
    have : InS p w (vecs (inner w found)) (at_ r) := ((R.sp r hr).less (by omega)).trans fun x hx => by
      obtain ⟨q, hq, rfl⟩ := List.mem_map.mp hx
      by_cases e : q.1 = w
      · exact InS.zero.congr fun j hj => ⟨0, by show at_ q.2 j - 0 = p * 0; rw [(R.ok q hq).z j (by omega)]; omega⟩
      · exact .mem (List.mem_map.mpr ⟨q, List.mem_filter.mpr ⟨hq, by simp [e]⟩, rfl⟩)
    exact this.congr fun j hj => ⟨0, by rw [e j hj]; omega⟩
theorem inner_len {w m : Nat} : ∀ {found : List Lead}, (∀ q ∈ found, LeadOk p m q) → found.Pairwise Apart → found.length = (inner w found).length + if found.any (fun q => decide (q.1 = w)) then 1 else 0
  | [], _, _ => rfl
  | q :: found, ho, ha => by
    obtain ⟨a1, a2⟩ := List.pairwise_cons.mp ha
    have ih := inner_len (w := w) (fun x hx => ho x (.tail _ hx)) a2
    unfold inner at ih ⊢
    by_cases e : q.1 = w
    · have none : found.any (fun q => decide (q.1 = w)) = false := by
        rw [List.any_eq_false]
        intro x hx h
        have e2 : x.1 = w := by simpa using h
        have h1 := (a1 x hx).1
        have h2 := (ho x (.tail _ hx)).own
        rw [e, ← e2, h2] at h1
        omega
      rw [none] at ih
      rw [List.filter_cons_of_neg (by simp [e]), List.any_cons, decide_eq_true e]
      simp at ih ⊢
      omega
    · rw [List.filter_cons_of_pos (by simp [e]), List.any_cons, decide_eq_false e, Bool.false_or, List.length_cons, List.length_cons]
      omega
/-- no solution: the rank rises by the last place -/
theorem unsolvable (hp : Prm p) (hq : PrmT p) {w : Nat} {full rows : List (List Int)} (hf : ∀ r ∈ full, Row p (w + 1) r) (hr : ∀ r ∈ rows, Row p w r) (h1 : ∀ r ∈ full, ∃ a ∈ rows, ∀ j, j < w → at_ r j = at_ a j) (h2 : ∀ a ∈ rows, ∃ r ∈ full, ∀ j, j < w → at_ r j = at_ a j) :
    (redL p full).length = (cleared p (w + 1) full).length ∧ (redL p full).length = (cleared p w rows).length + if (redL p full).any (fun q => decide (q.1 = w)) then 1 else 0 := by
  have R := red_all hp hf
  have e1 := inner_len (w := w) R.ok R.ap
  have e2 : (inner w (redL p full)).length = (cleared p w rows).length := (inner_rank R h1 h2).one hp.Inv hp.one (cleared_rank hq hr) (fun v hv => .mem hv) fun v hv => .mem hv
  exact ⟨ranks_same hp hq hf, by rw [← e2]; exact e1⟩
end
end LA

set_option Elab.async false
set_option linter.all false
set_option maxRecDepth 100000
set_option maxHeartbeats 4000000
/-! rules of my own: a call by keywords alone, a text turned round, the state of the draws -/
namespace OS
open PySem PySem.Spec PyProof.Rows L2

/-! ### f(k = v, ..) -/
section
variable {X : Cx} {CX : CXT} {k : Nat} {f : Addr} {fd : FuncData} {ps ks : List Str} {sp : Sp} {E : XK} {x : Str} {p pos : Pos} {kws : List Keyword} {tk : TA} {g : List Value → List Value → List Value} {gV : List V → List V → List V}
theorem pe_callK0 (F : FnOk X.prog X.w X.K X.mg X.base CX k f fd ps sp) (hr : Room k X.A) (hg : Gl X x) (hm : X.mg x = some (.ref f)) (hk : PySem.W.keepIn X.K (.ref f) = true) (hb : KBinds X.K fd ps ks g gV) (hx : Passes CX X E)
    (hkw : PK X kws tk) (hall : (backToKw pos (keywordEach kws X.env)).all (·.1.isSome) = true := by rfl) (hks : (backToKw pos (keywordEach kws X.env)).filterMap (·.1) = ks := by rfl)
    (hdb : (x == ("__debug__" : Str)) = false := by decide)
    (hpl : ((backTo pos (starEach [] X.env)).any (·.1) || (backToKw pos (keywordEach kws X.env)).any (·.1.isNone)) = false := by rfl) :
    PE X (.Call (.Name x p) [] kws pos) (tCallK sp gV E tNil tk) := by
  refine ⟨fun pins s σ H Q I h => ?_⟩
  refine wpAny_Call_Name_kw (ld_glob I hg hm ?_ hdb)
  refine PySem.W.callWith_KW0 (h₀ := X.base) I.ok.mod.kin hk hall ?_ hpl
  refine thn (hkw.run pos pins s σ H _ I h) fun ws s2 ⟨zs, H2, I2, rz, q2⟩ => ⟨I2.kIn, ?_⟩
  rw [hks]
  exact run_fnk (us := []) (vs := []) F hr hb hx I2 .nil rz q2
end

/-! ### text[::-1] -/
def revS (z : Str) : Str := ⟨z.cps.toList.reverse.toArray⟩
theorem revS_list (z : Str) : (revS z).cps.toList = z.cps.toList.reverse := by simp [revS]
theorem revS_len (z : Str) : (revS z).length = z.length := by simp [revS, Str.length]
def tRevS (te : TE) : TE := fun σ H Q => te σ H fun x H1 => ∃ z, x = .str z ∧ z.length ≤ sizeLine ∧ Q (.str (revS z)) H1
theorem rev_idx (n : Nat) : Builtin.Str.strSliceIndices none none (-1) n = (List.range n).reverse := by
  show sliceRange ((n : Int) - 1) (-1) (-1) = _
  rw [PySem.W.krv_sliceRange, PySem.W.krv_range]
theorem pe_revS {X : Cx} {e : Expr} {te : TE} {k : Nat} {p1 p2 p3 pos : Pos} (he : PE X e te) : PE X (.Subscript e (.Slice none none (some (.UnaryOp .USub (.Constant (.int 1) k p1) p2)) p3) pos) (tRevS te) := by
  refine ⟨fun pins s σ H Q I h => ?_⟩
  refine Subscript_ (thn (he.run pins s σ H _ I h) fun v s1 ⟨x, H1, I1, r1, q1⟩ => ?_)
  obtain ⟨z, ex, hz, q⟩ := q1
  subst ex
  obtain ⟨t, rfl⟩ := r1
  have hst : PO X (some (.UnaryOp .USub (.Constant (.int 1) k p1) p2)) (tPart (tUn (rU fun i => .int (-i)) (tC (.int 1)))) := po_some (pe_un un_neg pe_int)
  refine wpAny_Slice (thn (po_none.run pins s1 σ H1 (fun o H2 => o = none ∧ H2 = H1) I1 ⟨rfl, rfl⟩) fun vl s2 ⟨l, H2, I2, pl, el, e2⟩ => ?_)
  subst el e2
  refine thn (po_none.run pins s2 σ H2 (fun o H3 => o = none ∧ H3 = H2) I2 ⟨rfl, rfl⟩) fun vu s3 ⟨u, H3, I3, pu, eu, e3⟩ => ?_
  subst eu e3
  refine thn (hst.run pins s3 σ H3 (fun o H4 => o = some (-1) ∧ H4 = H3) I3 ⟨1, rfl, -1, rfl, rfl, rfl⟩) fun vs s4 ⟨o, H4, I4, ps, eo, e4⟩ => ?_
  subst eo e4
  have I5 : Inv X pins σ H4 { s4 with heap := s4.heap.push { cls := .type "slice", data := .fields #[vl, vu, vs] } } := I4.kept (t' := s4.toks) fun b ob q => Heap.get?_push_of_some _ q
  show wpAny (model X.prog X.w) X.A (subscriptTail e (.Slice none none (some (.UnaryOp .USub (.Constant (.int 1) k p1) p2)) p3) (.str z t) (.ref s4.heap.objs.size)) (EP X pins σ Q) X.xe { s4 with heap := s4.heap.push { cls := .type "slice", data := .fields #[vl, vu, vs] } }
  obtain ⟨pl', e1, e1'⟩ := IsPart.raw pl
  obtain ⟨pu', e2, e2'⟩ := IsPart.raw pu
  obtain ⟨ps', e3, e3'⟩ := IsPart.raw ps
  subst e1 e2 e3
  refine tail_any (typeIs_str _ z t) slot_str_getitem.lookup ?_ (by with_unfolding_all rfl)
  refine wpAny_getItem_str_slice (l := pl') (u := pu') (st := ps') ⟨_, Heap.get?_push_size _ rfl, rfl, rfl⟩ (by rw [e3']; rfl) ?_
  have el : (pl'.map (·.1)) = none := e1'
  have eu : (pu'.map (·.1)) = none := e2'
  have es : (ps'.map (·.1)) = some (-1) := e3'
  unfold sliceMade slicePicked
  rw [el, eu, es]
  show Made.post (if ((-1 : Int) == 1 && _) = true then _ else Made.str ⟨((Builtin.Str.strSliceIndices none none (-1) z.length).filterMap (z.cps[·]?)).toArray⟩) (EP X pins σ Q) _
  rw [if_neg (by simp), rev_idx]
  have ez : (List.range z.length).reverse.filterMap (z.cps[·]?) = z.cps.toList.reverse := by
    rw [List.filterMap_reverse]
    show ((List.range z.cps.size).filterMap (z.cps[·]?)).reverse = _
    rw [PySem.W.krv_all]
  rw [ez]
  exact ⟨by
    show (revS z).length ≤ sizeLine
    rw [revS_len]
    exact hz, .str (revS z), H4, I5.tok _, ⟨_, rfl⟩, q⟩
end OS
namespace OS
open PySem PySem.Spec PyProof.Rows L2
/-! ### a[k] for a[k] += e, lists -/
def rGetL (K : PySem.W.Frag) : V → V → Hp → VK → Prop := fun o i H Q => ∃ p xs k v, o = .ref p ∧ i = .int k ∧ SqL K H p xs ∧ 0 ≤ k ∧ xs[k.toNat]? = some v ∧ Q v H
theorem pget_list {X : Cx} : PGet X (rGetL X.K) := by
  intro pins s σ H o i ov iv Q I ro ri h
  obtain ⟨p, xs, k, z, rfl, rfl, hq, h0, he, q⟩ := h
  cases ro
  obtain ⟨t, rfl⟩ := ri
  obtain ⟨its, r, pl, hz⟩ := I.list hq
  obtain ⟨w, ew, rw'⟩ := r.get he
  have hl := r.length
  have hn := line63
  have hlt : k.toNat < xs.length := (List.getElem?_eq_some_iff.mp he).1
  exact wpAny_getItem_list pl.isList h0 (by omega) (by simpa using ew) ⟨z, H, I, rw', q⟩
/-! ### the state of the draws -/
structure StA (H : Hp) (p a b : Addr) (zs ms : List Int) (n : Nat) : Prop where
  hp : H p = some (.lst [.ref a, .ref b, .int (n : Int)])
  ha : H a = some (.lst (zs.map V.int))
  hb : H b = some (.lst (ms.map V.int))
  ab : a ≠ b
  ne : ms ≠ []
  lz : zs.length ≤ 100
  lm : ms.length ≤ 100
def StAt (H : Hp) (p : Addr) (n : Nat) : Prop := ∃ a b zs ms, StA H p a b zs ms n
def Own (H : Hp) (p q : Addr) : Prop := q = p ∨ ∃ xs, H p = some (.lst xs) ∧ V.ref q ∈ xs
/-- o stands at q, and q is no part of the state at p -/
structure Sep (H : Hp) (p q : Addr) (o : HO) : Prop where
  at_ : H q = some o
  no : ¬ Own H p q
/-- what is no part of the state stays -/
def Nx (p : Addr) (H H' : Hp) : Prop := ∀ q o, Sep H p q o → Sep H' p q o
theorem Nx.refl (p : Addr) (H : Hp) : Nx p H H := fun _ _ h => h
theorem Nx.trans {p : Addr} {H H1 H2 : Hp} (a : Nx p H H1) (b : Nx p H1 H2) : Nx p H H2 := fun q o h => b q o (a q o h)
theorem StA.pa {H : Hp} {p a b : Addr} {zs ms : List Int} {n : Nat} (S : StA H p a b zs ms n) : p ≠ a := by
  refine ne_of S.hp S.ha fun z => ?_
  injection z with z
  cases zs <;> simp at z
theorem StA.pb {H : Hp} {p a b : Addr} {zs ms : List Int} {n : Nat} (S : StA H p a b zs ms n) : p ≠ b := by
  refine ne_of S.hp S.hb fun z => ?_
  injection z with z
  cases ms <;> simp at z
theorem own_iff {H : Hp} {p a b : Addr} {n : Int} (h : H p = some (.lst [.ref a, .ref b, .int n])) (q : Addr) : Own H p q ↔ q = p ∨ q = a ∨ q = b := by
  unfold Own
  rw [h]
  constructor
  · rintro (h | ⟨xs, e, m⟩)
    · exact .inl h
    · cases e
      simp at m
      exact .inr m
  · rintro (h | h)
    · exact .inl h
    · refine .inr ⟨_, rfl, ?_⟩
      simpa using h
theorem StA.mk' {H : Hp} {p a b : Addr} {zs ms : List Int} {n : Nat} (S : StA H p a b zs ms n) : StAt H p n := ⟨a, b, zs, ms, S⟩
theorem StAt.same {H H' : Hp} {p : Addr} {n : Nat} (S : StAt H p n) (s : Same H H') : StAt H' p n := by
  obtain ⟨a, b, zs, ms, S⟩ := S
  exact ⟨a, b, zs, ms, s _ _ S.hp, s _ _ S.ha, s _ _ S.hb, S.ab, S.ne, S.lz, S.lm⟩
theorem StAt.nx {H H' : Hp} {p : Addr} {n : Nat} (S : StAt H p n) (s : Same H H') : Nx p H H' := by
  obtain ⟨a, b, zs, ms, S⟩ := S
  intro q o h
  refine ⟨s _ _ h.at_, fun z => h.no ?_⟩
  rw [own_iff S.hp]
  exact (own_iff (s _ _ S.hp) q).mp z
theorem same_new {H : Hp} {p : Addr} {o : HO} (h : H p = none) : Same H (upd H p o) := fun b x e => by
  rw [upd_ne (ne_of_none e h)]
  exact e
theorem StAt.free {H : Hp} {p q : Addr} {n : Nat} (S : StAt H p n) (h : H q = none) : ¬ Own H p q := by
  obtain ⟨a, b, zs, ms, S⟩ := S
  rw [own_iff S.hp]
  rintro (z | z | z)
  · exact ne_of_none S.hp h z.symm
  · exact ne_of_none S.ha h z.symm
  · exact ne_of_none S.hb h z.symm
/-- a new object -/
theorem StAt.new {H : Hp} {p q : Addr} {n : Nat} {o : HO} (S : StAt H p n) (h : H q = none) : Sep (upd H q o) p q o := by
  refine ⟨upd_same, fun z => S.free h ?_⟩
  obtain ⟨a, b, zs, ms, S⟩ := S
  rw [own_iff S.hp]
  exact (own_iff (same_new h _ _ S.hp) q).mp z
theorem Sep.sq {K : PySem.W.Frag} {H : Hp} {p q : Addr} {xs : List V} (h : Sep H p q (.lst xs)) : SqL K H q xs := .inl (.inl h.at_)
theorem Sep.st {K : PySem.W.Frag} {H : Hp} {p q : Addr} {xs : List V} (h : Sep H p q (.tup xs)) : SqT K H q xs := .inl (.inl h.at_)
/-- an object of one's own is written -/
theorem StAt.put {H : Hp} {p q : Addr} {n : Nat} {o u : HO} (S : StAt H p n) (h : Sep H p q o) : StAt (upd H q u) p n := by
  obtain ⟨a, b, zs, ms, S⟩ := S
  have no := h.no
  rw [own_iff S.hp] at no
  refine ⟨a, b, zs, ms, ?_, ?_, ?_, S.ab, S.ne, S.lz, S.lm⟩
  · rw [upd_ne (fun z => no (.inl z.symm))]; exact S.hp
  · rw [upd_ne (fun z => no (.inr (.inl z.symm)))]; exact S.ha
  · rw [upd_ne (fun z => no (.inr (.inr z.symm)))]; exact S.hb
theorem own_put {H : Hp} {p q r : Addr} {u : HO} (h : r ≠ p) : Own (upd H r u) p q ↔ Own H p q := by
  unfold Own
  rw [upd_ne (fun z => h z.symm)]
theorem Sep.ne {H : Hp} {p q : Addr} {o : HO} (h : Sep H p q o) : q ≠ p := fun z => h.no (.inl z)
theorem Sep.put_same {H : Hp} {p q : Addr} {o u : HO} (h : Sep H p q o) : Sep (upd H q u) p q u := ⟨upd_same, fun z => h.no ((own_put h.ne).mp z)⟩
theorem Sep.put_ne {H : Hp} {p q r : Addr} {o o' u : HO} (h : Sep H p q o) (h' : Sep H p r o') (n : q ≠ r) : Sep (upd H r u) p q o := ⟨by rw [upd_ne n]; exact h.at_, fun z => h.no ((own_put h'.ne).mp z)⟩
/-! ### what the draws promise -/
structure DrawOk (n : Nat) (size : Int) : Prop where
  few : n ≤ 1000000000
  pos : 0 < size
  big : size < 1000000000000
def spDraw : Sp := fun vs H Q _ => ∃ (p : Addr) (n : Nat) (size : Int), vs = [.ref p, .int size] ∧ StAt H p n ∧ DrawOk n size ∧
  ∀ (r : Int) (H' : Hp), 0 ≤ r → r < size → StAt H' p (n + 1) → Nx p H H' → Q (.int r) H'
def spStart (K : PySem.W.Frag) : Sp := fun vs H Q _ => ∃ (a : Addr) (ns : List Int), vs = [.ref a] ∧ SqL K H a (ns.map V.int) ∧ ns.length ≤ 63 ∧ ∀ (p : Addr) (H' : Hp), Same H H' → H p = none → StAt H' p 0 → Q (.ref p) H'
end OS
namespace OS
open PySem PySem.Spec PyProof.Rows L2
/-! ### comprehensions whose parts change nothing that is tracked -/
theorem paired_snoc {α β : Type} {R : α → β → Prop} : ∀ {xs : List α} {ys : List β} {x : α} {y : β}, Paired R xs ys → R x y → Paired R (xs ++ [x]) (ys ++ [y])
  | _, _, _, _, .nil, h => .cons h .nil
  | _, _, _, _, .cons r t, h => .cons r (paired_snoc t h)
theorem take_snoc {α : Type} {xs : List α} {i : Nat} {a : α} (h : xs[i]? = some a) : xs.take (i + 1) = xs.take i ++ [a] := by
  rw [List.take_add_one, h]
  rfl
theorem same_put {H1 H : Hp} {D : Addr} {o : HO} (s : Same H1 H) (hD : H1 D = none) : Same H1 (upd H D o) := fun b x e => by
  rw [upd_ne (ne_of_none e hD)]
  exact s b x e
theorem same_put' {H1 H : Hp} {D : Addr} {o : HO} (s : Same H1 H) (hD : H1 D = none) : Same H1 (upd H D o) := same_put s hD
theorem small1e5 {n : Nat} (h : n ≤ 100000) : n < sizeLine := Nat.lt_of_le_of_lt h (by decide)
/-- over xs, where t holds: a value that stands in R to the item -/
theorem lc_rel {α : Type} {J : It} {n : Nat} {G : Hp → Prop} {Y : Nat → Hp → V → Hp → Prop} (w : Walk J n G Y) {xs : List α} (hn : xs.length = n) (hz : n ≤ 100000) (t : α → Bool) (R : Hp → α → V → Prop) {g : TG} {tt : TT} {te : TE} {vs : List Nat} {σ : L2.St} {H1 : Hp} {D : Addr} {Qd : Hp → Prop}
    (hD : H1 D = none) (hR : ∀ H H' a v acc, Same H1 H → H D = some (.lst acc) → (∀ b o, H b = some o → b ≠ D → H' b = some o) → R H a v → R H' a v) (hG : ∀ H, Same H1 H → G H)
    (hs : ∀ i a x H H' (Qk : V → Hp → Prop) (Qn : Hp → Prop), xs[i]? = some a → Same H1 H → Y i H x H' → (t a = true → ∀ y H4, R H4 a y → Same H H4 → Qk y H4) → (t a = false → ∀ H4, Same H H4 → Qn H4) →
      g x (wipe σ vs) H' fun σ2 H2 => wipe σ2 vs = wipe σ vs ∧ tt σ2 H2 fun b H3 => if b = true then te σ2 H3 Qk else Qn H3)
    (hd : ∀ H acc, Same H1 H → H D = some (.lst acc) → Paired (R H) (xs.filter t) acc → Qd H) :
    ∃ W : Nat → Nat → Hp → Prop, (∃ m, W 0 m (upd H1 D (.lst []))) ∧ ∀ i m H, W i m H →
      (J.stop i H ∧ Qd H) ∨ (J.go i H ∧ ∃ Nx : Hp → Prop, (∀ H', Nx H' → ∃ m', m' < m ∧ W (i + 1) m' H') ∧ ∀ x H', J.yld i H x H' → g x (wipe σ vs) H' fun σ2 H2 => wipe σ2 vs = wipe σ vs ∧ tt σ2 H2 fun b H3 =>
        if b = true then te σ2 H3 fun y H4 => ∃ acc, H4 D = some (.lst acc) ∧ acc.length < sizeLine ∧ Nx (upd H4 D (.lst (acc ++ [y]))) else Nx H3) := by
  refine lc_it w (fun i H => Same H1 H ∧ ∃ acc, H D = some (.lst acc) ∧ acc.length ≤ i ∧ Paired (R H) ((xs.take i).filter t) acc) ⟨same_new hD, [], upd_same, Nat.le_refl _, .nil⟩ (fun i H _ h => hG H h.1) ?_ ?_
  · intro i x H H' hi ⟨sm, acc, hacc, hl, pr⟩ hy
    have hx : xs[i]? = some xs[i] := List.getElem?_eq_getElem (by omega)
    have ht := take_snoc hx
    refine hs i xs[i] x H H' _ _ hx sm hy (fun e y H4 hr s4 => ?_) (fun e H4 s4 => ?_)
    · have h4 := s4 _ _ hacc
      refine ⟨acc, h4, Nat.lt_of_le_of_lt hl (small1e5 (by omega)), same_put (sm.trans s4) hD, acc ++ [y], upd_same, by simp; omega, ?_⟩
      rw [ht, List.filter_append, show [xs[i]].filter t = [xs[i]] by simp [e]]
      have kp : ∀ b o, H4 b = some o → b ≠ D → (upd H4 D (.lst (acc ++ [y]))) b = some o := fun b o q z => by rw [upd_ne z]; exact q
      exact paired_snoc (L2.Paired.mapP pr fun a v q => hR _ _ a v acc (sm.trans s4) h4 kp (hR _ _ a v acc sm hacc (fun b o q _ => s4 b o q) q)) (hR _ _ _ _ acc (sm.trans s4) h4 kp hr)
    · refine ⟨sm.trans s4, acc, s4 _ _ hacc, by omega, ?_⟩
      rw [ht, List.filter_append, show [xs[i]].filter t = [] by simp [e], List.append_nil]
      exact L2.Paired.mapP pr fun a v q => hR _ _ a v acc sm hacc (fun b o q _ => s4 b o q) q
  · intro H ⟨sm, acc, hacc, hl, pr⟩
    rw [List.take_of_length_le (by omega)] at pr
    exact hd H acc sm hacc pr
theorem paired_fn {α β : Type} {F : α → β} : ∀ {xs : List α} {ys : List β}, Paired (fun a v => v = F a) xs ys → ys = xs.map F
  | _, _, .nil => rfl
  | _, _, .cons r t => by rw [r, paired_fn t]; rfl
/-- .. a value that is told by the item -/
theorem lc_fn {α : Type} {J : It} {n : Nat} {G : Hp → Prop} {Y : Nat → Hp → V → Hp → Prop} (w : Walk J n G Y) {xs : List α} (hn : xs.length = n) (hz : n ≤ 100000) (t : α → Bool) (F : α → V) {g : TG} {tt : TT} {te : TE} {vs : List Nat} {σ : L2.St} {H1 : Hp} {D : Addr} {Qd : Hp → Prop}
    (hD : H1 D = none) (hG : ∀ H, Same H1 H → G H)
    (hs : ∀ i a x H H' (Qk : V → Hp → Prop) (Qn : Hp → Prop), xs[i]? = some a → Same H1 H → Y i H x H' → (t a = true → ∀ H4, Same H H4 → Qk (F a) H4) → (t a = false → ∀ H4, Same H H4 → Qn H4) →
      g x (wipe σ vs) H' fun σ2 H2 => wipe σ2 vs = wipe σ vs ∧ tt σ2 H2 fun b H3 => if b = true then te σ2 H3 Qk else Qn H3)
    (hd : ∀ H, Same H1 H → H D = some (.lst ((xs.filter t).map F)) → Qd H) :
    ∃ W : Nat → Nat → Hp → Prop, (∃ m, W 0 m (upd H1 D (.lst []))) ∧ ∀ i m H, W i m H →
      (J.stop i H ∧ Qd H) ∨ (J.go i H ∧ ∃ Nx : Hp → Prop, (∀ H', Nx H' → ∃ m', m' < m ∧ W (i + 1) m' H') ∧ ∀ x H', J.yld i H x H' → g x (wipe σ vs) H' fun σ2 H2 => wipe σ2 vs = wipe σ vs ∧ tt σ2 H2 fun b H3 =>
        if b = true then te σ2 H3 fun y H4 => ∃ acc, H4 D = some (.lst acc) ∧ acc.length < sizeLine ∧ Nx (upd H4 D (.lst (acc ++ [y]))) else Nx H3) := by
  refine lc_rel w hn hz t (fun _ a v => v = F a) hD (fun _ _ _ _ _ _ _ _ e => e) hG (fun i a x H H' Qk Qn h1 h2 h3 h4 h5 => hs i a x H H' Qk Qn h1 h2 h3 (fun e H4 s => h4 e _ H4 rfl s) h5) fun H acc s e p => ?_
  rw [paired_fn p] at e
  exact hd H s e
/-- .. all of xs -/
theorem lc_all {α : Type} {J : It} {n : Nat} {G : Hp → Prop} {Y : Nat → Hp → V → Hp → Prop} (w : Walk J n G Y) {xs : List α} (hn : xs.length = n) (hz : n ≤ 100000) (F : α → V) {g : TG} {te : TE} {vs : List Nat} {σ : L2.St} {H1 : Hp} {D : Addr} {Qd : Hp → Prop}
    (hD : H1 D = none) (hG : ∀ H, Same H1 H → G H)
    (hs : ∀ i a x H H' (Qk : V → Hp → Prop), xs[i]? = some a → Same H1 H → Y i H x H' → (∀ H4, Same H H4 → Qk (F a) H4) → g x (wipe σ vs) H' fun σ2 H2 => wipe σ2 vs = wipe σ vs ∧ te σ2 H2 Qk)
    (hd : ∀ H, Same H1 H → H D = some (.lst (xs.map F)) → Qd H) :
    ∃ W : Nat → Nat → Hp → Prop, (∃ m, W 0 m (upd H1 D (.lst []))) ∧ ∀ i m H, W i m H →
      (J.stop i H ∧ Qd H) ∨ (J.go i H ∧ ∃ Nx : Hp → Prop, (∀ H', Nx H' → ∃ m', m' < m ∧ W (i + 1) m' H') ∧ ∀ x H', J.yld i H x H' → g x (wipe σ vs) H' fun σ2 H2 => wipe σ2 vs = wipe σ vs ∧ tYes σ2 H2 fun b H3 =>
        if b = true then te σ2 H3 fun y H4 => ∃ acc, H4 D = some (.lst acc) ∧ acc.length < sizeLine ∧ Nx (upd H4 D (.lst (acc ++ [y]))) else Nx H3) := by
  refine lc_it w (fun i H => Same H1 H ∧ H D = some (.lst ((xs.take i).map F))) ⟨same_new hD, upd_same⟩ (fun i H _ h => hG H h.1) ?_ ?_
  · intro i x H H' hi ⟨sm, hacc⟩ hy
    have hx : xs[i]? = some xs[i] := List.getElem?_eq_getElem (by omega)
    refine hs i xs[i] x H H' _ hx sm hy (fun H4 s4 => ?_)
    refine ⟨_, s4 _ _ hacc, ?_, same_put (sm.trans s4) hD, ?_⟩
    · rw [List.length_map]
      exact small1e5 (Nat.le_trans (List.length_take_le _ _) (by omega))
    · rw [upd_same, take_snoc hx, List.map_append]
      rfl
  · intro H ⟨sm, hacc⟩
    rw [List.take_of_length_le (by omega)] at hacc
    exact hd H sm hacc
end OS
namespace OS
open PySem PySem.Spec PyProof.Rows L2
/-! ### data in lists: == and != -/
def okS (z : Str) : Prop := PyData.canLay0 (.str z) = true
theorem dp_all {α : Type} {K : PySem.W.Frag} {H : Hp} {f : α → V} {g : α → PyData} (h : ∀ a, Dp K H (f a) (g a)) : ∀ xs : List α, DpAll K H (xs.map f) (xs.map g)
  | [] => .nil
  | a :: r => .cons (h a) (dp_all h r)
theorem dp_strs {K : PySem.W.Frag} {H : Hp} {a : Addr} {xs : List Str} (h : SqL K H a (xs.map V.str)) : Dp K H (.ref a) (.list (xs.map .str)) := .lst h (dp_all (fun x => .str x) xs)
theorem dp_ints {K : PySem.W.Frag} {H : Hp} {a : Addr} {xs : List Int} (h : SqL K H a (xs.map V.int)) : Dp K H (.ref a) (.list (xs.map .int)) := .lst h (dp_all (fun x => .int x) xs)
theorem lay_all {α : Type} {g : α → PyData} : ∀ {xs : List α}, (∀ a ∈ xs, (g a).canLay0 = true) → PyData.canLayAll0 (xs.map g) = true
  | [], _ => rfl
  | a :: r, h => by
    show ((g a).canLay0 && PyData.canLayAll0 (r.map g)) = true
    rw [h a (.head _), lay_all fun b hb => h b (.tail _ hb)]
    rfl
theorem depth_all {α : Type} {g : α → PyData} {n : Nat} : ∀ {xs : List α}, (∀ a ∈ xs, (g a).depth ≤ n) → PyData.depthAll (xs.map g) ≤ n
  | [], _ => Nat.zero_le _
  | a :: r, h => by
    show max (g a).depth (PyData.depthAll (r.map g)) ≤ n
    exact Nat.max_le.mpr ⟨h a (.head _), depth_all fun b hb => h b (.tail _ hb)⟩
theorem shaped_of {d : PyData} {n : Nat} (h : d.canLay0 = true) (hd : d.depth ≤ n) (hn : n ≤ 64) : SeqAt.shaped d = true := by
  show (d.canLay0 && decide (d.depth ≤ 64)) = true
  rw [h, decide_eq_true (Nat.le_trans hd hn)]
  rfl
theorem shaped_strs {xs : List Str} (h : ∀ x ∈ xs, okS x) : SeqAt.shaped (.list (xs.map .str)) = true :=
  shaped_of (n := 1) (lay_all (g := .str) h) (Nat.succ_le_succ (depth_all (n := 0) fun _ _ => Nat.le_refl 0)) (by decide)
theorem shaped_ints {xs : List Int} : SeqAt.shaped (.list (xs.map .int)) = true :=
  shaped_of (n := 1) (lay_all (g := .int) fun _ _ => rfl) (Nat.succ_le_succ (depth_all (n := 0) fun _ _ => Nat.le_refl 0)) (by decide)
theorem shaped_nil : SeqAt.shaped (.list []) = true := rfl
theorem dp_nil {K : PySem.W.Frag} {H : Hp} {a : Addr} (h : SqL K H a []) : Dp K H (.ref a) (.list []) := .lst h .nil
theorem eqv_nil (ds : List PyData) : PyData.eqv (.list ds) (.list []) = ds.isEmpty := by
  cases ds <;> rfl
/-- a list of ints against [] -/
theorem ints_ne_nil {K : PySem.W.Frag} {H : Hp} {a p : Addr} {xs : List Int} {Q : VK} (h : SqL K H a (xs.map V.int)) (h0 : SqL K H p []) (q : Q (.bl (!xs.isEmpty)) H) : rNeD K (.ref a) (.ref p) H Q := by
  refine ⟨_, _, dp_ints h, dp_nil h0, shaped_ints, shaped_nil, ?_⟩
  rw [eqv_nil]
  cases xs <;> exact q
theorem strs_ne_nil {K : PySem.W.Frag} {H : Hp} {a p : Addr} {xs : List Str} {Q : VK} (h : SqL K H a (xs.map V.str)) (ho : ∀ x ∈ xs, okS x) (h0 : SqL K H p []) (q : Q (.bl (!xs.isEmpty)) H) : rNeD K (.ref a) (.ref p) H Q := by
  refine ⟨_, _, dp_strs h, dp_nil h0, shaped_strs ho, shaped_nil, ?_⟩
  rw [eqv_nil]
  cases xs <;> exact q
theorem strs_eq_nil {K : PySem.W.Frag} {H : Hp} {a p : Addr} {xs : List Str} {Q : VK} (h : SqL K H a (xs.map V.str)) (ho : ∀ x ∈ xs, okS x) (h0 : SqL K H p []) (q : Q (.bl xs.isEmpty) H) : rEqD K (.ref a) (.ref p) H Q := by
  refine ⟨_, _, dp_strs h, dp_nil h0, shaped_strs ho, shaped_nil, ?_⟩
  rw [eqv_nil]
  cases xs <;> exact q
end OS
namespace OS
open PySem PySem.Spec PyProof.Rows L2
/-! ### the state's own turns -/
theorem filter_empty {α : Type} {t : α → Bool} : ∀ l : List α, (l.filter fun c => !t c).isEmpty = l.all t
  | [] => rfl
  | a :: r => by
    have ih := filter_empty (t := t) r
    cases e : t a
    · simp [e]
    · rw [List.filter_cons_of_neg (by simp [e]), List.all_cons, e, Bool.true_and]
      exact ih
theorem cutV1 (xs : List V) : cutV xs (some 1) none = xs.drop 1 := by
  unfold cutV
  rw [show HT.sIx xs.length 0 (some 1) = min 1 xs.length from HT.sIx_nat xs.length 0 1, HT.sIx_none]
  cases xs with
  | nil => rfl
  | cons x r =>
    rw [show min 1 (x :: r).length = 1 by
      rw [List.length_cons]
      omega]
    show (List.take ((x :: r).length - 1) r) = r
    rw [List.length_cons, Nat.add_sub_cancel]
    exact List.take_length
section
variable {H H' : Hp} {p a b r : Addr} {zs zs' ms : List Int} {n : Nat}
theorem StA.same (S : StA H p a b zs ms n) (s : Same H H') : StA H' p a b zs ms n := ⟨s _ _ S.hp, s _ _ S.ha, s _ _ S.hb, S.ab, S.ne, S.lz, S.lm⟩
theorem StA.nx (S : StA H p a b zs ms n) (s : Same H H') : Nx p H H' := S.mk'.nx s
/-- all but p and a stays -/
theorem StA.nx_put (S : StA H p a b zs ms n) {x : Addr} {k : Int} (s : ∀ q o, H q = some o → q ≠ p → q ≠ a → H' q = some o) (hp : H' p = some (.lst [.ref x, .ref b, .int k])) (hx : x = a ∨ H x = none) : Nx p H H' := by
  intro q o h
  have no := h.no
  rw [own_iff S.hp] at no
  refine ⟨s _ _ h.at_ (fun z => no (.inl z)) (fun z => no (.inr (.inl z))), ?_⟩
  rw [own_iff hp]
  rintro (z | z | z)
  · exact no (.inl z)
  · rcases hx with e | e
    · exact no (.inr (.inl (z.trans e)))
    · exact ne_of_none h.at_ e z
  · exact no (.inr (.inr z))
theorem StA.bump (S : StA H p a b zs ms n) : StA (upd H p (.lst [.ref a, .ref b, .int ((n : Int) + 1)])) p a b zs ms (n + 1) := by
  refine ⟨upd_same, ?_, ?_, S.ab, S.ne, S.lz, S.lm⟩
  · rw [upd_ne S.pa.symm]; exact S.ha
  · rw [upd_ne S.pb.symm]; exact S.hb
theorem StA.bump_nx (S : StA H p a b zs ms n) {k : Int} : Nx p H (upd H p (.lst [.ref a, .ref b, .int k])) :=
  S.nx_put (fun q o e z _ => by rw [upd_ne z]; exact e) upd_same (.inl rfl)
theorem StA.swap (S : StA H p a b zs ms n) (hr : H r = none) (hz : zs'.length ≤ 100) : StA (upd (upd H r (.lst (zs'.map V.int))) p (.lst [.ref r, .ref b, .int (n : Int)])) p r b zs' ms n := by
  have rp : r ≠ p := (ne_of_none S.hp hr).symm
  have rb : r ≠ b := (ne_of_none S.hb hr).symm
  refine ⟨upd_same, ?_, ?_, rb, S.ne, hz, S.lm⟩
  · rw [upd_ne rp, upd_same]
  · rw [upd_ne S.pb.symm, upd_ne rb.symm]; exact S.hb
theorem StA.swap_nx (S : StA H p a b zs ms n) (hr : H r = none) : Nx p H (upd (upd H r (.lst (zs'.map V.int))) p (.lst [.ref r, .ref b, .int (n : Int)])) :=
  S.nx_put (fun q o e z _ => by rw [upd_ne z, upd_ne (ne_of_none e hr)]; exact e) upd_same (.inr hr)
theorem StA.seta (S : StA H p a b zs ms n) (hz : zs'.length ≤ 100) : StA (upd H a (.lst (zs'.map V.int))) p a b zs' ms n := by
  refine ⟨?_, upd_same, ?_, S.ab, S.ne, hz, S.lm⟩
  · rw [upd_ne S.pa]; exact S.hp
  · rw [upd_ne S.ab.symm]; exact S.hb
theorem StA.seta_nx (S : StA H p a b zs ms n) : Nx p H (upd H a (.lst (zs'.map V.int))) :=
  S.nx_put (fun q o e _ z => by rw [upd_ne z]; exact e) (by rw [upd_ne S.pa]; exact S.hp) (.inl rfl)
end
theorem pow5 (x : Int) : 0 ≤ (x ^ 5) % 2147483647 ∧ (x ^ 5) % 2147483647 < 2147483647 := ⟨Int.emod_nonneg _ (by decide), Int.emod_lt_of_pos _ (by decide)⟩
end OS
namespace OS
open PySem PySem.Spec PyProof.Rows L2
theorem at0 {α : Type} {x : α} {l : List α} : atI (x :: l) 0 = some x := atI_nat (j := 0) rfl
theorem ix0 {α : Type} {x : α} {l : List α} : ixN (x :: l).length 0 = some 0 := by
  unfold ixN
  rw [if_pos (by decide), if_pos (by rw [List.length_cons]; omega)]
  rfl
end OS
namespace OS
open PySem PySem.Spec PyProof.Rows L2
/-- a statement, then the rest: Z holds between them, whatever way led there -/
theorem seq_cut {t U : TS} {D : Ends} {σ : L2.St} {H : Hp} (Z : L2.St → Hp → Prop) (h : ∀ Qz : L2.St → Hp → Prop, (∀ σ' H', Z σ' H' → Qz σ' H') → t { D with nx := Qz } σ H) (hz : ∀ σ' H', Z σ' H' → U D σ' H') : tSeq t U D σ H := h (U D) hz
end OS
namespace OS
open PySem PySem.Spec PyProof.Rows L2
/-! ### joined texts -/
theorem glue_fold : ∀ (r : List Str) (acc : Array Nat), (r.foldl (fun acc p => acc ++ Str.empty.cps ++ p.cps) acc).toList = acc.toList ++ (r.map fun p => p.cps.toList).flatten
  | [], acc => by simp
  | p :: r, acc => by
    rw [List.foldl_cons, glue_fold r]
    simp [Str.empty]
theorem join0 (ys : List Str) : (Txt.join Str.empty ys).cps.toList = (ys.map fun p => p.cps.toList).flatten := by
  unfold Txt.join Builtin.Str.glued
  cases ys with
  | nil => simp [Str.empty]
  | cons y r =>
    show (r.foldl _ y.cps).toList = _
    rw [glue_fold r]
    rfl
/-- signs one by one -/
theorem join_signs (cs : List Nat) : (Txt.join Str.empty (cs.map fun c => ⟨#[c]⟩)).cps.toList = cs := by
  rw [join0, List.map_map]
  induction cs with
  | nil => rfl
  | cons c r ih => simpa using ih
theorem signs_len (cs : List Nat) : ((cs.map fun c => (⟨#[c]⟩ : Str)).map (·.length)).sum = cs.length := by
  induction cs with
  | nil => rfl
  | cons c r ih =>
    rw [List.map_cons, List.map_cons, List.sum_cons, ih, List.length_cons]
    show 1 + r.length = _
    omega
theorem str_list_len (z : Str) : z.cps.toList.length = z.length := by simp [Str.length]
theorem app_signs (a b : Str) : (a ++ b).cps.toList = a.cps.toList ++ b.cps.toList := cps_toList_append a b
theorem app_len (a b : Str) : (a ++ b).length = a.length + b.length := by
  rw [← str_list_len, app_signs, List.length_append, str_list_len, str_list_len]
end OS
namespace OS
open PySem PySem.Spec PyProof.Rows L2
/-! ### comprehensions whose parts draw -/
theorem lc_dr {J : It} {n : Nat} {G : Hp → Prop} {Y : Nat → Hp → V → Hp → Prop} (w : Walk J n G Y) (hz : n ≤ 100000) (p : Addr) (m0 c : Nat) (R : Hp → V → Prop) {g : TG} {te : TE} {vs : List Nat} {σ : L2.St} {H1 : Hp} {D : Addr} {Qd : Hp → Prop}
    (S : StAt H1 p m0) (hD : H1 D = none) (hR : ∀ H H' y acc, Sep H p D (.lst acc) → (∀ q o, Sep H p q o → q ≠ D → Sep H' p q o) → R H y → R H' y) (hG : ∀ H, Nx p H1 H → G H)
    (hs : ∀ i m x H H' (Qk : V → Hp → Prop), i < n → StAt H p m → m ≤ m0 + c * i → Nx p H1 H → (∃ acc, Sep H p D (.lst acc)) → Y i H x H' → (∀ y H4 m', R H4 y → StAt H4 p m' → m' ≤ m + c → Nx p H H4 → Qk y H4) → g x (wipe σ vs) H' fun σ2 H2 => wipe σ2 vs = wipe σ vs ∧ te σ2 H2 Qk)
    (hd : ∀ H m acc, StAt H p m → m ≤ m0 + c * n → Nx p H1 H → Sep H p D (.lst acc) → acc.length = n → (∀ y ∈ acc, R H y) → Qd H) :
    ∃ W : Nat → Nat → Hp → Prop, (∃ m, W 0 m (upd H1 D (.lst []))) ∧ ∀ i m H, W i m H →
      (J.stop i H ∧ Qd H) ∨ (J.go i H ∧ ∃ Nx : Hp → Prop, (∀ H', Nx H' → ∃ m', m' < m ∧ W (i + 1) m' H') ∧ ∀ x H', J.yld i H x H' → g x (wipe σ vs) H' fun σ2 H2 => wipe σ2 vs = wipe σ vs ∧ tYes σ2 H2 fun b H3 =>
        if b = true then te σ2 H3 fun y H4 => ∃ acc, H4 D = some (.lst acc) ∧ acc.length < sizeLine ∧ Nx (upd H4 D (.lst (acc ++ [y]))) else Nx H3) := by
  refine lc_it w (fun i H => ∃ m acc, StAt H p m ∧ m ≤ m0 + c * i ∧ Nx p H1 H ∧ Sep H p D (.lst acc) ∧ acc.length = i ∧ ∀ y ∈ acc, R H y) ⟨m0, [], S.same (same_new hD), Nat.le_add_right _ _, S.nx (same_new hD), S.new hD, rfl, fun y h => nomatch h⟩ (fun i H _ ⟨_, _, _, _, x, _⟩ => hG H x) ?_ ?_
  · intro i x H H' hi ⟨m, acc, S', hm, nx, sD, hl, hr⟩ hy
    refine hs i m x H H' _ hi S' hm nx ⟨_, sD⟩ hy fun y H4 m' ry S4 hm' nx4 => ?_
    have sD4 := nx4 _ _ sD
    refine ⟨acc, sD4.at_, by rw [hl]; exact small1e5 (by omega), m', acc ++ [y], S4.put sD4, by rw [Nat.mul_succ]; omega, ?_, sD4.put_same, by simp [hl], ?_⟩
    · intro q o hq
      have hq4 := nx4 _ _ (nx q o hq)
      have : q ≠ D := ne_of_none hq.at_ hD
      exact hq4.put_ne sD4 this
    · have kp : ∀ q o, Sep H4 p q o → q ≠ D → Sep (upd H4 D (.lst (acc ++ [y]))) p q o := fun q o h n => h.put_ne sD4 n
      intro z hz'
      rcases List.mem_append.mp hz' with h | h
      · exact hR _ _ z acc sD4 kp (hR _ _ z acc sD (fun q o h _ => nx4 q o h) (hr z h))
      · rw [List.mem_singleton.mp h]
        exact hR _ _ y acc sD4 kp ry
  · intro H ⟨m, acc, S', hm, nx, sD, hl, hr⟩
    exact hd H m acc S' hm nx sD hl hr
end OS
namespace OS
open PySem PySem.Spec PyProof.Rows L2
/-- a place to stop: a statement whose ways meet behind it -/
structure Stop (t u : TS) (D : Ends) (σ : L2.St) (H : Hp) : Prop where
  go : tSeq t u D σ H
theorem pss_stop {X : Cx} {st : Stmt} {rest : List Stmt} {t u : TS} (h1 : PS X st t) (h2 : PSs X rest u) : PSs X (st :: rest) (Stop t u) := ⟨fun pins s σ H D I h => (pss_cons h1 h2).run pins s σ H D I h.go⟩
theorem Stop.cut {t U : TS} {D : Ends} {σ : L2.St} {H : Hp} (Z : L2.St → Hp → Prop) (h : ∀ Qz : L2.St → Hp → Prop, (∀ σ' H', Z σ' H' → Qz σ' H') → t { D with nx := Qz } σ H) (hz : ∀ σ' H', Z σ' H' → U D σ' H') : Stop t U D σ H := ⟨seq_cut Z h hz⟩
end OS
namespace OS
open PySem PySem.Spec PyProof.Rows L2
theorem at_pick {α : Type} {l : List α} {i : Int} (h0 : 0 ≤ i) (h1 : i < l.length) : ∃ v, atI l i = some v ∧ v ∈ l := by
  obtain ⟨n, rfl⟩ := Int.eq_ofNat_of_zero_le h0
  have hn : n < l.length := by omega
  exact ⟨l[n], atI_nat (List.getElem?_eq_getElem hn), List.getElem_mem hn⟩
/-- a sign of a text -/
theorem sign_pick {z : Str} {i : Int} (h0 : 0 ≤ i) (h1 : i < z.length) : ∃ c, atI z.cps.toList i = some c ∧ c ∈ z.cps.toList := at_pick h0 (by rw [str_list_len]; exact h1)
end OS
namespace OS
open PySem PySem.Spec PyProof.Rows L2
theorem vals_rep : ∀ n : Nat, Vals (List.replicate n V.non) (List.replicate n Value.none)
  | 0 => .nil
  | n + 1 => .cons rfl (vals_rep n)
theorem Vals.len1 {vs : List V} {us : List Value} (h : Vals vs us) : vs.length = us.length := L2.Vals.length h
end OS
namespace OS
open PySem PySem.Spec PyProof.Rows L2
/-- a new object, the heap told by what stands -/
theorem newO {H : Hp} {o : HO} {Q : VK} (h : ∀ (p : Addr) (H' : Hp), H p = none → Same H H' → H' p = some o → Q (.ref p) H') : ∀ p, H p = none → Q (.ref p) (upd H p o) := fun p hp => h p _ hp (same_new hp) upd_same
theorem newS {H : Hp} {o : HO} {Q : VK} {p : Addr} {n : Nat} (S : StAt H p n) (h : ∀ (q : Addr) (H' : Hp), H q = none → StAt H' p n → Nx p H H' → Sep H' p q o → Q (.ref q) H') : ∀ q, H q = none → Q (.ref q) (upd H q o) := fun q hq => h q _ hq (S.same (same_new hq)) (S.nx (same_new hq)) (S.new hq)
theorem Sep.of_new {H H' : Hp} {p q : Addr} {n : Nat} {o : HO} (S : StAt H p n) (s : Same H H') (hq : H q = none) (h : H' q = some o) : Sep H' p q o := by
  obtain ⟨a, b, zs, ms, S⟩ := S
  refine ⟨h, fun z => ?_⟩
  rw [own_iff (s _ _ S.hp)] at z
  rcases z with z | z | z
  · exact ne_of_none S.hp hq z.symm
  · exact ne_of_none S.ha hq z.symm
  · exact ne_of_none S.hb hq z.symm
end OS
namespace OS
open PySem PySem.Spec PyProof.Rows L2
/-! ### rules whose new object comes with what stands, not with the heap's term -/
theorem peImp {X : Cx} {e : Expr} {t t' : TE} (h : PE X e t) (k : ∀ σ H Q, t' σ H Q → t σ H Q) : PE X e t' := ⟨fun pins s σ H Q I q => h.run pins s σ H Q I (k σ H Q q)⟩
def tMonoA (t : TA) : TA := fun σ H Q => ∃ Q0 : List V → Hp → Prop, t σ H Q0 ∧ ∀ xs H1, Q0 xs H1 → Q xs H1
theorem pa_mono {X : Cx} {es : List Expr} {t : TA} (h : PA X es t) : PA X es (tMonoA t) := ⟨fun pos pins s σ H Q I ⟨Q0, q0, k⟩ => thn (h.run pos pins s σ H Q0 I q0) fun us s1 ⟨xs, H1, I1, r, q⟩ => ⟨xs, H1, I1, r, k xs H1 q⟩⟩
/-- what follows a new object o -/
def NewO (H : Hp) (o : HO) (Q : VK) : Prop := ∀ (p : Addr) (H' : Hp), H p = none → Same H H' → H' p = some o → Q (.ref p) H'
theorem NewO.to {H : Hp} {o : HO} {Q : VK} (h : NewO H o Q) : ∀ p, H p = none → Q (.ref p) (upd H p o) := fun p hp => h p _ hp (same_new hp) upd_same
def tLstO (t : TA) : TE := fun σ H Q => t σ H fun xs H1 => xs.length ≤ sizeLine ∧ NewO H1 (.lst xs) Q
def tTupO (t : TA) : TE := fun σ H Q => t σ H fun xs H1 => xs.length ≤ sizeLine ∧ NewO H1 (.tup xs) Q
section
variable {X : Cx} {es : List Expr} {t : TA} {pos : Pos}
theorem pe_lstO (h : PA X es t) : PE X (.List es pos) (tLstO t) := peImp (pe_lst (pa_mono h)) fun _ _ _ q => ⟨_, q, fun _ _ z => ⟨z.1, z.2.to⟩⟩
theorem pe_tupO {x1} (h : PA X es t) : PE X (.Tuple es x1 pos) (tTupO t) := peImp (pe_tup (pa_mono h)) fun _ _ _ q => ⟨_, q, fun _ _ z => ⟨z.1, z.2.to⟩⟩
theorem opImp {f : Value → Value → Sem Value} {r r' : R2} (h : OpR X f r) (k : ∀ x y H Q, r' x y H Q → r x y H Q) : OpR X f r' := fun pins s σ H x y v u Q I rx ry q => h pins s σ H x y v u Q I rx ry (k x y H Q q)
/-- xs + ys, lists -/
def rCatO : R2 := fun x y H Q => ∃ l b xs zs, x = .ref l ∧ y = .ref b ∧ H l = some (.lst xs) ∧ H b = some (.lst zs) ∧ xs.length + zs.length ≤ sizeLine ∧ NewO H (.lst (xs ++ zs)) Q
theorem op_catO : OpR X (binaryOp .Add) rCatO := opImp op_cat fun _ _ _ _ ⟨l, b, xs, zs, h1, h2, h3, h4, h5, q⟩ => ⟨l, b, xs, zs, h1, h2, h3, h4, h5, q.to⟩
end
end OS
namespace OS
open PySem PySem.Spec PyProof.Rows L2
section
variable {X : Cx}
theorem callImp {f : Value} {r r' : List V → Hp → VK → Prop} (h : CallR X f r) (k : ∀ xs H Q, r' xs H Q → r xs H Q) : CallR X f r' := fun pins s σ H xs us Q I rs q => h pins s σ H xs us Q I rs (k xs H Q q)
theorem call_list_ofO : CallR X (.type "list") (fun xs H Q => ∃ p ys, xs = [.ref p] ∧ (SqL X.K H p ys ∨ SqT X.K H p ys) ∧ NewO H (.lst ys) Q) := callImp call_list_of fun _ _ _ ⟨p, ys, h1, h2, q⟩ => ⟨p, ys, h1, h2, q.to⟩
/-- tuple(list) -/
theorem call_tuple_ofL : CallR X (.type "tuple") (fun xs H Q => ∃ p ys, xs = [.ref p] ∧ SqL X.K H p ys ∧ NewO H (.tup ys) Q) := callImp call_tuple_of fun _ _ _ ⟨p, ys, h1, h2, q⟩ => ⟨p, ys, h1, .inl ⟨h2, q.to⟩⟩
theorem slImp {r r' : V → Option Int → Option Int → Hp → VK → Prop} (h : SlR X r) (k : ∀ x lo hi H Q, r' x lo hi H Q → r x lo hi H Q) : SlR X r' := fun pins s σ H x v vl vu lo hi sl Q I rx hs pl pu q => h pins s σ H x v vl vu lo hi sl Q I rx hs pl pu (k x lo hi H Q q)
def rSlLO (K : PySem.W.Frag) : V → Option Int → Option Int → Hp → VK → Prop := fun x lo hi H Q => ∃ a xs, x = .ref a ∧ SqL K H a xs ∧ NewO H (.lst (cutV xs lo hi)) Q
theorem sl_listO : SlR X (rSlLO X.K) := slImp sl_list fun _ _ _ _ _ ⟨a, xs, h1, h2, q⟩ => ⟨a, xs, h1, h2, q.to⟩
end
/-- what the state keeps where a new list takes the place of its digits -/
theorem StA.swapO {H H' : Hp} {p a b r : Addr} {zs zs' ms : List Int} {n : Nat} (S : StA H p a b zs ms n) (hr : H r = none) (s : Same H H') (e : H' r = some (.lst (zs'.map V.int))) (hz : zs'.length ≤ 100) :
    StA (upd H' p (.lst [.ref r, .ref b, .int (n : Int)])) p r b zs' ms n ∧ Nx p H (upd H' p (.lst [.ref r, .ref b, .int (n : Int)])) := by
  have rp : r ≠ p := (ne_of_none S.hp hr).symm
  have rb : r ≠ b := (ne_of_none S.hb hr).symm
  refine ⟨⟨upd_same, by rw [upd_ne rp]; exact e, by rw [upd_ne S.pb.symm]; exact s _ _ S.hb, rb, S.ne, hz, S.lm⟩, S.nx_put (fun q o e z _ => by rw [upd_ne z]; exact s _ _ e) upd_same (.inr hr)⟩
end OS
namespace OS
open PySem PySem.Spec PyProof.Rows L2
theorem dp_bools {K : PySem.W.Frag} {H : Hp} {a : Addr} {xs : List Bool} (h : SqL K H a (xs.map V.bl)) : Dp K H (.ref a) (.list (xs.map .bool)) := .lst h (dp_all (fun x => .bl x) xs)
theorem shaped_bools {xs : List Bool} : SeqAt.shaped (.list (xs.map .bool)) = true :=
  shaped_of (n := 1) (lay_all (g := .bool) fun _ _ => rfl) (Nat.succ_le_succ (depth_all (n := 0) fun _ _ => Nat.le_refl 0)) (by decide)
theorem eqv_bools : ∀ xs : List Bool, PyData.eqvAll (xs.map .bool) (xs.map .bool) = true
  | [] => rfl
  | x :: r => by
    show (PyData.eqv (.bool x) (.bool x) && PyData.eqvAll (r.map .bool) (r.map .bool)) = true
    rw [eqv_bools r, show PyData.eqv (.bool x) (.bool x) = (x == x) from rfl]
    simp
/-- two lists of the same bools -/
theorem bools_ne {K : PySem.W.Frag} {H : Hp} {a b : Addr} {xs : List Bool} {Q : VK} (h : SqL K H a (xs.map V.bl)) (h' : SqL K H b (xs.map V.bl)) (q : Q (.bl false) H) : rNeD K (.ref a) (.ref b) H Q := by
  refine ⟨_, _, dp_bools h, dp_bools h', shaped_bools, shaped_bools, ?_⟩
  rw [show PyData.eqv (.list (xs.map .bool)) (.list (xs.map .bool)) = true from eqv_bools xs]
  exact q
theorem bools_eq {K : PySem.W.Frag} {H : Hp} {a b : Addr} {xs : List Bool} {Q : VK} (h : SqL K H a (xs.map V.bl)) (h' : SqL K H b (xs.map V.bl)) (q : Q (.bl true) H) : rEqD K (.ref a) (.ref b) H Q := by
  refine ⟨_, _, dp_bools h, dp_bools h', shaped_bools, shaped_bools, ?_⟩
  rw [show PyData.eqv (.list (xs.map .bool)) (.list (xs.map .bool)) = true from eqv_bools xs]
  exact q
end OS
namespace OS
open PySem PySem.Spec PyProof.Rows L2
/-- a place to stop: ahead of a loop's turns -/
structure Hold (p : Prop) : Prop where
  go : p
theorem hold_eq (R : It → Hp → Prop) : (fun J H1 => Hold (R J H1)) = R := funext fun J => funext fun H1 => propext ⟨Hold.go, Hold.mk⟩
def iHold (wi : TI) : TI := fun σ H R => wi σ H fun J H1 => Hold (R J H1)
theorem pi_hold {X : Cx} {tg l : Expr} {wi : TI} (h : PI X tg l wi) : PI X tg l (iHold wi) := ⟨fun pins s σ H R I q => by
  have z := h.run pins s σ H (fun J H1 => Hold (R J H1)) I q
  rw [hold_eq] at z
  exact z⟩
end OS

set_option Elab.async false
set_option linter.all false
set_option maxRecDepth 100000
set_option maxHeartbeats 4000000
/-! own errors as values: made by place and by name, their fields read, asked by isinstance -/
namespace PySem
namespace OSX
open Builtin Builtin.ObjectAttr PySem.HandSPX
section
variable {M : Model} {prog : Program} {w : World} {A : Around} {E : Value → Shared → Prop} {R : Result → Shared → Prop} {h : Heap} {g : Array GenState} {d : Drawn} {t : Nat} {os : OsState}
variable {nm q : Str} {C N : Addr} {bs bm bmB : List Value} {hdct : Bool} {sn : List Str} {sub : List Value} {ab : Bool} {col : Option Bool} {dd : Option Addr} {k0 k1 k2 k3 k5 : Option Value} {B newId initId : String} {rest : List Value} {kws : List (Str × Value)}
theorem chk_kw (F : ExcBaseFacts B newId initId bmB) (hT : ∀ X : String, bm.contains (.type X) = bmB.contains (.type X)) {Q : Unit → Shared → Prop}
    (hC : h.get? C = some (excClassObj nm q C N bs bm hdct sn sub ab col dd k0 k1 k2 k3 k5 newId)) (hq : Q () ⟨h, g, d, t, os⟩) : wpAny M A (checkBuiltinCall newId ⟨.ref C :: rest, kws⟩) Q E ⟨h, g, d, t, os⟩ := by
  have hB : (Value.ref C :: bm).contains (.type B) = true := by rw [List.contains_cons, hT, F.hasB, Bool.or_true]
  have hs := F.noStar
  simp only [checkBuiltinCall, F.newKind, F.newSplit, F.newRow]
  repeat (first | refine wpAny_loadPart_at hC ?_ | (refine wpAny_isSubtype_exc hC ?_; rw [hB]) | refine wpAny_staticBase_exc hC ?_ | refine wpAny_madeBy_exc hC ?_ | simp only [bne_self_eq_false, Bool.false_eq_true, if_false] | wp_step)
  exact hq
theorem new_kw (F : ExcBaseFacts B newId initId bmB) (hT : ∀ X : String, bm.contains (.type X) = bmB.contains (.type X))
    (hC : h.get? C = some (excClassObj nm q C N bs bm hdct sn sub ab col dd k0 k1 k2 k3 k5 newId)) (hrest : rest.length ≤ sizeLine)
    (hq : R (.ok (.ret (.ref (h.objs.size + 1)))) ⟨(h.push (W.kdv_tup rest)).push (excO C h.objs.size), g, d, t, os⟩) :
    codeAny (model prog w) A (.builtin newId ⟨.ref C :: rest, kws⟩) R ⟨h, g, d, t, os⟩ := by
  have he := F.ends
  have hB : (Value.ref C :: bm).contains (.type B) = true := by rw [List.contains_cons, hT, F.hasB, Bool.or_true]
  have hA : (Value.ref C :: bm).contains (.type "AttributeError") = false := by rw [List.contains_cons, hT, F.noAttr]; rfl
  have hN : (Value.ref C :: bm).contains (.type "NameError") = false := by rw [List.contains_cons, hT, F.noName]; rfl
  refine codeAny_builtinAt F.entry ?_
  unfold Builtin.«BaseException.__new__»
  refine wpAt_bind ?_
  show wpAt _ _ _ (stack >>= _) _ _ _
  refine wpAt_bind (wpAt_stack fun p below => wpAt_of_wpAny ?_)
  wp_walk
  refine wpAt_of_wpAny ?_
  rw [F.owner]
  repeat (first | with_reducible refine wpAny_madeHere_exc F.canon hC ?_ | with_reducible refine wpAny_loadPart_at hC ?_ | (with_reducible refine wpAny_isSubtype_exc hC ?_; first | rw [hB] | rw [hA] | rw [hN]) | wp_step)
  show R _ _
  rw [Heap.size_push]
  exact hq
theorem tcall_kw (F : ExcBaseFacts B newId initId bmB) (hT : ∀ X : String, bm.contains (.type X) = bmB.contains (.type X)) {fI : Addr} {Q : Fin → Shared → Prop}
    (hC : h.get? C = some (excClassObj nm q C N bs bm hdct sn sub ab col dd k0 k1 k2 k3 k5 newId))
    (hi : W.Looks (model prog w) h (typeLookup (.ref C) "__init__") (some (.ref fI))) (hb : ∀ self, W.Looks (model prog w) h (bindSpecial (.ref fI) self) (.ref fI, [self])) (hrest : rest.length ≤ sizeLine)
    (hq : codeAny (model prog w) A (.call (.ref fI) ⟨.ref (h.objs.size + 1) :: rest, kws⟩)
      (fun r s' => match r with | .ok (.ret v) => v = .none ∧ Q (.done (.ret (.ref (h.objs.size + 1)))) s' | .ok _ => False | .error e => E e s')
      ⟨(h.push (W.kdv_tup rest)).push (excO C h.objs.size), g, d, t, os⟩) :
    wpAny (model prog w) A (Builtin.«type.__call__» ⟨.ref C :: rest, kws⟩) Q E ⟨h, g, d, t, os⟩ := by
  repeat (first | with_reducible refine wpAny_loadPart_at hC ?_ | with_reducible refine wpAny_madeBy_exc hC ?_ | wp_step)
  refine codeAny_call_builtin_code (Code.quiet_builtin _ F.quiet) (chk_kw F hT hC ?_)
  refine new_kw F hT hC hrest ?_
  show wpAny _ _ _ _ _ _
  have k : ∀ b o, h.get? b = some o → ((h.push (W.kdv_tup rest)).push (excO C h.objs.size)).get? b = some o := fun b o e => Heap.get?_push_of_some _ (Heap.get?_push_of_some _ e)
  have hC1 := k _ _ hC
  have hget : ((h.push (W.kdv_tup rest)).push (excO C h.objs.size)).get? (h.objs.size + 1) = some (excO C h.objs.size) := by heap_get
  have hcC : (Value.ref C :: bm).contains (.ref C) = true := by simp
  have i1 := hi.keeps k
  have b1 := (hb (.ref (h.objs.size + 1))).keeps k
  unfold isInstance
  repeat (first | with_reducible refine wpAny_loadPart_at hget ?_ | (with_reducible refine wpAny_isSubtype_exc hC1 ?_; rw [hcC]) | wp_step)
  show wpAny _ _ (typeLookup (.ref C) _) _ _ _
  refine i1.at ?_
  refine wpAny_holding (wpAny_bind (b1.at ?_))
  refine wpAny_bind (wpAny_call (codeAny_mono hq fun r s' z => ?_))
  rcases r with e | (v | _ | _ | _) <;> first | exact z | exact z.elim | skip
  obtain ⟨rfl, z⟩ := z
  first
    | exact wpAny_pure (wpAny_pure z)
    | (wp_walk; exact z)
theorem call_kw (F : ExcBaseFacts B newId initId bmB) (hT : ∀ X : String, bm.contains (.type X) = bmB.contains (.type X)) {fI : Addr}
    (hC : h.get? C = some (excClassObj nm q C N bs bm hdct sn sub ab col dd k0 k1 k2 k3 k5 newId))
    (hi : W.Looks (model prog w) h (typeLookup (.ref C) "__init__") (some (.ref fI))) (hb : ∀ self, W.Looks (model prog w) h (bindSpecial (.ref fI) self) (.ref fI, [self])) (hrest : rest.length ≤ sizeLine)
    (hq : codeAny (model prog w) (A.under (.builtin "type.__call__" ⟨.ref C :: rest, kws⟩)) (.call (.ref fI) ⟨.ref (h.objs.size + 1) :: rest, kws⟩) (W.InitBack (h.objs.size + 1) R)
      ⟨(h.push (W.kdv_tup rest)).push (excO C h.objs.size), g, d, t, os⟩) :
    codeAny (model prog w) A (.call (.ref C) ⟨rest, kws⟩) R ⟨h, g, d, t, os⟩ := by
  have f1 := tc_lookup
  have f2 := tc_bind (.ref C)
  have hTy : (⟨h, g, d, t, os⟩ : Shared).TypeIs (.ref C) "type" := ⟨_, hC, rfl⟩
  refine codeAny_of_tree ?_
  show wpAny _ _ (callAny (.ref C) _) _ _ _
  repeat (any_goals (first | assumption | with_reducible refine wpAny_loadPart_at hC ?_ | wp_step))
  refine ⟨rfl, ?_⟩
  refine codeAny_call_builtin_at (Code.quiet_builtin _ (by decide +kernel)) entry_typeCall (wpAny_check_type_call_sub hC (tcall_kw F hT hC hi hb hrest ?_))
  refine codeAny_mono hq fun r s' z => ?_
  rcases r with e | (v | _ | _ | _) <;> exact z
end
end OSX
end PySem
namespace OS
open PySem PySem.Spec PyProof.Rows L2
/-- what the top's text says of an own error's class -/
structure ErrT (K : PySem.W.Frag) (C : Addr) : Prop where
  ox : OexC K C
  xf : XfC K C
  ex : ExcC K C
def errB (K : PySem.W.Frag) (C : Addr) : Bool :=
  decide (PySem.W.findIn K (.ref C) "__setattr__" = some (some (.builtin "object.__setattr__"))) && (decide (PySem.W.findIn K (.ref C) "__getattribute__" = some (some (.builtin "BaseException.__getattribute__"))) &&
  (decide (PySem.W.findIn K (.ref C) "__getattr__" = some none) && (decide (PySem.W.subIn K (.ref C) (.type "BaseException") = some true) && (decide (PySem.W.typeIn K (.ref C) = some (.type "type")) &&
  (PySem.W.hasDictIn K C && (PySem.W.keepIn K (.ref C) && (decide (PySem.W.findIn K (.ref C) "__class__" = some (some (.builtin "object.__class__"))) && decide (PySem.W.mroIn K C (.type "object") = some true))))))))
theorem errT_of {K : PySem.W.Frag} {C : Addr} (h : errB K C = true)
    (cls : ∃ nm q N bs bm sn sub ab col dd k0 k1 k2 k3 k5, K.lookup C = some (excClassObj nm q C N bs bm true sn sub ab col dd k0 k1 k2 k3 k5 "ValueError.__new__") ∧ PySem.HandSPX.refsVE bm = true)
    (hn : PySem.W.specialIn K (.builtin "object.__class__") "__get__" = some (some (.builtin "getset_descriptor.__get__"))) (ht : PySem.W.takesIn K (.builtin "object.__class__") = some true) : ErrT K C := by
  unfold errB at h
  simp only [Bool.and_eq_true, decide_eq_true_eq] at h
  obtain ⟨h1, h2, h3, h4, h5, h6, h7, h8, h9⟩ := h
  exact ⟨⟨cls, h1, h4, h5, h7⟩, ⟨h2, h3, h4, h6⟩, ⟨h2, h3, h4, h6, h8, hn, ht, h9⟩⟩
/-- __init__(self, f): self.f = f -/
def spErr (C : Addr) (f : Str) : Sp := fun vs H Q _ => ∃ (a : Addr) (v : V), vs = [.ref a, v] ∧ H a = some (exo a C none) ∧ ∀ dx, H dx = none → dx ≠ a → Q .non (upd (upd H dx (exd dx [(f, v)])) a (exo a C (some dx)))
/-- an error at a of the class at C whose field f holds v -/
structure ErrAt (H : Hp) (C : Addr) (f : Str) (a : Addr) (v : V) : Prop where
  ob : ∃ dx, H a = some (exo a C (some dx)) ∧ H dx = some (exd dx [(f, v)])
/-- .. a new one since H0 -/
structure ErrNew (H0 H : Hp) (C : Addr) (f : Str) (a : Addr) (v : V) : Prop where
  ob : ∃ dx, H0 a = none ∧ H0 dx = none ∧ H a = some (exo a C (some dx)) ∧ H dx = some (exd dx [(f, v)])
theorem ErrNew.err {H0 H : Hp} {C : Addr} {f : Str} {a : Addr} {v : V} (h : ErrNew H0 H C f a v) : ErrAt H C f a v := by
  obtain ⟨dx, _, _, h1, h2⟩ := h
  exact ⟨dx, h1, h2⟩
/-- C(e): a new error -/
def tErr (C : Addr) (f : Str) (t : TA) : TE := fun σ H Q => t σ H fun vs H1 => ∃ v, vs = [v] ∧ ∀ (a : Addr) (H2 : Hp), Same H1 H2 → ErrNew H1 H2 C f a v → Q (.ref a) H2
/-- C(): a new error without a field -/
def tErr0 (C : Addr) : TE := fun _ H Q => ∀ (a : Addr) (H2 : Hp), H a = none → Same H H2 → H2 a = some (ExO (.ref C) a) → Q (.ref a) H2
section
variable {X : Cx} {x : Str} {p pos : Pos} {e : Expr} {es : List Expr} {kws : List Keyword} {t tk : TA} {C fI : Addr} {fd : FuncData} {k : Nat} {ps : List Str} {f : Str}
theorem run_err {pins : List (Addr × Obj)} {σ : L2.St} {H : Hp} {s : Shared} {Q : VK} {us : List Value} {kz : List (Str × Value)} {v : V} {u : Value} (T : ErrT X.K C) (iC : PySem.W.findIn X.K (.ref C) "__init__" = some (some (.ref fI))) (tI : PySem.W.typeIn X.K (.ref fI) = some (.type "function"))
    (F1 : FnOk X.prog X.w X.K X.mg X.base CX0 k fI fd ps (spErr C f)) (hr : Room (k + 1) X.A) (hu : us.length ≤ 1000) (hb : ∀ (s : Shared) (z : Value), X.K.In s.heap → BindsTo s fd ⟨z :: us, kz⟩ (ps.zip [z, u])) (I : Inv X pins σ H s) (rv : RelV v u)
    (h : ∀ (a : Addr) (H2 : Hp), Same H H2 → ErrNew H H2 C f a v → Q (.ref a) H2) : wpAny (model X.prog X.w) X.A (call (.ref C) us kz) (EP X pins σ Q) X.xe s := by
  obtain ⟨nm, q, N, bs, bm, sn, sub, ab, col, dd, k0, k1, k2, k3, k5, hC, hbm⟩ := T.ox.cls
  obtain ⟨hp, g, dr, tk, os⟩ := s
  have hsz : hp.objs.size ≤ hp.objs.size + 1 := Nat.le_succ _
  have hn : H (hp.objs.size + 1) = none := I.hok.fresh hsz
  have kk : ∀ b o, hp.get? b = some o → ((hp.push (PySem.W.kdv_tup us)).push (PySem.HandSPX.excO C hp.objs.size)).get? b = some o := fun b o e => Heap.get?_push_of_some _ (Heap.get?_push_of_some _ e)
  have hget : ((hp.push (PySem.W.kdv_tup us)).push (PySem.HandSPX.excO C hp.objs.size)).get? (hp.objs.size + 1) = some (PySem.HandSPX.excO C hp.objs.size) := by heap_get
  have I2 : Inv X pins σ (upd H (hp.objs.size + 1) (exo (hp.objs.size + 1) C none)) ⟨(hp.push (PySem.W.kdv_tup us)).push (PySem.HandSPX.excO C hp.objs.size), g, dr, tk, os⟩ :=
    I.laid (t' := tk) (a := hp.objs.size + 1) (o := exo (hp.objs.size + 1) C none) (h' := (hp.push (PySem.W.kdv_tup us)).push (PySem.HandSPX.excO C hp.objs.size)) kk hsz (exo_ok hget)
  generalize ea : hp.objs.size + 1 = a at hn hget I2
  have r2 : Vals [V.ref a, v] [Value.ref a, u] := .cons rfl (.cons rv .nil)
  have hq : spErr C f [V.ref a, v] (upd H a (exo a C none)) (fun y H2 => y = .non ∧ Q (.ref a) H2) E0 := by
    refine ⟨a, v, rfl, upd_same, fun dx hdx ne => ⟨rfl, ?_⟩⟩
    have hdx' : H dx = none := by rw [upd_ne ne] at hdx; exact hdx
    refine h a _ (fun b o e => ?_) ⟨dx, hn, hdx', upd_same, by rw [upd_ne ne, upd_same]⟩
    rw [upd_ne (ne_of_none e hn), upd_ne (ne_of_none e hdx'), upd_ne (ne_of_none e hn)]
    exact e
  refine wpAny_call (PySem.OSX.call_kw F.excBase_ValueError (fun Y => PySem.HandSPX.refsVE_contains Y bm hbm) (I.kIn _ _ hC) (PySem.W.looks_findIn I.kIn iC) (fun self => PySem.W.bind_fn I.kIn self tI) (Nat.le_of_lt (small1000 hu)) ?_)
  rw [ea]
  refine codeAny_mono (F1.run _ X.stack _ _ ⟨Value.ref a :: us, kz⟩ [Value.ref a, u] _ _ E0 (hr.make C us kz) (I2.env0.make C us kz) (hb _ _ I2.kIn) r2 hq) fun r s' hq' => ?_
  cases r with
  | error er => exact (show False from hq').elim
  | ok fl =>
    cases fl with
    | ret y =>
      obtain ⟨z, H', I3, rz, ez, q3⟩ := I2.after hq'
      subst ez
      exact ⟨rz, ⟨V.ref a, H', I3, rfl, q3⟩⟩
    | next => exact False.elim hq'
    | brk => exact False.elim hq'
    | cont => exact False.elim hq'
theorem pe_err (T : ErrT X.K C) (iC : PySem.W.findIn X.K (.ref C) "__init__" = some (some (.ref fI))) (tI : PySem.W.typeIn X.K (.ref fI) = some (.type "function")) (F1 : FnOk X.prog X.w X.K X.mg X.base CX0 k fI fd ps (spErr C f)) (hr : Room (k + 1) X.A)
    (hb : Binds X.K fd ps []) (hl : ps.length = 2) (hg : Gl X x) (hm : X.mg x = some (.ref C)) (ha : PA X (e :: es) t) (hdb : (x == ("__debug__" : Str)) = false := by decide)
    (he : starEach (e :: es) X.env = (false, eval e X.env) :: starEach es X.env := by rfl) (hpl : (backTo pos (starEach es X.env)).any (·.1) = false := by rfl) : PE X (.Call (.Name x p) (e :: es) [] pos) (tErr C f t) := by
  refine ⟨fun pins s σ H Q I h => wpAny_Call_Name_kw (ld_glob I hg hm ?_ hdb)⟩
  refine PySem.W.callWith_K (h₀ := X.base) I.ok.mod.kin T.ox.kC (thn (ha.run pos pins s σ H _ I h) fun us s1 ⟨vs, H1, I1, r, v, ev, q⟩ => ⟨I1.kIn, ?_⟩) he hpl
  subst ev
  cases r with
  | cons rv rr =>
    cases rr
    exact run_err (us := [_]) (kz := []) T iC tI F1 hr (show 1 ≤ 1000 by decide) (fun s z hK => hb s [z, _] hK hl.symm) I1 rv q
theorem pe_errK {ks : List Str} (T : ErrT X.K C) (iC : PySem.W.findIn X.K (.ref C) "__init__" = some (some (.ref fI))) (tI : PySem.W.typeIn X.K (.ref fI) = some (.type "function")) (F1 : FnOk X.prog X.w X.K X.mg X.base CX0 k fI fd ps (spErr C f)) (hr : Room (k + 1) X.A)
    (hb : ∀ (s : Shared) (z u : Value), BindsTo s fd ⟨[z], ks.zip [u]⟩ (ps.zip [z, u])) (hg : Gl X x) (hm : X.mg x = some (.ref C)) (hkw : PK X kws tk) (hall : (backToKw pos (keywordEach kws X.env)).all (·.1.isSome) = true := by rfl)
    (hks : (backToKw pos (keywordEach kws X.env)).filterMap (·.1) = ks := by rfl) (hdb : (x == ("__debug__" : Str)) = false := by decide)
    (hpl : ((backTo pos (starEach [] X.env)).any (·.1) || (backToKw pos (keywordEach kws X.env)).any (·.1.isNone)) = false := by rfl) : PE X (.Call (.Name x p) [] kws pos) (tErr C f tk) := by
  refine ⟨fun pins s σ H Q I h => wpAny_Call_Name_kw (ld_glob I hg hm ?_ hdb)⟩
  refine PySem.W.callWith_KW0 (h₀ := X.base) I.ok.mod.kin T.ox.kC hall ?_ hpl
  refine thn (hkw.run pos pins s σ H _ I h) fun ws s2 ⟨zs, H2, I2, rz, v, ev, q2⟩ => ⟨I2.kIn, ?_⟩
  subst ev
  rw [hks]
  cases rz with
  | cons rv rr =>
    cases rr
    exact run_err (us := []) T iC tI F1 hr (by decide) (fun s z _ => hb s z _) I2 rv q2
theorem pe_err0 {bmB : List Value} {B newId initId : String} (F : ExcBaseFacts B newId initId bmB) (q : PySem.W.excIn X.K C bmB newId = true) (kC : PySem.W.keepIn X.K (.ref C) = true) (hg : Gl X x) (hm : X.mg x = some (.ref C))
    (hdb : (x == ("__debug__" : Str)) = false := by decide) : PE X (.Call (.Name x p) [] [] pos) (tErr0 C) := by
  refine ⟨fun pins s σ H Q I h => wpAny_Call_Name_kw (ld_glob I hg hm ?_ hdb)⟩
  refine PySem.W.callWith_K0 I.kIn kC ?_
  obtain ⟨bm, N, nm, qn, bs, hdct, sn, sub, ab, col, dd, k0, k1, k2, k3, k5, mN, hC, hN, hni, T⟩ := exc_obj I.kIn q
  refine wpAny_call_exc_subT F T hC hN hni (fun h' a hm => ?_) (Nat.zero_le _)
  have hn : H a = none := I.hok.gone hm.new
  obtain ⟨t, ht, _, _⟩ := hm.there
  exact ⟨.ref a, upd H a (ExO (.ref C) a), I.laidN hm.keeps hm.new hn (exO_ok ht ⟨rfl, rfl⟩ rfl rfl rfl (show 4 < 6 by decide)), rfl, h a _ hn (same_new hn) upd_same⟩
end
end OS
namespace OS
open PySem PySem.Spec PyProof.Rows L2
/-- e.f, e an error -/
def tErrF (K : PySem.W.Frag) (f : Str) (te : TE) : TE := fun σ H Q => te σ H fun x H1 => ∃ (a C : Addr) (v : V), x = .ref a ∧ ErrT K C ∧ PySem.W.findIn K (.ref C) f = some none ∧ ErrAt H1 C f a v ∧ Q v H1
theorem err_inst {X : Cx} {pins : List (Addr × Obj)} {σ : L2.St} {H : Hp} {s : Shared} {C a : Addr} {f : Str} {v : V} (I : Inv X pins σ H s) (h : ErrAt H C f a v) : ∃ oe od u, PySem.W.InstAt s.heap a oe C (some od) ∧ PySem.W.lookIn f od = some (some u) ∧ RelV v u := by
  obtain ⟨dx, ho, hd⟩ := h
  obtain ⟨t1, e1⟩ := exo_at I.hok ho
  obtain ⟨mA, hns, hr⟩ := exd_at I.hok hd
  obtain ⟨od, h1, h2⟩ := lookIn_ns hns
  have hl : ([(f, v)] : List (Str × V)).lookup f = some v := by simp [List.lookup]
  obtain ⟨u, hu, ru⟩ := RelO.some_of (v := v) (o := mA f) (by rw [← hl]; exact hr f)
  refine ⟨_, od, u, ⟨e1, rfl, rfl, h1⟩, ?_, ru⟩
  rw [h2, hu]
theorem pe_errF {X : Cx} {e : Expr} {te : TE} {pos : Pos} {f : Str} (he : PE X e te) (hb : attributeBase e f X.env (eval e X.env) = eval e X.env := by rfl) : PE X (.Attribute e f pos) (tErrF X.K f te) := by
  refine ⟨fun pins s σ H Q I h => attr_of hb (thn (he.run pins s σ H _ I h) fun u s1 hh => ?_)⟩
  obtain ⟨x, H1, I1, rx, a, C, v, ex, T, hno, ea, q⟩ := hh
  subst ex
  obtain rfl : u = Value.ref a := rx
  obtain ⟨oe, od, y, J, hl, ry⟩ := err_inst I1 ea
  exact HandSPX.exc_get I1.kIn J T.xf.ga T.xf.gg T.xf.exC (PySem.W.findObj_own T.xf.hdC hno rfl hl) (handed_of ry) ⟨v, H1, I1.tok _, ry, q⟩
/-- isinstance(e, c), e an error -/
def rIsErr (K : PySem.W.Frag) : List V → Hp → VK → Prop := fun xs H Q => ∃ (a C : Addr) (c : V) (cv : Value) (b : Bool), xs = [.ref a, c] ∧ ((∃ f v, ErrAt H C f a v) ∨ H a = some (ExO (.ref C) a)) ∧ ErrT K C ∧ ClsV c cv ∧ PySem.W.kitOne K (.ref C) cv = some b ∧ Q (.bl b) H
theorem call_isErr {X : Cx} : CallR X (.builtin "isinstance") (rIsErr X.K) := by
  intro pins s σ H xs us Q I r h
  obtain ⟨a, C, c, cv, b, rfl, hat, T, hc, e, q⟩ := h
  obtain ⟨u1, u2, rfl, r1, r2⟩ := vals2 r
  have e2 := hc.eq r2
  subst e2
  cases (show u1 = Value.ref a from r1)
  obtain ⟨oe, od, J⟩ : ∃ oe od, PySem.W.InstAt s.heap a oe C od := by
    rcases hat with ⟨f, v, hat⟩ | hat
    · obtain ⟨oe, od, u, J, _, _⟩ := err_inst I hat
      exact ⟨oe, some od, J⟩
    · have x : ObjOk X.prog X.w H s.heap a (ExO (.ref C) a) := I.hok a _ hat
      obtain ⟨⟨oe, vs, h1, h2, h3, _⟩, _⟩ := x
      obtain ⟨oc, oda, odd, osl⟩ := oe
      obtain ⟨z1, z2⟩ := h2
      dsimp only at z1 z2 h3
      subst z1 z2 h3
      exact ⟨_, none, h1, rfl, rfl, trivial⟩
  have hcl : (PySem.W.clsIn X.K C).isSome = true := by
    obtain ⟨nm, q, N, bs, bm, sn, sub, ab, col, dd, k0, k1, k2, k3, k5, hC, hbm⟩ := T.ox.cls
    unfold PySem.W.clsIn
    rw [hC]
    rfl
  exact PySem.W.kia_one (PySem.W.kitx_exc hcl T.ex.hg T.ex.hk T.ex.hs T.ex.ha T.ex.hn T.ex.ht T.ex.hm) I.kIn J e (fun z => nomatch z) fun tk => ⟨.bl b, H, I.kept (t' := tk) fun _ _ z => z, rfl, q⟩
end OS
namespace OS
open PySem PySem.Spec PyProof.Rows L2
/-- the classes cs: which is which, all under S and ValueError -/
def pairsB (K : PySem.W.Frag) (cs : List Addr) (S : Addr) : Bool :=
  (List.range cs.length).all fun i => decide (PySem.W.kitOne K (.ref (cs.getD i 0)) (.ref S) = some true) && (decide (PySem.W.kitOne K (.ref (cs.getD i 0)) (.type "ValueError") = some true) &&
    (List.range cs.length).all fun j => decide (PySem.W.kitOne K (.ref (cs.getD i 0)) (.ref (cs.getD j 0)) = some (decide (j = i))))
theorem pairs_at {K : PySem.W.Frag} {cs : List Addr} {S : Addr} (h : pairsB K cs S = true) {i : Nat} (hi : i < cs.length) :
    PySem.W.kitOne K (.ref (cs.getD i 0)) (.ref S) = some true ∧ PySem.W.kitOne K (.ref (cs.getD i 0)) (.type "ValueError") = some true ∧ ∀ j, j < cs.length → PySem.W.kitOne K (.ref (cs.getD i 0)) (.ref (cs.getD j 0)) = some (decide (j = i)) := by
  unfold pairsB at h
  have q := List.all_eq_true.mp h i (List.mem_range.mpr hi)
  simp only [Bool.and_eq_true, decide_eq_true_eq] at q
  exact ⟨q.1, q.2.1, fun j hj => of_decide_eq_true (List.all_eq_true.mp q.2.2 j (List.mem_range.mpr hj))⟩
end OS

set_option Elab.async false
set_option linter.all false
set_option maxRecDepth 100000
set_option maxHeartbeats 4000000
/-! sorted of tuples of texts, also of empty ones; by key -/
namespace PySem.OSS
open PySem PySem.Calls PySem.SeqAt PySem.W PyProof.Rows
section
variable {prog : Program} {w : World} {A : Around} {E : Value → Shared → Prop} {s : Shared}
/-- one tuple against another, as sorting compares where all are of one type -/
theorem oneLt_tup {xs ys : List PyData} {a b : Value} {as bs : List Addr} {Q : Bool → Shared → Prop} (ra : Reads s.heap a (.tuple xs) as) (rb : Reads s.heap b (.tuple ys) bs) (h : alike (.tuple xs) (.tuple ys) = true)
    (hu : A.units + min (PyData.tuple xs).depth (PyData.tuple ys).depth < cLine) (hq : Q (dataLt (.tuple xs) (.tuple ys)) s) : wpAny (model prog w) A (oneLt' true a b) Q E s := by
  have hal : alikeAll xs ys = true := by simpa [alike] using h
  cases ra with
  | @tuple l o vs n _ as₁ h1 h2 h3 h4 =>
    cases rb with
    | @tuple l' o' vs' n' _ bs₁ k1 k2 k3 k4 =>
      have n1 : vs.size = xs.length := by simpa using ReadsAll.length _ _ _ h4
      have n2 : vs'.size = ys.length := by simpa using ReadsAll.length _ _ _ k4
      rw [dataLt_tuple, ← firstLt_toks xs ys hal, ← n1, ← n2] at hq
      rw [oneLt'_eq]
      simp only [if_true]
      obtain ⟨cls, dd, data, sl⟩ := o
      obtain ⟨cls2, dd2, data2, sl2⟩ := o'
      simp only at h2 h3 k2 k3
      subst h2 h3 k2 k3
      refine wpAny_bind (wpAny_cRoomFor (room_here hu) ?_)
      refine wpAny_bind (wpAny_callSpecialIfBound?_slot (T := "tuple") ⟨_, h1, rfl⟩ F.slot_tuple_lt (call_meets F.slot_tuple_lt ⟨_, h1, rfl⟩ F.entry_tuple_lt (F.args_tuple_lt_2 _ _) (tuple_ltAt l l' vs vs' n n' dd dd2 sl sl2 (pairEq xs ys) (fun j => dataLt (xs.getD j .none) (ys.getD j .none)))
        ⟨h1, k1, fun j j1 j2 => ?_, fun j j1 j2 hj => ?_, ?_⟩))
      · have := eqAt_alikeAll xs ys A.in1 s vs.toList vs'.toList _ _ h4 k4 hal (room_in hu) j (by simpa using j1) (by simpa using j2)
        simpa using this
      · have := rcLt_alikeAll xs ys A.in1 s vs.toList vs'.toList _ _ h4 k4 hal (room_in hu) j (by simpa using j1) (by simpa using j2) hj
        simpa using this
      · exact wpAny_truthy_bool hq
/-- what the tuples begin with -/
theorem firsts_any {M : Model} {A : Around} {E : Value → Shared → Prop} : ∀ {vs : List Value} {ds : List PyData}, EachIs (fun v d => ∃ as, Reads s.heap v d as) vs ds → (∀ d, d ∈ ds → ∃ r, d = .tuple r) →
    ∃ fs : List (Option Value), fs.length = vs.length ∧ (ds.head? = some (.tuple ([] : List PyData)) → fs.head? = some none) ∧ ∀ {Q : List (Option Value) → Shared → Prop}, Q fs s → wpAny M A (vs.mapM firstOfTuple') Q E s
  | _, _, .nil, _ => ⟨[], rfl, fun h => by simp at h, fun h => by rw [List.mapM_nil]; exact wpAny_pure h⟩
  | _, _, .cons (a := v) (b := d) ⟨as, r⟩ t, ht => by
    obtain ⟨fs, h1, _, h3⟩ := firsts_any t fun d hd => ht d (List.mem_cons_of_mem _ hd)
    obtain ⟨r0, rfl⟩ := ht d (List.mem_cons_self ..)
    cases r with
    | @tuple a o xs n _ _ ho hc hd hr =>
      refine ⟨xs[0]? :: fs, by rw [List.length_cons, List.length_cons, h1], fun e => ?_, fun {Q} hq => ?_⟩
      · have e' : r0 = [] := by simpa using e
        subst e'
        have hx : xs.toList = [] := by
          cases q : xs.toList with
          | nil => rfl
          | cons f fr => rw [q] at hr; cases hr
        have hx' : xs[0]? = none := by rw [← Array.getElem?_toList, hx]; rfl
        rw [hx']
        rfl
      · rw [List.mapM_cons]
        refine wpAny_bind ?_
        rw [kas_first_eq]
        refine wpAny_bind (Looks.here (show Looks M s.heap (typeOf (.ref a)) o.cls from (Looks.ld ho).andThen .now) ?_)
        rw [hc, if_neg (by first | decide | simp)]
        refine wpAny_bind (listItems_at ho hd (wpAny_pure ?_))
        exact wpAny_bind (h3 (wpAny_pure hq))
/-- tuples of which the first is empty: compared as things of one type -/
theorem kind_tup0 {M : Model} {vs : List Value} {ds : List PyData} {Q : SortKind → Shared → Prop} (e : EachIs (fun v d => ∃ as, Reads s.heap v d as) vs (.tuple [] :: ds)) (ht : ∀ d, d ∈ ds → ∃ r, d = .tuple r) (h : Q oneType' s) :
    wpAny M A (keyKind' vs.toArray) Q E s := by
  have ht' : ∀ d, d ∈ PyData.tuple [] :: ds → ∃ r, d = .tuple r := fun d hd => by
    rcases List.mem_cons.mp hd with rfl | hd
    · exact ⟨_, rfl⟩
    · exact ht d hd
  obtain ⟨fs, f1, f2, f3⟩ := firsts_any (M := M) (A := A) (E := E) e ht'
  have f2 := f2 rfl
  obtain ⟨v₁, rest, rfl⟩ : ∃ v₁ rest, vs = v₁ :: rest := by
    cases e with
    | cons _ _ => exact ⟨_, _, rfl⟩
  cases fs with
  | nil => simp at f2
  | cons f fr =>
    have ef : f = none := by simpa using f2
    subst ef
    rw [kat_kind_eq, List.mapM_toArray, map_eq_pure_bind]
    refine wpAny_bind (wpAny_bind (f3 (wpAny_pure ?_)))
    rw [if_neg (by simp), if_neg (by simp)]
    rw [oneTypeOnly'_eq, List.mapM_toArray, map_eq_pure_bind]
    have hT : ∀ v ∈ v₁ :: rest, Looks M s.heap (typeOf v) (Value.type "tuple") := fun v hv => by
      obtain ⟨d, hd, as, r⟩ := e.left v hv
      obtain ⟨r', rfl⟩ := ht' d hd
      exact looks_reads r
    refine wpAny_bind (wpAny_bind (wpAny_bind (kas_mapM (r := Value.type "tuple") _ (fun v hv Q' hq => (hT v hv).here hq) (wpAny_pure ?_))))
    have hall : ((List.map (fun _ => Value.type "tuple") (v₁ :: rest)).toArray.all fun x => x == Value.type "tuple") = true := by
      simp only [List.all_toArray, List.all_map, List.all_eq_true]
      intro _ _
      rfl
    have h0 : (List.map (fun _ => Value.type "tuple") (v₁ :: rest)).toArray[0]? = some (Value.type "tuple") := by simp
    rw [h0]
    simp only [hall, if_true]
    exact wpAny_pure (wpAny_pure h)
/-- tuples of which the first is empty can be sorted -/
theorem sorts_tup0 {vs : List Value} {ds : List PyData} (e : EachIs (fun v d => ∃ as, Reads s.heap v d as) vs (.tuple [] :: ds)) (ht : ∀ d, d ∈ ds → ∃ r, d = .tuple r) (hal : AllAlike (.tuple [] :: ds)) (hu : ∀ d, d ∈ PyData.tuple [] :: ds → A.units + d.depth < cLine) :
    SortsAt prog w A s (dataKind s.heap (.tuple [] :: ds)) vs := by
  have ht' : ∀ d, d ∈ PyData.tuple [] :: ds → ∃ r, d = .tuple r := fun d hd => by
    rcases List.mem_cons.mp hd with rfl | hd
    · exact ⟨_, rfl⟩
    · exact ht d hd
  refine ⟨fun v hv => ?_, oneType', ?_, fun h2 E Q hq => kind_tup0 e ht hq⟩
  · obtain ⟨d, hd, as, r⟩ := e.left v hv
    exact ⟨_, dataKind_some hal hd r⟩
  · intro E x y a b Q ha hb hq
    obtain ⟨d, as, hd, ra, rfl⟩ := dataKind_inv ha
    obtain ⟨d', as', hd', rb, rfl⟩ := dataKind_inv hb
    obtain ⟨r, rfl⟩ := ht' d hd
    obtain ⟨r', rfl⟩ := ht' d' hd'
    rw [keyLt'_oneType]
    exact oneLt_tup ra rb (hal _ hd _ hd') (Nat.lt_of_le_of_lt (Nat.add_le_add_left (Nat.min_le_left _ _) _) (hu _ hd)) hq
/-- can be sorted: as the library has it, or tuples of which the first is empty -/
def SortableX (ds : List PyData) : Prop := Sortable ds ∨ ∃ r, ds = .tuple [] :: r ∧ ∀ d, d ∈ r → ∃ x, d = .tuple x
theorem sorts_dataX {vs : List Value} {ds : List PyData} (e : EachIs (fun v d => ∃ as, Reads s.heap v d as) vs ds) (hal : AllAlike ds) (hk : SortableX ds) (hu : ∀ d, d ∈ ds → A.units + d.depth < cLine) :
    SortsAt prog w A s (dataKind s.heap ds) vs := by
  rcases hk with hk | ⟨r, rfl, ht⟩
  · exact SortsAt.data e hal hk hu
  · exact sorts_tup0 e ht hal hu
theorem sorted_dataX {β : Type} {vs : List Value} {bs : List β} {enc : β → PyData} {R : Value → β → Prop} {l : Addr} {Q : Value → Shared → Prop} (hl : s.heap.IsList l vs.toArray) (e : EachIs R vs bs) (er : EachIs (fun v b => ∃ as, Reads s.heap v (enc b) as) vs bs) (hal : AllAlike (bs.map enc)) (hk : SortableX (bs.map enc)) (hL : bs.length ≤ sizeLine)
    (hu : ∀ b, b ∈ bs → A.units + 2 + (enc b).depth < cLine) (h : ∀ out, out.length = bs.length → EachIs R out (bs.mergeSort (dataLe false enc)) → Q (.ref (s.heap.objs.size + 1)) { s with heap := sortedAll s.heap vs (List.toArray out) }) :
    wpAny (model prog w) A (call (.builtin "sorted") [.ref l]) Q E s := by
  have er' : EachIs (fun v b => ∃ as, Reads (sortingHeap (copyHeap s.heap vs) (s.heap.objs.size + 1) vs) v (enc b) as) vs bs := er.mono fun _ _ ⟨as, r⟩ => ⟨as, PyProof.Rows.Reads.keeps (fun _ _ => sorting_copy_old) r⟩
  exact sorted_vals hl (sorts_dataX (s := { s with heap := sortingHeap (copyHeap s.heap vs) (s.heap.objs.size + 1) vs }) (each_map (R := fun v d => ∃ as, Reads (sortingHeap (copyHeap s.heap vs) (s.heap.objs.size + 1) vs) v d as) enc er') hal hk (bound_map hu)) (by rw [e.length]; exact hL)
    (h _ (by rw [sortVals_length false rfl]; exact e.length) (sortVals_data false e er' hal))
end
end PySem.OSS

set_option Elab.async false
set_option linter.all false
set_option maxRecDepth 100000
set_option maxHeartbeats 4000000
namespace OS
open PySem PySem.Spec PyProof.Rows L2 PySem.OSS
open PySem.W (EachIs AllAlike dataLe)
theorem each_of_vals {β : Type} (fv : β → V) : ∀ {bs : List β} {us : List Value}, Vals (bs.map fv) us → EachIs (fun v b => RelV (fv b) v) us bs
  | [], _, r => by
    have r' : Vals [] _ := r
    cases r'
    exact .nil
  | b :: bs, _, r => by
    have r' : Vals (fv b :: bs.map fv) _ := r
    cases r' with
    | cons h t => exact .cons h (each_of_vals fv t)
theorem vals_of_each {β : Type} (fv : β → V) : ∀ {bs : List β} {us : List Value}, EachIs (fun v b => RelV (fv b) v) us bs → Vals (bs.map fv) us
  | _, _, .nil => .nil
  | _, _, .cons h t => .cons h (vals_of_each fv t)
/-- sorted(xs): xs a list of data, b's value fv b, its data enc b -/
structure SortXAt (K : PySem.W.Frag) (H : Hp) (Q : VK) (a : Addr) : Prop where
  go : ∃ (β : Type) (bs : List β) (fv : β → V) (enc : β → PyData), SqL K H a (bs.map fv) ∧ (∀ b ∈ bs, Dp K H (fv b) (enc b)) ∧ AllAlike (bs.map enc) ∧ SortableX (bs.map enc) ∧ (∀ b ∈ bs, (enc b).depth ≤ 3) ∧ NewO H (.lst ((bs.mergeSort (dataLe false enc)).map fv)) Q
def rSortX (K : PySem.W.Frag) : List V → Hp → VK → Prop := fun vs H Q => ∃ (a : Addr), vs = [V.ref a] ∧ SortXAt K H Q a
section
variable {X : Cx}
theorem cr_sortX (hu : X.A.units + 65 < cLine) : CallR X (.builtin "sorted") (rSortX X.K) := by
  intro pins s σ H vs us Q I r h
  obtain ⟨a, rfl, β, bs, fv, enc, hs, hd, hal, hk, hdp, q⟩ := h
  obtain ⟨its, rv, hl, hz⟩ := I.list hs
  obtain ⟨u, rfl, ru⟩ := vals1 r
  obtain rfl : u = Value.ref a := ru
  have e := each_of_vals fv rv
  rw [List.length_map] at hz
  refine sorted_dataX (R := fun v b => RelV (fv b) v) (enc := enc) hl.isList e ((PySem.W.each_mem e).mono fun v b ⟨r1, hb⟩ => Dp.reads I (enc b) (fv b) v (hd b hb) r1) hal hk hz (fun b hb => ?_) fun out ho eo => ?_
  · have := hdp b hb
    omega
  · obtain ⟨ep, he'⟩ := PyProof.Rows.sortedAll_at s.heap its out.toArray
    refine ⟨.ref _, upd H (s.heap.objs.size + 1) (.lst ((bs.mergeSort (dataLe false enc)).map fv)), I.laid (t' := s.toks) (fun _ _ => PyProof.Rows.sortedAll_old) (Nat.le_succ _) ⟨?_, out, ep, vals_of_each fv eo, he'⟩, rfl, q.to _ (I.hok.fresh (Nat.le_succ _))⟩
    rw [List.length_map, List.length_mergeSort]
    exact hz
variable {e : Expr} {te : TE} {x y kn : Str} {p kp pos kpos : Pos}
/-- sorted(xs, key=len): xs a list of tuples, b's value fv b, its length ln b -/
structure SortLenAt (K : PySem.W.Frag) (Q : VK) (H1 : Hp) (a : Addr) : Prop where
  go : ∃ (β : Type) (bs : List β) (fv : β → V) (ln : β → Nat), SqL K H1 a (bs.map fv) ∧ (∀ b ∈ bs, ∃ t zs, fv b = .ref t ∧ SqT K H1 t zs ∧ zs.length = ln b) ∧
    NewO H1 (.lst ((bs.mergeSort fun b c => decide ((ln b : Int) ≤ (ln c : Int))).map fv)) Q
def sortLenAt (K : PySem.W.Frag) (Q : VK) (v : V) (H1 : Hp) : Prop := ∃ (a : Addr), v = V.ref a ∧ SortLenAt K Q H1 a
def tSortLen (K : PySem.W.Frag) (te : TE) : TE := fun σ H Q => te σ H fun v H1 => sortLenAt K Q v H1
theorem pe_sortLen (hu : X.A.units + 65 < cLine) (hg : Gl X "sorted") (hm : X.mg "sorted" = none) (hgl : Gl X "len") (hml : X.mg "len" = none) (he : PE X e te)
    (hst : starEach [e] X.env = (false, eval e X.env) :: starEach [] X.env := by rfl) (hee : backTo pos (starEach [e] X.env) = (false, eval e X.env) :: backTo pos (starEach [] X.env) := by rfl) (hpl : (backTo pos (starEach [e] X.env)).any (·.1) = false := by rfl) :
    PE X (.Call (.Name "sorted" p) [e] [⟨some "key", .Name "len" kp, kpos⟩] pos) (tSortLen X.K te) := by
  refine ⟨fun pins s σ H Q I h => ?_⟩
  refine wpAny_Call_Name_kw (ld_blt I hg hm (by rfl) ?_ (by decide) (by decide))
  have h' : tCons te tNil σ H (fun vs H1 => match vs with | [x] => sortLenAt X.K Q x H1 | _ => False) := h
  refine PyProof.Rows.callWith_kw (thn ((pa_cons he pa_nil hst).run pos pins s σ H _ I h') fun us s1 ⟨vs, H1, I1, r1, q1⟩ => ?_) hee hpl (by rfl) (by rfl)
  show wpAny _ _ (evalAll [(do let v ← eval (.Name "len" kp) X.env; standAt pos; pure v)]) _ _ s1
  refine wpAny_evalAll_cons (wpAny_bind (ld_blt I1 hgl hml (by rfl) (wpAny_bind (wpAny_standAt (wpAny_pure ?_))) (by decide) (by decide)))
  refine wpAny_evalAll_nil ?_
  match vs, r1, q1 with
  | [v], r1, q1 =>
  obtain ⟨a, rfl, β, bs, fv, ln, hs, ht, q⟩ := q1
  obtain ⟨u, rfl, ru⟩ := vals1 r1
  obtain rfl : u = Value.ref a := ru
  obtain ⟨its, rv, hl, hz⟩ := I1.list hs
  have e := each_of_vals fv rv
  rw [List.length_map] at hz
  refine PySem.W.sorted_key_data (kw := [(Str.ofString "key", .builtin "len")]) (b := false) (R := fun v b => RelV (fv b) v) (fun b => PyData.int (ln b)) hl.isList e (AllAlike.of fun b b' => by simp [PySem.W.alike]) (PySem.W.Sortable.others fun b => ⟨(fun z => nomatch z), fun xs z => nomatch z⟩) hz (fun b hb => ?_) (PyProof.Rows.ksk_s1 _ _) (fun _ => PyProof.Rows.ksk_l1 _ _) (fun x => PyProof.Rows.ksk_t4 _ _) (fun v b hR hb h tk kp => ?_) fun out c h' tk kp hn ho hlen eo => ?_
  · simp only [PyData.depth]
    omega
  · obtain ⟨t, zs, e1, h1, h2⟩ := ht b hb
    have hR' : RelV (V.ref t) v := e1 ▸ hR
    obtain rfl : v = Value.ref t := hR'
    obtain ⟨its2, rv2, ⟨o, g1, g2, n, g3⟩, hz2⟩ := I1.tuple h1
    refine PyProof.Rows.len_tuple (items := its2.toArray) ⟨o, kp _ _ g1, g2, n, g3⟩ ?_ ?_
    · have := rv2.length
      have hsl := sizeLine_eq
      rw [List.size_toArray]
      omega
    · refine ⟨h, tk + 1 + 1, rfl, fun _ _ q => q, ?_⟩
      have e2 : (its2.toArray.size : Int) = (ln b : Int) := by
        rw [List.size_toArray, ← rv2.length, h2]
      rw [e2]
      exact Reads.int _ _
  · have e3 : (bs.mergeSort (dataLe false fun b => PyData.int (ln b))) = bs.mergeSort fun b c => decide ((ln b : Int) ≤ (ln c : Int)) := by
      rw [PySem.W.dataLe_int (fun b => (ln b : Int))]
    rw [e3] at eo
    refine ⟨.ref _, upd H1 (s1.heap.objs.size + 1) (.lst ((bs.mergeSort fun b c => decide ((ln b : Int) ≤ (ln c : Int))).map fv)), I1.laid (t' := tk) kp (Nat.le_succ _) ⟨?_, out, c, vals_of_each fv eo, ho⟩, rfl, q.to _ (I1.hok.fresh (Nat.le_succ _))⟩
    rw [List.length_map, List.length_mergeSort]
    exact hz
end
end OS

set_option Elab.async false
set_option linter.all false
set_option maxRecDepth 100000
set_option maxHeartbeats 4000000
/-! lists of groups, without the heap -/
namespace OS
open PySem PySem.Spec PyProof.Rows L2 PySem.OSS
open PySem.W (EachIs AllAlike dataLe TotalLe sameRank sort_unique sort_stable sort_pairwise sortLe_total)
section
variable {α : Type} {r l p : α → α → Bool}
theorem rank_filter {q : α → α → Bool} (h : TotalLe q) (c : α) (t : α → Bool) (ht : ∀ a, t a = true → sameRank q c a = true) (xs : List α) : (xs.mergeSort q).filter t = xs.filter t := by
  have e : ∀ ys : List α, ys.filter t = (ys.filter (sameRank q c)).filter t := fun ys => by
    rw [List.filter_filter]
    refine List.filter_congr fun a _ => ?_
    cases q1 : t a with
    | false => simp
    | true => rw [ht a q1]; rfl
  rw [e, e xs, sort_stable h]
theorem pairwise_two (hl : TotalLe l) : ∀ {m : List α}, m.Pairwise (fun a b => l a b = true) → (∀ c, (m.filter (sameRank l c)).Pairwise (fun a b => r a b = true)) → m.Pairwise (fun a b => l a b = true ∧ (l b a = true → r a b = true))
  | [], _, _ => .nil
  | x :: m, h1, h2 => by
    obtain ⟨h3, h4⟩ := List.pairwise_cons.mp h1
    refine List.pairwise_cons.mpr ⟨fun y hy => ⟨h3 y hy, fun hyx => ?_⟩, pairwise_two hl h4 fun c => ?_⟩
    · have q := h2 x
      rw [List.filter_cons_of_pos (PySem.W.sameRank_self hl x)] at q
      refine (List.pairwise_cons.mp q).1 y (List.mem_filter.mpr ⟨hy, ?_⟩)
      unfold sameRank
      rw [h3 y hy, hyx]
      rfl
    · exact (h2 c).sublist ((List.sublist_cons_self x m).filter _)
/-- sorted by r, then by l, is sorted by l and among equals by r -/
theorem sort_two (hr : TotalLe r) (hl : TotalLe l) (hp : TotalLe p) (H : ∀ a b, p a b = true ↔ (l a b = true ∧ (l b a = true → r a b = true))) (xs : List α) : (xs.mergeSort r).mergeSort l = xs.mergeSort p := by
  have hrank : ∀ c a, sameRank p c a = true → sameRank l c a = true ∧ sameRank r c a = true := fun c a h => by
    unfold sameRank at h ⊢
    rw [Bool.and_eq_true] at h
    obtain ⟨h1, h2⟩ := h
    obtain ⟨a1, a2⟩ := (H c a).mp h1
    obtain ⟨b1, b2⟩ := (H a c).mp h2
    rw [a1, b1, a2 b1, b2 a1]
    exact ⟨rfl, rfl⟩
  refine sort_unique hp ?_ fun c => ?_
  · refine (pairwise_two (r := r) hl (sort_pairwise hl _) fun c => ?_).imp fun {a b} h => (H a b).mpr h
    rw [sort_stable hl]
    exact (sort_pairwise hr xs).sublist List.filter_sublist
  · rw [rank_filter hl c _ fun a h => (hrank c a h).1, rank_filter hr c _ fun a h => (hrank c a h).2]
end

/-! ### groups: tuples of texts -/
abbrev encG (g : List Str) : PyData := .tuple (g.map .str)
abbrev encP (g : List Str) : PyData := .tuple [.int (g.length : Int), .tuple (g.map .str)]
theorem eqvAll_strs : ∀ xs ys : List Str, PyData.eqvAll (xs.map .str) (ys.map .str) = decide (xs = ys)
  | [], [] => by simp [PyData.eqvAll]
  | [], _ :: _ => by simp [PyData.eqvAll]
  | _ :: _, [] => by simp [PyData.eqvAll]
  | x :: xs, y :: ys => by
    show (PyData.eqv (.str x) (.str y) && PyData.eqvAll (xs.map .str) (ys.map .str)) = _
    rw [eqvAll_strs xs ys]
    show ((x == y) && decide (xs = ys)) = decide (x :: xs = y :: ys)
    by_cases h1 : x = y <;> by_cases h2 : xs = ys <;> simp [h1, h2]
theorem eqv_G (g g' : List Str) : PyData.eqv (encG g) (encG g') = decide (g = g') := by
  show PyData.eqvAll (g.map .str) (g'.map .str) = _
  exact eqvAll_strs g g'
theorem alikeAll_strs : ∀ xs ys : List Str, PySem.W.alikeAll (xs.map .str) (ys.map .str) = true
  | [], _ => by simp [PySem.W.alikeAll]
  | _ :: _, [] => by simp [PySem.W.alikeAll]
  | x :: xs, y :: ys => by
    show PySem.W.alikeAll (.str x :: xs.map .str) (.str y :: ys.map .str) = true
    rw [PySem.W.alikeAll, alikeAll_strs xs ys]
    simp [PySem.W.alike]
theorem alike_G (g g' : List Str) : PySem.W.alike (encG g) (encG g') = true := by
  show PySem.W.alike (.tuple (g.map .str)) (.tuple (g'.map .str)) = true
  rw [PySem.W.alike, alikeAll_strs]
theorem alike_P (g g' : List Str) : PySem.W.alike (encP g) (encP g') = true := by
  show PySem.W.alike (.tuple [.int _, .tuple (g.map .str)]) (.tuple [.int _, .tuple (g'.map .str)]) = true
  rw [PySem.W.alike, PySem.W.alikeAll, PySem.W.alikeAll, alike_G g g']
  simp [PySem.W.alike, PySem.W.alikeAll]
theorem depth_strs : ∀ xs : List Str, PyData.depthAll (xs.map .str) = 0
  | [] => by simp [PyData.depthAll]
  | x :: xs => by
    show PyData.depthAll (.str x :: xs.map .str) = 0
    rw [PyData.depthAll, depth_strs xs]
    simp [PyData.depth]
theorem depth_G (g : List Str) : (encG g).depth = 1 := by
  show PyData.depth (.tuple (g.map .str)) = 1
  simp only [PyData.depth, depth_strs]
theorem depth_P (g : List Str) : (encP g).depth = 2 := by
  show PyData.depth (.tuple [.int _, .tuple (g.map .str)]) = 2
  simp only [PyData.depth, PyData.depthAll, depth_strs]
  rfl
theorem lt_irr (d : PyData) : PySem.W.dataLt d d = false := PyProof.Rows.lex_irrefl _
/-- sorted, then sorted by length, is sorted by (length, group) -/
theorem groups_sort (gs : List (List Str)) : (gs.mergeSort (dataLe false encG)).mergeSort (fun b c => decide ((b.length : Int) ≤ (c.length : Int))) = gs.mergeSort (dataLe false encP) := by
  refine sort_two (sortLe_total _ _ _) ⟨fun a b c h1 h2 => ?_, fun a b => ?_⟩ (sortLe_total _ _ _) (fun a b => ?_) gs
  · simp only [decide_eq_true_eq] at *
    omega
  · simp only [decide_eq_true_eq]
    omega
  · show (!PySem.W.dataLt (encP b) (encP a)) = true ↔ (decide _ = true ∧ (decide _ = true → (!PySem.W.dataLt (encG b) (encG a)) = true))
    rw [PySem.W.dataLt_pair (by simp [PySem.W.alike]) (alike_G b a), PySem.W.dataLt_int, eqv_G]
    simp only [PyData.eqv, beq_iff_eq, decide_eq_true_eq]
    by_cases h : (b.length : Int) = a.length
    · rw [if_pos h]
      by_cases h2 : b = a
      · subst h2
        rw [if_pos rfl, lt_irr]
        simp
      · rw [if_neg h2]
        constructor
        · intro q
          exact ⟨by omega, fun _ => q⟩
        · intro q
          exact q.2 (by omega)
    · rw [if_neg h]
      simp only [Bool.not_eq_true', decide_eq_false_iff_not]
      constructor
      · intro q
        exact ⟨by omega, fun z => by omega⟩
      · intro q
        omega
theorem row_anti : ∀ xs ys : List Str, PySem.W.rowLt (xs.map .str) (ys.map .str) = false → PySem.W.rowLt (ys.map .str) (xs.map .str) = false → xs = ys
  | [], [], _, _ => rfl
  | [], y :: ys, h, _ => by
    have e : PySem.W.rowLt [] (PyData.str y :: ys.map .str) = true := by
      unfold PySem.W.rowLt
      rw [PySem.W.toks_all_cons]
      simp only [PySem.W.keyToksAll]
      rw [PyProof.Rows.lex_diff (O := itemOrd) (by simp)]
      rfl
    exact absurd (e.symm.trans h) (by simp)
  | x :: xs, [], _, h => by
    have e : PySem.W.rowLt [] (PyData.str x :: xs.map .str) = true := by
      unfold PySem.W.rowLt
      rw [PySem.W.toks_all_cons]
      simp only [PySem.W.keyToksAll]
      rw [PyProof.Rows.lex_diff (O := itemOrd) (by simp)]
      rfl
    exact absurd (e.symm.trans h) (by simp)
  | x :: xs, y :: ys, h1, h2 => by
    have e : ∀ (x y : Str) (xs ys : List Str), PySem.W.rowLt (PyData.str x :: xs.map .str) (PyData.str y :: ys.map .str) = if x = y then PySem.W.rowLt (xs.map .str) (ys.map .str) else decide (x.cps.toList < y.cps.toList) := fun x y xs ys => by
      unfold PySem.W.rowLt
      rw [PySem.W.dataLt_cons (by simp [PySem.W.alike]), PySem.W.dataLt_str]
      simp only [PyData.eqv, beq_iff_eq]
    have h1' : PySem.W.rowLt (PyData.str x :: xs.map .str) (PyData.str y :: ys.map .str) = false := h1
    have h2' : PySem.W.rowLt (PyData.str y :: ys.map .str) (PyData.str x :: xs.map .str) = false := h2
    rw [e] at h1' h2'
    by_cases q : x = y
    · subst q
      rw [if_pos rfl] at h1' h2'
      rw [row_anti xs ys h1' h2']
    · rw [if_neg q] at h1'
      rw [if_neg (fun z => q z.symm)] at h2'
      have a1 := List.not_lt.mp (of_decide_eq_false h1')
      have a2 := List.not_lt.mp (of_decide_eq_false h2')
      exact absurd (PySem.W.str_of_cps (List.le_antisymm a2 a1)) q
/-- by (length, group) -/
abbrev leP : List Str → List Str → Bool := dataLe false encP
theorem leP_iff (a b : List Str) : leP a b = true ↔ ((a.length : Int) ≤ b.length ∧ (b.length = a.length → (!PySem.W.dataLt (encG b) (encG a)) = true)) := by
  show (!PySem.W.dataLt (encP b) (encP a)) = true ↔ _
  rw [PySem.W.dataLt_pair (by simp [PySem.W.alike]) (alike_G b a), PySem.W.dataLt_int, eqv_G]
  simp only [PyData.eqv, beq_iff_eq, decide_eq_true_eq]
  by_cases h : (b.length : Int) = a.length
  · rw [if_pos h]
    by_cases h2 : b = a
    · subst h2
      rw [if_pos rfl, lt_irr]
      simp
    · rw [if_neg h2]
      exact ⟨fun q => ⟨by omega, fun _ => q⟩, fun q => q.2 (by omega)⟩
  · rw [if_neg h]
    simp only [Bool.not_eq_true', decide_eq_false_iff_not]
    exact ⟨fun q => ⟨by omega, fun z => by omega⟩, fun q => by omega⟩
theorem leP_total : TotalLe leP := sortLe_total _ _ _
theorem leP_anti {a b : List Str} (h1 : leP a b = true) (h2 : leP b a = true) : a = b := by
  obtain ⟨a1, a2⟩ := (leP_iff a b).mp h1
  obtain ⟨b1, b2⟩ := (leP_iff b a).mp h2
  have e : b.length = a.length := by omega
  have c1 := a2 e
  have c2 := b2 e.symm
  rw [Bool.not_eq_true', PySem.W.dataLt_tuple] at c1 c2
  exact row_anti a b c2 c1
theorem rankP (c a : List Str) : sameRank leP c a = decide (c = a) := by
  by_cases h : c = a
  · subst h
    rw [PySem.W.sameRank_self leP_total]
    simp
  · rw [decide_eq_false h]
    cases q : sameRank leP c a with
    | false => rfl
    | true =>
      unfold sameRank at q
      rw [Bool.and_eq_true] at q
      exact absurd (leP_anti q.1 q.2) h
theorem filter_one {m : List (List Str)} (h : m.Nodup) (c : List Str) : m.filter (fun a => decide (c = a)) = if c ∈ m then [c] else [] := by
  induction m with
  | nil => simp
  | cons x m ih =>
    obtain ⟨h1, h2⟩ := List.nodup_cons.mp h
    by_cases q : c = x
    · subst q
      rw [List.filter_cons_of_pos (by simp), ih h2, if_neg h1, if_pos (List.mem_cons_self ..)]
    · rw [List.filter_cons_of_neg (by simp [q]), ih h2]
      simp [q]
/-- two lists in order, each group once, with the same groups -/
theorem orderly_one {m n : List (List Str)} (hm : m.Pairwise (fun a b => leP a b = true)) (hn : n.Pairwise (fun a b => leP a b = true)) (dm : m.Nodup) (dn : n.Nodup) (h : ∀ g, g ∈ m ↔ g ∈ n) : m = n := by
  refine PySem.W.sort_one leP_total m n hm hn fun c => ?_
  have e : sameRank leP c = fun a => decide (c = a) := funext fun a => rankP c a
  rw [e, filter_one dm, filter_one dn]
  simp only [h]

/-! ### all groups -/
def setsL (ps : List Str) : List (List Str) := ps.foldl (fun gs n => gs ++ gs.map (· ++ [n])) [[]]
def allG (ps : List Str) : List (List Str) := (setsL ps).mergeSort leP
theorem setsL_snoc (ps : List Str) (n : Str) : setsL (ps ++ [n]) = setsL ps ++ (setsL ps).map (· ++ [n]) := by
  unfold setsL
  rw [List.foldl_append]
  rfl
theorem setsL_head : ∀ ps : List Str, ∃ r, setsL ps = [] :: r := fun ps => by
  suffices h : ∀ (ps : List Str) (gs : List (List Str)), (∃ r, gs = [] :: r) → ∃ r, ps.foldl (fun gs n => gs ++ gs.map (· ++ [n])) gs = [] :: r from h ps [[]] ⟨[], rfl⟩
  intro ps
  induction ps with
  | nil => exact fun gs h => h
  | cons n ps ih =>
    intro gs ⟨r, e⟩
    rw [List.foldl_cons]
    exact ih _ ⟨_, by rw [e]; rfl⟩
theorem setsL_len (ps : List Str) : (setsL ps).length = 2 ^ ps.length := by
  suffices h : ∀ (ps : List Str) (gs : List (List Str)), (ps.foldl (fun gs n => gs ++ gs.map (· ++ [n])) gs).length = gs.length * 2 ^ ps.length by
    exact (h ps [[]]).trans (by simp)
  intro ps
  induction ps with
  | nil => intro gs; simp
  | cons n ps ih =>
    intro gs
    rw [List.foldl_cons, ih, List.length_append, List.length_map, List.length_cons, Nat.pow_succ]
    rw [Nat.mul_comm (2 ^ ps.length) 2, ← Nat.mul_assoc]
    congr 1
    omega
theorem mem_sets_from : ∀ (ps : List Str) (gs : List (List Str)) (g : List Str), g ∈ ps.foldl (fun gs n => gs ++ gs.map (· ++ [n])) gs ↔ ∃ g0 ∈ gs, ∃ s : List Str, s.Sublist ps ∧ g = g0 ++ s
  | [], gs, g => by
    rw [List.foldl_nil]
    constructor
    · exact fun h => ⟨g, h, [], .slnil, by simp⟩
    · rintro ⟨g0, h, s, hs, rfl⟩
      rw [List.sublist_nil.mp hs, List.append_nil]
      exact h
  | n :: ps, gs, g => by
    rw [List.foldl_cons, mem_sets_from ps]
    constructor
    · rintro ⟨g0, h, s, hs, rfl⟩
      rcases List.mem_append.mp h with h | h
      · exact ⟨g0, h, s, hs.cons _, rfl⟩
      · obtain ⟨g1, h1, rfl⟩ := List.mem_map.mp h
        exact ⟨g1, h1, n :: s, hs.cons_cons _, by simp⟩
    · rintro ⟨g0, h, s, hs, rfl⟩
      cases hs with
      | cons _ hs => exact ⟨g0, List.mem_append_left _ h, s, hs, rfl⟩
      | cons_cons _ hs => exact ⟨g0 ++ [n], List.mem_append_right _ (List.mem_map.mpr ⟨g0, h, rfl⟩), _, hs, by simp⟩
theorem mem_sets {ps g : List Str} : g ∈ setsL ps ↔ g.Sublist ps := by
  unfold setsL
  rw [mem_sets_from]
  constructor
  · rintro ⟨g0, h, s, hs, rfl⟩
    rw [List.mem_singleton.mp h]
    exact hs
  · exact fun h => ⟨[], List.mem_singleton.mpr rfl, g, h, rfl⟩
theorem nodup_from : ∀ (ps : List Str) (gs : List (List Str)), ps.Nodup → gs.Nodup → (∀ g ∈ gs, ∀ n ∈ ps, n ∉ g) → (ps.foldl (fun gs n => gs ++ gs.map (· ++ [n])) gs).Nodup
  | [], gs, _, h, _ => h
  | n :: ps, gs, hp, hg, hd => by
    obtain ⟨h1, h2⟩ := List.nodup_cons.mp hp
    rw [List.foldl_cons]
    refine nodup_from ps _ h2 ?_ fun g h m hm => ?_
    · refine List.nodup_append.mpr ⟨hg, ?_, fun a ha b hb e => ?_⟩
      · exact List.Pairwise.map _ (fun a b hab e => hab (List.append_cancel_right e)) hg
      · obtain ⟨g1, _, rfl⟩ := List.mem_map.mp hb
        subst e
        exact hd _ ha n (List.mem_cons_self ..) (by simp)
    · rcases List.mem_append.mp h with h | h
      · exact hd g h m (List.mem_cons_of_mem _ hm)
      · obtain ⟨g1, hg1, rfl⟩ := List.mem_map.mp h
        rw [List.mem_append, not_or]
        refine ⟨hd g1 hg1 m (List.mem_cons_of_mem _ hm), fun q => ?_⟩
        rw [List.mem_singleton] at q
        subst q
        exact h1 hm
theorem nodup_sets {ps : List Str} (h : ps.Nodup) : (setsL ps).Nodup := nodup_from ps _ h (by simp) fun g hg n _ => by
  rw [List.mem_singleton.mp hg]
  simp
theorem allG_perm (ps : List Str) : (allG ps).Perm (setsL ps) := List.mergeSort_perm _ _
theorem mem_allG {ps g : List Str} : g ∈ allG ps ↔ g.Sublist ps := ((allG_perm ps).mem_iff).trans mem_sets
theorem nodup_allG {ps : List Str} (h : ps.Nodup) : (allG ps).Nodup := (allG_perm ps).nodup_iff.mpr (nodup_sets h)
theorem sorted_allG (ps : List Str) : (allG ps).Pairwise (fun a b => leP a b = true) := sort_pairwise leP_total _
/-- the names of g among ps, in their order -/
def pick (ps g : List Str) : List Str := ps.filter fun n => decide (n ∈ g)
theorem pick_sub : ∀ {ps g : List Str}, ps.Nodup → g.Sublist ps → pick ps g = g
  | [], g, _, h => by
    rw [List.sublist_nil.mp h]
    rfl
  | n :: ps, g, hp, h => by
    obtain ⟨h1, h2⟩ := List.nodup_cons.mp hp
    cases h with
    | cons _ h =>
      have hn : n ∉ g := fun q => h1 (h.subset q)
      unfold pick
      rw [List.filter_cons_of_neg (by simp [hn])]
      exact pick_sub h2 h
    | @cons_cons g' _ _ h =>
      unfold pick
      rw [List.filter_cons_of_pos (by simp)]
      congr 1
      have e : (ps.filter fun m => decide (m ∈ n :: g')) = ps.filter fun m => decide (m ∈ g') := List.filter_congr fun m hm => by
        have : m ≠ n := fun q => h1 (q ▸ hm)
        simp [this]
      rw [e]
      exact pick_sub h2 h
theorem is_set_iff {ps g : List Str} (hp : ps.Nodup) : g = pick ps g ↔ g.Sublist ps := ⟨fun h => by rw [h]; exact List.filter_sublist, fun h => (pick_sub hp h).symm⟩
end OS

set_option Elab.async false
set_option linter.all false
set_option maxRecDepth 100000
set_option maxHeartbeats 4000000
/-! least groups, two ways -/
namespace OS
open PySem PySem.Spec PyProof.Rows L2 PySem.OSS
/-- all of o's names are in g -/
def inside (o g : List Str) : Bool := o.all fun n => decide (n ∈ g)
theorem inside_iff {o g : List Str} : inside o g = true ↔ ∀ n ∈ o, n ∈ g := by
  unfold inside
  simp
def givenP (ps : List Str) (rows : List (List Str)) : List (List Str) := (allG ps).filter fun g => decide (g ∈ rows)
def leastP (ps : List Str) (rows : List (List Str)) : List (List Str) := (givenP ps rows).filter fun g => !((givenP ps rows).any fun o => decide (o ≠ g) && inside o g)
def leastStep (A : List (List Str)) (g : List Str) : List (List Str) := if (A.filter fun o => inside o g) = [] then A ++ [g] else A
def leastL (rows : List (List Str)) : List (List Str) := (rows.mergeSort leP).foldl leastStep []
theorem sub_of_inside {ps a b : List Str} (hp : ps.Nodup) (ha : a.Sublist ps) (hb : b.Sublist ps) (h : ∀ n ∈ a, n ∈ b) : a.Sublist b := by
  have e : (pick ps b).filter (fun n => decide (n ∈ a)) = pick ps a := by
    unfold pick
    rw [List.filter_filter]
    refine List.filter_congr fun n _ => ?_
    by_cases q : n ∈ a
    · simp [q, h n q]
    · simp [q]
  rw [pick_sub hp ha, pick_sub hp hb] at e
  rw [← e]
  exact List.filter_sublist
structure LeastInv (ps : List Str) (pre A : List (List Str)) : Prop where
  sub : A.Sublist pre
  nd : A.Nodup
  cov : ∀ o ∈ pre, ∃ f ∈ A, ∀ n ∈ f, n ∈ o
  min : ∀ g ∈ A, ∀ o ∈ pre, (∀ n ∈ o, n ∈ g) → o = g
theorem LeastInv.step {ps : List Str} {pre A : List (List Str)} {g : List Str} (hp : ps.Nodup) (I : LeastInv ps pre A) (hs : ∀ o ∈ pre ++ [g], o.Sublist ps) (hle : ∀ o ∈ pre, leP o g = true) : LeastInv ps (pre ++ [g]) (leastStep A g) := by
  have hg := hs g (by simp)
  have old : ∀ g' ∈ A, (∀ n ∈ g, n ∈ g') → g = g' := fun g' h' hin => by
    have h'' := I.sub.subset h'
    have s := sub_of_inside hp hg (hs g' (List.mem_append_left _ h'')) hin
    obtain ⟨l1, _⟩ := (leP_iff g' g).mp (hle g' h'')
    exact s.eq_of_length_le (by omega)
  unfold leastStep
  by_cases q : (A.filter fun o => inside o g) = []
  · rw [if_pos q]
    have no : ∀ f ∈ A, ¬ ∀ n ∈ f, n ∈ g := fun f hf hin => (List.filter_eq_nil_iff.mp q) f hf (inside_iff.mpr hin)
    refine ⟨I.sub.append (List.Sublist.refl _), List.nodup_append.mpr ⟨I.nd, by simp, fun a ha b hb e => ?_⟩, fun o ho => ?_, fun g' h' o ho hin => ?_⟩
    · rw [List.mem_singleton] at hb
      subst e
      subst hb
      exact no _ ha fun n h => h
    · rcases List.mem_append.mp ho with ho | ho
      · obtain ⟨f, hf, h⟩ := I.cov o ho
        exact ⟨f, List.mem_append_left _ hf, h⟩
      · rw [List.mem_singleton] at ho
        subst ho
        exact ⟨o, by simp, fun n h => h⟩
    · rcases List.mem_append.mp h' with h5 | h5
      · rcases List.mem_append.mp ho with ho1 | ho1
        · exact I.min g' h5 o ho1 hin
        · rw [List.mem_singleton] at ho1
          subst ho1
          exact old g' h5 hin
      · rw [List.mem_singleton] at h5
        subst h5
        rcases List.mem_append.mp ho with ho | ho
        · obtain ⟨f, hf, h⟩ := I.cov o ho
          exact absurd (fun n hn => hin n (h n hn)) (no f hf)
        · exact List.mem_singleton.mp ho
  · rw [if_neg q]
    obtain ⟨f, hf⟩ := List.exists_mem_of_ne_nil _ q
    obtain ⟨hfA, hin⟩ := List.mem_filter.mp hf
    refine ⟨I.sub.trans (List.sublist_append_left _ _), I.nd, fun o ho => ?_, fun g' h' o ho hin' => ?_⟩
    · rcases List.mem_append.mp ho with ho | ho
      · exact I.cov o ho
      · rw [List.mem_singleton] at ho
        subst ho
        exact ⟨f, hfA, inside_iff.mp hin⟩
    · rcases List.mem_append.mp ho with ho | ho
      · exact I.min g' h' o ho hin'
      · rw [List.mem_singleton] at ho
        subst ho
        exact old g' h' hin'
theorem LeastInv.run {ps : List Str} (hp : ps.Nodup) : ∀ (suf pre A : List (List Str)), LeastInv ps pre A → (∀ o ∈ pre ++ suf, o.Sublist ps) → (pre ++ suf).Pairwise (fun a b => leP a b = true) → LeastInv ps (pre ++ suf) (suf.foldl leastStep A)
  | [], pre, A, I, _, _ => by
    rw [List.append_nil]
    exact I
  | g :: suf, pre, A, I, hs, hle => by
    have e : pre ++ g :: suf = (pre ++ [g]) ++ suf := by simp
    rw [e] at hs hle ⊢
    rw [List.foldl_cons]
    exact LeastInv.run hp suf _ _ (I.step hp (fun o ho => hs o (List.mem_append_left _ ho)) fun o ho => (List.pairwise_append.mp (List.pairwise_append.mp hle).1).2.2 o ho g (by simp)) hs hle
theorem least_same {ps : List Str} {rows : List (List Str)} (hp : ps.Nodup) (hr : ∀ g ∈ rows, g.Sublist ps) : leastL rows = leastP ps rows := by
  have hm : ∀ g, g ∈ rows.mergeSort leP ↔ g ∈ rows := fun g => (List.mergeSort_perm _ _).mem_iff
  have I : LeastInv ps (rows.mergeSort leP) (leastL rows) := LeastInv.run hp _ [] [] ⟨.slnil, .nil, (fun _ h => by simp at h), fun _ h => by simp at h⟩ (fun o ho => hr o ((hm o).mp ho)) (PySem.W.sort_pairwise leP_total _)
  have hG : ∀ g, g ∈ givenP ps rows ↔ g ∈ rows := fun g => by
    unfold givenP
    rw [List.mem_filter, mem_allG, decide_eq_true_eq]
    exact ⟨fun h => h.2, fun h => ⟨hr g h, h⟩⟩
  have sG : (leastP ps rows).Sublist (allG ps) := List.filter_sublist.trans List.filter_sublist
  refine orderly_one ((PySem.W.sort_pairwise leP_total _).sublist I.sub) ((sorted_allG ps).sublist sG) I.nd ((nodup_allG hp).sublist sG) fun g => ?_
  unfold leastP
  rw [List.mem_filter, hG, Bool.not_eq_true', List.any_eq_false]
  constructor
  · intro h
    refine ⟨(hm g).mp (I.sub.subset h), fun o ho => ?_⟩
    rw [Bool.and_eq_true, decide_eq_true_eq, inside_iff]
    rintro ⟨h1, h2⟩
    exact h1 (I.min g h o ((hm o).mpr ((hG o).mp ho)) h2)
  · rintro ⟨h1, h2⟩
    obtain ⟨f, hf, hin⟩ := I.cov g ((hm g).mpr h1)
    by_cases q : f = g
    · exact q ▸ hf
    · exact absurd (Bool.and_eq_true_iff.mpr ⟨decide_eq_true q, inside_iff.mpr hin⟩) (h2 f ((hG f).mpr ((hm f).mp (I.sub.subset hf))))
end OS

set_option Elab.async false
set_option linter.all false
set_option maxRecDepth 100000
set_option maxHeartbeats 4000000
/-! a text in a list or tuple of anything -/
namespace PySem.OSS
open PySem.SeqAt AutoSeq1 MeetsSeq PySem.Calls
theorem str_declines_dict (b : Str) (u : Tok) (l : Addr) (c : Value) (es : Array DictEntry) (n : Nat) (dd : Option Addr) (sl : Array (Option Value)) :
    Meets (Builtin.«str.__eq__» ⟨[.str b u, .ref l], []⟩) (fun _ R s => s.heap.get? l = some { cls := c, dict := dd, data := .dict es n, slots := sl } ∧ R (.ok (.ret .notImplemented)) s) :=
  .of_wp fun prog w A R s h => by obtain ⟨hp, g, d, tk, os⟩ := s; obtain ⟨hl, h⟩ := h; wp_walk using wpAny_loadPart' hl, wpAny_load hl; exact ⟨_, rfl, h⟩
theorem dict_declines_str (l : Addr) (es : Array DictEntry) (n : Nat) (dd : Option Addr) (sl : Array (Option Value)) (b : Str) (u : Tok) :
    Meets (Builtin.«dict.__eq__» ⟨[.ref l, .str b u], []⟩) (fun _ R s => s.heap.get? l = some { cls := .type "dict", dict := dd, data := .dict es n, slots := sl } ∧ R (.ok (.ret .notImplemented)) s) :=
  .of_wp fun prog w A R s h => by obtain ⟨hp, g, d, tk, os⟩ := s; obtain ⟨hl, h⟩ := h; have f1 := F.sub_str_dict; wp_walk using wpAny_loadPart' hl; exact ⟨_, rfl, h⟩
section
variable {A : Around} {s : Shared}
theorem rcAt_dict_str {l : Addr} {es : Array DictEntry} {n : Nat} {dd : Option Addr} {sl : Array (Option Value)} (b : Str) (u : Tok) (ho : s.heap.get? l = some { cls := .type "dict", dict := dd, data := .dict es n, slots := sl }) (hu : A.units < cLine) : RcAt A s (.ref l) (.str b u) false := fun prog w E Q h => by
  exact rc_eq_decline_or (k := false) ⟨_, ho, rfl⟩ (typeIs_str s b u) (by decide) F.sub_str_dict F.slot_dict_eq F.slot_str_eq_refl
    (fun _ hq => call_meets F.slot_dict_eq ⟨_, ho, rfl⟩ F.entry_dict_eq (F.args_dict_eq_2 _ _) (dict_declines_str l es n dd sl b u) ⟨ho, hq⟩)
    (fun _ hq => call_meets F.slot_str_eq_refl (typeIs_str s b u) F.entry_str_eq (F.args_str_eq_2 _ _) (str_declines_dict b u l (.type "dict") es n dd sl) ⟨ho, hq⟩)
    (fun _ hq => wpAny_of_eq (rfl : isSame (.ref l) (.str b u) = pure false) hq) (.inr hu) h
theorem eqAt_dict_str {l : Addr} {es : Array DictEntry} {n : Nat} {dd : Option Addr} {sl : Array (Option Value)} (b : Str) (u : Tok) (ho : s.heap.get? l = some { cls := .type "dict", dict := dd, data := .dict es n, slots := sl }) (hu : A.units < cLine) : EqAt A s (.ref l) (.str b u) false := fun prog w E Q h => by
  unfold eqBool
  refine wpAny_holding ?_
  refine wpAny_ite_split (fun hab => absurd (eq_of_beq hab) nofun) (fun _ => ?_)
  exact wpAny_bind (rcAt_dict_str b u ho hu prog w E _ (wpAny_truthy_bool h))
end
end PySem.OSS
namespace OS
open PySem PySem.Spec PyProof.Rows L2 PySem.OSS
/-- a thing that a list or tuple may hold -/
inductive Itm (K : PySem.W.Frag) (H : Hp) : V → Prop
  | flat {v : V} : flatV v = true → Itm K H v
  | lst {a : Addr} {zs : List V} : SqL K H a zs → Itm K H (.ref a)
  | tup {a : Addr} {zs : List V} : SqT K H a zs → Itm K H (.ref a)
  | dct {a : Addr} {kvs : List (Key × V)} : H a = some (.dK kvs) → Itm K H (.ref a)
def isS (z : Str) : V → Bool
  | .str t => t == z
  | _ => false
def isU (z : Str) : Value → Bool
  | .str t _ => t == z
  | _ => false
theorem isU_eq {z : Str} {y : V} {u : Value} (r : RelV y u) : isU z u = isS z y := by
  cases y with
  | str t => obtain ⟨k, rfl⟩ := r; rfl
  | int i => obtain ⟨k, rfl⟩ := r; rfl
  | byt i => obtain ⟨k, rfl⟩ := r; rfl
  | flt i => obtain ⟨k, rfl⟩ := r; rfl
  | _ => cases r; rfl
theorem flat_isS {z : Str} {y : V} (f : flatV y = true) : eqV y (.str z) = isS z y := by
  cases y <;> first | rfl | exact absurd (show false = true from f) Bool.false_ne_true
theorem any_isU {z : Str} : ∀ {xs : List V} {us : List Value}, Vals xs us → us.any (isU z) = xs.any (isS z)
  | _, _, .nil => rfl
  | _, _, .cons r t => by rw [List.any_cons, List.any_cons, isU_eq r, any_isU t]
section
variable {X : Cx} {pins : List (Addr × Obj)} {σ : L2.St} {H : Hp} {s : Shared}
theorem itm_eqAt (I : Inv X pins σ H s) {z : Str} {t : Tok} {A : Around} (hu : A.units < cLine) : ∀ {xs : List V} {us : List Value}, Vals xs us → (∀ v ∈ xs, Itm X.K H v) → ∀ u ∈ us, SeqAt.EqAt A s u (.str z t) (isU z u)
  | _, _, .nil, _, u, hm => absurd hm (by simp)
  | _, _, .cons (a := y) r tl, h, u, hm => by
    rcases List.mem_cons.mp hm with rfl | hm
    · have hy := h y (List.mem_cons_self ..)
      rw [isU_eq r]
      cases hy with
      | flat f =>
        have q := eqAt_V (A := A) (s := s) r (show RelV (.str z) (.str z t) from ⟨t, rfl⟩) f rfl
        rw [flat_isS f] at q
        exact q
      | lst hs =>
        cases r
        obtain ⟨its, _, pl, _⟩ := I.list hs
        exact SeqAt.EqAt.list_str z t pl.isList hu
      | tup hs =>
        cases r
        obtain ⟨its, _, pl, _⟩ := I.tuple hs
        exact SeqAt.EqAt.tuple_str z t pl hu
      | dct hd =>
        cases r
        obtain ⟨_, _, vs, _, o, es, ep, ho, ⟨h1, h2, h3⟩, h4, _⟩ := I.hok _ _ hd
        obtain ⟨cls, dd, data, sl⟩ := o
        simp only at h1 h4
        subst h1 h4
        exact eqAt_dict_str z t ho hu
    · exact itm_eqAt I hu tl (fun v hv => h v (List.mem_cons_of_mem _ hv)) u hm
/-- a text in a list or tuple of anything -/
def rInAny (K : PySem.W.Frag) (neg : Bool) : R2 := fun x y H Q => ∃ z p xs, x = .str z ∧ y = .ref p ∧ (SqL K H p xs ∨ SqT K H p xs) ∧ (∀ v ∈ xs, Itm K H v) ∧ Q (.bl (if neg then !xs.any (isS z) else xs.any (isS z))) H
theorem op_inAny (hu : X.A.units + 65 < cLine) : OpR X (compareOp .In) (rInAny X.K false) := by
  intro pins s σ H x y v u Q I rx ry h
  obtain ⟨z, p, xs, rfl, rfl, hq, hi, q⟩ := h
  obtain ⟨t, rfl⟩ := rx
  cases ry
  have hu1 : X.A.in1.units < cLine := by
    show X.A.units + 1 < cLine
    omega
  rcases hq with hq | hq
  · obtain ⟨its, r, pl, hz⟩ := I.list hq
    refine SeqAt.in_listAt (isU z) pl.isList (fun w hw => itm_eqAt I hu1 r hi w (by simpa using hw)) ⟨.bl _, H, I, rfl, ?_⟩
    rw [show its.toArray.any (isU z) = its.any (isU z) by simp, any_isU r]
    exact q
  · obtain ⟨its, r, pl, hz⟩ := I.tuple hq
    refine SeqAt.in_tupleAt (isU z) pl (fun w hw => itm_eqAt I hu1 r hi w (by simpa using hw)) ⟨.bl _, H, I, rfl, ?_⟩
    rw [show its.toArray.any (isU z) = its.any (isU z) by simp, any_isU r]
    exact q
theorem op_notInAny (hu : X.A.units + 65 < cLine) : OpR X (compareOp .NotIn) (rInAny X.K true) := by
  intro pins s σ H x y v u Q I rx ry h
  obtain ⟨z, p, xs, rfl, rfl, hq, hi, q⟩ := h
  obtain ⟨t, rfl⟩ := rx
  cases ry
  have hu1 : X.A.in1.units < cLine := by
    show X.A.units + 1 < cLine
    omega
  rcases hq with hq | hq
  · obtain ⟨its, r, pl, hz⟩ := I.list hq
    refine SeqAt.notIn_listAt (isU z) pl.isList (fun w hw => itm_eqAt I hu1 r hi w (by simpa using hw)) ⟨.bl _, H, I, rfl, ?_⟩
    rw [show its.toArray.any (isU z) = its.any (isU z) by simp, any_isU r]
    exact q
  · obtain ⟨its, r, pl, hz⟩ := I.tuple hq
    refine SeqAt.notIn_tupleAt (isU z) pl (fun w hw => itm_eqAt I hu1 r hi w (by simpa using hw)) ⟨.bl _, H, I, rfl, ?_⟩
    rw [show its.toArray.any (isU z) = its.any (isU z) by simp, any_isU r]
    exact q
end
end OS

set_option Elab.async false
set_option linter.all false
set_option maxRecDepth 100000
set_option maxHeartbeats 4000000
/-! == of anything with tuples and lists of texts -/
namespace PySem.OSS
open PySem.SeqAt AutoSeq1 MeetsSeq PySem.Calls
theorem tuple_declines_dict (l b : Addr) (items : Array Value) (es : Array DictEntry) (n n2 : Nat) (dd dd2 : Option Addr) (sl sl2 : Array (Option Value)) :
    Meets (Builtin.«tuple.__eq__» ⟨[.ref l, .ref b], []⟩) (fun _ R s => s.heap.get? l = some { cls := .type "tuple", dict := dd, data := .seq items n, slots := sl } ∧ s.heap.get? b = some { cls := .type "dict", dict := dd2, data := .dict es n2, slots := sl2 } ∧ R (.ok (.ret .notImplemented)) s) :=
  .of_wp fun prog w A R s h => by obtain ⟨hp, g, d, tk, os⟩ := s; obtain ⟨hl, hb, h⟩ := h; have f1 := F.sub_dict_tuple; wp_walk using wpAny_loadPart' hl, wpAny_loadPart' hb; exact ⟨_, rfl, h⟩
theorem dict_declines_tuple (l b : Addr) (items : Array Value) (es : Array DictEntry) (n n2 : Nat) (dd dd2 : Option Addr) (sl sl2 : Array (Option Value)) :
    Meets (Builtin.«dict.__eq__» ⟨[.ref b, .ref l], []⟩) (fun _ R s => s.heap.get? l = some { cls := .type "tuple", dict := dd, data := .seq items n, slots := sl } ∧ s.heap.get? b = some { cls := .type "dict", dict := dd2, data := .dict es n2, slots := sl2 } ∧ R (.ok (.ret .notImplemented)) s) :=
  .of_wp fun prog w A R s h => by obtain ⟨hp, g, d, tk, os⟩ := s; obtain ⟨hl, hb, h⟩ := h; have f1 := F.sub_tuple_dict; wp_walk using wpAny_loadPart' hl, wpAny_loadPart' hb; exact ⟨_, rfl, h⟩
section
variable {A : Around} {s : Shared}
/-- a dict is no tuple -/
theorem rcAt_dict_tuple {b l : Addr} {items : Array Value} {es : Array DictEntry} {n2 : Nat} {dd2 : Option Addr} {sl2 : Array (Option Value)} (hl : s.heap.IsTuple l items) (ho2 : s.heap.get? b = some { cls := .type "dict", dict := dd2, data := .dict es n2, slots := sl2 }) (hu : A.units < cLine) : RcAt A s (.ref b) (.ref l) false := fun prog w E Q h => by
  obtain ⟨⟨cls, dd, data, sl⟩, ho, hc, n, hd⟩ := id hl
  simp only at hc hd
  subst hc hd
  have hne : b ≠ l := fun e => by
    subst e
    have q := congrArg (fun o : Obj => o.cls) (Option.some.inj (ho.symm.trans ho2))
    exact absurd q (by simp)
  exact (rc_eq_decline_or (k := false) ⟨_, ho2, rfl⟩ ⟨_, ho, rfl⟩ (by decide) F.sub_tuple_dict F.slot_dict_eq F.slot_tuple_eq_refl
    (fun _ hq => call_meets F.slot_dict_eq ⟨_, ho2, rfl⟩ F.entry_dict_eq (F.args_dict_eq_2 _ _) (dict_declines_tuple l b items es n n2 dd dd2 sl sl2) ⟨ho, ho2, hq⟩)
    (fun _ hq => call_meets F.slot_tuple_eq_refl ⟨_, ho, rfl⟩ F.entry_tuple_eq (F.args_tuple_eq_2 _ _) (tuple_declines_dict l b items es n n2 dd dd2 sl sl2) ⟨ho, ho2, hq⟩)
    (fun _ hq => wpAny_isSame_ref_other hne ho2 ho (by simp) hq) (.inr hu) h)
end
end PySem.OSS
namespace OS
open PySem PySem.Spec PyProof.Rows L2 PySem.OSS
/-- the things xs are the texts ys -/
def eqS : List V → List Str → Bool
  | [], [] => true
  | x :: xs, y :: ys => isS y x && eqS xs ys
  | _, _ => false
theorem eqS_range : ∀ (xs : List V) (ys : List Str), ((List.range (min xs.length ys.length)).all (fun j => isS (ys.getD j default) (xs.getD j .non)) && xs.length == ys.length) = eqS xs ys
  | [], [] => rfl
  | [], _ :: _ => by simp [eqS]
  | _ :: _, [] => by simp [eqS]
  | x :: xs, y :: ys => by
    have ih := eqS_range xs ys
    have e1 : min (x :: xs).length (y :: ys).length = min xs.length ys.length + 1 := by simp only [List.length_cons]; omega
    have e2 : ((x :: xs).length == (y :: ys).length) = (xs.length == ys.length) := by simp
    have e3 : (List.range (min xs.length ys.length + 1)).all (fun j => isS ((y :: ys).getD j default) ((x :: xs).getD j .non)) = (isS y x && (List.range (min xs.length ys.length)).all (fun j => isS (ys.getD j default) (xs.getD j .non))) := by
      rw [List.range_succ_eq_map, List.all_cons, List.all_map]
      first | rfl | simp [Function.comp_def]
    rw [e1, e2, e3, eqS, ← ih, Bool.and_assoc]
theorem eqS_len {xs : List V} {ys : List Str} (h : xs.length ≠ ys.length) : eqS xs ys = false := by
  rw [← eqS_range]
  simp [h]
theorem eqS_strs : ∀ xs ys : List Str, eqS (xs.map .str) ys = decide (xs = ys)
  | [], [] => by simp [eqS]
  | [], _ :: _ => by simp [eqS]
  | _ :: _, [] => by simp [eqS]
  | x :: xs, y :: ys => by
    show (isS y (.str x) && eqS (xs.map .str) ys) = _
    rw [eqS_strs xs ys]
    show ((x == y) && decide (xs = ys)) = decide (x :: xs = y :: ys)
    by_cases h1 : x = y <;> by_cases h2 : xs = ys <;> simp [h1, h2]
theorem eqS_true : ∀ {xs : List V} {ys : List Str}, eqS xs ys = true → xs = ys.map .str
  | [], [], _ => rfl
  | [], _ :: _, h => by simp [eqS] at h
  | _ :: _, [], h => by simp [eqS] at h
  | x :: xs, y :: ys, h => by
    rw [eqS, Bool.and_eq_true] at h
    rw [List.map_cons, eqS_true h.2]
    congr 1
    cases x with
    | str t => exact congrArg V.str (eq_of_beq h.1)
    | _ => exact absurd h.1 (by simp [isS])
section
variable {X : Cx} {pins : List (Addr × Obj)} {σ : L2.St} {H : Hp} {s : Shared}
theorem strs_at : ∀ {ys : List Str} {us : List Value} {j : Nat}, Vals (ys.map V.str) us → j < us.length → ∃ t, us[j]? = some (.str (ys.getD j default) t)
  | [], _, j, r, hj => by
    have r' : Vals [] _ := r
    cases r'
    exact absurd hj (by simp)
  | y :: ys, _, j, r, hj => by
    have r' : Vals (V.str y :: ys.map V.str) _ := r
    cases r' with
    | cons h t =>
      cases j with
      | zero =>
        obtain ⟨k, rfl⟩ := h
        exact ⟨k, rfl⟩
      | succ j =>
        obtain ⟨k, hk⟩ := strs_at (ys := ys) (j := j) t (by simpa using hj)
        exact ⟨k, hk⟩
theorem itms_at : ∀ {xs : List V} {us : List Value} {j : Nat} {u : Value}, Vals xs us → us[j]? = some u → RelV (xs.getD j .non) u
  | _, _, j, u, .nil, h => by simp at h
  | _, _, 0, u, .cons r t, h => by
    have e : _ = u := Option.some.inj h
    subst e
    exact r
  | _ :: xs, _ :: us, j + 1, u, .cons r t, h => itms_at (xs := xs) (us := us) (j := j) t h
theorem items_eq (I : Inv X pins σ H s) {A : Around} (hu : A.units < cLine) {xs : List V} {ys : List Str} {us ws : List Value} (rx : Vals xs us) (ry : Vals (ys.map V.str) ws) (hi : ∀ v ∈ xs, Itm X.K H v) :
    ∀ j (h1 : j < us.toArray.size) (h2 : j < ws.toArray.size), SeqAt.EqAt A s us.toArray[j] ws.toArray[j] (isS (ys.getD j default) (xs.getD j .non)) := by
  intro j h1 h2
  have h1' : j < us.length := by simpa using h1
  have h2' : j < ws.length := by simpa using h2
  obtain ⟨t, ht⟩ := strs_at ry h2'
  have e1 : us[j]? = some us[j] := List.getElem?_eq_getElem h1'
  have e2 : ws[j]? = some ws[j] := List.getElem?_eq_getElem h2'
  have e3 : ws[j] = .str (ys.getD j default) t := Option.some.inj (e2.symm.trans ht)
  show SeqAt.EqAt A s us[j] ws[j] _
  rw [e3, ← isU_eq (itms_at rx e1)]
  exact itm_eqAt I hu rx hi _ (List.getElem_mem h1')
/-- a tuple of anything against a tuple of texts -/
def rEqTS (K : PySem.W.Frag) : R2 := fun x y H Q => ∃ a b xs ys, x = .ref a ∧ y = .ref b ∧ SqT K H a xs ∧ (∀ v ∈ xs, Itm K H v) ∧ SqT K H b (ys.map V.str) ∧ Q (.bl (eqS xs ys)) H
/-- a list of anything against a list of texts -/
def rEqLS (K : PySem.W.Frag) : R2 := fun x y H Q => ∃ a b xs ys, x = .ref a ∧ y = .ref b ∧ SqL K H a xs ∧ (∀ v ∈ xs, Itm K H v) ∧ SqL K H b (ys.map V.str) ∧ Q (.bl (eqS xs ys)) H
theorem op_eqTS (hu : X.A.units + 65 < cLine) : OpR X (compareOp .Eq) (rEqTS X.K) := by
  intro pins s σ H x y v u Q I rx ry h
  obtain ⟨a, b, xs, ys, rfl, rfl, hx, hi, hy, q⟩ := h
  cases rx
  cases ry
  obtain ⟨its, r, pl, hz⟩ := I.tuple hx
  obtain ⟨its2, r2, pl2, hz2⟩ := I.tuple hy
  refine SeqAt.eq_tupleAt pl pl2 (by omega) (items_eq I (by show X.A.units + 1 < cLine; omega) r r2 hi) ⟨.bl _, H, I, rfl, ?_⟩
  have e1 : its.toArray.size = xs.length := by simp [r.length]
  have e2 : its2.toArray.size = ys.length := by
    have := r2.length
    simp at this ⊢
    exact this.symm
  rw [e1, e2, eqS_range]
  exact q
theorem op_eqLS (hu : X.A.units + 65 < cLine) : OpR X (compareOp .Eq) (rEqLS X.K) := by
  intro pins s σ H x y v u Q I rx ry h
  obtain ⟨a, b, xs, ys, rfl, rfl, hx, hi, hy, q⟩ := h
  cases rx
  cases ry
  obtain ⟨its, r, pl, hz⟩ := I.list hx
  obtain ⟨its2, r2, pl2, hz2⟩ := I.list hy
  have e1 : its.toArray.size = xs.length := by simp [r.length]
  have e2 : its2.toArray.size = ys.length := by
    have := r2.length
    simp at this ⊢
    exact this.symm
  by_cases hl : xs.length = ys.length
  · refine SeqAt.eq_listAt pl.isList pl2.isList (by rw [e1, e2, hl]) (by omega) (items_eq I (by show X.A.units + 1 < cLine; omega) r r2 hi) ⟨.bl _, H, I, rfl, ?_⟩
    have e3 := eqS_range xs ys
    rw [← hl, Nat.min_self] at e3
    rw [e1]
    simp only [beq_self_eq_true, Bool.and_true] at e3
    rw [e3]
    exact q
  · refine SeqAt.eq_list_lengthsAt pl.isList pl2.isList (by rw [e1, e2]; simp [hl]) (by omega) ⟨.bl _, H, I, rfl, ?_⟩
    rw [eqS_len hl] at q
    exact q
/-- is the thing the empty tuple? -/
inductive EmpIs (K : PySem.W.Frag) (H : Hp) : V → Bool → Prop
  | flat {v : V} : flatV v = true → EmpIs K H v false
  | lst {a : Addr} {zs : List V} : SqL K H a zs → EmpIs K H (.ref a) false
  | tup {a : Addr} {zs : List V} : SqT K H a zs → EmpIs K H (.ref a) zs.isEmpty
  | dct {a : Addr} {kvs : List (Key × V)} : H a = some (.dK kvs) → EmpIs K H (.ref a) false
/-- anything against () -/
def rEqEmp (K : PySem.W.Frag) : R2 := fun x y H Q => ∃ b k, EmpIs K H x k ∧ y = .ref b ∧ SqT K H b [] ∧ Q (.bl k) H
theorem op_eqEmp (hu : X.A.units + 65 < cLine) : OpR X (compareOp .Eq) (rEqEmp X.K) := by
  intro pins s σ H x y v u Q I rx ry h
  obtain ⟨b, k, hx, rfl, hy, q⟩ := h
  cases ry
  obtain ⟨its2, r2, pl2, hz2⟩ := I.tuple hy
  have hu1 : X.A.units < cLine := by omega
  cases hx with
  | flat f =>
    cases x with
    | non =>
      cases rx
      exact SeqAt.RcAt.none_tuple pl2 hu1 X.prog X.w _ _ ⟨.bl _, H, I, rfl, q⟩
    | bl c =>
      cases rx
      exact SeqAt.RcAt.bool_tuple c pl2 hu1 X.prog X.w _ _ ⟨.bl _, H, I, rfl, q⟩
    | int i =>
      obtain ⟨t, rfl⟩ := rx
      exact SeqAt.RcAt.int_tuple i t pl2 hu1 X.prog X.w _ _ ⟨.bl _, H, I, rfl, q⟩
    | str z =>
      obtain ⟨t, rfl⟩ := rx
      exact SeqAt.RcAt.str_tuple z t pl2 hu1 X.prog X.w _ _ ⟨.bl _, H, I, rfl, q⟩
    | _ => exact absurd (show false = true from f) Bool.false_ne_true
  | lst hs =>
    cases rx
    obtain ⟨its, r, pl, hz⟩ := I.list hs
    exact SeqAt.RcAt.list_tuple pl.isList pl2 hu1 X.prog X.w _ _ ⟨.bl _, H, I, rfl, q⟩
  | tup hs =>
    rename_i a zs
    cases rx
    obtain ⟨its, r, pl, hz⟩ := I.tuple hs
    cases r2
    refine SeqAt.eq_tupleAt (e := fun _ => true) pl pl2 hu1 (fun j h1 h2 => absurd h2 (by simp)) ⟨.bl _, H, I, rfl, ?_⟩
    have e1 : its.toArray.size = zs.length := by simp [r.length]
    rw [e1]
    have e2 : ((List.range (min zs.length ([] : List Value).toArray.size)).all (fun _ => true) && zs.length == ([] : List Value).toArray.size) = zs.isEmpty := by
      cases zs <;> simp
    rw [e2]
    exact q
  | dct hd =>
    cases rx
    obtain ⟨_, _, vs, _, o, es, ep, ho, ⟨h1, h2, h3⟩, h4, _⟩ := I.hok _ _ hd
    obtain ⟨cls, dd, data, sl⟩ := o
    simp only at h1 h4
    subst h1 h4
    exact rcAt_dict_tuple pl2 ho hu1 X.prog X.w _ _ ⟨.bl _, H, I, rfl, q⟩
end
end OS

set_option Elab.async false
set_option linter.all false
set_option maxRecDepth 100000
set_option maxHeartbeats 4000000
/-! ==, !=, in, not in of data without dicts: nothing asked of the texts -/
namespace OS
open PySem PySem.Spec PyProof.Rows L2 PySem.OSS
mutual
theorem dp_plain {K : PySem.W.Frag} {H : Hp} : ∀ (d : PyData) (v : V), Dp K H v d → d.plain = true
  | .none, _, _ => rfl
  | .bool _, _, _ => rfl
  | .int _, _, _ => rfl
  | .str _, _, _ => rfl
  | .list ds, _, h => by
    cases h with
    | lst _ ha =>
      simp only [PyData.plain]
      exact dp_plains ds _ ha
  | .tuple ds, _, h => by
    cases h with
    | tup _ ha =>
      simp only [PyData.plain]
      exact dp_plains ds _ ha
  | .dict _, _, h => by cases h
theorem dp_plains {K : PySem.W.Frag} {H : Hp} : ∀ (ds : List PyData) (vs : List V), DpAll K H vs ds → PyData.plainAll ds = true
  | [], _, _ => rfl
  | d :: ds, _, h => by
    cases h with
    | cons h1 h2 =>
      simp only [PyData.plainAll]
      rw [dp_plain d _ h1, dp_plains ds _ h2]
      rfl
end
section
variable {X : Cx}
def rEqP (K : PySem.W.Frag) : R2 := fun x y H Q => ∃ d e, Dp K H x d ∧ Dp K H y e ∧ d.depth ≤ 60 ∧ Q (.bl (PyData.eqv d e)) H
def rNeP (K : PySem.W.Frag) : R2 := fun x y H Q => ∃ d e, Dp K H x d ∧ Dp K H y e ∧ d.depth ≤ 60 ∧ Q (.bl (!PyData.eqv d e)) H
theorem op_eqP (hu : X.A.units + 65 < cLine) : OpR X (compareOp .Eq) (rEqP X.K) := by
  intro pins s σ H x y v u Q I rx ry h
  obtain ⟨d, e, hd, he, hn, q⟩ := h
  obtain ⟨as, r1⟩ := Dp.reads I d x v hd rx
  obtain ⟨bs, r2⟩ := Dp.reads I e y u he ry
  exact SeqAt.eq_plain r1 r2 (dp_plain d _ hd) (dp_plain e _ he) (by omega) ⟨.bl _, H, I, rfl, q⟩
theorem op_neP (hu : X.A.units + 65 < cLine) : OpR X (compareOp .NotEq) (rNeP X.K) := by
  intro pins s σ H x y v u Q I rx ry h
  obtain ⟨d, e, hd, he, hn, q⟩ := h
  obtain ⟨as, r1⟩ := Dp.reads I d x v hd rx
  obtain ⟨bs, r2⟩ := Dp.reads I e y u he ry
  exact SeqAt.ne_plain r1 r2 (dp_plain d _ hd) (dp_plain e _ he) (by omega) ⟨.bl _, H, I, rfl, q⟩
def rInP (K : PySem.W.Frag) (neg : Bool) : R2 := fun x y H Q => ∃ d ds, Dp K H x d ∧ (Dp K H y (.list ds) ∨ Dp K H y (.tuple ds)) ∧ d.depth ≤ 60 ∧ Q (.bl (if neg then !ds.any fun z => PyData.eqv z d else ds.any fun z => PyData.eqv z d)) H
theorem op_inP (hu : X.A.units + 65 < cLine) : OpR X (compareOp .In) (rInP X.K false) := by
  intro pins s σ H x y v u Q I rx ry h
  obtain ⟨d, ds, hd, he, hn, q⟩ := h
  obtain ⟨as, r1⟩ := Dp.reads I d x v hd rx
  rcases he with he | he
  · obtain ⟨bs, r2⟩ := Dp.reads I _ y u he ry
    exact SeqAt.in_list_data r2 r1 (by have := dp_plain _ _ he; simpa only [PyData.plain] using this) (dp_plain d _ hd) (by omega) ⟨.bl _, H, I, rfl, q⟩
  · obtain ⟨bs, r2⟩ := Dp.reads I _ y u he ry
    exact SeqAt.in_tuple_data r2 r1 (by have := dp_plain _ _ he; simpa only [PyData.plain] using this) (dp_plain d _ hd) (by omega) ⟨.bl _, H, I, rfl, q⟩
theorem op_notInP (hu : X.A.units + 65 < cLine) : OpR X (compareOp .NotIn) (rInP X.K true) := by
  intro pins s σ H x y v u Q I rx ry h
  obtain ⟨d, ds, hd, he, hn, q⟩ := h
  obtain ⟨as, r1⟩ := Dp.reads I d x v hd rx
  rcases he with he | he
  · obtain ⟨bs, r2⟩ := Dp.reads I _ y u he ry
    exact SeqAt.notIn_list_data r2 r1 (by have := dp_plain _ _ he; simpa only [PyData.plain] using this) (dp_plain d _ hd) (by omega) ⟨.bl _, H, I, rfl, q⟩
  · obtain ⟨bs, r2⟩ := Dp.reads I _ y u he ry
    exact SeqAt.notIn_tuple_data r2 r1 (by have := dp_plain _ _ he; simpa only [PyData.plain] using this) (dp_plain d _ hd) (by omega) ⟨.bl _, H, I, rfl, q⟩
end
end OS

set_option Elab.async false
set_option linter.all false
set_option maxRecDepth 100000
set_option maxHeartbeats 4000000
/-! tuples told by what they hold; sorted of a tuple -/
namespace PySem.OSS
open PySem PySem.Calls PySem.W PyProof.Rows
section
variable {prog : Program} {w : World} {A : Around} {E : Value → Shared → Prop} {s : Shared}
theorem collect_tup {l : Addr} {vs : List Value} {Q : List Value → Shared → Prop} (hl : IsTup s.heap l vs.toArray)
    (h : Q vs { s with heap := (s.heap.push (seqObj "list" #[] 0)).update s.heap.objs.size (Obj.mapSeq (· ++ vs.toArray)) }) (hsz : vs.length ≤ sizeLine) :
    wpAny (model prog w) A (collect (.ref l)) Q E s := by
  obtain ⟨o, ho, hc, n, hd⟩ := id hl
  unfold collect
  refine wpAny_bind (wpAny_runValue (codeAny_builtin entry_proto_collect' ?_))
  show wpAny _ _ (do again (.builtin "list.__iadd__" ⟨[← newList [], .ref l], []⟩)) _ _ s
  refine wpAny_bind (wpAny_newList (wpAny_pure ⟨Code.quiet_builtin _ (by decide +kernel), codeAny_builtin entry_list_iadd' ?_⟩))
  show wpAny _ _ (Builtin.List.listExtendWith (.ref s.heap.objs.size) (.ref l) (.ref s.heap.objs.size)) _ _ { s with heap := s.heap.push (seqObj "list" #[] 0) }
  unfold Builtin.List.listExtendWith
  have ho' : (s.heap.push (seqObj "list" #[] 0)).get? l = some o := Heap.get?_push_of_some _ ho
  refine wpAny_bind (wpAny_typeOf (T := "tuple") ⟨o, ho', hc⟩ ?_)
  have ht : (Value.type "tuple" == Value.type "tuple") = true := by rfl
  rw [if_pos (by rw [ht]; simp)]
  refine wpAny_bind (listItems_at ho' hd ?_)
  refine wpAny_bind (listItems_at (xs := #[]) (n := 0) (Heap.get?_push_size _ rfl) rfl ?_)
  rw [if_neg (by simp)]
  refine wpAny_bind (listUpdate_at (xs := #[]) (n := 0) (Heap.get?_push_size _ rfl) rfl ?_ (Nat.zero_le _) (by show (#[] ++ vs.toArray).size ≤ sizeLine + 1; simp only [Array.size_append, List.size_toArray, List.length_nil]; omega))
  refine wpAny_pure ?_
  show wpAny (model prog w) A (do
      let o ← load s.heap.objs.size
      match o.data with
      | .seq xs _ => pure xs.toList
      | _ => unsupported "internal:collect") Q E { s with heap := (s.heap.push (seqObj "list" #[] 0)).update s.heap.objs.size (Obj.mapSeq (· ++ vs.toArray)) }
  refine wpAny_bind (wpAny_load (get?_update_seq (Heap.get?_push_size _ rfl) _) ?_)
  show wpAny _ _ (pure ((#[] : Array Value) ++ vs.toArray).toList) Q E _
  rw [show ((#[] : Array Value) ++ vs.toArray).toList = vs by simp]
  exact wpAny_pure h
theorem sorted_of_sortT {l : Addr} {vs : List Value} {kw : List (Str × Value)} {Q : Value → Shared → Prop} (hl : IsTup s.heap l vs.toArray) (hL : vs.length ≤ sizeLine) (ha1 : argsOk "sorted" ⟨[.ref l], kw⟩) (ha2 : ∀ x, argsOk "list.sort" ⟨[.ref x], kw⟩)
    (body : ∀ E' : Value → Shared → Prop, wpAny (model prog w) A.in1.in1 (Builtin.«list.sort» ⟨[.ref (s.heap.objs.size + 1)], kw⟩) (fun f s' => f = .done (.ret .none) ∧ Q (.ref (s.heap.objs.size + 1)) s') E' { s with heap := copyHeap s.heap vs }) :
    wpAny (model prog w) A (call (.builtin "sorted") [.ref l] kw) Q E s := by
  refine call_function_entry_kw kind_sorted plain_sorted entry_sorted ha1 ?_
  unfold Builtin.«sorted»
  refine wpAny_bind (m := checkCount "sorted" 1 1 _) (wpAny_pure ?_)
  refine wpAny_bind (collect_tup hl ?_ hL)
  refine wpAny_bind (wpAny_newList ?_ hL)
  have hsz : ((s.heap.push (seqObj "list" #[] 0)).update s.heap.objs.size (Obj.mapSeq (· ++ vs.toArray))).objs.size = s.heap.objs.size + 1 := by
    rw [Heap.size_update, size_push']
  show wpAny _ _ _ _ _ { s with heap := copyHeap s.heap vs }
  rw [hsz]
  refine wpAny_bind (wpAny_holding (wpAny_call_entry_kw slot_list_sort ⟨_, copyHeap_at s.heap vs, rfl⟩ entry_list_sort ?body (ha2 _)))
  case body =>
    show wpAny (model prog w) A.in1.in1 (Builtin.«list.sort» ⟨[.ref (s.heap.objs.size + 1)], kw⟩) _ _ _
    refine wpAny_mono (body _) (fun f s' hf => ?_) fun _ _ e => e
    obtain ⟨rfl, hq⟩ := hf
    exact ⟨_, rfl, wpAny_pure ⟨_, rfl, hq⟩⟩
theorem sorted_dataT {β : Type} {vs : List Value} {bs : List β} {enc : β → PyData} {R : Value → β → Prop} {l : Addr} {Q : Value → Shared → Prop} (hl : IsTup s.heap l vs.toArray) (e : EachIs R vs bs) (er : EachIs (fun v b => ∃ as, Reads s.heap v (enc b) as) vs bs) (hal : AllAlike (bs.map enc)) (hk : SortableX (bs.map enc)) (hL : bs.length ≤ sizeLine)
    (hu : ∀ b, b ∈ bs → A.units + 2 + (enc b).depth < cLine) (h : ∀ out, out.length = bs.length → EachIs R out (bs.mergeSort (dataLe false enc)) → Q (.ref (s.heap.objs.size + 1)) { s with heap := sortedAll s.heap vs (List.toArray out) }) :
    wpAny (model prog w) A (call (.builtin "sorted") [.ref l]) Q E s := by
  have er' : EachIs (fun v b => ∃ as, Reads (sortingHeap (copyHeap s.heap vs) (s.heap.objs.size + 1) vs) v (enc b) as) vs bs := er.mono fun _ _ ⟨as, r⟩ => ⟨as, PyProof.Rows.Reads.keeps (fun _ _ => sorting_copy_old) r⟩
  have S := sorts_dataX (prog := prog) (w := w) (A := A.in1.in1) (s := { s with heap := sortingHeap (copyHeap s.heap vs) (s.heap.objs.size + 1) vs }) (each_map (R := fun v d => ∃ as, Reads (sortingHeap (copyHeap s.heap vs) (s.heap.objs.size + 1) vs) v d as) enc er') hal hk (bound_map hu)
  have hL' : vs.length ≤ sizeLine := by rw [e.length]; exact hL
  exact sorted_of_sortT hl hL' (args_sorted1 _) (fun _ => args_list_sort _) fun _ => list_sort_vals (s := { s with heap := copyHeap s.heap vs }) (copyHeap_at s.heap vs) S hL' ⟨rfl, h _ (by rw [sortVals_length false rfl]; exact e.length) (sortVals_data false e er' hal)⟩
end
end PySem.OSS
namespace OS
open PySem PySem.Spec PyProof.Rows L2 PySem.OSS
open PySem.W (EachIs AllAlike dataLe)
/-- texts in order -/
abbrev leS : Str → Str → Bool := dataLe false PyData.str
/-- sorted(xs): xs a list or tuple of texts -/
def rSortS (K : PySem.W.Frag) : List V → Hp → VK → Prop := fun vs H Q => ∃ (a : Addr) (ys : List Str), vs = [V.ref a] ∧ (SqL K H a (ys.map V.str) ∨ SqT K H a (ys.map V.str)) ∧ NewO H (.lst ((ys.mergeSort leS).map V.str)) Q
section
variable {X : Cx}
theorem alikes_str (ys : List Str) : AllAlike (ys.map PyData.str) := AllAlike.of fun _ _ => by simp [PySem.W.alike]
theorem cr_sortS (hu : X.A.units + 65 < cLine) : CallR X (.builtin "sorted") (rSortS X.K) := by
  intro pins s σ H vs us Q I r h
  obtain ⟨a, ys, rfl, hs, q⟩ := h
  obtain ⟨u, rfl, ru⟩ := vals1 r
  obtain rfl : u = Value.ref a := ru
  have hk : SortableX (ys.map PyData.str) := .inl (PySem.W.Sortable.others fun b => ⟨(fun z => nomatch z), fun xs z => nomatch z⟩)
  have done : ∀ {its : List Value} {out : List Value}, ys.length ≤ sizeLine → EachIs (fun v b => RelV (V.str b) v) out (ys.mergeSort leS) → EP X pins σ Q (.ref (s.heap.objs.size + 1)) { s with heap := sortedAll s.heap its (List.toArray out) } := fun {its out} hz eo => by
    obtain ⟨ep, he'⟩ := PyProof.Rows.sortedAll_at s.heap its out.toArray
    refine ⟨.ref _, upd H (s.heap.objs.size + 1) (.lst ((ys.mergeSort leS).map V.str)), I.laid (t' := s.toks) (fun _ _ => PyProof.Rows.sortedAll_old) (Nat.le_succ _) ⟨?_, out, ep, vals_of_each _ eo, he'⟩, rfl, q.to _ (I.hok.fresh (Nat.le_succ _))⟩
    rw [List.length_map, List.length_mergeSort]
    exact hz
  have rd : ∀ {its : List Value}, EachIs (fun v b => RelV (V.str b) v) its ys → EachIs (fun v b => ∃ as, Reads s.heap v (PyData.str b) as) its ys := fun e => e.mono fun v b r => by
    obtain ⟨t, rfl⟩ := r
    exact ⟨_, Reads.str b t⟩
  rcases hs with hs | hs
  · obtain ⟨its, rv, hl, hz⟩ := I.list hs
    rw [List.length_map] at hz
    have e := each_of_vals V.str rv
    exact sorted_dataX (R := fun v b => RelV (V.str b) v) (enc := PyData.str) hl.isList e (rd e) (alikes_str ys) hk hz (fun b hb => by simp only [PyData.depth]; omega) fun out _ eo => done hz eo
  · obtain ⟨its, rv, hl, hz⟩ := I.tuple hs
    rw [List.length_map] at hz
    have e := each_of_vals V.str rv
    exact sorted_dataT (R := fun v b => RelV (V.str b) v) (enc := PyData.str) hl e (rd e) (alikes_str ys) hk hz (fun b hb => by simp only [PyData.depth]; omega) fun out _ eo => done hz eo
/-- t + u -/
def rCatTO (K : PySem.W.Frag) : R2 := fun x y H Q => ∃ a b xs ys, x = .ref a ∧ y = .ref b ∧ SqT K H a xs ∧ SqT K H b ys ∧ xs.length + ys.length ≤ sizeLine ∧ ∀ q H', Same H H' → SqT K H' q (xs ++ ys) → Q (.ref q) H'
theorem op_catTO : OpR X (binaryOp .Add) (rCatTO X.K) := opImp op_catA fun x y H Q ⟨a, b, xs, ys, h1, h2, h3, h4, h5, q⟩ => ⟨a, b, xs, ys, h1, h2, h3, h4, h5, (fun e => by
  subst e
  exact q b H (Same.refl H) h4), (fun _ e => by
  subst e
  exact q a H (Same.refl H) (by rw [List.append_nil]; exact h3)), fun _ _ p hp => q p _ (same_new hp) (SqT.of upd_same)⟩
theorem cut_whole {xs : List V} {lo hi : Option Int} (h : HT.sIx xs.length 0 lo = 0 ∧ HT.sIx xs.length xs.length hi = xs.length) : cutV xs lo hi = xs := by
  unfold cutV
  rw [h.1, h.2]
  simp
/-- t[lo:hi] -/
def rSlTO (K : PySem.W.Frag) : V → Option Int → Option Int → Hp → VK → Prop := fun x lo hi H Q => ∃ a xs, x = .ref a ∧ SqT K H a xs ∧ ∀ q H', Same H H' → SqT K H' q (cutV xs lo hi) → Q (.ref q) H'
theorem sl_tupO : SlR X (rSlTO X.K) := slImp sl_tupA fun x lo hi H Q ⟨a, xs, h1, h2, q⟩ => ⟨a, xs, h1, h2, (fun h => q a H (Same.refl H) (by rw [cut_whole h]; exact h2)), fun _ p hp => q p _ (same_new hp) (SqT.of upd_same)⟩
/-- tuple(xs) of a list or a tuple -/
def rTupO (K : PySem.W.Frag) : List V → Hp → VK → Prop := fun xs H Q => ∃ p ys, xs = [.ref p] ∧ (SqL K H p ys ∨ SqT K H p ys) ∧ ∀ q H', Same H H' → SqT K H' q ys → Q (.ref q) H'
end
end OS

set_option Elab.async false
set_option linter.all false
set_option maxRecDepth 100000
set_option maxHeartbeats 4000000
/-! a tuple turned round -/
namespace OS
open PySem PySem.Spec PySem.Calls PyProof.Rows L2 HT
open PySem.W (krv_range krv_all)
section
variable {prog : Program} {w : World} {A : Around} {E : Value → Shared → Prop} {s : Shared}
theorem adjust_rev (n : Nat) : Builtin.Slice.sliceAdjust none none (-1) (n : Int) = ((n : Int) - 1, -1) := by
  unfold Builtin.Slice.sliceAdjust
  rfl
theorem places_rev (n : Nat) : Builtin.Slice.slicePlaces ((n : Int) - 1) (-1) (-1) = n := by
  unfold Builtin.Slice.slicePlaces
  have h1 : ¬ ((-1 : Int) > 0) := by omega
  simp only [h1, if_false, Int.neg_neg, Int.ediv_one]
  split <;> omega
theorem sliceApplied_rev {sl : Addr} {vs : Value} {n : Nat} {Q : Int × Int × Nat → Shared → Prop} (hs : s.heap.IsSliceOf sl .none .none vs) (ps : IsPart vs (some (-1)))
    (h : Q ((n : Int) - 1, -1, n) s) : wpAny (model prog w) A (Builtin.Slice.sliceApplied (.ref sl) (pure (n : Int))) Q E s := by
  obtain ⟨os, hos, hcs, hds⟩ := id hs
  unfold Builtin.Slice.sliceApplied Builtin.Slice.sliceFields
  refine wpAny_bind (wpAny_bind (wpAny_field hos hds (x := .none) rfl (wpAny_bind (wpAny_field hos hds (x := .none) rfl (wpAny_bind (wpAny_field hos hds (x := vs) rfl (wpAny_pure ?_)))))))
  refine wpAny_bind (slicePart_ ps ?_)
  show wpAny _ _ (if ((-1 : Int) == 0) = true then _ else _) _ _ s
  rw [if_neg (by decide)]
  refine wpAny_bind (slicePart_none (wpAny_bind (slicePart_none (wpAny_bind (wpAny_pure ?_)))))
  show wpAny _ _ (match Builtin.Slice.sliceAdjust none none (-1) (n : Int) with | (lo, hi) => pure (lo, (-1 : Int), Builtin.Slice.slicePlaces lo hi (-1))) _ _ s
  rw [adjust_rev]
  show wpAny _ _ (pure ((n : Int) - 1, (-1 : Int), Builtin.Slice.slicePlaces ((n : Int) - 1) (-1) (-1))) _ _ s
  rw [places_rev]
  exact wpAny_pure h
theorem pick_rev (xs : Array Value) : ((List.range xs.size).filterMap fun (m : Nat) => xs[(((xs.size : Int) - 1) + (m : Int) * (-1)).toNat]?).toArray = xs.toList.reverse.toArray := by
  have e : ((List.range xs.size).filterMap fun (m : Nat) => xs[(((xs.size : Int) - 1) + (m : Int) * (-1)).toNat]?) = ((List.range xs.size).map fun k => xs.size - 1 - k).filterMap (xs[·]?) := by
    rw [List.filterMap_map]
    congr 1
    funext m
    have : (((xs.size : Int) - 1) + (m : Int) * (-1)).toNat = xs.size - 1 - m := by omega
    show xs[(((xs.size : Int) - 1) + (m : Int) * (-1)).toNat]? = xs[xs.size - 1 - m]?
    rw [this]
  rw [e, krv_range, List.filterMap_reverse, krv_all]
theorem getItem_tuple_rev {t sl : Addr} {items : Array Value} {vs : Value} {Q : Value → Shared → Prop} (ht : IsTup s.heap t items) (hs : s.heap.IsSliceOf sl .none .none vs) (ps : IsPart vs (some (-1)))
    (h : Q (.ref s.heap.objs.size) { s with heap := s.heap.push { cls := .type "tuple", data := .seq items.toList.reverse.toArray } })
    (hsz : items.size ≤ sizeLine) : wpAny (model prog w) A (getItem (.ref t) (.ref sl)) Q E s := by
  have htake : sizeOk (.seq items.toList.reverse.toArray) := by
    show items.toList.reverse.toArray.size ≤ sizeLine
    rw [List.size_toArray, List.length_reverse, Array.length_toList]
    exact hsz
  obtain ⟨os, hos, hcs, hds⟩ := id hs
  have hTs : s.TypeIs (.ref sl) "slice" := ⟨os, hos, hcs⟩
  unfold getItem
  try with_reducible refine wpAny_holding ?_
  first | refine wpAny_bind (wpAny_pure ?_) | skip
  refine wpAny_bind (wpAny_sequenceKey ht.typeIs (by decide) ?_)
  refine wpAny_bind (wpAny_callSpecial?_slot (name := Str.ofString "__getitem__") ht.typeIs PyProof.Rows.slot_tuple_getitem
    (wpAny_call_entry PyProof.Rows.slot_tuple_getitem ht.typeIs entry_tuple_getitem ?_ (args_tuple_getitem _ _)))
  show wpAny _ _ (Builtin.Tuple.tupleItemsOf (.ref t) >>= _) _ _ s
  refine wpAny_bind (tupleItemsOf_ ht ?_)
  refine wpAny_bind (wpAny_typeOf hTs ?_)
  rw [if_pos (by decide)]
  refine wpAny_bind (sliceApplied_rev hs ps ?_)
  have hno : ¬ ((((items.size : Int) - 1) == 0 && (-1 : Int) == 1 && items.size == items.size) = true) := by simp
  show wpAny _ _ (if (((items.size : Int) - 1) == 0 && (-1 : Int) == 1 && items.size == items.size) = true then _ else _) _ _ s
  rw [if_neg hno, pick_rev]
  first
    | exact wpAny_bind (m := Builtin.Tuple.tupleExact _) (wpAny_newObj_type (wpAny_pure ⟨_, rfl, wpAny_pure h⟩) htake)
    | exact wpAny_bind (m := Builtin.Tuple.tupleExact _) (wpAny_newObj_type (wpAny_bind (wpAny_pure (wpAny_pure ⟨_, rfl, wpAny_pure h⟩))) htake)
    | exact wpAny_bind (wpAny_bind (m := Builtin.Tuple.tupleExact _) (wpAny_newObj_type (wpAny_pure (wpAny_pure ⟨_, rfl, wpAny_pure h⟩)) htake))
    | exact wpAny_bind (wpAny_bind (m := Builtin.Tuple.tupleExact _) (wpAny_newObj_type (wpAny_pure ⟨_, rfl, wpAny_pure h⟩) htake))
end
end OS
namespace OS
open PySem PySem.Spec PyProof.Rows L2 PySem.OSS
/-- t[::-1], t a tuple -/
def tRevT (K : PySem.W.Frag) (te : TE) : TE := fun σ H Q => te σ H fun x H1 => ∃ a xs, x = .ref a ∧ SqT K H1 a xs ∧ NewO H1 (.tup xs.reverse) Q
theorem vals_reverse : ∀ {xs : List V} {us : List Value}, Vals xs us → Vals xs.reverse us.reverse
  | _, _, .nil => .nil
  | _, _, .cons r t => by
    rw [List.reverse_cons, List.reverse_cons]
    exact (vals_reverse t).append (.cons r .nil)
theorem pe_revT {X : Cx} {e : Expr} {te : TE} {k : Nat} {p1 p2 p3 pos : Pos} (he : PE X e te)
    (hbody : ∀ (t l : Addr), subscripted (.Slice none none (some (.UnaryOp .USub (.Constant (.int 1) k p1) p2)) p3) false (.ref t) (.ref l) = operate [.ref t, .ref l] (getItem (.ref t) (.ref l)) := by intro _ _; with_unfolding_all rfl) :
    PE X (.Subscript e (.Slice none none (some (.UnaryOp .USub (.Constant (.int 1) k p1) p2)) p3) pos) (tRevT X.K te) := by
  refine ⟨fun pins s σ H Q I h => ?_⟩
  refine Subscript_ (thn (he.run pins s σ H _ I h) fun v s1 ⟨x, H1, I1, r1, q1⟩ => ?_)
  obtain ⟨a, xs, ex, hx, q⟩ := q1
  subst ex
  obtain rfl : v = Value.ref a := r1
  have hst : PO X (some (.UnaryOp .USub (.Constant (.int 1) k p1) p2)) (tPart (tUn (rU fun i => .int (-i)) (tC (.int 1)))) := po_some (pe_un un_neg pe_int)
  refine wpAny_Slice (thn (po_none.run pins s1 σ H1 (fun o H2 => o = none ∧ H2 = H1) I1 ⟨rfl, rfl⟩) fun vl s2 ⟨l, H2, I2, pl, el, e2⟩ => ?_)
  subst el e2
  refine thn (po_none.run pins s2 σ H2 (fun o H3 => o = none ∧ H3 = H2) I2 ⟨rfl, rfl⟩) fun vu s3 ⟨u, H3, I3, pu, eu, e3⟩ => ?_
  subst eu e3
  refine thn (hst.run pins s3 σ H3 (fun o H4 => o = some (-1) ∧ H4 = H3) I3 ⟨1, rfl, -1, rfl, rfl, rfl⟩) fun vs s4 ⟨o, H4, I4, ps, eo, e4⟩ => ?_
  subst eo e4
  have I5 : Inv X pins σ H4 { s4 with heap := s4.heap.push { cls := .type "slice", data := .fields #[vl, vu, vs] } } := I4.kept (t' := s4.toks) fun b ob q => Heap.get?_push_of_some _ q
  show wpAny (model X.prog X.w) X.A (subscriptTail e (.Slice none none (some (.UnaryOp .USub (.Constant (.int 1) k p1) p2)) p3) (.ref a) (.ref s4.heap.objs.size)) (EP X pins σ Q) X.xe { s4 with heap := s4.heap.push { cls := .type "slice", data := .fields #[vl, vu, vs] } }
  obtain ⟨its, r, ht, hz⟩ := I5.tuple hx
  obtain rfl : vl = Value.none := by cases pl; rfl
  obtain rfl : vu = Value.none := by cases pu; rfl
  refine tail_any ht.typeIs PyProof.Rows.slot_tuple_getitem.lookup ?_ (hbody _ _)
  have hlen : its.toArray.size = xs.length := by rw [List.size_toArray]; exact r.length.symm
  refine getItem_tuple_rev ht ⟨_, Heap.get?_push_size _ rfl, rfl, rfl⟩ ps ?_ (by rw [hlen]; exact hz)
  refine ⟨.ref _, _, I5.laid (t' := s4.toks) (o := .tup xs.reverse) (fun b ob q => Heap.get?_push_of_some _ q) (Nat.le_refl _) ?_, rfl, q.to _ (I5.hok.fresh (Nat.le_refl _))⟩
  exact ⟨by rw [List.length_reverse]; exact hz, _, vals_reverse r, IsTup.new _ _⟩
end OS

set_option Elab.async false
set_option linter.all false
set_option maxRecDepth 100000
set_option maxHeartbeats 4000000
/-! several except clauses, with a name and without. The road is the library's for one clause with a name and for many without; here both meet -/
namespace OS
open PySem PySem.Spec PyProof.Rows L2
abbrev Suite := Addr → Value → Option Addr → TS
/-- behind the suite of a clause with a name its slot is empty -/
def Ends.less (D : Ends) (i : Nat) : Ends := { nx := fun σ H => D.nx (σ.set i none) H, rt := D.rt, bk := fun σ H => D.bk (σ.set i none) H, ct := fun σ H => D.ct (σ.set i none) H }
/-- a clause's suite, with its name's slot or without -/
def runSuite (oi : Option Nat) (ts : Suite) (D : Ends) (cls : Value) (d : Option Addr) (σ : L2.St) (H : Hp) (a : Addr) : Prop :=
  match oi with
  | none => ts a cls d D σ H
  | some i => ts a cls d (Ends.less D i) (σ.set i (some (.ref a))) H
def wMix (K : PySem.W.Frag) (Wout : WX) (D : Ends) : List (Value × Option Nat × Suite) → WX
  | [] => Wout
  | (c, oi, ts) :: r => fun cls d σ H => ∃ b, PySem.W.exmOne K cls c = some b ∧ (b = true → ∀ a, H a = none → runSuite oi ts D cls d σ H a) ∧ (b = false → wMix K Wout D r cls d σ H)
/-- a clause's name -/
inductive NameAt (X : Cx) : Option Str → Option Nat → Prop
  | no : NameAt X none none
  | yes {n : Str} {i : Nat} (hi : X.N[i]? = some n) (hl : X.env.kindOf n = some .local) : NameAt X (some n) (some i)
inductive HdsMix (X : Cx) : List ExceptHandler → List (Value × Option Nat × Suite) → Prop
  | nil : HdsMix X [] []
  | cons {x : Str} {on : Option Str} {oi : Option Nat} {c : Value} {ts : Suite} {b₀ : Stmt} {suite : List Stmt} {np pos' : Pos} {hds : List ExceptHandler} {l : List (Value × Option Nat × Suite)} (hc : Names X x c) (hn : NameAt X on oi)
      (hsu : ∀ (a : Addr) (oe : Obj) (cls : Value) (d : Option Addr) (pn : List (Addr × Obj)), Zc cls d oe → (∃ vs, oe.data = .fields vs) → PSs (X.suite a ((a, oe) :: pn)) (b₀ :: suite) (ts a cls d)) (r : HdsMix X hds l) :
      HdsMix X (.ExceptHandler (some (.Name x np)) on (b₀ :: suite) pos' :: hds) ((c, oi, ts) :: l)
section
variable {X : Cx} {body : List Stmt} {h₀ : ExceptHandler} {hds : List ExceptHandler} {l : List (Value × Option Nat × Suite)} {pos : Pos} {tb : WX → TS} {Wout : WX}
theorem ps_try_mix (hs : X.stack = X.env :: X.outer) (hf : X.env.frame = some X.env.locals) (hN : X.N.Nodup) (tk : Takes X Wout)
    (hb : ∀ (W : WX) (pn : List (Addr × Obj)) (xe : Value → Shared → Prop), Takes (X.tr pn xe) W → PassesOwn (model X.prog X.w) X.A X.env xe → PSs (X.tr pn xe) body (tb W))
    (hh : HdsMix X (h₀ :: hds) l) : PS X (.Try body (h₀ :: hds) [] [] pos) (fun D σ H => tb (wMix X.K Wout D l) D σ H) := by
  constructor
  intro pins s σ H D I h
  have ok := I.ok
  have hfr : X.A.frames = some (X.env :: X.outer) := ok.frames.trans (by rw [hs])
  -- behind the body, where it ends by itself
  have back : ∀ f s1, SP (X.tr (X.pn ++ pins) (fun e s₁ => wpAny (model X.prog X.w) X.A (noteFrame e X.env) (fun _ s₂ => wpAny (model X.prog X.w) X.A (setFlight e none) (fun _ s₃ =>
      wpAny (model X.prog X.w) X.A (handleBy e X.env (h₀ :: hds)) (SP X pins D) X.xe s₃) X.xe s₂) X.xe s₁)) [] D f s1 →
      (match f with | .next => SP X pins D .next s1 | f => SP X pins D f s1) := by
    intro f s1 q
    cases f
    · obtain ⟨σ', H', J, q⟩ := q
      exact ⟨σ', H', J.ofTry ok, q⟩
    · obtain ⟨σ', H', J, q⟩ := q
      exact ⟨σ', H', J.ofTry ok, q⟩
    · obtain ⟨σ', H', J, q⟩ := q
      exact ⟨σ', H', J.ofTry ok, q⟩
    · obtain ⟨v, σ', H', J, r, q⟩ := q
      exact ⟨v, σ', H', J.ofTry ok, r, q⟩
  refine wpAny_Try_except (wpAny_mono ((hb (wMix X.K Wout D l) (X.pn ++ pins) _ ?take PassesOwn.looking).run [] s σ H D (I.toTry _) h) (fun f s1 q => ?_) (fun _ _ he => he))
  case take =>
    intro u s' xx
    obtain ⟨a, B, sI, pins', σ', H', cls, d, rfl, J', nb, up, sky, na, os, ag, wish⟩ := xx
    have J : Inv X pins σ' H' sI := J'.ofTry ok
    refine Sky.land Zc.steady hfr hf (by rw [← hs]; exact sky) fun h3 fl3 up3 => ?_
    have J3 : Inv X pins σ' H' { s' with heap := h3 } := J.landed nb fl3.1 (up.trans up3) os ag
    obtain ⟨oe3, vs3, he3, hz3, hd3⟩ := fl3.there
    have nfr : a ∉ frs (X.env :: X.outer) := fun hm => by
      obtain ⟨_, o', e', hnf⟩ := fl3.2.2.1.mem hm
      cases he3.symm.trans e'
      exact hnf _ hd3
    have nL : a ≠ X.env.locals := fun z => nfr (List.mem_filterMap.mpr ⟨X.env, List.mem_cons_self, by rw [hf, z]⟩)
    have nF : a ∉ X.fs := fun hm => by
      obtain ⟨e, he, q⟩ := List.mem_filterMap.mp hm
      exact nfr (List.mem_filterMap.mpr ⟨e, List.mem_cons_of_mem _ he, q⟩)
    have S3 := J3.suite he3 hd3 na nL nF
    -- clause by clause
    have go : ∀ {hds' : List ExceptHandler} {l' : List (Value × Option Nat × Suite)}, HdsMix X hds' l' → wMix X.K Wout D l' cls d σ' H' →
        wpAny (model X.prog X.w) X.A (handleBy (.ref a) X.env hds') (SP X pins D) X.xe { s' with heap := h3 } := by
      intro hds' l' hk
      induction hk with
      | nil =>
        intro out
        obtain ⟨_, _, _, oe, vs, T, oT, ts', he, hz, hd, h1, hr⟩ := id fl3
        have fin : wpAny (model X.prog X.w) X.A (setFlight (.ref a) X.env.frame) (fun _ s4 => wpAny (model X.prog X.w) X.A (throw (.ref a) : Sem Flow) (SP X pins D) X.xe s4) X.xe { s' with heap := h3 } := by
          rw [hf]
          exact HandSPX.setFlight_upZ fl3 fun h4 hh4 up4 => wpAny_throw (tk _ _ ⟨a, B, sI, pins, σ', H', cls, d, rfl, J, nb, (up.trans up3).trans up4, .inr (.inr (by rw [hs]; exact hh4)), na, os, ag, out⟩)
        refine wpAny_handleBy_nil ?_
        unfold PySem.passOn
        refine wpAny_bind (wpAny_field he hd h1 ?_)
        rw [if_neg (show ¬ ((Value.ref T == Value.none) = true) from by simp)]
        first
          | exact wpAny_bind (wpAny_pure (wpAny_bind fin))
          | exact wpAny_bind fin
      | @cons x on oi c ts b₀ suite np pos' hds2 l2 hc hn hsu r ih =>
        intro wish
        obtain ⟨b, hb1, hyes, hno⟩ := wish
        refine wpAny_handleBy_cons (codeAny_handlers_test ?_) (by intro q; cases q)
        have LT : PySem.W.Looks (model X.prog X.w) h3 (typeOf (.ref a)) cls := fun A Q E s k q => wpAny_typeOf_ref (k _ _ he3) (by rw [hz3.1]; exact q)
        have look : ∀ {Q E}, Q c { s' with heap := h3 } → wpAny (model X.prog X.w) (X.A.mark (some (.ref a))) (eval (.Name x np) X.env) Q E { s' with heap := h3 } := fun {Q E} q => by
          rcases hc with ⟨hg, hdbg, hm | ⟨hm, hv, hnn⟩⟩
          · exact ld_glob (X := X.suite a ((a, oe3) :: (X.pn ++ pins))) S3 hg hm q hdbg
          · exact ld_blt (X := X.suite a ((a, oe3) :: (X.pn ++ pins))) S3 hg hm hv q hnn hdbg
        refine look ((PySem.W.exm_one (M := model X.prog X.w) J3.kIn LT hb1).here ?_)
        cases b with
        | false =>
          show wpAny _ X.A (handleBy (.ref a) X.env hds2) _ _ _
          exact ih (hno rfl)
        | true =>
          have run := hyes rfl a na
          cases hn with
          | no =>
            refine codeAny_handlers_suite (HandSPX.lands_againZ fl3 fun h4 fl4 up4 => ?_)
            obtain ⟨oe4, vs4, he4, hz4, hd4⟩ := fl4.there
            have S4 := (J.landed nb fl4.1 ((up.trans up3).trans up4) os ag : Inv X pins σ' H' { s' with heap := h4 }).suite he4 hd4 na nL nF
            refine wpAny_mono ((hsu a oe4 cls d (X.pn ++ pins) hz4 ⟨_, hd4⟩).run [] _ _ H' _ S4 run) (fun f s6 q6 => ?_) (fun _ _ z => False.elim z)
            cases f
            · exact q6.imp fun _ q => q.imp fun _ z => ⟨z.1.unsuite ok, z.2⟩
            · exact q6.imp fun _ q => q.imp fun _ z => ⟨z.1.unsuite ok, z.2⟩
            · exact q6.imp fun _ q => q.imp fun _ z => ⟨z.1.unsuite ok, z.2⟩
            · exact q6.imp fun _ q => q.imp fun _ q => q.imp fun _ z => ⟨z.1.unsuite ok, z.2⟩
          | @yes n i hi hln =>
            refine codeAny_handlers_suite_as (HandSPX.lands_againZ fl3 fun h4 fl4 up4 => ?_)
            obtain ⟨oe4, vs4, he4, hz4, hd4⟩ := fl4.there
            have S4 := (J.landed nb fl4.1 ((up.trans up3).trans up4) os ag : Inv X pins σ' H' { s' with heap := h4 }).suite he4 hd4 na nL nF
            refine store_ok (X := X.suite a ((a, oe4) :: (X.pn ++ pins))) (v := .ref a) S4 hN hi (.inl hln) rfl (fun s5 S5 => ?_) (.inr hln)
            refine wpAny_mono ((hsu a oe4 cls d (X.pn ++ pins) hz4 ⟨_, hd4⟩).run [] s5 _ H' _ S5 run) (fun f s6 q6 => ?_) (fun _ _ z => False.elim z)
            have gone : ∀ {σ6 : L2.St} {H6 : Hp} {Q : Shared → Prop}, Inv (X.suite a ((a, oe4) :: (X.pn ++ pins))) [] σ6 H6 s6 → (∀ s7, Inv X pins (σ6.set i none) H6 s7 → Q s7) →
                wpAny (model X.prog X.w) X.A (do bindName X.env n .none; unbindBehindTheSuite X.env n pos') (fun _ s7 => Q s7) X.xe s6 := fun {σ6 H6 Q} S6 hq => gone_ok (S6.unsuite ok) hN hi hln hq
            cases f
            · obtain ⟨_, _, S6, q⟩ := q6
              exact gone S6 fun s7 J7 => ⟨_, _, J7, q⟩
            · obtain ⟨_, _, S6, q⟩ := q6
              exact gone S6 fun s7 J7 => ⟨_, _, J7, q⟩
            · obtain ⟨_, _, S6, q⟩ := q6
              exact gone S6 fun s7 J7 => ⟨_, _, J7, q⟩
            · obtain ⟨_, _, _, S6, r6, q⟩ := q6
              exact gone S6 fun s7 J7 => ⟨_, _, _, J7, r6, q⟩
    exact go hh wish
  · have z := back f s1 q
    cases f
    · exact wpAny_execs_nil z
    all_goals exact z
end
end OS

set_option Elab.async false
set_option linter.all false
set_option maxRecDepth 100000
set_option maxHeartbeats 4000000
/-! groups in the heap -/
namespace OS
open PySem PySem.Spec PyProof.Rows L2
theorem room65 {k : Nat} {A : Around} (r : Room k A) : A.units + 65 < cLine := by have := r.un; omega
theorem _root_.L2.Same.tupT {K : PySem.W.Frag} {H H' : Hp} {a : Addr} {xs : List V} (e : Same H H') (h : SqT K H a xs) : SqT K H' a xs := by
  rcases h with (h | ⟨o, h⟩) | h
  · exact .inl (.inl (e _ _ h))
  · exact .inl (.inr ⟨o, e _ _ h⟩)
  · exact .inr h
theorem strs_get {xs : List Str} {i : Nat} {x : V} (h : (xs.map V.str)[i]? = some x) {s : Str} (hs : xs[i]? = some s) : x = .str s := by
  rw [List.getElem?_map, hs] at h
  exact (Option.some.inj h).symm
theorem strs_flat : ∀ xs : List Str, (xs.map V.str).all flatV = true
  | [] => rfl
  | x :: xs => by
    rw [List.map_cons, List.all_cons, strs_flat xs]
    rfl
theorem inV_strs (z : Str) : ∀ xs : List Str, inV (.str z) (xs.map V.str) = decide (z ∈ xs)
  | [] => rfl
  | x :: xs => by
    have ih := inV_strs z xs
    unfold inV at ih ⊢
    rw [List.map_cons, List.any_cons, ih]
    show ((x == z) || decide (z ∈ xs)) = decide (z ∈ x :: xs)
    by_cases h1 : x = z
    · subst h1
      simp
    · have h1' : ¬ z = x := fun q => h1 q.symm
      by_cases h2 : z ∈ xs <;> simp [h1, h1', h2]
/-- a group: a tuple of texts -/
def GrpV (K : PySem.W.Frag) (H : Hp) (x : V) (g : List Str) : Prop := ∃ a, x = .ref a ∧ SqT K H a (g.map V.str)
theorem GrpV.same {K : PySem.W.Frag} {H H' : Hp} {x : V} {g : List Str} (h : GrpV K H x g) (s : Same H H') : GrpV K H' x g := h.imp fun _ q => ⟨q.1, s.tupT q.2⟩
/-- items that are the groups gs -/
abbrev GrpsV (K : PySem.W.Frag) (H : Hp) (xs : List V) (gs : List (List Str)) : Prop := Paired (GrpV K H) xs gs
theorem GrpsV.same {K : PySem.W.Frag} {H H' : Hp} {xs : List V} {gs : List (List Str)} (h : GrpsV K H xs gs) (s : Same H H') : GrpsV K H' xs gs := Paired.mapP h fun _ _ q => q.same s
theorem GrpV.dp {K : PySem.W.Frag} {H : Hp} {x : V} {g : List Str} (h : GrpV K H x g) : Dp K H x (encG g) := by
  obtain ⟨a, rfl, q⟩ := h
  exact .tup q (dp_all (fun z => .str z) g)
theorem GrpsV.dps {K : PySem.W.Frag} {H : Hp} : ∀ {xs : List V} {gs : List (List Str)}, GrpsV K H xs gs → DpAll K H xs (gs.map encG)
  | _, _, .nil => .nil
  | _, _, .cons h t => .cons h.dp (GrpsV.dps t)
theorem any_encG (g : List Str) : ∀ gs : List (List Str), ((gs.map encG).any fun z => PyData.eqv z (encG g)) = decide (g ∈ gs)
  | [] => rfl
  | x :: gs => by
    rw [List.map_cons, List.any_cons, any_encG g gs, eqv_G]
    by_cases h1 : x = g
    · subst h1
      simp
    · have h1' : ¬ g = x := fun q => h1 q.symm
      by_cases h2 : g ∈ gs <;> simp [h1, h1', h2]
theorem eqv_Gs : ∀ gs hs : List (List Str), PyData.eqvAll (gs.map encG) (hs.map encG) = decide (gs = hs)
  | [], [] => by simp [PyData.eqvAll]
  | [], _ :: _ => by simp [PyData.eqvAll]
  | _ :: _, [] => by simp [PyData.eqvAll]
  | x :: xs, y :: ys => by
    show (PyData.eqv (encG x) (encG y) && PyData.eqvAll (xs.map encG) (ys.map encG)) = _
    rw [eqv_Gs xs ys, eqv_G]
    by_cases h1 : x = y <;> by_cases h2 : xs = ys <;> simp [h1, h2]
theorem paired_zip {α β : Type} {F : α → β → Prop} : ∀ {xs : List α} {ys : List β}, Paired F xs ys → (xs.zip ys).map Prod.fst = xs ∧ (xs.zip ys).map Prod.snd = ys ∧ ∀ p ∈ xs.zip ys, F p.1 p.2
  | _, _, .nil => ⟨rfl, rfl, fun _ h => by simp at h⟩
  | _, _, .cons h t => by
    obtain ⟨h1, h2, h3⟩ := paired_zip t
    refine ⟨by rw [List.zip_cons_cons, List.map_cons, h1], by rw [List.zip_cons_cons, List.map_cons, h2], fun p hp => ?_⟩
    rw [List.zip_cons_cons] at hp
    rcases List.mem_cons.mp hp with rfl | hp
    · exact h
    · exact h3 p hp
theorem paired_of {α β γ : Type} {F : α → β → Prop} {f : γ → α} {k : γ → β} : ∀ {l : List γ}, (∀ c ∈ l, F (f c) (k c)) → Paired F (l.map f) (l.map k)
  | [], _ => .nil
  | c :: l, h => .cons (h c (List.mem_cons_self ..)) (paired_of fun c hc => h c (List.mem_cons_of_mem _ hc))
theorem paired_get {α β : Type} {F : α → β → Prop} : ∀ {xs : List α} {ys : List β} {i : Nat} {x : α}, Paired F xs ys → xs[i]? = some x → ∃ y, ys[i]? = some y ∧ F x y
  | _, _, _, _, .nil, h => by simp at h
  | _, _, 0, _, .cons h t, e => ⟨_, rfl, by cases e; exact h⟩
  | _, _, i + 1, _, .cons h t, e => by
    obtain ⟨y, h1, h2⟩ := paired_get (i := i) t e
    exact ⟨y, h1, h2⟩
theorem paired_len {α β : Type} {F : α → β → Prop} {xs : List α} {ys : List β} (h : Paired F xs ys) : xs.length = ys.length := Paired.length h
end OS

set_option Elab.async false
set_option linter.all false
set_option maxRecDepth 100000
set_option maxHeartbeats 4000000
/-! any values, seen as tuples -/
namespace OS
open PySem PySem.Spec PyProof.Rows L2
/-- a value; if it is a tuple, its items -/
inductive Thing (K : PySem.W.Frag) (H : Hp) : V → Option (List V) → Prop
  | flat {v : V} : flatV v = true → Thing K H v none
  | lst {a : Addr} {zs : List V} : SqL K H a zs → Thing K H (.ref a) none
  | dct {a : Addr} {kvs : List (Key × V)} : H a = some (.dK kvs) → Thing K H (.ref a) none
  | tup {a : Addr} {xs : List V} : SqT K H a xs → (∀ v ∈ xs, Itm K H v) → Thing K H (.ref a) (some xs)
theorem Itm.same {K : PySem.W.Frag} {H H' : Hp} {v : V} (h : Itm K H v) (s : Same H H') : Itm K H' v := by
  cases h with
  | flat f => exact .flat f
  | lst q => exact .lst (s.seq q)
  | tup q => exact .tup (s.tupT q)
  | dct q => exact .dct (s _ _ q)
theorem Thing.same {K : PySem.W.Frag} {H H' : Hp} {v : V} {o : Option (List V)} (h : Thing K H v o) (s : Same H H') : Thing K H' v o := by
  cases h with
  | flat f => exact .flat f
  | lst q => exact .lst (s.seq q)
  | dct q => exact .dct (s _ _ q)
  | tup q hi => exact .tup (s.tupT q) fun v hv => (hi v hv).same s
theorem ty_list {K : PySem.W.Frag} {H : Hp} {a : Addr} {xs : List V} (h : SqL K H a xs) : TyX K H (.ref a) (.type "list") := by
  rcases h with (h | ⟨o, h⟩) | ⟨o, its, n, h, c, _⟩
  · exact .base (.lst h)
  · exact .base (.frz h)
  · exact .kList h c
theorem ty_tup {K : PySem.W.Frag} {H : Hp} {a : Addr} {xs : List V} (h : SqT K H a xs) : TyX K H (.ref a) (.type "tuple") := by
  rcases h with (h | ⟨o, h⟩) | ⟨o, its, n, h, c, _⟩
  · exact .base (.tup h)
  · exact .fTuple h
  · exact .kTuple h c
theorem Thing.isT {K : PySem.W.Frag} {H : Hp} {v : V} {o : Option (List V)} (h : Thing K H v o) : ∃ t, TyX K H v t ∧ PySem.W.kitOne K t (.type "tuple") = some o.isSome := by
  cases h with
  | flat f =>
    cases v with
    | non => exact ⟨_, .base .non, by rfl⟩
    | bl b => exact ⟨_, .base (.bl b), by rfl⟩
    | int i => exact ⟨_, .base (.int i), by rfl⟩
    | str z => exact ⟨_, .base (.str z), by rfl⟩
    | _ => exact absurd (show false = true from f) Bool.false_ne_true
  | lst q => exact ⟨_, ty_list q, by rfl⟩
  | dct q => exact ⟨_, .base (.dK q), by rfl⟩
  | tup q _ => exact ⟨_, ty_tup q, by rfl⟩
theorem Thing.emp {K : PySem.W.Frag} {H : Hp} {v : V} {o : Option (List V)} (h : Thing K H v o) : EmpIs K H v (decide (o = some [])) := by
  cases h with
  | flat f =>
    rw [decide_eq_false (fun z => nomatch z)]
    exact .flat f
  | lst q =>
    rw [decide_eq_false (fun z => nomatch z)]
    exact .lst q
  | dct q =>
    rw [decide_eq_false (fun z => nomatch z)]
    exact .dct q
  | @tup a xs q _ =>
    have e : decide (some xs = some ([] : List V)) = xs.isEmpty := by cases xs <;> simp
    rw [e]
    exact .tup q
/-- the value is a group of the persons ps -/
def isGrp (ps : List Str) : Option (List V) → Bool
  | none => false
  | some xs => eqS xs (ps.filter fun n => xs.any (isS n))
theorem any_isS (n : Str) : ∀ g : List Str, (g.map V.str).any (isS n) = decide (n ∈ g)
  | [] => rfl
  | x :: g => by
    rw [List.map_cons, List.any_cons, any_isS n g]
    show ((x == n) || decide (n ∈ g)) = decide (n ∈ x :: g)
    by_cases h1 : x = n
    · subst h1
      simp
    · have h1' : ¬ n = x := fun q => h1 q.symm
      by_cases h2 : n ∈ g <;> simp [h1, h1', h2]
/-- what is a group is a tuple of texts, a part of ps -/
theorem isGrp_iff {ps : List Str} (hp : ps.Nodup) {o : Option (List V)} : isGrp ps o = true ↔ ∃ g : List Str, g.Sublist ps ∧ o = some (g.map V.str) := by
  constructor
  · intro h
    cases o with
    | none => simp [isGrp] at h
    | some xs =>
      have e := eqS_true h
      exact ⟨_, List.filter_sublist, congrArg some e⟩
  · rintro ⟨g, hg, rfl⟩
    show eqS (g.map V.str) (ps.filter fun n => (g.map V.str).any (isS n)) = true
    have e : (ps.filter fun n => (g.map V.str).any (isS n)) = pick ps g := by
      unfold pick
      exact List.filter_congr fun n _ => any_isS n g
    rw [e, eqS_strs, pick_sub hp hg]
    simp
end OS
namespace OS
open PySem PySem.Spec PyProof.Rows L2
/-- what is no list stands apart from one -/
theorem tupT_but {K : PySem.W.Frag} {H H' : Hp} {D a : Addr} {acc xs : List V} (hD : H D = some (.lst acc)) (k : ∀ b o, H b = some o → b ≠ D → H' b = some o) (h : SqT K H a xs) : SqT K H' a xs := by
  rcases h with (h | ⟨o, h⟩) | h
  · exact .inl (.inl (k _ _ h (ne_of h hD fun z => by cases z)))
  · exact .inl (.inr ⟨o, k _ _ h (ne_of h hD fun z => by cases z)⟩)
  · exact .inr h
theorem GrpV.but {K : PySem.W.Frag} {H H' : Hp} {D : Addr} {acc : List V} {x : V} {g : List Str} (hD : H D = some (.lst acc)) (k : ∀ b o, H b = some o → b ≠ D → H' b = some o) (h : GrpV K H x g) : GrpV K H' x g := h.imp fun _ q => ⟨q.1, tupT_but hD k q.2⟩
theorem paired_swap {α β : Type} {F : α → β → Prop} : ∀ {xs : List α} {ys : List β}, Paired F xs ys → Paired (fun y x => F x y) ys xs
  | _, _, .nil => .nil
  | _, _, .cons h t => .cons h (paired_swap t)
theorem paired_map {α β γ : Type} {F : γ → β → Prop} {f : α → γ} : ∀ {xs : List α} {ys : List β}, Paired (fun a b => F (f a) b) xs ys → Paired F (xs.map f) ys
  | _, _, .nil => .nil
  | _, _, .cons h t => .cons h (paired_map t)
theorem paired_app {α β : Type} {F : α → β → Prop} : ∀ {xs xs' : List α} {ys ys' : List β}, Paired F xs ys → Paired F xs' ys' → Paired F (xs ++ xs') (ys ++ ys')
  | _, _, _, _, .nil, h => h
  | _, _, _, _, .cons h t, h' => .cons h (paired_app t h')
end OS
namespace OS
open PySem PySem.Spec PyProof.Rows L2
/-- a walk over a list or a tuple -/
def iSeq (K : PySem.W.Frag) (tl : TE) : TI := fun σ H R => tl σ H fun x H1 => ∃ a, x = .ref a ∧ (((∃ xs, SqL K H1 a xs) ∧ R (Itl K a) H1) ∨ ((∃ xs, SqT K H1 a xs) ∧ R (Itt K a) H1))
theorem pi_seq {X : Cx} {tg l : Expr} {tl : TE} (hl : PE X l tl) : PI X tg l (iSeq X.K tl) := by
  constructor
  intro pins s σ H R I h
  refine thn (hl.run pins s σ H _ I h) fun v s1 q1 => ?_
  obtain ⟨x, H1, I1, r1, a, rfl, q⟩ := q1
  cases r1
  rcases q with ⟨⟨xs, hq⟩, q⟩ | ⟨⟨xs, hq⟩, q⟩
  · obtain ⟨its, rv, p, hz⟩ := I1.list hq
    exact wpAny_pyIter_list p.isList ⟨s1.heap.objs.size, [s1.heap.objs.size], _, _, H1, rfl, I1.kept (t' := s1.toks) fun b o e => Heap.get?_push_of_some _ e, turn_list a _, ⟨_, Heap.get?_push_size _ rfl, rfl, rfl⟩,
      (fun b hb => by rw [List.mem_singleton.mp hb]; exact I1.fpOk (Nat.le_refl _) (I1.hok.fresh (Nat.le_refl _))), q⟩
  · obtain ⟨its, rv, p, hz⟩ := I1.tuple hq
    exact wpAny_pyIter_tuple (show s1.heap.IsTuple a its.toArray from p) ⟨s1.heap.objs.size, [s1.heap.objs.size], _, _, H1, rfl, I1.kept (t' := s1.toks) fun b o e => Heap.get?_push_of_some _ e, turn_tuple a _, ⟨_, Heap.get?_push_size _ rfl, rfl, rfl⟩,
      (fun b hb => by rw [List.mem_singleton.mp hb]; exact I1.fpOk (Nat.le_refl _) (I1.hok.fresh (Nat.le_refl _))), q⟩
end OS

set_option Elab.async false
set_option linter.all false
set_option maxRecDepth 100000
set_option maxHeartbeats 4000000
/-! raise C(e), C an own error that keeps its argument -/
namespace OS
open PySem PySem.Spec PyProof.Rows L2
/-- what follows where an error of the class at C flies whose field f holds v -/
def Flies (Q : XK) (C : Addr) (f : Str) (v : V) (H1 : Hp) : Prop := ∀ (dx : Addr) (H2 : Hp), H1 dx = none → Same H1 H2 → H2 dx = some (.xd [(f, v)]) → Q (.ref C) (some dx) H2
def tRaiseE (C : Addr) (f : Str) (te : TE) : L2.St → Hp → XK → Prop := fun σ H Q => te σ H fun v H1 => Flies Q C f v H1
section
variable {X : Cx} {C fI : Addr} {f x : Str} {fd : FuncData} {ps : List Str} {k : Nat} {e : Expr} {te : TE} {p pos : Pos}
theorem pmk_err (T : ErrT X.K C) (iC : PySem.W.findIn X.K (.ref C) "__init__" = some (some (.ref fI))) (tI : PySem.W.typeIn X.K (.ref fI) = some (.type "function")) (F1 : FnOk X.prog X.w X.K X.mg X.base CX0 k fI fd ps (spErr C f)) (hr : Room (k + 1) X.A)
    (hb : Binds X.K fd ps []) (hg : Gl X x) (hm : X.mg x = some (.ref C)) (he : PE X e te) (hdb : (x == ("__debug__" : Str)) = false := by decide)
    (hst : starEach [e] X.env = (false, eval e X.env) :: starEach [] X.env := by rfl) (hpl : (backTo pos (starEach [] X.env)).any (·.1) = false := by rfl) :
    PMk X (.Call (.Name x p) [e] [] pos) (tRaiseE C f te) := by
  intro pins s σ H Q I h
  refine pmk_oex T.ox iC tI F1 hr hb .nil (fun _ _ _ _ _ _ _ z => z.elim) hg hm (pa_mono (pa_cons he pa_nil hst)) hdb hst hpl pins s σ H Q I ?_
  refine ⟨fun vs H1 => match vs with | [v] => Flies Q C f v H1 | _ => False, h, fun vs H1 q => ?_⟩
  match vs, q with
  | [v], q =>
    refine ⟨by show 1 ≤ 1000; decide, fun a na => ⟨a, v, rfl, upd_same, fun dx h1 h2 => ?_⟩⟩
    have n1 : H1 dx = none := by
      rw [upd_ne h2] at h1
      exact h1
    refine ⟨rfl, dx, [(f, v)], upd_same, by rw [upd_ne h2, upd_same], n1, q dx _ n1 (fun b o hb => ?_) upd_same⟩
    have ba : b ≠ a := ne_of_none hb na
    have bd : b ≠ dx := ne_of_none hb n1
    rw [upd_ne bd, del_ne ba, upd_ne ba, upd_ne bd, upd_ne ba]
    exact hb
/-- C(), C an own error without own __init__ -/
theorem pmk_err0 {bmB : List Value} {B newId initId : String} (F : ExcBaseFacts B newId initId bmB) (q : PySem.W.excIn X.K C bmB newId = true) (kC : PySem.W.keepIn X.K (.ref C) = true) (T : ErrT X.K C) (hg : Gl X x) (hm : X.mg x = some (.ref C))
    (hdb : (x == ("__debug__" : Str)) = false := by decide) : PMk X (.Call (.Name x p) [] [] pos) (fun _ H Q => Q (.ref C) none H) := by
  intro pins s σ H Q I h
  refine wpAny_Call_Name_kw (ld_glob I hg hm (PySem.W.callWith_K0 I.kIn kC ?_) hdb)
  obtain ⟨bm, N, nm, qn, bs, hdct, sn, sub, ab, col, dd, k0, k1, k2, k3, k5, mN, hC, hN, hni, T'⟩ := exc_obj I.kIn q
  exact wpAny_call_exc_subT F T' hC hN hni (fun h' e hm => mk_of I hm (raises_own T.ox.exC T.ox.tyC) h (I.hok.gone hm.new)) (Nat.zero_le _)
end
end OS

set_option Elab.async false
set_option linter.all false
set_option maxRecDepth 100000
set_option maxHeartbeats 4000000
/-! enumerate over a list or a tuple -/
namespace OS
open PySem PySem.Spec PyProof.Rows L2
theorem meets_enum_one {v : Value} {o : Obj} {H : Heap → Prop} (B : Begins v o H) :
    Meets (Builtin.«enumerate.__new__» ⟨[.type "enumerate", v], []⟩) (fun _ R s => H s.heap ∧
      R (.ok (.ret (.ref (s.heap.push o).objs.size))) { s with heap := (s.heap.push o).push { cls := .type "enumerate", data := .fields #[.none, .bool false, .ref s.heap.objs.size, rawInt 0, .none, .none] } }) :=
  .of_wp fun prog w A R s h => by
    obtain ⟨hp, g, d, tk, os⟩ := s; obtain ⟨h1, h⟩ := h
    have hsub := sub_enumerate
    have q1 : ∀ {A' : Around} {E : Value → Shared → Prop} {Q : Value → Shared → Prop}, Q (.ref hp.objs.size) ⟨hp.push o, g, d, tk, os⟩ → wpAny (model prog w) A' (pyIter v) Q E ⟨hp, g, d, tk, os⟩ :=
      fun q => B.iter prog w _ _ ⟨hp, g, d, tk, os⟩ _ h1 q
    wp_walk using q1
    refine wpAny_stack_any fun st => wpAny_pure ?_
    split
    · rename_i c _ _ _ _ _
      cases (c == Value.type "enumerate")
      · wp_walk using q1
        exact ⟨_, rfl, h⟩
      · wp_walk using q1
        exact ⟨_, rfl, h⟩
    · wp_walk using q1
      exact ⟨_, rfl, h⟩
theorem enum_one {prog : Program} {w : World} {A : Around} {E : Value → Shared → Prop} {s : Shared} {v : Value} {o : Obj} {H : Heap → Prop} {Q : Value → Shared → Prop} (B : Begins v o H) (h1 : H s.heap)
    (h : ∀ h', IsEnum h' (s.heap.objs.size + 1) s.heap.objs.size 0 .none → h'.get? s.heap.objs.size = some o → h'.objs.size = s.heap.objs.size + 2 →
      (∀ b o, s.heap.get? b = some o → h'.get? b = some o) → Q (.ref (s.heap.objs.size + 1)) { s with heap := h' }) :
    wpAny (model prog w) A (call (.type "enumerate") [v]) Q E s := by
  refine callType_new F.called_enumerate (by decide) (F.typeCall_enumerate_1 _) (F.newCall_enumerate_1 _) (fun obj => F.args_object_init_2 obj _) F.entry_enumerate_new
    (meets_enum_one B) ⟨h1, ?_⟩
  have hz : (s.heap.push o).objs.size = s.heap.objs.size + 1 := Heap.size_push ..
  show _ ∧ _
  rw [hz]
  have he : IsEnum ((s.heap.push o).push { cls := .type "enumerate", data := .fields #[.none, .bool false, .ref s.heap.objs.size, rawInt 0, .none, .none] }) (s.heap.objs.size + 1) s.heap.objs.size 0 .none := by
    have := Heap.get?_push_size (s.heap.push o) (o := { cls := .type "enumerate", data := .fields #[.none, .bool false, .ref s.heap.objs.size, rawInt 0, .none, .none] }) rfl
    rw [hz] at this; exact this
  refine ⟨⟨_, he, rfl⟩, h _ he (Heap.get?_push_of_some _ (Heap.get?_push_size _ B.free)) (by rw [Heap.size_push, hz]) fun b o x => Heap.get?_push_of_some _ (Heap.get?_push_of_some _ x)⟩
/-- the tuple at a, each item in a new pair -/
def Itet (K : PySem.W.Frag) (a : Addr) : It :=
  ⟨fun i H => ∃ (xs : List V) (x : V), SqT K H a xs ∧ xs[i]? = some x, fun i H v H' => ∃ T x, v = .ref T ∧ H T = none ∧ H' = upd H T (.tup [.int (i : Nat), x]) ∧ ∀ xs, SqT K H a xs → xs[i]? = some x, fun i H => ∃ xs : List V, SqT K H a xs ∧ xs.length ≤ i⟩
theorem walk_enumT {K : PySem.W.Frag} {a : Addr} {xs : List V} : Walk (Itet K a) xs.length (fun H => SqT K H a xs) (YPair (fun i => some (.int (i : Nat))) (fun i => xs[i]?)) :=
  ⟨fun i _ hi q => ⟨xs, xs[i], q, by simp [hi]⟩, fun _ q => ⟨xs, q, Nat.le_refl _⟩, fun i H v H' _ q ⟨T, x, h1, h2, h3, h4⟩ => ⟨T, .int (i : Nat), x, h1, h2, h3, rfl, h4 xs q⟩⟩
theorem tup_ne_enum {s : Shared} {a e it : Addr} {its : Array Value} {i : Int} {old : Value} (p : s.heap.IsTuple a its) (he : IsEnum s.heap e it i old) : e ≠ a := by
  intro z
  subst z
  obtain ⟨o, ho, hc, _⟩ := p
  rw [show s.heap.get? e = _ from he] at ho
  obtain rfl := Option.some.inj ho
  have h2 : (Value.type "enumerate") = Value.type "tuple" := hc
  injection h2 with h3
  exact absurd h3 (by decide)
theorem tup_ne_iter {s : Shared} {a it b : Addr} {its : Array Value} {i : Nat} (p : s.heap.IsTuple a its) (hi : s.heap.IsTupleIter it b i) : a ≠ it := by
  intro z
  subst z
  obtain ⟨o, ho, hc, _⟩ := p
  obtain ⟨o', ho', hc', _⟩ := hi
  obtain rfl := Option.some.inj (ho.symm.trans ho')
  have h2 : (Value.type "tuple") = Value.type "tuple_iterator" := hc.symm.trans hc'
  injection h2 with h3
  exact absurd h3 (by decide)
theorem wpAny_pyNext_enum_endT {prog : Program} {w : World} {A : Around} {E : Value → Shared → Prop} {s : Shared} {e it l : Addr} {i : Nat} {items : Array Value} {old : Value} {Q : Option Value → Shared → Prop} (hh : A.handled = none)
    (he : IsEnum s.heap e it i old) (hit : s.heap.IsTupleIter it l i) (hl : s.heap.IsTuple l items) (hx : items[i]? = none)
    (hQ : ∀ h', Heap.ExtBut it s.heap h' → Q none { s with heap := h' }) : wpAny (model prog w) A (pyNext (.ref e)) Q E s := by
  have hT : s.TypeIs (.ref e) "enumerate" := ⟨_, he, rfl⟩
  unfold pyNext
  refine wpAny_bind (wpAny_attempt (wpAny_callSpecial?_slot (name := Str.ofString "__next__") hT F.slot_enumerate_next
    (wpAny_call_entry F.slot_enumerate_next hT F.entry_enumerate_next ?_ (F.args_enumerate_next_1 _))))
  show wpAny _ _ (field (.ref e) 2 >>= _) _ _ _
  refine wpAny_bind (wpAny_field he rfl (x := .ref it) rfl ?_)
  refine wpAny_bind (wpAny_nextOf_tuple_end hh hit hl hx fun h' x he' hx' => ?_)
  obtain ⟨o, ho, hc⟩ := hx'
  refine wpAny_bind (wpAny_isInstance (T := "StopIteration") (b := true) ⟨o, ho, hc⟩ isSubtype_stop ?_)
  exact wpAny_pure (hQ _ he')
theorem turn_enumT {P : Program} {w : World} {K : PySem.W.Frag} {elts : List Expr} {kk : Nat} {tpos : Pos} (a e it : Addr) :
    Turn P w K (.Tuple elts kk tpos) (Itet K a) [e, it] e (fun i h => (∃ old, IsEnum h e it ((i : Nat) : Int) old) ∧ h.IsTupleIter it a i ∧ e ≠ it) where
  mem := by simp
  obj := fun i h st b hb => by
    obtain ⟨⟨old, he⟩, ⟨o, ho, hc, hd⟩, _⟩ := st
    have e' : b = e ∨ b = it := by simpa using hb
    rcases e' with z | z
    · rw [z]; exact ⟨_, he, fun v q => nomatch q⟩
    · rw [z]; exact ⟨o, ho, fun v q => by rw [hd] at q; cases q⟩
  keep := fun i h h' st k => let ⟨⟨old, he⟩, hi, hne⟩ := st; ⟨⟨old, k e (by simp) _ he⟩, hi.at fun o q => k it (by simp) o q, hne⟩
  item := by
    intro X hP hw hK hc i pins s σ H E I hf st hg
    subst hP hw hK
    obtain ⟨⟨old, he⟩, hit, hne⟩ := st
    obtain ⟨xs, x, hq, hx⟩ := hg
    obtain ⟨its, rv, p, hz⟩ := I.tuple hq
    obtain ⟨u, hu, ru⟩ := rv.get hx
    have pt : s.heap.IsTuple a its.toArray := p
    have hel : e < s.heap.objs.size := Heap.lt_size he
    have hil : it < s.heap.objs.size := by obtain ⟨_, q, _⟩ := hit; exact Heap.lt_size q
    have hi : i < its.toArray.size := by
      have := (List.getElem?_eq_some_iff.mp hu).1
      simpa using this
    have hh : X.A.in1.handled = none := I.ok.hd hc
    refine wpAny_pyNext_enum_itemD (D := Draws.tuple hh it a (tup_ne_iter pt hit) its.toArray) he ⟨hit, pt⟩ hi hne (by simp [hne, tup_ne_enum pt he]) fun u' h' tk hP ho hst' hT hsz hk => ?_
    have hu' : u' = u := by
      have h3 : its.toArray[i]? = some u' := hP
      rw [List.getElem?_toArray, hu] at h3
      exact (Option.some.inj h3).symm
    subst hu'
    obtain ⟨hit', pt'⟩ := hst'
    refine ⟨_, rfl, wpAny_letOwnedTupleGo_enum (s := { s with heap := h', toks := tk + 1 }) ho fun h'' he' sb => ?_⟩
    have hT2 : h''.get? s.heap.objs.size = some { cls := .type "tuple", data := .seq #[.int i tk, u'] } := (sb.2 _ (Nat.ne_of_gt hel)).trans hT
    have new : ObjOk X.prog X.w (upd H s.heap.objs.size (.tup [.int (i : Nat), x])) h'' s.heap.objs.size (.tup [.int (i : Nat), x]) :=
      ⟨by show 2 ≤ sizeLine; decide, [.int i tk, u'], .cons ⟨_, rfl⟩ (.cons ru .nil), ⟨_, hT2, rfl, _, rfl⟩⟩
    have I1 : Inv X pins σ (upd H s.heap.objs.size (.tup [.int (i : Nat), x])) { s with heap := h'', toks := tk + 1 } :=
      I.turnedNew (ch := [e, it]) (fun b ob hb q => (sb.2 b (fun z => hb (by simp [z]))).trans (hk b ob (fun z => hb (by simp [z])) (fun z => hb (by simp [z])) q)) hf (Nat.le_refl _) new
    refine ⟨.ref s.heap.objs.size, _, I1, rfl, ⟨_, x, rfl, I.hok.fresh (Nat.le_refl _), rfl, fun ys hy => by rw [I.tuple_inj hy hq]; exact hx⟩, ⟨⟨u', ?_⟩, hit'.at fun o q => (sb.2 it (Ne.symm hne)).trans q, hne⟩, fun b hb => ?_⟩
    · have e1 : ((i + 1 : Nat) : Int) = (i : Int) + 1 := by omega
      rw [e1]; exact he'
    · have hb' : b < s.heap.objs.size := by
        have e' : b = e ∨ b = it := by simpa using hb
        rcases e' with z | z
        · rw [z]; exact hel
        · rw [z]; exact hil
      rw [upd_ne (Nat.ne_of_lt hb')]
      exact (hf b hb).1
  done := by
    intro X hP hw hK hc i pins s σ H E I hf st hg
    subst hP hw hK
    obtain ⟨⟨old, he⟩, hit, hne⟩ := st
    obtain ⟨xs, hq, hx⟩ := hg
    obtain ⟨its, rv, p, hz⟩ := I.tuple hq
    obtain ⟨f0, f1, f2, f3, f4, f5⟩ := hf it (by simp)
    have hl := rv.length
    have pt : s.heap.IsTuple a its.toArray := p
    refine wpAny_pyNext_enum_endT (I.ok.hd hc) he hit pt (by simp; omega) fun h' eb => ⟨rfl, I.turned (t' := s.toks) (fun b o hb q => eb b o hb q) f0 f1 f3 f4 f5⟩
  self := fun A i s Q E st h => let ⟨⟨_, he⟩, _⟩ := st; wpAny_pyIter_enum he h
/-- enumerate(xs), xs a list or a tuple -/
def iEnumS (K : PySem.W.Frag) (ta : TA) : TI := fun σ H R => ta σ H fun vs H1 => ∃ a, vs = [.ref a] ∧ (((∃ xs, SqL K H1 a xs) ∧ R (Ite K a) H1) ∨ ((∃ xs, SqT K H1 a xs) ∧ R (Itet K a) H1))
theorem pi_enumS {X : Cx} {e : Expr} {ta : TA} {p pos tpos : Pos} {elts : List Expr} {kk : Nat} (hg : Gl X "enumerate") (hm : X.mg "enumerate" = none) (ha : PA X [e] ta) (hs : starEach [e] X.env = [(false, eval e X.env)] := by rfl) :
    PI X (.Tuple elts kk tpos) (.Call (.Name "enumerate" p) [e] [] pos) (iEnumS X.K ta) := by
  refine ⟨fun pins s σ H R I h => ?_⟩
  refine Call_ (ld_blt I hg hm boot_enumerate (PyProof.Rows.callWith_type1 (thn (ha.run pos pins s σ H _ I h) fun us s1 ⟨vs, H1, I1, r1, q1⟩ => ?_) hs rfl))
  obtain ⟨a, ex, q⟩ := q1
  subst ex
  cases r1 with
  | cons r rr =>
    cases rr
    cases r
    have apart : ∀ b ∈ [s1.heap.objs.size + 1, s1.heap.objs.size], s1.heap.objs.size ≤ b := fun b hb => by
      have e' : b = s1.heap.objs.size + 1 ∨ b = s1.heap.objs.size := by simpa using hb
      rcases e' with z | z
      · rw [z]; exact Nat.le_add_right _ _
      · rw [z]; exact Nat.le_refl _
    rcases q with ⟨⟨xs, hq⟩, q⟩ | ⟨⟨xs, hq⟩, q⟩
    · obtain ⟨its, rv, p', hz⟩ := I1.list hq
      refine call_enumerate_list p'.isList fun h' he hit hsz hk => wpAny_pyIter_enum he ?_
      have I2 : Inv X pins σ H1 { s1 with heap := h' } := I1.kept (t' := s1.toks) hk
      exact ⟨s1.heap.objs.size + 1, [s1.heap.objs.size + 1, s1.heap.objs.size], _, _, H1, rfl, I2, turn_enum a (s1.heap.objs.size + 1) s1.heap.objs.size, ⟨⟨.none, he⟩, hit, Nat.succ_ne_self _⟩, fun b hb => I1.fpOk (apart b hb) (I1.hok.fresh (apart b hb)), q⟩
    · obtain ⟨its, rv, p', hz⟩ := I1.tuple hq
      have pt : s1.heap.IsTuple a its.toArray := p'
      refine enum_one (begins_tuple a its.toArray) pt fun h' he hit hsz hk => wpAny_pyIter_enum he ?_
      have I2 : Inv X pins σ H1 { s1 with heap := h' } := I1.kept (t' := s1.toks) hk
      exact ⟨s1.heap.objs.size + 1, [s1.heap.objs.size + 1, s1.heap.objs.size], _, _, H1, rfl, I2, turn_enumT a (s1.heap.objs.size + 1) s1.heap.objs.size, ⟨⟨.none, he⟩, ⟨_, hit, rfl, rfl⟩, Nat.succ_ne_self _⟩, fun b hb => I1.fpOk (apart b hb) (I1.hok.fresh (apart b hb)), q⟩
/-- t[lo:hi], t a list or a tuple -/
theorem sl_seqO {X : Cx} : SlR X (fun x lo hi H Q => rSlLO X.K x lo hi H Q ∨ rSlTO X.K x lo hi H Q) := SlR.or sl_listO sl_tupO
end OS

set_option Elab.async false
set_option linter.all false
set_option maxRecDepth 100000
set_option maxHeartbeats 4000000
/-! groups pass draws: a tuple is no part of the state -/
namespace OS
open PySem PySem.Spec PyProof.Rows L2
theorem StAt.sep {H : Hp} {p q : Addr} {n : Nat} {o : HO} (S : StAt H p n) (h : H q = some o) (nl : ∀ xs, o ≠ .lst xs) : Sep H p q o := by
  obtain ⟨a, b, zs, ms, S⟩ := S
  refine ⟨h, fun z => ?_⟩
  rw [own_iff S.hp] at z
  rcases z with z | z | z
  · subst z
    exact nl _ (Option.some.inj (h.symm.trans S.hp))
  · subst z
    exact nl _ (Option.some.inj (h.symm.trans S.ha))
  · subst z
    exact nl _ (Option.some.inj (h.symm.trans S.hb))
theorem tupT_nx {K : PySem.W.Frag} {H H' : Hp} {p a : Addr} {n : Nat} {xs : List V} (S : StAt H p n) (x : Nx p H H') (h : SqT K H a xs) : SqT K H' a xs := by
  rcases h with (h | ⟨o, h⟩) | h
  · exact .inl (.inl (x _ _ (S.sep h fun _ z => nomatch z)).at_)
  · exact .inl (.inr ⟨o, (x _ _ (S.sep h fun _ z => nomatch z)).at_⟩)
  · exact .inr h
theorem GrpV.nx {K : PySem.W.Frag} {H H' : Hp} {p : Addr} {n : Nat} {v : V} {g : List Str} (S : StAt H p n) (x : Nx p H H') (h : GrpV K H v g) : GrpV K H' v g := h.imp fun _ q => ⟨q.1, tupT_nx S x q.2⟩
theorem GrpsV.nx {K : PySem.W.Frag} {H H' : Hp} {p : Addr} {n : Nat} {xs : List V} {gs : List (List Str)} (S : StAt H p n) (x : Nx p H H') (h : GrpsV K H xs gs) : GrpsV K H' xs gs := Paired.mapP h fun _ _ q => GrpV.nx S x q
end OS

set_option Elab.async false
set_option linter.all false
set_option maxRecDepth 100000
set_option maxHeartbeats 4000000
/-! calls of a class, a classmethod, a method: within a try, by keywords, by a local name -/
namespace OS
open PySem PySem.Spec PyProof.Rows L2 ClX
/-! ### what may fly is told at the slots -/
def tMakeS (C : Addr) (sp : Sp) (E : L2.St → XK) (t : TA) : TE := fun σ H Q => t σ H fun vs H1 => ∀ x dx, H1 x = none → H1 dx = none → dx ≠ x →
  sp (.ref x :: vs) (upd (upd H1 dx (.own x)) x (.ins C dx [])) (fun v H2 => v = .non ∧ Q (.ref x) H2) (E σ)
def tMethSx (C : Addr) (m : Str) (sp : Sp) (E : L2.St → XK) (ta : TE) (t : TA) : TE := fun σ H Q => ta σ H fun x H1 => ∃ a dx fs, x = .ref a ∧ H1 a = some (.ins C dx fs) ∧ fs.lookup m = none ∧ t σ H1 fun vs H2 => sp (x :: vs) H2 Q (E σ)
def tCMethS (C : Addr) (sp : Sp) (E : L2.St → XK) (ta : TE) (t : TA) : TE := fun σ H Q => ta σ H fun x H1 => x = .ref C ∧ t σ H1 fun vs H2 => sp (.ref C :: vs) H2 Q (E σ)
section
variable {X : Cx} {CX : CXT} {k : Nat} {f C p g : Addr} {mc : Value} {fd : FuncData} {ps : List Str} {sp : Sp} {E : L2.St → XK} {E1 : XK} {x m : Str} {q pos apos : Pos} {e o : Expr} {es : List Expr} {ta : TE} {t tk : TA} {pl : Sem Bool} {kws : List Keyword} {ks : List Str}
theorem at_of (hx : Passes CX X E1) (σ : L2.St) : PassesAt CX X σ E1 := fun pins H s e s' I c => hx pins σ H s e s' I c
theorem run_makeS {pins : List (Addr × Obj)} {σ : L2.St} {H : Hp} {s : Shared} {Q : VK} {us : List Value} {vs : List V} (M : Mk X.K C f) (F : FnOk X.prog X.w X.K X.mg X.base CX k f fd ps sp) (hr : Room (k + 1) X.A) (hb : Binds X.K fd ps [])
    (hx : PassesAt CX X σ (E σ)) (I : Inv X pins σ H s) (r : Vals vs us)
    (h : ∀ x dx, H x = none → H dx = none → dx ≠ x → sp (.ref x :: vs) (upd (upd H dx (.own x)) x (.ins C dx [])) (fun v H2 => v = .non ∧ Q (.ref x) H2) (E σ)) :
    wpAny (model X.prog X.w) X.A (call (.ref C) us) (EP X pins σ Q) X.xe s := by
  have hq := h (s.heap.objs.size + 1) s.heap.objs.size (I.hok.fresh (Nat.le_succ _)) (I.hok.fresh (Nat.le_refl _)) (Nat.ne_of_lt (Nat.lt_succ_self _))
  have I2 := Inv.made (C := C) I
  have r2 : Vals (V.ref (s.heap.objs.size + 1) :: vs) (Value.ref (s.heap.objs.size + 1) :: us) := .cons rfl r
  have hl : (Value.ref (s.heap.objs.size + 1) :: us ++ []).length = ps.length := by
    have e := r2.length
    rw [F.len _ _ _ _ hq] at e
    rw [List.append_nil]
    exact e.symm
  have b := hb _ (Value.ref (s.heap.objs.size + 1) :: us) I2.kIn hl
  rw [List.append_nil] at b
  refine wpAny_call (make_map (f := f) I.kIn M.makes M.init (beq_iff_eq.mp M.fn) (codeAny_mono (F.run _ X.stack _ _ ⟨Value.ref (s.heap.objs.size + 1) :: us, []⟩ (Value.ref (s.heap.objs.size + 1) :: us) _ _ (E σ) (hr.make C us [])
    (I2.env0.make C us []) b r2 hq) fun r s' hq' => ?_))
  cases r with
  | error e => exact hx pins _ _ e s' I2 hq'
  | ok fl =>
    cases fl with
    | ret u =>
      obtain ⟨v, H', I3, rv, ev, q3⟩ := I2.after hq'
      subst ev
      exact ⟨rv, ⟨V.ref (s.heap.objs.size + 1), H', I3, rfl, q3⟩⟩
    | next => exact False.elim hq'
    | brk => exact False.elim hq'
    | cont => exact False.elim hq'
theorem pe_makeS (M : Mk X.K C f) (F : FnOk X.prog X.w X.K X.mg X.base CX k f fd ps sp) (hr : Room (k + 1) X.A) (hg : Gl X x) (hm : X.mg x = some (.ref C)) (hb : Binds X.K fd ps []) (hx : ∀ σ, PassesAt CX X σ (E σ))
    (ha : PA X (e :: es) t) (hdb : (x == ("__debug__" : Str)) = false := by decide) (he : starEach (e :: es) X.env = (false, eval e X.env) :: starEach es X.env := by rfl) (hpl : (backTo pos (starEach es X.env)).any (·.1) = false := by rfl) :
    PE X (.Call (.Name x q) (e :: es) [] pos) (tMakeS C sp E t) := by
  refine ⟨fun pins s σ H Q I h => ?_⟩
  refine wpAny_Call_Name_kw (ld_glob I hg hm ?_ hdb)
  refine PySem.W.callWith_K (h₀ := X.base) I.ok.mod.kin M.kp (thn (ha.run pos pins s σ H _ I h) fun us s1 ⟨vs, H1, I1, r, q⟩ => ⟨I1.kIn, ?_⟩) he hpl
  exact run_makeS M F hr hb (hx σ) I1 r q
/-- x(e, ..) where the name x of the def holds the class -/
def tMakeL (C : Addr) (i : Nat) (sp : Sp) (E : L2.St → XK) (t : TA) : TE := fun σ H Q => σ[i]? = some (some (.ref C)) ∧ tMakeS C sp E t σ H Q
theorem pe_makeL {i : Nat} (M : Mk X.K C f) (F : FnOk X.prog X.w X.K X.mg X.base CX k f fd ps sp) (hr : Room (k + 1) X.A) (hN : X.N[i]? = some x) (hv : Vis X.env.scope x) (hb : Binds X.K fd ps []) (hx : ∀ σ, PassesAt CX X σ (E σ))
    (ha : PA X (e :: es) t) (hdb : (x == ("__debug__" : Str)) = false := by decide) (hcd : (x == ("__classdict__" : Str)) = false := by decide) (he : starEach (e :: es) X.env = (false, eval e X.env) :: starEach es X.env := by rfl) (hpl : (backTo pos (starEach es X.env)).any (·.1) = false := by rfl) :
    PE X (.Call (.Name x q) (e :: es) [] pos) (tMakeL C i sp E t) := by
  refine ⟨fun pins s σ H Q I h => ?_⟩
  obtain ⟨hs, ht⟩ := h
  refine wpAny_Call_Name_kw (thn ((pe_var (pos := q) hN hv hdb hcd).run pins s σ H (fun v H1 => v = .ref C ∧ H1 = H) I ⟨.ref C, hs, rfl, rfl⟩) fun u s1 ⟨v, H1, I1, r1, q1⟩ => ?_)
  obtain ⟨rfl, rfl⟩ := q1
  cases r1
  refine PySem.W.callWith_K (h₀ := X.base) I.ok.mod.kin M.kp (thn (ha.run pos pins s1 σ _ _ I1 ht) fun us s2 ⟨vs, H2, I2, r, q⟩ => ⟨I2.kIn, ?_⟩) he hpl
  exact run_makeS M F hr hb (hx σ) I2 r q
theorem pe_methSx (he : PE X o ta) (c : Cls X.K C) (hm : Meth X.K C m f) (F : FnOk X.prog X.w X.K X.mg X.base CX k f fd ps sp) (hr : Room k X.A) (hb : Binds X.K fd ps []) (hx : ∀ σ, PassesAt CX X σ (E σ)) (ha : PA X (e :: es) t)
    (hst : starEach (e :: es) X.env = (false, eval e X.env) :: starEach es X.env := by rfl) (hpl : (backTo pos (starEach es X.env)).any (·.1) = false := by rfl)
    (ht : eval (.Call (.Attribute o m apos) (e :: es) [] pos) X.env = (do
      let ov ← eval o X.env
      standAt apos.atName
      let (f, first) ← holding [ov] (getMethod ov m pl)
      callWith pos f first (backTo pos (starEach (e :: es) X.env)) (backToKw pos (keywordEach [] X.env))) := by rfl) :
    PE X (.Call (.Attribute o m apos) (e :: es) [] pos) (tMethSx C m sp E ta t) := by
  refine ⟨fun pins s σ H Q I h => ?_⟩
  refine PySem.W.methodCall_KW (pl := pl) (thn (he.run pins s σ H _ I h) fun u s1 ⟨x, H1, I1, rx, a, dx, fs, ex, ea, l, q⟩ => ?_) ht
  subst ex
  obtain rfl : u = Value.ref a := rx
  refine getmeth_ok I1 ea c hm l ?_
  refine PySem.W.callWith_K (first := [.ref a]) (h₀ := X.base) I.ok.mod.kin hm.kp (thn (ha.run pos pins s1 σ H1 _ I1 q) fun us s2 ⟨vs, H2, I2, r, q2⟩ => ⟨I2.kIn, ?_⟩) hst hpl
  exact run_fnS (us := .ref a :: us) (vs := .ref a :: vs) F hr hb (hx σ) I2 (.cons rfl r) q2
theorem run_fnRS {pins : List (Addr × Obj)} {σ : L2.St} {H : Hp} {s : Shared} {Q : VK} {us : List Value} {vs : List V} {kz : List (Str × Value)} {zs : List Value} (F : FnOk X.prog X.w X.K X.mg X.base CX k f fd ps sp) (hr : Room k X.A) (hx : PassesAt CX X σ E1) (I : Inv X pins σ H s)
    (b : BindsTo s fd ⟨us, kz⟩ (ps.zip zs)) (r : Vals vs zs) (h : sp vs H Q E1) :
    codeAny (model X.prog X.w) X.A (.call (.ref f) ⟨us, kz⟩) (fun r s' => match r with | .ok (.ret v) => EP X pins σ Q v s' | .ok _ => False | .error e => X.xe e s') s := by
  refine codeAny_mono (F.run X.A X.stack s H ⟨us, kz⟩ zs vs Q E1 hr I.env0 b r h) fun r s' hq => ?_
  cases r with
  | error e => exact hx pins H s e s' I hq
  | ok fl =>
    cases fl with
    | ret u => exact I.after hq
    | next => exact False.elim hq
    | brk => exact False.elim hq
    | cont => exact False.elim hq
theorem pe_cmethS (he : PE X o ta) (r : CRead X.K C mc) (c : CMet X.K C mc m p g) (F : FnOk X.prog X.w X.K X.mg X.base CX k g fd ps sp) (hr : Room k X.A) (hb : Binds X.K fd ps []) (hx : ∀ σ, PassesAt CX X σ (E σ)) (ha : PA X (e :: es) t)
    (hst : starEach (e :: es) X.env = (false, eval e X.env) :: starEach es X.env := by rfl) (hpl : (backTo pos (starEach es X.env)).any (·.1) = false := by rfl)
    (ht : eval (.Call (.Attribute o m apos) (e :: es) [] pos) X.env = (do
      let ov ← eval o X.env
      standAt apos.atName
      let (f, first) ← holding [ov] (getMethod ov m pl)
      callWith pos f first (backTo pos (starEach (e :: es) X.env)) (backToKw pos (keywordEach [] X.env))) := by rfl) :
    PE X (.Call (.Attribute o m apos) (e :: es) [] pos) (tCMethS C sp E ta t) := by
  refine ⟨fun pins s σ H Q I h => ?_⟩
  refine PySem.W.methodCall_KW (pl := pl) (thn (he.run pins s σ H _ I h) fun u s1 ⟨x, H1, I1, rx, ex, q⟩ => ?_) ht
  subst ex
  obtain rfl : u = Value.ref C := rx
  refine getmethcm_ok I1 r c fun s2 I2 => ?_
  refine callwith_cm I2 (base_none I1 (Nat.le_refl _)) c.fi (thn (ha.run pos _ s2 σ H1 _ I2 q) fun us s3 ⟨vs, H2, I3, rv, q2⟩ => ⟨⟨pin_at I3, I3.kIn⟩, ?_⟩) hst hpl
  have hl : (Value.ref C :: us ++ []).length = ps.length := by
    rw [List.append_nil, List.length_cons, ← rv.length]
    exact F.len _ _ _ _ q2
  have b := hb s3 (Value.ref C :: us) I3.kIn hl
  rw [List.append_nil] at b
  have z := wpAny_call (PySem.W.method_call (pin_at I3) (run_fnRS (vs := .ref C :: vs) F hr (hx σ) I3 b (.cons rfl rv) q2))
  exact thn z fun _ _ y => unpinE y
/-! ### by keywords alone -/
/-- o.m(k = v, ..) -/
def tMethK (C : Addr) (m : Str) (n : Nat) (sp : Sp) (gV : List V → List V → List V) (E : XK) (ta : TE) (tk : TA) : TE := fun σ H Q => ta σ H fun x H1 => ∃ a dx fs, x = .ref a ∧ H1 a = some (.ins C dx fs) ∧ fs.lookup m = none ∧ tk σ H1 fun zs H2 => zs.length = n ∧ sp (gV [x] zs) H2 Q E
variable {gg : List Value → List Value → List Value} {gV : List V → List V → List V}
theorem pe_methK0 (he : PE X o ta) (c : Cls X.K C) (hm : Meth X.K C m f) (F : FnOk X.prog X.w X.K X.mg X.base CX k f fd ps sp) (hr : Room k X.A) (hb : KBn X.K fd ps 1 ks gg gV) (hx : Passes CX X E1) (hkw : PK X kws tk)
    (hall : (backToKw pos (keywordEach kws X.env)).all (·.1.isSome) = true := by rfl) (hks : (backToKw pos (keywordEach kws X.env)).filterMap (·.1) = ks := by rfl)
    (hpl : ((backTo pos (starEach [] X.env)).any (·.1) || (backToKw pos (keywordEach kws X.env)).any (·.1.isNone)) = false := by rfl)
    (ht : eval (.Call (.Attribute o m apos) [] kws pos) X.env = (do
      let ov ← eval o X.env
      standAt apos.atName
      let (f, first) ← holding [ov] (getMethod ov m pl)
      callWith pos f first (backTo pos (starEach [] X.env)) (backToKw pos (keywordEach kws X.env))) := by rfl) :
    PE X (.Call (.Attribute o m apos) [] kws pos) (tMethK C m ks.length sp gV E1 ta tk) := by
  refine ⟨fun pins s σ H Q I h => ?_⟩
  refine PySem.W.methodCall_KW (pl := pl) (thn (he.run pins s σ H _ I h) fun u s1 ⟨x, H1, I1, rx, a, dx, fs, ex, ea, l, q⟩ => ?_) ht
  subst ex
  obtain rfl : u = Value.ref a := rx
  refine getmeth_ok I1 ea c hm l ?_
  refine PySem.W.callWith_KW0 (first := [.ref a]) (h₀ := X.base) I.ok.mod.kin hm.kp hall ?_ hpl
  refine thn (hkw.run pos pins s1 σ H1 _ I1 q) fun ws s2 ⟨zs, H2, I2, rz, lz, q2⟩ => ⟨I2.kIn, ?_⟩
  rw [hks]
  have r1 : Vals [V.ref a] [Value.ref a] := .cons rfl .nil
  exact wpAny_call (run_fnRS F hr (at_of hx σ) I2 (hb.to s2 [Value.ref a] ws I2.kIn rfl (rz.length.symm.trans lz)) (hb.rel r1 rz) q2)
/-- C.m(k = v, ..), a classmethod -/
def tCMethK (C : Addr) (n : Nat) (sp : Sp) (gV : List V → List V → List V) (E : XK) (ta : TE) (tk : TA) : TE := fun σ H Q => ta σ H fun x H1 => x = .ref C ∧ tk σ H1 fun zs H2 => zs.length = n ∧ sp (gV [.ref C] zs) H2 Q E
theorem pe_cmethK0 (he : PE X o ta) (r : CRead X.K C mc) (c : CMet X.K C mc m p g) (F : FnOk X.prog X.w X.K X.mg X.base CX k g fd ps sp) (hr : Room k X.A) (hb : KBn X.K fd ps 1 ks gg gV) (hx : Passes CX X E1) (hkw : PK X kws tk)
    (hall : (backToKw pos (keywordEach kws X.env)).all (·.1.isSome) = true := by rfl) (hks : (backToKw pos (keywordEach kws X.env)).filterMap (·.1) = ks := by rfl)
    (hpl : ((backTo pos (starEach [] X.env)).any (·.1) || (backToKw pos (keywordEach kws X.env)).any (·.1.isNone)) = false := by rfl)
    (ht : eval (.Call (.Attribute o m apos) [] kws pos) X.env = (do
      let ov ← eval o X.env
      standAt apos.atName
      let (f, first) ← holding [ov] (getMethod ov m pl)
      callWith pos f first (backTo pos (starEach [] X.env)) (backToKw pos (keywordEach kws X.env))) := by rfl) :
    PE X (.Call (.Attribute o m apos) [] kws pos) (tCMethK C ks.length sp gV E1 ta tk) := by
  refine ⟨fun pins s σ H Q I h => ?_⟩
  refine PySem.W.methodCall_KW (pl := pl) (thn (he.run pins s σ H _ I h) fun u s1 ⟨x, H1, I1, rx, ex, q⟩ => ?_) ht
  subst ex
  obtain rfl : u = Value.ref C := rx
  refine getmethcm_ok I1 r c fun s2 I2 => ?_
  refine PySem.W.callWith_of hpl (PySem.W.keeps_M (self := .ref C) c.fi) (evalArgs_kw2_nil hall ?_)
  refine thn (hkw.run pos _ s2 σ H1 _ I2 q) fun ws s3 ⟨zs, H2, I3, rz, lz, q2⟩ => ⟨⟨pin_at I3, I3.kIn⟩, ?_⟩
  rw [hks]
  have r1 : Vals [V.ref C] [Value.ref C] := .cons rfl .nil
  have b := hb.to s3 [Value.ref C] ws I3.kIn rfl (rz.length.symm.trans lz)
  have z := wpAny_call (PySem.W.method_call (pin_at I3) (run_fnRS F hr (at_of hx σ) I3 b (hb.rel r1 rz) q2))
  exact thn z fun _ _ y => unpinE y
end
end OS

set_option Elab.async false
set_option linter.all false
set_option maxRecDepth 100000
set_option maxHeartbeats 4000000
/-! != of lists whose items are equal: the same object, the same flat value, the same data, lists of such -/
namespace OS
open PySem PySem.Spec PyProof.Rows L2 PySem.OSS
/-- equal, seen without looking at what is the same object -/
def EqI (K : PySem.W.Frag) (H : Hp) (x y : V) : Prop := (x = y ∧ flatV x = true) ∨ (∃ a, x = .ref a ∧ y = .ref a) ∨ ∃ d, Dp K H x d ∧ Dp K H y d ∧ d.depth ≤ 20
def EqN (K : PySem.W.Frag) (H : Hp) : Nat → V → V → Prop
  | 0 => EqI K H
  | n + 1 => fun x y => EqI K H x y ∨ ∃ a b xs ys, x = .ref a ∧ y = .ref b ∧ SqL K H a xs ∧ SqL K H b ys ∧ Paired (EqN K H n) xs ys
theorem flat_self {x : V} (h : flatV x = true) : eqV x x = true := by
  cases x with
  | non => rfl
  | bl b => cases b <;> rfl
  | int i => simp [eqV]
  | str z => simp [eqV]
  | _ => cases h
section
variable {X : Cx} {pins : List (Addr × Obj)} {σ : L2.St} {H : Hp} {s : Shared}
theorem eqI_at (I : Inv X pins σ H s) {A : Around} (hu : A.units + 21 < cLine) {x y : V} {u v : Value} (h : EqI X.K H x y) (rx : RelV x u) (ry : RelV y v) : SeqAt.EqAt A s u v true := by
  rcases h with ⟨rfl, f⟩ | ⟨a, rfl, rfl⟩ | ⟨d, h1, h2, hd⟩
  · have := eqAt_V (A := A) (s := s) rx ry f f
    rwa [flat_self f] at this
  · cases (show u = Value.ref a from rx)
    cases (show v = Value.ref a from ry)
    exact SeqAt.EqAt.same _
  · obtain ⟨as, r1⟩ := Dp.reads I d x u h1 rx
    obtain ⟨bs, r2⟩ := Dp.reads I d y v h2 ry
    have := SeqAt.eqAt_plain d d A s u v as bs r1 r2 (dp_plain d _ h1) (dp_plain d _ h2) (by omega)
    rwa [SeqAt.eqv_refl_plain d (dp_plain d _ h1)] at this
theorem eqN_at (I : Inv X pins σ H s) : ∀ (n : Nat) {A : Around}, A.units + n + 21 < cLine → ∀ {x y : V} {u v : Value}, EqN X.K H n x y → RelV x u → RelV y v → SeqAt.EqAt A s u v true
  | 0, A, hu, x, y, u, v, h, rx, ry => eqI_at I (by omega) h rx ry
  | n + 1, A, hu, x, y, u, v, h, rx, ry => by
    rcases h with h | ⟨a, b, xs, ys, rfl, rfl, ha, hb, hp⟩
    · exact eqI_at I (by omega) h rx ry
    · cases (show u = Value.ref a from rx)
      cases (show v = Value.ref b from ry)
      by_cases e : a = b
      · subst e
        exact SeqAt.EqAt.same _
      obtain ⟨us, r1, p1, _⟩ := I.list ha
      obtain ⟨ws, r2, p2, _⟩ := I.list hb
      have hsz : us.toArray.size = ws.toArray.size := by
        rw [List.size_toArray, List.size_toArray, ← r1.length, ← r2.length]
        exact Paired.length hp
      have rc : SeqAt.RcAt A s (.ref a) (.ref b) ((List.range us.toArray.size).all fun _ => true) := SeqAt.RcAt.lists (e := fun _ => true) p1.isList p2.isList hsz (by omega) fun j h1 h2 => by
        have k1 : j < us.length := by simpa using h1
        have k2 : j < ws.length := by simpa using h2
        have l1 : j < xs.length := by rw [r1.length]; exact k1
        obtain ⟨x0, hx0⟩ : ∃ x0, xs[j]? = some x0 := ⟨_, List.getElem?_eq_getElem l1⟩
        obtain ⟨y0, hy0, hxy⟩ := paired_get hp hx0
        obtain ⟨u0, hu0, ru0⟩ := r1.get hx0
        obtain ⟨v0, hv0, rv0⟩ := r2.get hy0
        rw [List.getElem?_eq_getElem k1] at hu0
        rw [List.getElem?_eq_getElem k2] at hv0
        have := eqN_at I n (A := A.in1) (by show A.units + 1 + n + 21 < cLine; omega) hxy ru0 rv0
        rw [← Option.some.inj hu0, ← Option.some.inj hv0] at this
        simpa using this
      rw [show ((List.range us.toArray.size).all fun _ => true) = true from List.all_eq_true.mpr fun _ _ => rfl] at rc
      exact SeqAt.EqAt.of_refs e rc
end
def rNeI (K : PySem.W.Frag) : R2 := fun x y H Q => ∃ a b xs ys, x = .ref a ∧ y = .ref b ∧ SqL K H a xs ∧ SqL K H b ys ∧ Paired (EqN K H 1) xs ys ∧ Q (.bl false) H
theorem op_neI {X : Cx} (hu : X.A.units + 65 < cLine) : OpR X (compareOp .NotEq) (rNeI X.K) := by
  intro pins s σ H x y v u Q I rx ry h
  obtain ⟨a, b, xs, ys, rfl, rfl, ha, hb, hp, q⟩ := h
  cases rx
  cases ry
  obtain ⟨us, r1, p1, _⟩ := I.list ha
  obtain ⟨ws, r2, p2, _⟩ := I.list hb
  have hsz : us.toArray.size = ws.toArray.size := by
    rw [List.size_toArray, List.size_toArray, ← r1.length, ← r2.length]
    exact Paired.length hp
  have rc : SeqAt.RcNeAt X.A s (.ref a) (.ref b) (!(List.range us.toArray.size).all fun _ => true) := SeqAt.RcNeAt.lists (e := fun _ => true) p1.isList p2.isList hsz (by omega) fun j h1 h2 => by
    have k1 : j < us.length := by simpa using h1
    have k2 : j < ws.length := by simpa using h2
    have l1 : j < xs.length := by rw [r1.length]; exact k1
    obtain ⟨x0, hx0⟩ : ∃ x0, xs[j]? = some x0 := ⟨_, List.getElem?_eq_getElem l1⟩
    obtain ⟨y0, hy0, hxy⟩ := paired_get hp hx0
    obtain ⟨u0, hu0, ru0⟩ := r1.get hx0
    obtain ⟨v0, hv0, rv0⟩ := r2.get hy0
    rw [List.getElem?_eq_getElem k1] at hu0
    rw [List.getElem?_eq_getElem k2] at hv0
    have := eqN_at I 1 (A := X.A.in1) (by show X.A.units + 1 + 1 + 21 < cLine; omega) hxy ru0 rv0
    rw [← Option.some.inj hu0, ← Option.some.inj hv0] at this
    simpa using this
  rw [show ((List.range us.toArray.size).all fun _ => true) = true from List.all_eq_true.mpr fun _ _ => rfl] at rc
  exact rc X.prog X.w X.xe _ ⟨.bl false, H, I, rfl, q⟩
theorem takesNo {X : Cx} : Takes X (fun _ _ _ _ => False) := fun _ _ x => by
  obtain ⟨_, _, _, _, _, _, _, _, _, _, _, _, _, _, _, _, z⟩ := x
  exact z.elim
theorem pass0x {X : Cx} : Passes (L2.CX X.prog X.w) X E0 := fun _ _ _ _ _ _ _ h => by
  obtain ⟨_, _, _, _, _, _, _, _, _, _, _, _, z⟩ := h
  exact z.elim
end OS

set_option Elab.async false
set_option linter.all false
set_option maxRecDepth 100000
set_option maxHeartbeats 4000000
/-! any values that stand beside the state of the draws; comprehensions whose test draws -/
namespace OS
open PySem PySem.Spec PyProof.Rows L2
/-- an address that is none of what stands beside the state -/
def Frn (p : Addr) (H : Hp) (q : Addr) : Prop := ∀ D o, Sep H p D o → q ≠ D
theorem Frn.none {p q : Addr} {H : Hp} (h : H q = none) : Frn p H q := fun D o s z => by
  have := s.at_
  rw [← z, h] at this
  cases this
theorem Frn.nx {p q : Addr} {H H1 : Hp} (x : Nx p H H1) (h : Frn p H1 q) : Frn p H q := fun D o s => h D o (x _ _ s)
/-- a tuple beside the state -/
def TupN (K : PySem.W.Frag) (p : Addr) (H : Hp) (a : Addr) (xs : List V) : Prop := (Sep H p a (.tup xs) ∨ ∃ o, Sep H p a (.frz o (.tup xs))) ∨ ∀ H', SqT K H' a xs
theorem TupN.of {K : PySem.W.Frag} {H : Hp} {p a : Addr} {n : Nat} {xs : List V} (S : StAt H p n) (h : SqT K H a xs) : TupN K p H a xs := by
  rcases h with (h | ⟨o, h⟩) | h
  · exact .inl (.inl (S.sep h fun _ z => nomatch z))
  · exact .inl (.inr ⟨o, S.sep h fun _ z => nomatch z⟩)
  · exact .inr fun H' => .inr h
theorem TupN.sq {K : PySem.W.Frag} {H : Hp} {p a : Addr} {xs : List V} (h : TupN K p H a xs) : SqT K H a xs := by
  rcases h with (h | ⟨o, h⟩) | h
  · exact .inl (.inl h.at_)
  · exact .inl (.inr ⟨o, h.at_⟩)
  · exact h H
theorem TupN.kept {K : PySem.W.Frag} {H H' : Hp} {p D a : Addr} {xs acc : List V} (sD : Sep H p D (.lst acc)) (k : ∀ q o, Sep H p q o → q ≠ D → Sep H' p q o) (h : TupN K p H a xs) : TupN K p H' a xs := by
  rcases h with (h | ⟨o, h⟩) | h
  · exact .inl (.inl (k _ _ h (ne_of h.at_ sD.at_ fun z => by cases z)))
  · exact .inl (.inr ⟨o, k _ _ h (ne_of h.at_ sD.at_ fun z => by cases z)⟩)
  · exact .inr h
theorem TupN.nx {K : PySem.W.Frag} {H H' : Hp} {p a : Addr} {xs : List V} (x : Nx p H H') (h : TupN K p H a xs) : TupN K p H' a xs := by
  rcases h with (h | ⟨o, h⟩) | h
  · exact .inl (.inl (x _ _ h))
  · exact .inl (.inr ⟨o, x _ _ h⟩)
  · exact .inr h
/-- an item beside the state; its lists and dicts are at addresses in B -/
inductive ItmX (K : PySem.W.Frag) (p : Addr) (H : Hp) (B : Addr → Prop) : V → Prop
  | flat {v : V} : flatV v = true → ItmX K p H B v
  | lst {a : Addr} {zs : List V} : Sep H p a (.lst zs) → B a → ItmX K p H B (.ref a)
  | dct {a : Addr} {kvs : List (Key × V)} : Sep H p a (.dK kvs) → B a → ItmX K p H B (.ref a)
  | tup {a : Addr} {zs : List V} : TupN K p H a zs → ItmX K p H B (.ref a)
/-- a value beside the state; if it is a tuple, its items -/
inductive ThgX (K : PySem.W.Frag) (p : Addr) (H : Hp) (B : Addr → Prop) : V → Option (List V) → Prop
  | flat {v : V} : flatV v = true → ThgX K p H B v none
  | lst {a : Addr} {zs : List V} : Sep H p a (.lst zs) → B a → ThgX K p H B (.ref a) none
  | dct {a : Addr} {kvs : List (Key × V)} : Sep H p a (.dK kvs) → B a → ThgX K p H B (.ref a) none
  | tup {a : Addr} {xs : List V} : TupN K p H a xs → (∀ v ∈ xs, ItmX K p H B v) → ThgX K p H B (.ref a) (some xs)
section
variable {K : PySem.W.Frag} {H H' : Hp} {p : Addr} {B B' : Addr → Prop} {v : V} {o : Option (List V)}
theorem ItmX.nx (x : Nx p H H') (h : ItmX K p H B v) : ItmX K p H' B v := by
  cases h with
  | flat f => exact .flat f
  | lst s b => exact .lst (x _ _ s) b
  | dct s b => exact .dct (x _ _ s) b
  | tup s => exact .tup (s.nx x)
theorem ThgX.nx (x : Nx p H H') (h : ThgX K p H B v o) : ThgX K p H' B v o := by
  cases h with
  | flat f => exact .flat f
  | lst s b => exact .lst (x _ _ s) b
  | dct s b => exact .dct (x _ _ s) b
  | tup s hi => exact .tup (s.nx x) fun w hw => (hi w hw).nx x
theorem ItmX.mono (b : ∀ a, B a → B' a) (h : ItmX K p H B v) : ItmX K p H B' v := by
  cases h with
  | flat f => exact .flat f
  | lst s c => exact .lst s (b _ c)
  | dct s c => exact .dct s (b _ c)
  | tup s => exact .tup s
theorem ThgX.mono (b : ∀ a, B a → B' a) (h : ThgX K p H B v o) : ThgX K p H B' v o := by
  cases h with
  | flat f => exact .flat f
  | lst s c => exact .lst s (b _ c)
  | dct s c => exact .dct s (b _ c)
  | tup s hi => exact .tup s fun w hw => (hi w hw).mono b
theorem ItmX.itm (h : ItmX K p H B v) : Itm K H v := by
  cases h with
  | flat f => exact .flat f
  | lst s b => exact .lst s.sq
  | dct s b => exact .dct s.at_
  | tup s => exact .tup s.sq
theorem ThgX.thing (h : ThgX K p H B v o) : Thing K H v o := by
  cases h with
  | flat f => exact .flat f
  | lst s b => exact .lst s.sq
  | dct s b => exact .dct s.at_
  | tup s hi => exact .tup s.sq fun w hw => (hi w hw).itm
/-- where all but the list at P is kept -/
theorem ItmX.but {P : Addr} {u : HO} (h : ItmX K p H (fun a => a ≠ P) v) {acc : List V} (sP : Sep H p P (.lst acc)) : ItmX K p (upd H P u) (fun a => a ≠ P) v := by
  have k : ∀ q o, Sep H p q o → q ≠ P → Sep (upd H P u) p q o := fun q o h n => h.put_ne sP n
  cases h with
  | flat f => exact .flat f
  | lst s b => exact .lst (k _ _ s b) b
  | dct s b => exact .dct (k _ _ s b) b
  | tup s => exact .tup (s.kept sP k)
theorem ThgX.but {P : Addr} {u : HO} (h : ThgX K p H (fun a => a ≠ P) v o) {acc : List V} (sP : Sep H p P (.lst acc)) : ThgX K p (upd H P u) (fun a => a ≠ P) v o := by
  have k : ∀ q o, Sep H p q o → q ≠ P → Sep (upd H P u) p q o := fun q o h n => h.put_ne sP n
  cases h with
  | flat f => exact .flat f
  | lst s b => exact .lst (k _ _ s b) b
  | dct s b => exact .dct (k _ _ s b) b
  | tup s hi => exact .tup (s.kept sP k) fun w hw => (hi w hw).but sP
end
/-- over n turns: tests and items may draw -/
theorem lc_drt {J : It} {n : Nat} {G : Hp → Prop} {Y : Nat → Hp → V → Hp → Prop} (w : Walk J n G Y) (hz : n ≤ 100000) (p : Addr) (m0 c : Nat) (R : Hp → V → Prop) {g : TG} {tt : TT} {te : TE} {vs : List Nat} {σ : L2.St} {H1 : Hp} {D : Addr} {Qd : Hp → Prop}
    (S : StAt H1 p m0) (hD : H1 D = none) (hR : ∀ H H' y acc, Sep H p D (.lst acc) → (∀ q o, Sep H p q o → q ≠ D → Sep H' p q o) → R H y → R H' y) (hG : ∀ H, Nx p H1 H → G H)
    (hs : ∀ i m x H H' (Qk : V → Hp → Prop) (Qn : Hp → Prop), i < n → StAt H p m → m ≤ m0 + c * i → Nx p H1 H → Y i H x H' → (∀ y H4 m', R H4 y → StAt H4 p m' → m' ≤ m + c → Nx p H H4 → Qk y H4) → (∀ H4 m', StAt H4 p m' → m' ≤ m + c → Nx p H H4 → Qn H4) →
      g x (wipe σ vs) H' fun σ2 H2 => wipe σ2 vs = wipe σ vs ∧ tt σ2 H2 fun b H3 => if b = true then te σ2 H3 Qk else Qn H3)
    (hd : ∀ H m acc, StAt H p m → m ≤ m0 + c * n → Nx p H1 H → Sep H p D (.lst acc) → acc.length ≤ n → (∀ y ∈ acc, R H y) → Qd H) :
    ∃ W : Nat → Nat → Hp → Prop, (∃ m, W 0 m (upd H1 D (.lst []))) ∧ ∀ i m H, W i m H →
      (J.stop i H ∧ Qd H) ∨ (J.go i H ∧ ∃ Nx : Hp → Prop, (∀ H', Nx H' → ∃ m', m' < m ∧ W (i + 1) m' H') ∧ ∀ x H', J.yld i H x H' → g x (wipe σ vs) H' fun σ2 H2 => wipe σ2 vs = wipe σ vs ∧ tt σ2 H2 fun b H3 =>
        if b = true then te σ2 H3 fun y H4 => ∃ acc, H4 D = some (.lst acc) ∧ acc.length < sizeLine ∧ Nx (upd H4 D (.lst (acc ++ [y]))) else Nx H3) := by
  refine lc_it w (fun i H => ∃ m acc, StAt H p m ∧ m ≤ m0 + c * i ∧ Nx p H1 H ∧ Sep H p D (.lst acc) ∧ acc.length ≤ i ∧ ∀ y ∈ acc, R H y) ⟨m0, [], S.same (same_new hD), Nat.le_add_right _ _, S.nx (same_new hD), S.new hD, Nat.le_refl _, fun y h => nomatch h⟩ (fun i H _ ⟨_, _, _, _, x, _⟩ => hG H x) ?_ ?_
  · intro i x H H' hi ⟨m, acc, S', hm, nx, sD, hl, hr⟩ hy
    refine hs i m x H H' _ _ hi S' hm nx hy (fun y H4 m' ry S4 hm' nx4 => ?_) (fun H4 m' S4 hm' nx4 => ?_)
    · have sD4 := nx4 _ _ sD
      refine ⟨acc, sD4.at_, small1e5 (by omega), m', acc ++ [y], S4.put sD4, by rw [Nat.mul_succ]; omega, ?_, sD4.put_same, by rw [List.length_append]; simp; omega, ?_⟩
      · intro q o hq
        have hq4 := nx4 _ _ (nx q o hq)
        have : q ≠ D := ne_of_none hq.at_ hD
        exact hq4.put_ne sD4 this
      · have kp : ∀ q o, Sep H4 p q o → q ≠ D → Sep (upd H4 D (.lst (acc ++ [y]))) p q o := fun q o h n => h.put_ne sD4 n
        intro z hz'
        rcases List.mem_append.mp hz' with h | h
        · exact hR _ _ z acc sD4 kp (hR _ _ z acc sD (fun q o h _ => nx4 q o h) (hr z h))
        · rw [List.mem_singleton.mp h]
          exact hR _ _ y acc sD4 kp ry
    · have sD4 := nx4 _ _ sD
      exact ⟨m', acc, S4, by rw [Nat.mul_succ]; omega, nx.trans nx4, sD4, by omega, fun y hy => hR _ _ y acc sD (fun q o h _ => nx4 q o h) (hr y hy)⟩
  · intro H ⟨m, acc, S', hm, nx, sD, hl, hr⟩
    exact hd H m acc S' hm nx sD hl hr
end OS

set_option Elab.async false
set_option linter.all false
set_option maxRecDepth 100000
set_option maxHeartbeats 4000000
/-! the state of the takes: a list of a list of ints, a place, a count -/
namespace OS
open PySem PySem.Spec PyProof.Rows L2
structure StT (H : Hp) (p c : Addr) (zs : List Int) (k n : Nat) : Prop where
  hp : H p = some (.lst [.ref c, .int (k : Int), .int (n : Int)])
  hc : H c = some (.lst (zs.map V.int))
  kn : k ≤ n
  lz : zs.length ≤ 100
def StU (H : Hp) (p : Addr) (n : Nat) : Prop := ∃ c zs k, StT H p c zs k n
theorem StT.pc {H : Hp} {p c : Addr} {zs : List Int} {k n : Nat} (S : StT H p c zs k n) : p ≠ c := by
  refine ne_of S.hp S.hc fun z => ?_
  injection z with z
  cases zs <;> simp at z
theorem own_iffT {H : Hp} {p c : Addr} {k n : Int} (h : H p = some (.lst [.ref c, .int k, .int n])) (q : Addr) : Own H p q ↔ q = p ∨ q = c := by
  unfold Own
  rw [h]
  constructor
  · rintro (h | ⟨xs, e, m⟩)
    · exact .inl h
    · cases e
      simp at m
      exact .inr m
  · rintro (h | h)
    · exact .inl h
    · refine .inr ⟨_, rfl, ?_⟩
      simpa using h
theorem StT.mk' {H : Hp} {p c : Addr} {zs : List Int} {k n : Nat} (S : StT H p c zs k n) : StU H p n := ⟨c, zs, k, S⟩
theorem StT.same {H H' : Hp} {p c : Addr} {zs : List Int} {k n : Nat} (S : StT H p c zs k n) (s : Same H H') : StT H' p c zs k n := ⟨s _ _ S.hp, s _ _ S.hc, S.kn, S.lz⟩
theorem StU.same {H H' : Hp} {p : Addr} {n : Nat} (S : StU H p n) (s : Same H H') : StU H' p n := by
  obtain ⟨c, zs, k, S⟩ := S
  exact ⟨c, zs, k, S.same s⟩
theorem StU.nx {H H' : Hp} {p : Addr} {n : Nat} (S : StU H p n) (s : Same H H') : Nx p H H' := by
  obtain ⟨c, zs, k, S⟩ := S
  intro q o h
  refine ⟨s _ _ h.at_, fun z => h.no ?_⟩
  rw [own_iffT S.hp]
  exact (own_iffT (s _ _ S.hp) q).mp z
theorem StT.nx {H H' : Hp} {p c : Addr} {zs : List Int} {k n : Nat} (S : StT H p c zs k n) (s : Same H H') : Nx p H H' := S.mk'.nx s
theorem StU.free {H : Hp} {p q : Addr} {n : Nat} (S : StU H p n) (h : H q = none) : ¬ Own H p q := by
  obtain ⟨c, zs, k, S⟩ := S
  rw [own_iffT S.hp]
  rintro (z | z)
  · exact ne_of_none S.hp h z.symm
  · exact ne_of_none S.hc h z.symm
/-- a new object -/
theorem StU.new {H : Hp} {p q : Addr} {n : Nat} {o : HO} (S : StU H p n) (h : H q = none) : Sep (upd H q o) p q o := by
  refine ⟨upd_same, fun z => S.free h ?_⟩
  obtain ⟨c, zs, k, S⟩ := S
  rw [own_iffT S.hp]
  exact (own_iffT (same_new h _ _ S.hp) q).mp z
/-- an object of one's own is written -/
theorem StU.put {H : Hp} {p q : Addr} {n : Nat} {o u : HO} (S : StU H p n) (h : Sep H p q o) : StU (upd H q u) p n := by
  obtain ⟨c, zs, k, S⟩ := S
  have no := h.no
  rw [own_iffT S.hp] at no
  refine ⟨c, zs, k, ?_, ?_, S.kn, S.lz⟩
  · rw [upd_ne (fun z => no (.inl z.symm))]; exact S.hp
  · rw [upd_ne (fun z => no (.inr z.symm))]; exact S.hc
theorem Sep.of_newU {H H' : Hp} {p q : Addr} {n : Nat} {o : HO} (S : StU H p n) (s : Same H H') (hq : H q = none) (h : H' q = some o) : Sep H' p q o := by
  obtain ⟨c, zs, k, S⟩ := S
  refine ⟨h, fun z => ?_⟩
  rw [own_iffT (s _ _ S.hp)] at z
  rcases z with z | z
  · exact ne_of_none S.hp hq z.symm
  · exact ne_of_none S.hc hq z.symm
theorem StU.sep {H : Hp} {p q : Addr} {n : Nat} {o : HO} (S : StU H p n) (h : H q = some o) (nl : ∀ xs, o ≠ .lst xs) : Sep H p q o := by
  obtain ⟨c, zs, k, S⟩ := S
  refine ⟨h, fun z => ?_⟩
  rw [own_iffT S.hp] at z
  rcases z with z | z
  · subst z
    exact nl _ (Option.some.inj (h.symm.trans S.hp))
  · subst z
    exact nl _ (Option.some.inj (h.symm.trans S.hc))
/-- all but p and c stays -/
theorem StT.nx_put {H H' : Hp} {p c : Addr} {zs : List Int} {k n : Nat} (S : StT H p c zs k n) {i j : Int} (s : ∀ q o, H q = some o → q ≠ p → q ≠ c → H' q = some o) (hp : H' p = some (.lst [.ref c, .int i, .int j])) : Nx p H H' := by
  intro q o h
  have no := h.no
  rw [own_iffT S.hp] at no
  refine ⟨s _ _ h.at_ (fun z => no (.inl z)) (fun z => no (.inr z)), ?_⟩
  rw [own_iffT hp]
  exact no
theorem StT.put_p {H : Hp} {p c : Addr} {zs : List Int} {k n k' n' : Nat} (S : StT H p c zs k n) (h : k' ≤ n') : StT (upd H p (.lst [.ref c, .int (k' : Int), .int (n' : Int)])) p c zs k' n' ∧ Nx p H (upd H p (.lst [.ref c, .int (k' : Int), .int (n' : Int)])) :=
  ⟨⟨upd_same, by rw [upd_ne S.pc.symm]; exact S.hc, h, S.lz⟩, S.nx_put (fun q o e z _ => by rw [upd_ne z]; exact e) upd_same⟩
theorem StT.put_c {H : Hp} {p c : Addr} {zs zs' : List Int} {k n : Nat} (S : StT H p c zs k n) (h : zs'.length ≤ 100) : StT (upd H c (.lst (zs'.map V.int))) p c zs' k n ∧ Nx p H (upd H c (.lst (zs'.map V.int))) :=
  ⟨⟨by rw [upd_ne S.pc]; exact S.hp, upd_same, S.kn, h⟩, S.nx_put (fun q o e _ z => by rw [upd_ne z]; exact e) (by rw [upd_ne S.pc]; exact S.hp)⟩
theorem lc_dru {J : It} {n : Nat} {G : Hp → Prop} {Y : Nat → Hp → V → Hp → Prop} (w : Walk J n G Y) (hz : n ≤ 100000) (p : Addr) (m0 c : Nat) (R : Hp → V → Prop) {g : TG} {te : TE} {vs : List Nat} {σ : L2.St} {H1 : Hp} {D : Addr} {Qd : Hp → Prop}
    (S : StU H1 p m0) (hD : H1 D = none) (hR : ∀ H H' y acc, Sep H p D (.lst acc) → (∀ q o, Sep H p q o → q ≠ D → Sep H' p q o) → R H y → R H' y) (hG : ∀ H, Nx p H1 H → G H)
    (hs : ∀ i m x H H' (Qk : V → Hp → Prop), i < n → StU H p m → m ≤ m0 + c * i → Nx p H1 H → (∃ acc, Sep H p D (.lst acc)) → Y i H x H' → (∀ y H4 m', R H4 y → StU H4 p m' → m' ≤ m + c → Nx p H H4 → Qk y H4) → g x (wipe σ vs) H' fun σ2 H2 => wipe σ2 vs = wipe σ vs ∧ te σ2 H2 Qk)
    (hd : ∀ H m acc, StU H p m → m ≤ m0 + c * n → Nx p H1 H → Sep H p D (.lst acc) → acc.length = n → (∀ y ∈ acc, R H y) → Qd H) :
    ∃ W : Nat → Nat → Hp → Prop, (∃ m, W 0 m (upd H1 D (.lst []))) ∧ ∀ i m H, W i m H →
      (J.stop i H ∧ Qd H) ∨ (J.go i H ∧ ∃ Nx : Hp → Prop, (∀ H', Nx H' → ∃ m', m' < m ∧ W (i + 1) m' H') ∧ ∀ x H', J.yld i H x H' → g x (wipe σ vs) H' fun σ2 H2 => wipe σ2 vs = wipe σ vs ∧ tYes σ2 H2 fun b H3 =>
        if b = true then te σ2 H3 fun y H4 => ∃ acc, H4 D = some (.lst acc) ∧ acc.length < sizeLine ∧ Nx (upd H4 D (.lst (acc ++ [y]))) else Nx H3) := by
  refine lc_it w (fun i H => ∃ m acc, StU H p m ∧ m ≤ m0 + c * i ∧ Nx p H1 H ∧ Sep H p D (.lst acc) ∧ acc.length = i ∧ ∀ y ∈ acc, R H y) ⟨m0, [], S.same (same_new hD), Nat.le_add_right _ _, S.nx (same_new hD), S.new hD, rfl, fun y h => nomatch h⟩ (fun i H _ ⟨_, _, _, _, x, _⟩ => hG H x) ?_ ?_
  · intro i x H H' hi ⟨m, acc, S', hm, nx, sD, hl, hr⟩ hy
    refine hs i m x H H' _ hi S' hm nx ⟨_, sD⟩ hy fun y H4 m' ry S4 hm' nx4 => ?_
    have sD4 := nx4 _ _ sD
    refine ⟨acc, sD4.at_, by rw [hl]; exact small1e5 (by omega), m', acc ++ [y], S4.put sD4, by rw [Nat.mul_succ]; omega, ?_, sD4.put_same, by simp [hl], ?_⟩
    · intro q o hq
      have hq4 := nx4 _ _ (nx q o hq)
      have : q ≠ D := ne_of_none hq.at_ hD
      exact hq4.put_ne sD4 this
    · have kp : ∀ q o, Sep H4 p q o → q ≠ D → Sep (upd H4 D (.lst (acc ++ [y]))) p q o := fun q o h n => h.put_ne sD4 n
      intro z hz'
      rcases List.mem_append.mp hz' with h | h
      · exact hR _ _ z acc sD4 kp (hR _ _ z acc sD (fun q o h _ => nx4 q o h) (hr z h))
      · rw [List.mem_singleton.mp h]
        exact hR _ _ y acc sD4 kp ry
  · intro H ⟨m, acc, S', hm, nx, sD, hl, hr⟩
    exact hd H m acc S' hm nx sD hl hr
/-- over n turns: tests and items may draw -/
theorem lc_drtu {J : It} {n : Nat} {G : Hp → Prop} {Y : Nat → Hp → V → Hp → Prop} (w : Walk J n G Y) (hz : n ≤ 100000) (p : Addr) (m0 c : Nat) (R : Hp → V → Prop) {g : TG} {tt : TT} {te : TE} {vs : List Nat} {σ : L2.St} {H1 : Hp} {D : Addr} {Qd : Hp → Prop}
    (S : StU H1 p m0) (hD : H1 D = none) (hR : ∀ H H' y acc, Sep H p D (.lst acc) → (∀ q o, Sep H p q o → q ≠ D → Sep H' p q o) → R H y → R H' y) (hG : ∀ H, Nx p H1 H → G H)
    (hs : ∀ i m x H H' (Qk : V → Hp → Prop) (Qn : Hp → Prop), i < n → StU H p m → m ≤ m0 + c * i → Nx p H1 H → Y i H x H' → (∀ y H4 m', R H4 y → StU H4 p m' → m' ≤ m + c → Nx p H H4 → Qk y H4) → (∀ H4 m', StU H4 p m' → m' ≤ m + c → Nx p H H4 → Qn H4) →
      g x (wipe σ vs) H' fun σ2 H2 => wipe σ2 vs = wipe σ vs ∧ tt σ2 H2 fun b H3 => if b = true then te σ2 H3 Qk else Qn H3)
    (hd : ∀ H m acc, StU H p m → m ≤ m0 + c * n → Nx p H1 H → Sep H p D (.lst acc) → acc.length ≤ n → (∀ y ∈ acc, R H y) → Qd H) :
    ∃ W : Nat → Nat → Hp → Prop, (∃ m, W 0 m (upd H1 D (.lst []))) ∧ ∀ i m H, W i m H →
      (J.stop i H ∧ Qd H) ∨ (J.go i H ∧ ∃ Nx : Hp → Prop, (∀ H', Nx H' → ∃ m', m' < m ∧ W (i + 1) m' H') ∧ ∀ x H', J.yld i H x H' → g x (wipe σ vs) H' fun σ2 H2 => wipe σ2 vs = wipe σ vs ∧ tt σ2 H2 fun b H3 =>
        if b = true then te σ2 H3 fun y H4 => ∃ acc, H4 D = some (.lst acc) ∧ acc.length < sizeLine ∧ Nx (upd H4 D (.lst (acc ++ [y]))) else Nx H3) := by
  refine lc_it w (fun i H => ∃ m acc, StU H p m ∧ m ≤ m0 + c * i ∧ Nx p H1 H ∧ Sep H p D (.lst acc) ∧ acc.length ≤ i ∧ ∀ y ∈ acc, R H y) ⟨m0, [], S.same (same_new hD), Nat.le_add_right _ _, S.nx (same_new hD), S.new hD, Nat.le_refl _, fun y h => nomatch h⟩ (fun i H _ ⟨_, _, _, _, x, _⟩ => hG H x) ?_ ?_
  · intro i x H H' hi ⟨m, acc, S', hm, nx, sD, hl, hr⟩ hy
    refine hs i m x H H' _ _ hi S' hm nx hy (fun y H4 m' ry S4 hm' nx4 => ?_) (fun H4 m' S4 hm' nx4 => ?_)
    · have sD4 := nx4 _ _ sD
      refine ⟨acc, sD4.at_, small1e5 (by omega), m', acc ++ [y], S4.put sD4, by rw [Nat.mul_succ]; omega, ?_, sD4.put_same, by rw [List.length_append]; simp; omega, ?_⟩
      · intro q o hq
        have hq4 := nx4 _ _ (nx q o hq)
        have : q ≠ D := ne_of_none hq.at_ hD
        exact hq4.put_ne sD4 this
      · have kp : ∀ q o, Sep H4 p q o → q ≠ D → Sep (upd H4 D (.lst (acc ++ [y]))) p q o := fun q o h n => h.put_ne sD4 n
        intro z hz'
        rcases List.mem_append.mp hz' with h | h
        · exact hR _ _ z acc sD4 kp (hR _ _ z acc sD (fun q o h _ => nx4 q o h) (hr z h))
        · rw [List.mem_singleton.mp h]
          exact hR _ _ y acc sD4 kp ry
    · have sD4 := nx4 _ _ sD
      exact ⟨m', acc, S4, by rw [Nat.mul_succ]; omega, nx.trans nx4, sD4, by omega, fun y hy => hR _ _ y acc sD (fun q o h _ => nx4 q o h) (hr y hy)⟩
  · intro H ⟨m, acc, S', hm, nx, sD, hl, hr⟩
    exact hd H m acc S' hm nx sD hl hr
theorem TupN.ofU {K : PySem.W.Frag} {H : Hp} {p a : Addr} {n : Nat} {xs : List V} (S : StU H p n) (h : SqT K H a xs) : TupN K p H a xs := by
  rcases h with (h | ⟨o, h⟩) | h
  · exact .inl (.inl (S.sep h fun _ z => nomatch z))
  · exact .inl (.inr ⟨o, S.sep h fun _ z => nomatch z⟩)
  · exact .inr fun H' => .inr h
theorem tupT_nxU {K : PySem.W.Frag} {H H' : Hp} {p a : Addr} {n : Nat} {xs : List V} (S : StU H p n) (x : Nx p H H') (h : SqT K H a xs) : SqT K H' a xs := by
  rcases h with (h | ⟨o, h⟩) | h
  · exact .inl (.inl (x _ _ (S.sep h fun _ z => nomatch z)).at_)
  · exact .inl (.inr ⟨o, (x _ _ (S.sep h fun _ z => nomatch z)).at_⟩)
  · exact .inr h
theorem GrpV.nxU {K : PySem.W.Frag} {H H' : Hp} {p : Addr} {n : Nat} {v : V} {g : List Str} (S : StU H p n) (x : Nx p H H') (h : GrpV K H v g) : GrpV K H' v g := h.imp fun _ q => ⟨q.1, tupT_nxU S x q.2⟩
theorem GrpsV.nxU {K : PySem.W.Frag} {H H' : Hp} {p : Addr} {n : Nat} {xs : List V} {gs : List (List Str)} (S : StU H p n) (x : Nx p H H') (h : GrpsV K H xs gs) : GrpsV K H' xs gs := Paired.mapP h fun _ _ q => GrpV.nxU S x q
def spTake : Sp := fun vs H Q _ => ∃ (p : Addr) (n : Nat) (size : Int), vs = [.ref p, .int size] ∧ StU H p n ∧ DrawOk n size ∧
  ∀ (r : Int) (H' : Hp), 0 ≤ r → r < size → StU H' p (n + 1) → Nx p H H' → Q (.int r) H'
def spStartU (K : PySem.W.Frag) : Sp := fun vs H Q _ => ∃ (a : Addr) (ns : List Int), vs = [.ref a] ∧ SqL K H a (ns.map V.int) ∧ ns.length ≤ 63 ∧ ∀ (p : Addr) (H' : Hp), Same H H' → H p = none → StU H' p 0 → Q (.ref p) H'
end OS

set_option Elab.async false
set_option linter.all false
set_option maxRecDepth 100000
set_option maxHeartbeats 4000000
/-! == of two instances by their own __eq__, both answers -/
namespace OS
open PySem PySem.Spec PyProof.Rows L2
def rEqO (C : Addr) (sp : Sp) : R2 := fun x y H Q => ∃ a b dx dy fs gs, x = .ref a ∧ y = .ref b ∧ H a = some (.ins C dx fs) ∧ H b = some (.ins C dy gs) ∧ sp [x, y] H (fun v H' => ∃ k, v = .bl k ∧ Q (.bl k) H') E0
section
variable {X : Cx} {k : Nat} {f C : Addr} {fd : FuncData} {ps : List Str} {sp : Sp}
/-- .. as a rich comparison; y of any type that is not asked first -/
theorem rc_own {A : Around} {pins : List (Addr × Obj)} {σ : L2.St} {H : Hp} {s : Shared} {a : Addr} {y : V} {u tb : Value} {P : Bool → Hp → Prop} (F : FnOk X.prog X.w X.K X.mg X.base CX0 k f fd ps sp) (sb : Sub X k A) (hs : PySem.W.findIn X.K (.ref C) "__eq__" = some (some (.ref f)))
    (hf : PySem.W.isFn X.K (.ref f) = true) (hb : Binds X.K fd ps []) (I : Inv X pins σ H s) {dx : Addr} {fs : List (Str × V)} (ha : H a = some (.ins C dx fs)) (ry : RelV y u) (ht : PySem.W.Looks (model X.prog X.w) s.heap (typeOf u) tb) (hn : PySem.W.notFirst X.K C tb = true)
    (h : sp [.ref a, y] H (fun v H' => ∃ k, v = .bl k ∧ P k H') E0) {E : Value → Shared → Prop} : wpAny (model X.prog X.w) A (richCompare .Eq (.ref a) u) (fun r s' => ∃ k H', r = .bool k ∧ Inv X pins σ H' s' ∧ P k H') E s := by
  obtain ⟨mA, J, _⟩ := ins_get I.hok ha
  obtain ⟨od, J, _⟩ := J.look
  obtain ⟨m, hF⟩ := I.fr
  refine PySem.W.cmp_K (op := .Eq) (tb := tb) sb.room.units0 hF I.ok.mod.kin J ht hn hs hf ?_
  have e0 : Env0 X.prog X.w X.K X.mg X.base A X.stack s H := by
    have e := I.env0
    exact ⟨by rw [sb.fr]; exact e.frames, e.mod, e.bs, e.bsz, e.funs, e.frf, e.hok, e.bare⟩
  have hl := F.len _ _ _ _ h
  have r2 : Vals [V.ref a, y] [Value.ref a, u] := .cons rfl (.cons ry .nil)
  refine wpAny_call (codeAny_mono (F.run A X.stack s H ⟨[.ref a, u], []⟩ [.ref a, u] [.ref a, y] _ E0 sb.room e0 (by
    have := hb s [.ref a, u] I.kIn (by simpa using hl)
    simpa using this) r2 h) fun r s' hq => ?_)
  cases r with
  | error e => exact (show False from hq).elim
  | ok fl =>
    cases fl with
    | ret w =>
      obtain ⟨z, H', I', rz, k, ez, q⟩ := I.after hq
      subst ez
      cases rz
      exact ⟨k, H', rfl, I', q⟩
    | next => exact False.elim hq
    | brk => exact False.elim hq
    | cont => exact False.elim hq
theorem op_eqO (F : FnOk X.prog X.w X.K X.mg X.base CX0 k f fd ps sp) (hr : Room k X.A) (hs : PySem.W.findIn X.K (.ref C) "__eq__" = some (some (.ref f))) (hf : PySem.W.isFn X.K (.ref f) = true) (hb : Binds X.K fd ps []) (hn : PySem.W.notFirst X.K C (.ref C) = true) :
    OpR X (compareOp .Eq) (rEqO C sp) := by
  intro pins s σ H x y v u Q I rx ry h
  obtain ⟨a, b, dx, dy, fs, gs, rfl, rfl, ha, hb', h⟩ := h
  have ry' : RelV (V.ref b) (Value.ref b) := rfl
  cases rx
  cases ry
  obtain ⟨mB, J', _⟩ := ins_get I.hok hb'
  obtain ⟨od', J', _⟩ := J'.look
  show wpAny (model X.prog X.w) X.A (richCompare .Eq (.ref a) (.ref b)) (EP X pins σ Q) X.xe s
  refine wpAny_mono (rc_own (P := fun k H' => Q (.bl k) H') F ⟨hr, rfl⟩ hs hf hb I ha ry' J'.type hn ?_) (fun r s' z => ?_) fun _ _ x => x
  · exact h
  · obtain ⟨k, H', rfl, I', q⟩ := z
    exact ⟨.bl k, H', I', rfl, q⟩
end
end OS

set_option Elab.async false
set_option linter.all false
set_option maxRecDepth 100000
set_option maxHeartbeats 4000000
/-! an instance with an own __eq__ in a list of values of builtin types: each declines, the own one is asked -/
namespace OSO
open PySem PySem.SeqAt
open AutoSeq1 (wpAny_loadPart')
open MeetsSeq MeetsSeq2 MeetsSeq3 SeqRoads2
section
variable {prog : Program} {w : World} {A : Around} {E : Value → Shared → Prop} {s : Shared} {R : Result → Shared → Prop} {K : PySem.W.Frag} {x C dx : Addr} {od : Option Obj}
theorem isInst_no {M : Model} {T : String} {Q : Bool → Shared → Prop} (I : PySem.W.InstAt s.heap x (PySem.W.instObj C dx) C od) (X : K.In s.heap) (e : PySem.W.subIn K (.ref C) (.type T) = some false) (h : Q false s) :
    wpAny M A (isInstance (.ref x) (.type T)) Q E s := by
  unfold isInstance
  exact wpAny_bind (I.type.here ((PySem.W.looks_subIn X e).here h))
theorem int_dec (a : Int) (t : Tok) : Meets (Builtin.«int.__eq__» ⟨[.int a t, .ref x], []⟩) (fun _ R s => s.heap.get? x = some (PySem.W.instObj C dx) ∧ R (.ok (.ret .notImplemented)) s) :=
  .of_wp fun prog w A R s h => by
    obtain ⟨hp, g, d, tk, os⟩ := s
    obtain ⟨hl, h⟩ := h
    wp_walk using wpAny_loadPart' hl, wpAny_load hl
    exact ⟨_, rfl, h⟩
theorem str_dec (a : Str) (t : Tok) : Meets (Builtin.«str.__eq__» ⟨[.str a t, .ref x], []⟩) (fun _ R s => s.heap.get? x = some (PySem.W.instObj C dx) ∧ R (.ok (.ret .notImplemented)) s) :=
  .of_wp fun prog w A R s h => by
    obtain ⟨hp, g, d, tk, os⟩ := s
    obtain ⟨hl, h⟩ := h
    wp_walk using wpAny_loadPart' hl, wpAny_load hl
    exact ⟨_, rfl, h⟩
theorem tup_dec (l : Addr) (e : PySem.W.subIn K (.ref C) (.type "tuple") = some false) : Meets (Builtin.«tuple.__eq__» ⟨[.ref l, .ref x], []⟩) (fun _ R s => (K.In s.heap ∧ PySem.W.InstAt s.heap x (PySem.W.instObj C dx) C od) ∧ R (.ok (.ret .notImplemented)) s) :=
  .of_wp fun prog w A R s h => by
    obtain ⟨hp, g, d, tk, os⟩ := s
    obtain ⟨⟨X, I⟩, h⟩ := h
    wp_walk using isInst_no I X e
    exact ⟨_, rfl, h⟩
theorem list_dec (l : Addr) (e : PySem.W.subIn K (.ref C) (.type "list") = some false) : Meets (Builtin.«list.__eq__» ⟨[.ref l, .ref x], []⟩) (fun _ R s => (K.In s.heap ∧ PySem.W.InstAt s.heap x (PySem.W.instObj C dx) C od) ∧ R (.ok (.ret .notImplemented)) s) :=
  .of_wp fun prog w A R s h => by
    obtain ⟨hp, g, d, tk, os⟩ := s
    obtain ⟨⟨X, I⟩, h⟩ := h
    wp_walk using isInst_no I X e
    exact ⟨_, rfl, h⟩
theorem dict_dec (l : Addr) (e : PySem.W.subIn K (.ref C) (.type "dict") = some false) {Q : Fin → Shared → Prop} {E' : Value → Shared → Prop} (hd : s.TypeIs (.ref l) "dict") (X : K.In s.heap) (I : PySem.W.InstAt s.heap x (PySem.W.instObj C dx) C od) (h : Q (.done (.ret .notImplemented)) s) : wpAny (model prog w) A (Builtin.«dict.__eq__» ⟨[.ref l, .ref x], []⟩) Q E' s := by
  show wpAny _ _ (Builtin.Dict.dictSlotArgs "__eq__" ⟨[.ref l, .ref x], []⟩ >>= _) _ _ s
  refine wpAny_bind ?_
  unfold Builtin.Dict.dictSlotArgs
  refine wpAny_bind (wpAny_notOrdered_dict hd ?_)
  show wpAny _ _ (pure (Value.ref l, Value.ref x)) _ _ s
  refine wpAny_pure ?_
  refine wpAny_bind (isInst_no I X e ?_)
  simp only [Bool.not_false, if_true]
  exact wpAny_bind (wpAny_rule (wpAny_bind (wpAny_pure (wpAny_pure h))))
/-- `in` over a list: none of its items is equal -/
def TurnG (prog : Program) (w : World) (A : Around) (E : Value → Shared → Prop) (l : Addr) (x : Value) (N : Nat) (I : Shared → Prop) : Prop :=
  ∀ (i : Nat) s, I s → ∃ (items : Array Value) (n : Nat), s.heap.get? l = some { cls := .type "list", data := .seq items n } ∧ items.size = N ∧ ∀ h : i < items.size, wpAny (model prog w) A.in1 (eqBool items[i] x) (fun r s' => r = false ∧ I s') E s
theorem contains_loopG (l : Addr) (x : Value) (N : Nat) (I : Shared → Prop) (hI : TurnG prog w A (fun e s' => R (.error e) s') l x N I) (fin : ∀ s, I s → R (.ok (.ret (.bool false))) s) (k : Nat) :
    ∀ i : Nat, N - i = k → ∀ s, I s → wpAny (model prog w) A.in1 (Builtin.«list.__contains__.loop» ⟨[.ref l, x, rawInt i], []⟩) (GQ.FinOf prog w A R) (fun e s' => R (.error e) s') s := by
  induction k with
  | zero =>
    intro i hk s h
    obtain ⟨items, n, hl, hz, _⟩ := hI i _ h
    have hR := fin s h
    obtain ⟨hp, g, d, tk, os⟩ := s
    wp_walk using wpAny_loadPart' hl
    have hi : items[((i : Nat) : Int).toNat]? = none := by simp; omega
    rw [hi]
    wp_walk
    exact hR
  | succ k ih =>
    intro i hk s h
    obtain ⟨items, n, hl, hz, turn⟩ := hI i _ h
    have hlt : i < items.size := by omega
    have ht := turn hlt
    obtain ⟨hp, g, d, tk, os⟩ := s
    wp_walk using wpAny_loadPart' hl
    have hi : items[((i : Nat) : Int).toNat]? = some items[i] := by simp [hlt]
    have hc : ((i : Int) + 1) = ((i + 1 : Nat) : Int) := by omega
    rw [hi]
    refine wpAny_bind (wpAny_mono ht (fun r s2 h2 => ?_) fun _ _ x => x)
    obtain ⟨hr, h2⟩ := h2
    subst hr
    have hrec := ih (i + 1) (by omega) s2 h2
    obtain ⟨hp2, g2, d2, tk2, os2⟩ := s2
    wp_walk
    rw [hc]
    exact ⟨plainId_quiet plain_contains_loop _, codeAny_builtin entry_contains_loop (by
      rw [Around.under_plainId plain_contains_loop _]
      exact hrec)⟩
theorem notIn_own {l : Addr} {x : Value} {N : Nat} {Q : Value → Shared → Prop} (I : Shared → Prop) (hI : TurnG prog w A E l x N I) (fin : ∀ s, I s → Q (.bool true) s) (h : I s) :
    wpAny (model prog w) A (compareOp .NotIn x (.ref l)) Q E s := by
  obtain ⟨items, n, hl, hz, _⟩ := hI 0 _ h
  refine PyProof.Rows.NotIn_slot ⟨_, hl, rfl⟩ F.slot_list_contains (GQ.call_here F.slot_list_contains ⟨_, hl, rfl⟩ F.entry_list_contains (F.args_list_contains_2 _ _) ?_)
  have hrec := contains_loopG (prog := prog) (w := w) (A := A) (R := wants (fun r s' => wpAny (model prog w) A (truthy r) (fun b s'' => Q (.bool (!b)) s'') E s') E) l x N I hI (fun s' q => wpAny_truthy_bool (fin s' q)) _ 0 rfl s h
  obtain ⟨hp, g, d, tk, os⟩ := s
  wp_walk using wpAny_loadPart' hl
  exact ⟨plainId_quiet plain_contains_loop _, codeAny_builtin entry_contains_loop (by
    rw [Around.under_plainId plain_contains_loop _]
    exact hrec)⟩
theorem rc_right {T id : String} {u : Value} {f : Addr} {ox : Obj} {Q : Value → Shared → Prop} (hu : A.units < cLine) (hT : s.TypeIs u T) (slot : Slot T (cmpInfo .Eq).2.1 id) (X : K.In s.heap) (I : PySem.W.InstAt s.heap x ox C od) (hsub : PySem.W.subIn K (.ref C) (.type T) = some false)
    (hs : PySem.W.findIn K (.ref C) "__eq__" = some (some (.ref f))) (hf : PySem.W.isFn K (.ref f) = true) (dec : ∀ Q' : Value → Shared → Prop, Q' .notImplemented s → wpAny (model prog w) A (call (.builtin id) [u, .ref x]) Q' E s)
    (h : wpAny (model prog w) A (call (.ref f) [.ref x, u]) (PySem.W.CmpBack Q) E s) : wpAny (model prog w) A (richCompare .Eq u (.ref x)) Q E s := by
  have one : wpAny (model prog w) A (tryCompare (.ref x) "__eq__" u) (fun r s' => ∃ v, r = some v ∧ Q v s') E s := by
    unfold tryCompare
    refine wpAny_bind (PySem.W.ifBound_K X I hs hf (wpAny_mono h (fun v s' hv => ?_) fun _ _ e => e))
    cases v <;> first | exact hv.elim | exact wpAny_pure ⟨_, rfl, hv⟩
  have two : wpAny (model prog w) A (tryCompare u "__eq__" (.ref x)) (fun r s' => r = none ∧ s' = s) E s := wpAny_tryCompare_declines hT slot (dec _ ⟨rfl, rfl, rfl⟩)
  simp only [richCompare, cmpInfo_Eq, hT.oneThing_none]
  refine wpAny_holding (wpAny_bind (wpAny_cRoomFor hu ?_))
  refine wpAny_bind (wpAny_typeOf hT ?_)
  refine wpAny_bind (I.type.here ?_)
  split
  · refine wpAny_bind ((PySem.W.looks_subIn X hsub).here ?_)
    simp only [Bool.false_eq_true, if_false, Bool.not_false, if_true]
    refine wpAny_bind (m := tryCompare u _ (.ref x)) (wpAny_mono two (fun r s1 z => ?_) fun _ _ e => e)
    obtain ⟨z1, z2⟩ := z
    subst z1
    subst z2
    refine wpAny_bind (m := tryCompare (.ref x) _ u) (wpAny_mono one (fun r s2 z => ?_) fun _ _ e => e)
    obtain ⟨v, rfl, hq⟩ := z
    exact wpAny_pure hq
  · rename_i q
    exact absurd (by simp) q
end
end OSO
namespace OS
open PySem PySem.Spec PyProof.Rows L2
/-- values whose own == declines -/
inductive DecV (K : PySem.W.Frag) (H : Hp) : V → Prop
  | non : DecV K H .non
  | int (i : Int) : DecV K H (.int i)
  | str (z : Str) : DecV K H (.str z)
  | tup {a : Addr} {xs : List V} : SqT K H a xs → DecV K H (.ref a)
  | lst {a : Addr} {xs : List V} : SqL K H a xs → DecV K H (.ref a)
  | dct {a : Addr} {kvs : List (Key × V)} : H a = some (.dK kvs) → DecV K H (.ref a)
theorem DecV.same {K : PySem.W.Frag} {H H' : Hp} {v : V} (h : DecV K H v) (s : Same H H') : DecV K H' v := by
  cases h with
  | non => exact .non
  | int i => exact .int i
  | str z => exact .str z
  | tup h => exact .tup (s.tupT h)
  | lst h => exact .lst (s.seq h)
  | dct h => exact .dct (s _ _ h)
structure DecK (K : PySem.W.Frag) (C : Addr) : Prop where
  n : PySem.W.subIn K (.ref C) (.type "NoneType") = some false
  i : PySem.W.subIn K (.ref C) (.type "int") = some false
  s : PySem.W.subIn K (.ref C) (.type "str") = some false
  t : PySem.W.subIn K (.ref C) (.type "tuple") = some false
  l : PySem.W.subIn K (.ref C) (.type "list") = some false
  d : PySem.W.subIn K (.ref C) (.type "dict") = some false
section
variable {X : Cx} {k : Nat} {f C : Addr} {fd : FuncData} {ps : List Str} {sp : Sp}
/-- an item == the instance, inside a builtin: False by the own __eq__ -/
theorem eq_right {A : Around} {pins : List (Addr × Obj)} {σ : L2.St} {H : Hp} {s : Shared} {a : Addr} {y : V} {u : Value} (F : FnOk X.prog X.w X.K X.mg X.base CX0 k f fd ps sp) (sb : Sub X k A) (hs : PySem.W.findIn X.K (.ref C) "__eq__" = some (some (.ref f)))
    (hf : PySem.W.isFn X.K (.ref f) = true) (hb : Binds X.K fd ps []) (dk : DecK X.K C) (I : Inv X pins σ H s) {dx : Addr} {fs : List (Str × V)} (ha : H a = some (.ins C dx fs)) (ry : RelV y u) (dy : DecV X.K H y)
    (h : sp [.ref a, y] H (fun v H' => v = .bl false ∧ Same H H') E0) {E : Value → Shared → Prop} : wpAny (model X.prog X.w) A (eqBool u (.ref a)) (fun r s' => r = false ∧ ∃ H', Inv X pins σ H' s' ∧ Same H H') E s := by
  obtain ⟨mA, J0, _⟩ := ins_get I.hok ha
  have hobj := J0.obj
  obtain ⟨od, J, _⟩ := J0.look
  obtain ⟨m, hF⟩ := I.fr
  have XK := I.kIn
  have e0 : Env0 X.prog X.w X.K X.mg X.base A X.stack s H := by
    have e := I.env0
    exact ⟨by rw [sb.fr]; exact e.frames, e.mod, e.bs, e.bsz, e.funs, e.frf, e.hok, e.bare⟩
  have hl := F.len _ _ _ _ h
  have r2 : Vals [V.ref a, y] [Value.ref a, u] := .cons rfl (.cons ry .nil)
  have body : wpAny (model X.prog X.w) A (call (.ref f) [.ref a, u]) (PySem.W.CmpBack fun r s' => r = .bool false ∧ ∃ H', Inv X pins σ H' s' ∧ Same H H') E s := by
    refine wpAny_call (codeAny_mono (F.run A X.stack s H ⟨[.ref a, u], []⟩ [.ref a, u] [.ref a, y] _ E0 sb.room e0 (by
      have := hb s [.ref a, u] I.kIn (by simpa using hl)
      simpa using this) r2 h) fun r s' hq => ?_)
    cases r with
    | error e => exact (show False from hq).elim
    | ok fl =>
      cases fl with
      | ret w =>
        obtain ⟨z, H', I', rz, ez, q⟩ := I.after hq
        subst ez
        cases rz
        exact ⟨rfl, H', I', q⟩
      | next => exact False.elim hq
      | brk => exact False.elim hq
      | cont => exact False.elim hq
  have rc : ∀ {T id : String} (hT : s.TypeIs u T) (slot : Slot T (cmpInfo .Eq).2.1 id) (hsub : PySem.W.subIn X.K (.ref C) (.type T) = some false) (dec : ∀ Q' : Value → Shared → Prop, Q' .notImplemented s → wpAny (model X.prog X.w) A (call (.builtin id) [u, .ref a]) Q' E s),
      wpAny (model X.prog X.w) A (richCompare .Eq u (.ref a)) (fun v s' => wpAny (model X.prog X.w) A (truthOfDropped v) (fun r s' => r = false ∧ ∃ H', Inv X pins σ H' s' ∧ Same H H') E s') E s := fun hT slot hsub dec => by
    refine wpAny_mono (OSO.rc_right sb.room.units0 hT slot XK J hsub hs hf dec body) (fun v s' hv => ?_) fun _ _ x => x
    obtain ⟨rfl, q⟩ := hv
    exact wpAny_truthy_bool ⟨rfl, q⟩
  cases dy with
  | non =>
    cases ry
    unfold eqBool
    refine wpAny_holding ?_
    refine wpAny_ite_split (fun hab => absurd (eq_of_beq hab) nofun) (fun _ => ?_)
    exact wpAny_bind (rc (T := "NoneType") rfl PySem.F.slot_NoneType_eq dk.n (fun _ hq => call_gives PySem.F.slot_NoneType_eq rfl PySem.F.entry_NoneType_eq (PySem.F.args_NoneType_eq_2 _ _) (SeqAt.NoneType___eq___none_ref_0 a) hq))
  | int i =>
    obtain ⟨t, rfl⟩ := ry
    unfold eqBool
    refine wpAny_holding ?_
    refine wpAny_ite_split (fun hab => absurd (eq_of_beq hab) nofun) (fun _ => ?_)
    exact wpAny_bind (rc (typeIs_int s i t) PySem.F.slot_int_eq dk.i (fun _ hq => call_meets PySem.F.slot_int_eq (typeIs_int s i t) PySem.F.entry_int_eq (PySem.F.args_int_eq_2 _ _) (OSO.int_dec i t) ⟨hobj, hq⟩))
  | str z =>
    obtain ⟨t, rfl⟩ := ry
    unfold eqBool
    refine wpAny_holding ?_
    refine wpAny_ite_split (fun hab => absurd (eq_of_beq hab) nofun) (fun _ => ?_)
    exact wpAny_bind (rc (typeIs_str s z t) PySem.F.slot_str_eq dk.s (fun _ hq => call_meets PySem.F.slot_str_eq (typeIs_str s z t) PySem.F.entry_str_eq (PySem.F.args_str_eq_2 _ _) (OSO.str_dec z t) ⟨hobj, hq⟩))
  | @tup b xs ht =>
    cases ry
    obtain ⟨its, r, pl, hz⟩ := I.tuple ht
    obtain ⟨⟨cls, dd, data, sl⟩, ho, hc, n, hd⟩ := id pl
    simp only at hc hd
    subst hc hd
    have ne : b ≠ a := fun z => by
      rw [z, hobj] at ho
      cases ho
    have hT : s.TypeIs (.ref b) "tuple" := ⟨_, ho, rfl⟩
    unfold eqBool
    refine wpAny_holding ?_
    refine wpAny_ite_split (fun hab => absurd (by have := eq_of_beq hab; injection this) ne) (fun _ => ?_)
    exact wpAny_bind (rc hT PySem.F.slot_tuple_eq dk.t (fun _ hq => call_meets PySem.F.slot_tuple_eq hT PySem.F.entry_tuple_eq (PySem.F.args_tuple_eq_2 _ _) (OSO.tup_dec b dk.t) ⟨⟨XK, J⟩, hq⟩))
  | @lst b xs ht =>
    cases ry
    obtain ⟨its, r, pl, hz⟩ := I.list ht
    obtain ⟨⟨cls, dd, data, sl⟩, ho, hc, n, hd⟩ := id pl.isList
    simp only at hc hd
    subst hc hd
    have ne : b ≠ a := fun z => by
      rw [z, hobj] at ho
      cases ho
    have hT : s.TypeIs (.ref b) "list" := ⟨_, ho, rfl⟩
    unfold eqBool
    refine wpAny_holding ?_
    refine wpAny_ite_split (fun hab => absurd (by have := eq_of_beq hab; injection this) ne) (fun _ => ?_)
    exact wpAny_bind (rc hT PySem.F.slot_list_eq dk.l (fun _ hq => call_meets PySem.F.slot_list_eq hT PySem.F.entry_list_eq (PySem.F.args_list_eq_2 _ _) (OSO.list_dec b dk.l) ⟨⟨XK, J⟩, hq⟩))
  | @dct b kvs hd =>
    cases ry
    have ne : b ≠ a := fun z => by
      rw [z, ha] at hd
      cases hd
    obtain ⟨_, _, vs, _, da⟩ := I.hok b _ hd
    have hT : s.TypeIs (.ref b) "dict" := da.typeIs
    unfold eqBool
    refine wpAny_holding ?_
    refine wpAny_ite_split (fun hab => absurd (by have := eq_of_beq hab; injection this) ne) (fun _ => ?_)
    exact wpAny_bind (rc hT PySem.F.slot_dict_eq dk.d (fun _ hq => wpAny_call_entry PySem.F.slot_dict_eq hT PySem.F.entry_dict_eq (OSO.dict_dec b dk.d hT XK J ⟨_, rfl, hq⟩) (PySem.F.args_dict_eq_2 _ _)))
def rNotInO (K : PySem.W.Frag) (C : Addr) (sp : Sp) : R2 := fun x y H Q => ∃ a p dx fs xs, x = .ref a ∧ y = .ref p ∧ H a = some (.ins C dx fs) ∧ H p = some (.lst xs) ∧ (∀ v ∈ xs, DecV K H v) ∧ (∀ v ∈ xs, ∀ H', Same H H' → sp [.ref a, v] H' (fun b H'' => b = .bl false ∧ Same H' H'') E0) ∧ ∀ H', Same H H' → Q (.bl true) H'
theorem op_notInO (F : FnOk X.prog X.w X.K X.mg X.base CX0 k f fd ps sp) (hr : Room (k + 1) X.A) (hs : PySem.W.findIn X.K (.ref C) "__eq__" = some (some (.ref f))) (hf : PySem.W.isFn X.K (.ref f) = true) (hb : Binds X.K fd ps []) (dk : DecK X.K C) :
    OpR X (compareOp .NotIn) (rNotInO X.K C sp) := by
  intro pins s σ H x y v u Q I rx ry h
  obtain ⟨a, p, dx, fs, xs, rfl, rfl, ha, hp, hd, hsp, q⟩ := h
  cases rx
  cases ry
  have sb : Sub X k X.A.in1 := (Sub.in1 (X := X) (n := k) ⟨hr, rfl⟩)
  refine OSO.notIn_own (N := xs.length) (fun s' => ∃ H', Inv X pins σ H' s' ∧ Same H H') (fun i s' z => ?_) (fun s' z => ?_) ⟨H, I, Same.refl H⟩
  · obtain ⟨H1, I1, e1⟩ := z
    obtain ⟨z, its, n, r, e⟩ := I1.hok p _ (e1 _ _ hp)
    refine ⟨its.toArray, n, e, by rw [List.size_toArray, ← r.length], fun h1 => ?_⟩
    have k1 : i < xs.length := by rw [r.length]; simpa using h1
    obtain ⟨u0, hu0, ru⟩ := r.get (List.getElem?_eq_getElem k1)
    have g1 : its[i]? = some its.toArray[i] := by
      have h1' : i < its.length := by simpa using h1
      rw [List.getElem?_eq_getElem h1'] <;> simp
    rw [g1] at hu0
    rw [Option.some.inj hu0]
    refine wpAny_mono (eq_right F sb hs hf hb dk I1 (e1 _ _ ha) ru ((hd _ (List.getElem_mem k1)).same e1) (hsp _ (List.getElem_mem k1) H1 e1)) (fun r2 s2 z => ?_) fun _ _ x => x
    obtain ⟨h2, H2, I2, e2⟩ := z
    exact ⟨h2, H2, I2, e1.trans e2⟩
  · obtain ⟨H1, I1, e1⟩ := z
    exact ⟨.bl true, H1, I1, rfl, q H1 e1⟩
end
end OS

set_option Elab.async false
set_option linter.all false
set_option maxRecDepth 100000
set_option maxHeartbeats 4000000
/-! str(x) by an own __str__ -/
namespace OS
open PySem PySem.Spec PyProof.Rows L2
def rStrO (C : Addr) (sp : Sp) : List V → Hp → VK → Prop := fun xs H Q => ∃ a dx fs, xs = [.ref a] ∧ H a = some (.ins C dx fs) ∧ sp [.ref a] H (fun v H' => ∃ z, v = .str z ∧ Q (.str z) H') E0
section
variable {X : Cx} {k : Nat} {f C : Addr} {fd : FuncData} {ps : List Str} {sp : Sp}
theorem cr_strO (F : FnOk X.prog X.w X.K X.mg X.base CX0 k f fd ps sp) (hr : Room (k + 2) X.A) (hs : PySem.W.findIn X.K (.ref C) "__str__" = some (some (.ref f))) (hf : PySem.W.isFn X.K (.ref f) = true) (hb : Binds X.K fd ps []) :
    CallR X (.type "str") (rStrO C sp) := by
  intro pins s σ H xs us Q I r h
  obtain ⟨a, dx, fs, rfl, ha, h⟩ := h
  obtain ⟨u, rfl, rx⟩ := vals1 r
  cases rx
  have sb : Sub X k X.A.in1.in1 := (Sub.in1 (X := X) (n := k) (Sub.in1 (X := X) (n := k + 1) ⟨hr, rfl⟩))
  obtain ⟨mA, J0, _⟩ := ins_get I.hok ha
  obtain ⟨od, J, _⟩ := J0.look
  have e0 : Env0 X.prog X.w X.K X.mg X.base X.A.in1.in1 X.stack s H := by
    have e := I.env0
    exact ⟨by rw [sb.fr]; exact e.frames, e.mod, e.bs, e.bsz, e.funs, e.frf, e.hok, e.bare⟩
  have hl := F.len _ _ _ _ h
  have r2 : Vals [V.ref a] [Value.ref a] := .cons rfl .nil
  refine PySem.W.kso_call sb.room.units0 I.kIn J hs hf ?_
  refine wpAny_call (codeAny_mono (F.run X.A.in1.in1 X.stack s H ⟨[.ref a], []⟩ [.ref a] [.ref a] _ E0 sb.room e0 (by
    have := hb s [.ref a] I.kIn (by simpa using hl)
    simpa using this) r2 h) fun r s' hq => ?_)
  cases r with
  | error e => exact (show False from hq).elim
  | ok fl =>
    cases fl with
    | ret w =>
      obtain ⟨z, H', I', rz, y, ez, q⟩ := I.after hq
      subst ez
      obtain ⟨t, rfl⟩ := rz
      exact ⟨.str y, H', I', ⟨t, rfl⟩, q⟩
    | next => exact False.elim hq
    | brk => exact False.elim hq
    | cont => exact False.elim hq
def rJoin (K : PySem.W.Frag) : V → List V → Hp → VK → Prop := fun x xs H Q => ∃ a p, ∃ ys : List Str, x = .str a ∧ xs = [.ref p] ∧ (SqL K H p (ys.map V.str) ∨ SqT K H p (ys.map V.str)) ∧ (ys.map (·.length)).sum + ys.length * a.length ≤ 16777216 ∧ Q (.str (Txt.join a ys)) H
theorem mt_joinK : MtR X "str.join" (rJoin X.K) := mt_join
theorem pe_joinR {o e : Expr} {to te : TE} {r : V → List V → Hp → VK → Prop} {apos pos : Pos} (rule : MtR X "str.join" r) (ho : PE X o to) (he : PE X e te) (hs : starEach [e] X.env = [(false, eval e X.env)] := by rfl) (hbase : attributeBase o "join" X.env (eval o X.env) = eval o X.env := by rfl) (hline : (apos.endLine == pos.line) = true := by rfl) :
    PE X (.Call (.Attribute o "join" apos) [e] [] pos) (tM1 r to te) := pe_m1 PySem.F.slot_str_join PySem.F.type_str_join rule ho he hs hbase hline
end
end OS

set_option Elab.async false
set_option linter.all false
set_option maxRecDepth 100000
set_option maxHeartbeats 4000000
/-! != of two instances by their own __eq__; own | and &; methods without arguments and by keywords within a try; two for clauses; unpacking of a list -/
namespace PySem.OSNeO
open PySem PySem.Spec PySem.Calls PyProof.Rows PySem.W
section
variable {prog : Program} {w : World} {M : Model} {A : Around} {E : Value → Shared → Prop} {s : Shared} {K : Frag} {x C f : Addr} {ox : Obj} {od : Option Obj} {b tb : Value} {name : Str}
theorem slot_ne : Slot "object" "__ne__" "object.__ne__" := .of (owner := "object") (n := "__ne__") (by rw [typeLookup_type, builtinLookup_eq_fast]; kernel_rfl) (by decide +kernel) (by decide +kernel) (by decide +kernel) (.inl (by decide +kernel)) (by kernel_rfl)
theorem ifBound_blt {id : String} {args : List Value} {Q : Option Value → Shared → Prop} (X : K.In s.heap) (I : InstAt s.heap x ox C od) (hs : findIn K (.ref C) name = some (some (.builtin id)))
    (hb : ∀ self, bindSpecial (.builtin id) self = pure (.builtin id, [self])) (h : wpAny M A (call (.builtin id) (.ref x :: args)) (fun v => Q (some v)) E s) : wpAny M A (callSpecialIfBound? (.ref x) name args) Q E s := by
  simp only [callSpecialIfBound?, bindSpecialIfBound?]
  refine wpAny_holding (wpAny_bind (wpAny_bind (wpAny_bind (I.type.here ((looks_findIn X hs).here ?_)))))
  refine wpAny_bind (wpAny_askSetting (wpAny_ite ?_))
  have fin : wpAny M A (call (.builtin id) ([.ref x] ++ args) >>= fun v => pure (some v)) Q E s := wpAny_bind (wpAny_mono h (fun v s' h' => wpAny_pure h') fun _ _ h' => h')
  split
  · exact wpAny_bind ((Looks.of_pure (hb _)).here (wpAny_pure (by exact fin)))
  · exact wpAny_tryCatch (wpAny_bind ((Looks.of_pure (hb _)).here (wpAny_pure (by exact fin))))
/-- object.__ne__ by an own __eq__ that tells a bool -/
theorem call_ne {Q : Value → Shared → Prop} (hu : A.in1.units < cLine) (X : K.In s.heap) (I : InstAt s.heap x ox C od) (hm : mroIn K C (.type "object") = some true) (hs : findIn K (.ref C) "__eq__" = some (some (.ref f))) (hf : isFn K (.ref f) = true)
    (h : wpAny (model prog w) A.in1 (call (.ref f) [.ref x, b]) (fun v s' => ∃ k, v = .bool k ∧ Q (.bool (!k)) s') E s) : wpAny (model prog w) A (call (.builtin "object.__ne__") [.ref x, b]) Q E s := by
  refine wpAny_call (codeAny_call_builtin slot_ne.plain PySem.F.cmpEntry_ne (check_slot (i := "object.__ne__") (owner := "object") (n := "__ne__") (by decide +kernel) (by decide +kernel) (I.type.andThen (looks_mroIn X hm)) (PySem.F.cmpArgs_ne _ _) ?_))
  unfold Builtin.«object.__ne__»
  refine wpAny_bind (m := slotArgs "__ne__" 1 _) (wpAny_pure ?_)
  refine wpAny_bind (m := cRoomFor _ _) (wpAny_cRoomFor hu ?_)
  refine wpAny_bind (m := callSpecialIfBound? (.ref x) (Str.ofString "__eq__") _) (ifBound_K X I hs hf (wpAny_mono h (fun r s' hq => ?_) fun _ _ y => y))
  obtain ⟨k, rfl, q⟩ := hq
  refine wpAny_bind (wpAny_of_eq (a := k) (by cases k <;> rfl) ?_)
  exact wpAny_pure q
theorem cmp_ne {h₀ : Heap} {L : Addr} {m : Str → Option Value} {Q : Value → Shared → Prop} (hu : A.units + 3 < cLine) (F : Fr h₀ L s.heap m) (X₀ : K.In h₀) (I : InstAt s.heap x ox C od) (hb : Looks (model prog w) s.heap (typeOf b) tb) (hn : notFirst K C tb = true)
    (hm : mroIn K C (.type "object") = some true) (hne : findIn K (.ref C) "__ne__" = some (some (.builtin "object.__ne__"))) (hs : findIn K (.ref C) "__eq__" = some (some (.ref f))) (hf : isFn K (.ref f) = true)
    (h : wpAny (model prog w) A.in1 (call (.ref f) [.ref x, b]) (fun v s' => ∃ k, v = .bool k ∧ Q (.bool (!k)) s') E s) : wpAny (model prog w) A (richCompare .NotEq (.ref x) b) Q E s := by
  have X := X₀.keeps F.keep
  have one : wpAny (model prog w) A (tryCompare (.ref x) (cmpInfo .NotEq).2.1 b) (fun r s' => ∃ v, r = some v ∧ Q v s') E s := by
    unfold tryCompare
    refine wpAny_bind (ifBound_blt X I hne slot_ne.bind (call_ne (by show A.units + 1 < cLine; omega) X I hm hs hf (wpAny_mono h (fun v s' hv => ?_) fun _ _ e => e)))
    obtain ⟨k, rfl, q⟩ := hv
    exact ⟨k, rfl, wpAny_pure ⟨_, rfl, q⟩⟩
  unfold richCompare
  simp only [oneThing_ref]
  refine wpAny_holding (wpAny_bind (wpAny_cRoomFor (by omega) ?_))
  refine wpAny_bind (I.type.here (wpAny_bind (hb.here ?_)))
  split
  · rename_i q
    have e : subIn K tb (.ref C) = some false := by
      rcases Bool.or_eq_true_iff.mp hn with e | e
      · rw [beq_iff_eq.mp e] at q; simp at q
      · exact beq_iff_eq.mp e
    refine wpAny_bind ((looks_subIn X e).here ?_)
    simp only [Bool.false_eq_true, if_false]
    refine wpAny_bind (wpAny_mono one (fun r s' z => ?_) fun _ _ e => e)
    obtain ⟨v, rfl, hq⟩ := z
    exact wpAny_pure hq
  · refine wpAny_bind (wpAny_pure ?_)
    simp only [Bool.false_eq_true, if_false]
    refine wpAny_bind (wpAny_mono one (fun r s' z => ?_) fun _ _ e => e)
    obtain ⟨v, rfl, hq⟩ := z
    exact wpAny_pure hq
end
end PySem.OSNeO
namespace OS
open PySem PySem.Spec PyProof.Rows L2 ClX
def rNeO (C : Addr) (sp : Sp) : R2 := fun x y H Q => ∃ a b dx dy fs gs, x = .ref a ∧ y = .ref b ∧ H a = some (.ins C dx fs) ∧ H b = some (.ins C dy gs) ∧ sp [x, y] H (fun v H' => ∃ k, v = .bl k ∧ Q (.bl (!k)) H') E0
section
variable {X : Cx} {k : Nat} {f C : Addr} {fd : FuncData} {ps : List Str} {sp : Sp}
theorem op_neO (F : FnOk X.prog X.w X.K X.mg X.base CX0 k f fd ps sp) (hr : Room (k + 2) X.A) (hs : PySem.W.findIn X.K (.ref C) "__eq__" = some (some (.ref f))) (hf : PySem.W.isFn X.K (.ref f) = true) (hb : Binds X.K fd ps []) (hn : PySem.W.notFirst X.K C (.ref C) = true)
    (hm : PySem.W.mroIn X.K C (.type "object") = some true) (hne : PySem.W.findIn X.K (.ref C) "__ne__" = some (some (.builtin "object.__ne__"))) :
    OpR X (compareOp .NotEq) (rNeO C sp) := by
  intro pins s σ H x y v u Q I rx ry h
  obtain ⟨a, b, dx, dy, fs, gs, rfl, rfl, ha, hb', h⟩ := h
  cases rx
  cases ry
  obtain ⟨mB, J', _⟩ := ins_get I.hok hb'
  obtain ⟨od', J', _⟩ := J'.look
  obtain ⟨mA, J, _⟩ := ins_get I.hok ha
  obtain ⟨od, J, _⟩ := J.look
  obtain ⟨m, hF⟩ := I.fr
  show wpAny (model X.prog X.w) X.A (richCompare .NotEq (.ref a) (.ref b)) (EP X pins σ Q) X.xe s
  have sb : Sub X k X.A.in1 := (Sub.in1 (X := X) (n := k) (⟨hr.mono (Nat.le_succ _), rfl⟩))
  have sb0 : Sub X (k + 1) X.A := ⟨hr.mono (Nat.le_succ _), rfl⟩
  refine PySem.OSNeO.cmp_ne (by have := hr.un; omega) hF I.ok.mod.kin J J'.type hn hm hne hs hf ?_
  have e0 : Env0 X.prog X.w X.K X.mg X.base X.A.in1 X.stack s H := by
    have e := I.env0
    exact ⟨by rw [sb.fr]; exact e.frames, e.mod, e.bs, e.bsz, e.funs, e.frf, e.hok, e.bare⟩
  have hl := F.len _ _ _ _ h
  have r2 : Vals [V.ref a, V.ref b] [Value.ref a, Value.ref b] := .cons rfl (.cons rfl .nil)
  refine wpAny_call (codeAny_mono (F.run X.A.in1 X.stack s H ⟨[.ref a, .ref b], []⟩ [.ref a, .ref b] [.ref a, .ref b] _ E0 sb.room e0 (by
    have := hb s [.ref a, .ref b] I.kIn (by simpa using hl)
    simpa using this) r2 h) fun r s' hq => ?_)
  cases r with
  | error e => exact (show False from hq).elim
  | ok fl =>
    cases fl with
    | ret w =>
      obtain ⟨z, H', I', rz, k, ez, q⟩ := I.after hq
      subst ez
      cases rz
      exact ⟨k, rfl, .bl (!k), H', I', rfl, q⟩
    | next => exact False.elim hq
    | brk => exact False.elim hq
    | cont => exact False.elim hq
end
/-! ### own | and & -/
def tOwnOp (C : Addr) (sp : Sp) (E : L2.St → XK) (ta tb : TE) : TE := fun σ H Q => ta σ H fun x H1 => tb σ H1 fun y H2 => ∃ a b dx dy fs gs, x = .ref a ∧ y = .ref b ∧ H2 a = some (.ins C dx fs) ∧ H2 b = some (.ins C dy gs) ∧ sp [x, y] H2 (fun v H' => ∃ r, v = .ref r ∧ Q v H') (E σ)
section
variable {X : Cx} {CX : CXT} {k : Nat} {f C p g : Addr} {mc : Value} {fd : FuncData} {ps : List Str} {sp : Sp} {E : L2.St → XK} {x m : Str} {q pos apos : Pos} {e o a b : Expr} {es : List Expr} {ta tb : TE} {t tk : TA} {pl : Sem Bool} {kws : List Keyword} {ks : List Str} {op : Operator}
theorem pe_ownOp (F : FnOk X.prog X.w X.K X.mg X.base CX k f fd ps sp) (hr : Room k X.A) (hs : PySem.W.findIn X.K (.ref C) (PySem.dunder op.info.2) = some (some (.ref f))) (hf : PySem.W.isFn X.K (.ref f) = true) (hb : Binds X.K fd ps []) (hc : PySem.W.selfFirst X.K C = true)
    (hx : ∀ σ, PassesAt CX X σ (E σ)) (ha : PE X a ta) (hbe : PE X b tb) : PE X (.BinOp a op b pos) (tOwnOp C sp E ta tb) := by
  refine ⟨fun pins s σ H Q I h => ?_⟩
  refine wpAny_BinOp (binT ha hbe I h fun v u s2 x y H2 I2 rx ry hq => ?_)
  obtain ⟨a, b, dx, dy, fs, gs, rfl, rfl, ea, eb, h⟩ := hq
  cases rx
  cases ry
  obtain ⟨mB, J', _⟩ := ins_get I2.hok eb
  obtain ⟨od', J', _⟩ := J'.look
  obtain ⟨mA, J, _⟩ := ins_get I2.hok ea
  obtain ⟨od, J, _⟩ := J.look
  obtain ⟨m, hF⟩ := I2.fr
  have r2 : Vals [V.ref a, V.ref b] [Value.ref a, Value.ref b] := .cons rfl (.cons rfl .nil)
  refine PySem.W.binop_K hF I2.ok.mod.kin J J'.type hc hs hf ?_
  have z := run_fnS (us := [.ref a, .ref b]) (vs := [.ref a, .ref b]) F hr hb (hx σ) I2 r2 h
  refine wpAny_mono z (fun v s' hv => ?_) fun _ _ e => e
  obtain ⟨w', H', I', rw', r, e1, q'⟩ := hv
  subst e1
  obtain rfl : v = Value.ref r := rw'
  show EP X pins σ Q (.ref r) s'
  exact ⟨V.ref r, H', I', rfl, q'⟩
/-! ### a method without arguments, in a try -/
def tMethS0 (C : Addr) (m : Str) (sp : Sp) (E : L2.St → XK) (ta : TE) : TE := fun σ H Q => ta σ H fun x H1 => ∃ a dx fs, x = .ref a ∧ H1 a = some (.ins C dx fs) ∧ fs.lookup m = none ∧ sp [x] H1 Q (E σ)
theorem pe_methS0 (he : PE X o ta) (c : Cls X.K C) (hm : Meth X.K C m f) (F : FnOk X.prog X.w X.K X.mg X.base CX k f fd ps sp) (hr : Room k X.A) (hb : Binds X.K fd ps []) (hx : ∀ σ, PassesAt CX X σ (E σ))
    (ht : eval (.Call (.Attribute o m apos) [] [] pos) X.env = (do
      let ov ← eval o X.env
      standAt apos.atName
      let (f, first) ← holding [ov] (getMethod ov m pl)
      callWith pos f first (backTo pos (starEach [] X.env)) (backToKw pos (keywordEach [] X.env))) := by rfl) :
    PE X (.Call (.Attribute o m apos) [] [] pos) (tMethS0 C m sp E ta) := by
  refine ⟨fun pins s σ H Q I h => ?_⟩
  refine PySem.W.methodCall_KW (pl := pl) (thn (he.run pins s σ H _ I h) fun u s1 ⟨x, H1, I1, rx, a, dx, fs, ex, ea, l, q⟩ => ?_) ht
  subst ex
  obtain rfl : u = Value.ref a := rx
  refine getmeth_ok I1 ea c hm l ?_
  exact PySem.W.callWith_K0 (first := [.ref a]) I1.kIn hm.kp (run_fnS (us := [.ref a]) (vs := [.ref a]) F hr hb (hx σ) I1 (.cons rfl .nil) q)
/-! ### .. by keywords alone, in a try -/
def tMethKS (C : Addr) (m : Str) (n : Nat) (sp : Sp) (gV : List V → List V → List V) (E : L2.St → XK) (ta : TE) (tk : TA) : TE := fun σ H Q => ta σ H fun x H1 => ∃ a dx fs, x = .ref a ∧ H1 a = some (.ins C dx fs) ∧ fs.lookup m = none ∧ tk σ H1 fun zs H2 => zs.length = n ∧ sp (gV [x] zs) H2 Q (E σ)
variable {gg : List Value → List Value → List Value} {gV : List V → List V → List V}
theorem pe_methKS0 (he : PE X o ta) (c : Cls X.K C) (hm : Meth X.K C m f) (F : FnOk X.prog X.w X.K X.mg X.base CX k f fd ps sp) (hr : Room k X.A) (hb : KBn X.K fd ps 1 ks gg gV) (hx : ∀ σ, PassesAt CX X σ (E σ)) (hkw : PK X kws tk)
    (hall : (backToKw pos (keywordEach kws X.env)).all (·.1.isSome) = true := by rfl) (hks : (backToKw pos (keywordEach kws X.env)).filterMap (·.1) = ks := by rfl)
    (hpl : ((backTo pos (starEach [] X.env)).any (·.1) || (backToKw pos (keywordEach kws X.env)).any (·.1.isNone)) = false := by rfl)
    (ht : eval (.Call (.Attribute o m apos) [] kws pos) X.env = (do
      let ov ← eval o X.env
      standAt apos.atName
      let (f, first) ← holding [ov] (getMethod ov m pl)
      callWith pos f first (backTo pos (starEach [] X.env)) (backToKw pos (keywordEach kws X.env))) := by rfl) :
    PE X (.Call (.Attribute o m apos) [] kws pos) (tMethKS C m ks.length sp gV E ta tk) := by
  refine ⟨fun pins s σ H Q I h => ?_⟩
  refine PySem.W.methodCall_KW (pl := pl) (thn (he.run pins s σ H _ I h) fun u s1 ⟨x, H1, I1, rx, a, dx, fs, ex, ea, l, q⟩ => ?_) ht
  subst ex
  obtain rfl : u = Value.ref a := rx
  refine getmeth_ok I1 ea c hm l ?_
  refine PySem.W.callWith_KW0 (first := [.ref a]) (h₀ := X.base) I.ok.mod.kin hm.kp hall ?_ hpl
  refine thn (hkw.run pos pins s1 σ H1 _ I1 q) fun ws s2 ⟨zs, H2, I2, rz, lz, q2⟩ => ⟨I2.kIn, ?_⟩
  rw [hks]
  have r1 : Vals [V.ref a] [Value.ref a] := .cons rfl .nil
  exact wpAny_call (run_fnRS F hr (hx σ) I2 (hb.to s2 [Value.ref a] ws I2.kIn rfl (rz.length.symm.trans lz)) (hb.rel r1 rz) q2)
end
/-! ### two for clauses: for a in xs for b in ys -/
section
variable {J : It} {n : Nat} {G : Hp → Prop} {Y : Nat → Hp → V → Hp → Prop}
theorem in_it (w : Walk J n G Y) {g : TG} {tt : TT} {te : TE} {vs : List Nat} {σ : L2.St} {H1 : Hp} {D : Addr} {Qd : Hp → Prop} (Pv : Nat → Hp → Prop) (h0 : Pv 0 H1) (hG : ∀ i H, i ≤ n → Pv i H → G H)
    (hs : ∀ i x H H', i < n → Pv i H → Y i H x H' → g x (wipe σ vs) H' fun σ2 H2 => wipe σ2 vs = wipe σ vs ∧ tt σ2 H2 fun b H3 =>
      if b = true then te σ2 H3 fun y H4 => ∃ acc, H4 D = some (.lst acc) ∧ acc.length < sizeLine ∧ Pv (i + 1) (upd H4 D (.lst (acc ++ [y]))) else Pv (i + 1) H3) (hd : ∀ H, Pv n H → Qd H) :
    ∃ W : Nat → Nat → Hp → Prop, (∃ m, W 0 m H1) ∧ ∀ i m H, W i m H →
      (J.stop i H ∧ Qd H) ∨ (J.go i H ∧ ∃ Nx : Hp → Prop, (∀ H', Nx H' → ∃ m', m' < m ∧ W (i + 1) m' H') ∧ ∀ x H', J.yld i H x H' → g x (wipe σ vs) H' fun σ2 H2 => wipe σ2 vs = wipe σ vs ∧ tt σ2 H2 fun b H3 =>
        if b = true then te σ2 H3 fun y H4 => ∃ acc, H4 D = some (.lst acc) ∧ acc.length < sizeLine ∧ Nx (upd H4 D (.lst (acc ++ [y]))) else Nx H3) := by
  refine ⟨fun i m H => m = n - i ∧ i ≤ n ∧ Pv i H, ⟨n, by simp, Nat.zero_le _, h0⟩, ?_⟩
  rintro i m H ⟨rfl, hi, p⟩
  have q := hG i H hi p
  by_cases hlt : i < n
  · refine .inr ⟨w.goes i H hlt q, Pv (i + 1), fun H' p' => ⟨n - (i + 1), by omega, rfl, hlt, p'⟩, fun x H' y => hs i x H H' hlt p (w.yields i H x H' hlt q y)⟩
  · have e : i = n := by omega
    subst e
    exact .inl ⟨w.stops H q, hd H p⟩
theorem lc2_it (w : Walk J n G Y) {g : TG} {tt : TT} {tb : L2.St → Hp → (Hp → Prop) → Prop} {vs : List Nat} {σ : L2.St} {H1 : Hp} {D : Addr} {Qd : Hp → Prop} (Pv : Nat → Hp → Prop) (h0 : Pv 0 (upd H1 D (.lst []))) (hG : ∀ i H, i ≤ n → Pv i H → G H)
    (hs : ∀ i x H H', i < n → Pv i H → Y i H x H' → g x (wipe σ vs) H' fun σ2 H2 => wipe σ2 vs = wipe σ vs ∧ tt σ2 H2 fun b H3 =>
      if b = true then tb σ2 H3 (Pv (i + 1)) else Pv (i + 1) H3) (hd : ∀ H, Pv n H → Qd H) :
    ∃ W : Nat → Nat → Hp → Prop, (∃ m, W 0 m (upd H1 D (.lst []))) ∧ ∀ i m H, W i m H →
      (J.stop i H ∧ Qd H) ∨ (J.go i H ∧ ∃ Nx : Hp → Prop, (∀ H', Nx H' → ∃ m', m' < m ∧ W (i + 1) m' H') ∧ ∀ x H', J.yld i H x H' → g x (wipe σ vs) H' fun σ2 H2 => wipe σ2 vs = wipe σ vs ∧ tt σ2 H2 fun b H3 =>
        if b = true then tb σ2 H3 Nx else Nx H3) := by
  refine ⟨fun i m H => m = n - i ∧ i ≤ n ∧ Pv i H, ⟨n, by simp, Nat.zero_le _, h0⟩, ?_⟩
  rintro i m H ⟨rfl, hi, p⟩
  have q := hG i H hi p
  by_cases hlt : i < n
  · refine .inr ⟨w.goes i H hlt q, Pv (i + 1), fun H' p' => ⟨n - (i + 1), by omega, rfl, hlt, p'⟩, fun x H' y => hs i x H H' hlt p (w.yields i H x H' hlt q y)⟩
  · have e : i = n := by omega
    subst e
    exact .inl ⟨w.stops H q, hd H p⟩
end
/-! ### (a, b, ..) = a list of that length -/
def gTupL (K : PySem.W.Frag) (n : Nat) (t : TGs) : TG := fun v σ H Q => ∃ a xs, v = .ref a ∧ SqL K H a xs ∧ xs.length = n ∧ t xs σ H Q
theorem pg_tupL {X : Cx} {es : List Expr} {k : Nat} {pos : Pos} {t : TGs} {n : Nat} (hc : X.calm = true) (h : PGs X es t)
    (hn : (assignEach es X.env).length = n := by rfl) (hst : (assignEach es X.env).findIdx? (·.1) = none := by rfl) : PG X (.Tuple es k pos) (gTupL X.K n t) := by
  refine ⟨fun pins s σ H v u Q I r hw => ?_⟩
  obtain ⟨a, xs, e1, hq, hl, hw⟩ := hw
  subst e1
  cases r
  obtain ⟨its, rv, ht, hz⟩ := I.list hq
  rw [assign_Tuple]
  refine wpAny_bind (wpAny_standAt ?_)
  have e2 : its.toArray.size = n := by simp [← hl, rv.length]
  unfold unpack
  rw [hn, hst, ← e2]
  refine wpAny_bind (wpAny_holding (PySem.W.kun_itemsOf (I.ok.hd hc) ht.isList fun h' hx => ?_))
  have I1 : Inv X pins σ H { s with heap := h' } := I.kept (t' := s.toks) fun b o e => hx b o (Nat.ne_of_lt (Heap.lt_size e)) e
  exact h.run pins _ σ H xs _ Q I1 (by simpa using rv) hw
end OS

set_option Elab.async false
set_option linter.all false
set_option maxRecDepth 100000
set_option maxHeartbeats 4000000
namespace OS
open PySem PySem.Spec PyProof.Rows L2
/-! ### f(k = v, ..) in a try -/
def tCallKS (sp : Sp) (gV : List V → List V → List V) (E : L2.St → XK) (tk : TA) : TE := fun σ H Q => tk σ H fun zs H1 => sp (gV [] zs) H1 Q (E σ)
section
variable {X : Cx} {CX : CXT} {k : Nat} {f : Addr} {fd : FuncData} {ps ks : List Str} {sp : Sp} {E : L2.St → XK} {x : Str} {p pos : Pos} {kws : List Keyword} {tk : TA} {g : List Value → List Value → List Value} {gV : List V → List V → List V}
theorem pe_callKS0 (F : FnOk X.prog X.w X.K X.mg X.base CX k f fd ps sp) (hr : Room k X.A) (hg : Gl X x) (hm : X.mg x = some (.ref f)) (hk : PySem.W.keepIn X.K (.ref f) = true) (hb : KBinds X.K fd ps ks g gV) (hx : ∀ σ, PassesAt CX X σ (E σ))
    (hkw : PK X kws tk) (hall : (backToKw pos (keywordEach kws X.env)).all (·.1.isSome) = true := by rfl) (hks : (backToKw pos (keywordEach kws X.env)).filterMap (·.1) = ks := by rfl)
    (hdb : (x == ("__debug__" : Str)) = false := by decide)
    (hpl : ((backTo pos (starEach [] X.env)).any (·.1) || (backToKw pos (keywordEach kws X.env)).any (·.1.isNone)) = false := by rfl) :
    PE X (.Call (.Name x p) [] kws pos) (tCallKS sp gV E tk) := by
  refine ⟨fun pins s σ H Q I h => ?_⟩
  refine wpAny_Call_Name_kw (ld_glob I hg hm ?_ hdb)
  refine PySem.W.callWith_KW0 (h₀ := X.base) I.ok.mod.kin hk hall ?_ hpl
  refine thn (hkw.run pos pins s σ H _ I h) fun ws s2 ⟨zs, H2, I2, rz, q2⟩ => ⟨I2.kIn, ?_⟩
  rw [hks]
  have r2 := hb.rel (vs := []) (us := []) .nil rz
  have hl : (g [] ws).length = ps.length := by rw [← r2.length]; exact F.len _ _ _ _ q2
  refine wpAny_call (codeAny_mono (F.run X.A X.stack s2 H2 ⟨[], ks.zip ws⟩ (g [] ws) (gV [] zs) Q (E σ) hr I2.env0 (hb.to s2 [] ws I2.kIn hl) r2 q2) fun r s' hq => ?_)
  cases r with
  | error e => exact hx σ pins H2 s2 e s' I2 hq
  | ok fl =>
    cases fl with
    | ret u => exact I2.after hq
    | next => exact False.elim hq
    | brk => exact False.elim hq
    | cont => exact False.elim hq
end
end OS

set_option Elab.async false
set_option linter.all false
set_option maxRecDepth 100000
set_option maxHeartbeats 4000000
/-! rules for the laws of the takes -/
namespace OS
open PySem PySem.Spec PyProof.Rows L2
/-- tuple(xs) of a list -/
def rTupL (K : PySem.W.Frag) : List V → Hp → VK → Prop := fun xs H Q => ∃ p ys, xs = [V.ref p] ∧ SqL K H p ys ∧ NewO H (.tup ys) Q
theorem call_tupL {X : Cx} : CallR X (.type "tuple") (rTupL X.K) := call_tuple_ofL
/-- [..] * n -/
def rRepO : R2 := fun x y H Q => ∃ l k xs, x = .ref l ∧ y = .int k ∧ H l = some (.lst xs) ∧ -(2 ^ 63) ≤ k ∧ k < 2 ^ 63 ∧ xs.length * k.toNat ≤ sizeLine ∧ NewO H (.lst (List.replicate k.toNat xs).flatten) Q
theorem op_mulL {X : Cx} : OpR X (binaryOp .Mult) rRepO := opImp op_rep fun _ _ _ _ ⟨l, k, xs, h1, h2, h3, h4, h5, h6, q⟩ => ⟨l, k, xs, h1, h2, h3, h4, h5, h6, q.to⟩
/-- sorted(d), keys that are texts -/
def rSortD : List V → Hp → VK → Prop := fun xs H Q => ∃ (a : Addr) (kvs : List (Key × V)) (ks : List Str), xs = [.ref a] ∧ Rd H a (.dK kvs) ∧ kvs.map (·.1) = ks.map Sum.inr ∧ ks.length < 64 ∧
  ∀ ys, ys.Perm ks → sortedS ys = true → NewO H (.lst (ys.map V.str)) Q
theorem cr_sortD {X : Cx} (hc : X.calm = true) : CallR X (.builtin "sorted") rSortD := callImp (call_sortedD hc) fun _ _ _ ⟨a, kvs, ks, h1, h2, h3, h4, q⟩ => ⟨a, kvs, ks, h1, h2, h3, h4, fun ys p h5 h6 => (q ys h5 h6).to p⟩
/-- len(xs), a list or a tuple -/
def rLenS (K : PySem.W.Frag) : List V → Hp → VK → Prop := fun xs H Q => ∃ p ys, xs = [V.ref p] ∧ (SqL K H p ys ∨ SqT K H p ys) ∧ Q (.int ys.length) H
theorem call_lenS {X : Cx} : CallR X (.builtin "len") (rLenS X.K) := call_len_seq
/-- list(xs) of a list or a tuple -/
def rListS (K : PySem.W.Frag) : List V → Hp → VK → Prop := fun xs H Q => ∃ p ys, xs = [V.ref p] ∧ (SqL K H p ys ∨ SqT K H p ys) ∧ NewO H (.lst ys) Q
theorem call_listS {X : Cx} : CallR X (.type "list") (rListS X.K) := call_list_ofO
/-- a pair (length, group) -/
def PairV (K : PySem.W.Frag) (H : Hp) (x : V) (g : List Str) : Prop := ∃ t b, x = .ref t ∧ SqT K H t [.int (g.length : Int), .ref b] ∧ SqT K H b (g.map V.str)
theorem PairV.same {K : PySem.W.Frag} {H H' : Hp} {x : V} {g : List Str} (h : PairV K H x g) (s : Same H H') : PairV K H' x g := by
  obtain ⟨t, b, h1, h2, h3⟩ := h
  exact ⟨t, b, h1, s.tupT h2, s.tupT h3⟩
theorem PairV.but {K : PySem.W.Frag} {H H' : Hp} {D : Addr} {acc : List V} {x : V} {g : List Str} (hD : H D = some (.lst acc)) (k : ∀ b o, H b = some o → b ≠ D → H' b = some o) (h : PairV K H x g) : PairV K H' x g := by
  obtain ⟨t, b, h1, h2, h3⟩ := h
  exact ⟨t, b, h1, tupT_but hD k h2, tupT_but hD k h3⟩
theorem PairV.dp {K : PySem.W.Frag} {H : Hp} {x : V} {g : List Str} (h : PairV K H x g) : Dp K H x (encP g) := by
  obtain ⟨t, b, rfl, h2, h3⟩ := h
  exact .tup h2 (.cons (.int _) (.cons (.tup h3 (dp_all (fun z => .str z) g)) .nil))
/-- what sorted makes of such pairs -/
theorem pairs_sorted {K : PySem.W.Frag} {H : Hp} {D : Addr} {acc : List V} {gs : List (List Str)} {Q : VK} (hD : H D = some (.lst acc)) (pr : Paired (PairV K H) acc gs)
    (q : ∀ p H' ys, H p = none → Same H H' → H' p = some (.lst ys) → Paired (PairV K H') ys (gs.mergeSort leP) → Q (.ref p) H') : SortXAt K H Q D := by
  obtain ⟨z1, z2, z3⟩ := paired_zip pr
  have sm1 : ((acc.zip gs).mergeSort (PySem.W.dataLe false fun b => encP b.2)).map Prod.snd = gs.mergeSort leP := by
    have h := PySem.W.sort_maps (r := PySem.W.dataLe false fun b : V × List Str => encP b.2) (s := PySem.W.dataLe false encP) (Prod.snd : V × List Str → List Str) (l := acc.zip gs) (fun _ _ _ _ => rfl)
    rw [z2] at h
    exact h
  refine ⟨V × List Str, acc.zip gs, Prod.fst, fun b => encP b.2, by rw [z1]; exact SqL.of hD, fun b hb => (z3 b hb).dp, PySem.W.AllAlike.of fun b b' => alike_P _ _, .inl (PySem.W.Sortable.tuples fun b => ⟨_, _, rfl⟩), fun b _ => by rw [depth_P]; decide, fun q1 H4 n4 s4 hq1 => ?_⟩
  refine q q1 H4 _ n4 s4 hq1 ?_
  rw [← sm1]
  exact paired_of fun c hc => (z3 c ((List.mergeSort_perm _ _).mem_iff.mp hc)).same s4
end OS

set_option Elab.async false
set_option linter.all false
set_option maxRecDepth 100000
set_option maxHeartbeats 2000000
/-! zip of two sequences, each a list or a tuple (kk = true: a tuple) -/
namespace OS
open PySem PyProof.Rows
open PySem.Sem (wp)
def ItS (kk : Bool) (h : Heap) (it l : Addr) (i : Nat) : Prop := match kk with | true => h.IsTupleIter it l i | false => h.IsListIter it l i
def SqS (kk : Bool) (h : Heap) (l : Addr) (xs : Array Value) : Prop := match kk with | true => h.IsTuple l xs | false => h.IsList l xs
def itN (kk : Bool) : String := match kk with | true => "tuple_iterator" | false => "list_iterator"
theorem ItS.at {kk : Bool} {h h' : Heap} {it l : Addr} {i : Nat} (x : ItS kk h it l i) (e : ∀ o, h.get? it = some o → h'.get? it = some o) : ItS kk h' it l i := by
  cases kk with
  | true => exact Heap.IsTupleIter.at x e
  | false => exact Heap.IsListIter.at x e
theorem ItS.ext {kk : Bool} {h h' : Heap} {it b l : Addr} {i : Nat} (x : ItS kk h it l i) (e : Heap.ExtBut b h h') (n : it ≠ b) : ItS kk h' it l i := by
  cases kk with
  | true => exact Heap.IsTupleIter.extBut x e n
  | false => exact Heap.IsListIter.extBut x e n
theorem SqS.ext {kk : Bool} {h h' : Heap} {b l : Addr} {xs : Array Value} (x : SqS kk h l xs) (e : Heap.ExtBut b h h') (n : l ≠ b) : SqS kk h' l xs := by
  cases kk with
  | true => exact Heap.IsTuple.extBut x e n
  | false => exact Heap.IsList.extBut x e n
theorem SqS.push {kk : Bool} {h : Heap} {l : Addr} {xs : Array Value} (x : SqS kk h l xs) (o : Obj) : SqS kk (h.push o) l xs := by
  cases kk with
  | true => exact Heap.IsTuple.push x o
  | false => exact Heap.IsList.push x o
theorem ItS.obj {kk : Bool} {h : Heap} {it l : Addr} {i : Nat} (x : ItS kk h it l i) : ∃ o, h.get? it = some o ∧ o.cls = .type (itN kk) ∧ o.data = .fields #[.ref l, rawInt i] := by
  cases kk with
  | true => exact x
  | false => exact x
theorem SqS.lt {kk : Bool} {h : Heap} {l : Addr} {xs : Array Value} (x : SqS kk h l xs) : l < h.objs.size := by
  cases kk with
  | true => obtain ⟨o, e, _⟩ := x; exact Heap.lt_size e
  | false => obtain ⟨o, e, _⟩ := x; exact Heap.lt_size e
section
variable {prog : Program} {w : World} {A : Around} {E : Value → Shared → Prop} {s : Shared}
theorem next_it {kk : Bool} {it l : Addr} {i : Nat} {xs : Array Value} {x : Value} {Q : Value → Shared → Prop} (a : ItS kk s.heap it l i) (b : SqS kk s.heap l xs) (hx : xs[i]? = some x)
    (q : ∀ h', ItS kk h' it l (i + 1) → Heap.SameBut it s.heap h' → Q x { s with heap := h' }) : wpAny (model prog w) A (Builtin.SmallTypes.nextOf (.ref it)) Q E s := by
  cases kk with
  | true => exact RZ.nextOf_tuple_item a b hx q
  | false => exact wpAny_nextOf_list_item a b hx q
theorem next_no {kk : Bool} {it l : Addr} {i : Nat} {xs : Array Value} {Q : Value → Shared → Prop} (hh : A.handled = none) (a : ItS kk s.heap it l i) (b : SqS kk s.heap l xs) (hx : xs[i]? = none)
    (q : ∀ h' e, Heap.ExtBut it s.heap h' → (∃ o, h'.get? e = some o ∧ o.cls = .type "StopIteration") → E (.ref e) { s with heap := h' }) : wpAny (model prog w) A (Builtin.SmallTypes.nextOf (.ref it)) Q E s := by
  cases kk with
  | true => exact RZ.nextOf_tuple_end hh a b hx q
  | false => exact wpAny_nextOf_list_end hh a b hx q
/-- both have an item: zip tells the pair of them, in a new tuple -/
theorem zipS_item {c1 c2 : Bool} {z ti to i1 i2 l1 l2 : Addr} {m1 m2 : Nat} {xs ys : Array Value} {x y a b : Value} {Q : Value → Shared → Prop} (D : ZipApart z ti to i1 i2 l1 l2)
    (zz : IsZip s.heap z ti to .none) (pt : IsPair s.heap ti (.ref i1) (.ref i2)) (po : IsPair s.heap to a b)
    (j1 : ItS c1 s.heap i1 l1 m1) (j2 : ItS c2 s.heap i2 l2 m2) (q1 : SqS c1 s.heap l1 xs) (q2 : SqS c2 s.heap l2 ys) (gx : xs[m1]? = some x) (gy : ys[m2]? = some y)
    (q : ∀ h', IsZip h' z ti to (rawInt s.heap.objs.size) → IsPair h' to x y → ItS c1 h' i1 l1 (m1 + 1) → ItS c2 h' i2 l2 (m2 + 1) → IsPair h' s.heap.objs.size x y → h'.objs.size = s.heap.objs.size + 1 →
      (∀ c o, c ≠ z → c ≠ to → c ≠ i1 → c ≠ i2 → s.heap.get? c = some o → h'.get? c = some o) → Q (.ref s.heap.objs.size) { s with heap := h' }) :
    wpAny (model prog w) A (Builtin.«zip.__next__» ⟨[.ref z], []⟩) (fun fin s' => ∃ v, fin = .done (.ret v) ∧ Q v s') E s := by
  show wpAny _ _ (field (.ref z) 2 >>= _) _ _ _
  refine wpAny_bind (wpAny_field zz rfl (x := .bool false) rfl ?_)
  show wpAny _ _ (field (.ref z) 3 >>= _) _ _ _
  refine wpAny_bind (wpAny_field zz rfl (x := .ref ti) rfl ?_)
  refine wpAny_bind (wpAny_seqItems pt rfl ?_)
  show wpAny _ _ (Builtin.SmallTypes.ownedTupleIsFree (.ref z) >>= _) _ _ _
  refine wpAny_bind ?_
  unfold Builtin.SmallTypes.ownedTupleIsFree
  refine wpAny_bind (wpAny_field zz rfl (x := .none) rfl (wpAny_pure ?_))
  simp only [if_true]
  refine wpAny_bind (wpAny_rule ?_)
  refine wpAny_bind (wpAny_field zz rfl (x := .ref to) rfl ?_)
  refine wpAny_bind (wpAny_setField_rec zz (by simp) fun g1 (z1 : IsZip g1 z ti to .ellipsis) u1 => ?_)
  refine wpAny_bind ?_
  simp only [List.zipIdx_cons, List.zipIdx_nil, List.forIn_cons, List.forIn_nil]
  refine wpAny_bind (wpAny_bind (wpAny_onRaise ?_))
  show wpAny _ _ (Builtin.SmallTypes.nextOf (.ref i1) >>= _) _ _ _
  refine wpAny_bind (next_it (j1.ext u1.extBut D.i1z) (q1.ext u1.extBut D.l1z) gx fun g2 j12 u2 => wpAny_pure ?_)
  have p2 : IsPair g2 to a b := u2.extBut _ _ D.TOi1 (u1.extBut _ _ D.TOz po)
  refine wpAny_bind (wpAny_seqItems p2 rfl ?_)
  refine wpAny_bind (wpAny_updateSeq_pair p2 fun g3 (p3 : IsPair g3 to x b) u3 => ?_)
  refine wpAny_bind (wpAny_letGo (wpAny_pure ?_))
  refine wpAny_bind (wpAny_bind (wpAny_onRaise ?_))
  show wpAny _ _ (Builtin.SmallTypes.nextOf (.ref i2) >>= _) _ _ _
  have j23 := ((j2.ext u1.extBut D.i2z).ext u2.extBut D.i12.symm).ext u3.extBut D.TOi2.symm
  have q23 := ((q2.ext u1.extBut D.l2z).ext u2.extBut D.l2i1).ext u3.extBut D.l2TO
  refine wpAny_bind (next_it j23 q23 gy fun g4 j24 u4 => wpAny_pure ?_)
  have p4 : IsPair g4 to x b := u4.extBut _ _ D.TOi2 p3
  refine wpAny_bind (wpAny_seqItems p4 rfl ?_)
  refine wpAny_bind (wpAny_updateSeq_pair p4 fun g5 (p5 : IsPair g5 to x y) u5 => ?_)
  refine wpAny_bind (wpAny_letGo (wpAny_pure (wpAny_pure ?_)))
  refine wpAny_bind (wpAny_seqItems p5 rfl ?_)
  refine wpAny_bind (wpAny_newTuple ?_)
  have size5 : g5.objs.size = s.heap.objs.size := by rw [u5.1, u4.1, u3.1, u2.1, u1.1]
  have z5 : IsZip g5 z ti to .ellipsis := u5.extBut _ _ D.TOz.symm (u4.extBut _ _ D.i2z.symm (u3.extBut _ _ D.TOz.symm (u2.extBut _ _ D.i1z.symm z1)))
  have stay5 : ∀ c o, c ≠ z → c ≠ to → c ≠ i1 → c ≠ i2 → s.heap.get? c = some o → g5.get? c = some o := fun c o n1 n2 n3 n4 e =>
    u5.extBut _ _ n2 (u4.extBut _ _ n4 (u3.extBut _ _ n2 (u2.extBut _ _ n3 (u1.extBut _ _ n1 e))))
  have j15 := ((j12.ext u3.extBut D.TOi1.symm).ext u4.extBut D.i12).ext u5.extBut D.TOi1.symm
  have j25 := j24.ext u5.extBut D.TOi2.symm
  have zlt : z < g5.objs.size := Heap.lt_size z5
  show wpAny _ _ (Builtin.SmallTypes.ownedTupleHandOut (.ref z) (.ref g5.objs.size) >>= _) _ _ _
  refine wpAny_bind ?_
  unfold Builtin.SmallTypes.ownedTupleHandOut
  have z6 : IsZip (g5.push { cls := .type "tuple", data := .seq #[x, y] }) z ti to .ellipsis := Heap.get?_push_of_some _ z5
  refine wpAny_bind (wpAny_setField_rec z6 (by simp) fun g7 (z7 : IsZip g7 z ti to (rawInt g5.objs.size)) u7 => ?_)
  refine wpAny_setField_rec z7 (by simp) fun g8 (z8 : IsZip g8 z ti to (rawInt g5.objs.size)) u8 => ?_
  have past : ∀ c o, c ≠ z → g5.get? c = some o → g8.get? c = some o := fun c o n1 e => u8.extBut _ _ n1 (u7.extBut _ _ n1 (Heap.get?_push_of_some _ e))
  have new8 : IsPair g8 g5.objs.size x y := u8.extBut _ _ (Nat.ne_of_gt zlt) (u7.extBut _ _ (Nat.ne_of_gt zlt) (Heap.get?_push_size _ rfl))
  have size8 : g8.objs.size = g5.objs.size + 1 := by rw [u8.1, u7.1, Heap.size_push]
  rw [size5] at z8 new8 size8
  refine wpAny_pure ⟨_, rfl, ?_⟩
  show Q (.ref g5.objs.size) _
  rw [size5]
  exact q g8 z8 (past _ _ D.TOz p5) (j15.at fun o e => past _ o D.i1z e) (j25.at fun o e => past _ o D.i2z e) new8 size8 fun c o n1 n2 n3 n4 e => past c o n1 (stay5 c o n1 n2 n3 n4 e)
/-- one of them has none: zip ends -/
theorem zipS_end {c1 c2 : Bool} {z ti to i1 i2 l1 l2 : Addr} {m1 m2 : Nat} {xs ys : Array Value} {a b : Value} {Q : Fin → Shared → Prop} (hh : A.handled = none) (D : ZipApart z ti to i1 i2 l1 l2)
    (zz : IsZip s.heap z ti to .none) (pt : IsPair s.heap ti (.ref i1) (.ref i2)) (po : IsPair s.heap to a b)
    (j1 : ItS c1 s.heap i1 l1 m1) (j2 : ItS c2 s.heap i2 l2 m2) (q1 : SqS c1 s.heap l1 xs) (q2 : SqS c2 s.heap l2 ys) (no : xs[m1]? = none ∨ ys[m2]? = none)
    (q : ∀ h' e, (∀ c o, c ≠ z → c ≠ to → c ≠ i1 → c ≠ i2 → s.heap.get? c = some o → h'.get? c = some o) → (∃ o, h'.get? e = some o ∧ o.cls = .type "StopIteration") → E (.ref e) { s with heap := h' }) :
    wpAny (model prog w) A (Builtin.«zip.__next__» ⟨[.ref z], []⟩) Q E s := by
  show wpAny _ _ (field (.ref z) 2 >>= _) _ _ _
  refine wpAny_bind (wpAny_field zz rfl (x := .bool false) rfl ?_)
  show wpAny _ _ (field (.ref z) 3 >>= _) _ _ _
  refine wpAny_bind (wpAny_field zz rfl (x := .ref ti) rfl ?_)
  refine wpAny_bind (wpAny_seqItems pt rfl ?_)
  show wpAny _ _ (Builtin.SmallTypes.ownedTupleIsFree (.ref z) >>= _) _ _ _
  refine wpAny_bind ?_
  unfold Builtin.SmallTypes.ownedTupleIsFree
  refine wpAny_bind (wpAny_field zz rfl (x := .none) rfl (wpAny_pure ?_))
  simp only [if_true]
  refine wpAny_bind (wpAny_rule ?_)
  refine wpAny_bind (wpAny_field zz rfl (x := .ref to) rfl ?_)
  refine wpAny_bind (wpAny_setField_rec zz (by simp) fun g1 (z1 : IsZip g1 z ti to .ellipsis) u1 => ?_)
  refine wpAny_bind ?_
  simp only [List.zipIdx_cons, List.zipIdx_nil, List.forIn_cons, List.forIn_nil]
  refine wpAny_bind (wpAny_bind (wpAny_onRaise ?_))
  show wpAny _ _ (Builtin.SmallTypes.nextOf (.ref i1) >>= _) _ _ _
  have j11 := j1.ext u1.extBut D.i1z
  have q11 := q1.ext u1.extBut D.l1z
  cases gx : xs[m1]? with
  | none =>
    refine wpAny_bind (next_no hh j11 q11 gx fun g2 e u2 he => ?_)
    obtain ⟨oe, ge, ce⟩ := he
    have z2 : IsZip g2 z ti to .ellipsis := u2 _ _ D.i1z.symm z1
    have ne : e ≠ z := fun r => by subst r; rw [z2] at ge; cases ge; simp at ce
    exact wpAny_setField_rec z2 (by simp) fun g3 _ u3 => q g3 e (fun c o n1 _ n3 _ r => u3.extBut _ _ n1 (u2 _ _ n3 (u1.extBut _ _ n1 r))) ⟨oe, u3.extBut _ _ ne ge, ce⟩
  | some x =>
    have gy : ys[m2]? = none := no.resolve_left fun r => by rw [gx] at r; cases r
    refine wpAny_bind (next_it j11 q11 gx fun g2 j12 u2 => wpAny_pure ?_)
    have p2 : IsPair g2 to a b := u2.extBut _ _ D.TOi1 (u1.extBut _ _ D.TOz po)
    refine wpAny_bind (wpAny_seqItems p2 rfl ?_)
    refine wpAny_bind (wpAny_updateSeq_pair p2 fun g3 p3 u3 => ?_)
    refine wpAny_bind (wpAny_letGo (wpAny_pure ?_))
    refine wpAny_bind (wpAny_bind (wpAny_onRaise ?_))
    show wpAny _ _ (Builtin.SmallTypes.nextOf (.ref i2) >>= _) _ _ _
    have j23 := ((j2.ext u1.extBut D.i2z).ext u2.extBut D.i12.symm).ext u3.extBut D.TOi2.symm
    have q23 := ((q2.ext u1.extBut D.l2z).ext u2.extBut D.l2i1).ext u3.extBut D.l2TO
    refine wpAny_bind (next_no hh j23 q23 gy fun g4 e u4 he => ?_)
    obtain ⟨oe, ge, ce⟩ := he
    have z4 : IsZip g4 z ti to .ellipsis := u4 _ _ D.i2z.symm (u3.extBut _ _ D.TOz.symm (u2.extBut _ _ D.i1z.symm z1))
    have ne : e ≠ z := fun r => by subst r; rw [z4] at ge; cases ge; simp at ce
    exact wpAny_setField_rec z4 (by simp) fun g5 _ u5 => q g5 e (fun c o n1 n2 n3 n4 r => u5.extBut _ _ n1 (u4 _ _ n4 (u3.extBut _ _ n2 (u2.extBut _ _ n3 (u1.extBut _ _ n1 r))))) ⟨oe, u5.extBut _ _ ne ge, ce⟩
theorem zipS_next {c1 c2 : Bool} {z ti to i1 i2 l1 l2 : Addr} {m1 m2 : Nat} {xs ys : Array Value} {x y a b : Value} {Q : Option Value → Shared → Prop} (D : ZipApart z ti to i1 i2 l1 l2)
    (zz : IsZip s.heap z ti to .none) (pt : IsPair s.heap ti (.ref i1) (.ref i2)) (po : IsPair s.heap to a b)
    (j1 : ItS c1 s.heap i1 l1 m1) (j2 : ItS c2 s.heap i2 l2 m2) (q1 : SqS c1 s.heap l1 xs) (q2 : SqS c2 s.heap l2 ys) (gx : xs[m1]? = some x) (gy : ys[m2]? = some y)
    (q : ∀ h', IsZip h' z ti to (rawInt s.heap.objs.size) → IsPair h' to x y → ItS c1 h' i1 l1 (m1 + 1) → ItS c2 h' i2 l2 (m2 + 1) → IsPair h' s.heap.objs.size x y → h'.objs.size = s.heap.objs.size + 1 →
      (∀ c o, c ≠ z → c ≠ to → c ≠ i1 → c ≠ i2 → s.heap.get? c = some o → h'.get? c = some o) → Q (some (.ref s.heap.objs.size)) { s with heap := h' }) : wpAny (model prog w) A (pyNext (.ref z)) Q E s := by
  have ty : s.TypeIs (.ref z) "zip" := ⟨_, zz, rfl⟩
  unfold pyNext
  refine wpAny_bind (wpAny_attempt (wpAny_callSpecial?_slot (name := Str.ofString "__next__") ty F.slot_zip_next ?_))
  exact wpAny_call_entry F.slot_zip_next ty F.entry_zip_next (zipS_item D zz pt po j1 j2 q1 q2 gx gy fun h' a1 a2 a3 a4 a5 a6 a7 => wpAny_pure (q h' a1 a2 a3 a4 a5 a6 a7)) (F.args_zip_next_1 _)
theorem zipS_stop {c1 c2 : Bool} {z ti to i1 i2 l1 l2 : Addr} {m1 m2 : Nat} {xs ys : Array Value} {a b : Value} {Q : Option Value → Shared → Prop} (hh : A.handled = none) (D : ZipApart z ti to i1 i2 l1 l2)
    (zz : IsZip s.heap z ti to .none) (pt : IsPair s.heap ti (.ref i1) (.ref i2)) (po : IsPair s.heap to a b)
    (j1 : ItS c1 s.heap i1 l1 m1) (j2 : ItS c2 s.heap i2 l2 m2) (q1 : SqS c1 s.heap l1 xs) (q2 : SqS c2 s.heap l2 ys) (no : xs[m1]? = none ∨ ys[m2]? = none)
    (q : ∀ h', (∀ c o, c ≠ z → c ≠ to → c ≠ i1 → c ≠ i2 → s.heap.get? c = some o → h'.get? c = some o) → Q none { s with heap := h' }) : wpAny (model prog w) A (pyNext (.ref z)) Q E s := by
  have ty : s.TypeIs (.ref z) "zip" := ⟨_, zz, rfl⟩
  unfold pyNext
  refine wpAny_bind (wpAny_attempt (wpAny_callSpecial?_slot (name := Str.ofString "__next__") ty F.slot_zip_next ?_))
  refine wpAny_call_entry F.slot_zip_next ty F.entry_zip_next (zipS_end hh D zz pt po j1 j2 q1 q2 no fun h' e keep he => ?_) (F.args_zip_next_1 _)
  obtain ⟨o, ho, hc⟩ := he
  exact wpAny_bind (wpAny_isInstance (T := "StopIteration") (b := true) ⟨o, ho, hc⟩ isSubtype_stop (wpAny_pure (q _ keep)))
end
/-! ### zip(a, b) made -/
def itObj (kk : Bool) (l : Addr) : Obj := { cls := .type (itN kk), data := .fields #[.ref l, .int 0 0] }
theorem iter_of {prog : Program} {w : World} {A : Around} {E : Value → Shared → Prop} {s : Shared} {kk : Bool} {l : Addr} {xs : Array Value} {Q : Value → Shared → Prop} (h : SqS kk s.heap l xs) (q : Q (.ref s.heap.objs.size) { s with heap := s.heap.push (itObj kk l) }) :
    wpAny (model prog w) A (pyIter (.ref l)) Q E s := by
  cases kk with
  | true => exact wpAny_pyIter_tuple h q
  | false => exact wpAny_pyIter_list h q
abbrev zs1 (c1 : Bool) (h : Heap) (l1 : Addr) : Heap := h.push (itObj c1 l1)
abbrev zs2 (c1 c2 : Bool) (h : Heap) (l1 l2 : Addr) : Heap := (zs1 c1 h l1).push (itObj c2 l2)
abbrev zs3 (c1 c2 : Bool) (h : Heap) (l1 l2 : Addr) : Heap := (zs2 c1 c2 h l1 l2).push { cls := .type "tuple", data := .seq #[.ref h.objs.size, .ref (zs1 c1 h l1).objs.size] }
abbrev zs4 (c1 c2 : Bool) (h : Heap) (l1 l2 : Addr) : Heap := (zs3 c1 c2 h l1 l2).push { cls := .type "tuple", data := .seq #[.none, .none] }
abbrev zs5 (c1 c2 : Bool) (h : Heap) (l1 l2 : Addr) : Heap := (zs4 c1 c2 h l1 l2).push { cls := .type "zip", data := .fields #[.none, .bool false, .bool false, .ref (zs2 c1 c2 h l1 l2).objs.size, .ref (zs3 c1 c2 h l1 l2).objs.size] }
theorem meets_zipS (c1 c2 : Bool) (l1 l2 : Addr) (xs ys : Array Value) : Meets (Builtin.«zip.__new__» ⟨[.type "zip", .ref l1, .ref l2], []⟩) (fun _ R s => SqS c1 s.heap l1 xs ∧ SqS c2 s.heap l2 ys ∧
    R (.ok (.ret (.ref (zs4 c1 c2 s.heap l1 l2).objs.size))) { s with heap := zs5 c1 c2 s.heap l1 l2 }) :=
  .of_wp fun prog w A R s h => by
    obtain ⟨hp, g, d, tk, os⟩ := s
    obtain ⟨a1, a2, h⟩ := h
    have := sub_zip
    have b1 : SqS c1 (Shared.heap ⟨hp, g, d, tk, os⟩) l1 xs := a1
    have b2 : SqS c2 (Shared.heap ⟨hp.push (itObj c1 l1), g, d, tk, os⟩) l2 ys := SqS.push a2 _
    wp_walk using iter_of b1, iter_of b2
    exact ⟨_, rfl, h⟩
section
variable {prog : Program} {w : World} {A : Around} {E : Value → Shared → Prop} {s : Shared}
theorem call_zipS {c1 c2 : Bool} {l1 l2 : Addr} {xs ys : Array Value} {Q : Value → Shared → Prop} (q1 : SqS c1 s.heap l1 xs) (q2 : SqS c2 s.heap l2 ys)
    (q : ∀ h', IsZip h' (s.heap.objs.size + 4) (s.heap.objs.size + 2) (s.heap.objs.size + 3) .none → IsPair h' (s.heap.objs.size + 2) (.ref s.heap.objs.size) (.ref (s.heap.objs.size + 1)) →
      IsPair h' (s.heap.objs.size + 3) .none .none → ItS c1 h' s.heap.objs.size l1 0 → ItS c2 h' (s.heap.objs.size + 1) l2 0 → h'.objs.size = s.heap.objs.size + 5 →
      (∀ c o, s.heap.get? c = some o → h'.get? c = some o) → Q (.ref (s.heap.objs.size + 4)) { s with heap := h' }) : wpAny (model prog w) A (call (.type "zip") [.ref l1, .ref l2]) Q E s := by
  refine callType_new F.called_zip (by decide) (F.typeCall_zip_2 _ _) (F.newCall_zip_2 _ _) (fun obj => F.args_object_init_3 obj _ _) F.entry_zip_new (meets_zipS c1 c2 l1 l2 xs ys) ⟨q1, q2, ?_⟩
  have e1 : (zs1 c1 s.heap l1).objs.size = s.heap.objs.size + 1 := Heap.size_push ..
  have e2 : (zs2 c1 c2 s.heap l1 l2).objs.size = s.heap.objs.size + 2 := by rw [Heap.size_push, e1]
  have e3 : (zs3 c1 c2 s.heap l1 l2).objs.size = s.heap.objs.size + 3 := by rw [Heap.size_push, e2]
  have e4 : (zs4 c1 c2 s.heap l1 l2).objs.size = s.heap.objs.size + 4 := by rw [Heap.size_push, e3]
  have e5 : (zs5 c1 c2 s.heap l1 l2).objs.size = s.heap.objs.size + 5 := by rw [Heap.size_push, e4]
  have w5 : (zs5 c1 c2 s.heap l1 l2).get? (zs4 c1 c2 s.heap l1 l2).objs.size = some _ := Heap.get?_push_size _ rfl
  have w4 : (zs5 c1 c2 s.heap l1 l2).get? (zs3 c1 c2 s.heap l1 l2).objs.size = some _ := Heap.get?_push_of_some _ (Heap.get?_push_size _ rfl)
  have w3 : (zs5 c1 c2 s.heap l1 l2).get? (zs2 c1 c2 s.heap l1 l2).objs.size = some _ := Heap.get?_push_of_some _ (Heap.get?_push_of_some _ (Heap.get?_push_size _ rfl))
  have w2 : (zs5 c1 c2 s.heap l1 l2).get? (zs1 c1 s.heap l1).objs.size = some (itObj c2 l2) := Heap.get?_push_of_some _ (Heap.get?_push_of_some _ (Heap.get?_push_of_some _ (Heap.get?_push_size _ rfl)))
  have w1 : (zs5 c1 c2 s.heap l1 l2).get? s.heap.objs.size = some (itObj c1 l1) := Heap.get?_push_of_some _ (Heap.get?_push_of_some _ (Heap.get?_push_of_some _ (Heap.get?_push_of_some _ (Heap.get?_push_size _ rfl))))
  show _ ∧ _
  rw [e2, e3, e4] at w5
  rw [e1, e2] at w3
  rw [e3] at w4
  rw [e1] at w2
  rw [e4]
  have t1 : ItS c1 (zs5 c1 c2 s.heap l1 l2) s.heap.objs.size l1 0 := by cases c1 <;> exact ⟨_, w1, rfl, rfl⟩
  have t2 : ItS c2 (zs5 c1 c2 s.heap l1 l2) (s.heap.objs.size + 1) l2 0 := by cases c2 <;> exact ⟨_, w2, rfl, rfl⟩
  refine ⟨⟨_, w5, rfl⟩, q _ w5 w3 w4 t1 t2 e5 fun c o r => ?_⟩
  exact Heap.get?_push_of_some _ (Heap.get?_push_of_some _ (Heap.get?_push_of_some _ (Heap.get?_push_of_some _ (Heap.get?_push_of_some _ r))))
end
end OS
namespace OS
open PySem PySem.Spec PyProof.Rows L2
/-- a list (false) or a tuple (true) that is read -/
def SqB (kk : Bool) (K : PySem.W.Frag) (H : Hp) (a : Addr) (xs : List V) : Prop := match kk with | true => SqT K H a xs | false => SqL K H a xs
theorem SqB.same {kk : Bool} {K : PySem.W.Frag} {H H' : Hp} {a : Addr} {xs : List V} (h : SqB kk K H a xs) (s : Same H H') : SqB kk K H' a xs := by
  cases kk with
  | true => exact s.tupT h
  | false => exact s.seq h
theorem SqB.real {kk : Bool} {X : Cx} {pins : List (Addr × Obj)} {σ : L2.St} {H : Hp} {s : Shared} {a : Addr} {xs : List V} (I : Inv X pins σ H s) (h : SqB kk X.K H a xs) : ∃ its : List Value, Vals xs its ∧ SqS kk s.heap a its.toArray := by
  cases kk with
  | true =>
    obtain ⟨its, r, p, _⟩ := I.tuple h
    exact ⟨its, r, p⟩
  | false =>
    obtain ⟨its, r, p, _⟩ := I.list h
    exact ⟨its, r, p.isList⟩
theorem SqB.inj {kk : Bool} {X : Cx} {pins : List (Addr × Obj)} {σ : L2.St} {H : Hp} {s : Shared} {a : Addr} {xs ys : List V} (I : Inv X pins σ H s) (h : SqB kk X.K H a xs) (h' : SqB kk X.K H a ys) : xs = ys := by
  cases kk with
  | true => exact I.tuple_inj h h'
  | false => exact I.list_inj h h'
def ItzM (K : PySem.W.Frag) (c1 c2 : Bool) (a b : Addr) : It :=
  ⟨fun i H => ∃ (xs ys : List V) (x y : V), SqB c1 K H a xs ∧ SqB c2 K H b ys ∧ xs[i]? = some x ∧ ys[i]? = some y,
    fun i H v H' => ∃ T x y, v = .ref T ∧ H T = none ∧ H' = upd H T (.tup [x, y]) ∧ (∀ xs, SqB c1 K H a xs → xs[i]? = some x) ∧ ∀ ys, SqB c2 K H b ys → ys[i]? = some y,
    fun i H => ∃ xs ys : List V, SqB c1 K H a xs ∧ SqB c2 K H b ys ∧ (xs.length ≤ i ∨ ys.length ≤ i)⟩
theorem turn_zipM {P : Program} {w : World} {K : PySem.W.Frag} {elts : List Expr} {kk : Nat} {tpos : Pos} {c1 c2 : Bool} {a b z ti to i1 i2 : Addr} (D : ZipApart z ti to i1 i2 a b) :
    Turn P w K (.Tuple elts kk tpos) (ItzM K c1 c2 a b) [z, ti, to, i1, i2] z (fun i h => IsZip h z ti to .none ∧ IsPair h ti (.ref i1) (.ref i2) ∧ (∃ x y, IsPair h to x y) ∧ ItS c1 h i1 a i ∧ ItS c2 h i2 b i) where
  mem := by simp
  obj := fun i h st c hc => by
    obtain ⟨zz, pt, ⟨x, y, po⟩, j1, j2⟩ := st
    obtain ⟨o1, e1, _, d1⟩ := j1.obj
    obtain ⟨o2, e2, _, d2⟩ := j2.obj
    have e' : c = z ∨ c = ti ∨ c = to ∨ c = i1 ∨ c = i2 := by simpa using hc
    rcases e' with rfl | rfl | rfl | rfl | rfl
    · exact ⟨_, zz, fun v q => nomatch q⟩
    · exact ⟨_, pt, fun v q => nomatch q⟩
    · exact ⟨_, po, fun v q => nomatch q⟩
    · exact ⟨o1, e1, fun v q => by rw [d1] at q; cases q⟩
    · exact ⟨o2, e2, fun v q => by rw [d2] at q; cases q⟩
  keep := fun i h h' st k => by
    obtain ⟨zz, pt, ⟨x, y, po⟩, j1, j2⟩ := st
    exact ⟨k z (by simp) _ zz, k ti (by simp) _ pt, ⟨x, y, k to (by simp) _ po⟩, j1.at fun o q => k i1 (by simp) o q, j2.at fun o q => k i2 (by simp) o q⟩
  item := by
    intro X hP hw hK hc i pins s σ H E I hf st hg
    subst hP hw hK
    obtain ⟨zz, pt, ⟨x0, y0, po⟩, j1, j2⟩ := st
    obtain ⟨xs, ys, x, y, sx, sy, gx, gy⟩ := hg
    obtain ⟨its, rv, q1⟩ := sx.real I
    obtain ⟨its2, rv2, q2⟩ := sy.real I
    obtain ⟨u, hu, ru⟩ := rv.get gx
    obtain ⟨u2, hu2, ru2⟩ := rv2.get gy
    have zlt : z < s.heap.objs.size := Heap.lt_size zz
    refine zipS_next D zz pt po j1 j2 q1 q2 (x := u) (y := u2) (by simpa using hu) (by simpa using hu2) fun h' z' po' j1' j2' hT hsz keep => ?_
    refine ⟨_, rfl, wpAny_letOwnedTupleGo_zip (s := { s with heap := h' }) z' fun h'' z'' sb => ?_⟩
    have new2 : h''.get? s.heap.objs.size = some { cls := .type "tuple", data := .seq #[u, u2] } := (sb.2 _ (Nat.ne_of_gt zlt)).trans hT
    have new : ObjOk X.prog X.w (upd H s.heap.objs.size (.tup [x, y])) h'' s.heap.objs.size (.tup [x, y]) := ⟨by show 2 ≤ sizeLine; decide, [u, u2], .cons ru (.cons ru2 .nil), ⟨_, new2, rfl, _, rfl⟩⟩
    have all : ∀ c o, c ∉ [z, ti, to, i1, i2] → s.heap.get? c = some o → h''.get? c = some o := fun c o hb r => by
      have nb : c ≠ z ∧ c ≠ ti ∧ c ≠ to ∧ c ≠ i1 ∧ c ≠ i2 := by simpa using hb
      exact (sb.2 c nb.1).trans (keep c o nb.1 nb.2.2.1 nb.2.2.2.1 nb.2.2.2.2 r)
    have I1 : Inv X pins σ (upd H s.heap.objs.size (.tup [x, y])) { s with heap := h'' } := I.turnedNew (t' := s.toks) (ch := [z, ti, to, i1, i2]) all hf (Nat.le_refl _) new
    have told : (ItzM X.K c1 c2 a b).yld i H (.ref s.heap.objs.size) (upd H s.heap.objs.size (.tup [x, y])) :=
      ⟨_, x, y, rfl, I.hok.fresh (Nat.le_refl _), rfl, fun l hl => by rw [hl.inj I sx]; exact gx, fun l hl => by rw [hl.inj I sy]; exact gy⟩
    refine ⟨.ref s.heap.objs.size, _, I1, rfl, told, ⟨z'', (sb.2 _ D.TIz).trans (keep _ _ D.TIz D.TITO D.TIi1 D.TIi2 pt), ⟨u, u2, (sb.2 _ D.TOz).trans po'⟩, j1'.at fun o r => (sb.2 _ D.i1z).trans r, j2'.at fun o r => (sb.2 _ D.i2z).trans r⟩, fun c hcm => ?_⟩
    have clt : c < s.heap.objs.size := by
      obtain ⟨o1, e1, _⟩ := j1.obj
      obtain ⟨o2, e2, _⟩ := j2.obj
      have e' : c = z ∨ c = ti ∨ c = to ∨ c = i1 ∨ c = i2 := by simpa using hcm
      rcases e' with rfl | rfl | rfl | rfl | rfl
      · exact zlt
      · exact Heap.lt_size pt
      · exact Heap.lt_size po
      · exact Heap.lt_size e1
      · exact Heap.lt_size e2
    rw [upd_ne (Nat.ne_of_lt clt)]
    exact (hf c hcm).1
  done := by
    intro X hP hw hK hc i pins s σ H E I hf st hg
    subst hP hw hK
    obtain ⟨zz, pt, ⟨x0, y0, po⟩, j1, j2⟩ := st
    obtain ⟨xs, ys, sx, sy, hend⟩ := hg
    obtain ⟨its, rv, q1⟩ := sx.real I
    obtain ⟨its2, rv2, q2⟩ := sy.real I
    have n1 := rv.length
    have n2 := rv2.length
    have no : its.toArray[i]? = none ∨ its2.toArray[i]? = none := hend.imp (fun q => by simp; omega) fun q => by simp; omega
    refine zipS_stop (I.ok.hd hc) D zz pt po j1 j2 q1 q2 no fun h' keep => ⟨rfl, I.turnedL (t' := s.toks) (ch := [z, ti, to, i1, i2]) (fun c o hb r => ?_) hf⟩
    have nb : c ≠ z ∧ c ≠ ti ∧ c ≠ to ∧ c ≠ i1 ∧ c ≠ i2 := by simpa using hb
    exact keep c o nb.1 nb.2.2.1 nb.2.2.2.1 nb.2.2.2.2 r
  self := fun A i s Q E st h => wpAny_pyIter_zip st.1 h
/-- zip(a, b), each a list or a tuple -/
def iZipM (K : PySem.W.Frag) (ta : TA) : TI := fun σ H R => ta σ H fun vs H1 => ∃ a b, vs = [.ref a, .ref b] ∧ ∃ (c1 c2 : Bool) (xs ys : List V), SqB c1 K H1 a xs ∧ SqB c2 K H1 b ys ∧ R (ItzM K c1 c2 a b) H1
theorem pi_zipM {X : Cx} {e e2 : Expr} {ta : TA} {p pos tpos : Pos} {elts : List Expr} {kk : Nat} (hg : Gl X "zip") (hm : X.mg "zip" = none) (ha : PA X [e, e2] ta)
    (hs : starEach [e, e2] X.env = (false, eval e X.env) :: starEach [e2] X.env := by rfl) (hpl : (backTo pos (starEach [e2] X.env)).any (·.1) = false := by rfl) : PI X (.Tuple elts kk tpos) (.Call (.Name "zip" p) [e, e2] [] pos) (iZipM X.K ta) := by
  refine ⟨fun pins s σ H R I h => Call_ (ld_blt I hg hm PyProof.Rows.boot_zip (PyProof.Rows.callWith_type1 (thn (ha.run pos pins s σ H _ I h) fun us s1 ⟨vs, H1, I1, r1, a, b, ev, c1, c2, xs, ys, sx, sy, q⟩ => ?_) hs hpl))⟩
  subst ev
  obtain ⟨r, rr⟩ : ∃ u1 u2, us = [u1, u2] ∧ RelV (.ref a) u1 ∧ RelV (.ref b) u2 := by
    cases r1 with
    | cons r rr =>
      cases rr with
      | cons r' rr =>
        cases rr
        exact ⟨_, _, rfl, r, r'⟩
  obtain ⟨u2, rfl, r1, r2⟩ := rr
  cases r1
  cases r2
  obtain ⟨its, rv, q1⟩ := sx.real I1
  obtain ⟨its2, rv2, q2⟩ := sy.real I1
  refine call_zipS q1 q2 fun h' zz pt po j1 j2 hsz keep => wpAny_pyIter_zip zz ?_
  have I2 : Inv X pins σ H1 { s1 with heap := h' } := I1.kept (t' := s1.toks) keep
  refine ⟨s1.heap.objs.size + 4, [s1.heap.objs.size + 4, s1.heap.objs.size + 2, s1.heap.objs.size + 3, s1.heap.objs.size, s1.heap.objs.size + 1], _, _, H1, rfl, I2, turn_zipM (PySem.W.ktu_apart s1.heap.objs.size a b q1.lt q2.lt), ⟨zz, pt, ⟨_, _, po⟩, j1, j2⟩, fun c hcm => ?_, q⟩
  have le : s1.heap.objs.size ≤ c := by
    have e' : c = s1.heap.objs.size + 4 ∨ c = s1.heap.objs.size + 2 ∨ c = s1.heap.objs.size + 3 ∨ c = s1.heap.objs.size ∨ c = s1.heap.objs.size + 1 := by simpa using hcm
    unfold Addr at *
    omega
  exact I1.fpOk le (I1.hok.fresh le)
theorem walk_zipM {K : PySem.W.Frag} {c1 c2 : Bool} {a b : Addr} {xs ys : List V} {n : Nat} (hn : n = min xs.length ys.length) : Walk (ItzM K c1 c2 a b) n (fun H => SqB c1 K H a xs ∧ SqB c2 K H b ys) (YPair (fun i => xs[i]?) (fun i => ys[i]?)) :=
  ⟨fun i _ hi q => ⟨xs, ys, xs[i]'(by omega), ys[i]'(by omega), q.1, q.2, List.getElem?_eq_getElem _, List.getElem?_eq_getElem _⟩, fun _ q => ⟨xs, ys, q.1, q.2, by omega⟩, fun i H v H' _ q ⟨T, x, y, h1, h2, h3, h4, h5⟩ => ⟨T, x, y, h1, h2, h3, h4 xs q.1, h5 ys q.2⟩⟩
end OS
namespace OS
open PySem PySem.Spec PyProof.Rows L2
/-! ### a walk over a list or a tuple -/
def ItB (kk : Bool) (K : PySem.W.Frag) (a : Addr) : It := match kk with | true => Itt K a | false => Itl K a
theorem seq_go {kk : Bool} {K : PySem.W.Frag} {H : Hp} {a : Addr} {xs : List V} {R : It → Hp → Prop} (h : SqB kk K H a xs) (q : R (ItB kk K a) H) : ((∃ xs, SqL K H a xs) ∧ R (Itl K a) H) ∨ ((∃ xs, SqT K H a xs) ∧ R (Itt K a) H) := by
  cases kk with
  | true => exact .inr ⟨⟨_, h⟩, q⟩
  | false => exact .inl ⟨⟨_, h⟩, q⟩
theorem seq_or {kk : Bool} {K : PySem.W.Frag} {H : Hp} {a : Addr} {xs : List V} (h : SqB kk K H a xs) : SqL K H a xs ∨ SqT K H a xs := by
  cases kk with
  | true => exact .inr h
  | false => exact .inl h
theorem seq_of {K : PySem.W.Frag} {H : Hp} {a : Addr} {xs : List V} (h : SqL K H a xs ∨ SqT K H a xs) : ∃ kk, SqB kk K H a xs := h.elim (fun h => ⟨false, h⟩) fun h => ⟨true, h⟩
theorem walk_seq {kk : Bool} {K : PySem.W.Frag} {a : Addr} {xs : List V} : Walk (ItB kk K a) xs.length (fun H => SqB kk K H a xs) (fun i H x H' => H' = H ∧ xs[i]? = some x) := by
  cases kk with
  | true => exact walk_tup
  | false => exact walk_list
end OS
namespace OS
open PySem PySem.Spec PyProof.Rows L2
def iSeqB (K : PySem.W.Frag) (tl : TE) : TI := fun σ H R => tl σ H fun x H1 => ∃ a, x = .ref a ∧ ∃ (kk : Bool) (xs : List V), SqB kk K H1 a xs ∧ R (ItB kk K a) H1
theorem pi_seqB {X : Cx} {tg l : Expr} {tl : TE} (hl : PE X l tl) : PI X tg l (iSeqB X.K tl) := by
  constructor
  intro pins s σ H R I h
  refine thn (hl.run pins s σ H _ I h) fun v s1 ⟨x, H1, I1, r1, a, ex, kk, xs, hq, q⟩ => ?_
  subst ex
  cases r1
  have new : ∀ b, b ∈ [s1.heap.objs.size] → FpOk X pins H1 b := fun b hb => by
    rw [List.mem_singleton.mp hb]
    exact I1.fpOk (Nat.le_refl _) (I1.hok.fresh (Nat.le_refl _))
  cases kk with
  | false =>
    obtain ⟨its, _, p, _⟩ := I1.list hq
    refine wpAny_pyIter_list p.isList ⟨s1.heap.objs.size, [s1.heap.objs.size], _, _, H1, rfl, ?_, turn_list a _, ?_, new, q⟩
    · exact I1.kept (t' := s1.toks) fun b o e => Heap.get?_push_of_some _ e
    · exact ⟨_, Heap.get?_push_size _ rfl, rfl, rfl⟩
  | true =>
    obtain ⟨its, _, p, _⟩ := I1.tuple hq
    refine wpAny_pyIter_tuple (show s1.heap.IsTuple a its.toArray from p) ⟨s1.heap.objs.size, [s1.heap.objs.size], _, _, H1, rfl, ?_, turn_tuple a _, ?_, new, q⟩
    · exact I1.kept (t' := s1.toks) fun b o e => Heap.get?_push_of_some _ e
    · exact ⟨_, Heap.get?_push_size _ rfl, rfl, rfl⟩
end OS

set_option Elab.async false
set_option linter.all false
set_option maxRecDepth 100000
set_option maxHeartbeats 4000000
namespace OS
open PySem PySem.Spec PyProof.Rows L2
/-! an item of a list or a tuple -/
def rIxB (K : PySem.W.Frag) : R2 := fun x y H Q => ∃ p i, x = .ref p ∧ y = .int i ∧ ∃ (kk : Bool) (xs : List V) (v : V), SqB kk K H p xs ∧ atI xs i = some v ∧ Q v H
theorem ix_seqB {X : Cx} : IxR X (rIxB X.K) := by
  intro value slice pins s σ H x y v u Q I rx ry h hs
  obtain ⟨p, i, ex, ey, kk, xs, z, hq, he, q⟩ := h
  cases kk with
  | true => exact ix_tup value slice pins s σ H x y v u Q I rx ry ⟨p, xs, i, z, ex, ey, hq, he, q⟩ hs
  | false => exact ix_list value slice pins s σ H x y v u Q I rx ry ⟨p, xs, i, z, ex, ey, hq, he, q⟩ hs
/-- enumerate of a list or a tuple -/
def ItEB (kk : Bool) (K : PySem.W.Frag) (a : Addr) : It := match kk with | true => Itet K a | false => Ite K a
def iEnumB (K : PySem.W.Frag) (ta : TA) : TI := fun σ H R => ta σ H fun vs H1 => ∃ a, vs = [.ref a] ∧ ∃ (kk : Bool) (xs : List V), SqB kk K H1 a xs ∧ R (ItEB kk K a) H1
theorem pi_enumB {X : Cx} {e : Expr} {ta : TA} {p pos tpos : Pos} {elts : List Expr} {m : Nat} (hg : Gl X "enumerate") (hm : X.mg "enumerate" = none) (ha : PA X [e] ta) (hs : starEach [e] X.env = [(false, eval e X.env)] := by rfl) :
    PI X (.Tuple elts m tpos) (.Call (.Name "enumerate" p) [e] [] pos) (iEnumB X.K ta) := by
  refine ⟨fun pins s σ H R I h => Call_ (ld_blt I hg hm boot_enumerate (PyProof.Rows.callWith_type1 (thn (ha.run pos pins s σ H _ I h) fun us s1 ⟨vs, H1, I1, r1, a, ev, kk, xs, hq, q⟩ => ?_) hs rfl))⟩
  subst ev
  obtain ⟨rfl⟩ : us = [.ref a] := by
    cases r1 with
    | cons r rr =>
      cases rr
      cases r
      rfl
  have far : ∀ b ∈ [s1.heap.objs.size + 1, s1.heap.objs.size], FpOk X pins H1 b := fun b hb => by
    have le : s1.heap.objs.size ≤ b := by
      have : b = s1.heap.objs.size + 1 ∨ b = s1.heap.objs.size := by simpa using hb
      unfold Addr at *
      omega
    exact I1.fpOk le (I1.hok.fresh le)
  cases kk with
  | false =>
    obtain ⟨its, _, p', _⟩ := I1.list hq
    refine call_enumerate_list p'.isList fun h' he hit hsz keep => wpAny_pyIter_enum he ?_
    exact ⟨s1.heap.objs.size + 1, [s1.heap.objs.size + 1, s1.heap.objs.size], _, _, H1, rfl, I1.kept (t' := s1.toks) keep, turn_enum a _ _, ⟨⟨.none, he⟩, hit, Nat.succ_ne_self _⟩, far, q⟩
  | true =>
    obtain ⟨its, _, p', _⟩ := I1.tuple hq
    refine enum_one (begins_tuple a its.toArray) p' fun h' he hit hsz keep => wpAny_pyIter_enum he ?_
    exact ⟨s1.heap.objs.size + 1, [s1.heap.objs.size + 1, s1.heap.objs.size], _, _, H1, rfl, I1.kept (t' := s1.toks) keep, turn_enumT a _ _, ⟨⟨.none, he⟩, ⟨_, hit, rfl, rfl⟩, Nat.succ_ne_self _⟩, far, q⟩
theorem walk_enumB {kk : Bool} {K : PySem.W.Frag} {a : Addr} {xs : List V} : Walk (ItEB kk K a) xs.length (fun H => SqB kk K H a xs) (YPair (fun i => some (.int (i : Nat))) (fun i => xs[i]?)) := by
  cases kk with
  | true => exact walk_enumT
  | false => exact walk_enum
theorem atI_at {ns : List Int} {k : Nat} (h : k < ns.length) : atI (ns.map V.int) (k : Int) = some (.int (ns.getD k 0)) := by
  have e : (ns.map V.int)[k]? = some (.int (ns.getD k 0)) := by
    rw [List.getElem?_map, List.getD_eq_getElem?_getD, List.getElem?_eq_getElem h]
    rfl
  unfold atI ixN
  rw [if_pos (Int.natCast_nonneg k), if_pos (by simp; omega)]
  simpa using e
end OS

set_option Elab.async false
set_option linter.all false
set_option maxRecDepth 100000
set_option maxHeartbeats 4000000
namespace OS
open PySem PySem.Spec PyProof.Rows L2
/-! a list of anything against [] -/
def rNeNil (K : PySem.W.Frag) : R2 := fun x y H Q => ∃ a b zs, x = .ref a ∧ y = .ref b ∧ SqL K H a zs ∧ SqL K H b [] ∧ Q (.bl (!zs.isEmpty)) H
def rEqNil (K : PySem.W.Frag) : R2 := fun x y H Q => ∃ a b zs, x = .ref a ∧ y = .ref b ∧ SqL K H a zs ∧ SqL K H b [] ∧ Q (.bl zs.isEmpty) H
theorem op_neNil {X : Cx} (hu : X.A.units + 65 < cLine) : OpR X (compareOp .NotEq) (rNeNil X.K) := by
  intro pins s σ H x y v u Q I rx ry h
  obtain ⟨a, b, zs, rfl, rfl, ha, hb, q⟩ := h
  cases rx
  cases ry
  obtain ⟨us, r1, p1, _⟩ := I.list ha
  obtain ⟨ws, r2, p2, _⟩ := I.list hb
  cases r2
  have lt : X.A.units < cLine := by omega
  cases zs with
  | nil =>
    cases r1
    exact SeqAt.RcNeAt.lists (e := fun _ => true) p1.isList p2.isList rfl lt (fun j h1 h2 => absurd h2 (by simp)) X.prog X.w X.xe _ ⟨.bl _, H, I, rfl, q⟩
  | cons z zs =>
    cases r1
    exact SeqAt.RcNeAt.lists_lengths p1.isList p2.isList (by simp) lt X.prog X.w X.xe _ ⟨.bl _, H, I, rfl, q⟩
theorem op_eqNil {X : Cx} (hu : X.A.units + 65 < cLine) : OpR X (compareOp .Eq) (rEqNil X.K) := by
  intro pins s σ H x y v u Q I rx ry h
  obtain ⟨a, b, zs, rfl, rfl, ha, hb, q⟩ := h
  cases rx
  cases ry
  obtain ⟨us, r1, p1, _⟩ := I.list ha
  obtain ⟨ws, r2, p2, _⟩ := I.list hb
  cases r2
  have lt : X.A.units < cLine := by omega
  cases zs with
  | nil =>
    cases r1
    exact SeqAt.RcAt.lists (e := fun _ => true) p1.isList p2.isList rfl lt (fun j h1 h2 => absurd h2 (by simp)) X.prog X.w X.xe _ ⟨.bl _, H, I, rfl, q⟩
  | cons z zs =>
    cases r1
    exact SeqAt.RcAt.lists_lengths p1.isList p2.isList (by simp) lt X.prog X.w X.xe _ ⟨.bl _, H, I, rfl, q⟩
end OS

set_option Elab.async false
set_option linter.all false
set_option maxRecDepth 100000
set_option maxHeartbeats 4000000
/-! anything in a list or tuple of ints -/
namespace PySem.OSS
open PySem.SeqAt AutoSeq1 MeetsSeq PySem.Calls
theorem int_no_dict (b : Int) (u : Tok) (l : Addr) (c : Value) (es : Array DictEntry) (n : Nat) (dd : Option Addr) (sl : Array (Option Value)) :
    Meets (Builtin.«int.__eq__» ⟨[.int b u, .ref l], []⟩) (fun _ R s => s.heap.get? l = some { cls := c, dict := dd, data := .dict es n, slots := sl } ∧ R (.ok (.ret .notImplemented)) s) :=
  .of_wp fun prog w A R s h => by
    obtain ⟨hp, g, d, tk, os⟩ := s
    obtain ⟨hl, h⟩ := h
    wp_walk using wpAny_loadPart' hl, wpAny_load hl
    exact ⟨_, rfl, h⟩
theorem dict_no_int (l : Addr) (es : Array DictEntry) (n : Nat) (dd : Option Addr) (sl : Array (Option Value)) (b : Int) (u : Tok) :
    Meets (Builtin.«dict.__eq__» ⟨[.ref l, .int b u], []⟩) (fun _ R s => s.heap.get? l = some { cls := .type "dict", dict := dd, data := .dict es n, slots := sl } ∧ R (.ok (.ret .notImplemented)) s) :=
  .of_wp fun prog w A R s h => by
    obtain ⟨hp, g, d, tk, os⟩ := s
    obtain ⟨hl, h⟩ := h
    have f1 := F.sub_int_dict
    wp_walk using wpAny_loadPart' hl
    exact ⟨_, rfl, h⟩
section
variable {A : Around} {s : Shared}
theorem rcAt_int_dict {l : Addr} {es : Array DictEntry} {n : Nat} {dd : Option Addr} {sl : Array (Option Value)} (b : Int) (u : Tok) (ho : s.heap.get? l = some { cls := .type "dict", dict := dd, data := .dict es n, slots := sl }) (hu : A.units < cLine) : RcAt A s (.int b u) (.ref l) false := fun prog w E Q h => by
  refine rc_eq_decline_or (k := false) (typeIs_int s b u) ⟨_, ho, rfl⟩ (by decide) F.sub_dict_int F.slot_int_eq F.slot_dict_eq_refl ?_ ?_ (fun _ hq => wpAny_of_eq (rfl : isSame (.int b u) (.ref l) = pure false) hq) (.inr hu) h
  · exact fun _ hq => call_meets F.slot_int_eq (typeIs_int s b u) F.entry_int_eq (F.args_int_eq_2 _ _) (int_no_dict b u l (.type "dict") es n dd sl) ⟨ho, hq⟩
  · exact fun _ hq => call_meets F.slot_dict_eq_refl ⟨_, ho, rfl⟩ F.entry_dict_eq (F.args_dict_eq_2 _ _) (dict_no_int l es n dd sl b u) ⟨ho, hq⟩
theorem eqAt_int_dict {l : Addr} {es : Array DictEntry} {n : Nat} {dd : Option Addr} {sl : Array (Option Value)} (b : Int) (u : Tok) (ho : s.heap.get? l = some { cls := .type "dict", dict := dd, data := .dict es n, slots := sl }) (hu : A.units < cLine) : EqAt A s (.int b u) (.ref l) false := fun prog w E Q h => by
  unfold eqBool
  exact wpAny_holding (wpAny_ite_split (fun hab => absurd (eq_of_beq hab) nofun) fun _ => wpAny_bind (rcAt_int_dict b u ho hu prog w E _ (wpAny_truthy_bool h)))
end
end PySem.OSS
namespace OS
open PySem PySem.Spec PyProof.Rows L2 PySem.OSS
/-- the int i equals the value -/
def eqIV (x : V) (i : Int) : Bool := match x with | .int j => i == j | .bl b => i == (if b then 1 else 0) | _ => false
def eqIU (x : V) : Value → Bool | .int i _ => eqIV x i | _ => false
section
variable {X : Cx} {pins : List (Addr × Obj)} {σ : L2.St} {H : Hp} {s : Shared}
theorem int_eqAt (I : Inv X pins σ H s) {A : Around} (hu : A.units < cLine) {x : V} {v : Value} (hx : Itm X.K H x) (rx : RelV x v) (i : Int) (t : Tok) : SeqAt.EqAt A s (.int i t) v (eqIV x i) := by
  cases hx with
  | flat f =>
    cases x with
    | non => cases rx; exact SeqAt.EqAt.int_none i t
    | bl b => cases rx; exact SeqAt.EqAt.int_bool i t b
    | int j => obtain ⟨k, rfl⟩ := rx; exact SeqAt.EqAt.int_int i t j k
    | str z => obtain ⟨k, rfl⟩ := rx; exact SeqAt.EqAt.int_str i t z k
    | _ => exact absurd (show false = true from f) Bool.false_ne_true
  | lst h =>
    cases rx
    obtain ⟨_, _, pl, _⟩ := I.list h
    exact SeqAt.EqAt.int_list i t pl.isList hu
  | tup h =>
    cases rx
    obtain ⟨_, _, pl, _⟩ := I.tuple h
    exact SeqAt.EqAt.int_tuple i t pl hu
  | dct h =>
    cases rx
    obtain ⟨_, _, vs, _, o, es, ep, ho, ⟨h1, h2, h3⟩, h4, _⟩ := I.hok _ _ h
    obtain ⟨cls, dd, data, sl⟩ := o
    simp only at h1 h4
    subst h1 h4
    exact eqAt_int_dict i t ho hu
theorem any_eqIU {x : V} : ∀ {ns : List Int} {us : List Value}, Vals (ns.map V.int) us → us.any (eqIU x) = ns.any (eqIV x)
  | [], _, r => by cases r; rfl
  | n :: ns, _, r => by
    cases r with
    | cons r t =>
      obtain ⟨k, rfl⟩ := r
      rw [List.any_cons, List.any_cons, any_eqIU t]
      rfl
theorem mem_int : ∀ {ns : List Int} {us : List Value}, Vals (ns.map V.int) us → ∀ u ∈ us, ∃ i t, u = .int i t
  | [], _, r, u, h => by cases r; cases h
  | n :: ns, _, r, u, h => by
    cases r with
    | cons r t =>
      rcases List.mem_cons.mp h with rfl | h
      · obtain ⟨k, rfl⟩ := r
        exact ⟨_, _, rfl⟩
      · exact mem_int t u h
/-- anything not in a list or tuple of ints -/
def rNotInI (K : PySem.W.Frag) : R2 := fun x y H Q => ∃ (p : Addr) (ns : List Int), y = .ref p ∧ Itm K H x ∧ (SqL K H p (ns.map V.int) ∨ SqT K H p (ns.map V.int)) ∧ Q (.bl (!ns.any (eqIV x))) H
theorem op_notInI (hu : X.A.units + 65 < cLine) : OpR X (compareOp .NotIn) (rNotInI X.K) := by
  intro pins s σ H x y v u Q I rx ry h
  obtain ⟨p, ns, rfl, hx, hq, q⟩ := h
  cases ry
  have hu1 : X.A.in1.units < cLine := by
    show X.A.units + 1 < cLine
    omega
  rcases hq with hq | hq
  · obtain ⟨its, r, pl, hz⟩ := I.list hq
    refine SeqAt.notIn_listAt (eqIU x) pl.isList (fun w hw => ?_) ⟨.bl _, H, I, rfl, ?_⟩
    · obtain ⟨i, t, rfl⟩ := mem_int r w (by simpa using hw)
      exact int_eqAt I hu1 hx rx i t
    · rw [show its.toArray.any (eqIU x) = its.any (eqIU x) by simp, any_eqIU r]
      exact q
  · obtain ⟨its, r, pl, hz⟩ := I.tuple hq
    refine SeqAt.notIn_tupleAt (eqIU x) pl (fun w hw => ?_) ⟨.bl _, H, I, rfl, ?_⟩
    · obtain ⟨i, t, rfl⟩ := mem_int r w (by simpa using hw)
      exact int_eqAt I hu1 hx rx i t
    · rw [show its.toArray.any (eqIU x) = its.any (eqIU x) by simp, any_eqIU r]
      exact q
end
end OS

set_option Elab.async false
set_option linter.all false
set_option maxRecDepth 100000
set_option maxHeartbeats 4000000
namespace P
open PySem PySem.Spec PyProof.Rows L2 OS
def top (i : Nat) : Stmt := PySem.Challenge.pw_openshares_k16_whole_factors_or_blind_ro.main.body.getD i (.Pass ⟨0, 0, 0, 0⟩)
abbrev s_BadCount__init_ : Stmt := inClass (top 2) 0
abbrev N_BadCount__init_ : List Str := ["self", "count"]
theorem sc_BadCount__init_ : FnScope N_BadCount__init_ ["self", "count"] (defScope s_BadCount__init_) := ⟨rfl, rfl, rfl, by decide +kernel, rfl, by decide +kernel, by decide +kernel⟩
abbrev s_BadPrime__init_ : Stmt := inClass (top 3) 0
abbrev N_BadPrime__init_ : List Str := ["self", "number"]
theorem sc_BadPrime__init_ : FnScope N_BadPrime__init_ ["self", "number"] (defScope s_BadPrime__init_) := ⟨rfl, rfl, rfl, by decide +kernel, rfl, by decide +kernel, by decide +kernel⟩
abbrev s_BadRow__init_ : Stmt := inClass (top 4) 0
abbrev N_BadRow__init_ : List Str := ["self", "value"]
theorem sc_BadRow__init_ : FnScope N_BadRow__init_ ["self", "value"] (defScope s_BadRow__init_) := ⟨rfl, rfl, rfl, by decide +kernel, rfl, by decide +kernel, by decide +kernel⟩
abbrev s_check_prime : Stmt := top 8
abbrev N_check_prime : List Str := ["prime"]
theorem sc_check_prime : FnScope N_check_prime ["prime"] (defScope s_check_prime) := ⟨rfl, rfl, rfl, by decide +kernel, rfl, by decide +kernel, by decide +kernel⟩
abbrev s_is_whole : Stmt := top 9
abbrev N_is_whole : List Str := ["value"]
theorem sc_is_whole : FnScope N_is_whole ["value"] (defScope s_is_whole) := ⟨rfl, rfl, rfl, by decide +kernel, rfl, by decide +kernel, by decide +kernel⟩
abbrev s_is_number : Stmt := top 10
abbrev N_is_number : List Str := ["prime", "value"]
theorem sc_is_number : FnScope N_is_number ["prime", "value"] (defScope s_is_number) := ⟨rfl, rfl, rfl, by decide +kernel, rfl, by decide +kernel, by decide +kernel⟩
abbrev s_has_numbers : Stmt := top 11
abbrev N_has_numbers : List Str := ["prime", "value", "many", "item"]
theorem sc_has_numbers : FnScope N_has_numbers ["prime", "value", "many"] (defScope s_has_numbers) := ⟨rfl, rfl, rfl, by decide +kernel, rfl, by decide +kernel, by decide +kernel⟩
abbrev s_check_rows : Stmt := top 12
abbrev N_check_rows : List Str := ["prime", "values", "width", "value"]
theorem sc_check_rows : FnScope N_check_rows ["prime", "values"] (defScope s_check_rows) := ⟨rfl, rfl, rfl, by decide +kernel, rfl, by decide +kernel, by decide +kernel⟩
abbrev s_check_width : Stmt := top 13
abbrev N_check_width : List Str := ["width", "rows", "row"]
theorem sc_check_width : FnScope N_check_width ["width", "rows"] (defScope s_check_width) := ⟨rfl, rfl, rfl, by decide +kernel, rfl, by decide +kernel, by decide +kernel⟩
abbrev s_goal_row : Stmt := top 14
abbrev N_goal_row : List Str := ["width"]
theorem sc_goal_row : FnScope N_goal_row ["width"] (defScope s_goal_row) := ⟨rfl, rfl, rfl, by decide +kernel, rfl, by decide +kernel, by decide +kernel⟩
abbrev s_factors_for : Stmt := top 15
abbrev N_factors_for : List Str := ["prime", "rows", "goal", "equations", "row", "at"]
theorem sc_factors_for : FnScope N_factors_for ["prime", "rows", "goal"] (defScope s_factors_for) := ⟨rfl, rfl, rfl, by decide +kernel, rfl, by decide +kernel, by decide +kernel⟩
abbrev s_blind_row : Stmt := top 16
abbrev N_blind_row : List Str := ["prime", "rows", "width", "equations", "row", "found"]
theorem sc_blind_row : FnScope N_blind_row ["prime", "rows", "width"] (defScope s_blind_row) := ⟨rfl, rfl, rfl, by decide +kernel, rfl, by decide +kernel, by decide +kernel⟩
abbrev s_solved : Stmt := top 17
abbrev N_solved : List Str := ["prime", "equations", "many", "found", "numbers", "lead", "equation"]
theorem sc_solved : FnScope N_solved ["prime", "equations", "many"] (defScope s_solved) := ⟨rfl, rfl, rfl, by decide +kernel, rfl, by decide +kernel, by decide +kernel⟩
abbrev s_is_unsolvable : Stmt := top 18
abbrev N_is_unsolvable : List Str := ["found", "many", "lead", "equation"]
theorem sc_is_unsolvable : FnScope N_is_unsolvable ["found", "many"] (defScope s_is_unsolvable) := ⟨rfl, rfl, rfl, by decide +kernel, rfl, by decide +kernel, by decide +kernel⟩
abbrev s_reduced : Stmt := top 19
abbrev N_reduced : List Str := ["prime", "rows", "found", "row", "left", "lead", "known", "places", "at", "number", "first", "factor", "fresh"]
theorem sc_reduced : FnScope N_reduced ["prime", "rows"] (defScope s_reduced) := ⟨rfl, rfl, rfl, by decide +kernel, rfl, by decide +kernel, by decide +kernel⟩
abbrev s_less : Stmt := top 20
abbrev N_less : List Str := ["prime", "row", "factor", "other", "number", "taken"]
theorem sc_less : FnScope N_less ["prime", "row", "factor", "other"] (defScope s_less) := ⟨rfl, rfl, rfl, by decide +kernel, rfl, by decide +kernel, by decide +kernel⟩
abbrev s_inverse : Stmt := top 21
abbrev N_inverse : List Str := ["prime", "number", "other"]
theorem sc_inverse : FnScope N_inverse ["prime", "number"] (defScope s_inverse) := ⟨rfl, rfl, rfl, by decide +kernel, rfl, by decide +kernel, by decide +kernel⟩
abbrev s_law_start : Stmt := top 23
abbrev N_law_start : List Str := ["_law_script", "_law_cell"]
theorem sc_law_start : FnScope N_law_start ["_law_script"] (defScope s_law_start) := ⟨rfl, rfl, rfl, by decide +kernel, rfl, by decide +kernel, by decide +kernel⟩
abbrev s_law_draw : Stmt := top 24
abbrev N_law_draw : List Str := ["_law_state", "_law_size", "_law_digit", "_law_cell", "_law_one"]
theorem sc_law_draw : FnScope N_law_draw ["_law_state", "_law_size"] (defScope s_law_draw) := ⟨rfl, rfl, rfl, by decide +kernel, rfl, by decide +kernel, by decide +kernel⟩
abbrev s_law_prime : Stmt := top 25
abbrev N_law_prime : List Str := ["_law_state"]
theorem sc_law_prime : FnScope N_law_prime ["_law_state"] (defScope s_law_prime) := ⟨rfl, rfl, rfl, by decide +kernel, rfl, by decide +kernel, by decide +kernel⟩
abbrev s_law_rows : Stmt := top 26
abbrev N_law_rows : List Str := ["_law_state", "_law_modulus", "_law_span1", "_law_count", "_law_table1", "_law_turn", "_law_row", "_law_k", "_law_plan"]
theorem sc_law_rows : FnScope N_law_rows ["_law_state", "_law_modulus", "_law_span1", "_law_count"] (defScope s_law_rows) := ⟨rfl, rfl, rfl, by decide +kernel, rfl, by decide +kernel, by decide +kernel⟩
abbrev s_law_product : Stmt := top 27
abbrev N_law_product : List Str := ["_law_modulus", "_law_one", "_law_two", "_law_k"]
theorem sc_law_product : FnScope N_law_product ["_law_modulus", "_law_one", "_law_two"] (defScope s_law_product) := ⟨rfl, rfl, rfl, by decide +kernel, rfl, by decide +kernel, by decide +kernel⟩
abbrev s_law_sum : Stmt := top 28
abbrev N_law_sum : List Str := ["_law_modulus", "_law_factors", "_law_table1", "_law_span1", "_law_k", "_law_j"]
theorem sc_law_sum : FnScope N_law_sum ["_law_modulus", "_law_factors", "_law_table1", "_law_span1"] (defScope s_law_sum) := ⟨rfl, rfl, rfl, by decide +kernel, rfl, by decide +kernel, by decide +kernel⟩
abbrev s_law_cleared : Stmt := top 29
abbrev N_law_cleared : List Str := ["_law_modulus", "_law_table1", "_law_span1", "_law_left", "_law_row", "_law_found", "_law_j", "_law_heads", "_law_k", "_law_head", "_law_turn", "_law_cell"]
theorem sc_law_cleared : FnScope N_law_cleared ["_law_modulus", "_law_table1", "_law_span1"] (defScope s_law_cleared) := ⟨rfl, rfl, rfl, by decide +kernel, rfl, by decide +kernel, by decide +kernel⟩
abbrev s_law_rank : Stmt := top 30
abbrev N_law_rank : List Str := ["_law_modulus", "_law_table1", "_law_span1"]
theorem sc_law_rank : FnScope N_law_rank ["_law_modulus", "_law_table1", "_law_span1"] (defScope s_law_rank) := ⟨rfl, rfl, rfl, by decide +kernel, rfl, by decide +kernel, by decide +kernel⟩
abbrev s_law_told : Stmt := top 31
abbrev N_law_told : List Str := ["_law_plan", "_law_modulus", "_law_table1", "_law_thing", "e"]
theorem sc_law_told : FnScope N_law_told ["_law_plan", "_law_modulus", "_law_table1", "_law_thing"] (defScope s_law_told) := ⟨rfl, rfl, rfl, by decide +kernel, rfl, by decide +kernel, by decide +kernel⟩
abbrev s_law_right : Stmt := top 32
abbrev N_law_right : List Str := ["_law_modulus", "_law_table1", "_law_aim1", "_law_span1", "_law_passed", "_law_told_here", "_law_reach", "_law_item", "_law_first", "_law_blind", "_law_row"]
theorem sc_law_right : FnScope N_law_right ["_law_modulus", "_law_table1", "_law_aim1", "_law_span1"] (defScope s_law_right) := ⟨rfl, rfl, rfl, by decide +kernel, rfl, by decide +kernel, by decide +kernel⟩
abbrev s_law_wide_blind : Stmt := top 33
abbrev N_law_wide_blind : List Str := ["_law_modulus", "_law_told_here", "_law_item"]
theorem sc_law_wide_blind : FnScope N_law_wide_blind ["_law_modulus"] (defScope s_law_wide_blind) := ⟨rfl, rfl, rfl, by decide +kernel, rfl, by decide +kernel, by decide +kernel⟩
abbrev s_law_odd_row_first : Stmt := top 34
abbrev N_law_odd_row_first : List Str := ["_law_state", "_law_modulus", "_law_table1", "_law_aim1", "_law_odd", "_law_first", "_law_second", "_law_spot", "_law_mixed", "_law_plan", "_law_thing"]
theorem sc_law_odd_row_first : FnScope N_law_odd_row_first ["_law_state", "_law_modulus", "_law_table1", "_law_aim1"] (defScope s_law_odd_row_first) := ⟨rfl, rfl, rfl, by decide +kernel, rfl, by decide +kernel, by decide +kernel⟩
abbrev s_law_refused : Stmt := top 35
abbrev N_law_refused : List Str := ["_law_state", "_law_modulus", "_law_table1", "_law_span1", "_law_aim1", "_law_k", "_law_odd"]
theorem sc_law_refused : FnScope N_law_refused ["_law_state", "_law_modulus", "_law_table1", "_law_span1"] (defScope s_law_refused) := ⟨rfl, rfl, rfl, by decide +kernel, rfl, by decide +kernel, by decide +kernel⟩
abbrev s_law : Stmt := top 36
abbrev N_law : List Str := ["_law_script", "_law_state", "_law_lists", "_law_turn", "_law_modulus", "_law_span1", "_law_table1", "_law_aim1", "_law_k", "_law_plan", "_law_row"]
theorem sc_law : FnScope N_law ["_law_script"] (defScope s_law) := ⟨rfl, rfl, rfl, by decide +kernel, rfl, by decide +kernel, by decide +kernel⟩

structure Txt (K : PySem.W.Frag) (mg : Str → Option Value) where
  f_BadCount__init_ : Addr
  fd_BadCount__init_ : FuncData
  F_BadCount__init_ : Fun K "__init__" "BadCount.__init__" s_BadCount__init_ f_BadCount__init_ fd_BadCount__init_
  b_BadCount__init_ : Binds K fd_BadCount__init_ ["self", "count"] []
  f_BadPrime__init_ : Addr
  fd_BadPrime__init_ : FuncData
  F_BadPrime__init_ : Fun K "__init__" "BadPrime.__init__" s_BadPrime__init_ f_BadPrime__init_ fd_BadPrime__init_
  b_BadPrime__init_ : Binds K fd_BadPrime__init_ ["self", "number"] []
  f_BadRow__init_ : Addr
  fd_BadRow__init_ : FuncData
  F_BadRow__init_ : Fun K "__init__" "BadRow.__init__" s_BadRow__init_ f_BadRow__init_ fd_BadRow__init_
  b_BadRow__init_ : Binds K fd_BadRow__init_ ["self", "value"] []
  f_check_prime : Addr
  fd_check_prime : FuncData
  F_check_prime : Fun K "check_prime" "check_prime" s_check_prime f_check_prime fd_check_prime
  b_check_prime : Binds K fd_check_prime ["prime"] []
  g_check_prime : mg "check_prime" = some (.ref f_check_prime)
  f_is_whole : Addr
  fd_is_whole : FuncData
  F_is_whole : Fun K "is_whole" "is_whole" s_is_whole f_is_whole fd_is_whole
  b_is_whole : Binds K fd_is_whole ["value"] []
  g_is_whole : mg "is_whole" = some (.ref f_is_whole)
  f_is_number : Addr
  fd_is_number : FuncData
  F_is_number : Fun K "is_number" "is_number" s_is_number f_is_number fd_is_number
  b_is_number : Binds K fd_is_number ["prime", "value"] []
  g_is_number : mg "is_number" = some (.ref f_is_number)
  f_has_numbers : Addr
  fd_has_numbers : FuncData
  F_has_numbers : Fun K "has_numbers" "has_numbers" s_has_numbers f_has_numbers fd_has_numbers
  b_has_numbers : Binds K fd_has_numbers ["prime", "value", "many"] []
  g_has_numbers : mg "has_numbers" = some (.ref f_has_numbers)
  f_check_rows : Addr
  fd_check_rows : FuncData
  F_check_rows : Fun K "check_rows" "check_rows" s_check_rows f_check_rows fd_check_rows
  b_check_rows : Binds K fd_check_rows ["prime", "values"] []
  g_check_rows : mg "check_rows" = some (.ref f_check_rows)
  f_check_width : Addr
  fd_check_width : FuncData
  F_check_width : Fun K "check_width" "check_width" s_check_width f_check_width fd_check_width
  b_check_width : Binds K fd_check_width ["width", "rows"] []
  g_check_width : mg "check_width" = some (.ref f_check_width)
  f_goal_row : Addr
  fd_goal_row : FuncData
  F_goal_row : Fun K "goal_row" "goal_row" s_goal_row f_goal_row fd_goal_row
  b_goal_row : Binds K fd_goal_row ["width"] []
  g_goal_row : mg "goal_row" = some (.ref f_goal_row)
  f_factors_for : Addr
  fd_factors_for : FuncData
  F_factors_for : Fun K "factors_for" "factors_for" s_factors_for f_factors_for fd_factors_for
  b_factors_for : Binds K fd_factors_for ["prime", "rows", "goal"] []
  g_factors_for : mg "factors_for" = some (.ref f_factors_for)
  f_blind_row : Addr
  fd_blind_row : FuncData
  F_blind_row : Fun K "blind_row" "blind_row" s_blind_row f_blind_row fd_blind_row
  b_blind_row : Binds K fd_blind_row ["prime", "rows", "width"] []
  g_blind_row : mg "blind_row" = some (.ref f_blind_row)
  f_solved : Addr
  fd_solved : FuncData
  F_solved : Fun K "solved" "solved" s_solved f_solved fd_solved
  b_solved : Binds K fd_solved ["prime", "equations", "many"] []
  g_solved : mg "solved" = some (.ref f_solved)
  f_is_unsolvable : Addr
  fd_is_unsolvable : FuncData
  F_is_unsolvable : Fun K "is_unsolvable" "is_unsolvable" s_is_unsolvable f_is_unsolvable fd_is_unsolvable
  b_is_unsolvable : Binds K fd_is_unsolvable ["found", "many"] []
  g_is_unsolvable : mg "is_unsolvable" = some (.ref f_is_unsolvable)
  f_reduced : Addr
  fd_reduced : FuncData
  F_reduced : Fun K "reduced" "reduced" s_reduced f_reduced fd_reduced
  b_reduced : Binds K fd_reduced ["prime", "rows"] []
  g_reduced : mg "reduced" = some (.ref f_reduced)
  f_less : Addr
  fd_less : FuncData
  F_less : Fun K "less" "less" s_less f_less fd_less
  b_less : Binds K fd_less ["prime", "row", "factor", "other"] []
  g_less : mg "less" = some (.ref f_less)
  f_inverse : Addr
  fd_inverse : FuncData
  F_inverse : Fun K "inverse" "inverse" s_inverse f_inverse fd_inverse
  b_inverse : Binds K fd_inverse ["prime", "number"] []
  g_inverse : mg "inverse" = some (.ref f_inverse)
  f_law_start : Addr
  fd_law_start : FuncData
  F_law_start : Fun K "_law_start" "_law_start" s_law_start f_law_start fd_law_start
  b_law_start : Binds K fd_law_start ["_law_script"] []
  g_law_start : mg "_law_start" = some (.ref f_law_start)
  f_law_draw : Addr
  fd_law_draw : FuncData
  F_law_draw : Fun K "_law_draw" "_law_draw" s_law_draw f_law_draw fd_law_draw
  b_law_draw : Binds K fd_law_draw ["_law_state", "_law_size"] []
  g_law_draw : mg "_law_draw" = some (.ref f_law_draw)
  f_law_prime : Addr
  fd_law_prime : FuncData
  F_law_prime : Fun K "_law_prime" "_law_prime" s_law_prime f_law_prime fd_law_prime
  b_law_prime : Binds K fd_law_prime ["_law_state"] []
  g_law_prime : mg "_law_prime" = some (.ref f_law_prime)
  f_law_rows : Addr
  fd_law_rows : FuncData
  F_law_rows : Fun K "_law_rows" "_law_rows" s_law_rows f_law_rows fd_law_rows
  b_law_rows : Binds K fd_law_rows ["_law_state", "_law_modulus", "_law_span1", "_law_count"] []
  g_law_rows : mg "_law_rows" = some (.ref f_law_rows)
  f_law_product : Addr
  fd_law_product : FuncData
  F_law_product : Fun K "_law_product" "_law_product" s_law_product f_law_product fd_law_product
  b_law_product : Binds K fd_law_product ["_law_modulus", "_law_one", "_law_two"] []
  g_law_product : mg "_law_product" = some (.ref f_law_product)
  f_law_sum : Addr
  fd_law_sum : FuncData
  F_law_sum : Fun K "_law_sum" "_law_sum" s_law_sum f_law_sum fd_law_sum
  b_law_sum : Binds K fd_law_sum ["_law_modulus", "_law_factors", "_law_table1", "_law_span1"] []
  g_law_sum : mg "_law_sum" = some (.ref f_law_sum)
  f_law_cleared : Addr
  fd_law_cleared : FuncData
  F_law_cleared : Fun K "_law_cleared" "_law_cleared" s_law_cleared f_law_cleared fd_law_cleared
  b_law_cleared : Binds K fd_law_cleared ["_law_modulus", "_law_table1", "_law_span1"] []
  g_law_cleared : mg "_law_cleared" = some (.ref f_law_cleared)
  f_law_rank : Addr
  fd_law_rank : FuncData
  F_law_rank : Fun K "_law_rank" "_law_rank" s_law_rank f_law_rank fd_law_rank
  b_law_rank : Binds K fd_law_rank ["_law_modulus", "_law_table1", "_law_span1"] []
  g_law_rank : mg "_law_rank" = some (.ref f_law_rank)
  f_law_told : Addr
  fd_law_told : FuncData
  F_law_told : Fun K "_law_told" "_law_told" s_law_told f_law_told fd_law_told
  b_law_told : Binds K fd_law_told ["_law_plan", "_law_modulus", "_law_table1", "_law_thing"] []
  g_law_told : mg "_law_told" = some (.ref f_law_told)
  f_law_right : Addr
  fd_law_right : FuncData
  F_law_right : Fun K "_law_right" "_law_right" s_law_right f_law_right fd_law_right
  b_law_right : Binds K fd_law_right ["_law_modulus", "_law_table1", "_law_aim1", "_law_span1"] []
  g_law_right : mg "_law_right" = some (.ref f_law_right)
  f_law_wide_blind : Addr
  fd_law_wide_blind : FuncData
  F_law_wide_blind : Fun K "_law_wide_blind" "_law_wide_blind" s_law_wide_blind f_law_wide_blind fd_law_wide_blind
  b_law_wide_blind : Binds K fd_law_wide_blind ["_law_modulus"] []
  g_law_wide_blind : mg "_law_wide_blind" = some (.ref f_law_wide_blind)
  f_law_odd_row_first : Addr
  fd_law_odd_row_first : FuncData
  F_law_odd_row_first : Fun K "_law_odd_row_first" "_law_odd_row_first" s_law_odd_row_first f_law_odd_row_first fd_law_odd_row_first
  b_law_odd_row_first : Binds K fd_law_odd_row_first ["_law_state", "_law_modulus", "_law_table1", "_law_aim1"] []
  g_law_odd_row_first : mg "_law_odd_row_first" = some (.ref f_law_odd_row_first)
  f_law_refused : Addr
  fd_law_refused : FuncData
  F_law_refused : Fun K "_law_refused" "_law_refused" s_law_refused f_law_refused fd_law_refused
  b_law_refused : Binds K fd_law_refused ["_law_state", "_law_modulus", "_law_table1", "_law_span1"] []
  g_law_refused : mg "_law_refused" = some (.ref f_law_refused)
  f_law : Addr
  fd_law : FuncData
  F_law : Fun K "law" "law" s_law f_law fd_law
  b_law : Binds K fd_law ["_law_script"] []
  g_law : mg "law" = some (.ref f_law)
  t_MOST_WIDTH : Tok
  c_MOST_WIDTH : mg "MOST_WIDTH" = some (.int 40 t_MOST_WIDTH)
  n_len : mg "len" = none
  n_all : mg "all" = none
  n_any : mg "any" = none
  n_list : mg "list" = none
  n_int : mg "int" = none
  n_range : mg "range" = none
  n_isinstance : mg "isinstance" = none
  n_tuple : mg "tuple" = none
  n_zip : mg "zip" = none
  n_sum : mg "sum" = none
  n_max : mg "max" = none
  n_bool : mg "bool" = none
  n_enumerate : mg "enumerate" = none
  n_abs : mg "abs" = none
  kb_factors_for_goal_prime_rows : KBinds K fd_factors_for ["prime", "rows", "goal"] ["goal", "prime", "rows"] (fun us ws => match us, ws with | [], [x0, x1, x2] => [x1, x2, x0] | _, _ => List.replicate 4 Value.none) (fun us ws => match us, ws with | [], [x0, x1, x2] => [x1, x2, x0] | _, _ => List.replicate 4 V.non)
  kb_blind_row_width_rows_prime : KBinds K fd_blind_row ["prime", "rows", "width"] ["width", "rows", "prime"] (fun us ws => match us, ws with | [], [x0, x1, x2] => [x2, x1, x0] | _, _ => List.replicate 4 Value.none) (fun us ws => match us, ws with | [], [x0, x1, x2] => [x2, x1, x0] | _, _ => List.replicate 4 V.non)
  C_BadCount : Addr
  g_BadCount : mg "BadCount" = some (.ref C_BadCount)
  er_BadCount : ErrT K C_BadCount
  iC_BadCount : PySem.W.findIn K (.ref C_BadCount) "__init__" = some (some (.ref f_BadCount__init_))
  tI_BadCount : PySem.W.typeIn K (.ref f_BadCount__init_) = some (.type "function")
  nf_BadCount : PySem.W.findIn K (.ref C_BadCount) "count" = some none
  C_BadPrime : Addr
  g_BadPrime : mg "BadPrime" = some (.ref C_BadPrime)
  er_BadPrime : ErrT K C_BadPrime
  iC_BadPrime : PySem.W.findIn K (.ref C_BadPrime) "__init__" = some (some (.ref f_BadPrime__init_))
  tI_BadPrime : PySem.W.typeIn K (.ref f_BadPrime__init_) = some (.type "function")
  nf_BadPrime : PySem.W.findIn K (.ref C_BadPrime) "number" = some none
  C_BadRow : Addr
  g_BadRow : mg "BadRow" = some (.ref C_BadRow)
  er_BadRow : ErrT K C_BadRow
  iC_BadRow : PySem.W.findIn K (.ref C_BadRow) "__init__" = some (some (.ref f_BadRow__init_))
  tI_BadRow : PySem.W.typeIn K (.ref f_BadRow__init_) = some (.type "function")
  nf_BadRow : PySem.W.findIn K (.ref C_BadRow) "value" = some none
  ex_BadCount_BadCount : PySem.W.exmOne K (.ref C_BadCount) (.ref C_BadCount) = some true
  ex_BadCount_BadPrime : PySem.W.exmOne K (.ref C_BadCount) (.ref C_BadPrime) = some false
  ex_BadCount_BadRow : PySem.W.exmOne K (.ref C_BadCount) (.ref C_BadRow) = some false
  ex_BadPrime_BadCount : PySem.W.exmOne K (.ref C_BadPrime) (.ref C_BadCount) = some false
  ex_BadPrime_BadPrime : PySem.W.exmOne K (.ref C_BadPrime) (.ref C_BadPrime) = some true
  ex_BadPrime_BadRow : PySem.W.exmOne K (.ref C_BadPrime) (.ref C_BadRow) = some false
  ex_BadRow_BadCount : PySem.W.exmOne K (.ref C_BadRow) (.ref C_BadCount) = some false
  ex_BadRow_BadPrime : PySem.W.exmOne K (.ref C_BadRow) (.ref C_BadPrime) = some false
  ex_BadRow_BadRow : PySem.W.exmOne K (.ref C_BadRow) (.ref C_BadRow) = some true
  a_PRIMES : Addr
  g_PRIMES : mg "PRIMES" = some (.ref a_PRIMES)
  t_PRIMES : ∀ H : Hp, SqT K H a_PRIMES [.int 2, .int 3, .int 5, .int 7, .int 11]

end P

set_option Elab.async false
set_option linter.all false
set_option maxRecDepth 100000
set_option maxHeartbeats 4000000
namespace P
open PySem PySem.Spec PyProof.Rows L2 OS
/-! short ways: "rd" opens a reading as far as equations go; "sep" finds what stands apart from the state; "sq" a list that is read; "nx" two heaps -/
local macro_rules | `(tactic| walk_at "sep") => `(tactic| first | assumption | (refine (by assumption : Nx _ _ _) _ _ ?_; walk_at "sep"))
local macro_rules | `(tactic| walk_at "sq") => `(tactic| first | assumption | exact .inl (.inl (by assumption)) | exact Sep.sq (by walk_at "sep") | exact Sep.st (by walk_at "sep") | exact .inl (.inl upd_same))
local macro_rules | `(tactic| walk_at "rd") => `(tactic| repeat (first
  | refine And.intro rfl ?_
  | apply Exists.intro
  | refine And.intro (by assumption) ?_
  | refine And.intro (DrawOk.mk (by omega) (by omega) (by omega)) ?_
  | refine And.intro at0 ?_
  | refine And.intro ⟨_, rfl⟩ ?_
  | refine And.intro (by walk_at "sq") ?_
  | refine And.intro (Or.inl (by walk_at "sq")) ?_
  | refine And.intro (Or.inr (by walk_at "sq")) ?_
  | refine And.intro (by omega) ?_))

section
variable {P : Program} {w : World} {K : PySem.W.Frag} {mg : Str → Option Value} {base : Heap}
theorem ok_law_start (T : Txt K mg) : FnOk P w K mg base CX0 1 T.f_law_start T.fd_law_start ["_law_script"] (spStart K) := by
  refine T.F_law_start.ok sc_law_start (fun vs H Q E h => ?_) (fun cdv A outer s H vs Q E hr h => ?_)
  · obtain ⟨a, ns, rfl, _⟩ := h
    rfl
  · obtain ⟨a, ns, rfl, hS, hn, q⟩ := h
    refine ⟨_, (pss_one (ps_ret (pe_lstO (pa_cons (pe_lc (own := [("_law_cell", 1)]) (g := gName 1) rfl sc_law_start.nd (pi_list (pv 0)) (blkOk_by (own := [("_law_cell", 1)]) (N := N_law_start) (sc := defScope s_law_start) (by decide +kernel)) (fun _ _ _ _ _ => (pg_name (i := 1) sc_law_start.nd rfl (Or.inl rfl))) (fun _ _ _ _ _ => (pts_one (pt_cmpR op_ge (pe_callB (id := "abs") call_abs (by rfl) T.n_abs (by decide +kernel) (pa_cons (pv 1) pa_nil)) (pe_op op_pow pe_int pe_int) (nomark _)))) (fun _ _ _ _ _ => (pe_callB (id := "abs") call_abs (by rfl) T.n_abs (by decide +kernel) (pa_cons (pv 1) pa_nil)))) (pa_cons (pe_op op_catO (pe_callTy (T := "list") call_list_ofO (by rfl) T.n_list (by decide +kernel) (pa_cons (pv 0) pa_nil)) (pe_lstO (pa_cons pe_int pa_nil))) (pa_cons pe_int pa_nil)))))), ?_⟩
    walk_at "rd"
    refine ⟨⟨_, hS⟩, fun D hD => ?_⟩
    refine lc_fn (walk_list (xs := ns.map V.int)) (xs := ns) (by simp) (by simp; omega) (fun z => decide ((10 : Int) ^ 18 ≤ if z < 0 then -z else z)) (fun z => V.int (if z < 0 then -z else z)) hD (fun H1 s => s.seq hS) ?_ ?_
    · intro i z x H1 H2 Qk Qn hz sm hy hk hn'
      obtain ⟨rfl, hx⟩ := hy
      have ex : x = V.int z := by
        rw [List.getElem?_map, hz] at hx
        exact (Option.some.inj hx).symm
      subst ex
      walk_at "rd"
      refine ⟨⟨by decide, by decide, by decide⟩, ?_⟩
      walk_at "rd"
      refine ite2 (fun e => ?_) (fun e => ?_)
      · walk_at "rd"
        exact hk e _ (Same.refl _)
      · exact hn' ((Bool.not_eq_true _).mp e) _ (Same.refl _)
    · intro H1 sm hD1
      have hzs : (ns.filter fun z => decide ((10 : Int) ^ 18 ≤ if z < 0 then -z else z)).map (fun z => V.int (if z < 0 then -z else z)) = ((ns.filter fun z => decide ((10 : Int) ^ 18 ≤ if z < 0 then -z else z)).map (fun z => if z < 0 then -z else z)).map V.int := by
        rw [List.map_map]
        rfl
      rw [hzs] at hD1
      have hzl : ((ns.filter fun z => decide ((10 : Int) ^ 18 ≤ if z < 0 then -z else z)).map (fun z => if z < 0 then -z else z)).length ≤ 100 := by
        rw [List.length_map]
        exact Nat.le_trans (List.length_filter_le _ _) (by omega)
      generalize (ns.filter fun z => decide ((10 : Int) ^ 18 ≤ if z < 0 then -z else z)).map (fun z => if z < 0 then -z else z) = zs at hD1 hzl
      walk_at "rd"
      refine ⟨.inl (sm.seq hS), fun l H2 nl s1 hl => ?_⟩
      refine ⟨by decide, fun f H3 nf s2 hf => ?_⟩
      have hl3 := s2 _ _ hl
      refine ⟨l, f, _, _, rfl, rfl, hl3, hf, by simp; show ns.length + 1 ≤ _; exact Nat.le_of_lt (small1000 (by omega)), fun b H4 nb s3 hb => ?_⟩
      have hD4 := s3 _ _ (s2 _ _ (s1 _ _ hD1))
      walk_at "rd"
      refine ⟨by show 3 ≤ sizeLine; decide, fun p H5 np s4 hp => ?_⟩
      have sA := (((sm.trans s1).trans s2).trans s3).trans s4
      refine q p _ sA ((((sm.trans s1).trans s2).trans s3).free np) ⟨D, b, zs, ns ++ [5], hp, s4 _ _ hD4, by rw [List.map_append]; exact s4 _ _ hb, ?_, by simp, hzl, by simp; omega⟩
      exact ne_of_none (s2 _ _ (s1 _ _ hD1)) nb
theorem ok_law_draw (T : Txt K mg) : FnOk P w K mg base CX0 1 T.f_law_draw T.fd_law_draw ["_law_state", "_law_size"] spDraw := by
  refine T.F_law_draw.ok sc_law_draw (fun vs H Q E h => ?_) (fun cdv A outer s H vs Q E hr h => ?_)
  · obtain ⟨p, n, size, rfl, _⟩ := h
    rfl
  · obtain ⟨p, n, size, rfl, ⟨a, b, zs, ms, S⟩, ⟨hn, h0, h1⟩, q⟩ := h
    refine ⟨_, (pss_cons (ps_augS (pv 0) pe_int pget_list pe_int ip_add set_list)
    (pss_stop (ps_while PassesOwn.never (PW.pt (pw_and (pt_cmpR (op_neD hr.units) (pe_ix ix_list (pv 0) pe_int (fun _ _ => rfl)) (pe_lstO pa_nil) (nomark _)) (pw_and1 (pt_cmpR op_eq (pe_ix ix_list (pe_ix ix_list (pv 0) pe_int (fun _ _ => rfl)) pe_int (fun _ _ => rfl)) pe_int (nomark _))))) (pss_one (ps_asg (pe_slice sl_listO (pe_ix ix_list (pv 0) pe_int (fun _ _ => rfl)) (po_some pe_int) po_none) (pg_sub (pv 0) pe_int set_list))))
    (pss_cons (ps_if (pt_cmpR (op_neD hr.units) (pe_ix ix_list (pv 0) pe_int (fun _ _ => rfl)) (pe_lstO pa_nil) (nomark _))
      (pss_cons (ps_set (i := 2) sc_law_draw.nd rfl (Or.inl rfl) (pe_op op_mod (pe_callTy (T := "int") call_int1 (by rfl) T.n_int (by decide +kernel) (pa_cons (pe_ix ix_list (pe_ix ix_list (pv 0) pe_int (fun _ _ => rfl)) pe_int (fun _ _ => rfl)) pa_nil)) (pv 1)))
    (pss_cons (ps_asg (pe_op op_fdivW (pe_ix ix_list (pe_ix ix_list (pv 0) pe_int (fun _ _ => rfl)) pe_int (fun _ _ => rfl)) (pv 1)) (pg_sub (pe_ix ix_list (pv 0) pe_int (fun _ _ => rfl)) pe_int set_list))
    (pss_one (ps_ret (pv 2))))) pss_nil)
    (pss_cons (ps_set (i := 3) sc_law_draw.nd rfl (Or.inl rfl) (pe_op op_mod (pe_callTy (T := "int") call_int1 (by rfl) T.n_int (by decide +kernel) (pa_cons (pe_ix ix_list (pe_ix ix_list (pv 0) pe_int (fun _ _ => rfl)) (pe_op op_mod (pe_callTy (T := "int") call_int1 (by rfl) T.n_int (by decide +kernel) (pa_cons (pe_ix ix_list (pv 0) pe_int (fun _ _ => rfl)) pa_nil)) (pe_callB (id := "len") call_len_seq (by rfl) T.n_len PySem.boot_len (pa_cons (pe_ix ix_list (pv 0) pe_int (fun _ _ => rfl)) pa_nil))) (fun _ _ => rfl)) pa_nil)) pe_int))
    (pss_cons (ps_set (i := 4) sc_law_draw.nd rfl (Or.inl rfl) (pe_op op_mod (pe_callTy (T := "int") call_int1 (by rfl) T.n_int (by decide +kernel) (pa_cons (pe_op op_pow (pe_op op_add (pe_op op_add (pe_op op_mul (pv 3) pe_int) (pe_op op_mul (pe_ix ix_list (pv 0) pe_int (fun _ _ => rfl)) pe_int)) pe_int) pe_int) pa_nil)) pe_int))
    (pss_one (ps_ret (pe_op op_mod (pe_op op_mod (pe_callTy (T := "int") call_int1 (by rfl) T.n_int (by decide +kernel) (pa_cons (pe_op op_pow (pe_op op_add (pe_op op_add (pe_op op_mul (pv 4) pe_int) (pe_op op_mul (pe_ix ix_list (pv 0) pe_int (fun _ _ => rfl)) pe_int)) pe_int) pe_int) pa_nil)) pe_int) (pv 1))))))))), ?_⟩
    walk_at "rd"
    refine ⟨.inl (.inl S.hp), by decide, rfl, ?_⟩
    walk_at "rd"
    refine ⟨S.hp, rfl, ?_⟩
    have S1 : StA (upd H p (.lst ([V.ref a, V.ref b, V.int ↑n].set (Int.toNat 2) (V.int (↑n + 1))))) p a b zs ms (n + 1) := S.bump
    have x1 : Nx p H (upd H p (.lst ([V.ref a, V.ref b, V.int ↑n].set (Int.toNat 2) (V.int (↑n + 1))))) := S.bump_nx
    generalize upd H p (.lst ([V.ref a, V.ref b, V.int ↑n].set (Int.toNat 2) (V.int (↑n + 1)))) = H1 at S1 x1 ⊢
    dsimp only
    refine Stop.cut (fun σ H' => σ = L2.start N_law_draw [V.ref p, V.int size] ∧ ∃ a zs, StA H' p a b zs ms (n + 1) ∧ Nx p H H') (fun Qz hz => ?_) ?_
    · refine ⟨fun m σ H' => σ = L2.start N_law_draw [V.ref p, V.int size] ∧ ∃ a zs, StA H' p a b zs ms (n + 1) ∧ Nx p H H' ∧ zs.length = m, ⟨_, rfl, a, zs, S1, x1, rfl⟩, ?_⟩
      rintro m _ H2 ⟨rfl, a, zs, S2, x2, rfl⟩
      have hp2 := S2.hp
      have ha2 := S2.ha
      walk_at "rd"
      refine ⟨Nat.zero_le _, fun e H3 ne s3 he => ?_⟩
      have S3 := S2.same s3
      have x3 := x2.trans (S2.nx s3)
      refine ints_ne_nil (.inl (.inl S3.ha)) (.inl (.inl he)) ?_
      clear s3 he ne hp2 ha2 S2 x2
      have hp3 := S3.hp
      have ha3 := S3.ha
      walk_at "rd"
      refine ite2 (fun c1 => ?_) (fun c1 => ?_)
      · cases zs with
        | nil => simp at c1
        | cons z zs =>
          have hl : (z :: zs).length ≤ 100 := S3.lz
          rw [List.map_cons] at ha3
          walk_at "rd"
          refine ite2 (fun c2 => ?_) (fun c2 => ?_)
          · refine ⟨fun σ H' => σ = L2.start N_law_draw [V.ref p, V.int size] ∧ ∃ a zs', StA H' p a b zs' ms (n + 1) ∧ Nx p H H' ∧ zs'.length = zs.length, fun σ H' ⟨e1, a, zs', h1, h2, h3⟩ => ⟨zs.length, by simp, e1, a, zs', h1, h2, h3⟩, ?_⟩
            walk_at "rd"
            intro r H4 hr s4 e4
            have hp4 := s4 _ _ hp3
            have hl' : zs.length ≤ 100 := by
              rw [List.length_cons] at hl
              omega
            rw [cutV1] at e4
            have w4 := S3.swapO (zs' := zs) hr s4 e4 hl'
            walk_at "rd"
            exact ⟨w4.1, x3.trans w4.2, rfl⟩
          · exact hz _ _ ⟨rfl, a, z :: zs, S3, x3⟩
      · exact hz _ _ ⟨rfl, a, zs, S3, x3⟩
    · rintro _ H2 ⟨rfl, a, zs, S2, x2⟩
      have hp2 := S2.hp
      walk_at "rd"
      refine ⟨Nat.zero_le _, fun e H3 ne s3 he => ?_⟩
      have S3 := S2.same s3
      have x3 := x2.trans (S2.nx s3)
      refine ints_ne_nil (.inl (.inl S3.ha)) (.inl (.inl he)) ?_
      clear s3 he ne hp2 S2 x2
      have hp3 := S3.hp
      have ha3 := S3.ha
      have hb3 := S3.hb
      walk_at "rd"
      refine ite2 (fun c1 => ?_) (fun c1 => ?_)
      · cases zs with
        | nil => simp at c1
        | cons z zs =>
          have hl : (z :: zs).length ≤ 100 := S3.lz
          rw [List.map_cons] at ha3
          walk_at "rd"
          refine .inl ?_
          walk_at "rd"
          refine ⟨wide_div h0 (b := 64) (by omega) (by decide) (by decide), ?_⟩
          walk_at "rd"
          refine ⟨ix0, ?_⟩
          walk_at "rd"
          refine q _ _ (Int.emod_nonneg _ (by omega)) (Int.emod_lt_of_pos _ h0) (S3.seta (zs' := z / size :: zs) hl).mk' (x3.trans (S3.seta_nx (zs' := z / size :: zs)))
      · have ml : 0 < ms.length := List.length_pos_iff.mpr S3.ne
        have ml' : (0 : Int) < (((ms.map V.int).length : Nat) : Int) := by rw [List.length_map]; omega
        obtain ⟨j, hj, hjl⟩ : ∃ j : Nat, (((n + 1 : Nat) : Int) % (((ms.map V.int).length : Nat) : Int)) = (j : Int) ∧ j < ms.length := by
          refine ⟨(n + 1) % ms.length, ?_, Nat.mod_lt _ ml⟩
          rw [List.length_map]
          omega
        have hat : atI (ms.map V.int) (((n + 1 : Nat) : Int) % (((ms.map V.int).length : Nat) : Int)) = some (.int ms[j]) := by
          rw [hj]
          exact atI_nat (by rw [List.getElem?_map, List.getElem?_eq_getElem hjl]; rfl)
        generalize ms[j] = c0 at hat
        walk_at "rd"
        refine .inl ?_
        walk_at "rd"
        refine .inl ?_
        walk_at "rd"
        have hc0 := Int.emod_nonneg c0 (show (2147483647 : Int) ≠ 0 by decide)
        have hc1 := Int.emod_lt_of_pos c0 (show (0 : Int) < 2147483647 by decide)
        walk_at "rd"
        refine ⟨.inr ⟨by decide, by decide⟩, ?_⟩
        walk_at "rd"
        refine ⟨.inr ⟨by decide, by decide⟩, ?_⟩
        walk_at "rd"
        refine ⟨⟨by decide, by decide, ?_⟩, ?_⟩
        · show (c0 % 2147483647 * 48271 + ((n + 1 : Nat) : Int) * 69621 + 7).natAbs < 18446744073709551616
          generalize c0 % 2147483647 = c1 at hc0 hc1 ⊢
          omega
        walk_at "rd"
        refine .inl ?_
        walk_at "rd"
        have hd : 0 ≤ (c0 % 2147483647 * 48271 + (((n + 1 : Nat)) : Int) * 69621 + 7) ^ Int.toNat 5 % 2147483647 ∧ (c0 % 2147483647 * 48271 + (((n + 1 : Nat)) : Int) * 69621 + 7) ^ Int.toNat 5 % 2147483647 < 2147483647 := pow5 _
        walk_at "rd"
        refine ⟨.inr ⟨by decide, by decide⟩, ?_⟩
        walk_at "rd"
        refine ⟨.inr ⟨by decide, by decide⟩, ?_⟩
        walk_at "rd"
        refine ⟨⟨by decide, by decide, ?_⟩, ?_⟩
        · show ((c0 % 2147483647 * 48271 + ((n + 1 : Nat) : Int) * 69621 + 7) ^ Int.toNat 5 % 2147483647 * 16807 + ((n + 1 : Nat) : Int) * 40692 + 13).natAbs < 18446744073709551616
          generalize (c0 % 2147483647 * 48271 + ((n + 1 : Nat) : Int) * 69621 + 7) ^ Int.toNat 5 % 2147483647 = d1 at hd ⊢
          omega
        walk_at "rd"
        refine .inl ?_
        walk_at "rd"
        exact q _ _ (Int.emod_nonneg _ (by omega)) (Int.emod_lt_of_pos _ h0) S3.mk' x3

theorem ok_BadCount__init_ (T : Txt K mg) : FnOk P w K mg base CX0 1 T.f_BadCount__init_ T.fd_BadCount__init_ ["self", "count"] (spErr T.C_BadCount "count") := by
  refine T.F_BadCount__init_.ok sc_BadCount__init_ (fun vs H Q E h => ?_) (fun cdv A outer s H vs Q E hr h => ?_)
  · obtain ⟨a, v, rfl, _⟩ := h
    rfl
  · obtain ⟨a, v, rfl, ha, q⟩ := h
    refine ⟨_, (pss_one (ps_ost (pv 0) (pv 1))), ?_⟩
    walk_at "rd"
    refine ⟨T.er_BadCount.ox, T.nf_BadCount, .inl ⟨ha, fun dx h1 h2 => q dx h1 h2⟩⟩
theorem ok_BadPrime__init_ (T : Txt K mg) : FnOk P w K mg base CX0 1 T.f_BadPrime__init_ T.fd_BadPrime__init_ ["self", "number"] (spErr T.C_BadPrime "number") := by
  refine T.F_BadPrime__init_.ok sc_BadPrime__init_ (fun vs H Q E h => ?_) (fun cdv A outer s H vs Q E hr h => ?_)
  · obtain ⟨a, v, rfl, _⟩ := h
    rfl
  · obtain ⟨a, v, rfl, ha, q⟩ := h
    refine ⟨_, (pss_one (ps_ost (pv 0) (pv 1))), ?_⟩
    walk_at "rd"
    refine ⟨T.er_BadPrime.ox, T.nf_BadPrime, .inl ⟨ha, fun dx h1 h2 => q dx h1 h2⟩⟩
theorem ok_BadRow__init_ (T : Txt K mg) : FnOk P w K mg base CX0 1 T.f_BadRow__init_ T.fd_BadRow__init_ ["self", "value"] (spErr T.C_BadRow "value") := by
  refine T.F_BadRow__init_.ok sc_BadRow__init_ (fun vs H Q E h => ?_) (fun cdv A outer s H vs Q E hr h => ?_)
  · obtain ⟨a, v, rfl, _⟩ := h
    rfl
  · obtain ⟨a, v, rfl, ha, q⟩ := h
    refine ⟨_, (pss_one (ps_ost (pv 0) (pv 1))), ?_⟩
    walk_at "rd"
    refine ⟨T.er_BadRow.ox, T.nf_BadRow, .inl ⟨ha, fun dx h1 h2 => q dx h1 h2⟩⟩

end
end P

set_option Elab.async false
set_option linter.all false
set_option maxRecDepth 100000
set_option maxHeartbeats 4000000
namespace P
open PySem PySem.Spec PyProof.Rows L2 OS
/-! short ways: "rd" opens a reading as far as equations go; "sep" finds what stands apart from the state; "sq" a list that is read; "nx" two heaps -/
local macro_rules | `(tactic| walk_at "sep") => `(tactic| first | assumption | (refine (by assumption : Nx _ _ _) _ _ ?_; walk_at "sep"))
local macro_rules | `(tactic| walk_at "sq") => `(tactic| first | assumption | exact .inl (.inl (by assumption)) | exact Sep.sq (by walk_at "sep") | exact Sep.st (by walk_at "sep") | exact .inl (.inl upd_same))
local macro_rules | `(tactic| walk_at "rd") => `(tactic| repeat (first
  | refine And.intro rfl ?_
  | apply Exists.intro
  | refine And.intro (by assumption) ?_
  | refine And.intro (DrawOk.mk (by omega) (by omega) (by omega)) ?_
  | refine And.intro at0 ?_
  | refine And.intro ⟨_, rfl⟩ ?_
  | refine And.intro (by walk_at "sq") ?_
  | refine And.intro (Or.inl (by walk_at "sq")) ?_
  | refine And.intro (Or.inr (by walk_at "sq")) ?_
  | refine And.intro (by omega) ?_))

section
variable {P : Program} {w : World} {K : PySem.W.Frag} {mg : Str → Option Value} {base : Heap}
/-! ### numbers -/
def isIB : V → Bool | .int _ => true | .bl _ => true | _ => false
def isB : V → Bool | .bl _ => true | _ => false
def isI : V → Bool | .int _ => true | _ => false
/-- a number modulo p -/
def isN (p : Int) : V → Bool | .int i => decide (0 ≤ i) && decide (i < p) | _ => false
/-- what is known of a value's type -/
def Num2 (K : PySem.W.Frag) (H : Hp) (v : V) : Prop := ∃ t, TyX K H v t ∧ PySem.W.kitOne K t (.type "int") = some (isIB v) ∧ PySem.W.kitOne K t (.type "bool") = some (isB v)
theorem num_flat {H : Hp} {v : V} (f : flatV v = true) : Num2 K H v := by
  cases v with
  | non => exact ⟨_, .base .non, by rfl, by rfl⟩
  | bl b => exact ⟨_, .base (.bl b), by rfl, by rfl⟩
  | int i => exact ⟨_, .base (.int i), by rfl, by rfl⟩
  | str z => exact ⟨_, .base (.str z), by rfl, by rfl⟩
  | _ => exact absurd (show false = true from f) Bool.false_ne_true
theorem itm_num {H : Hp} {v : V} (h : Itm K H v) : Num2 K H v := by
  cases h with
  | flat f => exact num_flat f
  | lst q => exact ⟨_, ty_list q, by rfl, by rfl⟩
  | dct q => exact ⟨_, .base (.dK q), by rfl, by rfl⟩
  | tup q => exact ⟨_, ty_tup q, by rfl, by rfl⟩
theorem thing_num {H : Hp} {v : V} {o : Option (List V)} (h : Thing K H v o) : Num2 K H v := by
  cases h with
  | flat f => exact num_flat f
  | lst q => exact ⟨_, ty_list q, by rfl, by rfl⟩
  | dct q => exact ⟨_, .base (.dK q), by rfl, by rfl⟩
  | tup q _ => exact ⟨_, ty_tup q, by rfl, by rfl⟩
theorem num_int {H : Hp} {i : Int} : Num2 K H (.int i) := num_flat rfl
/-- is_whole(value) -/
def spWhole (K : PySem.W.Frag) : Sp := fun vs H Q _ => ∃ v : V, vs = [v] ∧ Num2 K H v ∧ Q (.bl (isI v)) H
theorem ok_is_whole (T : Txt K mg) : FnOk P w K mg base CX0 1 T.f_is_whole T.fd_is_whole ["value"] (spWhole K) := by
  refine T.F_is_whole.ok sc_is_whole (fun vs H Q E h => ?_) (fun cdv A outer s H vs Q E hr h => ?_)
  · obtain ⟨v, rfl, _⟩ := h
    rfl
  · obtain ⟨v, rfl, ⟨t, ht, h1, h2⟩, q⟩ := h
    refine ⟨_, (pss_one (ps_ret (pe_and (pe_callB (id := "isinstance") (r := rIsi K) call_isi (by rfl) T.n_isinstance (by decide +kernel) (pa_cons (pv 0) (pa_cons (pe_bltn (v := .ty "int") (u := .type "int") (by rfl) T.n_int (by decide +kernel) rfl) pa_nil))) (pe_one (pe_not (pe_callB (id := "isinstance") (r := rIsi K) call_isi (by rfl) T.n_isinstance (by decide +kernel) (pa_cons (pv 0) (pa_cons (pe_bltn (v := .ty "bool") (u := .type "bool") (by rfl) T.n_bool (by decide +kernel) rfl) pa_nil)))))))), ?_⟩
    walk_at "rd"
    refine ⟨.ty _, ht, h1, ?_⟩
    walk_at "rd"
    refine ite2 (fun e => ?_) (fun e => ?_)
    · walk_at "rd"
      refine ⟨.ty _, ht, h2, ?_⟩
      have ev : (!isB v) = isI v := by
        cases v <;> first | rfl | exact absurd e Bool.false_ne_true
      walk_at "rd"
      rw [ev]
      exact q
    · have ev : isI v = false := by
        cases v <;> first | rfl | exact absurd rfl e
      rw [ev] at q
      exact q
/-- is_number(prime, value) -/
def spNumber (K : PySem.W.Frag) : Sp := fun vs H Q _ => ∃ (p : Int) (v : V), vs = [.int p, v] ∧ Num2 K H v ∧ Q (.bl (isN p v)) H
theorem ok_is_number (T : Txt K mg) : FnOk P w K mg base CX0 2 T.f_is_number T.fd_is_number ["prime", "value"] (spNumber K) := by
  refine T.F_is_number.ok sc_is_number (fun vs H Q E h => ?_) (fun cdv A outer s H vs Q E hr h => ?_)
  · obtain ⟨p, v, rfl, _⟩ := h
    rfl
  · obtain ⟨p, v, rfl, hv, q⟩ := h
    refine ⟨_, (pss_one (ps_ret (pe_and (pe_call (ok_is_whole T) (hr.mono (by decide)) (by rfl) T.g_is_whole T.F_is_whole.kp T.b_is_whole .nil pass0 (pa_cons (pv 1) pa_nil)) (pe_one (pe_chain op_le op_lt pe_int (pv 1) (pv 0)))))), ?_⟩
    walk_at "rd"
    refine ite2 (fun e => ?_) (fun e => ?_)
    · obtain ⟨i, rfl⟩ : ∃ i, v = .int i := by
        cases v <;> first | exact ⟨_, rfl⟩ | exact absurd e Bool.false_ne_true
      walk_at "rd"
      refine ite2 (fun e1 => ?_) (fun e1 => ?_)
      · walk_at "rd"
        have : isN p (.int i) = decide (i < p) := by
          show (decide (0 ≤ i) && decide (i < p)) = _
          rw [e1, Bool.true_and]
        rw [this] at q
        exact q
      · walk_at "rd"
        have : isN p (.int i) = false := by
          show (decide (0 ≤ i) && decide (i < p)) = _
          rw [(Bool.not_eq_true _).mp e1, Bool.false_and]
        rw [this] at q
        first
          | exact q
          | (rw [(Bool.not_eq_true _).mp e1]; exact q)
    · have ev : isN p v = false := by
        cases v <;> first | rfl | exact absurd rfl e
      rw [ev] at q
      exact q
/-- has_numbers(prime, value, many) -/
def numsB (p m : Int) : Option (List V) → Bool | some xs => decide ((xs.length : Int) = m) && xs.all (isN p) | none => false
def spNums (K : PySem.W.Frag) : Sp := fun vs H Q _ => ∃ (p m : Int) (v : V) (o : Option (List V)), vs = [.int p, v, .int m] ∧ Thing K H v o ∧ (∀ xs, o = some xs → xs.length ≤ 1000) ∧ ∀ H', Same H H' → Q (.bl (numsB p m o)) H'
theorem ok_has_numbers (T : Txt K mg) : FnOk P w K mg base CX0 3 T.f_has_numbers T.fd_has_numbers ["prime", "value", "many"] (spNums K) := by
  refine T.F_has_numbers.ok sc_has_numbers (fun vs H Q E h => ?_) (fun cdv A outer s H vs Q E hr h => ?_)
  · obtain ⟨p, m, v, o, rfl, _⟩ := h
    rfl
  · obtain ⟨p, m, v, o, rfl, hv, hl, q⟩ := h
    refine ⟨_, (pss_cons (ps_if (PW.pt (pw_or (pt_not (pt_val (pe_callB (id := "isinstance") (r := rIsi K) call_isi (by rfl) T.n_isinstance (by decide +kernel) (pa_cons (pv 1) (pa_cons (pe_bltn (v := .ty "tuple") (u := .type "tuple") (by rfl) T.n_tuple (by decide +kernel) rfl) pa_nil))))) (pw_or1 (pt_cmpR op_ne (pe_callB (id := "len") (r := rLenS K) call_lenS (by rfl) T.n_len PySem.boot_len (pa_cons (pv 1) pa_nil)) (pv 2) (nomark _)))))
      (pss_one (ps_ret pe_bl)) pss_nil)
    (pss_one (ps_ret (pe_callB (id := "all") (r := rAll K) (cr_all rfl) (by rfl) T.n_all (by decide +kernel) (pa_cons (pe_lc (own := [("item", 3)]) (g := gName 3) (tt := tYes) rfl sc_has_numbers.nd (pi_tup (pv 1)) (blkOk_by (own := [("item", 3)]) (N := N_has_numbers) (sc := defScope s_has_numbers) (by decide +kernel)) (fun _ _ _ _ _ => (pg_name (i := 3) sc_has_numbers.nd rfl (Or.inl rfl))) (fun _ _ _ _ _ => pts_nil) (fun _ _ _ _ _ => (pe_call (ok_is_number T) (hr.mono (by decide)) (by rfl) T.g_is_number T.F_is_number.kp T.b_is_number .nil pass0 (pa_cons (pv 0) (pa_cons (pv 3) pa_nil))))) pa_nil))))), ?_⟩
    obtain ⟨t, ht, hk⟩ := hv.isT
    walk_at "rd"
    refine ⟨.ty _, ht, hk, ?_⟩
    walk_at "rd"
    cases hv with
    | flat f => exact q H (Same.refl H)
    | lst z => exact q H (Same.refl H)
    | dct z => exact q H (Same.refl H)
    | @tup b xs hb hi =>
      have hx := hl xs rfl
      walk_at "rd"
      refine ite2 (fun e => ?_) (fun e => ?_)
      · have hne : ¬ ((xs.length : Int) = m) := fun z => by
          rw [z] at e
          simp at e
        have := q H (Same.refl H)
        rw [show numsB p m (some xs) = false by
          show (decide ((xs.length : Int) = m) && _) = false
          rw [decide_eq_false hne, Bool.false_and]] at this
        walk_at "rd"
        first
          | exact this
          | exact iteT this
      · have hm : (xs.length : Int) = m := Classical.byContradiction fun z => e (by simp [z])
        walk_at "rd"
        refine ⟨⟨_, hb⟩, fun D hD => ?_⟩
        refine lc_all (walk_tup (xs := xs)) (xs := xs) rfl (by omega) (fun v => V.bl (isN p v)) hD (fun H1 s => s.tupT hb) ?_ ?_
        · intro i v x H1 H2 Qk hv sm hy hk
          obtain ⟨rfl, hx'⟩ := hy
          obtain rfl : x = v := Option.some.inj (hx'.symm.trans hv)
          have hn : Num2 K H2 x := itm_num ((hi x (List.mem_of_getElem? hv)).same sm)
          walk_at "rd"
          exact hk _ (Same.refl _)
        · intro H1 sm hD1
          have hq : SqL K H1 D ((xs.map (isN p)).map V.bl) := SqL.of (by rw [List.map_map]; exact hD1)
          walk_at "rd"
          have := q H1 sm
          rw [show numsB p m (some xs) = (xs.map (isN p)).all id by
            show (decide ((xs.length : Int) = m) && _) = _
            rw [decide_eq_true hm, Bool.true_and, List.all_map]
            rfl] at this
          exact this
end
end P

set_option Elab.async false
set_option linter.all false
set_option maxRecDepth 100000
set_option maxHeartbeats 4000000
/-! more rules for the laws of the takes -/
namespace OS
open PySem PySem.Spec PyProof.Rows L2 RZ
theorem walk_zipT {K : PySem.W.Frag} {a b : Addr} {xs ys : List V} {n : Nat} (hn : n = min xs.length ys.length) : Walk (ItzT K a b) n (fun H => SqT K H a xs ∧ SqT K H b ys) (YPair (fun i => xs[i]?) (fun i => ys[i]?)) :=
  ⟨fun i _ hi q => ⟨xs, ys, xs[i]'(by omega), ys[i]'(by omega), q.1, q.2, List.getElem?_eq_getElem _, List.getElem?_eq_getElem _⟩, fun _ q => ⟨xs, ys, q.1, q.2, by omega⟩, fun i H v H' _ q ⟨T, x, y, h1, h2, h3, h4, h5⟩ => ⟨T, x, y, h1, h2, h3, h4 xs q.1, h5 ys q.2⟩⟩
/-- a tuple against () -/
def rNeEmp (K : PySem.W.Frag) : R2 := fun x y H Q => ∃ a b zs, x = .ref a ∧ y = .ref b ∧ SqT K H a zs ∧ SqT K H b [] ∧ Q (.bl (!zs.isEmpty)) H
theorem op_neEmp {X : Cx} (hu : X.A.units + 65 < cLine) : OpR X (compareOp .NotEq) (rNeEmp X.K) := by
  intro pins s σ H x y v u Q I rx ry h
  obtain ⟨a, b, zs, rfl, rfl, ha, hb, q⟩ := h
  cases rx
  cases ry
  obtain ⟨us, r1, p1, _⟩ := I.tuple ha
  obtain ⟨ws, r2, p2, _⟩ := I.tuple hb
  cases r2
  refine SeqAt.RcNeAt.tuples (e := fun _ => true) p1 p2 (by omega) (fun j h1 h2 => absurd h2 (by simp)) X.prog X.w X.xe _ ⟨.bl _, H, I, ?_, q⟩
  cases zs with
  | nil =>
    cases r1
    rfl
  | cons z zs =>
    cases r1
    rfl
end OS

set_option Elab.async false
set_option linter.all false
set_option maxRecDepth 100000
set_option maxHeartbeats 4000000
namespace P
open PySem PySem.Spec PyProof.Rows L2 OS
/-! short ways: "rd" opens a reading as far as equations go; "sep" finds what stands apart from the state; "sq" a list that is read; "nx" two heaps -/
local macro_rules | `(tactic| walk_at "sep") => `(tactic| first | assumption | (refine (by assumption : Nx _ _ _) _ _ ?_; walk_at "sep"))
local macro_rules | `(tactic| walk_at "sq") => `(tactic| first | assumption | exact .inl (.inl (by assumption)) | exact Sep.sq (by walk_at "sep") | exact Sep.st (by walk_at "sep") | exact .inl (.inl upd_same))
local macro_rules | `(tactic| walk_at "rd") => `(tactic| repeat (first
  | refine And.intro rfl ?_
  | apply Exists.intro
  | refine And.intro (by assumption) ?_
  | refine And.intro (DrawOk.mk (by omega) (by omega) (by omega)) ?_
  | refine And.intro at0 ?_
  | refine And.intro ⟨_, rfl⟩ ?_
  | refine And.intro (by walk_at "sq") ?_
  | refine And.intro (Or.inl (by walk_at "sq")) ?_
  | refine And.intro (Or.inr (by walk_at "sq")) ?_
  | refine And.intro (by omega) ?_))

section
variable {P : Program} {w : World} {K : PySem.W.Frag} {mg : Str → Option Value} {base : Heap}
/-! ### checks of numbers and rows -/
def isPr : V → Bool | .int i => decide (i = 2 ∨ i = 3 ∨ i = 5 ∨ i = 7 ∨ i = 11) | _ => false
theorem any_pr (v : V) : ([2, 3, 5, 7, 11] : List Int).any (eqIV v) = isPr v := by
  cases v with
  | int j =>
    rw [Bool.eq_iff_iff]
    show ((2 : Int) == j || ((3 : Int) == j || ((5 : Int) == j || ((7 : Int) == j || ((11 : Int) == j || false))))) = true ↔ decide (j = 2 ∨ j = 3 ∨ j = 5 ∨ j = 7 ∨ j = 11) = true
    rw [Bool.or_false, decide_eq_true_iff]
    simp only [Bool.or_eq_true, beq_iff_eq]
    omega
  | bl b => cases b <;> rfl
  | _ => rfl
theorem isPr_is {p : Int} (h : isPr (.int p) = true) : p = 2 ∨ p = 3 ∨ p = 5 ∨ p = 7 ∨ p = 11 := of_decide_eq_true h
/-- check_prime(prime) -/
def spPrime (T : Txt K mg) : Sp := fun vs H Q E => ∃ (v : V), vs = [v] ∧ Itm K H v ∧ (isPr v = false → ∀ H', Same H H' → Flies E T.C_BadPrime "number" v H') ∧ (isPr v = true → Q .non H)
theorem ok_check_prime (T : Txt K mg) : FnOk P w K mg base (L2.CX P w) 3 T.f_check_prime T.fd_check_prime ["prime"] (spPrime T) := by
  refine T.F_check_prime.okX sc_check_prime (fun vs H Q E h => ?_) (fun cdv A outer s H vs Q E hr h => ?_)
  · obtain ⟨v, rfl, _⟩ := h
    rfl
  · obtain ⟨v, rfl, hv, qb, q⟩ := h
    refine ⟨_, (pss_one (ps_if (pt_cmpR (r := rNotInI K) (op_notInI (room65 hr)) (pv 0) (pe_glob (v := .ref T.a_PRIMES) rfl T.g_PRIMES rfl) (by rfl))
      (pss_one (ps_raise rfl (takes_of rfl rfl rfl rfl) (pmk_err T.er_BadPrime T.iC_BadPrime T.tI_BadPrime (ok_BadPrime__init_ T) (hr.mono (by decide)) T.b_BadPrime__init_ (by rfl) T.g_BadPrime (pv 0)))) pss_nil)), ?_⟩
    have hT : SqL K H T.a_PRIMES (([2, 3, 5, 7, 11] : List Int).map V.int) ∨ SqT K H T.a_PRIMES (([2, 3, 5, 7, 11] : List Int).map V.int) := .inr (T.t_PRIMES H)
    walk_at "rd"
    rw [any_pr]
    refine ite2 (fun e => ?_) (fun e => ?_)
    · walk_at "rd"
      exact qb ((Bool.not_eq_true' _).mp e) H (Same.refl H)
    · exact q (by simpa using e)
theorem find_first {α : Type} {t : α → Bool} : ∀ {xs : List α} {i : Nat} {x : α}, xs[i]? = some x → (∀ j u, j < i → xs[j]? = some u → (t u) = false) → t x = true → xs.find? t = some x
  | [], _, _, h, _, _ => by simp at h
  | y :: xs, 0, x, h, _, hx => by
    obtain rfl : y = x := Option.some.inj h
    rw [List.find?_cons_of_pos hx]
  | y :: xs, i + 1, x, h, hb, hx => by
    have hy : t y = false := hb 0 y (Nat.succ_pos _) rfl
    rw [List.find?_cons_of_neg (by rw [hy]; decide)]
    exact find_first (xs := xs) (i := i) h (fun j u hj hu => hb (j + 1) u (Nat.succ_lt_succ hj) hu) hx
/-- rows of numbers modulo p, of width n -/
def RowV (K : PySem.W.Frag) (H : Hp) (v : V) (ns : List Int) : Prop := ∃ b, v = .ref b ∧ SqT K H b (ns.map V.int)
theorem RowV.same {H H' : Hp} {v : V} {ns : List Int} (h : RowV K H v ns) (s : Same H H') : RowV K H' v ns := by
  obtain ⟨b, e, h⟩ := h
  exact ⟨b, e, s.tupT h⟩
structure RowOk (p : Int) (n : Nat) (ns : List Int) : Prop where
  len : ns.length = n
  rng : ∀ i ∈ ns, 0 ≤ i ∧ i < p
theorem RowV.thing {H : Hp} {v : V} {ns : List Int} (h : RowV K H v ns) : Thing K H v (some (ns.map V.int)) := by
  obtain ⟨b, rfl, h⟩ := h
  exact .tup h fun v hv => by
    obtain ⟨z, _, rfl⟩ := List.mem_map.mp hv
    exact .flat rfl
theorem RowOk.nums {p : Int} {n : Nat} {ns : List Int} (h : RowOk p n ns) : numsB p n (some (ns.map V.int)) = true := by
  show (decide ((((ns.map V.int).length : Nat) : Int) = n) && (ns.map V.int).all (isN p)) = true
  rw [decide_eq_true (by rw [List.length_map, h.len]), Bool.true_and, List.all_eq_true]
  intro v hv
  obtain ⟨i, hi, rfl⟩ := List.mem_map.mp hv
  obtain ⟨h1, h2⟩ := h.rng i hi
  show (decide (0 ≤ i) && decide (i < p)) = true
  rw [decide_eq_true h1, decide_eq_true h2]
  rfl
/-- the width that the first row tells -/
def wOf : List (Option (List V)) → Nat | some xs :: _ => xs.length | _ => 0
def goodR (p : Int) (n : Nat) (o : Option (List V)) : Bool := decide (1 ≤ n) && numsB p n o
/-- the first that is no row of the width that the first tells -/
def badRow (p : Int) (os : List (Option (List V))) : Option Nat := os.findIdx? fun o => !goodR p (wOf os) o
theorem badRow_no {p : Int} {os : List (Option (List V))} (h : badRow p os = none) {o : Option (List V)} (ho : o ∈ os) : goodR p (wOf os) o = true := by
  have := List.findIdx?_eq_none_iff.mp h o ho
  simpa using this
theorem badRow_at {p : Int} {os : List (Option (List V))} {i : Nat} {o : Option (List V)} (hi : os[i]? = some o) (hb : goodR p (wOf os) o = false) (hg : ∀ j u, j < i → os[j]? = some u → goodR p (wOf os) u = true) : badRow p os = some i := by
  refine List.findIdx?_eq_some_iff_getElem.mpr ?_
  obtain ⟨hl, rfl⟩ := List.getElem?_eq_some_iff.mp hi
  refine ⟨hl, by simp [hb], fun j hj => ?_⟩
  have := hg j os[j] hj (List.getElem?_eq_getElem (by omega))
  simp [this]
/-- check_rows(prime, values) -/
def spRows (T : Txt K mg) : Sp := fun vs H Q E => ∃ (p : Int) (a : Addr) (kk : Bool) (xs : List V) (os : List (Option (List V))), vs = [.int p, .ref a] ∧ SqB kk K H a xs ∧ Paired (Thing K H) xs os ∧ (∀ o ∈ os, ∀ zs, o = some zs → zs.length ≤ 1000) ∧
  (∀ i v, badRow p os = some i → xs[i]? = some v → ∀ H', Same H H' → Flies E T.C_BadRow "value" v H') ∧ (badRow p os = none → ∀ H', Same H H' → Q .non H')
theorem ok_check_rows (T : Txt K mg) : FnOk P w K mg base (L2.CX P w) 4 T.f_check_rows T.fd_check_rows ["prime", "values"] (spRows T) := by
  refine T.F_check_rows.okX sc_check_rows (fun vs H Q E h => ?_) (fun cdv A outer s H vs Q E hr h => ?_)
  · obtain ⟨p, a, kk, xs, os, rfl, _⟩ := h
    rfl
  · obtain ⟨p, a, kk, xs, os, rfl, ha, hx, hl, qb, q⟩ := h
    refine ⟨_, (pss_cons (ps_set (i := 2) sc_check_rows.nd rfl (Or.inl rfl) pe_non)
    (pss_one (ps_for (passes_of rfl) rfl (pi_hold (pi_seqB (pv 1))) (pg_name (i := 3) sc_check_rows.nd rfl (Or.inl rfl))
      (pss_stop (ps_if (PW.pt (pw_and (pt_cmpR op_isN (pv 2) pe_non (nomark _)) (pw_and (pt_val (pe_callB (id := "isinstance") (r := rIsi K) call_isi (by rfl) T.n_isinstance (by decide +kernel) (pa_cons (pv 3) (pa_cons (pe_bltn (v := .ty "tuple") (u := .type "tuple") (by rfl) T.n_tuple (by decide +kernel) rfl) pa_nil)))) (pw_and1 (pt_cmpR (r := rNeEmp K) (op_neEmp (room65 hr)) (pv 3) (pe_tupO pa_nil) (nomark _))))))
      (pss_one (ps_set (i := 2) sc_check_rows.nd rfl (Or.inl rfl) (pe_callB (id := "len") (r := rLenS K) call_lenS (by rfl) T.n_len PySem.boot_len (pa_cons (pv 3) pa_nil)))) pss_nil)
    (pss_one (ps_if (PW.pt (pw_or (pt_cmpR op_isN (pv 2) pe_non (nomark _)) (pw_or1 (pt_not (pt_val (pe_call (ok_has_numbers T) (hr.mono (by decide)) (by rfl) T.g_has_numbers T.F_has_numbers.kp T.b_has_numbers .nil pass0 (pa_cons (pv 0) (pa_cons (pv 3) (pa_cons (pv 2) pa_nil)))))))))
      (pss_one (ps_raise rfl (takes_of rfl rfl rfl rfl) (pmk_err T.er_BadRow T.iC_BadRow T.tI_BadRow (ok_BadRow__init_ T) (hr.mono (by decide)) T.b_BadRow__init_ (by rfl) T.g_BadRow (pv 3)))) pss_nil)))))), ?_⟩
    have hxl := paired_len hx
    walk_at "rd"
    refine ⟨for_it (walk_seq (xs := xs)) (fun i σ H' => ∃ (wv : V) (y : Option V), σ = [some (.int p), some (.ref a), some wv, y] ∧ Same H H' ∧ (i = 0 → wv = .non) ∧ (0 < i → wv = .int (wOf os : Int)) ∧ ∀ j u, j < i → os[j]? = some u → goodR p (wOf os) u = true) ⟨.non, none, rfl, Same.refl H, fun _ => rfl, fun h => absurd h (by omega), fun j u h => absurd h (by omega)⟩ (fun i σ H' _ ⟨_, _, _, s, _⟩ => ha.same s) ?_ ?_⟩
    · rintro i x _ H1 H2 hil ⟨wv, y, rfl, s1, hw0, hw1, hgood⟩ ⟨rfl, hxi⟩
      obtain ⟨o, hoi, hth⟩ := OS.paired_get hx hxi
      have hth2 := hth.same s1
      have hol := hl o (List.mem_of_getElem? hoi)
      have hpos : 0 < i → 1 ≤ wOf os := fun hi0 => by
        have h0 : os[0]? = some os[0] := List.getElem?_eq_getElem (by have := (List.getElem?_eq_some_iff.mp hoi).1; omega)
        have := hgood 0 _ hi0 h0
        unfold goodR at this
        rw [Bool.and_eq_true] at this
        exact of_decide_eq_true this.1
      refine Stop.cut (fun σ H' => ∃ wv', σ = [some (.int p), some (.ref a), some wv', some x] ∧ Same H2 H' ∧ ((wv' = .int (wOf os : Int) ∧ 1 ≤ wOf os) ∨ (wv' = .non ∧ goodR p (wOf os) o = false))) (fun Qz hz => ?_) ?_
      · walk_at "rd"
        refine ite2 (fun e => ?_) (fun e => ?_)
        · have ew : wv = .non := of_decide_eq_true e
          have hi0 : i = 0 := by
            rcases Nat.eq_zero_or_pos i with z | z
            · exact z
            · rw [hw1 z] at ew
              cases ew
          subst hi0
          have hos : ∃ r, os = o :: r := by
            cases os with
            | nil => simp at hoi
            | cons a r => exact ⟨r, by rw [Option.some.inj (show some a = some o from hoi)]⟩
          obtain ⟨r, hos⟩ := hos
          obtain ⟨t, ht, hk⟩ := hth2.isT
          walk_at "rd"
          refine ⟨.ty _, ht, hk, ?_⟩
          walk_at "rd"
          have none_bad : o = none → goodR p (wOf os) o = false := fun z => by
            subst z
            unfold goodR
            rw [show numsB p (wOf os) none = false from rfl, Bool.and_false]
          cases hth2 with
          | flat f => exact hz _ _ ⟨_, rfl, Same.refl _, .inr ⟨ew, none_bad rfl⟩⟩
          | lst z => exact hz _ _ ⟨_, rfl, Same.refl _, .inr ⟨ew, none_bad rfl⟩⟩
          | dct z => exact hz _ _ ⟨_, rfl, Same.refl _, .inr ⟨ew, none_bad rfl⟩⟩
          | @tup b zs hb hi =>
            have hwz : wOf os = zs.length := by rw [hos]; rfl
            walk_at "rd"
            refine ⟨by decide, fun t H3 nt s3 ht => ?_⟩
            have hb3 := s3.tupT hb
            have ht3 : SqT K H3 t [] := SqT.of ht
            walk_at "rd"
            refine ite2 (fun e2 => ?_) (fun e2 => ?_)
            · have : 1 ≤ zs.length := by
                cases zs with
                | nil => exact absurd e2 (by simp)
                | cons _ _ => simp
              walk_at "rd"
              refine hz _ _ ⟨_, rfl, s3, .inl ⟨?_, by omega⟩⟩
              rw [hwz]
            · have : zs = [] := by
                cases zs with
                | nil => rfl
                | cons _ _ => exact absurd rfl e2
              refine hz _ _ ⟨_, rfl, s3, .inr ⟨ew, ?_⟩⟩
              unfold goodR
              rw [hwz, this]
              rfl
        · have hi0 : 0 < i := Nat.pos_of_ne_zero fun z => e (decide_eq_true (hw0 z))
          exact hz _ _ ⟨_, rfl, Same.refl _, .inl ⟨hw1 hi0, hpos hi0⟩⟩
      · rintro _ H3 ⟨wv', rfl, s3, ⟨rfl, h1⟩ | ⟨rfl, hbad⟩⟩
        · have hth3 := hth2.same s3
          walk_at "rd"
          intro H4 s4
          walk_at "rd"
          refine ite2 (fun e => ?_) (fun e => ?_)
          · have hb : goodR p (wOf os) o = false := by
              unfold goodR
              rw [(Bool.not_eq_true' _).mp e, Bool.and_false]
            walk_at "rd"
            exact qb i x (badRow_at hoi hb hgood) hxi H4 ((s1.trans s3).trans s4)
          · have hg : goodR p (wOf os) o = true := by
              unfold goodR
              rw [decide_eq_true h1, Bool.true_and]
              simpa using e
            refine ⟨_, _, rfl, (s1.trans s3).trans s4, fun z => absurd z (by omega), fun _ => rfl, fun j u hj hu => ?_⟩
            by_cases q2 : j < i
            · exact hgood j u q2 hu
            · obtain rfl : j = i := by omega
              obtain rfl : o = u := Option.some.inj (hoi.symm.trans hu)
              exact hg
        · walk_at "rd"
          exact qb i x (badRow_at hoi hbad hgood) hxi H3 (s1.trans s3)
    · rintro σ H1 ⟨wv, y, rfl, s1, _, _, hgood⟩
      refine q (List.findIdx?_eq_none_iff.mpr fun o ho => ?_) H1 s1
      obtain ⟨j, hj⟩ := List.getElem?_of_mem ho
      have := hgood j o (by have := (List.getElem?_eq_some_iff.mp hj).1; omega) hj
      simp [this]
/-- rows of so many numbers, lists or tuples -/
def LenV (K : PySem.W.Frag) (H : Hp) (v : V) (n : Nat) : Prop := ∃ b zs, v = .ref b ∧ (SqL K H b zs ∨ SqT K H b zs) ∧ zs.length = n
theorem LenV.same {H H' : Hp} {v : V} {n : Nat} (h : LenV K H v n) (s : Same H H') : LenV K H' v n := by
  obtain ⟨b, zs, e, h, hl⟩ := h
  exact ⟨b, zs, e, h.imp (fun z => s.seq z) (fun z => s.tupT z), hl⟩
/-- check_width(width, rows) -/
def spWidth (T : Txt K mg) : Sp := fun vs H Q E => ∃ (m : Int) (a : Addr) (kk : Bool) (xs : List V) (ls : List Nat), vs = [.int m, .ref a] ∧ SqB kk K H a xs ∧ Paired (LenV K H) xs ls ∧ ls.length ≤ 1000 ∧
  (¬ (1 ≤ m ∧ m ≤ 40 ∧ ∀ l ∈ ls, (l : Int) = m) → ∀ H', Same H H' → Flies E T.C_BadCount "count" (.int m) H') ∧ ((1 ≤ m ∧ m ≤ 40 ∧ ∀ l ∈ ls, (l : Int) = m) → ∀ H', Same H H' → Q .non H')
theorem ok_check_width (T : Txt K mg) : FnOk P w K mg base (L2.CX P w) 3 T.f_check_width T.fd_check_width ["width", "rows"] (spWidth T) := by
  refine T.F_check_width.okX sc_check_width (fun vs H Q E h => ?_) (fun cdv A outer s H vs Q E hr h => ?_)
  · obtain ⟨m, a, kk, xs, ls, rfl, _⟩ := h
    rfl
  · obtain ⟨m, a, kk, xs, ls, rfl, ha, hx, hl, qb, q⟩ := h
    refine ⟨_, (pss_one (ps_if (PW.pt (pw_or (pt_not (pt_chain op_le op_le pe_int (pv 0) (pe_glob (v := .int 40) rfl T.c_MOST_WIDTH ⟨_, rfl⟩))) (pw_or1 (pt_val (pe_callB (id := "any") (r := rAny K) (cr_any rfl) (by rfl) T.n_any (by decide +kernel) (pa_cons (pe_lc (own := [("row", 2)]) (g := gName 2) (tt := tYes) rfl sc_check_width.nd (pi_seqB (pv 1)) (blkOk_by (own := [("row", 2)]) (N := N_check_width) (sc := defScope s_check_width) (by decide +kernel)) (fun _ _ _ _ _ => (pg_name (i := 2) sc_check_width.nd rfl (Or.inl rfl))) (fun _ _ _ _ _ => pts_nil) (fun _ _ _ _ _ => (pe_cmpR op_ne (pe_callB (id := "len") (r := rLenS K) call_lenS (by rfl) T.n_len PySem.boot_len (pa_cons (pv 2) pa_nil)) (pv 0) (nomark _)))) pa_nil))))))
      (pss_one (ps_raise rfl (takes_of rfl rfl rfl rfl) (pmk_err T.er_BadCount T.iC_BadCount T.tI_BadCount (ok_BadCount__init_ T) (hr.mono (by decide)) T.b_BadCount__init_ (by rfl) T.g_BadCount (pv 0)))) pss_nil)), ?_⟩
    have hxl := paired_len hx
    walk_at "rd"
    refine ite2 (fun e1 => ?_) (fun e1 => ?_)
    · have e1' : 1 ≤ m := of_decide_eq_true e1
      walk_at "rd"
      refine ite2 (fun e2 => ?_) (fun e2 => ?_)
      · have e2' : ¬ m ≤ 40 := fun z => by rw [decide_eq_true z] at e2; cases e2
        first
          | refine iteT ?_
          | skip
        walk_at "rd"
        exact qb (fun z => e2' z.2.1) H (Same.refl H)
      · have e2' : m ≤ 40 := Classical.byContradiction fun z => e2 (by rw [decide_eq_false z]; rfl)
        walk_at "rd"
        refine fun D hD => ?_
        refine lc_all (walk_seq (xs := xs)) (xs := ls) hxl.symm (by omega) (fun l : Nat => V.bl (!decide (V.int (l : Int) = V.int m))) hD (fun H1 s => ha.same s) ?_ ?_
        · intro i l x H1 H2 Qk hli sm hy hk
          obtain ⟨rfl, hx'⟩ := hy
          obtain ⟨l', h1, h2⟩ := OS.paired_get hx hx'
          obtain rfl : l' = l := Option.some.inj (h1.symm.trans hli)
          obtain ⟨b, zs, rfl, hb, rfl⟩ := h2.same sm
          walk_at "rd"
          exact hk _ (Same.refl _)
        · intro H1 sm hD1
          have hq : SqL K H1 D ((ls.map fun l : Nat => !decide (V.int (l : Int) = V.int m)).map V.bl) := SqL.of (by rw [List.map_map]; exact hD1)
          walk_at "rd"
          rw [List.any_map]
          refine ite2 (fun e3 => ?_) (fun e3 => ?_)
          · walk_at "rd"
            refine qb (fun z => ?_) H1 sm
            obtain ⟨l, h1, h2⟩ := List.any_eq_true.mp e3
            have := z.2.2 l h1
            simp [this] at h2
          · refine q ⟨e1', e2', fun l hl' => Classical.byContradiction fun z => e3 (List.any_eq_true.mpr ⟨l, hl', ?_⟩)⟩ H1 sm
            simp [z]
    · have e1' : ¬ 1 ≤ m := fun z => e1 (decide_eq_true z)
      walk_at "rd"
      exact qb (fun z => e1' z.1) H (Same.refl H)
/-- the product of two rows -/
def dotL (ns ms : List Int) : Int := (List.zipWith (fun a b => a * b) ns ms).sum
theorem rng_small {p : Int} {ns : List Int} (hp : p ≤ 11) (h : ∀ i ∈ ns, 0 ≤ i ∧ i < p) : ∀ i ∈ ns, -(2 ^ 64) < i ∧ i < 2 ^ 64 := fun i hi => by
  have := h i hi
  omega
theorem pr_le {p : Int} (h : isPr (.int p) = true) : 2 ≤ p ∧ p ≤ 11 := by
  have := isPr_is h
  omega
end
end P

set_option Elab.async false
set_option linter.all false
set_option maxRecDepth 100000
set_option maxHeartbeats 4000000
namespace P
open PySem PySem.Spec PyProof.Rows L2 OS
/-! short ways: "rd" opens a reading as far as equations go; "sep" finds what stands apart from the state; "sq" a list that is read; "nx" two heaps -/
local macro_rules | `(tactic| walk_at "sep") => `(tactic| first | assumption | (refine (by assumption : Nx _ _ _) _ _ ?_; walk_at "sep"))
local macro_rules | `(tactic| walk_at "sq") => `(tactic| first | assumption | exact .inl (.inl (by assumption)) | exact Sep.sq (by walk_at "sep") | exact Sep.st (by walk_at "sep") | exact .inl (.inl upd_same))
local macro_rules | `(tactic| walk_at "rd") => `(tactic| repeat (first
  | refine And.intro rfl ?_
  | apply Exists.intro
  | refine And.intro (by assumption) ?_
  | refine And.intro (DrawOk.mk (by omega) (by omega) (by omega)) ?_
  | refine And.intro at0 ?_
  | refine And.intro ⟨_, rfl⟩ ?_
  | refine And.intro (by walk_at "sq") ?_
  | refine And.intro (Or.inl (by walk_at "sq")) ?_
  | refine And.intro (Or.inr (by walk_at "sq")) ?_
  | refine And.intro (by omega) ?_))

section
variable {P : Program} {w : World} {K : PySem.W.Frag} {mg : Str → Option Value} {base : Heap}
theorem nums_ints {p : Int} : ∀ {xs : List V}, (∀ v ∈ xs, isN p v = true) → ∃ ns : List Int, xs = ns.map V.int ∧ ∀ i ∈ ns, 0 ≤ i ∧ i < p
  | [], _ => ⟨[], rfl, fun _ h => nomatch h⟩
  | v :: xs, h => by
    obtain ⟨ns, rfl, hn⟩ := nums_ints (xs := xs) fun u hu => h u (List.mem_cons_of_mem _ hu)
    have hv := h v (List.mem_cons_self ..)
    obtain ⟨i, rfl⟩ : ∃ i, v = .int i := by
      cases v <;> first | exact ⟨_, rfl⟩ | exact absurd hv Bool.false_ne_true
    have hi : 0 ≤ i ∧ i < p := by
      have : (decide (0 ≤ i) && decide (i < p)) = true := hv
      simpa using this
    exact ⟨i :: ns, rfl, fun j hj => (List.mem_cons.mp hj).elim (fun e => e ▸ hi) (hn j)⟩

/-- a prime, or a value that is none -/
inductive PrV (K : PySem.W.Frag) (H : Hp) : V → Option Int → Prop
  | ok (p : Int) : isPr (.int p) = true → PrV K H (.int p) (some p)
  | no {v : V} : Itm K H v → isPr v = false → PrV K H v none
theorem RowOk.la {p : Int} {n : Nat} {r : List Int} (h : RowOk p n r) : LA.Row p n r := ⟨h.len, h.rng⟩
theorem good_row {p : Int} {n : Nat} {o : Option (List V)} (h : goodR p n o = true) : 1 ≤ n ∧ ∃ r : List Int, o = some (r.map V.int) ∧ RowOk p n r := by
  unfold goodR at h
  rw [Bool.and_eq_true] at h
  obtain ⟨h1, h2⟩ := h
  refine ⟨of_decide_eq_true h1, ?_⟩
  cases o with
  | none => cases h2
  | some xs =>
    have h3 : (decide ((xs.length : Int) = n) && xs.all (isN p)) = true := h2
    rw [Bool.and_eq_true] at h3
    have hl := of_decide_eq_true h3.1
    obtain ⟨ns, rfl, hns⟩ := nums_ints (p := p) (xs := xs) fun v hv => List.all_eq_true.mp h3.2 v hv
    exact ⟨ns, rfl, by rw [List.length_map] at hl; omega, hns⟩
theorem good_rows {p : Int} {n : Nat} : ∀ {os : List (Option (List V))}, (∀ o ∈ os, goodR p n o = true) → ∃ rows : List (List Int), os = rows.map (fun r => some (r.map V.int)) ∧ ∀ r ∈ rows, RowOk p n r
  | [], _ => ⟨[], rfl, fun _ h => nomatch h⟩
  | o :: os, h => by
    obtain ⟨_, r, rfl, hr⟩ := good_row (h o (.head _))
    obtain ⟨rows, rfl, hrows⟩ := good_rows (os := os) fun x hx => h x (.tail _ hx)
    exact ⟨r :: rows, rfl, fun x hx => (List.mem_cons.mp hx).elim (fun e => e ▸ hr) (hrows x)⟩
theorem badRow_rows {p : Int} {os : List (Option (List V))} (h : badRow p os = none) : ∃ rows : List (List Int), os = rows.map (fun r => some (r.map V.int)) ∧ (∀ r ∈ rows, RowOk p (wOf os) r) ∧ (os ≠ [] → 1 ≤ wOf os) := by
  obtain ⟨rows, e, hr⟩ := good_rows (n := wOf os) fun o ho => badRow_no h ho
  refine ⟨rows, e, hr, fun ne => ?_⟩
  obtain ⟨o, r, rfl⟩ := List.exists_cons_of_ne_nil ne
  exact (good_row (badRow_no h (.head _))).1
theorem rows_things {H : Hp} : ∀ {xs : List V} {rows : List (List Int)}, Paired (Thing K H) xs (rows.map (fun r => some (r.map V.int))) → Paired (RowV K H) xs rows
  | [], [], _ => .nil
  | [], _ :: _, h => nomatch h
  | _ :: _, [], h => nomatch h
  | x :: xs, r :: rows, .cons h t => by
    refine .cons ?_ (rows_things t)
    cases h with
    | tup q _ => exact ⟨_, rfl, q⟩
end
end P

set_option Elab.async false
set_option linter.all false
set_option maxRecDepth 100000
set_option maxHeartbeats 4000000
namespace P
open PySem PySem.Spec PyProof.Rows L2 OS
/-! short ways: "rd" opens a reading as far as equations go; "sep" finds what stands apart from the state; "sq" a list that is read; "nx" two heaps -/
local macro_rules | `(tactic| walk_at "sep") => `(tactic| first | assumption | (refine (by assumption : Nx _ _ _) _ _ ?_; walk_at "sep"))
local macro_rules | `(tactic| walk_at "sq") => `(tactic| first | assumption | exact .inl (.inl (by assumption)) | exact Sep.sq (by walk_at "sep") | exact Sep.st (by walk_at "sep") | exact .inl (.inl upd_same))
local macro_rules | `(tactic| walk_at "rd") => `(tactic| repeat (first
  | refine And.intro rfl ?_
  | apply Exists.intro
  | refine And.intro (by assumption) ?_
  | refine And.intro (DrawOk.mk (by omega) (by omega) (by omega)) ?_
  | refine And.intro at0 ?_
  | refine And.intro ⟨_, rfl⟩ ?_
  | refine And.intro (by walk_at "sq") ?_
  | refine And.intro (Or.inl (by walk_at "sq")) ?_
  | refine And.intro (Or.inr (by walk_at "sq")) ?_
  | refine And.intro (by omega) ?_))

section
variable {P : Program} {w : World} {K : PySem.W.Frag} {mg : Str → Option Value} {base : Heap}

/-- less(prime, row, factor, other) -/
def spLess (K : PySem.W.Frag) : Sp := fun vs H Q _ => ∃ (p f : Int) (a b : Addr) (kk : Bool) (n : Nat) (ns ms : List Int), vs = [.int p, .ref a, .int f, .ref b] ∧ 0 < p ∧ (-(2 ^ 64) < f ∧ f < 2 ^ 64) ∧ SqB kk K H a (ns.map V.int) ∧ SqL K H b (ms.map V.int) ∧ ns.length = n ∧ ms.length = n ∧ n ≤ 1000 ∧
  ∀ q kk' H', Same H H' → SqB kk' K H' q ((LA.lessL p ns f ms).map V.int) → ((q = a ∧ H' = H ∧ LA.lessL p ns f ms = ns) ∨ (H q = none ∧ H' q = some (.lst ((LA.lessL p ns f ms).map V.int)))) → Q (.ref q) H'
theorem ok_less (T : Txt K mg) : FnOk P w K mg base CX0 1 T.f_less T.fd_less ["prime", "row", "factor", "other"] (spLess K) := by
  refine T.F_less.ok sc_less (fun vs H Q E h => ?_) (fun cdv A outer s H vs Q E hr h => ?_)
  · obtain ⟨p, f, a, b, kk, n, ns, ms, rfl, _⟩ := h
    rfl
  · obtain ⟨p, f, a, b, kk, n, ns, ms, rfl, hp, hf, ha, hb, hln, hlm, hn, q⟩ := h
    refine ⟨_, (pss_cons (ps_if (pt_cmpR op_eq (pv 2) pe_int (nomark _))
      (pss_one (ps_ret (pv 1))) pss_nil)
    (pss_one (ps_ret (pe_lc (own := [("number", 4), ("taken", 5)]) (g := gTup K 2 (gCons (gName 4) (gCons (gName 5) gNil))) (tt := tYes) rfl sc_less.nd (pi_zipM (by rfl) T.n_zip (pa_cons (pv 1) (pa_cons (pv 3) pa_nil))) (blkOk_by (own := [("number", 4), ("taken", 5)]) (N := N_less) (sc := defScope s_less) (by decide +kernel)) (fun _ _ _ _ _ => (pg_tup rfl (pgs_cons (pg_name (i := 4) sc_less.nd rfl (Or.inl rfl)) (pgs_cons (pg_name (i := 5) sc_less.nd rfl (Or.inl rfl)) pgs_nil)))) (fun _ _ _ _ _ => pts_nil) (fun _ _ _ _ _ => (pe_op op_mod (pe_op op_sub (pv 4) (pe_op op_mul (pv 2) (pv 5))) (pv 0))))))), ?_⟩
    walk_at "rd"
    refine ite2 (fun e => ?_) (fun e => ?_)
    · have ef : f = 0 := by simpa using e
      walk_at "rd"
      have el : LA.lessL p ns f ms = ns := by
        unfold LA.lessL
        rw [if_pos ef]
      exact q a kk H (Same.refl H) (by rw [el]; exact ha) (.inl ⟨rfl, rfl, el⟩)
    · have ef : f ≠ 0 := by simpa using e
      have hb' : SqB false K H b (ms.map V.int) := hb
      walk_at "rd"
      refine fun D hD => ?_
      have hlz : (ns.zip ms).length = min (ns.map V.int).length (ms.map V.int).length := by simp
      refine lc_all (walk_zipM (c1 := kk) (c2 := false) (xs := ns.map V.int) (ys := ms.map V.int) rfl) (xs := ns.zip ms) hlz (by rw [List.length_map, hln]; omega) (fun z => V.int ((z.1 - f * z.2) % p)) hD (fun H s => ⟨ha.same s, hb'.same s⟩) ?_ ?_
      · intro i z v H3 H4 Qk hz sm hy hk
        obtain ⟨t, x, y, rfl, nt, rfl, hx, hy'⟩ := hy
        obtain ⟨z1, z2⟩ := z
        obtain ⟨hz1, hz2⟩ := List.getElem?_zip_eq_some.mp hz
        replace hx : (ns.map V.int)[i]? = some x := hx
        replace hy' : (ms.map V.int)[i]? = some y := hy'
        rw [List.getElem?_map, hz1] at hx
        rw [List.getElem?_map, hz2] at hy'
        obtain rfl := Option.some.inj hx
        obtain rfl := Option.some.inj hy'
        have ht : SqT K (upd H3 t (.tup [V.int z1, V.int z2])) t [V.int z1, V.int z2] := SqT.of upd_same
        refine ⟨t, _, rfl, ht, rfl, ?_⟩
        walk_at "rd"
        exact hk _ (same_new nt)
      · intro H3 s3 hD3
        have hDl : H3 D = some (.lst ((LA.lessL p ns f ms).map V.int)) := by
          unfold LA.lessL
          rw [if_neg ef, hD3, List.zip, List.map_zipWith, List.map_zipWith]
        exact q D false H3 s3 (SqL.of hDl) (.inr ⟨hD, hDl⟩)
/-- inverse(prime, number) -/
def spInverse (K : PySem.W.Frag) : Sp := fun vs H Q _ => ∃ (p a : Int), vs = [.int p, .int a] ∧ (p = 2 ∨ p = 3 ∨ p = 5 ∨ p = 7 ∨ p = 11) ∧ 0 < a ∧ a < p ∧ ∀ H', Same H H' → Q (.int (LA.inv p a)) H'
theorem ok_inverse (T : Txt K mg) : FnOk P w K mg base CX0 1 T.f_inverse T.fd_inverse ["prime", "number"] (spInverse K) := by
  refine T.F_inverse.ok sc_inverse (fun vs H Q E h => ?_) (fun cdv A outer s H vs Q E hr h => ?_)
  · obtain ⟨p, a, rfl, _⟩ := h
    rfl
  · obtain ⟨p, a, rfl, hp, h0, h1, q⟩ := h
    refine ⟨_, (pss_one (ps_ret (pe_ix (r := rIxL K) ix_list (pe_lc (own := [("other", 2)]) (g := gName 2) rfl sc_inverse.nd (pi_range1 rfl T.n_range (pa_cons (pv 0) pa_nil)) (blkOk_by (own := [("other", 2)]) (N := N_inverse) (sc := defScope s_inverse) (by decide +kernel)) (fun _ _ _ _ _ => (pg_name (i := 2) sc_inverse.nd rfl (Or.inl rfl))) (fun _ _ _ _ _ => (pts_one (pt_cmpR op_eq (pe_op op_mod (pe_op op_mul (pv 1) (pv 2)) (pv 0)) pe_int (nomark _)))) (fun _ _ _ _ _ => (pv 2))) pe_int (fun _ _ => rfl)))), ?_⟩
    have hP := LA.prm_of hp
    have p0 : 0 < p := by omega
    have p11 : p ≤ 11 := by omega
    have ba : -(2 ^ 64) < a ∧ a < 2 ^ 64 := ⟨by omega, by omega⟩
    walk_at "rd"
    refine fun D hD => ?_
    have hlr : ((List.range p.toNat).map fun k : Nat => (k : Int)).length = p.toNat := by simp
    refine lc_fn walk_range (xs := (List.range p.toNat).map fun k : Nat => (k : Int)) hlr (by omega) (fun o : Int => decide (a * o % p = 1)) V.int hD (fun _ _ => trivial) ?_ ?_
    · intro i z x H1 H2 Qk Qn hz sm hy hk hn
      obtain ⟨rfl, rfl⟩ := hy
      obtain ⟨hi, rfl⟩ := List.getElem?_eq_some_iff.mp hz
      rw [List.getElem_map, List.getElem_range] at hk hn
      walk_at "rd"
      refine ite2 (fun e => ?_) (fun e => ?_)
      · walk_at "rd"
        have := hk (by simpa using e) _ (Same.refl _)
        simpa using this
      · exact hn (by simpa using e) _ (Same.refl _)
    · intro H1 sm hD1
      have hne : (LA.invs p a)[0]? = some (LA.inv p a) := by
        have h := hP.inv a h0 h1
        unfold LA.inv at h ⊢
        cases e : LA.invs p a with
        | nil =>
          rw [e] at h
          simp at h
        | cons x r => rfl
      have hDq : SqL K H1 D ((LA.invs p a).map V.int) := SqL.of hD1
      have hat : atI ((LA.invs p a).map V.int) 0 = some (.int (LA.inv p a)) := atI_nat (j := 0) (by rw [List.getElem?_map, hne]; rfl)
      walk_at "rd"
      exact q H1 sm
/-- a lead and its equation -/
def LeadV (K : PySem.W.Frag) (H : Hp) (v : V) (q : LA.Lead) : Prop := ∃ t b, v = .ref t ∧ SqT K H t [.int (q.1 : Int), .ref b] ∧ H b = some (.lst (q.2.map V.int))
theorem LeadV.same {H H' : Hp} {v : V} {q : LA.Lead} (h : LeadV K H v q) (s : Same H H') : LeadV K H' v q := by
  obtain ⟨t, b, e, h1, h2⟩ := h
  exact ⟨t, b, e, s.tupT h1, s _ _ h2⟩
/-- is_unsolvable(found, many) -/
def spUnsolv (K : PySem.W.Frag) : Sp := fun vs H Q _ => ∃ (a : Addr) (xs : List V) (found : List LA.Lead) (m : Nat), vs = [.ref a, .int (m : Int)] ∧ SqL K H a xs ∧ Paired (LeadV K H) xs found ∧ found.length ≤ 1000 ∧ ∀ H', Same H H' → Q (.bl (found.any fun q => decide (q.1 = m))) H'
theorem ok_is_unsolvable (T : Txt K mg) : FnOk P w K mg base CX0 1 T.f_is_unsolvable T.fd_is_unsolvable ["found", "many"] (spUnsolv K) := by
  refine T.F_is_unsolvable.ok sc_is_unsolvable (fun vs H Q E h => ?_) (fun cdv A outer s H vs Q E hr h => ?_)
  · obtain ⟨a, xs, found, m, rfl, _⟩ := h
    rfl
  · obtain ⟨a, xs, found, m, rfl, ha, hx, hl, q⟩ := h
    refine ⟨_, (pss_one (ps_ret (pe_callB (id := "any") (r := rAny K) (cr_any rfl) (by rfl) T.n_any (by decide +kernel) (pa_cons (pe_lc (own := [("lead", 2), ("equation", 3)]) (g := gTup K 2 (gCons (gName 2) (gCons (gName 3) gNil))) (tt := tYes) rfl sc_is_unsolvable.nd (pi_list (pv 0)) (blkOk_by (own := [("lead", 2), ("equation", 3)]) (N := N_is_unsolvable) (sc := defScope s_is_unsolvable) (by decide +kernel)) (fun _ _ _ _ _ => (pg_tup rfl (pgs_cons (pg_name (i := 2) sc_is_unsolvable.nd rfl (Or.inl rfl)) (pgs_cons (pg_name (i := 3) sc_is_unsolvable.nd rfl (Or.inl rfl)) pgs_nil)))) (fun _ _ _ _ _ => pts_nil) (fun _ _ _ _ _ => (pe_cmpR op_eq (pv 2) (pv 1) (nomark _)))) pa_nil)))), ?_⟩
    have hxl := paired_len hx
    walk_at "rd"
    refine ⟨⟨_, ha⟩, fun D hD => ?_⟩
    refine lc_all (walk_list (xs := xs)) (xs := found) hxl.symm (by omega) (fun q => V.bl (decide (q.1 = m))) hD (fun H1 s => s.seq ha) ?_ ?_
    · intro i o x H1 H2 Qk ho sm hy hk
      obtain ⟨rfl, hx'⟩ := hy
      obtain ⟨o', h1, h2⟩ := OS.paired_get hx hx'
      obtain rfl : o' = o := Option.some.inj (h1.symm.trans ho)
      obtain ⟨t, b, rfl, ht, hb⟩ := h2.same sm
      refine ⟨t, _, rfl, ht, rfl, ?_⟩
      walk_at "rd"
      have := hk _ (Same.refl _)
      rw [show (decide (V.int (o'.1 : Int) = V.int (m : Int))) = decide (o'.1 = m) by
        rw [Bool.eq_iff_iff, decide_eq_true_iff, decide_eq_true_iff]
        constructor
        · intro z
          injection z with z
          omega
        · rintro rfl
          rfl]
      exact this
    · intro H1 sm hD1
      have hDq : SqL K H1 D ((found.map fun q => decide (q.1 = m)).map V.bl) := SqL.of (by rw [List.map_map]; exact hD1)
      walk_at "rd"
      rw [List.any_map]
      exact q H1 sm
end
end P

set_option Elab.async false
set_option linter.all false
set_option maxRecDepth 100000
set_option maxHeartbeats 4000000
namespace OS
open PySem PySem.Spec PyProof.Rows L2
/-- as lc_rel; the list that grows is known at each turn -/
theorem lc_relD {α : Type} {J : It} {n : Nat} {G : Hp → Prop} {Y : Nat → Hp → V → Hp → Prop} (w : Walk J n G Y) {xs : List α} (hn : xs.length = n) (hz : n ≤ 100000) (t : α → Bool) (R : Hp → α → V → Prop) {g : TG} {tt : TT} {te : TE} {vs : List Nat} {σ : L2.St} {H1 : Hp} {D : Addr} {Qd : Hp → Prop}
    (hD : H1 D = none) (hR : ∀ H H' a v acc, Same H1 H → H D = some (.lst acc) → (∀ b o, H b = some o → b ≠ D → H' b = some o) → R H a v → R H' a v) (hG : ∀ H, Same H1 H → G H)
    (hs : ∀ i a x H H' (Qk : V → Hp → Prop) (Qn : Hp → Prop), xs[i]? = some a → Same H1 H → (∃ acc, H D = some (.lst acc)) → Y i H x H' → (t a = true → ∀ y H4, R H4 a y → Same H H4 → Qk y H4) → (t a = false → ∀ H4, Same H H4 → Qn H4) →
      g x (wipe σ vs) H' fun σ2 H2 => wipe σ2 vs = wipe σ vs ∧ tt σ2 H2 fun b H3 => if b = true then te σ2 H3 Qk else Qn H3)
    (hd : ∀ H acc, Same H1 H → H D = some (.lst acc) → Paired (R H) (xs.filter t) acc → Qd H) :
    ∃ W : Nat → Nat → Hp → Prop, (∃ m, W 0 m (upd H1 D (.lst []))) ∧ ∀ i m H, W i m H →
      (J.stop i H ∧ Qd H) ∨ (J.go i H ∧ ∃ Nx : Hp → Prop, (∀ H', Nx H' → ∃ m', m' < m ∧ W (i + 1) m' H') ∧ ∀ x H', J.yld i H x H' → g x (wipe σ vs) H' fun σ2 H2 => wipe σ2 vs = wipe σ vs ∧ tt σ2 H2 fun b H3 =>
        if b = true then te σ2 H3 fun y H4 => ∃ acc, H4 D = some (.lst acc) ∧ acc.length < sizeLine ∧ Nx (upd H4 D (.lst (acc ++ [y]))) else Nx H3) := by
  refine lc_it w (fun i H => Same H1 H ∧ ∃ acc, H D = some (.lst acc) ∧ acc.length ≤ i ∧ Paired (R H) ((xs.take i).filter t) acc) ⟨same_new hD, [], upd_same, Nat.le_refl _, .nil⟩ (fun i H _ h => hG H h.1) ?_ ?_
  · intro i x H H' hi ⟨sm, acc, hacc, hl, pr⟩ hy
    have hx : xs[i]? = some xs[i] := List.getElem?_eq_getElem (by omega)
    have ht := take_snoc hx
    refine hs i xs[i] x H H' _ _ hx sm ⟨acc, hacc⟩ hy (fun e y H4 hr s4 => ?_) (fun e H4 s4 => ?_)
    · have h4 := s4 _ _ hacc
      refine ⟨acc, h4, Nat.lt_of_le_of_lt hl (small1e5 (by omega)), same_put (sm.trans s4) hD, acc ++ [y], upd_same, by simp; omega, ?_⟩
      rw [ht, List.filter_append, show [xs[i]].filter t = [xs[i]] by simp [e]]
      have kp : ∀ b o, H4 b = some o → b ≠ D → (upd H4 D (.lst (acc ++ [y]))) b = some o := fun b o q z => by rw [upd_ne z]; exact q
      exact paired_snoc (L2.Paired.mapP pr fun a v q => hR _ _ a v acc (sm.trans s4) h4 kp (hR _ _ a v acc sm hacc (fun b o q _ => s4 b o q) q)) (hR _ _ _ _ acc (sm.trans s4) h4 kp hr)
    · refine ⟨sm.trans s4, acc, s4 _ _ hacc, by omega, ?_⟩
      rw [ht, List.filter_append, show [xs[i]].filter t = [] by simp [e], List.append_nil]
      exact L2.Paired.mapP pr fun a v q => hR _ _ a v acc sm hacc (fun b o q _ => s4 b o q) q
  · intro H ⟨sm, acc, hacc, hl, pr⟩
    rw [List.take_of_length_le (by omega)] at pr
    exact hd H acc sm hacc pr
end OS

set_option Elab.async false
set_option linter.all false
set_option maxRecDepth 100000
set_option maxHeartbeats 4000000
namespace P
open PySem PySem.Spec PyProof.Rows L2 OS
/-! short ways: "rd" opens a reading as far as equations go; "sep" finds what stands apart from the state; "sq" a list that is read; "nx" two heaps -/
local macro_rules | `(tactic| walk_at "sep") => `(tactic| first | assumption | (refine (by assumption : Nx _ _ _) _ _ ?_; walk_at "sep"))
local macro_rules | `(tactic| walk_at "sq") => `(tactic| first | assumption | exact .inl (.inl (by assumption)) | exact Sep.sq (by walk_at "sep") | exact Sep.st (by walk_at "sep") | exact .inl (.inl upd_same))
local macro_rules | `(tactic| walk_at "rd") => `(tactic| repeat (first
  | refine And.intro rfl ?_
  | apply Exists.intro
  | refine And.intro (by assumption) ?_
  | refine And.intro (DrawOk.mk (by omega) (by omega) (by omega)) ?_
  | refine And.intro at0 ?_
  | refine And.intro ⟨_, rfl⟩ ?_
  | refine And.intro (by walk_at "sq") ?_
  | refine And.intro (Or.inl (by walk_at "sq")) ?_
  | refine And.intro (Or.inr (by walk_at "sq")) ?_
  | refine And.intro (by omega) ?_))

section
variable {P : Program} {w : World} {K : PySem.W.Frag} {mg : Str → Option Value} {base : Heap}

/-- a row of numbers, a list or a tuple -/
def RowB (K : PySem.W.Frag) (H : Hp) (v : V) (ns : List Int) : Prop := ∃ (kk : Bool) (b : Addr), v = .ref b ∧ SqB kk K H b (ns.map V.int)
theorem RowB.same {H H' : Hp} {v : V} {ns : List Int} (h : RowB K H v ns) (s : Same H H') : RowB K H' v ns := by
  obtain ⟨kk, b, e, h⟩ := h
  exact ⟨kk, b, e, h.same s⟩
theorem RowV.toB {H : Hp} {v : V} {ns : List Int} (h : RowV K H v ns) : RowB K H v ns := by
  obtain ⟨b, e, h⟩ := h
  exact ⟨true, b, e, h⟩
theorem LeadV.put {H : Hp} {D : Addr} {acc : List V} {u : HO} {v : V} {q : LA.Lead} (hD : H D = some (.lst acc)) (hn : ∀ t b, v = .ref t → SqT K H t [.int (q.1 : Int), .ref b] → H b = some (.lst (q.2.map V.int)) → b ≠ D) (h : LeadV K H v q) : LeadV K (upd H D u) v q := by
  obtain ⟨t, b, e, h1, h2⟩ := h
  exact ⟨t, b, e, tupT_but hD (fun c o q z => by rw [upd_ne z]; exact q) h1, by rw [upd_ne (hn t b e h1 h2)]; exact h2⟩
theorem red_len (p : Int) (rows : List (List Int)) : (LA.redL p rows).length ≤ rows.length := by
  have step : ∀ found r, (LA.stepL p found r).length ≤ found.length + 1 := fun found r => by
    unfold LA.stepL
    simp only
    split
    · omega
    · simp
  have : ∀ (todo : List (List Int)) (found : List LA.Lead), (todo.foldl (LA.stepL p) found).length ≤ found.length + todo.length := by
    intro todo
    induction todo with
    | nil => exact fun found => Nat.le_refl _
    | cons r todo ih =>
      intro found
      have h1 := ih (LA.stepL p found r)
      have h2 := step found r
      simp only [List.foldl_cons, List.length_cons]
      omega
  have := this rows []
  simpa [LA.redL] using this
theorem sweep_app (p : Int) : ∀ (a b : List LA.Lead) (l : List Int), LA.sweep p l (a ++ b) = LA.sweep p (LA.sweep p l a) b
  | [], _, _ => rfl
  | q :: a, b, l => sweep_app p a b _
/-- reduced(prime, rows) -/
def spReduced (K : PySem.W.Frag) : Sp := fun vs H Q _ => ∃ (p : Int) (a : Addr) (kk : Bool) (n : Nat) (xs : List V) (rows : List (List Int)), vs = [.int p, .ref a] ∧ (p = 2 ∨ p = 3 ∨ p = 5 ∨ p = 7 ∨ p = 11) ∧ SqB kk K H a xs ∧ Paired (RowB K H) xs rows ∧ (∀ r ∈ rows, LA.Row p n r) ∧ n ≤ 1000 ∧ rows.length ≤ 500 ∧
  ∀ q xs' H', Same H H' → H' q = some (.lst xs') → Paired (LeadV K H') xs' (LA.redL p rows) → Q (.ref q) H'
theorem ok_reduced (T : Txt K mg) : FnOk P w K mg base CX0 2 T.f_reduced T.fd_reduced ["prime", "rows"] (spReduced K) := by
  refine T.F_reduced.ok sc_reduced (fun vs H Q E h => ?_) (fun cdv A outer s H vs Q E hr h => ?_)
  · obtain ⟨p, a, kk, n, xs, rows, rfl, _⟩ := h
    rfl
  · obtain ⟨p, a, kk, n, xs, rows, rfl, hp, ha, hx, hrow, hn, hrl, q⟩ := h
    refine ⟨_, (pss_cons (ps_set (i := 2) sc_reduced.nd rfl (Or.inl rfl) (pe_lstO pa_nil))
    (pss_stop (ps_for PassesOwn.never rfl (pi_hold (pi_seqB (pv 1))) (pg_name (i := 3) sc_reduced.nd rfl (Or.inl rfl))
      (pss_cons (ps_set (i := 4) sc_reduced.nd rfl (Or.inl rfl) (pv 3))
    (pss_stop (ps_for PassesOwn.never rfl (pi_hold (pi_list (pv 2))) (pg_tup rfl (pgs_cons (pg_name (i := 5) sc_reduced.nd rfl (Or.inl rfl)) (pgs_cons (pg_name (i := 6) sc_reduced.nd rfl (Or.inl rfl)) pgs_nil)))
      (pss_one (ps_set (i := 4) sc_reduced.nd rfl (Or.inl rfl) (pe_call (ok_less T) (hr.mono (by decide)) (by rfl) T.g_less T.F_less.kp T.b_less .nil pass0 (pa_cons (pv 0) (pa_cons (pv 4) (pa_cons (pe_ix (r := rIxB K) ix_seqB (pv 4) (pv 5) (fun _ _ => rfl)) (pa_cons (pv 6) pa_nil))))))))
    (pss_cons (ps_setLc (i := 7) (own := [("at", 8), ("number", 9)]) (g := gTup K 2 (gCons (gName 8) (gCons (gName 9) gNil))) rfl sc_reduced.nd rfl rfl (sw_true rfl rfl rfl (by decide +kernel)) (pi_enumB (by rfl) T.n_enumerate (pa_cons (pv 4) pa_nil)) (blkOk_by (own := [("at", 8), ("number", 9)]) (N := N_reduced) (sc := defScope s_reduced) (by decide +kernel)) (fun _ _ _ _ _ => (pg_tup rfl (pgs_cons (pg_name (i := 8) sc_reduced.nd rfl (Or.inl rfl)) (pgs_cons (pg_name (i := 9) sc_reduced.nd rfl (Or.inl rfl)) pgs_nil)))) (fun _ _ _ _ _ => (pts_one (pt_cmpR op_ne (pv 9) pe_int (nomark _)))) (fun _ _ _ _ _ => (pv 8)))
    (pss_one (ps_if (pt_truth (pv 7) (fun _ => rfl))
      (pss_cons (ps_set (i := 10) sc_reduced.nd rfl (Or.inr rfl) (pe_ix (r := rIxL K) ix_list (pv 7) pe_int (fun _ _ => rfl)))
    (pss_cons (ps_set (i := 11) sc_reduced.nd rfl (Or.inr rfl) (pe_call (ok_inverse T) (hr.mono (by decide)) (by rfl) T.g_inverse T.F_inverse.kp T.b_inverse .nil pass0 (pa_cons (pv 0) (pa_cons (pe_ix (r := rIxB K) ix_seqB (pv 4) (pv 10) (fun _ _ => rfl)) pa_nil))))
    (pss_cons (ps_set (i := 12) sc_reduced.nd rfl (Or.inr rfl) (pe_lc (own := [("number", 9)]) (g := gName 9) (tt := tYes) rfl sc_reduced.nd (pi_seqB (pv 4)) (blkOk_by (own := [("number", 9)]) (N := N_reduced) (sc := defScope s_reduced) (by decide +kernel)) (fun _ _ _ _ _ => (pg_name (i := 9) sc_reduced.nd rfl (Or.inl rfl))) (fun _ _ _ _ _ => pts_nil) (fun _ _ _ _ _ => (pe_op op_mod (pe_op op_mul (pv 9) (pv 11)) (pv 0)))))
    (pss_cons (ps_setLc (i := 2) (own := [("lead", 5), ("known", 6)]) (g := gTup K 2 (gCons (gName 5) (gCons (gName 6) gNil))) (tt := tYes) rfl sc_reduced.nd rfl rfl (sw_true rfl rfl rfl (by decide +kernel)) (pi_list (pv 2)) (blkOk_by (own := [("lead", 5), ("known", 6)]) (N := N_reduced) (sc := defScope s_reduced) (by decide +kernel)) (fun _ _ _ _ _ => (pg_tup rfl (pgs_cons (pg_name (i := 5) sc_reduced.nd rfl (Or.inl rfl)) (pgs_cons (pg_name (i := 6) sc_reduced.nd rfl (Or.inl rfl)) pgs_nil)))) (fun _ _ _ _ _ => pts_nil) (fun _ _ _ _ _ => (pe_tupO (pa_cons (pv 5) (pa_cons (pe_call (ok_less T) (hr.mono (by decide)) (by rfl) T.g_less T.F_less.kp T.b_less .nil pass0 (pa_cons (pv 0) (pa_cons (pv 6) (pa_cons (pe_ix (r := rIxL K) ix_list (pv 6) (pv 10) (fun _ _ => rfl)) (pa_cons (pv 12) pa_nil))))) pa_nil)))))
    (pss_one (ps_expr (pe_bm PySem.F.plainAttrs_list PySem.F.slot_list_append PySem.F.type_list_append mt_append (pv 2) (pa_cons (pe_tupO (pa_cons (pv 10) (pa_cons (pv 12) pa_nil))) pa_nil)))))))) pss_nil))))))
    (pss_one (ps_ret (pv 2))))), ?_⟩
    have hP := LA.prm_of hp
    have p0 : 0 < p := by omega
    have p11 : p ≤ 11 := by omega
    have hxl := paired_len hx
    refine ⟨by decide, fun f0 H0 nf0 sf0 hf0 => ?_⟩
    refine Stop.cut (fun σ H' => ∃ (y3 y4 y5 y6 y7 y10 y11 y12 : Option V) (fd : Addr) (zs : List V), σ = [some (.int p), some (.ref a), some (.ref fd), y3, y4, y5, y6, y7, none, none, y10, y11, y12] ∧ Same H H' ∧ H' fd = some (.lst zs) ∧ Paired (LeadV K H') zs (LA.redL p rows)) (fun Qz hz => ?_) ?_
    · have ha0 := ha.same sf0
      walk_at "rd"
      refine ⟨for_it (walk_seq (xs := xs)) (fun i σ H' => ∃ (y3 y4 y5 y6 y7 y10 y11 y12 : Option V) (fd : Addr) (zs : List V), σ = [some (.int p), some (.ref a), some (.ref fd), y3, y4, y5, y6, y7, none, none, y10, y11, y12] ∧ Same H H' ∧ H fd = none ∧ H' fd = some (.lst zs) ∧ Paired (LeadV K H') zs (LA.redL p (rows.take i)))
        ⟨none, none, none, none, none, none, none, none, f0, [], rfl, sf0, nf0, hf0, .nil⟩ (fun i σ H' _ ⟨_, _, _, _, _, _, _, _, _, _, _, s, _⟩ => ha.same s) ?_ ?_⟩
      · rintro i x _ H1 H2 hil ⟨y3, y4, y5, y6, y7, y10, y11, y12, fd, zs, rfl, s1, nfd, hfd, hzs⟩ ⟨rfl, hxi⟩
        obtain ⟨r, hri, hrv⟩ := OS.paired_get hx hxi
        have hr' := hrow r (List.mem_of_getElem? hri)
        have hil' : i < rows.length := (List.getElem?_eq_some_iff.mp hri).1
        have htk : rows.take (i + 1) = rows.take i ++ [r] := by rw [List.take_succ, hri]; rfl
        have R := LA.red_all hP (n := n) (rows := rows.take i) fun x hx => hrow x (List.mem_of_mem_take hx)
        have hstep : LA.redL p (rows.take (i + 1)) = LA.stepL p (LA.redL p (rows.take i)) r := by
          unfold LA.redL
          rw [htk, List.foldl_append]
          rfl
        rw [hstep]
        clear hstep htk
        have hfl : (LA.redL p (rows.take i)).length ≤ 600 := by
          have h1 := red_len p (rows.take i)
          rw [List.length_take] at h1
          omega
        generalize LA.redL p (rows.take i) = found at hzs R hfl ⊢
        obtain ⟨kr, rb, rfl, hrb⟩ := hrv.same s1
        have hzl := paired_len hzs
        have hflen : ∀ q ∈ found, q.2.length = n := fun q hq => (R.ok q hq).row.len
        have hqf : SqL K H2 fd zs := SqL.of hfd
        walk_at "rd"
        refine Stop.cut (fun σ H' => ∃ (y5 y6 : Option V) (la : Addr) (kl : Bool), σ = [some (.int p), some (.ref a), some (.ref fd), some (.ref rb), some (.ref la), y5, y6, y7, none, none, y10, y11, y12] ∧ Same H2 H' ∧ SqB kl K H' la ((LA.sweep p r found).map V.int)) (fun Qz2 hz2 => ?_) ?_
        · walk_at "rd"
          refine ⟨⟨_, hqf⟩, ⟨for_it (walk_list (xs := zs)) (fun j σ H' => ∃ (y5 y6 : Option V) (la : Addr) (kl : Bool), σ = [some (.int p), some (.ref a), some (.ref fd), some (.ref rb), some (.ref la), y5, y6, y7, none, none, y10, y11, y12] ∧ Same H2 H' ∧ SqB kl K H' la ((LA.sweep p r (found.take j)).map V.int))
            ⟨y5, y6, rb, kr, rfl, Same.refl _, hrb⟩ (fun j σ H' _ ⟨_, _, _, _, _, s, _⟩ => s.seq hqf) ?_ ?_⟩⟩
          · rintro j v _ H3 H4 hj ⟨y5, y6, la, kl, rfl, s3, hla⟩ ⟨rfl, hv⟩
            obtain ⟨q0, hq0, hlv⟩ := OS.paired_get hzs hv
            obtain ⟨t, b, rfl, ht, hb⟩ := hlv.same s3
            have hok := R.ok q0 (List.mem_of_getElem? hq0)
            have hsw : LA.Row p n (LA.sweep p r (found.take j)) := LA.sweep_row p0 hr' fun q hq => hflen q (List.mem_of_mem_take hq)
            have htk : found.take (j + 1) = found.take j ++ [q0] := by rw [List.take_succ, hq0]; rfl
            have hnx : LA.sweep p r (found.take (j + 1)) = LA.lessL p (LA.sweep p r (found.take j)) (LA.at_ (LA.sweep p r (found.take j)) q0.1) q0.2 := by
              rw [htk, sweep_app]
              rfl
            rw [hnx]
            generalize LA.sweep p r (found.take j) = cur at hla hsw ⊢
            have hat : atI (cur.map V.int) (q0.1 : Int) = some (.int (LA.at_ cur q0.1)) := atI_at (by rw [hsw.len]; exact hok.lt)
            have hrg := hsw.at_rng p0 q0.1
            have hf : -(2 ^ 64) < LA.at_ cur q0.1 ∧ LA.at_ cur q0.1 < 2 ^ 64 := ⟨by omega, by omega⟩
            have hl1 := hsw.len
            have hl2 := hok.row.len
            refine ⟨t, _, rfl, ht, rfl, ?_⟩
            have hbq : SqL K H4 b (q0.2.map V.int) := SqL.of hb
            walk_at "rd"
            intro lb kb H5 s5 hlb _
            exact ⟨_, _, lb, kb, rfl, s3.trans s5, hlb⟩
          · rintro σ H3 ⟨y5, y6, la, kl, rfl, s3, hla⟩
            rw [hzl, List.take_length] at hla
            exact hz2 _ _ ⟨y5, y6, la, kl, rfl, s3, hla⟩
        · rintro _ H3 ⟨y5, y6, la, kl, rfl, s3, hla⟩
          have hsw : LA.Row p n (LA.sweep p r found) := LA.sweep_row p0 hr' hflen
          have hzs3 : Paired (LeadV K H3) zs found := L2.Paired.mapP hzs fun _ _ z => z.same s3
          have hzq3 : SqL K H3 fd zs := SqL.of (s3 _ _ hfd)
          have stN : LA.places (LA.sweep p r found) = [] → LA.stepL p found r = found := fun e => by
            unfold LA.stepL
            simp only
            rw [e]
          have stC : ∀ f fs, LA.places (LA.sweep p r found) = f :: fs → LA.stepL p found r = (found.map fun q => (q.1, LA.lessL p q.2 (LA.at_ q.2 f) ((LA.sweep p r found).map fun x => x * LA.inv p (LA.at_ (LA.sweep p r found) f) % p))) ++ [(f, (LA.sweep p r found).map fun x => x * LA.inv p (LA.at_ (LA.sweep p r found) f) % p)] := fun f fs e => by
            unfold LA.stepL
            simp only
            rw [e]
          generalize LA.sweep p r found = left at hla hsw stN stC
          have hlr : (List.range n).length = (left.map V.int).length := by simp [hsw.len]
          walk_at "rd"
          refine fun D hD => ?_
          refine lc_fn (walk_enumB (kk := kl) (xs := left.map V.int)) (xs := List.range n) hlr (by rw [List.length_map, hsw.len]; omega) (fun k => !decide (LA.at_ left k = 0)) (fun k : Nat => V.int (k : Int)) hD (fun H1 s => hla.same s) ?_ ?_
          · intro j k x H4 H5 Qk Qn hk sm hy hkk hkn
            obtain ⟨t, x1, x2, rfl, nt, rfl, hx1, hx2⟩ := hy
            obtain ⟨hj, rfl⟩ := List.getElem?_eq_some_iff.mp hk
            rw [List.getElem_range] at hkk hkn
            obtain rfl : V.int (j : Int) = x1 := Option.some.inj hx1
            have hjl : j < left.length := by rw [hsw.len]; simpa using hj
            obtain rfl : V.int (LA.at_ left j) = x2 := by
              replace hx2 : (left.map V.int)[j]? = some x2 := hx2
              rw [List.getElem?_map, List.getElem?_eq_getElem hjl] at hx2
              rw [LA.at_get hjl]
              exact Option.some.inj hx2
            have ht : SqT K (upd H4 t (.tup [V.int (j : Int), V.int (LA.at_ left j)])) t [V.int (j : Int), V.int (LA.at_ left j)] := SqT.of upd_same
            refine ⟨t, _, rfl, ht, rfl, ?_⟩
            walk_at "rd"
            refine ite2 (fun e => ?_) (fun e => ?_)
            · walk_at "rd"
              exact hkk (by simpa using e) _ (same_new nt)
            · exact hkn (by simpa using e) _ (same_new nt)
          · intro H4 s4 hD4
            have hD4' : H4 D = some (.lst ((LA.places left).map fun k : Nat => V.int (k : Int))) := by
              unfold LA.places
              rw [hsw.len]
              exact hD4
            have hDq : SqL K H4 D ((LA.places left).map fun k : Nat => V.int (k : Int)) := SqL.of hD4'
            have hzs4 : Paired (LeadV K H4) zs found := L2.Paired.mapP hzs3 fun _ _ z => z.same s4
            have hla4 := hla.same s4
            walk_at "rd"
            refine ⟨.inl ⟨_, hDq, rfl⟩, ?_⟩
            have hsub : ∀ f, f ∈ LA.places left → f < n ∧ LA.at_ left f ≠ 0 := fun f hf => by
              obtain ⟨hf1, hf2⟩ := List.mem_filter.mp hf
              exact ⟨by rw [← hsw.len]; exact List.mem_range.mp hf1, by simpa using hf2⟩
            clear hD4 hD4'
            generalize LA.places left = pl at hDq hsub stN stC ⊢
            cases pl with
            | nil =>
              refine ite2 (fun e => absurd e (by decide)) fun _ => ?_
              rw [stN rfl]
              exact ⟨_, _, _, _, _, _, _, _, fd, zs, rfl, (s1.trans s3).trans s4, nfd, s4 _ _ (s3 _ _ hfd), hzs4⟩
            | cons f fs =>
              refine ite2 (fun _ => ?_) (fun e => absurd rfl e)
              obtain ⟨hfn, hfne⟩ := hsub f (.head _)
              rw [stC f fs rfl]
              clear stN stC hsub
              have hrg := hsw.at_rng p0 f
              have hat0 : atI ((f :: fs).map fun k : Nat => V.int (k : Int)) 0 = some (.int (f : Int)) := atI_nat (j := 0) rfl
              have hatf : atI (left.map V.int) (f : Int) = some (.int (LA.at_ left f)) := atI_at (by rw [hsw.len]; exact hfn)
              have g0 : 0 < LA.at_ left f := by omega
              have g1 := hrg.2
              walk_at "rd"
              intro H5 s5
              generalize LA.inv p (LA.at_ left f) = iv
              have hla5 := hla4.same s5
              walk_at "rd"
              refine fun D2 hD2 => ?_
              refine lc_all (walk_seq (kk := kl) (xs := left.map V.int)) (xs := left) (by simp) (by rw [List.length_map, hsw.len]; omega) (fun x => V.int (x * iv % p)) hD2 (fun H s => hla5.same s) ?_ ?_
              · intro j x v H6 H7 Qk hx sm hy hk
                obtain ⟨rfl, hv⟩ := hy
                rw [List.getElem?_map, hx] at hv
                obtain rfl := Option.some.inj hv
                have hxr := hsw.rng x (List.mem_of_getElem? hx)
                have hb : -(2 ^ 64) < x ∧ x < 2 ^ 64 := ⟨by omega, by omega⟩
                walk_at "rd"
                exact hk _ (Same.refl _)
              · intro H6 s6 hD6
                have hfrl : (left.map fun x => x * iv % p).length = n := by rw [List.length_map, hsw.len]
                have hD6' : H6 D2 = some (.lst ((left.map fun x => x * iv % p).map V.int)) := by rw [List.map_map]; exact hD6
                generalize left.map (fun x => x * iv % p) = fresh at hfrl hD6' ⊢
                have s46 := s5.trans s6
                have hzs6 : Paired (LeadV K H6) zs found := L2.Paired.mapP hzs4 fun _ _ z => z.same s46
                have hfd6 := s46 _ _ (s4 _ _ (s3 _ _ hfd))
                have hzq6 : SqL K H6 fd zs := SqL.of hfd6
                walk_at "rd"
                refine ⟨⟨_, hzq6⟩, fun D3 hD3 => ?_⟩
                refine lc_relD (walk_list (xs := zs)) (xs := found) hzl.symm (by omega) (fun _ => true) (fun H q v => ∃ t b, v = .ref t ∧ SqT K H t [.int (q.1 : Int), .ref b] ∧ H b = some (.lst ((LA.lessL p q.2 (LA.at_ q.2 f) fresh).map V.int)) ∧ b ≠ D3) hD3 ?_ (fun H s => s.seq hzq6) ?_ ?_
                · rintro H7 H8 q v acc _ hDa kp ⟨t, b, e, h1, h2, h3⟩
                  exact ⟨t, b, e, tupT_but hDa kp h1, kp _ _ h2 h3, h3⟩
                · intro j q0 v H7 H8 Qk Qn hq0 sm ⟨acc, hacc⟩ hy hkk _
                  obtain ⟨rfl, hv⟩ := hy
                  obtain ⟨q', h1, h2⟩ := OS.paired_get hzs6 hv
                  obtain rfl : q' = q0 := Option.some.inj (h1.symm.trans hq0)
                  obtain ⟨t0, b0, _, _, hb60⟩ := id h2
                  obtain ⟨t, b, rfl, ht6, hb6⟩ := h2
                  have ht := sm.tupT ht6
                  have hb := sm _ _ hb6
                  have hbD : b ≠ D3 := ne_of_none hb6 hD3
                  have hok := R.ok q' (List.mem_of_getElem? hq0)
                  have hbq : SqL K H8 b (q'.2.map V.int) := SqL.of hb
                  have hbB : SqB false K H8 b (q'.2.map V.int) := hbq
                  have hfq : SqL K H8 D2 (fresh.map V.int) := SqL.of (sm _ _ hD6')
                  have hatq : atI (q'.2.map V.int) (f : Int) = some (.int (LA.at_ q'.2 f)) := atI_at (by rw [hok.row.len]; exact hfn)
                  have hrq := hok.row.at_rng p0 f
                  have hbd : -(2 ^ 64) < LA.at_ q'.2 f ∧ LA.at_ q'.2 f < 2 ^ 64 := ⟨by omega, by omega⟩
                  have hlq := hok.row.len
                  refine ⟨t, _, rfl, ht, rfl, ?_⟩
                  walk_at "rd"
                  intro lb kb H9 s9 hlb hor
                  refine ⟨by show 2 ≤ sizeLine; decide, fun u H10 n10 s10 hu => ?_⟩
                  refine hkk rfl (.ref u) H10 ⟨u, lb, rfl, SqT.of hu, ?_, ?_⟩ (s9.trans s10)
                  · refine s10 _ _ ?_
                    rcases hor with ⟨rfl, rfl, el⟩ | ⟨hn9, h9⟩
                    · rw [el]
                      exact hb
                    · exact h9
                  · rcases hor with ⟨rfl, rfl, _⟩ | ⟨hn9, h9⟩
                    · exact hbD
                    · exact fun z => by
                        rw [z, hacc] at hn9
                        cases hn9
                · intro H7 acc s7 hD7 pr
                  walk_at "rd"
                  refine ⟨.inl ⟨rfl, _, SqL.of hD7⟩, ?_⟩
                  walk_at "rd"
                  refine ⟨by show 2 ≤ sizeLine; decide, fun u H8 n8 s8 hu => ?_⟩
                  have hD8 := s8 _ _ hD7
                  have hal : acc.length < sizeLine := by
                    have := paired_len pr
                    have h2 := List.length_filter_le (fun _ => true) found
                    exact small1e5 (by omega)
                  have hD2n : D2 ≠ D3 := ne_of_none hD6' hD3
                  have huD : u ≠ D3 := fun z => by
                    rw [z, hD7] at n8
                    cases n8
                  walk_at "rd"
                  have s48 := (((s1.trans s3).trans s4).trans s46).trans (s7.trans s8)
                  have hD3n : H D3 = none := by
                    cases hx : H D3 with
                    | none => rfl
                    | some o =>
                      have := ((((s1.trans s3).trans s4).trans s46)) _ _ hx
                      rw [hD3] at this
                      cases this
                  refine ⟨same_put s48 hD3n, hD3n, upd_same, ?_⟩
                  have kp : ∀ b o, H8 b = some o → b ≠ D3 → (upd H8 D3 (.lst (acc ++ [.ref u]))) b = some o := fun b o q z => by rw [upd_ne z]; exact q
                  have hall : found.filter (fun _ => true) = found := List.filter_eq_self.mpr fun _ _ => rfl
                  rw [hall] at pr
                  have pr2 : Paired (fun q v => LeadV K (upd H8 D3 (.lst (acc ++ [.ref u]))) v (q.1, LA.lessL p q.2 (LA.at_ q.2 f) fresh)) found acc := L2.Paired.mapP pr fun q v z => by
                    obtain ⟨t, b, e, h1, h2, h3⟩ := z
                    exact ⟨t, b, e, tupT_but hD8 kp (s8.tupT h1), kp _ _ (s8 _ _ h2) h3⟩
                  refine paired_swap (paired_app (paired_map (F := fun q v => LeadV K (upd H8 D3 (.lst (acc ++ [.ref u]))) v q) pr2) (.cons ⟨u, D2, rfl, tupT_but hD8 kp (SqT.of hu), kp _ _ (s8 _ _ (s7 _ _ hD6')) hD2n⟩ .nil))
      · rintro σ H1 ⟨y3, y4, y5, y6, y7, y10, y11, y12, fd, zs, rfl, s1, nfd, hfd, hzs⟩
        rw [hxl, List.take_length] at hzs
        exact hz _ _ ⟨y3, y4, y5, y6, y7, y10, y11, y12, fd, zs, rfl, s1, hfd, hzs⟩
    · rintro _ H1 ⟨y3, y4, y5, y6, y7, y10, y11, y12, fd, zs, rfl, s1, hfd, hzs⟩
      walk_at "rd"
      exact q fd zs H1 s1 hfd hzs
end
end P

set_option linter.all false
set_option maxHeartbeats 1000000
/-! a solution of equations, read off the cleared rows -/
namespace LA
section
variable {p : Int} {n : Nat}
/-- x0 v0 + x1 v1 + .. over n places -/
def dotN (x v : Vec) : Nat → Int
  | 0 => 0
  | n + 1 => dotN x v n + v n * x n
theorem dotN_lin (x : Vec) : ∀ (n : Nat) (c : List Int) (L : List Vec), dotN x (lin c L) n = lin c (L.map fun v _ => dotN x v n) 0
  | 0, c, L => by
    show (0 : Int) = lin c (L.map fun v _ => 0) 0
    induction L generalizing c with
    | nil => rw [List.map_nil, lin_nil_right]
    | cons v L ih =>
      cases c with
      | nil => rw [lin_nil_left]
      | cons a c =>
        show (0 : Int) = a * 0 + lin c (L.map fun v _ => 0) 0
        rw [← ih c]
        omega
  | n + 1, c, L => by
    show dotN x (lin c L) n + lin c L n * x n = lin c (L.map fun v _ => dotN x v n + v n * x n) 0
    rw [dotN_lin x n c L]
    induction L generalizing c with
    | nil => simp [lin_nil_right]
    | cons v L ih =>
      cases c with
      | nil => simp [lin_nil_left]
      | cons a c =>
        show (a * dotN x v n + lin c (L.map fun v _ => dotN x v n) 0) + (a * v n + lin c L n) * x n = a * (dotN x v n + v n * x n) + lin c (L.map fun v _ => dotN x v n + v n * x n) 0
        rw [← ih c, Int.add_mul, Int.mul_add, Int.mul_assoc]
        omega
theorem dotN_congr {x u v : Vec} : ∀ {n : Nat}, (∀ j, j < n → p ∣ u j - v j) → p ∣ dotN x u n - dotN x v n
  | 0, _ => ⟨0, by show (0 : Int) - 0 = p * 0; omega⟩
  | n + 1, h => by
    have h1 := dotN_congr (x := x) (n := n) fun j hj => h j (by omega)
    have h2 := Int.dvd_trans (h n (by omega)) (Int.dvd_mul_right (u n - v n) (x n))
    refine dvd_congr (Int.dvd_add h1 h2) ?_
    show _ = dotN x u n + u n * x n - (dotN x v n + v n * x n)
    rw [Int.sub_mul]
    omega
/-- x solves the equation v: v0 x0 + .. = vn -/
def Solves (p : Int) (n : Nat) (x v : Vec) : Prop := p ∣ dotN x v n - v n
theorem lin_fn {L : List Vec} {x : Vec} (h : ∀ v ∈ L, Solves p n x v) : ∀ c : List Int, p ∣ lin c (L.map fun v _ => dotN x v n) 0 - lin c L n := by
  induction L with
  | nil => exact fun c => ⟨0, by rw [List.map_nil, lin_nil_right, lin_nil_right]; omega⟩
  | cons v L ih =>
    intro c
    cases c with
    | nil => exact ⟨0, by rw [lin_nil_left, lin_nil_left]; omega⟩
    | cons a c =>
      have h1 := dvd_mul_r a (h v (.head _))
      have h2 := ih (fun w hw => h w (.tail _ hw)) c
      refine dvd_congr (Int.dvd_add h1 h2) ?_
      show _ = (a * dotN x v n + lin c (L.map fun v _ => dotN x v n) 0) - (a * v n + lin c L n)
      rw [Int.mul_sub]
      omega
/-- what solves rows solves their span -/
theorem Solves.span {L : List Vec} {x v : Vec} (h : ∀ w ∈ L, Solves p n x w) (s : InS p (n + 1) L v) : Solves p n x v := by
  obtain ⟨c, _, hc⟩ := s
  have h1 := dotN_congr (x := x) (n := n) fun j hj => hc j (by omega)
  have h2 := hc n (by omega)
  have h3 := lin_fn h c
  rw [← dotN_lin] at h3
  refine dvd_congr (Int.dvd_sub (Int.dvd_add h1 h3) h2) ?_
  show dotN x v n - dotN x (lin c L) n + (dotN x (lin c L) n - lin c L n) - (v n - lin c L n) = dotN x v n - v n
  omega
/-- the numbers that are read off -/
def readN (many : Nat) : List Lead → List Int
  | [] => List.replicate many 0
  | q :: found => (readN many found).set q.1 (at_ q.2 many)
theorem readN_len (many : Nat) : ∀ found : List Lead, (readN many found).length = many
  | [] => by simp [readN]
  | q :: found => by simp [readN, readN_len many found]
/-- set one by one, from the front -/
def setN (many : Nat) (ns : List Int) (found : List Lead) : List Int := found.foldl (fun ns q => ns.set q.1 (at_ q.2 many)) ns
theorem setN_len (many : Nat) : ∀ (found : List Lead) (ns : List Int), (setN many ns found).length = ns.length
  | [], _ => rfl
  | q :: found, ns => by
    show (setN many (ns.set q.1 (at_ q.2 many)) found).length = _
    rw [setN_len many found, List.length_set]
theorem at_set {ns : List Int} {i j : Nat} {z : Int} : at_ (ns.set i z) j = if i = j ∧ i < ns.length then z else at_ ns j := by
  unfold at_
  rw [List.getD_eq_getElem?_getD, List.getD_eq_getElem?_getD, List.getElem?_set]
  by_cases h : i = j
  · subst h
    by_cases hl : i < ns.length
    · simp [hl]
    · simp [hl]
  · simp [h]
theorem setN_other {many : Nat} {j : Nat} : ∀ (found : List Lead) (ns : List Int), (∀ q ∈ found, q.1 ≠ j) → at_ (setN many ns found) j = at_ ns j
  | [], _, _ => rfl
  | q :: found, ns, h => by
    show at_ (setN many (ns.set q.1 (at_ q.2 many)) found) j = _
    rw [setN_other found _ fun x hx => h x (.tail _ hx), at_set, if_neg fun z => h q (.head _) z.1]
theorem leads_ne {found : List Lead} (ho : ∀ q ∈ found, LeadOk p n q) {q q' : Lead} (a : Apart q q') (h' : q' ∈ found) : q.1 ≠ q'.1 := fun e => by
  have h1 := a.1
  have h2 := (ho q' h').own
  rw [e, h2] at h1
  omega
theorem setN_lead {many : Nat} : ∀ (found : List Lead) (ns : List Int), (∀ q ∈ found, LeadOk p n q) → found.Pairwise Apart → (∀ q ∈ found, q.1 < ns.length) → ∀ q ∈ found, at_ (setN many ns found) q.1 = at_ q.2 many
  | [], _, _, _, _, _, h => nomatch h
  | q :: found, ns, ho, ha, hl, q', hq => by
    obtain ⟨a1, a2⟩ := List.pairwise_cons.mp ha
    show at_ (setN many (ns.set q.1 (at_ q.2 many)) found) q'.1 = _
    rcases List.mem_cons.mp hq with rfl | hq
    · rw [setN_other found _ fun x hx e => leads_ne (fun y hy => ho y hy) (a1 x hx) (.tail _ hx) e.symm, at_set, if_pos ⟨rfl, hl _ (.head _)⟩]
    · exact setN_lead found _ (fun x hx => ho x (.tail _ hx)) a2 (fun x hx => by rw [List.length_set]; exact hl x (.tail _ hx)) q' hq
/-- the sum of a row whose only place where both are not nought is l -/
theorem dotN_one {x v : Vec} {l : Nat} : ∀ {n : Nat}, (∀ k, k < n → k ≠ l → v k * x k = 0) → dotN x v n = if l < n then v l * x l else 0
  | 0, _ => rfl
  | n + 1, h => by
    show dotN x v n + v n * x n = _
    rw [dotN_one (l := l) fun k hk => h k (by omega)]
    by_cases e : l = n
    · subst e
      rw [if_neg (by omega), if_pos (by omega)]
      omega
    · rw [h n (by omega) (fun z => e z.symm)]
      by_cases q : l < n
      · rw [if_pos q, if_pos (by omega)]
        omega
      · rw [if_neg q, if_neg (by omega)]
        omega
/-- the numbers that are read off solve the equations -/
theorem solves_all {many : Nat} {rows : List (List Int)} {found : List Lead} (R : Red p (many + 1) rows found) (hno : ∀ q ∈ found, q.1 ≠ many) : ∀ r ∈ rows, Solves p many (at_ (setN many (List.replicate many 0) found)) (at_ r) := by
  have hlt : ∀ q ∈ found, q.1 < many := fun q hq => by
    have := (R.ok q hq).lt
    have := hno q hq
    omega
  have hf : ∀ q ∈ found, Solves p many (at_ (setN many (List.replicate many 0) found)) (at_ q.2) := fun q hq => by
    have hl := setN_lead (many := many) found (List.replicate many 0) R.ok R.ap (fun x hx => by rw [List.length_replicate]; exact hlt x hx)
    have h1 : ∀ k, k < many → k ≠ q.1 → at_ q.2 k * at_ (setN many (List.replicate many 0) found) k = 0 := fun k hk hkq => by
      by_cases e : ∃ q' ∈ found, q'.1 = k
      · obtain ⟨q', hq', rfl⟩ := e
        have ap : at_ q.2 q'.1 = 0 := by
          obtain ⟨i, hi, rfl⟩ := List.mem_iff_getElem.mp hq
          obtain ⟨j, hj, rfl⟩ := List.mem_iff_getElem.mp hq'
          have pw := List.pairwise_iff_getElem.mp R.ap
          rcases Nat.lt_trichotomy i j with h | h | h
          · exact (pw i j hi hj h).2
          · subst h
            exact absurd rfl hkq
          · exact (pw j i hj hi h).1
        rw [ap]
        omega
      · rw [setN_other found _ fun x hx z => e ⟨x, hx, z⟩]
        have : at_ (List.replicate many 0) k = 0 := by
          unfold at_
          rw [List.getD_eq_getElem?_getD, List.getElem?_replicate]
          split <;> rfl
        rw [this]
        omega
    show p ∣ dotN _ (at_ q.2) many - at_ q.2 many
    rw [dotN_one h1, if_pos (hlt q hq), (R.ok q hq).own, hl q hq]
    exact ⟨0, by omega⟩
  intro r hr
  refine Solves.span (L := vecs found) (fun w hw => ?_) (R.sp r hr)
  obtain ⟨q, hq, rfl⟩ := List.mem_map.mp hw
  exact hf q hq
/-- no numbers solve them where a lead stands in the last place -/
theorem no_solution (hp : Prm p) {many : Nat} {rows : List (List Int)} {found : List Lead} (R : Red p (many + 1) rows found) {q : Lead} (hq : q ∈ found) (e : q.1 = many) {x : Vec} (h : ∀ r ∈ rows, Solves p many x (at_ r)) : False := by
  have h1 : Solves p many x (at_ q.2) := Solves.span (fun w hw => by
    obtain ⟨r, hr, rfl⟩ := List.mem_map.mp hw
    exact h r hr) (R.inR q hq)
  have ho := R.ok q hq
  have h2 : dotN x (at_ q.2) many = 0 := by
    rw [dotN_one (l := many) fun k hk _ => by rw [ho.z k (by omega)]; omega, if_neg (by omega)]
  have h3 : at_ q.2 many = 1 := by rw [← e]; exact ho.own
  have h4 : p ∣ dotN x (at_ q.2) many - at_ q.2 many := h1
  rw [h2, h3] at h4
  exact hp.one (dvd_congr (Int.dvd_neg.mpr h4) (by omega))
/-- a row that is in the span does not raise the rank, another one does -/
theorem rank_in (hp : Prm p) {R : List Vec} {v : Vec} {r s : Nat} (h : IsRank p n R r) (k : IsRank p n (R ++ [v]) s) : r = s ↔ InS p n R v := by
  obtain ⟨B, hB, hi, hb, hr⟩ := id h
  constructor
  · intro e
    apply Classical.byContradiction
    intro hv
    have hvB : ¬ InS p n B v := fun z => hv (z.trans hb)
    have ind : Indep p n (v :: B) := fun c hc hj => by
      cases c with
      | nil => intro x hx; cases hx
      | cons a c =>
        have ha : p ∣ a := by
          apply Classical.byContradiction
          intro na
          obtain ⟨b, hb2⟩ := hp.Inv a na
          apply hvB
          -- v = - b (c B)
          have h1 : InS p n B (fun j => -b * lin c B j) := (InS.lin (c := c) fun w hw => .mem hw).smul (-b)
          refine h1.congr fun j hjn => ?_
          have h2 := dvd_mul_r b (hj j hjn)
          have h3 := Int.dvd_trans hb2 (Int.dvd_mul_right _ (v j))
          refine dvd_congr (Int.dvd_sub h2 h3) ?_
          show b * (a * v j + lin c B j) - (a * b - 1) * v j = v j - -b * lin c B j
          rw [Int.mul_add, Int.sub_mul, Int.neg_mul, ← Int.mul_assoc, Int.mul_comm b a]
          omega
        intro x hx
        rcases List.mem_cons.mp hx with rfl | hx
        · exact ha
        · refine hi c (by simpa using hc) (fun j hjn => ?_) x hx
          have h2 := hj j hjn
          have h3 := Int.dvd_trans ha (Int.dvd_mul_right a (v j))
          exact dvd_congr (Int.dvd_sub h2 h3) (by show a * v j + lin c B j - a * v j = _; omega)
    obtain ⟨C, hC, ki, kc, kr⟩ := k
    have : (v :: B).length ≤ C.length := steinitz hp.Inv hp.one ind fun w hw => by
      rcases List.mem_cons.mp hw with rfl | hw
      · exact kr _ (List.mem_append_right _ (.head _))
      · exact ((hb w hw).trans fun u hu => .mem (List.mem_append_left _ hu)).trans kr
    rw [List.length_cons] at this
    omega
  · intro hv
    exact h.one hp.Inv hp.one k (fun w hw => .mem (List.mem_append_left _ hw)) fun w hw => (List.mem_append.mp hw).elim (fun z => .mem z) fun z => by rw [List.mem_singleton.mp z]; exact hv
end
end LA

set_option Elab.async false
set_option linter.all false
set_option maxRecDepth 100000
set_option maxHeartbeats 4000000
namespace OS
open PySem PySem.Spec PyProof.Rows L2
/-! tuple * int, of any number up to 1000 -/
theorem tup_mul_one (l : Addr) (items : Array Value) (n : Nat) (dd : Option Addr) (sl : Array (Option Value)) (u : Tok) :
    Meets (Builtin.«tuple.__mul__» ⟨[.ref l, .int 1 u], []⟩) (fun _ R s => s.heap.get? l = some { cls := .type "tuple", dict := dd, data := .seq items n, slots := sl } ∧
      R (.ok (.ret (Value.ref l))) s) :=
  .of_wp fun prog w A R s h => by
    obtain ⟨hp, g, d, tk, os⟩ := s
    obtain ⟨hl, h⟩ := h
    have f1 := AutoSeq1.idx_int
    have c1 : (items.isEmpty || (1 : Int) == 1) = true := by simp
    have c0 : (decide ((1 : Int) < -(2 ^ 63)) || decide ((1 : Int) ≥ 2 ^ 63)) = false := by decide
    wp_walk using wpAny_loadPart' hl
    repeat (first
      | (refine wpAny_ite_false (decide_eq_false (by rw [c0]; exact Bool.false_ne_true)) ?_; wp_walk using wpAny_loadPart' hl)
      | (refine wpAny_ite_true (decide_eq_true c1) ?_; wp_walk using wpAny_loadPart' hl))
    exact ⟨_, rfl, h⟩
theorem tup_mul_none (l : Addr) (items : Array Value) (n : Nat) (dd : Option Addr) (sl : Array (Option Value)) (x : Int) (u : Tok) (c0 : (decide (x < -(2 ^ 63)) || decide (x ≥ 2 ^ 63)) = false) (c1 : (items.isEmpty || x == 1) = false) (c2 : (decide (x ≤ 0) || items.isEmpty) = true) :
    Meets (Builtin.«tuple.__mul__» ⟨[.ref l, .int x u], []⟩) (fun _ R s => s.heap.get? l = some { cls := .type "tuple", dict := dd, data := .seq items n, slots := sl } ∧
      R (.ok (.ret (Value.ref s.heap.objs.size))) { s with heap := s.heap.push { cls := Value.type "tuple", data := Data.seq #[] }, toks := s.toks }) :=
  .of_wp fun prog w A R s h => by
    obtain ⟨hp, g, d, tk, os⟩ := s
    obtain ⟨hl, h⟩ := h
    have f1 := AutoSeq1.idx_int
    wp_walk using wpAny_loadPart' hl
    repeat (first
      | (refine wpAny_ite_false (decide_eq_false (by rw [c0]; exact Bool.false_ne_true)) ?_; wp_walk using wpAny_loadPart' hl)
      | (refine wpAny_ite_false (decide_eq_false (by rw [c1]; exact Bool.false_ne_true)) ?_; wp_walk using wpAny_loadPart' hl)
      | (refine wpAny_ite_true (decide_eq_true c2) ?_; wp_walk using wpAny_loadPart' hl))
    exact ⟨_, rfl, h⟩
section
variable {X : Cx}
theorem flat_one {α : Type} (xs : List α) : (List.replicate 1 xs).flatten = xs := by simp
/-- t * k -/
def rRepTO (K : PySem.W.Frag) : R2 := fun x y H Q => ∃ l k xs, x = .ref l ∧ y = .int k ∧ SqT K H l xs ∧ xs ≠ [] ∧ 0 ≤ k ∧ k ≤ 1000 ∧ xs.length ≤ 1000 ∧ ∀ q H', Same H H' → SqT K H' q (List.replicate k.toNat xs).flatten → Q (.ref q) H'
theorem op_mulT : OpR X (binaryOp .Mult) (rRepTO X.K) := by
  intro pins s σ H x y v u Q I rx ry h
  obtain ⟨l, k, xs, rfl, rfl, hT, hne, h1, h2, hz, q⟩ := h
  by_cases hk : 2 ≤ k
  · exact op_repT pins s σ H _ _ v u Q I rx ry ⟨l, k, xs, rfl, rfl, hT, hne, hk, h2, hz, fun p hp => q p _ (same_new hp) (SqT.of upd_same)⟩
  · cases rx
    obtain ⟨t, rfl⟩ := ry
    obtain ⟨its, r, ⟨⟨cls, dd, data, sl⟩, ho, hc, n, hd⟩, hs⟩ := I.tuple hT
    simp only at hc hd
    subst hc hd
    have hle : its.length = xs.length := r.length.symm
    have hi : its.toArray.isEmpty = false := by
      cases its with
      | nil => exact absurd (List.eq_nil_of_length_eq_zero hle.symm) hne
      | cons a b => rfl
    by_cases k1 : k = 1
    · subst k1
      refine wpAny_binaryOp_repeat_ref (T := "tuple") (U := "int") (by decide) ⟨_, ho, rfl⟩ (fun s' => typeIs_int s' 1 t) noFill_tuple_mul F.fills_int_mul F.slot_int_rmul repeat_tuple F.slot_int_index.lookup
        (call_meets F.slot_int_rmul (typeIs_int s 1 t) F.entry_int_rmul (F.args_int_rmul_2 _ _) (int_rmul_tuple 1 t l its.toArray n dd sl)
          ⟨ho, rfl, ⟨_, ho, rfl⟩, call_meets F.slot_tuple_mul ⟨_, ho, rfl⟩ F.entry_tuple_mul (F.args_tuple_mul_2 _ _) (tup_mul_one l its.toArray n dd sl t) ⟨ho, ?_⟩⟩)
      exact ⟨.ref l, H, I, rfl, q l H (Same.refl H) (by rw [show (1 : Int).toNat = 1 from rfl, flat_one]; exact hT)⟩
    · obtain rfl : k = 0 := by omega
      refine wpAny_binaryOp_repeat_ref (T := "tuple") (U := "int") (by decide) ⟨_, ho, rfl⟩ (fun s' => typeIs_int s' 0 t) noFill_tuple_mul F.fills_int_mul F.slot_int_rmul repeat_tuple F.slot_int_index.lookup
        (call_meets F.slot_int_rmul (typeIs_int s 0 t) F.entry_int_rmul (F.args_int_rmul_2 _ _) (int_rmul_tuple 0 t l its.toArray n dd sl)
          ⟨ho, rfl, ⟨_, ho, rfl⟩, call_meets F.slot_tuple_mul ⟨_, ho, rfl⟩ F.entry_tuple_mul (F.args_tuple_mul_2 _ _) (tup_mul_none l its.toArray n dd sl 0 t (by decide) (by rw [hi]; decide) (by simp)) ⟨ho, ?_⟩⟩)
      refine ⟨.ref s.heap.objs.size, _, I.laid (t' := s.toks) (o := .tup []) (fun b ob q => Heap.get?_push_of_some _ q) (Nat.le_refl _) ?_, rfl, q _ _ (same_new (I.hok.fresh (Nat.le_refl _))) (SqT.of upd_same)⟩
      exact ⟨by simp, _, .nil, IsTup.new _ _⟩
end
end OS

set_option Elab.async false
set_option linter.all false
set_option maxRecDepth 100000
set_option maxHeartbeats 4000000
namespace OS
open PySem PySem.Spec PyProof.Rows L2
section
variable {X : Cx} {e f : Expr} {te tf : TE} {p pos : Pos}
/-- [*e, f] -/
theorem pe_starL (K0 : PySem.W.Frag) (hK : X.K = K0) (he : PE X e te) (hf : PE X f tf) (hs : starEach [.Starred e p, f] X.env = (true, eval e X.env) :: starEach [f] X.env := by rfl)
    (hs2 : starEach [f] X.env = (false, eval f X.env) :: starEach [] X.env := by rfl) : PE X (.List [.Starred e p, f] pos) (tLstO (StX.tStar K0 te (tCons tf tNil))) := by
  subst hK
  exact pe_lstO (StX.pa_star he (pa_cons hf pa_nil hs2) hs)
end
end OS

set_option Elab.async false
set_option linter.all false
set_option maxRecDepth 100000
set_option maxHeartbeats 4000000
namespace P
open PySem PySem.Spec PyProof.Rows L2 OS
/-! short ways: "rd" opens a reading as far as equations go; "sep" finds what stands apart from the state; "sq" a list that is read; "nx" two heaps -/
local macro_rules | `(tactic| walk_at "sep") => `(tactic| first | assumption | (refine (by assumption : Nx _ _ _) _ _ ?_; walk_at "sep"))
local macro_rules | `(tactic| walk_at "sq") => `(tactic| first | assumption | exact .inl (.inl (by assumption)) | exact Sep.sq (by walk_at "sep") | exact Sep.st (by walk_at "sep") | exact .inl (.inl upd_same))
local macro_rules | `(tactic| walk_at "rd") => `(tactic| repeat (first
  | refine And.intro rfl ?_
  | apply Exists.intro
  | refine And.intro (by assumption) ?_
  | refine And.intro (DrawOk.mk (by omega) (by omega) (by omega)) ?_
  | refine And.intro at0 ?_
  | refine And.intro ⟨_, rfl⟩ ?_
  | refine And.intro (by walk_at "sq") ?_
  | refine And.intro (Or.inl (by walk_at "sq")) ?_
  | refine And.intro (Or.inr (by walk_at "sq")) ?_
  | refine And.intro (by omega) ?_))

section
variable {P : Program} {w : World} {K : PySem.W.Frag} {mg : Str → Option Value} {base : Heap}

def goalL (n : Nat) : List Int := 1 :: List.replicate (n - 1) 0
theorem goalL_len {n : Nat} (h : 1 ≤ n) : (goalL n).length = n := by
  unfold goalL
  rw [List.length_cons, List.length_replicate]
  omega
theorem flat_reps {α : Type} (x : α) : ∀ n, (List.replicate n [x]).flatten = List.replicate n x
  | 0 => rfl
  | n + 1 => by rw [List.replicate_succ, List.flatten_cons, flat_reps x n, List.replicate_succ]; rfl
/-- goal_row(width) -/
def spGoal (K : PySem.W.Frag) : Sp := fun vs H Q _ => ∃ (n : Nat), vs = [.int (n : Int)] ∧ 1 ≤ n ∧ n ≤ 900 ∧ ∀ u H', Same H H' → SqT K H' u ((goalL n).map V.int) → Q (.ref u) H'
theorem ok_goal_row (T : Txt K mg) : FnOk P w K mg base CX0 1 T.f_goal_row T.fd_goal_row ["width"] (spGoal K) := by
  refine T.F_goal_row.ok sc_goal_row (fun vs H Q E h => ?_) (fun cdv A outer s H vs Q E hr h => ?_)
  · obtain ⟨n, rfl, _⟩ := h
    rfl
  · obtain ⟨n, rfl, h1, h2, q⟩ := h
    refine ⟨_, (pss_one (ps_ret (pe_op (r := rCatTO K) op_catTO (pe_tupO (pa_cons pe_int pa_nil)) (pe_op op_mulT (pe_tupO (pa_cons pe_int pa_nil)) (pe_op op_sub (pv 0) pe_int))))), ?_⟩
    refine ⟨by decide, fun a H1 n1 s1 ha => ?_⟩
    have hA : SqT K H1 a [.int 1] := SqT.of ha
    refine ⟨by decide, fun b H2 n2 s2 hb => ?_⟩
    have hB : SqT K H2 b [.int 0] := SqT.of hb
    have hA2 := s2.tupT hA
    walk_at "rd"
    refine ⟨by simp, by omega, by omega, by simp, fun c H3 s3 hc => ?_⟩
    have hA3 := s3.tupT hA2
    refine ⟨a, c, _, _, rfl, rfl, hA3, hc, ?_, fun u H4 s4 hu => ?_⟩
    · rw [flat_reps]
      simp
      exact Nat.le_trans (show 1 + (n - 1) ≤ 1000 by omega) (by decide)
    · refine q u H4 (((s1.trans s2).trans s3).trans s4) ?_
      have e : ([V.int 1] ++ (List.replicate ((n : Int) - 1).toNat [V.int 0]).flatten) = (goalL n).map V.int := by
        rw [flat_reps]
        unfold goalL
        rw [List.map_cons, List.map_replicate, show ((n : Int) - 1).toNat = n - 1 by omega]
        rfl
      rw [← e]
      exact hu
/-- a lead that does not stand in a certain list -/
def LeadN (K : PySem.W.Frag) (nd : Addr) (H : Hp) (v : V) (q : LA.Lead) : Prop := ∃ t b, v = .ref t ∧ SqT K H t [.int (q.1 : Int), .ref b] ∧ H b = some (.lst (q.2.map V.int)) ∧ b ≠ nd
def solL (p : Int) (m : Nat) (rows : List (List Int)) : Option (List Int) := if (LA.redL p rows).any (fun q => decide (q.1 = m)) then none else some (LA.setN m (List.replicate m 0) (LA.redL p rows))
/-- solved(prime, equations, many) -/
def spSolved (K : PySem.W.Frag) : Sp := fun vs H Q _ => ∃ (p : Int) (a : Addr) (kk : Bool) (m : Nat) (xs : List V) (rows : List (List Int)), vs = [.int p, .ref a, .int (m : Int)] ∧ (p = 2 ∨ p = 3 ∨ p = 5 ∨ p = 7 ∨ p = 11) ∧ SqB kk K H a xs ∧ Paired (RowB K H) xs rows ∧ (∀ r ∈ rows, LA.Row p (m + 1) r) ∧ m ≤ 900 ∧ rows.length ≤ 500 ∧
  (solL p m rows = none → ∀ H', Same H H' → Q .non H') ∧ (∀ ns, solL p m rows = some ns → ∀ u H', H u = none → Same H H' → H' u = some (.lst (ns.map V.int)) → Q (.ref u) H')
theorem ok_solved (T : Txt K mg) : FnOk P w K mg base CX0 3 T.f_solved T.fd_solved ["prime", "equations", "many"] (spSolved K) := by
  refine T.F_solved.ok sc_solved (fun vs H Q E h => ?_) (fun cdv A outer s H vs Q E hr h => ?_)
  · obtain ⟨p, a, kk, m, xs, rows, rfl, _⟩ := h
    rfl
  · obtain ⟨p, a, kk, m, xs, rows, rfl, hp, ha, hx, hrow, hm, hrl, qn, q⟩ := h
    refine ⟨_, (pss_cons (ps_set (i := 3) sc_solved.nd rfl (Or.inl rfl) (pe_call (ok_reduced T) (hr.mono (by decide)) (by rfl) T.g_reduced T.F_reduced.kp T.b_reduced .nil pass0 (pa_cons (pv 0) (pa_cons (pv 1) pa_nil))))
    (pss_cons (ps_if (pt_val (pe_call (ok_is_unsolvable T) (hr.mono (by decide)) (by rfl) T.g_is_unsolvable T.F_is_unsolvable.kp T.b_is_unsolvable .nil pass0 (pa_cons (pv 3) (pa_cons (pv 2) pa_nil))))
      (pss_one (ps_ret pe_non)) pss_nil)
    (pss_cons (ps_set (i := 4) sc_solved.nd rfl (Or.inl rfl) (pe_op op_mulL (pe_lstO (pa_cons pe_int pa_nil)) (pv 2)))
    (pss_stop (ps_for PassesOwn.never rfl (pi_hold (pi_list (pv 3))) (pg_tup rfl (pgs_cons (pg_name (i := 5) sc_solved.nd rfl (Or.inl rfl)) (pgs_cons (pg_name (i := 6) sc_solved.nd rfl (Or.inl rfl)) pgs_nil)))
      (pss_one (ps_asg (pe_ix (r := rIxL K) ix_list (pv 6) (pv 2) (fun _ _ => rfl)) (pg_sub (pv 4) (pv 5) set_list))))
    (pss_one (ps_ret (pv 4))))))), ?_⟩
    have hP := LA.prm_of hp
    have R := LA.red_all hP (n := m + 1) (rows := rows) hrow
    have hredl := red_len p rows
    have hm1 : m + 1 ≤ 1000 := by omega
    unfold solL at q qn
    walk_at "rd"
    intro f zs H1 s1 hf hz
    generalize LA.redL p rows = found at *
    have hfq : SqL K H1 f zs := SqL.of hf
    have hfl : found.length ≤ 1000 := by omega
    have hzl := paired_len hz
    walk_at "rd"
    intro H2 s2
    walk_at "rd"
    refine ite2 (fun e => ?_) (fun e => ?_)
    · walk_at "rd"
      rw [if_pos e] at qn
      exact qn rfl H2 (s1.trans s2)
    · rw [if_neg e] at q
      have hno : ∀ q ∈ found, q.1 ≠ m := fun q hq z => e (List.any_eq_true.mpr ⟨q, hq, by simpa using z⟩)
      have hf2 : H2 f = some (.lst zs) := s2 _ _ hf
      have hz2 : Paired (LeadV K H2) zs found := L2.Paired.mapP hz fun _ _ z => z.same s2
      refine ⟨by decide, fun b H3 n3 s3 hb => ?_⟩
      refine ⟨.int (m : Int), rfl, b, (m : Int), [.int 0], rfl, rfl, hb, by omega, by omega, ?_, fun nd H4 n4 s4 hnd => ?_⟩
      · simp
        exact Nat.le_trans (show m ≤ 1000 by omega) (by decide)
      rw [flat_reps, show ((m : Int)).toNat = m by omega] at hnd
      have sA : Same H2 H4 := s3.trans s4
      have n0 : H nd = none := by
        cases hx : H nd with
        | none => rfl
        | some o =>
          have := ((s1.trans s2).trans s3) _ _ hx
          rw [n4] at this
          cases this
      have n2 : H2 nd = none := by
        cases hx : H2 nd with
        | none => rfl
        | some o =>
          have := s3 _ _ hx
          rw [n4] at this
          cases this
      have hf4 : H4 f = some (.lst zs) := sA _ _ hf2
      have hz4 : Paired (LeadN K nd H4) zs found := L2.Paired.mapP hz2 fun v q z => by
        obtain ⟨t, b, e, h1, h2⟩ := z
        exact ⟨t, b, e, sA.tupT h1, sA _ _ h2, fun z => by rw [z, n2] at h2; cases h2⟩
      have hfn : f ≠ nd := fun z => by rw [z, n2] at hf2; cases hf2
      have hnd4 : H4 nd = some (.lst ((List.replicate m (0 : Int)).map V.int)) := by rw [List.map_replicate]; exact hnd
      have hfq4 : SqL K H4 f zs := SqL.of hf4
      refine Stop.cut (fun σ H' => ∃ (y5 y6 : Option V), σ = [some (.int p), some (.ref a), some (.int (m : Int)), some (.ref f), some (.ref nd), y5, y6] ∧ Same H H' ∧ H' nd = some (.lst ((LA.setN m (List.replicate m 0) found).map V.int))) (fun Qz hz => ?_) ?_
      · walk_at "rd"
        refine ⟨⟨_, hfq4⟩, ⟨for_it (walk_list (xs := zs)) (fun j σ H' => ∃ (y5 y6 : Option V), σ = [some (.int p), some (.ref a), some (.int (m : Int)), some (.ref f), some (.ref nd), y5, y6] ∧ Same H H' ∧ H' f = some (.lst zs) ∧ Paired (LeadN K nd H') zs found ∧ H' nd = some (.lst ((LA.setN m (List.replicate m 0) (found.take j)).map V.int)))
          ⟨_, _, rfl, (s1.trans s2).trans sA, hf4, hz4, hnd4⟩ (fun j σ H' _ ⟨_, _, _, _, h, _⟩ => SqL.of h) ?_ ?_⟩⟩
        · rintro j v _ H5 H6 hj ⟨y5, y6, rfl, s5, hf5, hz5, hnd5⟩ ⟨rfl, hv⟩
          obtain ⟨q0, hq0, t, b6, rfl, ht, hb6, hbn⟩ := OS.paired_get hz5 hv
          have hok := R.ok q0 (List.mem_of_getElem? hq0)
          have hlt : q0.1 < m := by
            have := hok.lt
            have := hno q0 (List.mem_of_getElem? hq0)
            omega
          have htk : found.take (j + 1) = found.take j ++ [q0] := by rw [List.take_succ, hq0]; rfl
          have hnx : LA.setN m (List.replicate m 0) (found.take (j + 1)) = (LA.setN m (List.replicate m 0) (found.take j)).set q0.1 (LA.at_ q0.2 m) := by
            rw [htk]
            unfold LA.setN
            rw [List.foldl_append]
            rfl
          have hln : (LA.setN m (List.replicate m 0) (found.take j)).length = m := by rw [LA.setN_len, List.length_replicate]
          rw [hnx]
          generalize LA.setN m (List.replicate m 0) (found.take j) = cur at hnd5 hln ⊢
          have hat : atI (q0.2.map V.int) (m : Int) = some (.int (LA.at_ q0.2 m)) := atI_at (by rw [hok.row.len]; omega)
          have hbq : SqL K H6 b6 (q0.2.map V.int) := SqL.of hb6
          refine ⟨t, _, rfl, ht, rfl, ?_⟩
          have hix : ixN (cur.map V.int).length (q0.1 : Int) = some q0.1 := by
            unfold ixN
            rw [if_pos (by omega), if_pos (by rw [List.length_map, hln]; omega)]
            rfl
          walk_at "rd"
          refine ⟨same_put s5 n0, by rw [upd_ne hfn]; exact hf5, L2.Paired.mapP hz5 fun v q z => ?_, by rw [upd_same, List.map_set]⟩
          obtain ⟨t, b, e, h1, h2, h3⟩ := z
          exact ⟨t, b, e, tupT_but hnd5 (fun c o q z => by rw [upd_ne z]; exact q) h1, by rw [upd_ne h3]; exact h2, h3⟩
        · rintro σ H5 ⟨y5, y6, rfl, s5, _, _, hnd5⟩
          rw [hzl, List.take_length] at hnd5
          exact hz _ _ ⟨y5, y6, rfl, s5, hnd5⟩
      · rintro _ H5 ⟨y5, y6, rfl, s5, hnd5⟩
        walk_at "rd"
        exact q _ rfl nd H5 n0 s5 hnd5
end
end P

set_option Elab.async false
set_option linter.all false
set_option maxRecDepth 100000
set_option maxHeartbeats 4000000
namespace P
open PySem PySem.Spec PyProof.Rows L2 OS
/-! short ways: "rd" opens a reading as far as equations go; "sep" finds what stands apart from the state; "sq" a list that is read; "nx" two heaps -/
local macro_rules | `(tactic| walk_at "sep") => `(tactic| first | assumption | (refine (by assumption : Nx _ _ _) _ _ ?_; walk_at "sep"))
local macro_rules | `(tactic| walk_at "sq") => `(tactic| first | assumption | exact .inl (.inl (by assumption)) | exact Sep.sq (by walk_at "sep") | exact Sep.st (by walk_at "sep") | exact .inl (.inl upd_same))
local macro_rules | `(tactic| walk_at "rd") => `(tactic| repeat (first
  | refine And.intro rfl ?_
  | apply Exists.intro
  | refine And.intro (by assumption) ?_
  | refine And.intro (DrawOk.mk (by omega) (by omega) (by omega)) ?_
  | refine And.intro at0 ?_
  | refine And.intro ⟨_, rfl⟩ ?_
  | refine And.intro (by walk_at "sq") ?_
  | refine And.intro (Or.inl (by walk_at "sq")) ?_
  | refine And.intro (Or.inr (by walk_at "sq")) ?_
  | refine And.intro (by omega) ?_))

section
variable {P : Program} {w : World} {K : PySem.W.Frag} {mg : Str → Option Value} {base : Heap}

/-- each column of the rows, the goal's number behind it -/
def eqsL (rows : List (List Int)) (gl : List Int) : List (List Int) := (List.range gl.length).map fun j => (rows.map fun r => LA.at_ r j) ++ [LA.at_ gl j]
/-- factors_for(prime, rows, goal) -/
def spFactors (T : Txt K mg) : Sp := fun vs H Q E => ∃ (v g : V) (a : Addr) (op : Option Int) (kk : Bool) (xs : List V) (os : List (Option (List V))) (og : Option (List V)), vs = [v, .ref a, g] ∧ PrV K H v op ∧ SqB kk K H a xs ∧ Paired (Thing K H) xs os ∧ Thing K H g og ∧ (∀ o ∈ os ++ [og], ∀ zs, o = some zs → zs.length ≤ 400) ∧ os.length ≤ 400 ∧
  (op = none → ∀ H', Same H H' → Flies E T.C_BadPrime "number" v H') ∧ (∀ p i u, op = some p → badRow p (os ++ [og]) = some i → (xs ++ [g])[i]? = some u → ∀ H', Same H H' → Flies E T.C_BadRow "value" u H') ∧
  (∀ p rows gl, op = some p → badRow p (os ++ [og]) = none → os = rows.map (fun r : List Int => some (r.map V.int)) → og = some (gl.map V.int) → solL p rows.length (eqsL rows gl) = none → ∀ H', Same H H' → Q .non H') ∧
  (∀ p rows gl ns, op = some p → badRow p (os ++ [og]) = none → os = rows.map (fun r : List Int => some (r.map V.int)) → og = some (gl.map V.int) → solL p rows.length (eqsL rows gl) = some ns → ∀ u H', H u = none → Same H H' → H' u = some (.lst (ns.map V.int)) → Q (.ref u) H')
theorem rows_split {rows : List (List Int)} {os : List (Option (List V))} {og : Option (List V)} (h : os ++ [og] = rows.map (fun r : List Int => some (r.map V.int))) : ∃ rs gl, rows = rs ++ [gl] ∧ os = rs.map (fun r : List Int => some (r.map V.int)) ∧ og = some (gl.map V.int) := by
  obtain ⟨l1, l2, e, h1, h2⟩ := List.map_eq_append_iff.mp h.symm
  obtain ⟨gl, t, rfl, hg, ht⟩ := List.map_eq_cons_iff.mp h2
  obtain rfl := List.map_eq_nil_iff.mp ht
  exact ⟨l1, gl, e, h1.symm, hg.symm⟩
theorem ok_factors_for (T : Txt K mg) : FnOk P w K mg base (L2.CX P w) 5 T.f_factors_for T.fd_factors_for ["prime", "rows", "goal"] (spFactors T) := by
  refine T.F_factors_for.okX sc_factors_for (fun vs H Q E h => ?_) (fun cdv A outer s H vs Q E hr h => ?_)
  · obtain ⟨v, g, a, op, kk, xs, os, og, rfl, _⟩ := h
    rfl
  · obtain ⟨v, g, a, op, kk, xs, os, og, rfl, hp, ha, hx, hg, hol, hos, qp, qr, qn, q⟩ := h
    refine ⟨_, (pss_cons (ps_expr (pe_call (ok_check_prime T) (hr.mono (by decide)) (by rfl) T.g_check_prime T.F_check_prime.kp T.b_check_prime .nil (passes_call (takes_of rfl rfl rfl rfl) (fun _ _ _ _ h => h)) (pa_cons (pv 0) pa_nil)))
    (pss_cons (ps_expr (pe_call (ok_check_rows T) (hr.mono (by decide)) (by rfl) T.g_check_rows T.F_check_rows.kp T.b_check_rows .nil (passes_call (takes_of rfl rfl rfl rfl) (fun _ _ _ _ h => h)) (pa_cons (pv 0) (pa_cons (pe_starL K rfl (pv 1) (pv 2)) pa_nil))))
    (pss_cons (ps_setLc (i := 3) (own := [("at", 5)]) (g := gName 5) (tt := tYes) rfl sc_factors_for.nd rfl rfl (sw_true rfl rfl rfl (by decide +kernel)) (pi_range1 rfl T.n_range (pa_cons (pe_callB (id := "len") (r := rLenS K) call_lenS (by rfl) T.n_len PySem.boot_len (pa_cons (pv 2) pa_nil)) pa_nil)) (blkOk_by (own := [("at", 5)]) (N := N_factors_for) (sc := defScope s_factors_for) (by decide +kernel)) (fun _ _ _ _ _ => (pg_name (i := 5) sc_factors_for.nd rfl (Or.inr rfl))) (fun _ _ _ _ _ => pts_nil) (fun _ _ _ _ _ => (pe_op op_catO (pe_lc (own := [("row", 4)]) (wi := iSeqB K _) (g := gName 4) (tt := tYes) rfl sc_factors_for.nd (pi_seqB (pv 1)) (blkOk_by (own := [("row", 4)]) (N := N_factors_for) (sc := { kind := ScopeKind.function, names := [(".0", NameKind.local), ("at", NameKind.cell), ("goal", NameKind.cell), ("rows", NameKind.cell)], isGenerator := false, isCoroutine := false }) (by decide +kernel)) (fun _ _ _ _ _ => (pg_name (i := 4) sc_factors_for.nd rfl (Or.inl rfl))) (fun _ _ _ _ _ => pts_nil) (fun _ _ _ _ _ => (pe_ix (r := rIxT K) ix_tup (pv 4) (pv 5) (fun _ _ => rfl)))) (pe_lstO (pa_cons (pe_ix (r := rIxT K) ix_tup (pv 2) (pv 5) (fun _ _ => rfl)) pa_nil)))))
    (pss_one (ps_ret (pe_call (ok_solved T) (hr.mono (by decide)) (by rfl) T.g_solved T.F_solved.kp T.b_solved .nil pass0 (pa_cons (pv 0) (pa_cons (pv 3) (pa_cons (pe_callB (id := "len") (r := rLenS K) call_lenS (by rfl) T.n_len PySem.boot_len (pa_cons (pv 1) pa_nil)) pa_nil))))))))), ?_⟩
    cases hp with
    | no hd hn =>
      walk_at "rd"
      exact ⟨fun _ => qp rfl, fun e => absurd (e.symm.trans hn) (by simp)⟩
    | ok p hpr =>
    have hd : Itm K H (.int p) := .flat rfl
    have hpl := pr_le hpr
    walk_at "rd"
    refine ⟨fun e => absurd (e.symm.trans hpr) (by simp), fun _ => ?_⟩
    have hao := (seq_or ha).symm
    have hxl := paired_len hx
    walk_at "rd"
    refine ⟨?_, fun l1 H1 n1 s1 h1 => ?_⟩
    · simp
      exact Nat.le_trans (show xs.length + 1 ≤ 1001 by omega) (by decide)
    have hub : SqB false K H1 l1 (xs ++ [g]) := SqL.of h1
    have hxx : Paired (Thing K H1) (xs ++ [g]) (os ++ [og]) := OS.paired_app (L2.Paired.mapP hx fun _ _ z => z.same s1) (.cons (hg.same s1) .nil)
    have hol' : ∀ o ∈ os ++ [og], ∀ zs, o = some zs → zs.length ≤ 1000 := fun o ho zs e => Nat.le_trans (hol o ho zs e) (by decide)
    walk_at "rd"
    refine ⟨fun i u hb hu H2 s2 => qr p i u rfl hb hu H2 (s1.trans s2), fun hgood H2 s2' => ?_⟩
    have s2 := s1.trans s2'
    clear hub hxx h1 n1 s2' s1 hao
    obtain ⟨rows', erows, hro, hw⟩ := badRow_rows hgood
    obtain ⟨rs, gl, rfl, rfl, rfl⟩ := rows_split erows
    have hgl := (hro gl (by simp)).len
    have hn1 := hw (by simp)
    have hn4 : gl.length ≤ 400 := by
      have := hol (some (gl.map V.int)) (by simp) _ rfl
      rw [List.length_map] at this
      exact this
    have hxr2 : Paired (RowV K H2) xs rs := L2.Paired.mapP (rows_things hx) fun _ _ z => z.same s2
    obtain ⟨ga, rfl, hga⟩ : ∃ ga, g = .ref ga ∧ SqT K H ga (gl.map V.int) := by
      cases hg with
      | tup q _ => exact ⟨_, rfl, q⟩
    have hga2 := s2.tupT hga
    have ha2 := ha.same s2
    have hrsl : rs.length = xs.length := by rw [hxl, List.length_map]
    have hrs4 : rs.length ≤ 400 := by rw [List.length_map] at hos; exact hos
    have hnR : (List.range gl.length).length = (((gl.map V.int).length : Nat) : Int).toNat := by
      rw [List.length_range, List.length_map]
      omega
    have hrow : ∀ r ∈ rs, r.length = gl.length := fun r hr => by rw [(hro r (by simp [hr])).len, hgl]
    walk_at "rd"
    refine ⟨by rw [List.length_map]; omega, ?_⟩
    refine fun D hD => ?_
    refine lc_relD walk_range (xs := List.range gl.length) hnR (by rw [List.length_map]; omega) (fun _ => true) (fun H j v => ∃ b, v = .ref b ∧ H b = some (.lst (((rs.map fun r => LA.at_ r j) ++ [LA.at_ gl j]).map V.int)) ∧ b ≠ D) hD ?_ (fun _ _ => trivial) ?_ ?_
    · rintro H7 H8 j v acc _ hDa kp ⟨b, e, h1, h2⟩
      exact ⟨b, e, kp _ _ h1 h2, h2⟩
    · intro i j x H4 H5 Qk Qn hj sm ⟨acc, hacc⟩ hy hk _
      obtain ⟨rfl, rfl⟩ := hy
      obtain ⟨hi, rfl⟩ := List.getElem?_eq_some_iff.mp hj
      rw [List.getElem_range] at hk
      have hin : i < gl.length := by simpa using hi
      have ha5 := ha2.same sm
      have hga5 := sm.tupT hga2
      have hxr5 : Paired (RowV K H5) xs rs := L2.Paired.mapP hxr2 fun _ _ z => z.same sm
      walk_at "rd"
      refine fun D2 hD2 => ?_
      refine lc_all (walk_seq (kk := kk) (xs := xs)) (xs := rs) hrsl (by omega) (fun r => V.int (LA.at_ r i)) hD2 (fun H s => ha5.same s) ?_ ?_
      · intro k r x H6 H7 Qk2 hr sm2 hy2 hk2
        obtain ⟨rfl, hx2⟩ := hy2
        obtain ⟨r', h1, h2⟩ := OS.paired_get hxr5 hx2
        obtain rfl : r' = r := Option.some.inj (h1.symm.trans hr)
        obtain ⟨b, rfl, hb⟩ := h2.same sm2
        have hat : atI (r'.map V.int) (0 + (i : Int)) = some (.int (LA.at_ r' i)) := by
          rw [Int.zero_add]
          exact atI_at (by rw [hrow r' (List.mem_of_getElem? hr)]; exact hin)
        walk_at "rd"
        exact hk2 _ (Same.refl _)
      · intro H6 s6 hD6
        have hD6' : H6 D2 = some (.lst ((rs.map fun r => LA.at_ r i).map V.int)) := by rw [List.map_map]; exact hD6
        have hga6 := s6.tupT hga5
        have hat : atI (gl.map V.int) (0 + (i : Int)) = some (.int (LA.at_ gl i)) := by
          rw [Int.zero_add]
          exact atI_at hin
        walk_at "rd"
        refine ⟨show 1 ≤ sizeLine by decide, fun e7 H7 n7 s7 he7 => ?_⟩
        refine ⟨D2, e7, _, _, rfl, rfl, s7 _ _ hD6', he7, ?_, fun r8 H8 n8 s8 hr8 => ?_⟩
        · simp
          exact Nat.le_trans (show rs.length + 1 ≤ 1001 by omega) (by decide)
        refine hk rfl _ _ ⟨r8, rfl, ?_, fun z => ?_⟩ ((s6.trans s7).trans s8)
        · rw [List.map_append]
          exact hr8
        · rw [z, (s6.trans s7) _ _ hacc] at n8
          cases n8
    · intro H4 acc s4 hD4 pr
      have hall : (List.range gl.length).filter (fun _ => true) = List.range gl.length := List.filter_eq_self.mpr fun _ _ => rfl
      rw [hall] at pr
      have hq4 : SqB false K H4 D acc := SqL.of hD4
      have hxr4 : Paired (RowB K H4) acc (eqsL rs gl) := paired_swap (paired_map (F := fun r v => RowB K H4 v r) (L2.Paired.mapP pr fun j v z => by
        obtain ⟨b, e, h1, _⟩ := z
        exact ⟨false, b, e, SqL.of h1⟩))
      have hrows : ∀ r ∈ eqsL rs gl, LA.Row p (rs.length + 1) r := fun r hr => by
        obtain ⟨j, hj, rfl⟩ := List.mem_map.mp hr
        refine ⟨by simp, fun x hx => ?_⟩
        rcases List.mem_append.mp hx with h | h
        · obtain ⟨r', hr', rfl⟩ := List.mem_map.mp h
          exact (hro r' (by simp [hr'])).la.at_rng (by omega) j
        · rw [List.mem_singleton.mp h]
          exact (hro gl (by simp)).la.at_rng (by omega) j
      have hpp := isPr_is hpr
      have hel : (eqsL rs gl).length ≤ 500 := by
        unfold eqsL
        rw [List.length_map, List.length_range]
        omega
      have hao4 := seq_or (ha2.same s4)
      have s24 := s2.trans s4
      rw [hrsl] at hrows
      walk_at "rd"
      rw [← hrsl]
      refine ⟨fun hn H5 s5 => qn p rs gl rfl hgood rfl rfl hn H5 (s24.trans s5), fun ns hns u H5 n5 s5 hu => q p rs gl ns rfl hgood rfl rfl hns u H5 ?_ (s24.trans s5) hu⟩
      cases hx : H u with
      | none => rfl
      | some o =>
        have := s24 _ _ hx
        rw [n5] at this
        cases this
/-- the equations of a blind row -/
def blindE (rows : List (List Int)) (n : Nat) : List (List Int) := (rows.map fun r => r ++ [0]) ++ [goalL n ++ [1]]
/-- blind_row(prime, rows, width) -/
def spBlind (T : Txt K mg) : Sp := fun vs H Q E => ∃ (v : V) (a : Addr) (m : Int) (op : Option Int) (kk : Bool) (xs : List V) (os : List (Option (List V))), vs = [v, .ref a, .int m] ∧ PrV K H v op ∧ SqB kk K H a xs ∧ Paired (Thing K H) xs os ∧ (∀ o ∈ os, ∀ zs, o = some zs → zs.length ≤ 400) ∧ os.length ≤ 400 ∧
  (op = none → ∀ H', Same H H' → Flies E T.C_BadPrime "number" v H') ∧ (∀ p i u, op = some p → badRow p os = some i → xs[i]? = some u → ∀ H', Same H H' → Flies E T.C_BadRow "value" u H') ∧
  (∀ p, op = some p → badRow p os = none → ¬ (1 ≤ m ∧ m ≤ 40 ∧ (os ≠ [] → (wOf os : Int) = m)) → ∀ H', Same H H' → Flies E T.C_BadCount "count" (.int m) H') ∧
  (∀ p rows, op = some p → badRow p os = none → (1 ≤ m ∧ m ≤ 40 ∧ (os ≠ [] → (wOf os : Int) = m)) → os = rows.map (fun r : List Int => some (r.map V.int)) → solL p m.toNat (blindE rows m.toNat) = none → ∀ H', Same H H' → Q .non H') ∧
  (∀ p rows ns, op = some p → badRow p os = none → (1 ≤ m ∧ m ≤ 40 ∧ (os ≠ [] → (wOf os : Int) = m)) → os = rows.map (fun r : List Int => some (r.map V.int)) → solL p m.toNat (blindE rows m.toNat) = some ns → ∀ u H', Same H H' → SqT K H' u (ns.map V.int) → Q (.ref u) H')
theorem solL_len {p : Int} {m : Nat} {rows : List (List Int)} {ns : List Int} (h : solL p m rows = some ns) : ns.length = m := by
  unfold solL at h
  split at h
  · cases h
  · obtain rfl := Option.some.inj h
    rw [LA.setN_len, List.length_replicate]
theorem ok_blind_row (T : Txt K mg) : FnOk P w K mg base (L2.CX P w) 5 T.f_blind_row T.fd_blind_row ["prime", "rows", "width"] (spBlind T) := by
  refine T.F_blind_row.okX sc_blind_row (fun vs H Q E h => ?_) (fun cdv A outer s H vs Q E hr h => ?_)
  · obtain ⟨v, a, m, op, kk, xs, os, rfl, _⟩ := h
    rfl
  · obtain ⟨v, a, m, op, kk, xs, os, rfl, hp, ha, hx, hol4, hos4, qp, qr, qw, qn, q⟩ := h
    refine ⟨_, (pss_cons (ps_expr (pe_call (ok_check_prime T) (hr.mono (by decide)) (by rfl) T.g_check_prime T.F_check_prime.kp T.b_check_prime .nil (passes_call (takes_of rfl rfl rfl rfl) (fun _ _ _ _ h => h)) (pa_cons (pv 0) pa_nil)))
    (pss_cons (ps_expr (pe_call (ok_check_rows T) (hr.mono (by decide)) (by rfl) T.g_check_rows T.F_check_rows.kp T.b_check_rows .nil (passes_call (takes_of rfl rfl rfl rfl) (fun _ _ _ _ h => h)) (pa_cons (pv 0) (pa_cons (pv 1) pa_nil))))
    (pss_cons (ps_expr (pe_call (ok_check_width T) (hr.mono (by decide)) (by rfl) T.g_check_width T.F_check_width.kp T.b_check_width .nil (passes_call (takes_of rfl rfl rfl rfl) (fun _ _ _ _ h => h)) (pa_cons (pv 2) (pa_cons (pv 1) pa_nil))))
    (pss_cons (ps_set (i := 3) sc_blind_row.nd rfl (Or.inl rfl) (pe_op op_catO (pe_lc (own := [("row", 4)]) (g := gName 4) (tt := tYes) rfl sc_blind_row.nd (pi_seqB (pv 1)) (blkOk_by (own := [("row", 4)]) (N := N_blind_row) (sc := defScope s_blind_row) (by decide +kernel)) (fun _ _ _ _ _ => (pg_name (i := 4) sc_blind_row.nd rfl (Or.inl rfl))) (fun _ _ _ _ _ => pts_nil) (fun _ _ _ _ _ => (pe_starL K rfl (pv 4) pe_int))) (pe_lstO (pa_cons (pe_starL K rfl (pe_call (ok_goal_row T) (hr.mono (by decide)) (by rfl) T.g_goal_row T.F_goal_row.kp T.b_goal_row .nil pass0 (pa_cons (pv 2) pa_nil)) pe_int) pa_nil))))
    (pss_cons (ps_set (i := 5) sc_blind_row.nd rfl (Or.inl rfl) (pe_call (ok_solved T) (hr.mono (by decide)) (by rfl) T.g_solved T.F_solved.kp T.b_solved .nil pass0 (pa_cons (pv 0) (pa_cons (pv 3) (pa_cons (pv 2) pa_nil)))))
    (pss_one (ps_ret (pe_ifExp (pt_cmpR op_isN (pv 5) pe_non (nomark _)) pe_non (pe_callTy (T := "tuple") (r := rTupL K) call_tupL (by rfl) T.n_tuple (by decide +kernel) (pa_cons (pv 5) pa_nil)))))))))), ?_⟩
    have hol : ∀ o ∈ os, ∀ zs, o = some zs → zs.length ≤ 1000 := fun o ho zs e => Nat.le_trans (hol4 o ho zs e) (by decide)
    have hos : os.length ≤ 500 := by omega
    cases hp with
    | no hd hn =>
      walk_at "rd"
      exact ⟨fun _ => qp rfl, fun e => absurd (e.symm.trans hn) (by simp)⟩
    | ok p hpr =>
    have hd : Itm K H (.int p) := .flat rfl
    have hpl := pr_le hpr
    walk_at "rd"
    refine ⟨fun e => absurd (e.symm.trans hpr) (by simp), fun _ => ?_⟩
    walk_at "rd"
    refine ⟨fun i u hb hu H2 s2 => qr p i u rfl hb hu H2 s2, fun hgood H2 s2 => ?_⟩
    obtain ⟨rows, erows, hro, hw⟩ := badRow_rows hgood
    have hxl := paired_len hx
    have hrl : rows.length = os.length := by rw [erows, List.length_map]
    have hwo : wOf os ≤ 1000 := by
      cases os with
      | nil => exact Nat.zero_le _
      | cons o r =>
        cases o with
        | none => exact Nat.zero_le _
        | some zs => exact hol _ (.head _) zs rfl
    have hxr : Paired (RowV K H2) xs rows := by
      have h1 := hx
      rw [erows] at h1
      exact L2.Paired.mapP (rows_things h1) fun _ _ z => z.same s2
    have ha2 := ha.same s2
    have hao := seq_or ha2
    have hls : Paired (LenV K H2) xs (rows.map List.length) := paired_swap (paired_map (F := fun l v => LenV K H2 v l) (paired_swap (L2.Paired.mapP hxr fun v r z => by
      obtain ⟨b, e, hb⟩ := z
      exact ⟨b, _, e, .inr hb, List.length_map _⟩)))
    have hll : (rows.map List.length).length ≤ 1000 := by rw [List.length_map]; omega
    have hiff : (1 ≤ m ∧ m ≤ 40 ∧ ∀ l ∈ rows.map List.length, (l : Int) = m) ↔ (1 ≤ m ∧ m ≤ 40 ∧ (os ≠ [] → (wOf os : Int) = m)) := by
      refine ⟨fun z => ⟨z.1, z.2.1, fun ne => ?_⟩, fun z => ⟨z.1, z.2.1, fun l hl => ?_⟩⟩
      · obtain ⟨r0, rr, rfl⟩ := List.exists_cons_of_ne_nil (l := rows) (fun y => ne (by rw [erows, y]; rfl))
        rw [← (hro r0 (.head _)).len]
        exact z.2.2 _ (.head _)
      · obtain ⟨r, hr, rfl⟩ := List.mem_map.mp hl
        rw [(hro r hr).len]
        exact z.2.2 fun y => by
          rw [y] at erows
          rw [List.map_eq_nil_iff.mp erows.symm] at hr
          cases hr
    walk_at "rd"
    refine ⟨fun hbad H3 s3 => qw p rfl hgood (fun z => hbad (hiff.mpr z)) H3 (s2.trans s3), fun hok H3 s3 => ?_⟩
    have hok' := hiff.mp hok
    have s23 := s2.trans s3
    have ha3 := ha2.same s3
    clear hao ha2 hls
    obtain ⟨n, rfl⟩ := Int.eq_ofNat_of_zero_le (show 0 ≤ m by omega)
    have qn := fun e => qn p rows rfl hgood hok' erows e
    have q := fun ns e => q p rows ns rfl hgood hok' erows e
    rw [show ((n : Int)).toNat = n by omega] at q qn
    have hn1 : 1 ≤ n := by omega
    have hn40 : n ≤ 40 := by omega
    have hrow : ∀ r ∈ rows, LA.Row p n r := fun r hr => by
      have h1 := hro r hr
      have h2 := hok.2.2 _ (List.mem_map_of_mem hr)
      exact ⟨by omega, h1.rng⟩
    have hxr3 : Paired (RowV K H3) xs rows := L2.Paired.mapP hxr fun _ _ z => z.same s3
    walk_at "rd"
    refine fun D hD => ?_
    refine lc_relD (walk_seq (kk := kk) (xs := xs)) (xs := rows) (paired_len hxr3).symm (by omega) (fun _ => true) (fun H r v => ∃ b, v = .ref b ∧ H b = some (.lst ((r ++ [0]).map V.int)) ∧ b ≠ D) hD ?_ (fun H s => ha3.same s) ?_ ?_
    · rintro H7 H8 j v acc _ hDa kp ⟨b, e, h1, h2⟩
      exact ⟨b, e, kp _ _ h1 h2, h2⟩
    · intro i r v H5 H6 Qk Qn hj sm ⟨acc, hacc⟩ hy hk _
      obtain ⟨rfl, hx5⟩ := hy
      obtain ⟨r', hr1, hr2⟩ := OS.paired_get hxr3 hx5
      obtain rfl : r' = r := Option.some.inj (hr1.symm.trans hj)
      obtain ⟨b, rfl, hb⟩ := hr2.same sm
      have hr1l := (hrow r' (List.mem_of_getElem? hr1)).len
      walk_at "rd"
      refine ⟨?_, fun u H7 n7 s7 hu => ?_⟩
      · simp [hr1l]
        exact Nat.le_trans (show n + 1 ≤ 1001 by omega) (by decide)
      refine hk rfl (.ref u) H7 ⟨u, rfl, ?_, fun z => ?_⟩ s7
      · rw [List.map_append]
        exact hu
      · rw [z, hacc] at n7
        cases n7
    · intro H5 acc s5 hD5 pr
      have hall : rows.filter (fun _ => true) = rows := List.filter_eq_self.mpr fun _ _ => rfl
      rw [hall] at pr
      have hacl := paired_len pr
      walk_at "rd"
      intro u6 H6 s6 hu6
      walk_at "rd"
      refine ⟨?_, fun u7 H7 n7 s7 hu7 => ?_⟩
      · simp [goalL_len hn1]
        exact Nat.le_trans (show n + 1 ≤ 1001 by omega) (by decide)
      refine ⟨show 1 ≤ sizeLine by decide, fun e8 H8 n8 s8 he8 => ?_⟩
      have s58 := (s6.trans s7).trans s8
      refine ⟨D, e8, _, _, rfl, rfl, s58 _ _ hD5, he8, ?_, fun r9 H9 n9 s9 hr9 => ?_⟩
      · simp
        exact Nat.le_trans (show acc.length + 1 ≤ 1001 by omega) (by decide)
      have hD9 : SqB false K H9 r9 (acc ++ [.ref u7]) := SqL.of hr9
      have s59 := s58.trans s9
      have hxr9 : Paired (RowB K H9) (acc ++ [.ref u7]) (blindE rows n) := by
        unfold blindE
        refine OS.paired_app (paired_swap (paired_map (F := fun r v => RowB K H9 v r) (L2.Paired.mapP pr fun r v z => by
          obtain ⟨b, e, h1, _⟩ := z
          exact ⟨false, b, e, SqL.of (s59 _ _ h1)⟩))) (.cons ⟨false, u7, rfl, SqL.of ?_⟩ .nil)
        rw [List.map_append]
        exact (s8.trans s9) _ _ hu7
      have hrows : ∀ r ∈ blindE rows n, LA.Row p (n + 1) r := fun r hr => by
        rcases List.mem_append.mp hr with h | h
        · obtain ⟨r', hr', rfl⟩ := List.mem_map.mp h
          refine ⟨by rw [List.length_append, (hrow r' hr').len]; rfl, fun x hx => ?_⟩
          rcases List.mem_append.mp hx with h | h
          · exact (hrow r' hr').rng x h
          · rw [List.mem_singleton.mp h]
            omega
        · rw [List.mem_singleton.mp h]
          refine ⟨by rw [List.length_append, goalL_len hn1]; rfl, fun x hx => ?_⟩
          rcases List.mem_append.mp hx with h | h
          · rcases List.mem_cons.mp h with h | h
            · omega
            · rw [(List.mem_replicate.mp h).2]
              omega
          · rw [List.mem_singleton.mp h]
            omega
      have hpp := isPr_is hpr
      have hel : (blindE rows n).length ≤ 500 := by
        unfold blindE
        simp
        omega
      have hn900 : n ≤ 900 := by omega
      have s29 := (s23.trans s5).trans s59
      walk_at "rd"
      refine ⟨fun hn H10 s10 => ?_, fun ns hns u H10 n10 s10 hu => ?_⟩
      · walk_at "rd"
        exact qn hn H10 (s29.trans s10)
      · have hnl := solL_len hns
        have hul : SqL K H10 u (ns.map V.int) := SqL.of hu
        walk_at "rd"
        intro q11 H11 n11 s11 h11
        exact q ns hns q11 H11 ((s29.trans s10).trans s11) (SqT.of h11)
end
end P

set_option Elab.async false
set_option linter.all false
set_option maxRecDepth 100000
set_option maxHeartbeats 4000000
namespace P
open PySem PySem.Spec PyProof.Rows L2 OS
/-! short ways: "rd" opens a reading as far as equations go; "sep" finds what stands apart from the state; "sq" a list that is read; "nx" two heaps -/
local macro_rules | `(tactic| walk_at "sep") => `(tactic| first | assumption | (refine (by assumption : Nx _ _ _) _ _ ?_; walk_at "sep"))
local macro_rules | `(tactic| walk_at "sq") => `(tactic| first | assumption | exact .inl (.inl (by assumption)) | exact Sep.sq (by walk_at "sep") | exact Sep.st (by walk_at "sep") | exact .inl (.inl upd_same))
local macro_rules | `(tactic| walk_at "rd") => `(tactic| repeat (first
  | refine And.intro rfl ?_
  | apply Exists.intro
  | refine And.intro (by assumption) ?_
  | refine And.intro (DrawOk.mk (by omega) (by omega) (by omega)) ?_
  | refine And.intro at0 ?_
  | refine And.intro ⟨_, rfl⟩ ?_
  | refine And.intro (by walk_at "sq") ?_
  | refine And.intro (Or.inl (by walk_at "sq")) ?_
  | refine And.intro (Or.inr (by walk_at "sq")) ?_
  | refine And.intro (by omega) ?_))

section
variable {P : Program} {w : World} {K : PySem.W.Frag} {mg : Str → Option Value} {base : Heap}
def combL (p : Int) (fs : List Int) (rows : List (List Int)) (n : Nat) : List Int := (List.range n).map fun j => dotL fs (rows.map fun r => LA.at_ r j) % p
/-- _law_prime(state) -/
def spLPrime : Sp := fun vs H Q _ => ∃ (p : Addr) (m : Nat), vs = [.ref p] ∧ StAt H p m ∧ m ≤ 900000 ∧ ∀ (pr : Int) (H' : Hp), isPr (.int pr) = true → StAt H' p (m + 1) → Nx p H H' → Q (.int pr) H'
theorem ok_law_prime (T : Txt K mg) : FnOk P w K mg base CX0 2 T.f_law_prime T.fd_law_prime ["_law_state"] spLPrime := by
  refine T.F_law_prime.ok sc_law_prime (fun vs H Q E h => ?_) (fun cdv A outer s H vs Q E hr h => ?_)
  · obtain ⟨p, m, rfl, _⟩ := h
    rfl
  · obtain ⟨p, m, rfl, S, hm, q⟩ := h
    refine ⟨_, (pss_one (ps_ret (pe_ix (r := rIxL K) ix_list (pe_lstO (pa_cons pe_int (pa_cons pe_int (pa_cons pe_int (pa_cons pe_int (pa_cons pe_int (pa_cons pe_int (pa_cons pe_int pa_nil)))))))) (pe_call (ok_law_draw T) (hr.mono (by decide)) (by rfl) T.g_law_draw T.F_law_draw.kp T.b_law_draw .nil pass0 (pa_cons (pv 0) (pa_cons pe_int pa_nil))) (fun _ _ => rfl)))), ?_⟩
    refine ⟨by decide, fun l H1 n1 s1 hl => ?_⟩
    have S1 := S.same s1
    have sl := Sep.of_new S s1 n1 hl
    walk_at "rd"
    intro r H2 h0 h1 S2 x2
    obtain ⟨v, hv, hm⟩ := at_pick (l := [V.int 2, .int 2, .int 3, .int 3, .int 5, .int 7, .int 11]) h0 (by show r < 7; exact h1)
    have hq := (x2 _ _ sl).sq (K := K)
    walk_at "rd"
    obtain ⟨pr, rfl, hp⟩ : ∃ pr, v = .int pr ∧ isPr (.int pr) = true := by
      simp only [List.mem_cons, List.not_mem_nil, or_false] at hm
      rcases hm with rfl | rfl | rfl | rfl | rfl | rfl | rfl
      all_goals exact ⟨_, rfl, by decide⟩
    exact q pr H2 hp S2 ((S.nx s1).trans x2)
/-- _law_product(modulus, one, two) -/
def spLProd (K : PySem.W.Frag) : Sp := fun vs H Q _ => ∃ (p : Int) (n : Nat) (a b : Addr) (ns ms : List Int), vs = [.int p, .ref a, .ref b] ∧ isPr (.int p) = true ∧ SqT K H a (ns.map V.int) ∧ SqT K H b (ms.map V.int) ∧ RowOk p n ns ∧ RowOk p n ms ∧ n ≤ 1000 ∧ ∀ H', Same H H' → Q (.int (dotL ns ms % p)) H'
theorem ok_law_product (T : Txt K mg) : FnOk P w K mg base CX0 1 T.f_law_product T.fd_law_product ["_law_modulus", "_law_one", "_law_two"] (spLProd K) := by
  refine T.F_law_product.ok sc_law_product (fun vs H Q E h => ?_) (fun cdv A outer s H vs Q E hr h => ?_)
  · obtain ⟨p, n, a, b, ns, ms, rfl, _⟩ := h
    rfl
  · obtain ⟨p, n, a, b, ns, ms, rfl, hpr, ha, hb, hna, hmb, hn2, q⟩ := h
    refine ⟨_, (pss_one (ps_ret (pe_op op_mod (pe_callTy (T := "int") call_int1 (by rfl) T.n_int (by decide +kernel) (pa_cons (pe_callB (id := "sum") (r := rSum K) (cr_sum rfl) (by rfl) T.n_sum (by decide +kernel) (pa_cons (pe_lc (own := [("_law_k", 3)]) (g := gName 3) (tt := tYes) rfl sc_law_product.nd (pi_range1 rfl T.n_range (pa_cons (pe_callB (id := "len") (r := rLenS K) call_lenS (by rfl) T.n_len PySem.boot_len (pa_cons (pv 1) pa_nil)) pa_nil)) (blkOk_by (own := [("_law_k", 3)]) (N := N_law_product) (sc := defScope s_law_product) (by decide +kernel)) (fun _ _ _ _ _ => (pg_name (i := 3) sc_law_product.nd rfl (Or.inl rfl))) (fun _ _ _ _ _ => pts_nil) (fun _ _ _ _ _ => (pe_op op_mul (pe_ix (r := rIxT K) ix_tup (pv 1) (pv 3) (fun _ _ => rfl)) (pe_ix (r := rIxT K) ix_tup (pv 2) (pv 3) (fun _ _ => rfl))))) pa_nil)) pa_nil)) (pv 0)))), ?_⟩
    have hpl := pr_le hpr
    have el : ((ns.map V.int).length : Int).toNat = ns.length := by rw [List.length_map]; omega
    have eln := hna.len
    have elm := hmb.len
    walk_at "rd"
    refine fun D hD => ?_
    refine lc_all (walk_range (n := (((ns.map V.int).length : Nat) : Int).toNat)) (xs := ns.zip ms) (by rw [el, List.length_zip]; omega) (by rw [el]; omega) (fun z => V.int (z.1 * z.2)) hD (fun H s => trivial) ?_ ?_
    · intro i z v H3 H4 Qk hz sm hy hk
      obtain ⟨rfl, rfl⟩ := hy
      obtain ⟨z1, z2⟩ := z
      obtain ⟨hz1, hz2⟩ := List.getElem?_zip_eq_some.mp hz
      have ha3 := sm.tupT ha
      have hb3 := sm.tupT hb
      have b1 := rng_small hpl.2 hna.rng z1 (List.mem_of_getElem? hz1)
      have hcm : CMul z1 z2 := .inl b1
      have g1 : atI (ns.map V.int) ((0 : Int) + (i : Int)) = some (V.int z1) := by
        rw [Int.zero_add]
        exact atI_nat (by rw [List.getElem?_map, hz1]; rfl)
      have g2 : atI (ms.map V.int) ((0 : Int) + (i : Int)) = some (V.int z2) := by
        rw [Int.zero_add]
        exact atI_nat (by rw [List.getElem?_map, hz2]; rfl)
      walk_at "rd"
      exact hk _ (Same.refl _)
    · intro H3 s3 hD3
      have hDq : SqL K H3 D ((List.zipWith (fun a b => a * b) ns ms).map V.int) := SqL.of (by rw [hD3, List.zip, List.map_zipWith, List.map_zipWith])
      have hp0 : 0 < p := by omega
      walk_at "rd"
      refine .inl ⟨_, rfl, ?_⟩
      walk_at "rd"
      exact q H3 s3
/-- _law_sum(modulus, facts, table, span) -/
def spLSum (K : PySem.W.Frag) : Sp := fun vs H Q _ => ∃ (p : Int) (n : Nat) (a b : Addr) (ns : List Int) (xs : List V) (rows : List (List Int)), vs = [.int p, .ref b, .ref a, .int (n : Int)] ∧ isPr (.int p) = true ∧ SqL K H b (ns.map V.int) ∧ SqL K H a xs ∧ Paired (RowV K H) xs rows ∧ (∀ r ∈ rows, RowOk p n r) ∧ (∀ i ∈ ns, 0 ≤ i ∧ i < p) ∧ ns.length = rows.length ∧ n ≤ 1000 ∧ rows.length ≤ 500 ∧
  ∀ u H', Same H H' → SqT K H' u ((combL p ns rows n).map V.int) → Q (.ref u) H'
theorem ok_law_sum (T : Txt K mg) : FnOk P w K mg base CX0 1 T.f_law_sum T.fd_law_sum ["_law_modulus", "_law_factors", "_law_table1", "_law_span1"] (spLSum K) := by
  refine T.F_law_sum.ok sc_law_sum (fun vs H Q E h => ?_) (fun cdv A outer s H vs Q E hr h => ?_)
  · obtain ⟨p, n, a, b, ns, xs, rows, rfl, _⟩ := h
    rfl
  · obtain ⟨p, n, a, b, ns, xs, rows, rfl, hpr, hb, ha, hx, hro, hns, hlen, hn, hrl, q⟩ := h
    refine ⟨_, (pss_one (ps_ret (pe_callTy (T := "tuple") (r := rTupL K) call_tupL (by rfl) T.n_tuple (by decide +kernel) (pa_cons (pe_lc (own := [("_law_j", 5)]) (g := gName 5) (tt := tYes) rfl sc_law_sum.nd (pi_range1 rfl T.n_range (pa_cons (pv 3) pa_nil)) (blkOk_by (own := [("_law_j", 5)]) (N := N_law_sum) (sc := defScope s_law_sum) (by decide +kernel)) (fun _ _ _ _ _ => (pg_name (i := 5) sc_law_sum.nd rfl (Or.inr rfl))) (fun _ _ _ _ _ => pts_nil) (fun _ _ _ _ _ => (pe_op op_mod (pe_callTy (T := "int") call_int1 (by rfl) T.n_int (by decide +kernel) (pa_cons (pe_callB (id := "sum") (r := rSum K) (cr_sum rfl) (by rfl) T.n_sum (by decide +kernel) (pa_cons (pe_lc (own := [("_law_k", 4)]) (g := gName 4) (tt := tYes) rfl sc_law_sum.nd (pi_range1 rfl T.n_range (pa_cons (pe_callB (id := "len") (r := rLenS K) call_lenS (by rfl) T.n_len PySem.boot_len (pa_cons (pv 2) pa_nil)) pa_nil)) (blkOk_by (own := [("_law_k", 4)]) (N := N_law_sum) (sc := { kind := ScopeKind.function, names := [(".0", NameKind.local), ("_law_j", NameKind.cell), ("int", NameKind.globalImplicit), ("sum", NameKind.globalImplicit), ("range", NameKind.globalImplicit), ("len", NameKind.globalImplicit), ("_law_factors", NameKind.cell), ("_law_modulus", NameKind.cell), ("_law_table1", NameKind.cell)], isGenerator := false, isCoroutine := false }) (by decide +kernel)) (fun _ _ _ _ _ => (pg_name (i := 4) sc_law_sum.nd rfl (Or.inl rfl))) (fun _ _ _ _ _ => pts_nil) (fun _ _ _ _ _ => (pe_op op_mul (pe_ix (r := rIxL K) ix_list (pv 1) (pv 4) (fun _ _ => rfl)) (pe_ix (r := rIxT K) ix_tup (pe_ix (r := rIxL K) ix_list (pv 2) (pv 4) (fun _ _ => rfl)) (pv 5) (fun _ _ => rfl))))) pa_nil)) pa_nil)) (pv 0)))) pa_nil)))), ?_⟩
    have hpl := pr_le hpr
    have hxl := paired_len hx
    walk_at "rd"
    refine fun D hD => ?_
    refine lc_fn walk_range (xs := List.range n) (by simp) (by omega) (fun _ => true) (fun j => V.int (dotL ns (rows.map fun r => LA.at_ r j) % p)) hD (fun _ _ => trivial) ?_ ?_
    · intro i j x H1 H2 Qk Qn hj sm hy hk _
      obtain ⟨rfl, rfl⟩ := hy
      obtain ⟨hi, rfl⟩ := List.getElem?_eq_some_iff.mp hj
      rw [List.getElem_range] at hk
      have hin : i < n := by simpa using hi
      have ha2 := sm.seq ha
      have hb2 := sm.seq hb
      walk_at "rd"
      refine fun D2 hD2 => ?_
      have el : (((xs.length : Nat) : Int)).toNat = xs.length := by omega
      refine lc_all (walk_range (n := (((xs.length : Nat) : Int)).toNat)) (xs := ns.zip (rows.map fun r => LA.at_ r i)) (by rw [el, List.length_zip, List.length_map]; omega) (by omega) (fun z => V.int (z.1 * z.2)) hD2 (fun _ _ => trivial) ?_ ?_
      · intro k z v H3 H4 Qk2 hz sm2 hy2 hk2
        obtain ⟨rfl, rfl⟩ := hy2
        obtain ⟨z1, z2⟩ := z
        obtain ⟨hz1, hz2⟩ := List.getElem?_zip_eq_some.mp hz
        have ha4 := sm2.seq ha2
        have hb4 := sm2.seq hb2
        rw [List.getElem?_map] at hz2
        obtain ⟨r, hr, e2⟩ := Option.map_eq_some_iff.mp hz2
        obtain ⟨x, hx', hrv⟩ := OS.paired_get (paired_swap hx) hr
        obtain ⟨c, rfl, hc⟩ := (hrv.same sm).same sm2
        have b1 := rng_small hpl.2 hns z1 (List.mem_of_getElem? hz1)
        have hcm : CMul z1 z2 := .inl b1
        have g1 : atI (ns.map V.int) ((0 : Int) + (k : Int)) = some (V.int z1) := by
          rw [Int.zero_add]
          exact atI_nat (by rw [List.getElem?_map, hz1]; rfl)
        have g2 : atI xs ((0 : Int) + (k : Int)) = some (.ref c) := by
          rw [Int.zero_add]
          exact atI_nat hx'
        have g3 : atI (r.map V.int) ((0 : Int) + (i : Int)) = some (V.int z2) := by
          have e2' : LA.at_ r i = z2 := e2
          rw [Int.zero_add, ← e2']
          exact atI_at (by rw [(hro r (List.mem_of_getElem? hr)).len]; exact hin)
        walk_at "rd"
        exact hk2 _ (Same.refl _)
      · intro H3 s3 hD3
        have hDq : SqL K H3 D2 ((List.zipWith (fun a b => a * b) ns (rows.map fun r => LA.at_ r i)).map V.int) := SqL.of (by rw [hD3, List.zip, List.map_zipWith, List.map_zipWith])
        have hp0 : 0 < p := by omega
        walk_at "rd"
        refine .inl ⟨_, rfl, ?_⟩
        walk_at "rd"
        exact hk rfl H3 s3
    · intro H1 s1 hD1
      have hall : (List.range n).filter (fun _ => true) = List.range n := List.filter_eq_self.mpr fun _ _ => rfl
      rw [hall] at hD1
      have hDq : SqL K H1 D ((combL p ns rows n).map V.int) := SqL.of (by unfold combL; rw [List.map_map]; exact hD1)
      walk_at "rd"
      intro u H2 n2 s2 hu
      exact q u H2 (s1.trans s2) (SqT.of hu)
end
end P

set_option Elab.async false
set_option linter.all false
set_option maxRecDepth 100000
set_option maxHeartbeats 4000000
namespace P
open PySem PySem.Spec PyProof.Rows L2 OS
/-! short ways: "rd" opens a reading as far as equations go; "sep" finds what stands apart from the state; "sq" a list that is read; "nx" two heaps -/
local macro_rules | `(tactic| walk_at "sep") => `(tactic| first | assumption | (refine (by assumption : Nx _ _ _) _ _ ?_; walk_at "sep"))
local macro_rules | `(tactic| walk_at "sq") => `(tactic| first | assumption | exact .inl (.inl (by assumption)) | exact Sep.sq (by walk_at "sep") | exact Sep.st (by walk_at "sep") | exact .inl (.inl upd_same))
local macro_rules | `(tactic| walk_at "rd") => `(tactic| repeat (first
  | refine And.intro rfl ?_
  | apply Exists.intro
  | refine And.intro (by assumption) ?_
  | refine And.intro (DrawOk.mk (by omega) (by omega) (by omega)) ?_
  | refine And.intro at0 ?_
  | refine And.intro ⟨_, rfl⟩ ?_
  | refine And.intro (by walk_at "sq") ?_
  | refine And.intro (Or.inl (by walk_at "sq")) ?_
  | refine And.intro (Or.inr (by walk_at "sq")) ?_
  | refine And.intro (by omega) ?_))

section
variable {P : Program} {w : World} {K : PySem.W.Frag} {mg : Str → Option Value} {base : Heap}

/-- a list of its own, none of the two that grow -/
def LsD (la fa : Addr) (H : Hp) (v : V) (r : List Int) : Prop := ∃ b, v = .ref b ∧ H b = some (.lst (r.map V.int)) ∧ b ≠ la ∧ b ≠ fa
theorem ne_of_none' {H : Hp} {a b : Addr} {o : HO} (h : H a = none) (k : H b = some o) : a ≠ b := fun z => by
  rw [z, k] at h
  cases h
/-- _law_cleared(modulus, table, span) -/
def spLCleared (K : PySem.W.Frag) : Sp := fun vs H Q _ => ∃ (p : Int) (n : Nat) (a : Addr) (xs : List V) (rows : List (List Int)), vs = [.int p, .ref a, .int (n : Int)] ∧ isPr (.int p) = true ∧ SqL K H a xs ∧ Paired (RowB K H) xs rows ∧ (∀ r ∈ rows, LA.Row p n r) ∧ n ≤ 1000 ∧ rows.length ≤ 500 ∧
  ∀ u zs H', Same H H' → SqL K H' u zs → zs.length = (LA.cleared p n rows).length → Q (.ref u) H'
theorem clearN_len (p : Int) (n : Nat) (rows : List (List Int)) : ∀ j, (LA.clearN p n rows j).1.length ≤ rows.length ∧ (LA.clearN p n rows j).2.length ≤ j
  | 0 => ⟨Nat.le_refl _, Nat.le_refl _⟩
  | j + 1 => by
    obtain ⟨h1, h2⟩ := clearN_len p n rows j
    show (LA.clearS p n j (LA.clearN p n rows j)).1.length ≤ _ ∧ (LA.clearS p n j (LA.clearN p n rows j)).2.length ≤ _
    unfold LA.clearS
    split
    · exact ⟨h1, by omega⟩
    · simp only [List.length_map, List.length_append, List.length_singleton]
      refine ⟨Nat.le_trans (List.length_eraseIdx_le _ _) h1, by omega⟩
theorem ok_law_cleared (T : Txt K mg) : FnOk P w K mg base CX0 1 T.f_law_cleared T.fd_law_cleared ["_law_modulus", "_law_table1", "_law_span1"] (spLCleared K) := by
  refine T.F_law_cleared.ok sc_law_cleared (fun vs H Q E h => ?_) (fun cdv A outer s H vs Q E hr h => ?_)
  · obtain ⟨p, n, a, xs, rows, rfl, _⟩ := h
    rfl
  · obtain ⟨p, n, a, xs, rows, rfl, hpr, ha, hx, hro, hn, hrl, q⟩ := h
    refine ⟨_, (pss_cons (ps_set (i := 3) sc_law_cleared.nd rfl (Or.inr rfl) (pe_lc (own := [("_law_row", 4)]) (g := gName 4) (tt := tYes) rfl sc_law_cleared.nd (pi_list (pv 1)) (blkOk_by (own := [("_law_row", 4)]) (N := N_law_cleared) (sc := defScope s_law_cleared) (by decide +kernel)) (fun _ _ _ _ _ => (pg_name (i := 4) sc_law_cleared.nd rfl (Or.inl rfl))) (fun _ _ _ _ _ => pts_nil) (fun _ _ _ _ _ => (pe_callTy (T := "list") (r := rListS K) call_listS (by rfl) T.n_list (by decide +kernel) (pa_cons (pv 4) pa_nil)))))
    (pss_cons (ps_set (i := 5) sc_law_cleared.nd rfl (Or.inl rfl) (pe_lstO pa_nil))
    (pss_stop (ps_for PassesOwn.never rfl (pi_hold (pi_range1 rfl T.n_range (pa_cons (pv 2) pa_nil))) (pg_name (i := 6) sc_law_cleared.nd rfl (Or.inr rfl))
      (pss_cons (ps_setLc (i := 7) (own := [("_law_k", 8)]) (g := gName 8) rfl sc_law_cleared.nd rfl rfl (sw_true rfl rfl rfl (by decide +kernel)) (pi_range1 rfl T.n_range (pa_cons (pe_callB (id := "len") (r := rLenS K) call_lenS (by rfl) T.n_len PySem.boot_len (pa_cons (pv 3) pa_nil)) pa_nil)) (blkOk_by (own := [("_law_k", 8)]) (N := N_law_cleared) (sc := defScope s_law_cleared) (by decide +kernel)) (fun _ _ _ _ _ => (pg_name (i := 8) sc_law_cleared.nd rfl (Or.inl rfl))) (fun _ _ _ _ _ => (pts_one (pt_cmpR op_ne (pe_ix (r := rIxL K) ix_list (pe_ix (r := rIxL K) ix_list (pv 3) (pv 8) (fun _ _ => rfl)) (pv 6) (fun _ _ => rfl)) pe_int (nomark _)))) (fun _ _ _ _ _ => (pv 8)))
    (pss_one (ps_if (pt_cmpR (r := rNeNil K) (op_neNil (room65 hr)) (pv 7) (pe_lstO pa_nil) (nomark _))
      (pss_cons (ps_set (i := 9) sc_law_cleared.nd rfl (Or.inr rfl) (pe_bm PySem.F.plainAttrs_list PySem.F.slot_list_pop PySem.F.type_list_pop mt_popAt (pv 3) (pa_cons (pe_ix (r := rIxL K) ix_list (pv 7) pe_int (fun _ _ => rfl)) pa_nil)))
    (pss_cons (ps_set (i := 10) sc_law_cleared.nd rfl (Or.inr rfl) (pe_ix (r := rIxL K) ix_list (pe_lc (own := [("_law_k", 8)]) (g := gName 8) rfl sc_law_cleared.nd (pi_range2 rfl T.n_range (pa_cons pe_int (pa_cons (pv 0) pa_nil))) (blkOk_by (own := [("_law_k", 8)]) (N := N_law_cleared) (sc := defScope s_law_cleared) (by decide +kernel)) (fun _ _ _ _ _ => (pg_name (i := 8) sc_law_cleared.nd rfl (Or.inl rfl))) (fun _ _ _ _ _ => (pts_one (pt_cmpR op_eq (pe_op op_mod (pe_callTy (T := "int") call_int1 (by rfl) T.n_int (by decide +kernel) (pa_cons (pe_op op_mul (pv 8) (pe_ix (r := rIxL K) ix_list (pv 9) (pv 6) (fun _ _ => rfl))) pa_nil)) (pv 0)) pe_int (nomark _)))) (fun _ _ _ _ _ => (pv 8))) pe_int (fun _ _ => rfl)))
    (pss_cons (ps_set (i := 9) sc_law_cleared.nd rfl (Or.inr rfl) (pe_lc (own := [("_law_cell", 11)]) (g := gName 11) (tt := tYes) rfl sc_law_cleared.nd (pi_list (pv 9)) (blkOk_by (own := [("_law_cell", 11)]) (N := N_law_cleared) (sc := defScope s_law_cleared) (by decide +kernel)) (fun _ _ _ _ _ => (pg_name (i := 11) sc_law_cleared.nd rfl (Or.inl rfl))) (fun _ _ _ _ _ => pts_nil) (fun _ _ _ _ _ => (pe_op op_mod (pe_callTy (T := "int") call_int1 (by rfl) T.n_int (by decide +kernel) (pa_cons (pe_op op_mul (pv 10) (pv 11)) pa_nil)) (pv 0)))))
    (pss_cons (ps_expr (pe_bm PySem.F.plainAttrs_list PySem.F.slot_list_append PySem.F.type_list_append mt_append (pv 5) (pa_cons (pv 9) pa_nil)))
    (pss_one (ps_set (i := 3) sc_law_cleared.nd rfl (Or.inr rfl) (pe_lc (own := [("_law_row", 4)]) (g := gName 4) (tt := tYes) rfl sc_law_cleared.nd (pi_list (pv 3)) (blkOk_by (own := [("_law_row", 4)]) (N := N_law_cleared) (sc := defScope s_law_cleared) (by decide +kernel)) (fun _ _ _ _ _ => (pg_name (i := 4) sc_law_cleared.nd rfl (Or.inr rfl))) (fun _ _ _ _ _ => pts_nil) (fun _ _ _ _ _ => (pe_lc (own := [("_law_k", 8)]) (g := gName 8) (tt := tYes) rfl sc_law_cleared.nd (pi_range1 rfl T.n_range (pa_cons (pv 2) pa_nil)) (blkOk_by (own := [("_law_k", 8)]) (N := N_law_cleared) (sc := { kind := ScopeKind.function, names := [(".0", NameKind.local), ("_law_row", NameKind.cell), ("range", NameKind.globalImplicit), ("_law_head", NameKind.cell), ("_law_j", NameKind.cell), ("_law_modulus", NameKind.cell), ("_law_span1", NameKind.cell)], isGenerator := false, isCoroutine := false }) (by decide +kernel)) (fun _ _ _ _ _ => (pg_name (i := 8) sc_law_cleared.nd rfl (Or.inl rfl))) (fun _ _ _ _ _ => pts_nil) (fun _ _ _ _ _ => (pe_op op_mod (pe_callTy (T := "int") call_int1 (by rfl) T.n_int (by decide +kernel) (pa_cons (pe_op op_sub (pe_ix (r := rIxL K) ix_list (pv 4) (pv 8) (fun _ _ => rfl)) (pe_op op_mul (pe_ix (r := rIxL K) ix_list (pv 4) (pv 6) (fun _ _ => rfl)) (pe_ix (r := rIxL K) ix_list (pv 9) (pv 8) (fun _ _ => rfl)))) pa_nil)) (pv 0)))))))))))) pss_nil))))
    (pss_one (ps_ret (pv 5)))))), ?_⟩
    have hpl := pr_le hpr
    have hPT := LA.prmT_of (isPr_is hpr)
    have p0 : 0 < p := by omega
    have hxl := paired_len hx
    walk_at "rd"
    refine ⟨⟨_, ha⟩, fun la hla => ?_⟩
    refine lc_relD (walk_list (xs := xs)) (xs := rows) hxl.symm (by omega) (fun _ => true) (fun H r v => ∃ b, v = .ref b ∧ H b = some (.lst (r.map V.int)) ∧ b ≠ la) hla ?_ (fun H s => s.seq ha) ?_ ?_
    · rintro H7 H8 j v acc _ hDa kp ⟨b, e, h1, h2⟩
      exact ⟨b, e, kp _ _ h1 h2, h2⟩
    · intro i r x H1 H2 Qk Qn hj sm ⟨acc, hacc⟩ hy hk _
      obtain ⟨rfl, hx2⟩ := hy
      obtain ⟨r', h1, h2⟩ := OS.paired_get hx hx2
      obtain rfl : r' = r := Option.some.inj (h1.symm.trans hj)
      obtain ⟨kb, b, rfl, hb⟩ := h2.same sm
      have hbo := seq_or hb
      walk_at "rd"
      intro l H3 n3 s3 hl
      exact hk rfl (.ref l) H3 ⟨l, rfl, hl, fun z => by
        rw [z, hacc] at n3
        cases n3⟩ s3
    · intro H1 acc s1 hD1 pr
      have hall : rows.filter (fun _ => true) = rows := List.filter_eq_self.mpr fun _ _ => rfl
      rw [hall] at pr
      walk_at "rd"
      refine ⟨by decide, fun fa H2 n2 s2 hfa => ?_⟩
      have hlf : la ≠ fa := ne_of_none hD1 n2
      have hnfa : H fa = none := s1.free n2
      refine Stop.cut (fun σ H' => ∃ (y3 y6 y7 y9 y10 : Option V) (zs : List V), σ = [some (.int p), some (.ref a), some (.int (n : Int)), y3, none, some (.ref fa), y6, y7, none, y9, y10, none] ∧ Same H H' ∧ H' fa = some (.lst zs) ∧ zs.length = (LA.cleared p n rows).length) (fun Qz hz => ?_) ?_
      · refine ⟨.int (n : Int), rfl, (n : Int), rfl, by omega, by omega, ?_⟩
        refine ⟨for_it walk_range (fun j σ H' => ∃ (y6 y7 y9 y10 : Option V) (la : Addr) (ls zs : List V), σ = [some (.int p), some (.ref a), some (.int (n : Int)), some (.ref la), none, some (.ref fa), y6, y7, none, y9, y10, none] ∧ Same H H' ∧ H la = none ∧ la ≠ fa ∧ H' la = some (.lst ls) ∧ H' fa = some (.lst zs) ∧ zs.length = (LA.clearN p n rows j).2.length ∧ Paired (LsD la fa H') ls (LA.clearN p n rows j).1)
          ⟨none, none, none, none, la, acc, [], rfl, s1.trans s2, hla, hlf, s2 _ _ hD1, hfa, rfl, paired_swap (L2.Paired.mapP pr fun r v z => ?_)⟩ (fun _ _ _ _ _ => trivial) ?_ ?_⟩
        · obtain ⟨b, e, h1, h2⟩ := z
          exact ⟨b, e, s2 _ _ h1, h2, ne_of_none h1 n2⟩
        · rintro j x _ H3 H4 hj ⟨y6, y7, y9, y10, la, ls, zs, rfl, s3, nla, hlf, hl3, hf3, hzl, hls⟩ ⟨rfl, rfl⟩
          have hjn : j < n := by simpa using hj
          have C := LA.clr_all hPT hro j (by omega)
          have hst : LA.clearN p n rows (j + 1) = LA.clearS p n j (LA.clearN p n rows j) := rfl
          obtain ⟨hc1, hc2⟩ := clearN_len p n rows j
          rw [hst]
          generalize LA.clearN p n rows j = st at hzl hls C hc1 hc2 ⊢
          obtain ⟨left, found⟩ := st
          simp only at hzl hls hc1 hc2
          have hll := paired_len hls
          have hq3 : SqL K H4 la ls := SqL.of hl3
          have e4 : (((ls.length : Nat) : Int)).toNat = left.length := by omega
          refine ⟨.ref la, rfl, la, ls, rfl, .inl hq3, _, rfl, by omega, by omega, fun D hD => ?_⟩
          refine lc_fn (walk_range (n := (((ls.length : Nat) : Int)).toNat)) (xs := List.range left.length) (by rw [e4]; simp) (by omega) (fun k => !decide (LA.at_ (left.getD k []) j = 0)) (fun k : Nat => V.int (k : Int)) hD (fun _ _ => trivial) ?_ ?_
          · intro i k v H5 H6 Qk Qn hk sm hy hkk hkn
            obtain ⟨rfl, rfl⟩ := hy
            obtain ⟨hi, rfl⟩ := List.getElem?_eq_some_iff.mp hk
            rw [List.getElem_range] at hkk hkn
            have hil : i < left.length := by simpa using hi
            obtain ⟨x, hx', b, rfl, hb, _⟩ := OS.paired_get (paired_swap hls) (List.getElem?_eq_getElem hil)
            have hgd : left.getD i [] = left[i] := by rw [List.getD_eq_getElem?_getD, List.getElem?_eq_getElem hil]; rfl
            rw [hgd] at hkk hkn
            have hrow := (C.wl _ (List.getElem_mem hil)).1
            generalize left[i] = r at hkk hkn hb hrow
            have g2 : atI ls ((0 : Int) + (i : Int)) = some (.ref b) := by
              rw [Int.zero_add]
              exact atI_nat hx'
            have g3 : atI (r.map V.int) ((0 : Int) + (j : Int)) = some (.int (LA.at_ r j)) := by
              rw [Int.zero_add]
              exact atI_at (by rw [hrow.len]; exact hjn)
            have hq6 : SqL K H6 la ls := sm.seq hq3
            have hb6 : SqL K H6 b (r.map V.int) := SqL.of (sm _ _ hb)
            walk_at "rd"
            refine ite2 (fun e => ?_) (fun e => ?_)
            · walk_at "rd"
              have := hkk (by simpa using e) _ (Same.refl _)
              show Qk (V.int (0 + (i : Int))) _
              rw [Int.zero_add]
              exact this
            · exact hkn (by simpa using e) _ (Same.refl _)
          · intro H5 s5 hD5
            have hDq : SqL K H5 D ((LA.heads left j).map fun k : Nat => V.int (k : Int)) := SqL.of hD5
            have hl5 := s5 _ _ hl3
            have hf5 := s5 _ _ hf3
            have hls5 : Paired (LsD la fa H5) ls left := L2.Paired.mapP hls fun v r z => by
              obtain ⟨b, e, h1, h2, h3⟩ := z
              exact ⟨b, e, s5 _ _ h1, h2, h3⟩
            walk_at "rd"
            refine ⟨by decide, fun e0 H6 n6 s6 he0 => ?_⟩
            have hDq6 := s6.seq hDq
            have he6 : SqL K H6 e0 [] := SqL.of he0
            have hl6 := s6 _ _ hl5
            have hf6 := s6 _ _ hf5
            have s36 := (s3.trans s5).trans s6
            have hls6 : Paired (LsD la fa H6) ls left := L2.Paired.mapP hls5 fun v r z => by
              obtain ⟨b, e, h1, h2, h3⟩ := z
              exact ⟨b, e, s6 _ _ h1, h2, h3⟩
            walk_at "rd"
            have stN : LA.heads left j = [] → LA.clearS p n j (left, found) = (left, found) := fun e => by
              unfold LA.clearS
              simp only
              rw [e]
            have stC : ∀ k ks, LA.heads left j = k :: ks → LA.clearS p n j (left, found) = ((left.eraseIdx k).map fun row => (List.range n).map fun i => (LA.at_ row i - LA.at_ row j * LA.at_ ((left.getD k []).map fun x => LA.turn p (LA.at_ (left.getD k []) j) * x % p) i) % p, found ++ [(left.getD k []).map fun x => LA.turn p (LA.at_ (left.getD k []) j) * x % p]) := fun k ks e => by
              unfold LA.clearS
              simp only
              rw [e]
            have hhd : ∀ k ∈ LA.heads left j, k < left.length ∧ LA.at_ (left.getD k []) j ≠ 0 := fun k hk => by
              obtain ⟨h1, h2⟩ := List.mem_filter.mp hk
              exact ⟨List.mem_range.mp h1, by simpa using h2⟩
            clear hD5 hDq
            generalize LA.heads left j = hds at hDq6 hhd stN stC ⊢
            cases hds with
            | nil =>
              refine ite2 (fun e => absurd e (by decide)) fun _ => ?_
              rw [stN rfl]
              exact ⟨_, _, _, _, la, ls, zs, rfl, s36, nla, hlf, hl6, hf6, hzl, hls6⟩
            | cons k ks =>
              refine ite2 (fun _ => ?_) (fun e => absurd rfl e)
              obtain ⟨hkl, hkne⟩ := hhd k (.head _)
              have hgd : left.getD k [] = left[k] := by rw [List.getD_eq_getElem?_getD, List.getElem?_eq_getElem hkl]; rfl
              have hrow := (C.wl _ (List.getElem_mem hkl)).1
              obtain ⟨xk, hxk, b, rfl, hb, hbl, hbf⟩ := OS.paired_get (paired_swap hls6) (List.getElem?_eq_getElem hkl)
              rw [hgd] at hkne
              rw [stC k ks rfl, hgd]
              clear stN stC hhd
              have hat0 : atI ((k :: ks).map fun k : Nat => V.int (k : Int)) 0 = some (.int (k : Int)) := atI_nat (j := 0) rfl
              refine ⟨_, rfl, .inl ⟨rfl, _, SqL.of hl6⟩, ?_⟩
              refine ⟨_, rfl, D, _, 0, .int (k : Int), rfl, rfl, hDq6, hat0, ?_⟩
              have hkl2 : k < ls.length := by omega
              have hix : seqIndex? (k : Int) ls.length = some k := by
                unfold seqIndex?
                simp
                omega
              refine ⟨la, ls, (k : Int), k, .ref b, rfl, rfl, hl6, by omega, by omega, hix, hxk, ?_⟩
              -- the list without it
              have hfl : fa ≠ la := hlf.symm
              generalize hH7 : upd H6 la (.lst (ls.eraseIdx k)) = H7
              have hl7 : H7 la = some (.lst (ls.eraseIdx k)) := by rw [← hH7]; exact upd_same
              have kp7 : ∀ c o, H6 c = some o → c ≠ la → H7 c = some o := fun c o h z => by rw [← hH7, upd_ne z]; exact h
              have hf7 := kp7 _ _ hf6 hfl
              have hb7 := kp7 _ _ hb hbl
              have s37 : Same H H7 := by
                rw [← hH7]
                exact same_put s36 nla
              have hls7 : Paired (LsD la fa H7) (ls.eraseIdx k) (left.eraseIdx k) := by
                have : ∀ {xs : List V} {ys : List (List Int)} {k : Nat}, Paired (LsD la fa H6) xs ys → Paired (LsD la fa H7) (xs.eraseIdx k) (ys.eraseIdx k) := by
                  intro xs ys k h
                  induction h generalizing k with
                  | nil => exact .nil
                  | cons h t ih =>
                    have mp : ∀ {x y}, LsD la fa H6 x y → LsD la fa H7 x y := fun ⟨b, e, h1, h2, h3⟩ => ⟨b, e, kp7 _ _ h1 h2, h2, h3⟩
                    cases k with
                    | zero => exact L2.Paired.mapP t fun _ _ z => mp z
                    | succ k => exact .cons (mp h) ih
                exact this hls6
              have hbq7 : SqL K H7 b (left[k].map V.int) := SqL.of hb7
              have C1 : ∀ r ∈ left.eraseIdx k, LA.Row p n r := fun r hr => (C.wl r (List.mem_of_mem_eraseIdx hr)).1
              generalize left[k] = h0 at hkne hrow hbq7 ⊢
              have hrg := hrow.at_rng p0 j
              have g0 : 0 < LA.at_ h0 j := by omega
              have hinv := hPT.inv _ g0 hrg.2
              have hatj : atI (h0.map V.int) (0 + (j : Int)) = some (.int (LA.at_ h0 j)) := by
                rw [Int.zero_add]
                exact atI_at (by rw [hrow.len]; exact hjn)
              walk_at "rd"
              refine fun D1 hD1 => ?_
              have b0 : -(2 ^ 64) < LA.at_ h0 j ∧ LA.at_ h0 j < 2 ^ 64 := ⟨by omega, by omega⟩
              have hlt : ((List.range (p - 1).toNat).map fun k : Nat => 1 + (k : Int)).length = (p - 1).toNat := by simp
              refine lc_fn (walk_range (lo := 1)) (xs := (List.range (p - 1).toNat).map fun k : Nat => 1 + (k : Int)) hlt (by omega) (fun o : Int => decide (o * LA.at_ h0 j % p = 1)) V.int hD1 (fun _ _ => trivial) ?_ ?_
              · intro i z x H8 H9 Qk Qn hz sm hy hkk hkn
                obtain ⟨rfl, rfl⟩ := hy
                obtain ⟨hi, rfl⟩ := List.getElem?_eq_some_iff.mp hz
                rw [List.getElem_map, List.getElem_range] at hkk hkn
                have hb9 := sm.seq hbq7
                have hcm : CMul (1 + (i : Int)) (LA.at_ h0 j) := .inr b0
                walk_at "rd"
                refine .inl ⟨_, rfl, ?_⟩
                walk_at "rd"
                refine ite2 (fun e => ?_) (fun e => ?_)
                · walk_at "rd"
                  exact hkk (by simpa using e) _ (Same.refl _)
                · exact hkn (by simpa using e) _ (Same.refl _)
              · intro H8 s8 hD8
                have hne : (LA.turns p (LA.at_ h0 j))[0]? = some (LA.turn p (LA.at_ h0 j)) := by
                  have h := hinv
                  unfold LA.turn at h ⊢
                  cases e : LA.turns p (LA.at_ h0 j) with
                  | nil =>
                    rw [e] at h
                    simp at h
                  | cons x r => rfl
                have hDq8 : SqL K H8 D1 ((LA.turns p (LA.at_ h0 j)).map V.int) := SqL.of hD8
                have hat8 : atI ((LA.turns p (LA.at_ h0 j)).map V.int) 0 = some (.int (LA.turn p (LA.at_ h0 j))) := atI_nat (j := 0) (by rw [List.getElem?_map, hne]; rfl)
                generalize LA.turn p (LA.at_ h0 j) = tv at hat8 ⊢
                have hb8 := s8.seq hbq7
                walk_at "rd"
                refine ⟨⟨_, hb8⟩, fun D2 hD2 => ?_⟩
                refine lc_all (walk_list (xs := h0.map V.int)) (xs := h0) (by simp) (by rw [List.length_map, hrow.len]; omega) (fun x => V.int (tv * x % p)) hD2 (fun H s => s.seq hb8) ?_ ?_
                · intro i z x H9 H10 Qk hz sm hy hk
                  obtain ⟨rfl, hv⟩ := hy
                  rw [List.getElem?_map, hz] at hv
                  obtain rfl := Option.some.inj hv
                  have hzr := hrow.rng z (List.mem_of_getElem? hz)
                  have b1 : -(2 ^ 64) < z ∧ z < 2 ^ 64 := ⟨by omega, by omega⟩
                  have hcm : CMul tv z := .inr b1
                  walk_at "rd"
                  refine .inl ⟨_, rfl, ?_⟩
                  walk_at "rd"
                  exact hk _ (Same.refl _)
                · intro H9 s9 hD9
                  have hD9' : H9 D2 = some (.lst ((h0.map fun x => tv * x % p).map V.int)) := by rw [List.map_map]; exact hD9
                  have hhl : (h0.map fun x => tv * x % p).length = n := by rw [List.length_map, hrow.len]
                  generalize h0.map (fun x => tv * x % p) = hd at hD9' hhl ⊢
                  have s79 := s8.trans s9
                  have hf9 := s79 _ _ hf7
                  have hl9 := s79 _ _ hl7
                  have hD2f : D2 ≠ fa := ne_of_none' hD2 (s8 _ _ hf7)
                  have hD2l : D2 ≠ la := ne_of_none' hD2 (s8 _ _ hl7)
                  refine ⟨_, rfl, .inl ⟨rfl, _, SqL.of hf9⟩, ?_⟩
                  refine ⟨_, rfl, fa, zs, .ref D2, rfl, rfl, hf9, small1e5 (by omega), ?_⟩
                  generalize hH10 : upd H9 fa (.lst (zs ++ [.ref D2])) = H10
                  have kp10 : ∀ c o, H9 c = some o → c ≠ fa → H10 c = some o := fun c o h z => by rw [← hH10, upd_ne z]; exact h
                  have hf10 : H10 fa = some (.lst (zs ++ [.ref D2])) := by rw [← hH10]; exact upd_same
                  have hl10 := kp10 _ _ hl9 hlf
                  have hd10 := kp10 _ _ hD9' hD2f
                  have s310 : Same H H10 := by
                    rw [← hH10]
                    exact same_put (s37.trans s79) hnfa
                  have hls10 : Paired (LsD la fa H10) (ls.eraseIdx k) (left.eraseIdx k) := L2.Paired.mapP hls7 fun v r z => by
                    obtain ⟨b, e, h1, h2, h3⟩ := z
                    exact ⟨b, e, kp10 _ _ (s79 _ _ h1) h3, h2, h3⟩
                  have hlq10 : SqL K H10 la (ls.eraseIdx k) := SqL.of hl10
                  have hdq10 : SqL K H10 D2 (hd.map V.int) := SqL.of hd10
                  have hel := paired_len hls10
                  have hle : (left.eraseIdx k).length ≤ left.length := List.length_eraseIdx_le _ _
                  walk_at "rd"
                  refine ⟨⟨_, hlq10⟩, fun D3 hD3 => ?_⟩
                  refine lc_relD (walk_list (xs := ls.eraseIdx k)) (xs := left.eraseIdx k) hel.symm (by omega) (fun _ => true) (fun H r v => ∃ b, v = .ref b ∧ H b = some (.lst (((List.range n).map fun i => (LA.at_ r i - LA.at_ r j * LA.at_ hd i) % p).map V.int)) ∧ b ≠ D3 ∧ b ≠ fa) hD3 ?_ (fun H s => s.seq hlq10) ?_ ?_
                  · rintro H7 H8 j v acc _ hDa kp ⟨b, e, h1, h2, h3⟩
                    exact ⟨b, e, kp _ _ h1 h2, h2, h3⟩
                  · intro i r x H11 H12 Qk Qn hr sm ⟨acc, hacc⟩ hy hk _
                    obtain ⟨rfl, hx2⟩ := hy
                    obtain ⟨r', h1, h2⟩ := OS.paired_get hls10 hx2
                    obtain rfl : r' = r := Option.some.inj (h1.symm.trans hr)
                    obtain ⟨b2, rfl, hb2, _, _⟩ := h2
                    have hrw := C1 r' (List.mem_of_getElem? hr)
                    have hb12 : SqL K H12 b2 (r'.map V.int) := SqL.of (sm _ _ hb2)
                    have hd12 : SqL K H12 D2 (hd.map V.int) := sm.seq hdq10
                    have hrj := hrw.at_rng p0 j
                    have b1 : -(2 ^ 64) < LA.at_ r' j ∧ LA.at_ r' j < 2 ^ 64 := ⟨by omega, by omega⟩
                    have haj : atI (r'.map V.int) (0 + (j : Int)) = some (.int (LA.at_ r' j)) := by
                      rw [Int.zero_add]
                      exact atI_at (by rw [hrw.len]; exact hjn)
                    have hfn := sm _ _ hf10
                    refine ⟨rfl, ?_⟩
                    refine ⟨.int (n : Int), rfl, (n : Int), rfl, by omega, by omega, fun D4 hD4 => ?_⟩
                    refine lc_fn walk_range (xs := List.range n) (by simp) (by omega) (fun _ => true) (fun i => V.int ((LA.at_ r' i - LA.at_ r' j * LA.at_ hd i) % p)) hD4 (fun _ _ => trivial) ?_ ?_
                    · intro i2 k2 x H13 H14 Qk2 Qn2 hj2 sm2 hy2 hk2 _
                      obtain ⟨rfl, rfl⟩ := hy2
                      obtain ⟨hi2, rfl⟩ := List.getElem?_eq_some_iff.mp hj2
                      rw [List.getElem_range] at hk2
                      have hin : i2 < n := by simpa using hi2
                      have hb14 := sm2.seq hb12
                      have hd14 := sm2.seq hd12
                      have ha1 : atI (r'.map V.int) (0 + (i2 : Int)) = some (.int (LA.at_ r' i2)) := by
                        rw [Int.zero_add]
                        exact atI_at (by rw [hrw.len]; exact hin)
                      have ha2 : atI (hd.map V.int) (0 + (i2 : Int)) = some (.int (LA.at_ hd i2)) := by
                        rw [Int.zero_add]
                        exact atI_at (by rw [hhl]; exact hin)
                      have hcm : CMul (LA.at_ r' j) (LA.at_ hd i2) := .inl b1
                      walk_at "rd"
                      refine .inl ⟨_, rfl, ?_⟩
                      walk_at "rd"
                      exact hk2 rfl _ (Same.refl _)
                    · intro H13 s13 hD13
                      have hall2 : (List.range n).filter (fun _ => true) = List.range n := List.filter_eq_self.mpr fun _ _ => rfl
                      rw [hall2] at hD13
                      refine hk rfl (.ref D4) H13 ⟨D4, rfl, by rw [List.map_map]; exact hD13, ne_of_none' hD4 hacc, ne_of_none' hD4 hfn⟩ s13
                  · intro H11 acc s11 hD11 pr
                    have hall2 : (left.eraseIdx k).filter (fun _ => true) = left.eraseIdx k := List.filter_eq_self.mpr fun _ _ => rfl
                    rw [hall2] at pr
                    have hD3n : H D3 = none := s310.free hD3
                    refine ⟨_, _, _, _, D3, acc, zs ++ [.ref D2], rfl, s310.trans s11, hD3n, ne_of_none' hD3 hf10, hD11, s11 _ _ hf10, by rw [List.length_append, List.length_append, hzl]; rfl, ?_⟩
                    exact paired_swap (paired_map (F := fun r v => LsD D3 fa H11 v r) (L2.Paired.mapP pr fun r v z => by
                      obtain ⟨b, e, h1, h2, h3⟩ := z
                      exact ⟨b, e, h1, h2, h3⟩))
        · rintro σ H3 ⟨y6, y7, y9, y10, la, ls, zs, rfl, s3, nla, hlf, hl3, hf3, hzl, hls⟩
          exact hz _ _ ⟨_, y6, y7, y9, y10, zs, rfl, s3, hf3, by simpa [LA.cleared] using hzl⟩
      · rintro _ H3 ⟨y3, y6, y7, y9, y10, zs, rfl, s3, hf3, hzl⟩
        walk_at "rd"
        exact q fa zs H3 s3 (SqL.of hf3) hzl
end
end P

set_option Elab.async false
set_option linter.all false
set_option maxRecDepth 100000
set_option maxHeartbeats 4000000
namespace P
open PySem PySem.Spec PyProof.Rows L2 OS
/-! short ways: "rd" opens a reading as far as equations go; "sep" finds what stands apart from the state; "sq" a list that is read; "nx" two heaps -/
local macro_rules | `(tactic| walk_at "sep") => `(tactic| first | assumption | (refine (by assumption : Nx _ _ _) _ _ ?_; walk_at "sep"))
local macro_rules | `(tactic| walk_at "sq") => `(tactic| first | assumption | exact .inl (.inl (by assumption)) | exact Sep.sq (by walk_at "sep") | exact Sep.st (by walk_at "sep") | exact .inl (.inl upd_same))
local macro_rules | `(tactic| walk_at "rd") => `(tactic| repeat (first
  | refine And.intro rfl ?_
  | apply Exists.intro
  | refine And.intro (by assumption) ?_
  | refine And.intro (DrawOk.mk (by omega) (by omega) (by omega)) ?_
  | refine And.intro at0 ?_
  | refine And.intro ⟨_, rfl⟩ ?_
  | refine And.intro (by walk_at "sq") ?_
  | refine And.intro (Or.inl (by walk_at "sq")) ?_
  | refine And.intro (Or.inr (by walk_at "sq")) ?_
  | refine And.intro (by omega) ?_))

section
variable {P : Program} {w : World} {K : PySem.W.Frag} {mg : Str → Option Value} {base : Heap}

/-- _law_rank(modulus, table, span) -/
def spLRank (K : PySem.W.Frag) : Sp := fun vs H Q _ => ∃ (p : Int) (n : Nat) (a : Addr) (xs : List V) (rows : List (List Int)), vs = [.int p, .ref a, .int (n : Int)] ∧ isPr (.int p) = true ∧ SqL K H a xs ∧ Paired (RowB K H) xs rows ∧ (∀ r ∈ rows, LA.Row p n r) ∧ n ≤ 1000 ∧ rows.length ≤ 500 ∧
  ∀ H', Same H H' → Q (.int ((LA.cleared p n rows).length : Int)) H'
theorem ok_law_rank (T : Txt K mg) : FnOk P w K mg base CX0 2 T.f_law_rank T.fd_law_rank ["_law_modulus", "_law_table1", "_law_span1"] (spLRank K) := by
  refine T.F_law_rank.ok sc_law_rank (fun vs H Q E h => ?_) (fun cdv A outer s H vs Q E hr h => ?_)
  · obtain ⟨p, n, a, xs, rows, rfl, _⟩ := h
    rfl
  · obtain ⟨p, n, a, xs, rows, rfl, hpr, ha, hx, hro, hn, hrl, q⟩ := h
    refine ⟨_, (pss_one (ps_ret (pe_callB (id := "len") (r := rLenS K) call_lenS (by rfl) T.n_len PySem.boot_len (pa_cons (pe_call (ok_law_cleared T) (hr.mono (by decide)) (by rfl) T.g_law_cleared T.F_law_cleared.kp T.b_law_cleared .nil pass0 (pa_cons (pv 0) (pa_cons (pv 1) (pa_cons (pv 2) pa_nil)))) pa_nil)))), ?_⟩
    walk_at "rd"
    intro u zs H' s1 hu hz
    walk_at "rd"
    rw [hz]
    exact q H' s1
def isBV (v : V) : V := .bl (isB v)
theorem PrV.itm {H : Hp} {v : V} {op : Option Int} (h : PrV K H v op) : Itm K H v := by
  cases h with
  | ok p _ => exact .flat rfl
  | no h _ => exact h
theorem PrV.same {H H' : Hp} {v : V} {op : Option Int} (h : PrV K H v op) (s : Same H H') : PrV K H' v op := by
  cases h with
  | ok p h => exact .ok p h
  | no h e => exact .no (h.same s) e
end
end P

set_option Elab.async false
set_option linter.all false
namespace LA
/-! equations solved: factors for a goal, a blind row -/
section
variable {p : Int} {n m : Nat}
def solve (p : Int) (m : Nat) (rows : List (List Int)) : Option (List Int) := if (redL p rows).any (fun q => decide (q.1 = m)) then none else some (setN m (List.replicate m 0) (redL p rows))
theorem setN_rng : ∀ (found : List Lead) (ns : List Int), (∀ x ∈ ns, 0 ≤ x ∧ x < p) → (∀ q ∈ found, 0 ≤ at_ q.2 m ∧ at_ q.2 m < p) → ∀ x ∈ setN m ns found, 0 ≤ x ∧ x < p
  | [], _, h, _ => h
  | q :: found, ns, h, k => by
    show ∀ x ∈ setN m (ns.set q.1 (at_ q.2 m)) found, 0 ≤ x ∧ x < p
    refine setN_rng found _ (fun x hx => ?_) fun q' hq' => k q' (.tail _ hq')
    rcases List.mem_or_eq_of_mem_set hx with h1 | h1
    · exact h x h1
    · rw [h1]
      exact k q (.head _)
theorem solve_some (hp : Prm p) (hp0 : 0 < p) {rows : List (List Int)} {ns : List Int} (h : ∀ r ∈ rows, Row p (m + 1) r) (e : solve p m rows = some ns) : ns.length = m ∧ (∀ x ∈ ns, 0 ≤ x ∧ x < p) ∧ ∀ r ∈ rows, Solves p m (at_ ns) (at_ r) := by
  have R := red_all hp h
  unfold solve at e
  split at e
  · cases e
  · rename_i ha
    obtain rfl := Option.some.inj e
    have hno : ∀ q ∈ redL p rows, q.1 ≠ m := fun q hq z => ha (List.any_eq_true.mpr ⟨q, hq, by simpa using z⟩)
    refine ⟨by rw [setN_len, List.length_replicate], setN_rng _ _ (fun x hx => ?_) (fun q hq => (R.ok q hq).row.at_rng hp0 m), solves_all R hno⟩
    rw [(List.mem_replicate.mp hx).2]
    omega
theorem solve_none (hp : Prm p) {rows : List (List Int)} (h : ∀ r ∈ rows, Row p (m + 1) r) (e : solve p m rows = none) : ∃ q ∈ redL p rows, q.1 = m := by
  unfold solve at e
  split at e
  · rename_i ha
    obtain ⟨q, hq, hm⟩ := List.any_eq_true.mp ha
    exact ⟨q, hq, by simpa using hm⟩
  · cases e
theorem dotN_front {x v : Vec} : ∀ n, dotN x v (n + 1) = v 0 * x 0 + dotN (fun k => x (k + 1)) (fun k => v (k + 1)) n
  | 0 => by
    show (0 : Int) + v 0 * x 0 = v 0 * x 0 + 0
    omega
  | n + 1 => by
    show dotN x v (n + 1) + v (n + 1) * x (n + 1) = v 0 * x 0 + (dotN (fun k => x (k + 1)) (fun k => v (k + 1)) n + v (n + 1) * x (n + 1))
    rw [dotN_front n]
    omega
theorem dotN_ext {x v u : Vec} : ∀ {n : Nat}, (∀ k, k < n → u k = v k) → dotN x u n = dotN x v n
  | 0, _ => rfl
  | n + 1, h => by
    show dotN x u n + u n * x n = dotN x v n + v n * x n
    rw [dotN_ext fun k hk => h k (by omega), h n (by omega)]
theorem linf_dot (j : Nat) : ∀ (rows : List (List Int)) (f : Nat → Int), linf f (rows.map at_) j = dotN f (fun k => at_ (rows.getD k []) j) rows.length
  | [], _ => rfl
  | r :: rows, f => by
    show f 0 * at_ r j + linf (fun k => f (k + 1)) (rows.map at_) j = dotN f (fun k => at_ ((r :: rows).getD k []) j) (rows.length + 1)
    rw [dotN_front, linf_dot j rows]
    show f 0 * at_ r j + _ = at_ r j * f 0 + _
    rw [Int.mul_comm]
    rfl
/-- each column of the rows, the goal's number behind it -/
def eqs (rows : List (List Int)) (gl : List Int) : List (List Int) := (List.range gl.length).map fun j => (rows.map fun r => at_ r j) ++ [at_ gl j]
theorem eq_at {rows : List (List Int)} {gl : List Int} {j k : Nat} (hk : k < rows.length) : at_ ((rows.map fun r => at_ r j) ++ [at_ gl j]) k = at_ (rows.getD k []) j := by
  unfold at_
  rw [List.getD_eq_getElem?_getD, List.getElem?_append_left (by simpa using hk), List.getElem?_map, List.getD_eq_getElem?_getD (l := rows)]
  rw [List.getElem?_eq_getElem hk]
  rfl
theorem eq_end {rows : List (List Int)} {gl : List Int} {j : Nat} : at_ ((rows.map fun r => at_ r j) ++ [at_ gl j]) rows.length = at_ gl j := by
  rw [show at_ ((rows.map fun r => at_ r j) ++ [at_ gl j]) rows.length = ((rows.map fun r => at_ r j) ++ [at_ gl j]).getD rows.length 0 from rfl, List.getD_eq_getElem?_getD, List.getElem?_append_right (by simp)]
  simp
theorem eq_solves {rows : List (List Int)} {gl : List Int} {j : Nat} {c : List Int} (hc : c.length = rows.length) : Solves p rows.length (at_ c) (at_ ((rows.map fun r => at_ r j) ++ [at_ gl j])) ↔ p ∣ lin c (rows.map at_) j - at_ gl j := by
  unfold Solves
  rw [dotN_ext (v := fun k => at_ (rows.getD k []) j) (fun k hk => eq_at hk), eq_end, ← linf_dot, lin_linf (W := rows.map at_) j (by simp [hc])]
  rfl
theorem eqs_row (hp0 : 0 < p) {rows : List (List Int)} {gl : List Int} (h : ∀ r ∈ rows, Row p n r) (hg : Row p n gl) : ∀ r ∈ eqs rows gl, Row p (rows.length + 1) r := fun r hr => by
  obtain ⟨j, hj, rfl⟩ := List.mem_map.mp hr
  refine ⟨by simp, fun x hx => ?_⟩
  rcases List.mem_append.mp hx with a | a
  · obtain ⟨r', hr', rfl⟩ := List.mem_map.mp a
    exact (h r' hr').at_rng hp0 j
  · rw [List.mem_singleton.mp a]
    exact hg.at_rng hp0 j
/-- factors found make the goal -/
theorem fac_some (hp : Prm p) (hp0 : 0 < p) {rows : List (List Int)} {gl ns : List Int} (h : ∀ r ∈ rows, Row p n r) (hg : Row p n gl) (e : solve p rows.length (eqs rows gl) = some ns) :
    ns.length = rows.length ∧ (∀ x ∈ ns, 0 ≤ x ∧ x < p) ∧ ∀ j, j < n → p ∣ lin ns (rows.map at_) j - at_ gl j := by
  obtain ⟨h1, h2, h3⟩ := solve_some hp hp0 (eqs_row hp0 h hg) e
  exact ⟨h1, h2, fun j hj => (eq_solves h1).mp (h3 _ (List.mem_map.mpr ⟨j, List.mem_range.mpr (by rw [hg.len]; exact hj), rfl⟩))⟩
theorem fac_in (hp : Prm p) (hp0 : 0 < p) {rows : List (List Int)} {gl : List Int} (h : ∀ r ∈ rows, Row p n r) (hg : Row p n gl) : (solve p rows.length (eqs rows gl)).isSome = true ↔ InS p n (rows.map at_) (at_ gl) := by
  constructor
  · intro e
    obtain ⟨ns, e⟩ := Option.isSome_iff_exists.mp e
    obtain ⟨h1, h2, h3⟩ := fac_some hp hp0 h hg e
    exact ⟨ns, by simp [h1], fun j hj => dvd_congr (Int.dvd_neg.mpr (h3 j hj)) (by omega)⟩
  · rintro ⟨c, hc, hj⟩
    rw [List.length_map] at hc
    cases e : solve p rows.length (eqs rows gl) with
    | some ns => rfl
    | none =>
      obtain ⟨q, hq, hqm⟩ := solve_none hp (eqs_row hp0 h hg) e
      refine (no_solution hp (red_all hp (eqs_row hp0 h hg)) hq hqm (x := at_ c) fun r hr => ?_).elim
      obtain ⟨j, hjr, rfl⟩ := List.mem_map.mp hr
      exact (eq_solves hc).mpr (dvd_congr (Int.dvd_neg.mpr (hj j (by rw [← hg.len]; exact List.mem_range.mp hjr))) (by omega))
/-! a blind row -/
def goal1 (n : Nat) : List Int := 1 :: List.replicate (n - 1) 0
theorem goal1_len (h : 1 ≤ n) : (goal1 n).length = n := by
  unfold goal1
  rw [List.length_cons, List.length_replicate]
  omega
theorem goal1_at {k : Nat} : at_ (goal1 n) k = if k = 0 then 1 else 0 := by
  cases k with
  | zero => rfl
  | succ k =>
    show (List.replicate (n - 1) (0 : Int)).getD k 0 = 0
    rw [List.getD_eq_getElem?_getD, List.getElem?_replicate]
    split <;> rfl
theorem goal1_row (hp : 2 ≤ p) (h : 1 ≤ n) : Row p n (goal1 n) := ⟨goal1_len h, fun x hx => by
  rcases List.mem_cons.mp hx with rfl | h1
  · omega
  · rw [(List.mem_replicate.mp h1).2]
    omega⟩
def blinds (rows : List (List Int)) (n : Nat) : List (List Int) := (rows.map fun r => r ++ [0]) ++ [goal1 n ++ [1]]
theorem app_at {r : List Int} {z : Int} {k : Nat} (hk : k < r.length) : at_ (r ++ [z]) k = at_ r k := by
  unfold at_
  rw [List.getD_eq_getElem?_getD, List.getElem?_append_left hk, List.getD_eq_getElem?_getD]
theorem app_end {r : List Int} {z : Int} (h : r.length = n) : at_ (r ++ [z]) n = z := by
  subst h
  unfold at_
  rw [List.getD_eq_getElem?_getD, List.getElem?_append_right (Nat.le_refl _)]
  simp
theorem app_row (hp0 : 0 < p) {r : List Int} {z : Int} (h : Row p n r) (hz : 0 ≤ z ∧ z < p) : Row p (n + 1) (r ++ [z]) := ⟨by rw [List.length_append, h.len]; rfl, fun x hx => by
  rcases List.mem_append.mp hx with a | a
  · exact h.rng x a
  · rw [List.mem_singleton.mp a]
    exact hz⟩
theorem blinds_row (hp : 2 ≤ p) (h1 : 1 ≤ n) {rows : List (List Int)} (h : ∀ r ∈ rows, Row p n r) : ∀ r ∈ blinds rows n, Row p (n + 1) r := fun r hr => by
  rcases List.mem_append.mp hr with a | a
  · obtain ⟨r', hr', rfl⟩ := List.mem_map.mp a
    exact app_row (by omega) (h r' hr') (by omega)
  · rw [List.mem_singleton.mp a]
    exact app_row (by omega) (goal1_row hp h1) (by omega)
theorem dot_goal {x : Vec} (h1 : 1 ≤ n) : dotN x (at_ (goal1 n)) n = x 0 := by
  rw [dotN_one (l := 0) (fun k _ hk => by rw [goal1_at, if_neg hk]; omega), if_pos (by omega), goal1_at, if_pos rfl]
  omega
theorem same_lin {j : Nat} (hjn : j < n) : ∀ (d : List Int) (rows : List (List Int)), (∀ r ∈ rows, Row p n r) → lin d (rows.map fun r => at_ (r ++ [0])) j = lin d (rows.map at_) j
  | [], rows, _ => by rw [lin_nil_left, lin_nil_left]
  | x :: d, [], _ => rfl
  | x :: d, r :: rows, h => by
    show x * at_ (r ++ [0]) j + lin d (rows.map fun r => at_ (r ++ [0])) j = x * at_ r j + lin d (rows.map at_) j
    rw [same_lin hjn d rows fun r hr => h r (.tail _ hr), app_at (by rw [(h r (.head _)).len]; exact hjn)]
theorem blind_some (hp : Prm p) (hp2 : 2 ≤ p) (h1 : 1 ≤ n) {rows : List (List Int)} {ns : List Int} (h : ∀ r ∈ rows, Row p n r) (e : solve p n (blinds rows n) = some ns) :
    ns.length = n ∧ (∀ x ∈ ns, 0 ≤ x ∧ x < p) ∧ at_ ns 0 = 1 ∧ (∀ r ∈ rows, p ∣ dotN (at_ ns) (at_ r) n) ∧ ¬ InS p n (rows.map at_) (at_ (goal1 n)) := by
  obtain ⟨a, b, c⟩ := solve_some hp (by omega) (blinds_row hp2 h1 h) e
  have hr : ∀ r ∈ rows, p ∣ dotN (at_ ns) (at_ r) n := fun r hr => by
    have z : p ∣ dotN (at_ ns) (at_ (r ++ [0])) n - at_ (r ++ [0]) n := c _ (List.mem_append_left _ (List.mem_map_of_mem (f := fun r => r ++ [0]) hr))
    rw [app_end (h r hr).len, dotN_ext (v := at_ r) (fun k hk => app_at (by rw [(h r hr).len]; exact hk))] at z
    exact dvd_congr z (by omega)
  have hg : p ∣ at_ ns 0 - 1 := by
    have z : p ∣ dotN (at_ ns) (at_ (goal1 n ++ [1])) n - at_ (goal1 n ++ [1]) n := c _ (List.mem_append_right _ (.head _))
    rw [app_end (goal1_len h1), dotN_ext (v := at_ (goal1 n)) (fun k hk => app_at (by rw [goal1_len h1]; exact hk)), dot_goal h1] at z
    exact z
  have h0 : at_ ns 0 = 1 := by
    have hm : at_ ns 0 ∈ ns := by
      rw [at_get (by omega)]
      exact List.getElem_mem _
    have := b _ hm
    by_cases h5 : at_ ns 0 = 0
    · rw [h5] at hg
      have h7 : (p : Int) ∣ 1 := dvd_congr (Int.dvd_neg.mpr hg) (by omega)
      exact absurd h7 hp.one
    · have := dvd_zero hg (by omega) (by omega)
      omega
  refine ⟨a, b, h0, hr, fun hin => ?_⟩
  have hs : Solves p n (at_ ns) (at_ (goal1 n ++ [0])) := by
    refine Solves.span (L := rows.map fun r => at_ (r ++ [0])) (fun w hw => ?_) ?_
    · obtain ⟨r, hr, rfl⟩ := List.mem_map.mp hw
      exact c _ (List.mem_append_left _ (List.mem_map_of_mem (f := fun r => r ++ [0]) hr))
    · obtain ⟨d, hd, hj⟩ := hin
      refine ⟨d, by simpa using hd, fun j hjn => ?_⟩
      by_cases hjl : j < n
      · rw [app_at (by rw [goal1_len h1]; exact hjl), same_lin hjl d rows h]
        exact hj j hjl
      · obtain rfl : j = n := by omega
        rw [app_end (goal1_len h1)]
        have : p ∣ lin d (rows.map fun r => at_ (r ++ [0])) j := lin_all (fun v hv => by
          obtain ⟨r, hr, rfl⟩ := List.mem_map.mp hv
          rw [app_end (h r hr).len]
          exact Int.dvd_zero _) d
        exact dvd_congr (Int.dvd_neg.mpr this) (by omega)
  have z : p ∣ dotN (at_ ns) (at_ (goal1 n ++ [0])) n - at_ (goal1 n ++ [0]) n := hs
  rw [app_end (goal1_len h1), dotN_ext (v := at_ (goal1 n)) (fun k hk => app_at (by rw [goal1_len h1]; exact hk)), dot_goal h1, h0] at z
  exact hp.one (dvd_congr z (by omega))
theorem blind_none (hp : Prm p) (hp2 : 2 ≤ p) (h1 : 1 ≤ n) {rows : List (List Int)} (h : ∀ r ∈ rows, Row p n r) (e : solve p n (blinds rows n) = none) : InS p n (rows.map at_) (at_ (goal1 n)) := by
  obtain ⟨q, hq, hqn⟩ := solve_none hp (blinds_row hp2 h1 h) e
  have R := red_all hp (blinds_row hp2 h1 h)
  obtain ⟨c, hc, hj⟩ := R.inR q hq
  have ho := R.ok q hq
  unfold blinds at hc hj
  rw [List.map_append, List.length_append] at hc
  obtain ⟨c1, d, rfl⟩ : ∃ c1 d, c = c1 ++ [d] := ⟨c.dropLast, c.getLast (fun z => by rw [z] at hc; simp at hc), (List.dropLast_concat_getLast _).symm⟩
  have hcl : c1.length = rows.length := by simpa using hc
  have hlin : ∀ j, lin (c1 ++ [d]) (((rows.map fun r => r ++ [0]) ++ [goal1 n ++ [1]]).map at_) j = lin c1 ((rows.map fun r => r ++ [0]).map at_) j + d * at_ (goal1 n ++ [1]) j := fun j => by
    rw [List.map_append, lin_append _ _ _ (by simp [hcl])]
    show _ + (d * at_ (goal1 n ++ [1]) j + 0) = _
    omega
  have hd : p ∣ 1 - d := by
    have z := hj n (by omega)
    rw [hlin, app_end (goal1_len h1), ← hqn, ho.own] at z
    have z2 : p ∣ lin c1 ((rows.map fun r => r ++ [0]).map at_) q.1 := lin_all (fun v hv => by
      obtain ⟨r, hr, rfl⟩ := List.mem_map.mp hv
      obtain ⟨r', hr', rfl⟩ := List.mem_map.mp hr
      rw [hqn, app_end (h r' hr').len]
      exact Int.dvd_zero _) c1
    have := Int.dvd_add z z2
    exact dvd_congr this (by omega)
  refine ⟨c1.map (-1 * ·), by simp [hcl], fun j hjn => ?_⟩
  have z := hj j (by omega)
  rw [hlin, app_at (by rw [goal1_len h1]; exact hjn), ho.z j (by omega)] at z
  have same : lin c1 ((rows.map fun r => r ++ [0]).map at_) j = lin c1 (rows.map at_) j := by
    rw [List.map_map]
    exact same_lin hjn c1 rows h
  rw [same] at z
  rw [lin_smul]
  have z3 := dvd_mul_r (at_ (goal1 n) j) hd
  have z4 : p ∣ at_ (goal1 n) j * (1 - d) - (0 - (lin c1 (rows.map at_) j + d * at_ (goal1 n) j)) := Int.dvd_sub z3 z
  refine dvd_congr z4 ?_
  rw [Int.mul_sub, Int.mul_comm (at_ (goal1 n) j) d]
  omega
end
end LA

set_option Elab.async false
set_option linter.all false
set_option maxRecDepth 100000
set_option maxHeartbeats 4000000
namespace P
open PySem PySem.Spec PyProof.Rows L2 OS
/-! short ways: "rd" opens a reading as far as equations go; "sep" finds what stands apart from the state; "sq" a list that is read; "nx" two heaps -/
local macro_rules | `(tactic| walk_at "sep") => `(tactic| first | assumption | (refine (by assumption : Nx _ _ _) _ _ ?_; walk_at "sep"))
local macro_rules | `(tactic| walk_at "sq") => `(tactic| first | assumption | exact .inl (.inl (by assumption)) | exact Sep.sq (by walk_at "sep") | exact Sep.st (by walk_at "sep") | exact .inl (.inl upd_same))
local macro_rules | `(tactic| walk_at "rd") => `(tactic| repeat (first
  | refine And.intro rfl ?_
  | apply Exists.intro
  | refine And.intro (by assumption) ?_
  | refine And.intro (DrawOk.mk (by omega) (by omega) (by omega)) ?_
  | refine And.intro at0 ?_
  | refine And.intro ⟨_, rfl⟩ ?_
  | refine And.intro (by walk_at "sq") ?_
  | refine And.intro (Or.inl (by walk_at "sq")) ?_
  | refine And.intro (Or.inr (by walk_at "sq")) ?_
  | refine And.intro (by omega) ?_))

section
variable {P : Program} {w : World} {K : PySem.W.Frag} {mg : Str → Option Value} {base : Heap}

theorem solL_eq {p : Int} {m : Nat} {rows : List (List Int)} : solL p m rows = LA.solve p m rows := rfl
theorem eqsL_eq {rows : List (List Int)} {gl : List Int} : eqsL rows gl = LA.eqs rows gl := rfl
theorem blindE_eq {rows : List (List Int)} {n : Nat} : blindE rows n = LA.blinds rows n := rfl
/-- a new list of two -/
def New2 (K : PySem.W.Frag) (H : Hp) (Q : VK) (z : String) (v : V) : Prop := ∀ u H', Same H H' → SqL K H' u [.str (Str.ofString z), v] → Q (.ref u) H'
/-- _law_told(plan, modulus, table, thing) -/
def spLTold0 (K : PySem.W.Frag) (vs : List V) (H : Hp) (Q : VK) : Prop := ∃ (v th : V) (a : Addr) (op : Option Int) (kk : Bool) (xs : List V) (os : List (Option (List V))) (og : Option (List V)), vs = [.int 0, v, .ref a, th] ∧ PrV K H v op ∧ SqB kk K H a xs ∧ Paired (Thing K H) xs os ∧ Thing K H th og ∧ (∀ o ∈ os ++ [og], ∀ zs, o = some zs → zs.length ≤ 400) ∧ os.length ≤ 400 ∧
  (op = none → New2 K H Q "prime" v) ∧ (∀ p i u, op = some p → badRow p (os ++ [og]) = some i → (xs ++ [th])[i]? = some u → New2 K H Q "row" u) ∧
  (∀ p, op = some p → badRow p (os ++ [og]) = none → False)
def spLTold1 (K : PySem.W.Frag) (vs : List V) (H : Hp) (Q : VK) : Prop := ∃ (v : V) (a : Addr) (m : Int) (op : Option Int) (kk : Bool) (xs : List V) (os : List (Option (List V))), vs = [.int 1, v, .ref a, .int m] ∧ PrV K H v op ∧ SqB kk K H a xs ∧ Paired (Thing K H) xs os ∧ (∀ o ∈ os, ∀ zs, o = some zs → zs.length ≤ 400) ∧ os.length ≤ 400 ∧
  (op = none → New2 K H Q "prime" v) ∧ (∀ p i u, op = some p → badRow p os = some i → xs[i]? = some u → New2 K H Q "row" u) ∧
  (∀ p, op = some p → badRow p os = none → ¬ (1 ≤ m ∧ m ≤ 40 ∧ (os ≠ [] → (wOf os : Int) = m)) → New2 K H Q "count" (.int m)) ∧
  (∀ p rows, op = some p → badRow p os = none → (1 ≤ m ∧ m ≤ 40 ∧ (os ≠ [] → (wOf os : Int) = m)) → os = rows.map (fun r : List Int => some (r.map V.int)) → solL p m.toNat (blindE rows m.toNat) = none → New2 K H Q "told" .non) ∧
  (∀ p rows ns, op = some p → badRow p os = none → (1 ≤ m ∧ m ≤ 40 ∧ (os ≠ [] → (wOf os : Int) = m)) → os = rows.map (fun r : List Int => some (r.map V.int)) → solL p m.toNat (blindE rows m.toNat) = some ns → ∀ t u H', Same H H' → SqT K H' t (ns.map V.int) → SqL K H' u [.str (Str.ofString "told"), .ref t] → Q (.ref u) H')
def spLTold (K : PySem.W.Frag) : Sp := fun vs H Q _ => spLTold0 K vs H Q ∨ spLTold1 K vs H Q
theorem ok_law_told (T : Txt K mg) : FnOk P w K mg base CX0 6 T.f_law_told T.fd_law_told ["_law_plan", "_law_modulus", "_law_table1", "_law_thing"] (spLTold K) := by
  refine T.F_law_told.ok sc_law_told (fun vs H Q E h => ?_) (fun cdv A outer s H vs Q E hr h => ?_)
  · rcases h with ⟨v, th, a, op, kk, xs, os, og, rfl, _⟩ | ⟨v, a, m, op, kk, xs, os, rfl, _⟩ <;> rfl
  · obtain ⟨g, v, a, th, rfl⟩ : ∃ (g : Int) (v : V) (a : Addr) (th : V), vs = [.int g, v, .ref a, th] := by
      rcases h with ⟨v, th, a, op, kk, xs, os, og, rfl, _⟩ | ⟨v, a, m, op, kk, xs, os, rfl, _⟩ <;> exact ⟨_, _, _, _, rfl⟩
    refine ⟨_, (pss_one (ps_try_mix rfl rfl sc_law_told.nd takesNo (fun W pn xe tk _ => (pss_cons (ps_if (pt_cmpR op_eq (pv 0) pe_int (nomark _))
      (pss_one (ps_ret (pe_lstO (pa_cons pe_str (pa_cons (pe_callS (E := WE W) (ok_factors_for T) (hr.mono (by decide)) (by rfl) T.g_factors_for T.F_factors_for.kp T.b_factors_for (fun σ => passAt tk σ) (pa_cons (pv 1) (pa_cons (pv 2) (pa_cons (pv 3) pa_nil)))) pa_nil))))) pss_nil)
    (pss_one (ps_ret (pe_lstO (pa_cons pe_str (pa_cons (pe_callS (E := WE W) (ok_blind_row T) (hr.mono (by decide)) (by rfl) T.g_blind_row T.F_blind_row.kp T.b_blind_row (fun σ => passAt tk σ) (pa_cons (pv 1) (pa_cons (pv 2) (pa_cons (pv 3) pa_nil)))) pa_nil))))))) (HdsMix.cons ⟨rfl, by decide, .inl T.g_BadPrime⟩ (.yes (i := 4) rfl rfl)
      (fun a oe cls d pn hz hf => (pss_one (ps_ret (pe_lstO (pa_cons pe_str (pa_cons (pe_xf T.er_BadPrime.xf T.nf_BadPrime hz hf (pv 4)) pa_nil)))))) (HdsMix.cons ⟨rfl, by decide, .inl T.g_BadRow⟩ (.yes (i := 4) rfl rfl)
      (fun a oe cls d pn hz hf => (pss_one (ps_ret (pe_lstO (pa_cons pe_str (pa_cons (pe_xf T.er_BadRow.xf T.nf_BadRow hz hf (pv 4)) pa_nil)))))) (HdsMix.cons ⟨rfl, by decide, .inl T.g_BadCount⟩ (.yes (i := 4) rfl rfl)
      (fun a oe cls d pn hz hf => (pss_one (ps_ret (pe_lstO (pa_cons pe_str (pa_cons (pe_xf T.er_BadCount.xf T.nf_BadCount hz hf (pv 4)) pa_nil)))))) HdsMix.nil))))), ?_⟩
    generalize hW : wMix _ _ _ _ = W
    have fPrime : ∀ (v' : V) H1, Same H H1 → New2 K H Q "prime" v' → Flies (WE W (L2.start N_law_told [V.int g, v, V.ref a, th])) T.C_BadPrime "number" v' H1 := fun v' H1 s1 q dx H2 n2 s2 hdx => by
      subst hW
      refine ⟨true, T.ex_BadPrime_BadPrime, fun _ ea hea => ?_, fun z => nomatch z⟩
      refine ⟨.ref ea, rfl, rfl, rfl, dx, _, v', rfl, hdx, by rfl, ?_⟩
      walk_at "rd"
      exact ⟨by show 2 ≤ sizeLine; decide, fun p H3 n3 s3 hp => q p H3 ((s1.trans s2).trans s3) (SqL.of hp)⟩
    have fRow : ∀ (v' : V) H1, Same H H1 → New2 K H Q "row" v' → Flies (WE W (L2.start N_law_told [V.int g, v, V.ref a, th])) T.C_BadRow "value" v' H1 := fun v' H1 s1 q dx H2 n2 s2 hdx => by
      subst hW
      refine ⟨false, T.ex_BadRow_BadPrime, (fun z => nomatch z), fun _ => ⟨true, T.ex_BadRow_BadRow, fun _ ea hea => ?_, fun z => nomatch z⟩⟩
      refine ⟨.ref ea, rfl, rfl, rfl, dx, _, v', rfl, hdx, by rfl, ?_⟩
      walk_at "rd"
      exact ⟨by show 2 ≤ sizeLine; decide, fun p H3 n3 s3 hp => q p H3 ((s1.trans s2).trans s3) (SqL.of hp)⟩
    have fCount : ∀ (k : Int) H1, Same H H1 → New2 K H Q "count" (.int k) → Flies (WE W (L2.start N_law_told [V.int g, v, V.ref a, th])) T.C_BadCount "count" (.int k) H1 := fun k H1 s1 q dx H2 n2 s2 hdx => by
      subst hW
      refine ⟨false, T.ex_BadCount_BadPrime, (fun z => nomatch z), fun _ => ⟨false, T.ex_BadCount_BadRow, (fun z => nomatch z), fun _ => ⟨true, T.ex_BadCount_BadCount, fun _ ea hea => ?_, fun z => nomatch z⟩⟩⟩
      refine ⟨.ref ea, rfl, rfl, rfl, dx, _, .int k, rfl, hdx, by rfl, ?_⟩
      walk_at "rd"
      exact ⟨by show 2 ≤ sizeLine; decide, fun p H3 n3 s3 hp => q p H3 ((s1.trans s2).trans s3) (SqL.of hp)⟩
    clear hW
    rcases h with ⟨v', th', a', op, kk, xs, os, og, ev, hp, ha, hx, hg, hol, hos, qp, qr, qn⟩ | ⟨v', a', m, op, kk, xs, os, ev, hp, ha, hx, hol, hos, qp, qr, qw, qn, q⟩
    · obtain ⟨rfl, rfl, rfl, rfl⟩ : g = 0 ∧ v = v' ∧ a = a' ∧ th = th' := by
        injection ev with e1 ev
        injection ev with e2 ev
        injection ev with e3 ev
        injection ev with e4 ev
        injection e1 with e1
        injection e3 with e3
        exact ⟨e1, e2, e3, e4⟩
      walk_at "rd"
      exact ⟨fun e H' s' => fPrime v H' s' (qp e), fun p i u e hb hu H' s' => fRow u H' s' (qr p i u e hb hu), fun p rows gl e hb _ _ _ => (qn p e hb).elim, fun p rows gl ns e hb _ _ _ => (qn p e hb).elim⟩
    · obtain ⟨rfl, rfl, rfl, rfl⟩ : g = 1 ∧ v = v' ∧ a = a' ∧ th = .int m := by
        injection ev with e1 ev
        injection ev with e2 ev
        injection ev with e3 ev
        injection ev with e4 ev
        injection e1 with e1
        injection e3 with e3
        exact ⟨e1, e2, e3, e4⟩
      walk_at "rd"
      refine ⟨fun e H' s' => fPrime v H' s' (qp e), fun p i u e hb hu H' s' => fRow u H' s' (qr p i u e hb hu), fun p e hb hm H' s' => fCount m H' s' (qw p e hb hm), fun p rows e hb hm er hn H' s' => ?_, fun p rows ns e hb hm er hns t H' s' ht => ?_⟩
      · walk_at "rd"
        exact ⟨by show 2 ≤ sizeLine; decide, fun u H2 n2 s2 hu => qn p rows e hb hm er hn u H2 (s'.trans s2) (SqL.of hu)⟩
      · walk_at "rd"
        exact ⟨by show 2 ≤ sizeLine; decide, fun u H2 n2 s2 hu => q p rows ns e hb hm er hns t u H2 (s'.trans s2) (s2.tupT ht) (SqL.of hu)⟩
end
end P

set_option Elab.async false
set_option linter.all false
set_option maxRecDepth 100000
set_option maxHeartbeats 4000000
namespace P
open PySem PySem.Spec PyProof.Rows L2 OS
/-! short ways: "rd" opens a reading as far as equations go; "sep" finds what stands apart from the state; "sq" a list that is read; "nx" two heaps -/
local macro_rules | `(tactic| walk_at "sep") => `(tactic| first | assumption | (refine (by assumption : Nx _ _ _) _ _ ?_; walk_at "sep"))
local macro_rules | `(tactic| walk_at "sq") => `(tactic| first | assumption | exact .inl (.inl (by assumption)) | exact Sep.sq (by walk_at "sep") | exact Sep.st (by walk_at "sep") | exact .inl (.inl upd_same))
local macro_rules | `(tactic| walk_at "rd") => `(tactic| repeat (first
  | refine And.intro rfl ?_
  | apply Exists.intro
  | refine And.intro (by assumption) ?_
  | refine And.intro (DrawOk.mk (by omega) (by omega) (by omega)) ?_
  | refine And.intro at0 ?_
  | refine And.intro ⟨_, rfl⟩ ?_
  | refine And.intro (by walk_at "sq") ?_
  | refine And.intro (Or.inl (by walk_at "sq")) ?_
  | refine And.intro (Or.inr (by walk_at "sq")) ?_
  | refine And.intro (by omega) ?_))

section
variable {P : Program} {w : World} {K : PySem.W.Frag} {mg : Str → Option Value} {base : Heap}

/-! ### what the calls tell of rows that are right -/
def someR (rows : List (List Int)) : List (Option (List V)) := rows.map fun r : List Int => some (r.map V.int)
theorem badRow_good {p : Int} {n : Nat} {rows : List (List Int)} (h1 : 1 ≤ n) (h : ∀ r ∈ rows, RowOk p n r) : badRow p (someR rows) = none := List.findIdx?_eq_none_iff.mpr fun o ho => by
  obtain ⟨r, hr, rfl⟩ := List.mem_map.mp ho
  have hw : wOf (someR rows) = n := by
    cases rows with
    | nil => cases hr
    | cons r0 rr =>
      show (r0.map V.int).length = n
      rw [List.length_map, (h r0 (.head _)).len]
  rw [hw]
  have : goodR p n (some (r.map V.int)) = true := by
    unfold goodR
    rw [decide_eq_true h1, Bool.true_and]
    exact (h r hr).nums
  rw [this]
  rfl
theorem someR_app (rows : List (List Int)) (gl : List Int) : someR rows ++ [some (gl.map V.int)] = someR (rows ++ [gl]) := by
  unfold someR
  rw [List.map_append]
  rfl
theorem someR_inj {a b : List (List Int)} (h : someR a = someR b) : a = b := by
  have inj : ∀ x y : List Int, x.map V.int = y.map V.int → x = y := fun x => by
    induction x with
    | nil => intro y h; exact (List.map_eq_nil_iff.mp h.symm).symm
    | cons i x ih =>
      intro y h
      obtain ⟨j, t, rfl, hj, ht⟩ := List.map_eq_cons_iff.mp h.symm
      injection hj with hj
      rw [hj, ih t ht.symm]
  induction a generalizing b with
  | nil => exact (List.map_eq_nil_iff.mp h.symm).symm
  | cons r a ih =>
    obtain ⟨r', b', rfl, hr, hb⟩ := List.map_eq_cons_iff.mp h.symm
    rw [ih hb.symm, inj _ _ (Option.some.inj hr)]
theorem gl_inj {x y : List Int} (h : some (x.map V.int) = some (y.map V.int)) : x = y := by
  have := someR_inj (a := [x]) (b := [y]) (by unfold someR; rw [List.map_cons, List.map_cons, h])
  exact List.head_eq_of_cons_eq this
/-- what factors_for tells: None, or a new list -/
def FacV (H0 H : Hp) (v : V) (o : Option (List Int)) : Prop := (o = none ∧ v = .non) ∨ ∃ u ns, o = some ns ∧ v = .ref u ∧ H0 u = none ∧ H u = some (.lst (ns.map V.int))
/-- what blind_row tells: None, or a tuple -/
def BliV (K : PySem.W.Frag) (H : Hp) (v : V) (o : Option (List Int)) : Prop := (o = none ∧ v = .non) ∨ ∃ u ns, o = some ns ∧ v = .ref u ∧ SqT K H u (ns.map V.int)
theorem rowsV_things {H : Hp} {xs : List V} {rows : List (List Int)} (h : Paired (RowV K H) xs rows) : Paired (Thing K H) xs (someR rows) := by
  unfold someR
  exact paired_swap (paired_map (F := fun o v => Thing K H v o) (paired_swap (L2.Paired.mapP h fun _ _ z => z.thing)))
theorem facs_good (T : Txt K mg) {p : Int} {n : Nat} {a g : Addr} {kk : Bool} {xs : List V} {rows : List (List Int)} {gl : List Int} {H : Hp} {Q : VK} {E : XK} (hp : isPr (.int p) = true) (h1 : 1 ≤ n) (hn : n ≤ 400) (ha : SqB kk K H a xs) (hx : Paired (RowV K H) xs rows) (hr : ∀ r ∈ rows, RowOk p n r) (hl : rows.length ≤ 400)
    (hg : SqT K H g (gl.map V.int)) (hgr : RowOk p n gl) (q : ∀ v H', Same H H' → FacV H H' v (solL p rows.length (eqsL rows gl)) → Q v H') : spFactors T [.int p, .ref a, .ref g] H Q E := by
  have hall : ∀ r ∈ rows ++ [gl], RowOk p n r := fun r hr' => (List.mem_append.mp hr').elim (hr r) fun z => by rw [List.mem_singleton.mp z]; exact hgr
  have hb : badRow p (someR rows ++ [some (gl.map V.int)]) = none := by rw [someR_app]; exact badRow_good h1 hall
  refine ⟨.int p, .ref g, a, some p, kk, xs, someR rows, some (gl.map V.int), rfl, .ok p hp, ha, rowsV_things hx, RowV.thing ⟨g, rfl, hg⟩, fun o ho zs e => ?_, by unfold someR; rw [List.length_map]; exact hl, (fun z => nomatch z), fun p' i u e hb' _ => ?_, fun p' rows' gl' e _ er eg hn H' s' => ?_, fun p' rows' gl' ns e _ er eg hn u H' nu s' hu => ?_⟩
  · rw [someR_app] at ho
    obtain ⟨r, hr', rfl⟩ := List.mem_map.mp ho
    obtain rfl := Option.some.inj e
    rw [List.length_map, (hall r hr').len]
    exact hn
  · obtain rfl := Option.some.inj e
    rw [hb] at hb'
    cases hb'
  · obtain rfl := Option.some.inj e
    obtain rfl := someR_inj er
    obtain rfl := gl_inj eg
    exact q _ H' s' (.inl ⟨hn, rfl⟩)
  · obtain rfl := Option.some.inj e
    obtain rfl := someR_inj er
    obtain rfl := gl_inj eg
    exact q _ H' s' (.inr ⟨u, ns, hn, rfl, nu, hu⟩)
theorem blind_good (T : Txt K mg) {p : Int} {n : Nat} {a : Addr} {kk : Bool} {xs : List V} {rows : List (List Int)} {H : Hp} {Q : VK} {E : XK} (hp : isPr (.int p) = true) (h1 : 1 ≤ n) (hn : n ≤ 40) (ha : SqB kk K H a xs) (hx : Paired (RowV K H) xs rows) (hr : ∀ r ∈ rows, RowOk p n r) (hl : rows.length ≤ 400)
    (q : ∀ v H', Same H H' → BliV K H' v (solL p n (blindE rows n)) → Q v H') : spBlind T [.int p, .ref a, .int (n : Int)] H Q E := by
  have hb : badRow p (someR rows) = none := badRow_good h1 hr
  have hm : 1 ≤ (n : Int) ∧ (n : Int) ≤ 40 ∧ (someR rows ≠ [] → (wOf (someR rows) : Int) = n) := ⟨by omega, by omega, fun ne => by
    cases rows with
    | nil => exact absurd rfl ne
    | cons r0 rr =>
      show (((r0.map V.int).length : Nat) : Int) = n
      rw [List.length_map, (hr r0 (.head _)).len]⟩
  refine ⟨.int p, a, n, some p, kk, xs, someR rows, rfl, .ok p hp, ha, rowsV_things hx, fun o ho zs e => ?_, by unfold someR; rw [List.length_map]; exact hl, (fun z => nomatch z), fun p' i u e hb' _ => ?_, fun p' e _ hnm => (hnm hm).elim, fun p' rows' e _ _ er hn H' s' => ?_, fun p' rows' ns e _ _ er hn u H' s' hu => ?_⟩
  · obtain ⟨r, hr', rfl⟩ := List.mem_map.mp ho
    obtain rfl := Option.some.inj e
    rw [List.length_map, (hr r hr').len]
    omega
  · obtain rfl := Option.some.inj e
    rw [hb] at hb'
    cases hb'
  · obtain rfl := Option.some.inj e
    obtain rfl := someR_inj er
    exact q _ H' s' (.inl ⟨hn, rfl⟩)
  · obtain rfl := Option.some.inj e
    obtain rfl := someR_inj er
    exact q _ H' s' (.inr ⟨u, ns, hn, rfl, hu⟩)
/-- the rank is the same with the goal exactly if the goal is a sum of multiples -/
theorem right_rank {p : Int} {n : Nat} {rows : List (List Int)} {gl : List Int} (hp : isPr (.int p) = true) (hr : ∀ r ∈ rows, RowOk p n r) (hg : RowOk p n gl) : ((LA.cleared p n (rows ++ [gl])).length = (LA.cleared p n rows).length) ↔ LA.InS p n (rows.map LA.at_) (LA.at_ gl) := by
  have hpp := isPr_is hp
  have h1 := LA.cleared_rank (LA.prmT_of hpp) (n := n) (rows := rows) fun r h => (hr r h).la
  have h2 := LA.cleared_rank (LA.prmT_of hpp) (n := n) (rows := rows ++ [gl]) fun r h => (List.mem_append.mp h).elim (fun z => (hr r z).la) fun z => by rw [List.mem_singleton.mp z]; exact hg.la
  rw [List.map_append] at h2
  have := LA.rank_in (LA.prm_of hpp) h1 h2
  exact ⟨fun e => this.mp e.symm, fun e => (this.mpr e).symm⟩
theorem facs_in {p : Int} {n : Nat} {rows : List (List Int)} {gl : List Int} (hp : isPr (.int p) = true) (hr : ∀ r ∈ rows, RowOk p n r) (hg : RowOk p n gl) : (solL p rows.length (eqsL rows gl)).isSome = true ↔ LA.InS p n (rows.map LA.at_) (LA.at_ gl) :=
  LA.fac_in (LA.prm_of (isPr_is hp)) (by have := pr_le hp; omega) (fun r h => (hr r h).la) hg.la
theorem dotL_lin (j : Nat) : ∀ (ns : List Int) (rows : List (List Int)), dotL ns (rows.map fun r => LA.at_ r j) = LA.lin ns (rows.map LA.at_) j
  | [], rows => by
    rw [LA.lin_nil_left]
    rfl
  | i :: ns, [] => rfl
  | i :: ns, r :: rows => by
    have := dotL_lin j ns rows
    unfold dotL at this ⊢
    show i * LA.at_ r j + _ = i * LA.at_ r j + LA.lin ns (rows.map LA.at_) j
    rw [← this]
    rfl
/-- factors that are told make the goal -/
theorem facs_sum {p : Int} {n : Nat} {rows : List (List Int)} {gl ns : List Int} (hp : isPr (.int p) = true) (hr : ∀ r ∈ rows, RowOk p n r) (hg : RowOk p n gl) (h : solL p rows.length (eqsL rows gl) = some ns) : ns.length = rows.length ∧ (∀ i ∈ ns, 0 ≤ i ∧ i < p) ∧ combL p ns rows n = gl := by
  have hp2 := pr_le hp
  obtain ⟨h1, h2, h3⟩ := LA.fac_some (LA.prm_of (isPr_is hp)) (by omega) (fun r h => (hr r h).la) hg.la h
  refine ⟨h1, h2, List.ext_getElem (by unfold combL; rw [List.length_map, List.length_range, hg.len]) fun j hj hj2 => ?_⟩
  simp only [combL, List.getElem_map, List.getElem_range, dotL_lin]
  have hjn : j < n := by rw [← hg.len]; exact hj2
  have hz := h3 j hjn
  rw [LA.at_get hj2] at hz
  have hrg := hg.rng _ (List.getElem_mem hj2)
  have hm := LA.dvd_mod p (LA.lin ns (rows.map LA.at_) j)
  have h0 := LA.mod_rng (p := p) (by omega) (LA.lin ns (rows.map LA.at_) j)
  have hd := Int.dvd_add hm hz
  have hd2 : p ∣ LA.lin ns (rows.map LA.at_) j % p - gl[j] := LA.dvd_congr hd (by omega)
  by_cases c : LA.lin ns (rows.map LA.at_) j % p ≥ gl[j]
  · have := LA.dvd_zero hd2 (by omega) (by omega)
    omega
  · have := LA.dvd_zero (LA.dvd_congr (Int.dvd_neg.mpr hd2) (show _ = gl[j] - LA.lin ns (rows.map LA.at_) j % p by omega)) (by omega) (by omega)
    omega
theorem dotL_dotN : ∀ (r ns : List Int), r.length = ns.length → dotL r ns = LA.dotN (LA.at_ ns) (LA.at_ r) r.length
  | [], [], _ => rfl
  | [], _ :: _, h => nomatch h
  | _ :: _, [], h => nomatch h
  | i :: r, k :: ns, h => by
    have := dotL_dotN r ns (by simpa using h)
    rw [List.length_cons, LA.dotN_front]
    unfold dotL at this ⊢
    show i * k + _ = i * k + LA.dotN (LA.at_ ns) (LA.at_ r) r.length
    rw [← this]
    rfl
/-- a blind row that is told -/
theorem blind_ok {p : Int} {n : Nat} {rows : List (List Int)} (hp : isPr (.int p) = true) (h1 : 1 ≤ n) (hr : ∀ r ∈ rows, RowOk p n r) : ((solL p n (blindE rows n)).isNone = true ↔ LA.InS p n (rows.map LA.at_) (LA.at_ (goalL n))) ∧
    ∀ ns, solL p n (blindE rows n) = some ns → RowOk p n ns ∧ ns[0]? = some 1 ∧ ∀ r ∈ rows, dotL r ns % p = 0 := by
  have hp2 := pr_le hp
  have hP := LA.prm_of (isPr_is hp)
  have hla : ∀ r ∈ rows, LA.Row p n r := fun r h => (hr r h).la
  constructor
  · constructor
    · intro e
      exact LA.blind_none hP (by omega) h1 hla (Option.isNone_iff_eq_none.mp e)
    · intro e
      cases h : solL p n (blindE rows n) with
      | none => rfl
      | some ns => exact absurd e (LA.blind_some hP (by omega) h1 hla h).2.2.2.2
  · intro ns h
    obtain ⟨a, b, c, d, _⟩ := LA.blind_some hP (by omega) h1 hla h
    refine ⟨⟨a, b⟩, ?_, fun r hr' => ?_⟩
    · rw [List.getElem?_eq_getElem (by omega), ← LA.at_get (by omega), c]
    · rw [dotL_dotN r ns (by rw [(hr r hr').len, a]), (hr r hr').len]
      exact Int.emod_eq_zero_of_dvd (d r hr')
theorem neP_same {H : Hp} {x y : V} {d : PyData} {Q : VK} (hx : Dp K H x d) (hy : Dp K H y d) (hd : d.depth ≤ 60) (q : Q (.bl false) H) : rNeP K x y H Q := ⟨d, d, hx, hy, hd, by rw [SeqAt.eqv_refl_plain d (dp_plain d _ hx)]; exact q⟩
theorem dp_intsT {H : Hp} {b : Addr} {ns : List Int} (h : SqT K H b (ns.map V.int)) : Dp K H (.ref b) (.tuple (ns.map .int)) := .tup h (dp_all (fun z => .int z) ns)
theorem depth_ints : ∀ ns : List Int, PyData.depthAll (ns.map .int) = 0
  | [] => by simp [PyData.depthAll]
  | n :: ns => by
    simp only [List.map_cons, PyData.depthAll, PyData.depth, depth_ints ns]
    rfl
theorem tNil_i {σ : L2.St} {H : Hp} {Q : List V → Hp → Prop} (h : Q [] H) : tNil σ H Q := h
theorem dec_nat (a b : Nat) : decide (V.int (a : Int) = V.int (b : Int)) = decide (a = b) := by
  rw [Bool.eq_iff_iff, decide_eq_true_iff, decide_eq_true_iff]
  constructor
  · intro z
    injection z with z
    omega
  · rintro rfl
    rfl
theorem dec_bl (a b : Bool) : decide (V.bl a = V.bl b) = (a == b) := by
  cases a <;> cases b <;> rfl
def facD : Option (List Int) → PyData | none => .none | some ns => .list (ns.map .int)
theorem FacV.same {H0 H H' : Hp} {v : V} {o : Option (List Int)} (h : FacV H0 H v o) (s : Same H H') : FacV H0 H' v o := h.imp id fun ⟨u, ns, e, e2, n, q⟩ => ⟨u, ns, e, e2, n, s _ _ q⟩
theorem FacV.dp {H0 H : Hp} {v : V} {o : Option (List Int)} (h : FacV H0 H v o) : Dp K H v (facD o) := by
  rcases h with ⟨rfl, rfl⟩ | ⟨u, ns, rfl, rfl, _, q⟩
  · exact .non
  · exact .lst (SqL.of q) (dp_all (fun z => .int z) ns)
def bliD : Option (List Int) → PyData | none => .none | some ns => .tuple (ns.map .int)
theorem BliV.same {H H' : Hp} {v : V} {o : Option (List Int)} (h : BliV K H v o) (s : Same H H') : BliV K H' v o := h.imp id fun ⟨u, ns, e, e2, q⟩ => ⟨u, ns, e, e2, s.tupT q⟩
theorem BliV.dp {H : Hp} {v : V} {o : Option (List Int)} (h : BliV K H v o) : Dp K H v (bliD o) := by
  rcases h with ⟨rfl, rfl⟩ | ⟨u, ns, rfl, rfl, q⟩
  · exact .non
  · exact .tup q (dp_all (fun z => .int z) ns)
theorem dints : ∀ ns : List Int, PyData.depthAll (ns.map .int) = 0
  | [] => by simp [PyData.depthAll]
  | n :: ns => by
    simp only [List.map_cons, PyData.depthAll, PyData.depth, dints ns]
    rfl
theorem facD_depth (o : Option (List Int)) : (facD o).depth ≤ 60 := by
  cases o with
  | none => simp [facD, PyData.depth]
  | some ns => simp [facD, PyData.depth, dints]
theorem bliD_depth (o : Option (List Int)) : (bliD o).depth ≤ 60 := by
  cases o with
  | none => simp [bliD, PyData.depth]
  | some ns => simp [bliD, PyData.depth, dints]
def rowD (r : List Int) : PyData := .tuple (r.map .int)
theorem dp_rows {H : Hp} : ∀ {xs : List V} {rows : List (List Int)}, Paired (RowV K H) xs rows → DpAll K H xs (rows.map rowD)
  | [], [], _ => .nil
  | [], _ :: _, h => nomatch h
  | _ :: _, [], h => nomatch h
  | x :: xs, r :: rows, .cons h t => by
    obtain ⟨b, rfl, hb⟩ := h
    exact .cons (dp_intsT hb) (dp_rows t)
theorem depth_rows : ∀ rows : List (List Int), PyData.depthAll (rows.map rowD) ≤ 1
  | [] => by simp [PyData.depthAll]
  | r :: rows => by
    have := depth_rows rows
    simp only [List.map_cons, PyData.depthAll]
    unfold rowD
    simp only [PyData.depth, depth_ints]
    unfold rowD at this
    omega
end
end P

set_option Elab.async false
set_option linter.all false
set_option maxRecDepth 100000
set_option maxHeartbeats 4000000
namespace P
open PySem PySem.Spec PyProof.Rows L2 OS
/-! short ways: "rd" opens a reading as far as equations go; "sep" finds what stands apart from the state; "sq" a list that is read; "nx" two heaps -/
local macro_rules | `(tactic| walk_at "sep") => `(tactic| first | assumption | (refine (by assumption : Nx _ _ _) _ _ ?_; walk_at "sep"))
local macro_rules | `(tactic| walk_at "sq") => `(tactic| first | assumption | exact .inl (.inl (by assumption)) | exact Sep.sq (by walk_at "sep") | exact Sep.st (by walk_at "sep") | exact .inl (.inl upd_same))
local macro_rules | `(tactic| walk_at "rd") => `(tactic| repeat (first
  | refine And.intro rfl ?_
  | apply Exists.intro
  | refine And.intro (by assumption) ?_
  | refine And.intro (DrawOk.mk (by omega) (by omega) (by omega)) ?_
  | refine And.intro at0 ?_
  | refine And.intro ⟨_, rfl⟩ ?_
  | refine And.intro (by walk_at "sq") ?_
  | refine And.intro (Or.inl (by walk_at "sq")) ?_
  | refine And.intro (Or.inr (by walk_at "sq")) ?_
  | refine And.intro (by omega) ?_))

section
variable {P : Program} {w : World} {K : PySem.W.Frag} {mg : Str → Option Value} {base : Heap}

/-- _law_right(modulus, table, aim, span) -/
def spLRight (K : PySem.W.Frag) : Sp := fun vs H Q _ => ∃ (p : Int) (n : Nat) (ta g : Addr) (xs : List V) (rows : List (List Int)) (gl : List Int), vs = [.int p, .ref ta, .ref g, .int (n : Int)] ∧ isPr (.int p) = true ∧ H ta = some (.lst xs) ∧ Paired (RowV K H) xs rows ∧ (∀ r ∈ rows, RowOk p n r) ∧ SqT K H g (gl.map V.int) ∧ RowOk p n gl ∧ 1 ≤ n ∧ n ≤ 40 ∧ rows.length ≤ 300 ∧
  ∀ H', Same H H' → Q (.bl true) H'
theorem ok_law_right (T : Txt K mg) : FnOk P w K mg base CX0 6 T.f_law_right T.fd_law_right ["_law_modulus", "_law_table1", "_law_aim1", "_law_span1"] (spLRight K) := by
  refine T.F_law_right.ok sc_law_right (fun vs H Q E h => ?_) (fun cdv A outer s H vs Q E hr h => ?_)
  · obtain ⟨p, n, ta, g, xs, rows, gl, rfl, _⟩ := h
    rfl
  · obtain ⟨p, n, ta, g, xs, rows, gl, rfl, hp, hta, hx, hro, hg, hgl, h1, hn, hrl, q⟩ := h
    have hu65 := room65 hr
    refine ⟨_, (pss_cons (ps_set (i := 4) sc_law_right.nd rfl (Or.inl rfl) (pe_callTy (T := "list") (r := rListS K) call_listS (by rfl) T.n_list (by decide +kernel) (pa_cons (pv 1) pa_nil)))
    (pss_cons (ps_set (i := 5) sc_law_right.nd rfl (Or.inl rfl) (pe_call (ok_factors_for T) (hr.mono (by decide)) (by rfl) T.g_factors_for T.F_factors_for.kp T.b_factors_for .nil pass0x (pa_cons (pv 0) (pa_cons (pv 4) (pa_cons (pv 2) pa_nil)))))
    (pss_cons (ps_if (pt_cmpR (r := rNeP K) (op_neP (room65 hr)) (pv 4) (pv 1) (nomark _))
      (pss_one (ps_ret pe_bl)) pss_nil)
    (pss_cons (ps_set (i := 6) sc_law_right.nd rfl (Or.inl rfl) (pe_cmpR op_eq (pe_call (ok_law_rank T) (hr.mono (by decide)) (by rfl) T.g_law_rank T.F_law_rank.kp T.b_law_rank .nil pass0 (pa_cons (pv 0) (pa_cons (pe_op op_catO (pv 1) (pe_lstO (pa_cons (pv 2) pa_nil))) (pa_cons (pv 3) pa_nil)))) (pe_call (ok_law_rank T) (hr.mono (by decide)) (by rfl) T.g_law_rank T.F_law_rank.kp T.b_law_rank .nil pass0 (pa_cons (pv 0) (pa_cons (pv 1) (pa_cons (pv 3) pa_nil)))) (nomark _)))
    (pss_cons (ps_if (PW.pt (pw_or (pt_cmpR op_ne (pe_cmpR op_notN (pv 5) pe_non (nomark _)) (pv 6) (nomark _)) (pw_or1 (pt_cmpR (r := rNeP K) (op_neP (room65 hr)) (pe_callK0 (ok_factors_for T) (hr.mono (by decide)) (by rfl) T.g_factors_for T.F_factors_for.kp T.kb_factors_for_goal_prime_rows pass0x (pk_cons (pv 2) (pk_cons (pv 0) (pk_cons (pe_callTy (T := "tuple") (r := rTupL K) call_tupL (by rfl) T.n_tuple (by decide +kernel) (pa_cons (pv 1) pa_nil)) pk_nil)))) (pv 5) (nomark _)))))
      (pss_one (ps_ret pe_bl)) pss_nil)
    (pss_stop (ps_if (pt_cmpR op_notN (pv 5) pe_non (nomark _))
      (pss_cons (ps_if (PW.pt (pw_or (pt_not (pt_val (pe_callB (id := "isinstance") (r := rIsi K) call_isi (by rfl) T.n_isinstance (by decide +kernel) (pa_cons (pv 5) (pa_cons (pe_bltn (v := .ty "list") (u := .type "list") (by rfl) T.n_list (by decide +kernel) rfl) pa_nil))))) (pw_or (pt_cmpR op_ne (pe_callB (id := "len") (r := rLenS K) call_lenS (by rfl) T.n_len PySem.boot_len (pa_cons (pv 5) pa_nil)) (pe_callB (id := "len") (r := rLenS K) call_lenS (by rfl) T.n_len PySem.boot_len (pa_cons (pv 1) pa_nil)) (nomark _)) (pw_or1 (pt_cmpR (r := rNeP K) (op_neP (room65 hr)) (pe_call (ok_law_sum T) (hr.mono (by decide)) (by rfl) T.g_law_sum T.F_law_sum.kp T.b_law_sum .nil pass0 (pa_cons (pv 0) (pa_cons (pv 5) (pa_cons (pv 1) (pa_cons (pv 3) pa_nil))))) (pv 2) (nomark _))))))
      (pss_one (ps_ret pe_bl)) pss_nil)
    (pss_cons (ps_if (pt_cmpR (r := rNeNil K) (op_neNil (room65 hr)) (pe_lc (own := [("_law_item", 7)]) (g := gName 7) rfl sc_law_right.nd (pi_list (pv 5)) (blkOk_by (own := [("_law_item", 7)]) (N := N_law_right) (sc := defScope s_law_right) (by decide +kernel)) (fun _ _ _ _ _ => (pg_name (i := 7) sc_law_right.nd rfl (Or.inl rfl))) (fun _ _ _ _ _ => (pts_one (PW.pt (pw_or (pt_val (pe_callB (id := "isinstance") (r := rIsi K) call_isi (by rfl) T.n_isinstance (by decide +kernel) (pa_cons (pv 7) (pa_cons (pe_bltn (v := .ty "bool") (u := .type "bool") (by rfl) T.n_bool (by decide +kernel) rfl) pa_nil)))) (pw_or1 (pt_not (pt_chain op_le op_lt pe_int (pv 7) (pv 0)))))))) (fun _ _ _ _ _ => (pv 7))) (pe_lstO pa_nil) (nomark _))
      (pss_one (ps_ret pe_bl)) pss_nil)
    (pss_one (ps_expr (pe_bm PySem.F.plainAttrs_list PySem.F.slot_list_append PySem.F.type_list_append mt_append (pv 5) (pa_cons pe_int pa_nil)))))) pss_nil)
    (pss_cons (ps_set (i := 8) sc_law_right.nd rfl (Or.inl rfl) (pe_callTy (T := "tuple") (r := rTupL K) call_tupL (by rfl) T.n_tuple (by decide +kernel) (pa_cons (pe_op op_catO (pe_lstO (pa_cons pe_int pa_nil)) (pe_op op_mulL (pe_lstO (pa_cons pe_int pa_nil)) (pe_op op_sub (pv 3) pe_int))) pa_nil)))
    (pss_cons (ps_set (i := 9) sc_law_right.nd rfl (Or.inr rfl) (pe_call (ok_blind_row T) (hr.mono (by decide)) (by rfl) T.g_blind_row T.F_blind_row.kp T.b_blind_row .nil pass0x (pa_cons (pv 0) (pa_cons (pv 4) (pa_cons (pv 3) pa_nil)))))
    (pss_cons (ps_if (pt_cmpR (r := rNeP K) (op_neP (room65 hr)) (pv 4) (pv 1) (nomark _))
      (pss_one (ps_ret pe_bl)) pss_nil)
    (pss_cons (ps_if (pt_cmpR op_ne (pe_cmpR op_isN (pv 9) pe_non (nomark _)) (pe_cmpR op_notN (pe_call (ok_factors_for T) (hr.mono (by decide)) (by rfl) T.g_factors_for T.F_factors_for.kp T.b_factors_for .nil pass0x (pa_cons (pv 0) (pa_cons (pv 1) (pa_cons (pv 8) pa_nil)))) pe_non (nomark _)) (nomark _))
      (pss_one (ps_ret pe_bl)) pss_nil)
    (pss_cons (ps_if (pt_cmpR op_ne (pe_cmpR op_isN (pv 9) pe_non (nomark _)) (pe_cmpR op_eq (pe_call (ok_law_rank T) (hr.mono (by decide)) (by rfl) T.g_law_rank T.F_law_rank.kp T.b_law_rank .nil pass0 (pa_cons (pv 0) (pa_cons (pe_op op_catO (pv 1) (pe_lstO (pa_cons (pv 8) pa_nil))) (pa_cons (pv 3) pa_nil)))) (pe_call (ok_law_rank T) (hr.mono (by decide)) (by rfl) T.g_law_rank T.F_law_rank.kp T.b_law_rank .nil pass0 (pa_cons (pv 0) (pa_cons (pv 1) (pa_cons (pv 3) pa_nil)))) (nomark _)) (nomark _))
      (pss_one (ps_ret pe_bl)) pss_nil)
    (pss_cons (ps_if (pt_cmpR op_isN (pv 9) pe_non (nomark _))
      (pss_one (ps_ret (pe_cmpR op_isN (pe_callK0 (ok_blind_row T) (hr.mono (by decide)) (by rfl) T.g_blind_row T.F_blind_row.kp T.kb_blind_row_width_rows_prime pass0x (pk_cons (pv 3) (pk_cons (pv 1) (pk_cons (pv 0) pk_nil)))) pe_non (nomark _)))) pss_nil)
    (pss_cons (ps_if (PW.pt (pw_or (pt_not (pt_val (pe_callB (id := "isinstance") (r := rIsi K) call_isi (by rfl) T.n_isinstance (by decide +kernel) (pa_cons (pv 9) (pa_cons (pe_bltn (v := .ty "tuple") (u := .type "tuple") (by rfl) T.n_tuple (by decide +kernel) rfl) pa_nil))))) (pw_or (pt_cmpR op_ne (pe_callB (id := "len") (r := rLenS K) call_lenS (by rfl) T.n_len PySem.boot_len (pa_cons (pv 9) pa_nil)) (pv 3) (nomark _)) (pw_or1 (pt_cmpR op_ne (pe_ix (r := rIxT K) ix_tup (pv 9) pe_int (fun _ _ => rfl)) pe_int (nomark _))))))
      (pss_one (ps_ret pe_bl)) pss_nil)
    (pss_cons (ps_if (pt_cmpR (r := rNeP K) (op_neP (room65 hr)) (pe_call (ok_blind_row T) (hr.mono (by decide)) (by rfl) T.g_blind_row T.F_blind_row.kp T.b_blind_row .nil pass0x (pa_cons (pv 0) (pa_cons (pe_callTy (T := "tuple") (r := rTupL K) call_tupL (by rfl) T.n_tuple (by decide +kernel) (pa_cons (pv 1) pa_nil)) (pa_cons (pv 3) pa_nil)))) (pv 9) (nomark _))
      (pss_one (ps_ret pe_bl)) pss_nil)
    (pss_cons (ps_if (pt_cmpR (r := rNeNil K) (op_neNil (room65 hr)) (pe_lc (own := [("_law_item", 7)]) (g := gName 7) rfl sc_law_right.nd (pi_tup (pv 9)) (blkOk_by (own := [("_law_item", 7)]) (N := N_law_right) (sc := defScope s_law_right) (by decide +kernel)) (fun _ _ _ _ _ => (pg_name (i := 7) sc_law_right.nd rfl (Or.inl rfl))) (fun _ _ _ _ _ => (pts_one (PW.pt (pw_or (pt_val (pe_callB (id := "isinstance") (r := rIsi K) call_isi (by rfl) T.n_isinstance (by decide +kernel) (pa_cons (pv 7) (pa_cons (pe_bltn (v := .ty "bool") (u := .type "bool") (by rfl) T.n_bool (by decide +kernel) rfl) pa_nil)))) (pw_or1 (pt_not (pt_chain op_le op_lt pe_int (pv 7) (pv 0)))))))) (fun _ _ _ _ _ => (pv 7))) (pe_lstO pa_nil) (nomark _))
      (pss_one (ps_ret pe_bl)) pss_nil)
    (pss_one (ps_ret (pe_cmpR (r := rEqNil K) (op_eqNil (room65 hr)) (pe_lc (own := [("_law_row", 10)]) (g := gName 10) rfl sc_law_right.nd (pi_list (pv 1)) (blkOk_by (own := [("_law_row", 10)]) (N := N_law_right) (sc := defScope s_law_right) (by decide +kernel)) (fun _ _ _ _ _ => (pg_name (i := 10) sc_law_right.nd rfl (Or.inl rfl))) (fun _ _ _ _ _ => (pts_one (pt_cmpR op_ne (pe_call (ok_law_product T) (hr.mono (by decide)) (by rfl) T.g_law_product T.F_law_product.kp T.b_law_product .nil pass0 (pa_cons (pv 0) (pa_cons (pv 10) (pa_cons (pv 9) pa_nil)))) pe_int (nomark _)))) (fun _ _ _ _ _ => (pv 10))) (pe_lstO pa_nil) (nomark _))))))))))))))))))), ?_⟩
    have hp2 := pr_le hp
    have hxl := paired_len hx
    have htq : SqL K H ta xs := SqL.of hta
    have fin := facs_in hp hro hgl
    have rin := right_rank hp hro hgl
    have fsum := fun ns => facs_sum (ns := ns) hp hro hgl
    have hbl := blind_ok hp h1 hro
    have hrowB : ∀ {H' : Hp}, Same H H' → Paired (RowB K H') xs rows := fun s => L2.Paired.mapP hx fun _ _ z => (z.same s).toB
    have hla : ∀ r ∈ rows, LA.Row p n r := fun r h => (hro r h).la
    walk_at "rd"
    intro p1 H1 n1 s1 hp1
    have hp1q : SqB false K H1 p1 xs := SqL.of hp1
    have hx1 : Paired (RowV K H1) xs rows := L2.Paired.mapP hx fun _ _ z => z.same s1
    have hg1 := s1.tupT hg
    refine ⟨.int p, rfl, .ref p1, rfl, .ref g, rfl, ?_⟩
    refine tNil_i ?_
    refine facs_good T hp h1 (by omega) hp1q hx1 hro (by omega) hg1 hgl fun v2 H2 s2 hv2 => ?_
    have s02 := s1.trans s2
    have hp1q2 : SqL K H2 p1 xs := SqL.of (s2 _ _ hp1)
    have htq2 : SqL K H2 ta xs := s02.seq htq
    have hx2 : Paired (RowV K H2) xs rows := L2.Paired.mapP hx fun _ _ z => z.same s02
    have dR2 := dp_rows hx2
    have dep : (PyData.list (rows.map rowD)).depth ≤ 60 := by
      have := depth_rows rows
      simp only [PyData.depth]
      omega
    refine ⟨.ref p1, rfl, .ref ta, rfl, neP_same (.lst hp1q2 dR2) (.lst htq2 dR2) dep ?_⟩
    refine ⟨false, rfl, iteF ?_⟩
    have hta2 : H2 ta = some (.lst xs) := s02 _ _ hta
    have hg2 := s02.tupT hg
    refine ⟨.int p, rfl, .ref ta, rfl, .ref g, rfl, show 1 ≤ sizeLine by decide, fun l3 H3 n3 s3 h3 => ?_⟩
    refine ⟨ta, l3, xs, _, rfl, rfl, s3 _ _ hta2, h3, ?_, fun l4 H4 n4 s4 h4 => ?_⟩
    · simp
      exact Nat.le_trans (show xs.length + 1 ≤ 1001 by omega) (by decide)
    have s04 := (s02.trans s3).trans s4
    have hB4 : Paired (RowB K H4) (xs ++ [.ref g]) (rows ++ [gl]) := OS.paired_app (hrowB s04) (.cons ⟨true, g, rfl, s04.tupT hg⟩ .nil)
    have hla4 : ∀ r ∈ rows ++ [gl], LA.Row p n r := fun r h => (List.mem_append.mp h).elim (hla r) fun z => by rw [List.mem_singleton.mp z]; exact hgl.la
    have hl4q : SqL K H4 l4 (xs ++ [.ref g]) := SqL.of h4
    have hn1k : n ≤ 1000 := by omega
    have hl4 : (rows ++ [gl]).length ≤ 500 := by simp; omega
    walk_at "rd"
    intro H5 s5
    have s05 := s04.trans s5
    have hB5 := hrowB s05
    have htq5 : SqL K H5 ta xs := s05.seq htq
    have hrl5 : rows.length ≤ 500 := by omega
    walk_at "rd"
    intro H6 s6
    walk_at "rd"
    have s06 := s05.trans s6
    have s26 : Same H2 H6 := ((s3.trans s4).trans s5).trans s6
    have hsm : (solL p rows.length (eqsL rows gl)).isSome = decide ((LA.cleared p n (rows ++ [gl])).length = (LA.cleared p n rows).length) := by
      rw [Bool.eq_iff_iff, decide_eq_true_iff]
      exact fin.trans rin.symm
    have hnon : decide (v2 = V.non) = !(solL p rows.length (eqsL rows gl)).isSome := by
      rcases hv2 with ⟨e1, e2⟩ | ⟨u, ns, e1, e2, _⟩
      · rw [e1, e2]
        rfl
      · rw [e1, e2]
        rfl
    refine ite2 (fun e => ?_) (fun e => ?_)
    · exfalso
      rw [hnon, dec_nat, dec_bl, Bool.not_not, hsm] at e
      simp at e
    have htq6 : SqL K H6 ta xs := s06.seq htq
    refine ⟨.ref g, rfl, .int p, rfl, .ref ta, rfl, ⟨ta, xs, rfl, htq6, fun t H7 n7 s7 ht7 => ?_⟩⟩
    have s07 := s06.trans s7
    refine tNil_i ?_
    refine facs_good (kk := true) T hp h1 (by omega) (SqT.of ht7) (L2.Paired.mapP hx fun _ _ z => z.same s07) hro (by omega) (s07.tupT hg) hgl fun v8 H8 s8 hv8 => ?_
    have s28 := (s26.trans s7).trans s8
    refine ⟨v2, rfl, neP_same hv8.dp (hv2.same s28).dp (facD_depth _) ?_⟩
    refine ⟨false, rfl, iteF ?_⟩
    walk_at "rd"
    have s18 := s2.trans s28
    have e68 : decide (V.int ((LA.cleared p n (rows ++ [gl])).length : Int) = V.int ((LA.cleared p n rows).length : Int)) = decide ((LA.cleared p n (rows ++ [gl])).length = (LA.cleared p n rows).length) := dec_nat _ _
    refine Stop.cut (fun σ H' => ∃ (b6 : Bool) (y7 : Option V), σ = [some (.int p), some (.ref ta), some (.ref g), some (.int (n : Int)), some (.ref p1), some v2, some (.bl b6), y7, none, none, none] ∧ Same H1 H') (fun Qz hz => ?_) ?_
    · walk_at "rd"
      refine ite2 (fun e2 => ?_) (fun e2 => ?_)
      · rcases hv2 with ⟨eo, e2'⟩ | ⟨u, ns, eo, rfl, hun, hu2⟩
        · rw [e2'] at e2
          simp at e2
        obtain ⟨hnl, hnr, hsum⟩ := fsum ns eo
        have hu8 : H8 u = some (.lst (ns.map V.int)) := s28 _ _ hu2
        have hu8q : SqL K H8 u (ns.map V.int) := SqL.of hu8
        have s08 := s1.trans s18
        have htq8 : SqL K H8 ta xs := s08.seq htq
        have hx8 : Paired (RowV K H8) xs rows := L2.Paired.mapP hx fun _ _ z => z.same s08
        have hg8 := s08.tupT hg
        walk_at "rd"
        refine ⟨.ty _, ty_list hu8q, (by rfl : PySem.W.kitOne K _ (.type "list") = some true), ?_⟩
        walk_at "rd"
        refine ite2 (fun e4 => ?_) (fun e4 => ?_)
        · exfalso
          rw [List.length_map, hnl, hxl] at e4
          simp at e4
        have hn1k2 : n ≤ 1000 := by omega
        have hrl52 : rows.length ≤ 500 := by omega
        walk_at "rd"
        intro t10 H10 s10 ht10
        rw [hsum] at ht10
        refine ⟨.ref g, rfl, neP_same (dp_intsT ht10) (dp_intsT (s10.tupT hg8)) (by simp [PyData.depth, dints]) ?_⟩
        refine ⟨false, rfl, iteF ?_⟩
        walk_at "rd"
        have hu10q : SqL K H10 u (ns.map V.int) := s10.seq hu8q
        refine ⟨⟨_, hu10q⟩, fun D hD => ?_⟩
        refine lc_fn (walk_list (xs := ns.map V.int)) (xs := ns) (by simp) (by rw [List.length_map]; omega) (fun _ => false) V.int hD (fun H s => s.seq hu10q) ?_ ?_
        · intro i z x H11 H12 Qk Qn hz2 sm hy hk hnn
          obtain ⟨rfl, hx2⟩ := hy
          rw [List.getElem?_map, hz2] at hx2
          obtain rfl := Option.some.inj hx2
          have hzr := hnr z (List.mem_of_getElem? hz2)
          obtain ⟨tt, ht, _, hb2⟩ := num_int (K := K) (H := H12) (i := z)
          walk_at "rd"
          refine ⟨.ty _, ht, hb2, ?_⟩
          walk_at "rd"
          refine ite2 (fun e5 => ?_) (fun e5 => absurd (decide_eq_true hzr.1) e5)
          walk_at "rd"
          refine ite2 (fun e6 => ?_) (fun e6 => hnn rfl _ (Same.refl _))
          rw [decide_eq_true hzr.2] at e6
          exact absurd e6 (by decide)
        · intro H11 s11 hD11
          have hD11' : H11 D = some (.lst []) := by
            rw [hD11]
            simp
          refine ⟨by decide, fun e12 H12 n12 s12 he12 => ?_⟩
          refine ⟨D, e12, [], rfl, rfl, SqL.of (s12 _ _ hD11'), SqL.of he12, ?_⟩
          refine ⟨false, rfl, iteF ?_⟩
          have s82 := (s10.trans s11).trans s12
          have hu12 : H12 u = some (.lst (ns.map V.int)) := s82 _ _ hu8
          refine ⟨.ref u, rfl, .inl ⟨rfl, _, SqL.of hu12⟩, ?_⟩
          have hal : (ns.map V.int).length < sizeLine := small1e5 (by rw [List.length_map]; omega)
          refine ⟨u, ns.map V.int, .int 0, rfl, rfl, hu12, hal, ?_⟩
          exact hz _ _ ⟨_, _, rfl, same_put (s18.trans s82) hun⟩
      · exact hz _ _ ⟨_, _, rfl, s18⟩
    · rintro _ H9 ⟨b6, y7, rfl, s19⟩
      refine ⟨by decide, fun a9 H10 n10 s10 ha9 => ?_⟩
      refine ⟨by decide, fun b9 H11 n11 s11 hb9 => ?_⟩
      refine ⟨.int (n : Int), rfl, (n : Int), 1, rfl, rfl, b9, (n : Int) - 1, [.int 0], rfl, rfl, hb9, by omega, by omega, ?_, fun c9 H12 n12 s12 hc9 => ?_⟩
      · simp
        exact Nat.le_trans (show n ≤ 1000 by omega) (by decide)
      rw [flat_reps, show ((n : Int) - 1).toNat = n - 1 by omega] at hc9
      refine ⟨a9, c9, [.int 1], _, rfl, rfl, (s11.trans s12) _ _ ha9, hc9, ?_, fun d9 H13 n13 s13 hd9 => ?_⟩
      · simp
        exact Nat.le_trans (show 1 + (n - 1) ≤ 1000 by omega) (by decide)
      refine tNil_i ⟨d9, _, rfl, SqL.of hd9, fun f9 H14 n14 s14 hf9 => ?_⟩
      have hgoal : SqT K H14 f9 ((goalL n).map V.int) := by
        have e : [V.int 1] ++ List.replicate (n - 1) (V.int 0) = (goalL n).map V.int := by
          unfold goalL
          rw [List.map_cons, List.map_replicate]
          rfl
        rw [← e]
        exact SqT.of hf9
      have s1e : Same H1 H14 := ((((s19.trans s10).trans s11).trans s12).trans s13).trans s14
      have s0e : Same H H14 := s1.trans s1e
      refine ⟨.int p, rfl, .ref p1, rfl, .int (n : Int), rfl, ?_⟩
      refine tNil_i ?_
      refine blind_good (kk := false) T hp h1 hn (SqL.of (s1e _ _ hp1)) (L2.Paired.mapP hx fun _ _ z => z.same s0e) hro (by omega) fun v15 H15 s15 hv15 => ?_
      have s1f := s1e.trans s15
      have s0f := s0e.trans s15
      have dR15 := dp_rows (L2.Paired.mapP hx fun _ _ z => z.same s0f : Paired (RowV K H15) xs rows)
      refine ⟨.ref p1, rfl, .ref ta, rfl, neP_same (.lst (SqL.of (s1f _ _ hp1)) dR15) (.lst (s0f.seq htq) dR15) dep ?_⟩
      refine ⟨false, rfl, iteF ?_⟩
      have hgq := s0f.tupT hg
      have hf15 : SqT K H15 f9 ((goalL n).map V.int) := s15.tupT hgoal
      have hgr : RowOk p n (goalL n) := ⟨goalL_len h1, (LA.goal1_row (by omega) h1).rng⟩
      have fin1 := facs_in hp hro hgr
      have rin1 := right_rank hp hro hgr
      refine ⟨v15, rfl, rfl, ?_⟩
      refine ⟨.int p, rfl, .ref ta, rfl, .ref f9, rfl, ?_⟩
      refine tNil_i ?_
      refine facs_good (kk := false) T hp h1 (by omega) (s0f.seq htq) (L2.Paired.mapP hx fun _ _ z => z.same s0f) hro (by omega) hf15 hgr fun v16 H16 s16 hv16 => ?_
      refine ⟨rfl, ?_⟩
      walk_at "rd"
      have s0g := s0f.trans s16
      have b15 : decide (v15 = V.non) = (solL p n (blindE rows n)).isNone := by
        rcases hv15 with ⟨e1, e2⟩ | ⟨u, ns, e1, e2, _⟩ <;> rw [e1, e2] <;> rfl
      have b16 : decide (v16 = V.non) = !(solL p rows.length (eqsL rows (goalL n))).isSome := by
        rcases hv16 with ⟨e1, e2⟩ | ⟨u, ns, e1, e2, _⟩ <;> rw [e1, e2] <;> rfl
      have h1516 : (solL p n (blindE rows n)).isNone = (solL p rows.length (eqsL rows (goalL n))).isSome := by
        rw [Bool.eq_iff_iff]
        exact hbl.1.trans fin1.symm
      have h15r : (solL p n (blindE rows n)).isNone = decide ((LA.cleared p n (rows ++ [goalL n])).length = (LA.cleared p n rows).length) := by
        rw [Bool.eq_iff_iff, decide_eq_true_iff]
        exact hbl.1.trans rin1.symm
      refine ite2 (fun e => ?_) (fun e => ?_)
      · exfalso
        rw [b15, b16, dec_bl, Bool.not_not, h1516] at e
        simp at e
      refine ⟨v15, rfl, rfl, ?_⟩
      refine ⟨.int p, rfl, .ref ta, rfl, .ref f9, rfl, show 1 ≤ sizeLine by decide, fun l17 H17 n17 s17 h17 => ?_⟩
      refine ⟨ta, l17, xs, _, rfl, rfl, (s0g.trans s17) _ _ hta, h17, ?_, fun l18 H18 n18 s18' h18 => ?_⟩
      · simp
        exact Nat.le_trans (show xs.length + 1 ≤ 1001 by omega) (by decide)
      have s0h := (s0g.trans s17).trans s18'
      have hf18 : SqT K H18 f9 ((goalL n).map V.int) := ((s16.trans s17).trans s18').tupT hf15
      have hB18 : Paired (RowB K H18) (xs ++ [.ref f9]) (rows ++ [goalL n]) := OS.paired_app (hrowB s0h) (.cons ⟨true, f9, rfl, hf18⟩ .nil)
      have hla18 : ∀ r ∈ rows ++ [goalL n], LA.Row p n r := fun r h => (List.mem_append.mp h).elim (hla r) fun z => by rw [List.mem_singleton.mp z]; exact hgr.la
      have hl18q : SqL K H18 l18 (xs ++ [.ref f9]) := SqL.of h18
      have hn1k9 : n ≤ 1000 := by omega
      have hl18 : (rows ++ [goalL n]).length ≤ 500 := by simp; omega
      walk_at "rd"
      intro H19 s19'
      have s0i := s0h.trans s19'
      have hB19 := hrowB s0i
      have htq19 : SqL K H19 ta xs := s0i.seq htq
      have hrl19 : rows.length ≤ 500 := by omega
      walk_at "rd"
      intro H20 s20
      have s0j := s0i.trans s20
      walk_at "rd"
      refine ite2 (fun e9 => ?_) (fun e9 => ?_)
      · exfalso
        rw [b15, dec_nat, dec_bl, h15r] at e9
        simp at e9
      walk_at "rd"
      refine ite2 (fun e10 => ?_) (fun e10 => ?_)
      · have hnn : solL p n (blindE rows n) = none := by
          rw [b15] at e10
          exact Option.isNone_iff_eq_none.mp e10
        refine ⟨.int (n : Int), rfl, .ref ta, rfl, .int p, rfl, ?_⟩
        refine tNil_i ?_
        refine blind_good (kk := false) T hp h1 hn (s0j.seq htq) (L2.Paired.mapP hx fun _ _ z => z.same s0j) hro (by omega) fun v21 H21 s21 hv21 => ?_
        have e21 : v21 = .non := by
          rcases hv21 with ⟨_, e2⟩ | ⟨u, ns, e1, _⟩
          · exact e2
          · rw [hnn] at e1
            cases e1
        refine ⟨rfl, ?_⟩
        rw [e21]
        exact q H21 (s0j.trans s21)
      have hv20 := hv15.same ((((s16.trans s17).trans s18').trans s19').trans s20)
      have dB := hv20.dp
      rcases hv20 with ⟨e1, e2⟩ | ⟨u, ns, eo, rfl, hu20⟩
      · rw [e2] at e10
        simp at e10
      obtain ⟨hns, hn0, hdot⟩ := hbl.2 ns eo
      have hat0 : atI (ns.map V.int) 0 = some (.int 1) := atI_nat (j := 0) (by rw [List.getElem?_map, hn0]; rfl)
      walk_at "rd"
      refine ⟨.ty _, ty_tup hu20, (by rfl : PySem.W.kitOne K _ (.type "tuple") = some true), ?_⟩
      walk_at "rd"
      refine ite2 (fun e11 => ?_) (fun e11 => ?_)
      · exfalso
        rw [List.length_map, hns.len] at e11
        simp at e11
      walk_at "rd"
      refine ⟨s0j.seq htq, fun t22 H22 n22 s22 ht22 => ?_⟩
      refine ⟨.int (n : Int), rfl, ?_⟩
      refine tNil_i ?_
      have s0k := s0j.trans s22
      refine blind_good (kk := true) T hp h1 hn (SqT.of ht22) (L2.Paired.mapP hx fun _ _ z => z.same s0k) hro (by omega) fun v23 H23 s23 hv23 => ?_
      have s0l := s0k.trans s23
      have hu23 : SqT K H23 u (ns.map V.int) := (s22.trans s23).tupT hu20
      refine ⟨.ref u, rfl, neP_same hv23.dp (show BliV K H23 (.ref u) (solL p n (blindE rows n)) from .inr ⟨u, ns, eo, rfl, hu23⟩).dp (bliD_depth _) ?_⟩
      refine ⟨false, rfl, iteF ?_⟩
      walk_at "rd"
      refine ⟨⟨_, hu23⟩, fun D24 hD24 => ?_⟩
      refine lc_fn (walk_tup (xs := ns.map V.int)) (xs := ns) (by simp) (by rw [List.length_map, hns.len]; omega) (fun _ => false) V.int hD24 (fun H s => s.tupT hu23) ?_ ?_
      · intro i z x H11 H12 Qk Qn hz2 sm hy hk hnn
        obtain ⟨rfl, hx2⟩ := hy
        rw [List.getElem?_map, hz2] at hx2
        obtain rfl := Option.some.inj hx2
        have hzr := hns.rng z (List.mem_of_getElem? hz2)
        obtain ⟨tt, ht, _, hb2⟩ := num_int (K := K) (H := H12) (i := z)
        walk_at "rd"
        refine ⟨.ty _, ht, hb2, ?_⟩
        walk_at "rd"
        refine ite2 (fun e5 => ?_) (fun e5 => absurd (decide_eq_true hzr.1) e5)
        walk_at "rd"
        refine ite2 (fun e6 => ?_) (fun e6 => hnn rfl _ (Same.refl _))
        rw [decide_eq_true hzr.2] at e6
        exact absurd e6 (by decide)
      · intro H25 s25 hD25
        have hD25' : H25 D24 = some (.lst []) := by
          rw [hD25]
          simp
        refine ⟨by decide, fun e26 H26 n26 s26 he26 => ?_⟩
        refine ⟨D24, e26, [], rfl, rfl, SqL.of (s26 _ _ hD25'), SqL.of he26, ?_⟩
        refine ⟨false, rfl, iteF ?_⟩
        have s0m := (s0l.trans s25).trans s26
        have hu26 : SqT K H26 u (ns.map V.int) := (s25.trans s26).tupT hu23
        have htq26 := s0m.seq htq
        have hx26 : Paired (RowV K H26) xs rows := L2.Paired.mapP hx fun _ _ z => z.same s0m
        walk_at "rd"
        refine ⟨⟨_, htq26⟩, fun D27 hD27 => ?_⟩
        refine lc_fn (walk_list (xs := xs)) (xs := rows) hxl.symm (by omega) (fun _ => false) (fun _ => V.non) hD27 (fun H s => s.seq htq26) ?_ ?_
        · intro i r x H28 H29 Qk Qn hz2 sm hy hk hnn
          obtain ⟨rfl, hx2⟩ := hy
          obtain ⟨r', hr1, b, rfl, hb⟩ := OS.paired_get hx26 hx2
          obtain rfl : r' = r := Option.some.inj (hr1.symm.trans hz2)
          have hb29 := sm.tupT hb
          have hu29 := sm.tupT hu26
          have hrok := hro r' (List.mem_of_getElem? hr1)
          have hd0 := hdot r' (List.mem_of_getElem? hr1)
          have hn1k30 : n ≤ 1000 := by omega
          walk_at "rd"
          intro H30 s30
          rw [hd0]
          walk_at "rd"
          refine ite2 (fun e => ?_) (fun e => hnn rfl _ s30)
          exfalso
          simp at e
        · intro H30 s30 hD30
          have hD30' : H30 D27 = some (.lst []) := by
            rw [hD30]
            simp
          refine ⟨by decide, fun e31 H31 n31 s31 he31 => ?_⟩
          refine ⟨D27, e31, [], rfl, rfl, SqL.of (s31 _ _ hD30'), SqL.of he31, ?_⟩
          exact q H31 ((s0m.trans s30).trans s31)
end
end P

set_option Elab.async false
set_option linter.all false
set_option maxRecDepth 100000
set_option maxHeartbeats 4000000
namespace P
open PySem PySem.Spec PyProof.Rows L2 OS
/-! short ways: "rd" opens a reading as far as equations go; "sep" finds what stands apart from the state; "sq" a list that is read; "nx" two heaps -/
local macro_rules | `(tactic| walk_at "sep") => `(tactic| first | assumption | (refine (by assumption : Nx _ _ _) _ _ ?_; walk_at "sep"))
local macro_rules | `(tactic| walk_at "sq") => `(tactic| first | assumption | exact .inl (.inl (by assumption)) | exact Sep.sq (by walk_at "sep") | exact Sep.st (by walk_at "sep") | exact .inl (.inl upd_same))
local macro_rules | `(tactic| walk_at "rd") => `(tactic| repeat (first
  | refine And.intro rfl ?_
  | apply Exists.intro
  | refine And.intro (by assumption) ?_
  | refine And.intro (DrawOk.mk (by omega) (by omega) (by omega)) ?_
  | refine And.intro at0 ?_
  | refine And.intro ⟨_, rfl⟩ ?_
  | refine And.intro (by walk_at "sq") ?_
  | refine And.intro (Or.inl (by walk_at "sq")) ?_
  | refine And.intro (Or.inr (by walk_at "sq")) ?_
  | refine And.intro (by omega) ?_))

section
variable {P : Program} {w : World} {K : PySem.W.Frag} {mg : Str → Option Value} {base : Heap}

theorem tC1_i {v : V} {σ : L2.St} {H : Hp} {Q : List V → Hp → Prop} (h : Q [v] H) : tCons (tC v) tNil σ H Q := h
/-- _law_wide_blind(modulus) -/
def spLWide : Sp := fun vs H Q _ => ∃ (p : Int), vs = [.int p] ∧ isPr (.int p) = true ∧ ∀ H', Same H H' → Q (.bl true) H'
theorem ok_law_wide_blind (T : Txt K mg) : FnOk P w K mg base CX0 6 T.f_law_wide_blind T.fd_law_wide_blind ["_law_modulus"] spLWide := by
  refine T.F_law_wide_blind.ok sc_law_wide_blind (fun vs H Q E h => ?_) (fun cdv A outer s H vs Q E hr h => ?_)
  · obtain ⟨p, rfl, _⟩ := h
    rfl
  · obtain ⟨p, rfl, hp, q⟩ := h
    have hu65 := room65 hr
    refine ⟨_, (pss_cons (ps_set (i := 1) sc_law_wide_blind.nd rfl (Or.inl rfl) (pe_call (ok_blind_row T) (hr.mono (by decide)) (by rfl) T.g_blind_row T.F_blind_row.kp T.b_blind_row .nil pass0x (pa_cons (pv 0) (pa_cons (pe_lstO pa_nil) (pa_cons pe_int pa_nil)))))
    (pss_cons (ps_if (PW.pt (pw_or (pt_not (pt_val (pe_callB (id := "isinstance") (r := rIsi K) call_isi (by rfl) T.n_isinstance (by decide +kernel) (pa_cons (pv 1) (pa_cons (pe_bltn (v := .ty "tuple") (u := .type "tuple") (by rfl) T.n_tuple (by decide +kernel) rfl) pa_nil))))) (pw_or (pt_cmpR op_ne (pe_callB (id := "len") (r := rLenS K) call_lenS (by rfl) T.n_len PySem.boot_len (pa_cons (pv 1) pa_nil)) pe_int (nomark _)) (pw_or1 (pt_cmpR op_ne (pe_ix (r := rIxT K) ix_tup (pv 1) pe_int (fun _ _ => rfl)) pe_int (nomark _))))))
      (pss_one (ps_ret pe_bl)) pss_nil)
    (pss_one (ps_ret (pe_cmpR (r := rEqNil K) (op_eqNil (room65 hr)) (pe_lc (own := [("_law_item", 2)]) (g := gName 2) rfl sc_law_wide_blind.nd (pi_tup (pv 1)) (blkOk_by (own := [("_law_item", 2)]) (N := N_law_wide_blind) (sc := defScope s_law_wide_blind) (by decide +kernel)) (fun _ _ _ _ _ => (pg_name (i := 2) sc_law_wide_blind.nd rfl (Or.inl rfl))) (fun _ _ _ _ _ => (pts_one (PW.pt (pw_or (pt_val (pe_callB (id := "isinstance") (r := rIsi K) call_isi (by rfl) T.n_isinstance (by decide +kernel) (pa_cons (pv 2) (pa_cons (pe_bltn (v := .ty "bool") (u := .type "bool") (by rfl) T.n_bool (by decide +kernel) rfl) pa_nil)))) (pw_or1 (pt_not (pt_chain op_le op_lt pe_int (pv 2) (pv 0)))))))) (fun _ _ _ _ _ => (pv 2))) (pe_lstO pa_nil) (nomark _)))))), ?_⟩
    have hbl := blind_ok (n := 40) (rows := []) hp (by decide) (fun _ h => nomatch h)
    refine ⟨.int p, rfl, by decide, fun l1 H1 n1 s1 h1 => ?_⟩
    refine tC1_i ?_
    refine blind_good (n := 40) (kk := false) (xs := []) (rows := []) T hp (by decide) (by decide) (SqL.of h1) .nil (fun _ h => nomatch h) (by decide) fun v2 H2 s2 hv2 => ?_
    have hsome : ∃ ns, solL p 40 (blindE [] 40) = some ns := by
      cases e : solL p 40 (blindE [] 40) with
      | some ns => exact ⟨ns, rfl⟩
      | none =>
        exfalso
        obtain ⟨c, hc, hj⟩ := hbl.1.mp (by rw [e]; rfl)
        obtain rfl : c = [] := List.eq_nil_of_length_eq_zero (by simpa using hc)
        have h0 : p ∣ (1 : Int) - 0 := hj 0 (by decide)
        exact (LA.prm_of (isPr_is hp)).one (LA.dvd_congr h0 (by omega))
    obtain ⟨ns, eo⟩ := hsome
    obtain ⟨u, rfl, hu2⟩ : ∃ u, v2 = .ref u ∧ SqT K H2 u (ns.map V.int) := by
      rcases hv2 with ⟨e1, _⟩ | ⟨u, ns', e1, e2, e3⟩
      · rw [eo] at e1
        cases e1
      · rw [eo] at e1
        obtain rfl := Option.some.inj e1
        exact ⟨u, e2, e3⟩
    obtain ⟨hns, hn0, _⟩ := hbl.2 ns eo
    have hat0 : atI (ns.map V.int) 0 = some (.int 1) := atI_nat (j := 0) (by rw [List.getElem?_map, hn0]; rfl)
    walk_at "rd"
    refine ⟨.ty _, ty_tup hu2, (by rfl : PySem.W.kitOne K _ (.type "tuple") = some true), ?_⟩
    walk_at "rd"
    refine ite2 (fun e11 => ?_) (fun e11 => ?_)
    · exfalso
      rw [List.length_map, hns.len] at e11
      simp at e11
    walk_at "rd"
    refine ⟨⟨_, hu2⟩, fun D24 hD24 => ?_⟩
    refine lc_fn (walk_tup (xs := ns.map V.int)) (xs := ns) (by simp) (by rw [List.length_map, hns.len]; omega) (fun _ => false) V.int hD24 (fun H s => s.tupT hu2) ?_ ?_
    · intro i z x H11 H12 Qk Qn hz2 sm hy hk hnn
      obtain ⟨rfl, hx2⟩ := hy
      rw [List.getElem?_map, hz2] at hx2
      obtain rfl := Option.some.inj hx2
      have hzr := hns.rng z (List.mem_of_getElem? hz2)
      obtain ⟨tt, ht, _, hb2⟩ := num_int (K := K) (H := H12) (i := z)
      walk_at "rd"
      refine ⟨.ty _, ht, hb2, ?_⟩
      walk_at "rd"
      refine ite2 (fun e5 => ?_) (fun e5 => absurd (decide_eq_true hzr.1) e5)
      walk_at "rd"
      refine ite2 (fun e6 => ?_) (fun e6 => hnn rfl _ (Same.refl _))
      rw [decide_eq_true hzr.2] at e6
      exact absurd e6 (by decide)
    · intro H25 s25 hD25
      have hD25' : H25 D24 = some (.lst []) := by
        rw [hD25]
        simp
      refine ⟨by decide, fun e26 H26 n26 s26 he26 => ?_⟩
      refine ⟨D24, e26, [], rfl, rfl, SqL.of (s26 _ _ hD25'), SqL.of he26, ?_⟩
      exact q H26 (((s1.trans s2).trans s25).trans s26)
end
end P

set_option Elab.async false
set_option linter.all false
set_option maxRecDepth 100000
set_option maxHeartbeats 4000000
namespace P
open PySem PySem.Spec PyProof.Rows L2 OS
/-! short ways: "rd" opens a reading as far as equations go; "sep" finds what stands apart from the state; "sq" a list that is read; "nx" two heaps -/
local macro_rules | `(tactic| walk_at "sep") => `(tactic| first | assumption | (refine (by assumption : Nx _ _ _) _ _ ?_; walk_at "sep"))
local macro_rules | `(tactic| walk_at "sq") => `(tactic| first | assumption | exact .inl (.inl (by assumption)) | exact Sep.sq (by walk_at "sep") | exact Sep.st (by walk_at "sep") | exact .inl (.inl upd_same))
local macro_rules | `(tactic| walk_at "rd") => `(tactic| repeat (first
  | refine And.intro rfl ?_
  | apply Exists.intro
  | refine And.intro (by assumption) ?_
  | refine And.intro (DrawOk.mk (by omega) (by omega) (by omega)) ?_
  | refine And.intro at0 ?_
  | refine And.intro ⟨_, rfl⟩ ?_
  | refine And.intro (by walk_at "sq") ?_
  | refine And.intro (Or.inl (by walk_at "sq")) ?_
  | refine And.intro (Or.inr (by walk_at "sq")) ?_
  | refine And.intro (by omega) ?_))

section
variable {P : Program} {w : World} {K : PySem.W.Frag} {mg : Str → Option Value} {base : Heap}

/-- an odd value that stays while one draws; if it is a tuple, its items -/
inductive OddV (K : PySem.W.Frag) (p : Addr) (H : Hp) : V → Option (List V) → Prop
  | flat {v : V} : flatV v = true → OddV K p H v none
  | lst {a : Addr} {zs : List V} : Sep H p a (.lst zs) → OddV K p H (.ref a) none
  | dct {a : Addr} {kvs : List (Key × V)} : Sep H p a (.dK kvs) → OddV K p H (.ref a) none
  | tup {a : Addr} {xs : List V} : SqT K H a xs → (∀ x ∈ xs, flatV x = true ∨ ∃ b zs, x = .ref b ∧ SqT K H b zs) → OddV K p H (.ref a) (some xs)
theorem OddV.nx {H H' : Hp} {p : Addr} {n : Nat} {v : V} {o : Option (List V)} (S : StAt H p n) (x : Nx p H H') (h : OddV K p H v o) : OddV K p H' v o := by
  cases h with
  | flat f => exact .flat f
  | lst h => exact .lst (x _ _ h)
  | dct h => exact .dct (x _ _ h)
  | tup h hi => exact .tup (tupT_nx S x h) fun y hy => (hi y hy).imp id fun ⟨b, zs, e, h⟩ => ⟨b, zs, e, tupT_nx S x h⟩
theorem OddV.thing {H : Hp} {p : Addr} {v : V} {o : Option (List V)} (h : OddV K p H v o) : Thing K H v o := by
  cases h with
  | flat f => exact .flat f
  | lst h => exact .lst (SqL.of h.at_)
  | dct h => exact .dct h.at_
  | tup h hi => exact .tup h fun y hy => (hi y hy).elim (fun f => .flat f) fun ⟨b, zs, e, h⟩ => e ▸ .tup h
def OddQ (K : PySem.W.Frag) (p : Addr) (H : Hp) (v : V) : Prop := ∃ o, OddV K p H v o ∧ ∀ zs, o = some zs → zs.length ≤ 100
/-- an item: flat, or a list that stays -/
def ItN (p : Addr) (H : Hp) (v : V) : Prop := flatV v = true ∨ ∃ a zs, v = .ref a ∧ Sep H p a (.lst zs)
theorem ItN.nx {H H' : Hp} {p : Addr} {v : V} (x : Nx p H H') (h : ItN p H v) : ItN p H' v := h.imp id fun ⟨a, zs, e, h⟩ => ⟨a, zs, e, x _ _ h⟩
theorem ItN.itm {H : Hp} {p : Addr} {v : V} (h : ItN p H v) : Itm K H v := h.elim (fun f => .flat f) fun ⟨a, zs, e, h⟩ => e ▸ .lst (SqL.of h.at_)
theorem rows_of {pr : Int} {acc : List V} (h : ∀ y ∈ acc, ∃ z : Int, y = .int z ∧ 0 ≤ z ∧ z < pr) : ∃ ns : List Int, acc = ns.map V.int ∧ ∀ i ∈ ns, 0 ≤ i ∧ i < pr := by
  refine nums_ints fun v hv => ?_
  obtain ⟨z, rfl, h0, h1⟩ := h v hv
  show (decide (0 ≤ z) && decide (z < pr)) = true
  rw [decide_eq_true h0, decide_eq_true h1]
  rfl
/-- _law_rows(state, modulus, span, count) -/
def spLRows (K : PySem.W.Frag) : Sp := fun vs H Q _ => ∃ (p : Addr) (m : Nat) (pr : Int) (n c : Nat), vs = [.ref p, .int pr, .int (n : Int), .int (c : Int)] ∧ StAt H p m ∧ m ≤ 900000 ∧ 2 ≤ pr ∧ pr ≤ 11 ∧ n ≤ 60 ∧ c ≤ 6 ∧
  ∀ q H' m' xs rows, H q = none → StAt H' p m' → m' ≤ m + 1000 → Nx p H H' → Sep H' p q (.lst xs) → Paired (RowV K H') xs rows → (∀ r ∈ rows, RowOk pr n r) → rows.length = c → Q (.ref q) H'
theorem ok_law_rows (T : Txt K mg) : FnOk P w K mg base CX0 2 T.f_law_rows T.fd_law_rows ["_law_state", "_law_modulus", "_law_span1", "_law_count"] (spLRows K) := by
  refine T.F_law_rows.ok sc_law_rows (fun vs H Q E h => ?_) (fun cdv A outer s H vs Q E hr h => ?_)
  · obtain ⟨p, m, pr, n, c, rfl, _⟩ := h
    rfl
  · obtain ⟨p, m, pr, n, c, rfl, S, hm, hp0, hp1, hn, hc, q⟩ := h
    refine ⟨_, (pss_cons (ps_set (i := 4) sc_law_rows.nd rfl (Or.inl rfl) (pe_lstO pa_nil))
    (pss_stop (ps_for PassesOwn.never rfl (pi_hold (pi_range1 rfl T.n_range (pa_cons (pv 3) pa_nil))) (pg_name (i := 5) sc_law_rows.nd rfl (Or.inl rfl))
      (pss_cons (ps_set (i := 6) sc_law_rows.nd rfl (Or.inr rfl) (pe_callTy (T := "tuple") (r := rTupL K) call_tupL (by rfl) T.n_tuple (by decide +kernel) (pa_cons (pe_lc (own := [("_law_k", 7)]) (g := gName 7) (tt := tYes) rfl sc_law_rows.nd (pi_range1 rfl T.n_range (pa_cons (pv 2) pa_nil)) (blkOk_by (own := [("_law_k", 7)]) (N := N_law_rows) (sc := defScope s_law_rows) (by decide +kernel)) (fun _ _ _ _ _ => (pg_name (i := 7) sc_law_rows.nd rfl (Or.inl rfl))) (fun _ _ _ _ _ => pts_nil) (fun _ _ _ _ _ => (pe_call (ok_law_draw T) (hr.mono (by decide)) (by rfl) T.g_law_draw T.F_law_draw.kp T.b_law_draw .nil pass0 (pa_cons (pv 0) (pa_cons (pv 1) pa_nil))))) pa_nil)))
    (pss_cons (ps_set (i := 8) sc_law_rows.nd rfl (Or.inl rfl) (pe_call (ok_law_draw T) (hr.mono (by decide)) (by rfl) T.g_law_draw T.F_law_draw.kp T.b_law_draw .nil pass0 (pa_cons (pv 0) (pa_cons pe_int pa_nil))))
    (pss_stop (ps_if (PW.pt (pw_and (pt_cmpR op_eq (pv 8) pe_int (nomark _)) (pw_and1 (pt_cmpR (r := rNeNil K) (op_neNil (room65 hr)) (pv 4) (pe_lstO pa_nil) (nomark _)))))
      (pss_one (ps_set (i := 6) sc_law_rows.nd rfl (Or.inr rfl) (pe_ix (r := rIxL K) ix_list (pv 4) (pe_call (ok_law_draw T) (hr.mono (by decide)) (by rfl) T.g_law_draw T.F_law_draw.kp T.b_law_draw .nil pass0 (pa_cons (pv 0) (pa_cons (pe_callB (id := "len") (r := rLenS K) call_lenS (by rfl) T.n_len PySem.boot_len (pa_cons (pv 4) pa_nil)) pa_nil))) (fun _ _ => rfl)))) pss_nil)
    (pss_stop (ps_if (pt_cmpR op_eq (pv 8) pe_int (nomark _))
      (pss_one (ps_set (i := 6) sc_law_rows.nd rfl (Or.inr rfl) (pe_callTy (T := "tuple") (r := rTupL K) call_tupL (by rfl) T.n_tuple (by decide +kernel) (pa_cons (pe_lc (own := [("_law_k", 7)]) (g := gName 7) (tt := tYes) rfl sc_law_rows.nd (pi_range1 rfl T.n_range (pa_cons (pv 2) pa_nil)) (blkOk_by (own := [("_law_k", 7)]) (N := N_law_rows) (sc := defScope s_law_rows) (by decide +kernel)) (fun _ _ _ _ _ => (pg_name (i := 7) sc_law_rows.nd rfl (Or.inl rfl))) (fun _ _ _ _ _ => pts_nil) (fun _ _ _ _ _ => (pe_op op_mul (pe_ix (r := rIxT K) ix_tup (pv 6) (pv 7) (fun _ _ => rfl)) (pe_callTy (T := "int") call_int1 (by rfl) T.n_int (by decide +kernel) (pa_cons (pe_cmpR op_eq (pe_call (ok_law_draw T) (hr.mono (by decide)) (by rfl) T.g_law_draw T.F_law_draw.kp T.b_law_draw .nil pass0 (pa_cons (pv 0) (pa_cons pe_int pa_nil))) pe_int (nomark _)) pa_nil))))) pa_nil)))) pss_nil)
    (pss_one (ps_expr (pe_bm PySem.F.plainAttrs_list PySem.F.slot_list_append PySem.F.type_list_append mt_append (pv 4) (pa_cons (pv 6) pa_nil)))))))))
    (pss_one (ps_ret (pv 4))))), ?_⟩
    refine ⟨by decide, fun ta H1 n1 s1 h1 => ?_⟩
    have S1 := S.same s1
    have x1 := S.nx s1
    have st1 := Sep.of_new S s1 n1 h1
    refine Stop.cut (fun σ H' => ∃ (y5 y6 y8 : Option V) (m' : Nat) (xs : List V) (rows : List (List Int)), σ = [some (.ref p), some (.int pr), some (.int (n : Int)), some (.int (c : Int)), some (.ref ta), y5, y6, none, y8] ∧ StAt H' p m' ∧ m' ≤ m + 1000 ∧ Nx p H H' ∧ Sep H' p ta (.lst xs) ∧ Paired (RowV K H') xs rows ∧ (∀ r ∈ rows, RowOk pr n r) ∧ rows.length = c) (fun Qz hz => ?_) ?_
    · refine ⟨.int (c : Int), rfl, (c : Int), rfl, by omega, by omega, ?_⟩
      refine ⟨for_it walk_range (fun i σ H' => ∃ (y5 y6 y8 : Option V) (m' : Nat) (xs : List V) (rows : List (List Int)), σ = [some (.ref p), some (.int pr), some (.int (n : Int)), some (.int (c : Int)), some (.ref ta), y5, y6, none, y8] ∧ StAt H' p m' ∧ m' ≤ m + 130 * i ∧ Nx p H H' ∧ Sep H' p ta (.lst xs) ∧ Paired (RowV K H') xs rows ∧ (∀ r ∈ rows, RowOk pr n r) ∧ rows.length = i)
        ⟨none, none, none, m, [], [], rfl, S1, by omega, x1, st1, .nil, (fun _ h => nomatch h), rfl⟩ (fun _ _ _ _ _ => trivial) ?_ ?_⟩
      · rintro i x _ H2 H3 hi ⟨y5, y6, y8, m2, xs, rows, rfl, S2, hm2, x2, st2, hx2, hro, hl⟩ ⟨rfl, rfl⟩
        have hic : i < c := by simpa using hi
        have hxl := paired_len hx2
        refine ⟨.int (n : Int), rfl, (n : Int), rfl, by omega, by omega, fun D hD => ?_⟩
        refine lc_dr walk_range (by omega) p _ 1 (fun H y => ∃ z : Int, y = .int z ∧ 0 ≤ z ∧ z < pr) S2 hD (fun H H' y acc sD k h => h) (fun _ _ => trivial) ?_ ?_
        · intro j m3 x H4 H5 Qk hj S3 hm3 x3 hDx hy hk
          obtain ⟨rfl, rfl⟩ := hy
          walk_at "rd"
          intro z H6 z0 z1 S6 x6
          exact hk (.int z) H6 _ ⟨z, rfl, z0, z1⟩ S6 (Nat.le_refl _) x6
        · intro H4 m4 acc S4 hm4 x4 sD4 hal hR
          obtain ⟨ns, rfl, hns⟩ := rows_of hR
          have hnl : ns.length = n := by
            rw [List.length_map] at hal
            omega
          have hDq := sD4.sq (K := K)
          walk_at "rd"
          intro r H5 n5 s5 hr5
          have S5 := S4.same s5
          have st5 := S4.nx s5 _ _ (x4 _ _ st2)
          have x5 := (x2.trans x4).trans (S4.nx s5)
          have hx5 : Paired (RowV K H5) xs rows := L2.Paired.mapP hx2 fun v r z => by
            obtain ⟨b, e, h⟩ := z
            exact ⟨b, e, s5.tupT (tupT_nx S2 x4 h)⟩
          have hrow : RowV K H5 (.ref r) ns := ⟨r, rfl, SqT.of hr5⟩
          have hrok : RowOk pr n ns := ⟨hnl, hns⟩
          have hm4b : m4 ≤ 950000 := by omega
          walk_at "rd"
          intro r6 H6 z60 z61 S6 x6
          have hx6 : Paired (RowV K H6) xs rows := L2.Paired.mapP hx5 fun v r z => by
            obtain ⟨b, e, h⟩ := z
            exact ⟨b, e, tupT_nx S5 x6 h⟩
          have hrow6 : RowV K H6 (.ref r) ns := by
            obtain ⟨b, e, h⟩ := hrow
            exact ⟨b, e, tupT_nx S5 x6 h⟩
          have st6 := x6 _ _ st5
          have xx6 := x5.trans x6
          clear hx5 hrow st5 x5 S5 hDq sD4 x4 st2 hx2 hR
          refine Stop.cut (fun σ H' => ∃ (r' : Addr) (ns' : List Int) (m' : Nat), σ = [some (.ref p), some (.int pr), some (.int (n : Int)), some (.int (c : Int)), some (.ref ta), some (.int (0 + (i : Int))), some (.ref r'), none, some (.int r6)] ∧ StAt H' p m' ∧ m' ≤ m4 + 2 ∧ Nx p H H' ∧ Sep H' p ta (.lst xs) ∧ Paired (RowV K H') xs rows ∧ RowV K H' (.ref r') ns' ∧ RowOk pr n ns') (fun Qz2 hz2 => ?_) ?_
          · walk_at "rd"
            refine ite2 (fun e => ?_) (fun e => ?_)
            · walk_at "rd"
              refine ⟨by decide, fun e0 H7 n7 s7 he0 => ?_⟩
              have S7 := S6.same s7
              have st7 := S6.nx s7 _ _ st6
              have hx7 : Paired (RowV K H7) xs rows := L2.Paired.mapP hx6 fun v r z => z.same s7
              have hrow7 := hrow6.same s7
              have hq7 := st7.sq (K := K)
              have he7 : SqL K H7 e0 [] := SqL.of he0
              have xx7 := xx6.trans (S6.nx s7)
              walk_at "rd"
              refine ite2 (fun e2 => ?_) (fun e2 => ?_)
              · have hpos : 0 < xs.length := by
                  cases xs with
                  | nil => exact absurd e2 (by decide)
                  | cons _ _ => simp
                have hx6l : xs.length ≤ 6 := by omega
                walk_at "rd"
                intro z H8 z0 z1 S8 x8
                obtain ⟨v, hv, _⟩ := at_pick (l := xs) z0 z1
                have hx8 : Paired (RowV K H8) xs rows := L2.Paired.mapP hx7 fun v r z => by
                  obtain ⟨b, e, h⟩ := z
                  exact ⟨b, e, tupT_nx S7 x8 h⟩
                have st8 := x8 _ _ st7
                have hq8 := st8.sq (K := K)
                have hv' : xs[z.toNat]? = some v := by
                  have : z = ((z.toNat : Nat) : Int) := by omega
                  rw [this] at hv
                  have hlt : z.toNat < xs.length := by omega
                  rw [atI_nat (List.getElem?_eq_getElem hlt)] at hv
                  rw [List.getElem?_eq_getElem hlt]
                  exact hv
                obtain ⟨ns8, hns8, b, rfl, hb⟩ := OS.paired_get hx8 hv'
                walk_at "rd"
                exact hz2 _ _ ⟨b, ns8, m4 + 1 + 1, rfl, S8, by omega, xx7.trans x8, st8, hx8, ⟨b, rfl, hb⟩, hro _ (List.mem_of_getElem? hns8)⟩
              · exact hz2 _ _ ⟨r, ns, m4 + 1, rfl, S7, by omega, xx7, st7, hx7, hrow7, hrok⟩
            · exact hz2 _ _ ⟨r, ns, m4 + 1, rfl, S6, by omega, xx6, st6, hx6, hrow6, hrok⟩
          · rintro _ H7 ⟨r', ns', m7, rfl, S7, hm7, x7, st7, hx7, hrow7, hrok7⟩
            refine Stop.cut (fun σ H' => ∃ (r' : Addr) (ns' : List Int) (m' : Nat), σ = [some (.ref p), some (.int pr), some (.int (n : Int)), some (.int (c : Int)), some (.ref ta), some (.int (0 + (i : Int))), some (.ref r'), none, some (.int r6)] ∧ StAt H' p m' ∧ m' ≤ m7 + 60 ∧ Nx p H H' ∧ Sep H' p ta (.lst xs) ∧ Paired (RowV K H') xs rows ∧ RowV K H' (.ref r') ns' ∧ RowOk pr n ns') (fun Qz2 hz2 => ?_) ?_
            · walk_at "rd"
              refine ite2 (fun e => ?_) (fun e => ?_)
              · refine ⟨.int (n : Int), rfl, (n : Int), rfl, by omega, by omega, fun D2 hD2 => ?_⟩
                refine lc_dr walk_range (by omega) p _ 1 (fun H y => ∃ z : Int, y = .int z ∧ 0 ≤ z ∧ z < pr) S7 hD2 (fun H H' y acc sD k h => h) (fun _ _ => trivial) ?_ ?_
                · intro j m8 x H8 H9 Qk hj S8 hm8 x8 hDx hy hk
                  obtain ⟨rfl, rfl⟩ := hy
                  have hjn : j < n := by simpa using hj
                  obtain ⟨b, eb, hb⟩ := hrow7
                  obtain rfl : r' = b := by injection eb
                  have hb8 := tupT_nx S7 x8 hb
                  have hg : atI (ns'.map V.int) (0 + (j : Int)) = some (.int (LA.at_ ns' j)) := by
                    rw [Int.zero_add]
                    exact atI_at (by rw [hrok7.len]; exact hjn)
                  have hrg := hrok7.la.at_rng (by omega) j
                  have bz : -(2 ^ 64) < LA.at_ ns' j ∧ LA.at_ ns' j < 2 ^ 64 := ⟨by omega, by omega⟩
                  have hm8b : m8 ≤ 960000 := by omega
                  walk_at "rd"
                  intro z H10 z0 z1 S10 x10
                  walk_at "rd"
                  refine .inr ⟨_, rfl, ?_⟩
                  have hcm : ∀ j : Int, CMul (LA.at_ ns' (0 + j).toNat) 0 → True := fun _ _ => trivial
                  refine ⟨_, _, rfl, rfl, .inl bz, ?_⟩
                  refine hk _ H10 _ ⟨_, rfl, ?_, ?_⟩ S10 (Nat.le_refl _) x10
                  all_goals (split <;> omega)
                · intro H8 m8 acc S8 hm8 x8 sD8 hal hR
                  obtain ⟨ns2, rfl, hns2⟩ := rows_of hR
                  have hnl2 : ns2.length = n := by
                    rw [List.length_map] at hal
                    omega
                  have hDq := sD8.sq (K := K)
                  walk_at "rd"
                  intro r2 H9 n9 s9 hr9
                  have S9 := S8.same s9
                  have hx9 : Paired (RowV K H9) xs rows := L2.Paired.mapP hx7 fun v r z => by
                    obtain ⟨b, e, h⟩ := z
                    exact ⟨b, e, s9.tupT (tupT_nx S7 x8 h)⟩
                  exact hz2 _ _ ⟨r2, ns2, m8, rfl, S9, by omega, (x7.trans x8).trans (S8.nx s9), S8.nx s9 _ _ (x8 _ _ st7), hx9, ⟨r2, rfl, SqT.of hr9⟩, ⟨hnl2, hns2⟩⟩
              · exact hz2 _ _ ⟨r', ns', m7, rfl, S7, by omega, x7, st7, hx7, hrow7, hrok7⟩
            · rintro _ H8 ⟨r2, ns2, m8, rfl, S8, hm8, x8, st8, hx8, hrow8, hrok8⟩
              refine ⟨_, rfl, .inl ⟨rfl, _, st8.sq⟩, ?_⟩
              have hal : xs.length < sizeLine := small1e5 (by omega)
              refine ⟨_, rfl, ta, xs, .ref r2, rfl, rfl, st8.at_, hal, ?_⟩
              have put : ∀ {v r}, RowV K H8 v r → RowV K (upd H8 ta (.lst (xs ++ [.ref r2]))) v r := fun ⟨b, e, h⟩ => ⟨b, e, tupT_but st8.at_ (fun c o q z => by rw [upd_ne z]; exact q) h⟩
              refine ⟨_, _, _, m8, xs ++ [.ref r2], rows ++ [ns2], rfl, S8.put st8, by omega, fun q o h => (x8 q o h).put_ne st8 (ne_of_none h.at_ n1), st8.put_same, OS.paired_app (L2.Paired.mapP hx8 fun _ _ z => put z) (.cons (put hrow8) .nil), fun r hr => ?_, by rw [List.length_append, hl]; rfl⟩
              rcases List.mem_append.mp hr with h | h
              · exact hro r h
              · rw [List.mem_singleton.mp h]
                exact hrok8
      · rintro σ H2 ⟨y5, y6, y8, m2, xs, rows, rfl, S2, hm2, x2, st2, hx2, hro, hl⟩
        have e : ((c : Int)).toNat = c := by omega
        rw [e] at hm2 hl
        exact hz _ _ ⟨y5, y6, y8, m2, xs, rows, rfl, S2, by omega, x2, st2, hx2, hro, hl⟩
    · rintro _ H2 ⟨y5, y6, y8, m2, xs, rows, rfl, S2, hm2, x2, st2, hx2, hro, hl⟩
      walk_at "rd"
      exact q ta H2 m2 xs rows n1 S2 hm2 x2 st2 hx2 hro hl
end
end P

set_option Elab.async false
set_option linter.all false
set_option maxRecDepth 100000
set_option maxHeartbeats 4000000
namespace P
open PySem PySem.Spec PyProof.Rows L2 OS
/-! short ways: "rd" opens a reading as far as equations go; "sep" finds what stands apart from the state; "sq" a list that is read; "nx" two heaps -/
local macro_rules | `(tactic| walk_at "sep") => `(tactic| first | assumption | (refine (by assumption : Nx _ _ _) _ _ ?_; walk_at "sep"))
local macro_rules | `(tactic| walk_at "sq") => `(tactic| first | assumption | exact .inl (.inl (by assumption)) | exact Sep.sq (by walk_at "sep") | exact Sep.st (by walk_at "sep") | exact .inl (.inl upd_same))
local macro_rules | `(tactic| walk_at "rd") => `(tactic| repeat (first
  | refine And.intro rfl ?_
  | apply Exists.intro
  | refine And.intro (by assumption) ?_
  | refine And.intro (DrawOk.mk (by omega) (by omega) (by omega)) ?_
  | refine And.intro at0 ?_
  | refine And.intro ⟨_, rfl⟩ ?_
  | refine And.intro (by walk_at "sq") ?_
  | refine And.intro (Or.inl (by walk_at "sq")) ?_
  | refine And.intro (Or.inr (by walk_at "sq")) ?_
  | refine And.intro (by omega) ?_))

section
variable {P : Program} {w : World} {K : PySem.W.Frag} {mg : Str → Option Value} {base : Heap}

/-- no row of any width -/
def OddR (p : Int) (o : Option (List V)) : Prop := ∀ n, goodR p n o = false
theorem OddR.none (p : Int) : OddR p none := fun n => by
  show (decide (1 ≤ n) && false) = false
  rw [Bool.and_false]
theorem OddR.nil (p : Int) : OddR p (some []) := fun n => by
  cases e : goodR p n (some []) with
  | false => rfl
  | true =>
    obtain ⟨h1, r, hr, ho⟩ := good_row e
    have h2 := ho.len
    rw [← List.length_map (f := V.int), ← Option.some.inj hr] at h2
    simp at h2
    omega
theorem OddR.item {p : Int} {zs : List V} {v : V} (h : v ∈ zs) (hb : isN p v = false) : OddR p (some zs) := fun n => by
  cases e : goodR p n (some zs) with
  | false => rfl
  | true =>
    obtain ⟨h1, r, hr, ho⟩ := good_row e
    rw [Option.some.inj hr] at h
    obtain ⟨i, hi, rfl⟩ := List.mem_map.mp h
    have := ho.rng i hi
    have h2 : (decide (0 ≤ i) && decide (i < p)) = false := hb
    rw [decide_eq_true this.1, decide_eq_true this.2] at h2
    cases h2
/-- the first odd one behind right rows is told -/
theorem badRow_first {p : Int} {n : Nat} {rows : List (List Int)} {o : Option (List V)} {rest : List (Option (List V))} (h1 : 1 ≤ n) (hr : ∀ r ∈ rows, RowOk p n r) (ho : OddR p o) : badRow p (someR rows ++ o :: rest) = some rows.length := by
  have hl : (someR rows).length = rows.length := by
    unfold someR
    rw [List.length_map]
  refine badRow_at (o := o) (by rw [List.getElem?_append_right (by omega), hl]; simp) (ho _) fun j u hj hu => ?_
  rw [List.getElem?_append_left (by omega)] at hu
  unfold someR at hu
  rw [List.getElem?_map] at hu
  obtain ⟨r, hrj, rfl⟩ := Option.map_eq_some_iff.mp hu
  have hw : wOf (someR rows ++ o :: rest) = n := by
    cases rows with
    | nil => simp at hrj
    | cons r0 rr =>
      show (r0.map V.int).length = n
      rw [List.length_map, (hr r0 (.head _)).len]
  rw [hw]
  unfold goodR
  rw [decide_eq_true h1, Bool.true_and]
  exact (hr r (List.mem_of_getElem? hrj)).nums
end
end P

set_option Elab.async false
set_option linter.all false
set_option maxRecDepth 100000
set_option maxHeartbeats 4000000
namespace P
open PySem PySem.Spec PyProof.Rows L2 OS
/-! short ways: "rd" opens a reading as far as equations go; "sep" finds what stands apart from the state; "sq" a list that is read; "nx" two heaps -/
local macro_rules | `(tactic| walk_at "sep") => `(tactic| first | assumption | (refine (by assumption : Nx _ _ _) _ _ ?_; walk_at "sep"))
local macro_rules | `(tactic| walk_at "sq") => `(tactic| first | assumption | exact .inl (.inl (by assumption)) | exact Sep.sq (by walk_at "sep") | exact Sep.st (by walk_at "sep") | exact .inl (.inl upd_same))
local macro_rules | `(tactic| walk_at "rd") => `(tactic| repeat (first
  | refine And.intro rfl ?_
  | apply Exists.intro
  | refine And.intro (by assumption) ?_
  | refine And.intro (DrawOk.mk (by omega) (by omega) (by omega)) ?_
  | refine And.intro at0 ?_
  | refine And.intro ⟨_, rfl⟩ ?_
  | refine And.intro (by walk_at "sq") ?_
  | refine And.intro (Or.inl (by walk_at "sq")) ?_
  | refine And.intro (Or.inr (by walk_at "sq")) ?_
  | refine And.intro (by omega) ?_))

section
variable {P : Program} {w : World} {K : PySem.W.Frag} {mg : Str → Option Value} {base : Heap}

theorem itm_same {H : Hp} {v : V} (h : Itm K H v) : EqI K H v v := by
  cases h with
  | flat f => exact .inl ⟨rfl, f⟩
  | lst _ => exact .inr (.inl ⟨_, rfl, rfl⟩)
  | tup _ => exact .inr (.inl ⟨_, rfl, rfl⟩)
  | dct _ => exact .inr (.inl ⟨_, rfl, rfl⟩)
theorem Thing.itm {H : Hp} {v : V} {o : Option (List V)} (h : Thing K H v o) : Itm K H v := by
  cases h with
  | flat f => exact .flat f
  | lst h => exact .lst h
  | dct h => exact .dct h
  | tup h _ => exact .tup h
theorem thing_flat {H : Hp} {xs : List V} {a : Addr} (h : SqT K H a xs) (f : ∀ v ∈ xs, flatV v = true) : Thing K H (.ref a) (some xs) := .tup h fun v hv => .flat (f v hv)
theorem ints_flat (ns : List Int) : ∀ v ∈ ns.map V.int, flatV v = true := fun v hv => by
  obtain ⟨z, _, rfl⟩ := List.mem_map.mp hv
  rfl
/-- what is told is compared with a list of the same: != says False -/
theorem neI_same {H : Hp} {a b : Addr} {z : String} {v : V} {Q : VK} (ha : SqL K H a [.str (Str.ofString z), v]) (hb : SqL K H b [.str (Str.ofString z), v]) (hi : Itm K H v) (q : Q (.bl false) H) : rNeI K (.ref a) (.ref b) H Q :=
  ⟨a, b, _, _, rfl, rfl, ha, hb, .cons (.inl (.inl ⟨rfl, rfl⟩)) (.cons (.inl (itm_same hi)) .nil), q⟩
section
variable {p : Int} {v th u : V} {a : Addr} {kk : Bool} {xs : List V} {os : List (Option (List V))} {og : Option (List V)} {H : Hp} {Q : VK} {E : XK} {i : Nat} {m : Int}
theorem told_row0 (hp : isPr (.int p) = true) (ha : SqB kk K H a xs) (hx : Paired (Thing K H) xs os) (ht : Thing K H th og) (hol : ∀ o ∈ os ++ [og], ∀ zs, o = some zs → zs.length ≤ 400) (hos : os.length ≤ 400)
    (hb : badRow p (os ++ [og]) = some i) (hu : (xs ++ [th])[i]? = some u) (q : New2 K H Q "row" u) : spLTold K [.int 0, .int p, .ref a, th] H Q E :=
  .inl ⟨_, _, _, some p, kk, xs, os, og, rfl, .ok p hp, ha, hx, ht, hol, hos, (fun z => nomatch z), fun p' i' u' e hb' hu' => by
    obtain rfl := Option.some.inj e
    obtain rfl := Option.some.inj (hb.symm.trans hb')
    obtain rfl := Option.some.inj (hu.symm.trans hu')
    exact q, fun p' e hb' => by
    obtain rfl := Option.some.inj e
    rw [hb] at hb'
    cases hb'⟩
theorem told_prime0 (hv : PrV K H v none) (ha : SqB kk K H a xs) (hx : Paired (Thing K H) xs os) (ht : Thing K H th og) (hol : ∀ o ∈ os ++ [og], ∀ zs, o = some zs → zs.length ≤ 400) (hos : os.length ≤ 400) (q : New2 K H Q "prime" v) : spLTold K [.int 0, v, .ref a, th] H Q E :=
  .inl ⟨_, _, _, none, kk, xs, os, og, rfl, hv, ha, hx, ht, hol, hos, fun _ => q, (fun _ _ _ e => nomatch e), fun _ e => nomatch e⟩
theorem told_prime1 (hv : PrV K H v none) (ha : SqB kk K H a xs) (hx : Paired (Thing K H) xs os) (hol : ∀ o ∈ os, ∀ zs, o = some zs → zs.length ≤ 400) (hos : os.length ≤ 400) (q : New2 K H Q "prime" v) : spLTold K [.int 1, v, .ref a, .int m] H Q E :=
  .inr ⟨_, _, m, none, kk, xs, os, rfl, hv, ha, hx, hol, hos, fun _ => q, (fun _ _ _ e => nomatch e), (fun _ e => nomatch e), (fun _ _ e => nomatch e), fun _ _ _ e => nomatch e⟩
theorem told_row1 (hp : isPr (.int p) = true) (ha : SqB kk K H a xs) (hx : Paired (Thing K H) xs os) (hol : ∀ o ∈ os, ∀ zs, o = some zs → zs.length ≤ 400) (hos : os.length ≤ 400)
    (hb : badRow p os = some i) (hu : xs[i]? = some u) (q : New2 K H Q "row" u) : spLTold K [.int 1, .int p, .ref a, .int m] H Q E := by
  have no : ∀ {p'}, some p = some p' → badRow p' os = none → False := fun e h => by
    obtain rfl := Option.some.inj e
    rw [hb] at h
    cases h
  exact .inr ⟨_, _, m, some p, kk, xs, os, rfl, .ok p hp, ha, hx, hol, hos, (fun z => nomatch z), (fun p' i' u' e hb' hu' => by
    obtain rfl := Option.some.inj e
    obtain rfl := Option.some.inj (hb.symm.trans hb')
    obtain rfl := Option.some.inj (hu.symm.trans hu')
    exact q), (fun _ e h => (no e h).elim), (fun _ _ e h => (no e h).elim), fun _ _ _ e h => (no e h).elim⟩
theorem told_count1 (hp : isPr (.int p) = true) (ha : SqB kk K H a xs) (hx : Paired (Thing K H) xs os) (hol : ∀ o ∈ os, ∀ zs, o = some zs → zs.length ≤ 400) (hos : os.length ≤ 400)
    (hb : badRow p os = none) (hm : ¬ (1 ≤ m ∧ m ≤ 40 ∧ (os ≠ [] → (wOf os : Int) = m))) (q : New2 K H Q "count" (.int m)) : spLTold K [.int 1, .int p, .ref a, .int m] H Q E :=
  .inr ⟨_, _, m, some p, kk, xs, os, rfl, .ok p hp, ha, hx, hol, hos, (fun z => nomatch z), (fun p' i' u' e hb' hu' => by
    obtain rfl := Option.some.inj e
    rw [hb] at hb'
    cases hb'), (fun p' e _ _ => by
    obtain rfl := Option.some.inj e
    exact q), (fun _ _ _ _ h => (hm h).elim), fun _ _ _ _ _ h => (hm h).elim⟩
end
/-- the first odd one behind rows of width n -/
theorem badRow_next {p : Int} {n : Nat} {rows : List (List Int)} {o : Option (List V)} {rest : List (Option (List V))} (h1 : 1 ≤ n) (hr : ∀ r ∈ rows, RowOk p n r) (hne : rows ≠ []) (ho : goodR p n o = false) : badRow p (someR rows ++ o :: rest) = some rows.length := by
  have hl : (someR rows).length = rows.length := by
    unfold someR
    rw [List.length_map]
  have hw : wOf (someR rows ++ o :: rest) = n := by
    cases rows with
    | nil => exact absurd rfl hne
    | cons r0 rr =>
      show (r0.map V.int).length = n
      rw [List.length_map, (hr r0 (.head _)).len]
  refine badRow_at (o := o) (by rw [List.getElem?_append_right (by omega), hl]; simp) (by rw [hw]; exact ho) fun j u hj hu => ?_
  rw [List.getElem?_append_left (by omega)] at hu
  unfold someR at hu
  rw [List.getElem?_map] at hu
  obtain ⟨r, hrj, rfl⟩ := Option.map_eq_some_iff.mp hu
  rw [hw]
  unfold goodR
  rw [decide_eq_true h1, Bool.true_and]
  exact (hr r (List.mem_of_getElem? hrj)).nums
theorem not_prime_N {p : Int} : isN p (.int p) = false := by
  show (decide (0 ≤ p) && decide (p < p)) = false
  rw [decide_eq_false (show ¬ p < p by omega), Bool.and_false]
theorem someR_take (rows : List (List Int)) (k : Nat) : (someR rows).take k = someR (rows.take k) := by
  unfold someR
  rw [List.map_take]
theorem cut_take (xs : List V) (k : Nat) : cutV xs none (some (k : Int)) = xs.take k := by
  unfold cutV
  rw [HT.sIx_none, HT.sIx_nat]
  simp
theorem cut_drop (xs : List V) (k : Nat) : cutV xs (some (k : Int)) none = xs.drop k := by
  unfold cutV
  rw [HT.sIx_none, HT.sIx_nat]
  by_cases h : k ≤ xs.length
  · rw [Nat.min_eq_left h, List.take_of_length_le (by simp)]
  · rw [Nat.min_eq_right (by omega), List.drop_of_length_le (Nat.le_refl _), List.drop_of_length_le (by omega)]
    simp
theorem paired_take {α β : Type} {F : α → β → Prop} : ∀ {xs : List α} {ys : List β} (k : Nat), Paired F xs ys → Paired F (xs.take k) (ys.take k)
  | _, _, 0, h => by cases h <;> exact .nil
  | _, _, k + 1, .nil => .nil
  | _, _, k + 1, .cons h t => .cons h (paired_take k t)
theorem paired_drop {α β : Type} {F : α → β → Prop} : ∀ {xs : List α} {ys : List β} (k : Nat), Paired F xs ys → Paired F (xs.drop k) (ys.drop k)
  | _, _, 0, h => h
  | _, _, k + 1, .nil => .nil
  | _, _, k + 1, .cons h t => paired_drop k t
end
end P

set_option Elab.async false
set_option linter.all false
set_option maxRecDepth 100000
set_option maxHeartbeats 4000000
namespace P
open PySem PySem.Spec PyProof.Rows L2 OS
/-! short ways: "rd" opens a reading as far as equations go; "sep" finds what stands apart from the state; "sq" a list that is read; "nx" two heaps -/
local macro_rules | `(tactic| walk_at "sep") => `(tactic| first | assumption | (refine (by assumption : Nx _ _ _) _ _ ?_; walk_at "sep"))
local macro_rules | `(tactic| walk_at "sq") => `(tactic| first | assumption | exact .inl (.inl (by assumption)) | exact Sep.sq (by walk_at "sep") | exact Sep.st (by walk_at "sep") | exact .inl (.inl upd_same))
local macro_rules | `(tactic| walk_at "rd") => `(tactic| repeat (first
  | refine And.intro rfl ?_
  | apply Exists.intro
  | refine And.intro (by assumption) ?_
  | refine And.intro (DrawOk.mk (by omega) (by omega) (by omega)) ?_
  | refine And.intro at0 ?_
  | refine And.intro ⟨_, rfl⟩ ?_
  | refine And.intro (by walk_at "sq") ?_
  | refine And.intro (Or.inl (by walk_at "sq")) ?_
  | refine And.intro (Or.inr (by walk_at "sq")) ?_
  | refine And.intro (by omega) ?_))

section
variable {P : Program} {w : World} {K : PySem.W.Frag} {mg : Str → Option Value} {base : Heap}

/-- what the loop asks: a plan and a thing -/
def PlanV (K : PySem.W.Frag) (H : Hp) (v : V) : Prop := ∃ b, v = .ref b ∧ ((∃ th og, SqT K H b [.int 0, th] ∧ Thing K H th og ∧ ∀ zs, og = some zs → zs.length ≤ 400) ∨ ∃ m : Int, SqT K H b [.int 1, .int m])
theorem PlanV.same {H H' : Hp} {v : V} (s : Same H H') (h : PlanV K H v) : PlanV K H' v := by
  obtain ⟨b, e, h⟩ := h
  refine ⟨b, e, h.imp (fun ⟨th, og, a, c, d⟩ => ⟨th, og, s.tupT a, c.same s, d⟩) fun ⟨m, a⟩ => ⟨m, s.tupT a⟩⟩
/-- _law_odd_row_first(state, modulus, table, aim) -/
def spLOddF (K : PySem.W.Frag) : Sp := fun vs H Q _ => ∃ (p : Addr) (m : Nat) (pr : Int) (n : Nat) (ta g : Addr) (xs : List V) (rows : List (List Int)) (al : List Int), vs = [.ref p, .int pr, .ref ta, .ref g] ∧ StAt H p m ∧ m ≤ 900000 ∧ isPr (.int pr) = true ∧ 1 ≤ n ∧ n ≤ 40 ∧ Sep H p ta (.lst xs) ∧ Paired (RowV K H) xs rows ∧ (∀ r ∈ rows, RowOk pr n r) ∧ rows.length ≤ 6 ∧ SqT K H g (al.map V.int) ∧ al.length = n ∧
  ∀ H' m', StAt H' p m' → m' ≤ m + 10 → Nx p H H' → Q (.bl true) H'
theorem ok_law_odd_row_first (T : Txt K mg) : FnOk P w K mg base CX0 7 T.f_law_odd_row_first T.fd_law_odd_row_first ["_law_state", "_law_modulus", "_law_table1", "_law_aim1"] (spLOddF K) := by
  refine T.F_law_odd_row_first.ok sc_law_odd_row_first (fun vs H Q E h => ?_) (fun cdv A outer s H vs Q E hr h => ?_)
  · obtain ⟨p, m, pr, n, ta, g, xs, rows, al, rfl, _⟩ := h
    rfl
  · obtain ⟨p, m, pr, n, ta, g, xs, rows, al, rfl, S, hm, hpr, h1, hn, hta, hx, hro, hrl, hg, hal, q⟩ := h
    have hp2 := pr_le hpr
    have hxl := paired_len hx
    refine ⟨_, (pss_cons (ps_set (i := 4) sc_law_odd_row_first.nd rfl (Or.inl rfl) (pe_lstO (pa_cons pe_non (pa_cons (pe_tupO pa_nil) (pa_cons (pe_callTy (T := "list") (r := rListS K) call_listS (by rfl) T.n_list (by decide +kernel) (pa_cons (pv 3) pa_nil)) (pa_cons (pe_op (r := rCatTO K) op_catTO (pe_slice (r := rSlTO K) sl_tupO (pv 3) po_none (po_some (pe_un un_neg pe_int))) (pe_tupO (pa_cons (pv 1) pa_nil))) (pa_cons (pe_op (r := rCatTO K) op_catTO (pe_tupO (pa_cons pe_bl pa_nil)) (pe_slice (r := rSlTO K) sl_tupO (pv 3) (po_some pe_int) po_none)) (pa_cons pe_int (pa_cons pe_str (pa_cons (pe_op (r := rCatTO K) op_catTO (pe_tupO (pa_cons (pe_un un_neg pe_int) pa_nil)) (pe_slice (r := rSlTO K) sl_tupO (pv 3) (po_some pe_int) po_none)) (pa_cons pe_dnewK pa_nil)))))))))))
    (pss_cons (ps_par (i := 5) (j := 6) rfl sc_law_odd_row_first.nd rfl rfl (by decide) rfl rfl (pa_cons (pe_ix (r := rIxL K) ix_list (pv 4) (pe_call (ok_law_draw T) (hr.mono (by decide)) (by rfl) T.g_law_draw T.F_law_draw.kp T.b_law_draw .nil pass0 (pa_cons (pv 0) (pa_cons pe_int pa_nil))) (fun _ _ => rfl)) (pa_cons (pe_ix (r := rIxL K) ix_list (pv 4) (pe_call (ok_law_draw T) (hr.mono (by decide)) (by rfl) T.g_law_draw T.F_law_draw.kp T.b_law_draw .nil pass0 (pa_cons (pv 0) (pa_cons pe_int pa_nil))) (fun _ _ => rfl)) pa_nil)) rfl)
    (pss_cons (ps_set (i := 7) sc_law_odd_row_first.nd rfl (Or.inl rfl) (pe_call (ok_law_draw T) (hr.mono (by decide)) (by rfl) T.g_law_draw T.F_law_draw.kp T.b_law_draw .nil pass0 (pa_cons (pv 0) (pa_cons (pe_op op_add (pe_callB (id := "len") (r := rLenS K) call_lenS (by rfl) T.n_len PySem.boot_len (pa_cons (pv 2) pa_nil)) pe_int) pa_nil))))
    (pss_cons (ps_set (i := 8) sc_law_odd_row_first.nd rfl (Or.inl rfl) (pe_op op_catO (pe_op op_catO (pe_op op_catO (pe_slice (r := rSlLO K) sl_listO (pv 2) po_none (po_some (pv 7))) (pe_lstO (pa_cons (pv 5) pa_nil))) (pe_slice (r := rSlLO K) sl_listO (pv 2) (po_some (pv 7)) po_none)) (pe_lstO (pa_cons (pv 6) pa_nil))))
    (pss_stop (ps_for PassesOwn.never rfl (pi_hold (pi_list (pe_lstO (pa_cons (pe_tupO (pa_cons pe_int (pa_cons (pv 3) pa_nil))) (pa_cons (pe_tupO (pa_cons pe_int (pa_cons (pe_callB (id := "len") (r := rLenS K) call_lenS (by rfl) T.n_len PySem.boot_len (pa_cons (pv 3) pa_nil)) pa_nil))) (pa_cons (pe_tupO (pa_cons pe_int (pa_cons pe_non pa_nil))) (pa_cons (pe_tupO (pa_cons pe_int (pa_cons pe_int pa_nil))) pa_nil))))))) (pg_tup rfl (pgs_cons (pg_name (i := 9) sc_law_odd_row_first.nd rfl (Or.inl rfl)) (pgs_cons (pg_name (i := 10) sc_law_odd_row_first.nd rfl (Or.inl rfl)) pgs_nil)))
      (pss_one (ps_if (pt_cmpR (r := rNeI K) (op_neI (room65 hr)) (pe_call (ok_law_told T) (hr.mono (by decide)) (by rfl) T.g_law_told T.F_law_told.kp T.b_law_told .nil pass0 (pa_cons (pv 9) (pa_cons (pv 1) (pa_cons (pv 8) (pa_cons (pv 10) pa_nil))))) (pe_lstO (pa_cons pe_str (pa_cons (pv 5) pa_nil))) (nomark _))
      (pss_one (ps_ret pe_bl)) pss_nil)))
    (pss_one (ps_ret pe_bl))))))), ?_⟩
    walk_at "rd"
    refine ⟨by decide, fun t0 H1 n1 s1 ht0 => ?_⟩
    have g1 := s1.tupT hg
    have g1' : SqL K H1 g (al.map V.int) ∨ SqT K H1 g (al.map V.int) := .inr g1
    walk_at "rd"
    intro l1 H2 n2 s2 hl1
    have g2 := s2.tupT g1
    walk_at "rd"
    intro t2 H3 s3 ht2
    walk_at "rd"
    refine ⟨by show 1 ≤ sizeLine; decide, fun t3 H4 n4 s4 ht3 => ?_⟩
    have c1 := cutV_length (al.map V.int) none (some (-1))
    have c2 := cutV_length (al.map V.int) (some 1) none
    rw [List.length_map, hal] at c1 c2
    refine ⟨t2, t3, _, _, rfl, rfl, s4.tupT ht2, SqT.of ht3, Nat.le_trans (show (cutV (al.map V.int) none (some (-1))).length + 1 ≤ 100 by omega) (by decide), fun t4 H5 s5 ht4 => ?_⟩
    have g5 := ((s3.trans s4).trans s5).tupT g2
    walk_at "rd"
    refine ⟨by show 1 ≤ sizeLine; decide, fun t5 H6 n6 s6 ht5 => ?_⟩
    have g6 := s6.tupT g5
    walk_at "rd"
    intro t6 H7 s7 ht6
    refine ⟨t5, t6, _, _, rfl, rfl, SqT.of (s7 _ _ ht5), ht6, Nat.le_trans (show 1 + (cutV (al.map V.int) (some 1) none).length ≤ 100 by omega) (by decide), fun t7 H8 s8 ht7 => ?_⟩
    walk_at "rd"
    refine ⟨by show 1 ≤ sizeLine; decide, fun t8 H9 n9 s9 ht8 => ?_⟩
    have g9 := ((s7.trans s8).trans s9).tupT g6
    walk_at "rd"
    intro t9 H10 s10 ht9
    refine ⟨t8, t9, _, _, rfl, rfl, SqT.of (s10 _ _ ht8), ht9, Nat.le_trans (show 1 + (cutV (al.map V.int) (some 1) none).length ≤ 100 by omega) (by decide), fun t10 H11 s11 ht10 => ?_⟩
    walk_at "rd"
    refine fun d hd => ?_
    have s12 : Same H11 (upd H11 d (.dK [])) := same_new hd
    have hde : (upd H11 d (.dK [])) d = some (.dK []) := upd_same
    generalize upd H11 d (.dK []) = H12 at s12 hde ⊢
    walk_at "rd"
    refine ⟨by show 9 ≤ sizeLine; decide, fun lo H13 n13 s13 hlo => ?_⟩
    have s2_12 : Same H2 H12 := ((((((((s3.trans s4).trans s5).trans s6).trans s7).trans s8).trans s9).trans s10).trans s11).trans s12
    have s1_12 : Same H1 H12 := s2.trans s2_12
    have s1_13 : Same H1 H13 := s1_12.trans s13
    have s0_13 := s1.trans s1_13
    have S13 := S.same s0_13
    have x13 := S.nx s0_13
    have slo := Sep.of_new S s0_13 ((s1.trans s1_12).free n13) hlo
    have sl1 : Sep H13 p l1 (.lst (al.map V.int)) := Sep.of_new S s0_13 (s1.free n2) ((s2_12.trans s13) _ _ hl1)
    have sd : Sep H13 p d (.dK []) := S13.sep (s13 _ _ hde) (fun _ z => by cases z)
    have flatI : ∀ {k : List V}, (∀ v ∈ k, flatV v = true) → ∀ x ∈ k, flatV x = true ∨ ∃ b zs, x = .ref b ∧ SqT K H13 b zs := fun h x hx => .inl (h x hx)
    have cutF : ∀ lo hi, ∀ v ∈ cutV (al.map V.int) lo hi, flatV v = true := fun lo hi v hv => ints_flat al v (List.mem_of_mem_drop (List.mem_of_mem_take hv))
    have appF : ∀ {k l : List V}, (∀ v ∈ k, flatV v = true) → (∀ v ∈ l, flatV v = true) → ∀ v ∈ k ++ l, flatV v = true := fun a b v hv => (List.mem_append.mp hv).elim (a v) (b v)
    have oneF : ∀ {y : V}, flatV y = true → ∀ v ∈ [y], flatV v = true := fun f v hv => by rw [List.mem_singleton.mp hv]; exact f
    have Z : ∀ v ∈ [V.non, .ref t0, .ref l1, .ref t4, .ref t7, .int 0, .str "a", .ref t10, .ref d], ∃ o, OddV K p H13 v o ∧ OddR pr o ∧ ∀ zs, o = some zs → zs.length ≤ 400 := fun v hv => by
      simp only [List.mem_cons, List.not_mem_nil, or_false] at hv
      rcases hv with rfl | rfl | rfl | rfl | rfl | rfl | rfl | rfl | rfl
      · exact ⟨none, .flat rfl, OddR.none _, fun _ e => by cases e⟩
      · exact ⟨_, .tup (SqT.of (s1_13 _ _ ht0)) (fun x hx => by cases hx), OddR.nil _, fun zs e => by cases e; decide⟩
      · exact ⟨none, .lst sl1, OddR.none _, fun _ e => by cases e⟩
      · refine ⟨_, .tup (((((((((s6.trans s7).trans s8).trans s9).trans s10).trans s11).trans s12).trans s13).tupT ht4)) (flatI (appF (cutF _ _) (oneF rfl))), OddR.item (v := .int pr) (List.mem_append.mpr (.inr (.head _))) not_prime_N, fun zs e => ?_⟩
        cases e
        rw [List.length_append]
        show (cutV (al.map V.int) none (some (-1))).length + 1 ≤ 400
        omega
      · refine ⟨_, .tup ((((((s9.trans s10).trans s11).trans s12).trans s13).tupT ht7)) (flatI (appF (oneF rfl) (cutF _ _))), OddR.item (v := .bl true) (List.mem_append.mpr (.inl (.head _))) rfl, fun zs e => ?_⟩
        cases e
        rw [List.length_append]
        show 1 + (cutV (al.map V.int) (some 1) none).length ≤ 400
        omega
      · exact ⟨none, .flat rfl, OddR.none _, fun _ e => by cases e⟩
      · exact ⟨none, .flat rfl, OddR.none _, fun _ e => by cases e⟩
      · refine ⟨_, .tup (((s12.trans s13).tupT ht10)) (flatI (appF (oneF rfl) (cutF _ _))), OddR.item (v := .int (-1)) (List.mem_append.mpr (.inl (.head _))) rfl, fun zs e => ?_⟩
        cases e
        rw [List.length_append]
        show 1 + (cutV (al.map V.int) (some 1) none).length ≤ 400
        omega
      · exact ⟨none, .dct sd, OddR.none _, fun _ e => by cases e⟩
    have hta13 := x13 _ _ hta
    have hx13 : Paired (RowV K H13) xs rows := L2.Paired.mapP hx fun _ _ z => z.same s0_13
    have g13 := s0_13.tupT hg
    clear sl1 sd flatI cutF appF oneF c1 c2 hde g9 g6 g5 g2 g1' g1 hlo s1_13
    clear ht0 hl1 ht2 ht3 ht4 ht5 ht6 ht7 ht8 ht9 ht10
    walk_at "rd"
    intro r1 H14 a14 b14 S14 x14
    obtain ⟨v1, hv1, hm1⟩ := at_pick (l := [V.non, .ref t0, .ref l1, .ref t4, .ref t7, .int 0, .str "a", .ref t10, .ref d]) a14 b14
    have hq14 := (x14 _ _ slo).sq (K := K)
    have hma : m + 1 ≤ 960000 := by omega
    have slo14 := x14 _ _ slo
    walk_at "rd"
    intro r2 H15 a15 b15 S15 x15
    obtain ⟨v2, hv2, hm2⟩ := at_pick (l := [V.non, .ref t0, .ref l1, .ref t4, .ref t7, .int 0, .str "a", .ref t10, .ref d]) a15 b15
    have hq15 := (x15 _ _ slo14).sq (K := K)
    have x16 := x14.trans x15
    obtain ⟨o1, ho1, hb1, hz1⟩ := Z v1 hm1
    obtain ⟨o2, ho2, hb2, hz2⟩ := Z v2 hm2
    have ho1' := ho1.nx S13 x16
    have ho2' := ho2.nx S13 x16
    have hta16 := x16 _ _ hta13
    have hqt16 := hta16.sq (K := K)
    have hx16 : Paired (RowV K H15) xs rows := L2.Paired.mapP hx13 fun v r z => by
      obtain ⟨b, e, h⟩ := z
      exact ⟨b, e, tupT_nx S13 x16 h⟩
    have g16 := tupT_nx S13 x16 g13
    clear Z ho1 ho2 hm1 hm2 slo slo14
    have hma2 : m + 1 + 1 ≤ 960000 := by omega
    walk_at "rd"
    intro k0 H17 a17 b17 S17 x17
    obtain ⟨k, rfl⟩ : ∃ k : Nat, k0 = (k : Int) := ⟨k0.toNat, by omega⟩
    have hq17 := (x17 _ _ hta16).sq (K := K)
    walk_at "rd"
    intro c1 H18 n18 s18 hc1
    walk_at "rd"
    refine ⟨by show 1 ≤ sizeLine; decide, fun c2 H19 n19 s19 hc2 => ?_⟩
    have e1 := cutV_length xs none (some (k : Int))
    have e2 := cutV_length xs (some (k : Int)) none
    refine ⟨c1, c2, _, _, rfl, rfl, s19 _ _ hc1, hc2, Nat.le_trans (show (cutV xs none (some (k : Int))).length + 1 ≤ 100 by omega) (by decide), fun c3 H20 n20 s20 hc3 => ?_⟩
    have hq20 := ((s18.trans s19).trans s20).seq hq17
    walk_at "rd"
    intro c4 H21 n21 s21 hc4
    refine ⟨c3, c4, _, _, rfl, rfl, s21 _ _ hc3, hc4, ?_, fun c5 H22 n22 s22 hc5 => ?_⟩
    · rw [List.length_append]
      exact Nat.le_trans (show (cutV xs none (some (k : Int))).length + 1 + (cutV xs (some (k : Int)) none).length ≤ 200 by omega) (by decide)
    walk_at "rd"
    refine ⟨by show 1 ≤ sizeLine; decide, fun c6 H23 n23 s23 hc6 => ?_⟩
    refine ⟨c5, c6, _, _, rfl, rfl, s23 _ _ hc5, hc6, ?_, fun mx H24 n24 s24 hmx => ?_⟩
    · rw [List.length_append, List.length_append]
      exact Nat.le_trans (show (cutV xs none (some (k : Int))).length + 1 + (cutV xs (some (k : Int)) none).length + 1 ≤ 200 by omega) (by decide)
    have s17_24 := ((((((s18.trans s19).trans s20).trans s21).trans s22).trans s23).trans s24)
    have S24 := S17.same s17_24
    have xx := x17.trans (S17.nx s17_24)
    have xall := (x13.trans x16).trans xx
    have hx24 : Paired (RowV K H24) xs rows := L2.Paired.mapP hx16 fun v r z => by
      obtain ⟨b, e, h⟩ := z
      exact ⟨b, e, tupT_nx S15 xx h⟩
    have g24 := tupT_nx S15 xx g16
    have o1' := (ho1'.nx S15 xx).thing
    have o2' := (ho2'.nx S15 xx).thing
    have hpx : Paired (Thing K H24) (xs.take k ++ v1 :: (xs.drop k ++ [v2])) (someR (rows.take k) ++ o1 :: (someR (rows.drop k) ++ [o2])) := OS.paired_app (rowsV_things (paired_take k hx24)) (.cons o1' (OS.paired_app (rowsV_things (paired_drop k hx24)) (.cons o2' .nil)))
    have hmq : SqL K H24 mx (xs.take k ++ v1 :: (xs.drop k ++ [v2])) := by
      rw [cut_take, cut_drop] at hmx
      have := SqL.of (K := K) hmx
      simpa using this
    have hat : (xs.take k ++ v1 :: (xs.drop k ++ [v2]))[(rows.take k).length]? = some v1 := by
      have : (rows.take k).length = (xs.take k).length := by rw [List.length_take, List.length_take, hxl]
      rw [this, List.getElem?_append_right (Nat.le_refl _), Nat.sub_self]
      rfl
    have hbr : ∀ rest, badRow pr (someR (rows.take k) ++ o1 :: rest) = some (rows.take k).length := fun rest => badRow_first (n := n) h1 (fun r hr => hro r (List.mem_of_mem_take hr)) hb1
    have hol : ∀ o ∈ someR (rows.take k) ++ o1 :: (someR (rows.drop k) ++ [o2]), ∀ zs, o = some zs → zs.length ≤ 400 := fun o ho zs e => by
      have rw1 : ∀ r ∈ rows, (r.map V.int).length ≤ 400 := fun r hr => by
        rw [List.length_map, (hro r hr).len]
        omega
      rcases List.mem_append.mp ho with h | h
      · obtain ⟨r, hr, rfl⟩ := List.mem_map.mp h
        cases e
        exact rw1 r (List.mem_of_mem_take hr)
      · rcases List.mem_cons.mp h with rfl | h
        · exact hz1 zs e
        · rcases List.mem_append.mp h with h | h
          · obtain ⟨r, hr, rfl⟩ := List.mem_map.mp h
            cases e
            exact rw1 r (List.mem_of_mem_drop hr)
          · rw [List.mem_singleton.mp h] at e
            exact hz2 zs e
    have hos : (someR (rows.take k) ++ o1 :: (someR (rows.drop k) ++ [o2])).length ≤ 400 := by
      unfold someR
      rw [List.length_append, List.length_map, List.length_cons, List.length_append, List.length_map, List.length_take, List.length_drop]
      show _ + (_ + 1 + 1) ≤ 400
      omega
    have hI1 := Thing.itm o1'
    clear hc1 hc2 hc3 hc4 hc5 hc6 hmx hq20 hq17 s18 s19 s20 s21 s22 s23 s24 s17_24 hx16 g16 ho1' ho2' hqt16 hta16 xx hx13 g13 hta13 s0_13
    refine Stop.cut (fun σ H' => ∃ (y9 y10 : Option V), σ = [some (.ref p), some (.int pr), some (.ref ta), some (.ref g), some (.ref lo), some v1, some v2, some (.int (k : Int)), some (.ref mx), y9, y10] ∧ Same H24 H') (fun Qz hz => ?_) ?_
    · walk_at "rd"
      refine ⟨by show 2 ≤ sizeLine; decide, fun b1 H25 n25 s25 hb1 => ?_⟩
      have g25 := s25.tupT g24
      walk_at "rd"
      refine ⟨by show 2 ≤ sizeLine; decide, fun b2 H26 n26 s26 hb2 => ?_⟩
      walk_at "rd"
      refine ⟨by show 2 ≤ sizeLine; decide, fun b3 H27 n27 s27 hb3 => ?_⟩
      walk_at "rd"
      refine ⟨by show 2 ≤ sizeLine; decide, fun b4 H28 n28 s28 hb4 => ?_⟩
      walk_at "rd"
      refine ⟨by show 4 ≤ sizeLine; decide, fun pl H29 n29 s29 hpl => ?_⟩
      have s2529 := (((s26.trans s27).trans s28).trans s29)
      have s2429 := s25.trans s2529
      have hplq : SqL K H29 pl [V.ref b1, .ref b2, .ref b3, .ref b4] := SqL.of hpl
      have hP : ∀ v ∈ [V.ref b1, .ref b2, .ref b3, .ref b4], PlanV K H29 v := fun v hv => by
        simp only [List.mem_cons, List.not_mem_nil, or_false] at hv
        rcases hv with rfl | rfl | rfl | rfl
        · exact ⟨b1, rfl, .inl ⟨_, _, SqT.of (s2529 _ _ hb1), thing_flat (s2529.tupT g25) (ints_flat al), fun zs e => by cases e; rw [List.length_map, hal]; omega⟩⟩
        · exact ⟨b2, rfl, .inr ⟨_, SqT.of (((s27.trans s28).trans s29) _ _ hb2)⟩⟩
        · exact ⟨b3, rfl, .inl ⟨_, _, SqT.of ((s28.trans s29) _ _ hb3), .flat rfl, fun _ e => by cases e⟩⟩
        · exact ⟨b4, rfl, .inr ⟨_, SqT.of (s29 _ _ hb4)⟩⟩
      refine ⟨_, rfl, ⟨_, hplq⟩, ⟨for_it (walk_list (xs := [V.ref b1, .ref b2, .ref b3, .ref b4])) (fun i σ H' => ∃ (y9 y10 : Option V), σ = [some (.ref p), some (.int pr), some (.ref ta), some (.ref g), some (.ref lo), some v1, some v2, some (.int (k : Int)), some (.ref mx), y9, y10] ∧ Same H29 H') ⟨none, none, rfl, Same.refl _⟩ (fun i σ H' _ ⟨_, _, _, s⟩ => s.seq hplq) ?_ ?_⟩⟩
      · rintro i x _ H30 H31 hil ⟨y9, y10, rfl, s30⟩ ⟨rfl, hxi⟩
        have s2430 := s2429.trans s30
        have hmq30 := s2430.seq hmq
        have hpx30 := L2.Paired.mapP hpx fun _ _ z => z.same s2430
        have hI30 := hI1.same s2430
        obtain ⟨b, rfl, hc⟩ := (hP x (List.mem_of_getElem? hxi)).same s30
        rcases hc with ⟨th, og, hb, hth, hzl⟩ | ⟨mm, hb⟩
        · walk_at "rd"
          refine told_row0 (E := E) (kk := false) (os := someR (rows.take k) ++ o1 :: (someR (rows.drop k) ++ [o2])) (u := v1) (i := (rows.take k).length) hpr hmq30 hpx30 hth (fun o ho => ?_) hos (by rw [List.append_assoc]; exact hbr _) (by rw [List.getElem?_append_left (by obtain ⟨h, _⟩ := List.getElem?_eq_some_iff.mp hat; exact h)]; exact hat) fun u H32 s32 hu => ?_
          · rcases List.mem_append.mp ho with h | h
            · exact hol o h
            · rw [List.mem_singleton.mp h]
              exact hzl
          walk_at "rd"
          refine ⟨by show 2 ≤ sizeLine; decide, fun l H33 n33 s33 hl => ?_⟩
          refine neI_same (s33.seq hu) (SqL.of hl) (hI30.same (s32.trans s33)) ?_
          refine ⟨false, rfl, iteF ?_⟩
          exact ⟨_, _, rfl, (s30.trans s32).trans s33⟩
        · walk_at "rd"
          refine told_row1 (E := E) (kk := false) (os := someR (rows.take k) ++ o1 :: (someR (rows.drop k) ++ [o2])) (u := v1) (i := (rows.take k).length) hpr hmq30 hpx30 hol hos (hbr _) hat fun u H32 s32 hu => ?_
          walk_at "rd"
          refine ⟨by show 2 ≤ sizeLine; decide, fun l H33 n33 s33 hl => ?_⟩
          refine neI_same (s33.seq hu) (SqL.of hl) (hI30.same (s32.trans s33)) ?_
          refine ⟨false, rfl, iteF ?_⟩
          exact ⟨_, _, rfl, (s30.trans s32).trans s33⟩
      · rintro σ H30 ⟨y9, y10, rfl, s30⟩
        exact hz _ _ ⟨y9, y10, rfl, s2429.trans s30⟩
    · rintro _ H30 ⟨y9, y10, rfl, s30⟩
      walk_at "rd"
      exact q H30 _ (S24.same s30) (by omega) (xall.trans (S24.nx s30))
end
end P

set_option Elab.async false
set_option linter.all false
set_option maxRecDepth 100000
set_option maxHeartbeats 4000000
namespace P
open PySem PySem.Spec PyProof.Rows L2 OS
/-! short ways: "rd" opens a reading as far as equations go; "sep" finds what stands apart from the state; "sq" a list that is read; "nx" two heaps -/
local macro_rules | `(tactic| walk_at "sep") => `(tactic| first | assumption | (refine (by assumption : Nx _ _ _) _ _ ?_; walk_at "sep"))
local macro_rules | `(tactic| walk_at "sq") => `(tactic| first | assumption | exact .inl (.inl (by assumption)) | exact Sep.sq (by walk_at "sep") | exact Sep.st (by walk_at "sep") | exact .inl (.inl upd_same))
local macro_rules | `(tactic| walk_at "rd") => `(tactic| repeat (first
  | refine And.intro rfl ?_
  | apply Exists.intro
  | refine And.intro (by assumption) ?_
  | refine And.intro (DrawOk.mk (by omega) (by omega) (by omega)) ?_
  | refine And.intro at0 ?_
  | refine And.intro ⟨_, rfl⟩ ?_
  | refine And.intro (by walk_at "sq") ?_
  | refine And.intro (Or.inl (by walk_at "sq")) ?_
  | refine And.intro (Or.inr (by walk_at "sq")) ?_
  | refine And.intro (by omega) ?_))

section
variable {P : Program} {w : World} {K : PySem.W.Frag} {mg : Str → Option Value} {base : Heap}

mutual
theorem dp_same {H H' : Hp} (s : Same H H') : ∀ (d : PyData) (v : V), Dp K H v d → Dp K H' v d
  | .none, _, h => by cases h; exact .non
  | .bool _, _, h => by cases h; exact .bl _
  | .int _, _, h => by cases h; exact .int _
  | .str _, _, h => by cases h; exact .str _
  | .list ds, _, h => by
    cases h with
    | lst h ha => exact .lst (s.seq h) (dp_sames s ds _ ha)
  | .tuple ds, _, h => by
    cases h with
    | tup h ha => exact .tup (s.tupT h) (dp_sames s ds _ ha)
  | .dict _, _, h => by cases h
theorem dp_sames {H H' : Hp} (s : Same H H') : ∀ (ds : List PyData) (vs : List V), DpAll K H vs ds → DpAll K H' vs ds
  | [], _, h => by cases h; exact .nil
  | d :: ds, _, h => by
    cases h with
    | cons h1 h2 => exact .cons (dp_same s d _ h1) (dp_sames s ds _ h2)
end
theorem dp_flat {H : Hp} : ∀ {xs : List V}, (∀ v ∈ xs, flatV v = true) → ∃ ds, DpAll K H xs ds ∧ PyData.depthAll ds = 0
  | [], _ => ⟨[], .nil, by simp [PyData.depthAll]⟩
  | v :: xs, h => by
    obtain ⟨ds, h1, h2⟩ := dp_flat (xs := xs) fun u hu => h u (.tail _ hu)
    have hv := h v (.head _)
    cases v with
    | non => exact ⟨_, .cons .non h1, by simp [PyData.depthAll, PyData.depth, h2]⟩
    | bl b => exact ⟨_, .cons (.bl b) h1, by simp [PyData.depthAll, PyData.depth, h2]⟩
    | int z => exact ⟨_, .cons (.int z) h1, by simp [PyData.depthAll, PyData.depth, h2]⟩
    | str z => exact ⟨_, .cons (.str z) h1, by simp [PyData.depthAll, PyData.depth, h2]⟩
    | _ => cases hv
/-- what the first loop asks for rows of width n: odd ones; a row with one number more is none of these -/
def MenV (K : PySem.W.Frag) (H : Hp) (pr : Int) (n : Nat) (e : PyData) (v : V) : Prop := ∃ o d, Thing K H v o ∧ (∀ zs, o = some zs → zs.length ≤ 400) ∧ goodR pr n o = false ∧ (OddR pr o ∨ d = e) ∧ Dp K H v d ∧ d.depth ≤ 60
theorem MenV.same {H H' : Hp} {pr : Int} {n : Nat} {e : PyData} {v : V} (s : Same H H') (h : MenV K H pr n e v) : MenV K H' pr n e v := by
  obtain ⟨o, d, a, b, c, f, g, i⟩ := h
  exact ⟨o, d, a.same s, b, c, f, dp_same s _ _ g, i⟩
theorem men_tup {H : Hp} {pr : Int} {n : Nat} {e : PyData} {a : Addr} {xs : List V} (h : SqT K H a xs) (hf : ∀ v ∈ xs, flatV v = true) (hl : xs.length ≤ 400) (ho : OddR pr (some xs)) : MenV K H pr n e (.ref a) := by
  obtain ⟨ds, h1, h2⟩ := dp_flat (K := K) (H := H) hf
  exact ⟨_, .tuple ds, thing_flat h hf, fun zs e => by cases e; exact hl, ho n, .inl ho, .tup h h1, by simp [PyData.depth, h2]⟩
theorem told_blind1 {p : Int} {n : Nat} {a : Addr} {kk : Bool} {xs : List V} {rows : List (List Int)} {H : Hp} {Q : VK} {E : XK} (hp : isPr (.int p) = true) (h1 : 1 ≤ n) (hn : n ≤ 40) (ha : SqB kk K H a xs) (hx : Paired (RowV K H) xs rows) (hr : ∀ r ∈ rows, RowOk p n r) (hl : rows.length ≤ 400)
    (q : ∀ v u H', Same H H' → BliV K H' v (solL p n (blindE rows n)) → SqL K H' u [.str (Str.ofString "told"), v] → Q (.ref u) H') : spLTold K [.int 1, .int p, .ref a, .int (n : Int)] H Q E := by
  have hb : badRow p (someR rows) = none := badRow_good h1 hr
  have hm : 1 ≤ (n : Int) ∧ (n : Int) ≤ 40 ∧ (someR rows ≠ [] → (wOf (someR rows) : Int) = n) := ⟨by omega, by omega, fun ne => by
    cases rows with
    | nil => exact absurd rfl ne
    | cons r0 rr =>
      show (((r0.map V.int).length : Nat) : Int) = n
      rw [List.length_map, (hr r0 (.head _)).len]⟩
  refine .inr ⟨_, a, n, some p, kk, xs, someR rows, rfl, .ok p hp, ha, rowsV_things hx, fun o ho zs e => ?_, by unfold someR; rw [List.length_map]; exact hl, (fun z => nomatch z), fun p' i u e hb' _ => ?_, fun p' e _ hnm => (hnm hm).elim, fun p' rows' e _ _ er hn' u H' s' hu => ?_, fun p' rows' ns e _ _ er hn' t u H' s' ht hu => ?_⟩
  · obtain ⟨r, hr', rfl⟩ := List.mem_map.mp ho
    obtain rfl := Option.some.inj e
    rw [List.length_map, (hr r hr').len]
    omega
  · obtain rfl := Option.some.inj e
    rw [hb] at hb'
    cases hb'
  · obtain rfl := Option.some.inj e
    obtain rfl := someR_inj er
    exact q _ u H' s' (.inl ⟨hn', rfl⟩) hu
  · obtain rfl := Option.some.inj e
    obtain rfl := someR_inj er
    exact q _ u H' s' (.inr ⟨t, ns, hn', rfl, ht⟩) hu
theorem wOf_rows {p : Int} {n : Nat} {rows : List (List Int)} (hr : ∀ r ∈ rows, RowOk p n r) (ne : rows ≠ []) : wOf (someR rows) = n := by
  cases rows with
  | nil => exact absurd rfl ne
  | cons r0 rr =>
    show (r0.map V.int).length = n
    rw [List.length_map, (hr r0 (.head _)).len]
/-- _law_refused(state, modulus, table, span) -/
def spLRef (K : PySem.W.Frag) : Sp := fun vs H Q _ => ∃ (p : Addr) (m : Nat) (pr : Int) (n : Nat) (ta : Addr) (xs : List V) (rows : List (List Int)), vs = [.ref p, .int pr, .ref ta, .int (n : Int)] ∧ StAt H p m ∧ m ≤ 800000 ∧ isPr (.int pr) = true ∧ 1 ≤ n ∧ n ≤ 40 ∧ Sep H p ta (.lst xs) ∧ Paired (RowV K H) xs rows ∧ (∀ r ∈ rows, RowOk pr n r) ∧ rows.length ≤ 6 ∧ ∀ H', Q (.bl true) H'
theorem ok_law_refused (T : Txt K mg) : FnOk P w K mg base CX0 8 T.f_law_refused T.fd_law_refused ["_law_state", "_law_modulus", "_law_table1", "_law_span1"] (spLRef K) := by
  refine T.F_law_refused.ok sc_law_refused (fun vs H Q E h => ?_) (fun cdv A outer s H vs Q E hr h => ?_)
  · obtain ⟨p, m, pr, n, ta, xs, rows, rfl, _⟩ := h
    rfl
  · obtain ⟨p, m, pr, n, ta, xs, rows, rfl, S, hm, hpr, h1, hn, hta, hx, hro, hrl, q⟩ := h
    have hp2 := pr_le hpr
    have hxl := paired_len hx
    refine ⟨_, (pss_cons (ps_set (i := 4) sc_law_refused.nd rfl (Or.inl rfl) (pe_callTy (T := "tuple") (r := rTupL K) call_tupL (by rfl) T.n_tuple (by decide +kernel) (pa_cons (pe_lc (own := [("_law_k", 5)]) (g := gName 5) (tt := tYes) rfl sc_law_refused.nd (pi_range1 rfl T.n_range (pa_cons (pv 3) pa_nil)) (blkOk_by (own := [("_law_k", 5)]) (N := N_law_refused) (sc := defScope s_law_refused) (by decide +kernel)) (fun _ _ _ _ _ => (pg_name (i := 5) sc_law_refused.nd rfl (Or.inl rfl))) (fun _ _ _ _ _ => pts_nil) (fun _ _ _ _ _ => pe_int)) pa_nil)))
    (pss_stop (ps_for PassesOwn.never rfl (pi_hold (pi_list (pe_lstO (pa_cons (pe_op (r := rCatTO K) op_catTO (pv 4) (pe_tupO (pa_cons pe_int pa_nil))) (pa_cons (pe_tupO pa_nil) (pa_cons pe_non (pa_cons (pe_callTy (T := "list") (r := rListS K) call_listS (by rfl) T.n_list (by decide +kernel) (pa_cons (pv 4) pa_nil)) (pa_cons (pe_op (r := rCatTO K) op_catTO (pe_slice (r := rSlTO K) sl_tupO (pv 4) po_none (po_some (pe_un un_neg pe_int))) (pe_tupO (pa_cons (pv 1) pa_nil))) (pa_cons (pe_op (r := rCatTO K) op_catTO (pe_slice (r := rSlTO K) sl_tupO (pv 4) po_none (po_some (pe_un un_neg pe_int))) (pe_tupO (pa_cons pe_bl pa_nil))) (pa_cons pe_int (pa_cons pe_str pa_nil))))))))))) (pg_name (i := 6) sc_law_refused.nd rfl (Or.inl rfl))
      (pss_stop (ps_if (PW.pt (pw_and (pt_cmpR (r := rNeP K) (op_neP (room65 hr)) (pv 6) (pv 4) (nomark _)) (pw_and (pt_cmpR (r := rNeNil K) (op_neNil (room65 hr)) (pv 2) (pe_lstO pa_nil) (nomark _)) (pw_and1 (pt_cmpR (r := rNeI K) (op_neI (room65 hr)) (pe_call (ok_law_told T) (hr.mono (by decide)) (by rfl) T.g_law_told T.F_law_told.kp T.b_law_told .nil pass0 (pa_cons pe_int (pa_cons (pv 1) (pa_cons (pv 2) (pa_cons (pv 6) pa_nil))))) (pe_lstO (pa_cons pe_str (pa_cons (pv 6) pa_nil))) (nomark _))))))
      (pss_one (ps_ret pe_bl)) pss_nil)
    (pss_stop (ps_if (PW.pt (pw_and (pt_cmpR (r := rNeP K) (op_neP (room65 hr)) (pv 6) (pv 4) (nomark _)) (pw_and1 (pt_cmpR (r := rNeI K) (op_neI (room65 hr)) (pe_call (ok_law_told T) (hr.mono (by decide)) (by rfl) T.g_law_told T.F_law_told.kp T.b_law_told .nil pass0 (pa_cons pe_int (pa_cons (pv 1) (pa_cons (pe_op op_catO (pv 2) (pe_lstO (pa_cons (pv 4) (pa_cons (pv 6) pa_nil)))) (pa_cons (pv 3) pa_nil))))) (pe_lstO (pa_cons pe_str (pa_cons (pv 6) pa_nil))) (nomark _)))))
      (pss_one (ps_ret pe_bl)) pss_nil)
    (pss_one (ps_if (PW.pt (pw_and (pt_cmpR (r := rEqNil K) (op_eqNil (room65 hr)) (pv 2) (pe_lstO pa_nil) (nomark _)) (pw_and (pt_cmpR (r := rNeP K) (op_neP (room65 hr)) (pv 6) (pe_op (r := rCatTO K) op_catTO (pv 4) (pe_tupO (pa_cons pe_int pa_nil))) (nomark _)) (pw_and1 (pt_cmpR (r := rNeI K) (op_neI (room65 hr)) (pe_call (ok_law_told T) (hr.mono (by decide)) (by rfl) T.g_law_told T.F_law_told.kp T.b_law_told .nil pass0 (pa_cons pe_int (pa_cons (pv 1) (pa_cons (pe_lstO pa_nil) (pa_cons (pv 6) pa_nil))))) (pe_lstO (pa_cons pe_str (pa_cons (pv 6) pa_nil))) (nomark _))))))
      (pss_one (ps_ret pe_bl)) pss_nil)))))
    (pss_cons (ps_if (pt_not (pt_val (pe_call (ok_law_odd_row_first T) (hr.mono (by decide)) (by rfl) T.g_law_odd_row_first T.F_law_odd_row_first.kp T.b_law_odd_row_first .nil pass0 (pa_cons (pv 0) (pa_cons (pv 1) (pa_cons (pv 2) (pa_cons (pv 4) pa_nil)))))))
      (pss_one (ps_ret pe_bl)) pss_nil)
    (pss_stop (ps_for PassesOwn.never rfl (pi_hold (pi_list (pe_lstO (pa_cons pe_int (pa_cons pe_int (pa_cons (pe_un un_neg pe_int) (pa_cons pe_non (pa_cons pe_bl (pa_cons pe_str (pa_cons (pe_tupO (pa_cons pe_int pa_nil)) (pa_cons (pe_lstO (pa_cons pe_int pa_nil)) (pa_cons pe_dnewK pa_nil)))))))))))) (pg_name (i := 6) sc_law_refused.nd rfl (Or.inl rfl))
      (pss_stop (ps_if (PW.pt (pw_or (pt_cmpR (r := rNeI K) (op_neI (room65 hr)) (pe_call (ok_law_told T) (hr.mono (by decide)) (by rfl) T.g_law_told T.F_law_told.kp T.b_law_told .nil pass0 (pa_cons pe_int (pa_cons (pv 6) (pa_cons (pv 2) (pa_cons (pv 4) pa_nil))))) (pe_lstO (pa_cons pe_str (pa_cons (pv 6) pa_nil))) (nomark _)) (pw_or1 (pt_cmpR (r := rNeI K) (op_neI (room65 hr)) (pe_call (ok_law_told T) (hr.mono (by decide)) (by rfl) T.g_law_told T.F_law_told.kp T.b_law_told .nil pass0 (pa_cons pe_int (pa_cons (pv 6) (pa_cons (pv 2) (pa_cons (pv 3) pa_nil))))) (pe_lstO (pa_cons pe_str (pa_cons (pv 6) pa_nil))) (nomark _)))))
      (pss_one (ps_ret pe_bl)) pss_nil)
    (pss_one (ps_if (PW.pt (pw_or (pt_cmpR (r := rNeI K) (op_neI (room65 hr)) (pe_call (ok_law_told T) (hr.mono (by decide)) (by rfl) T.g_law_told T.F_law_told.kp T.b_law_told .nil pass0 (pa_cons pe_int (pa_cons (pv 6) (pa_cons (pe_lstO (pa_cons pe_non pa_nil)) (pa_cons pe_non pa_nil))))) (pe_lstO (pa_cons pe_str (pa_cons (pv 6) pa_nil))) (nomark _)) (pw_or1 (pt_cmpR (r := rNeI K) (op_neI (room65 hr)) (pe_call (ok_law_told T) (hr.mono (by decide)) (by rfl) T.g_law_told T.F_law_told.kp T.b_law_told .nil pass0 (pa_cons pe_int (pa_cons (pv 6) (pa_cons (pe_lstO (pa_cons pe_non pa_nil)) (pa_cons pe_int pa_nil))))) (pe_lstO (pa_cons pe_str (pa_cons (pv 6) pa_nil))) (nomark _)))))
      (pss_one (ps_ret pe_bl)) pss_nil))))
    (pss_stop (ps_for PassesOwn.never rfl (pi_hold (pi_list (pe_lstO (pa_cons pe_int (pa_cons pe_int (pa_cons (pe_un un_neg pe_int) (pa_cons (pe_op op_add (pv 3) pe_int) (pa_cons (pe_op op_sub (pv 3) pe_int) pa_nil)))))))) (pg_name (i := 6) sc_law_refused.nd rfl (Or.inl rfl))
      (pss_one (ps_if (PW.pt (pw_and (PW.pt (pw_or (pt_cmpR op_lt (pv 6) pe_int (nomark _)) (pw_or (pt_cmpR op_gt (pv 6) pe_int (nomark _)) (pw_or1 (pt_cmpR (r := rNeNil K) (op_neNil (room65 hr)) (pv 2) (pe_lstO pa_nil) (nomark _)))))) (pw_and1 (pt_cmpR (r := rNeI K) (op_neI (room65 hr)) (pe_call (ok_law_told T) (hr.mono (by decide)) (by rfl) T.g_law_told T.F_law_told.kp T.b_law_told .nil pass0 (pa_cons pe_int (pa_cons (pv 1) (pa_cons (pv 2) (pa_cons (pv 6) pa_nil))))) (pe_lstO (pa_cons pe_str (pa_cons (pv 6) pa_nil))) (nomark _)))))
      (pss_one (ps_ret pe_bl)) pss_nil)))
    (pss_stop (ps_if (PW.pt (pw_and (pt_cmpR (r := rNeP K) (op_neP (room65 hr)) (pe_call (ok_law_told T) (hr.mono (by decide)) (by rfl) T.g_law_told T.F_law_told.kp T.b_law_told .nil pass0 (pa_cons pe_int (pa_cons (pv 1) (pa_cons (pe_lstO pa_nil) (pa_cons pe_int pa_nil))))) (pe_lstO (pa_cons pe_str (pa_cons (pe_callTy (T := "tuple") (r := rTupL K) call_tupL (by rfl) T.n_tuple (by decide +kernel) (pa_cons (pe_op op_catO (pe_lstO (pa_cons pe_int pa_nil)) (pe_op op_mulL (pe_lstO (pa_cons pe_int pa_nil)) pe_int)) pa_nil)) pa_nil))) (nomark _)) (pw_and1 (pt_not (pt_val (pe_call (ok_law_wide_blind T) (hr.mono (by decide)) (by rfl) T.g_law_wide_blind T.F_law_wide_blind.kp T.b_law_wide_blind .nil pass0 (pa_cons (pv 1) pa_nil)))))))
      (pss_one (ps_ret pe_bl)) pss_nil)
    (pss_one (ps_ret (pe_and (pe_cmpR (r := rEqP K) (op_eqP (room65 hr)) (pe_ix (r := rIxL K) ix_list (pe_call (ok_law_told T) (hr.mono (by decide)) (by rfl) T.g_law_told T.F_law_told.kp T.b_law_told .nil pass0 (pa_cons pe_int (pa_cons (pv 1) (pa_cons (pe_op op_catO (pv 2) (pe_lstO (pa_cons (pe_tupO pa_nil) pa_nil))) (pa_cons (pv 4) pa_nil))))) pe_int (fun _ _ => rfl)) pe_str (nomark _)) (pe_one (pe_cmpR (r := rEqP K) (op_eqP (room65 hr)) (pe_call (ok_law_told T) (hr.mono (by decide)) (by rfl) T.g_law_told T.F_law_told.kp T.b_law_told .nil pass0 (pa_cons pe_int (pa_cons (pv 1) (pa_cons (pe_lstO (pa_cons (pe_tupO pa_nil) pa_nil)) (pa_cons (pv 3) pa_nil))))) (pe_lstO (pa_cons pe_str (pa_cons (pe_tupO pa_nil) pa_nil))) (nomark _)))))))))))), ?_⟩
    refine ⟨.int (n : Int), rfl, (n : Int), rfl, by omega, by omega, fun D hD => ?_⟩
    refine lc_fn walk_range (xs := List.range n) (by simp) (by omega) (fun _ => true) (fun _ => V.int 0) hD (fun _ _ => trivial) ?_ ?_
    · intro i a x H1 H2 Qk Qn hi2 sm hy hk hnn
      obtain ⟨rfl, rfl⟩ := hy
      walk_at "rd"
      exact hk rfl _ (Same.refl _)
    intro H1 s1 hD1
    obtain ⟨al, hal⟩ : ∃ al : List Int, al = List.replicate n 0 := ⟨_, rfl⟩
    have ealL : ((List.range n).filter fun _ => true).map (fun _ => V.int 0) = al.map V.int := by
      rw [List.filter_eq_self.mpr (fun _ _ => rfl), List.map_const', List.length_range, hal, List.map_replicate]
    rw [ealL] at hD1
    have hgr : RowOk pr n al := by
      rw [hal]
      exact ⟨List.length_replicate, fun i hi => by rw [(List.mem_replicate.mp hi).2]; omega⟩
    have hDq : SqL K H1 D (al.map V.int) := SqL.of hD1
    clear ealL
    walk_at "rd"
    intro g H2 n2 s2 hg0
    have s02 := s1.trans s2
    have S2 := S.same s02
    have hta2 := S.nx s02 _ _ hta
    have hx2 : Paired (RowV K H2) xs rows := L2.Paired.mapP hx fun _ _ z => z.same s02
    have hg : SqT K H2 g (al.map V.int) := SqT.of hg0
    clear hDq hD1 hg0 hx s02 s1 s2 hD
    have htq := hta2.sq (K := K)
    have hthings := rowsV_things hx2
    have hrwl : ∀ r ∈ rows, (r.map V.int).length ≤ 400 := fun r hr => by
      rw [List.length_map, (hro r hr).len]
      omega
    have hallen : (al.map V.int).length = n := by rw [List.length_map, hgr.len]
    have hol : ∀ o ∈ someR rows, ∀ zs, o = some zs → zs.length ≤ 400 := fun o ho zs e => by
      obtain ⟨r, hr, rfl⟩ := List.mem_map.mp ho
      cases e
      exact hrwl r hr
    have hsl : (someR rows).length = rows.length := by
      unfold someR
      rw [List.length_map]
    have hos : (someR rows).length ≤ 400 := by omega
    have hgth : Thing K H2 (.ref g) (some (al.map V.int)) := thing_flat hg (ints_flat al)
    refine Stop.cut (fun σ H' => ∃ (y6 : Option V), σ = [some (.ref p), some (.int pr), some (.ref ta), some (.int (n : Int)), some (.ref g), none, y6] ∧ Same H2 H') (fun Qz hz => ?_) ?_
    · walk_at "rd"
      refine ⟨by show 1 ≤ sizeLine; decide, fun t1 Ha na sa ht1 => ?_⟩
      refine ⟨g, t1, _, _, rfl, rfl, sa.tupT hg, SqT.of ht1, Nat.le_trans (show (al.map V.int).length + 1 ≤ 100 by omega) (by decide), fun t2 Hb sb ht2 => ?_⟩
      walk_at "rd"
      refine ⟨by decide, fun t3 Hc nc sc3 ht3 => ?_⟩
      have gc := ((sa.trans sb).trans sc3).tupT hg
      have gc' : SqL K Hc g (al.map V.int) ∨ SqT K Hc g (al.map V.int) := .inr gc
      walk_at "rd"
      intro l4 Hd nd sd hl4
      have gd := sd.tupT gc
      walk_at "rd"
      intro t5 He se ht5
      walk_at "rd"
      refine ⟨by show 1 ≤ sizeLine; decide, fun t6 Hf nf sf ht6 => ?_⟩
      have c1 := cutV_length (al.map V.int) none (some (-1))
      rw [hallen] at c1
      refine ⟨t5, t6, _, _, rfl, rfl, sf.tupT ht5, SqT.of ht6, Nat.le_trans (show (cutV (al.map V.int) none (some (-1))).length + 1 ≤ 100 by omega) (by decide), fun t7 Hg sg ht7 => ?_⟩
      have gg := ((se.trans sf).trans sg).tupT gd
      walk_at "rd"
      intro t8 Hh sh ht8
      walk_at "rd"
      refine ⟨by show 1 ≤ sizeLine; decide, fun t9 Hi ni si ht9 => ?_⟩
      refine ⟨t8, t9, _, _, rfl, rfl, si.tupT ht8, SqT.of ht9, Nat.le_trans (show (cutV (al.map V.int) none (some (-1))).length + 1 ≤ 100 by omega) (by decide), fun t10 Hj sj ht10 => ?_⟩
      walk_at "rd"
      refine ⟨by show 8 ≤ sizeLine; decide, fun ml Hk nk sk hml => ?_⟩
      have hmlq : SqL K Hk ml [V.ref t2, .ref t3, .non, .ref l4, .ref t7, .ref t10, .int 0, .str "a"] := SqL.of hml
      have s7k := ((sh.trans si).trans sj).trans sk
      have s4k := ((se.trans sf).trans sg).trans s7k
      have s2k := (sc3.trans sd).trans s4k
      have s0k := (sa.trans sb).trans s2k
      have cutF : ∀ lo hi, ∀ v ∈ cutV (al.map V.int) lo hi, flatV v = true := fun lo hi v hv => ints_flat al v (List.mem_of_mem_drop (List.mem_of_mem_take hv))
      have appF : ∀ {k l : List V}, (∀ v ∈ k, flatV v = true) → (∀ v ∈ l, flatV v = true) → ∀ v ∈ k ++ l, flatV v = true := fun a b v hv => (List.mem_append.mp hv).elim (a v) (b v)
      have oneF : ∀ {y : V}, flatV y = true → ∀ v ∈ [y], flatV v = true := fun f v hv => by rw [List.mem_singleton.mp hv]; exact f
      have hM : ∀ v ∈ [V.ref t2, .ref t3, .non, .ref l4, .ref t7, .ref t10, .int 0, .str "a"], MenV K Hk pr n (.tuple ((al ++ [0]).map .int)) v := fun v hv => by
        simp only [List.mem_cons, List.not_mem_nil, or_false] at hv
        rcases hv with rfl | rfl | rfl | rfl | rfl | rfl | rfl | rfl
        · have e : al.map V.int ++ [V.int 0] = (al ++ [0]).map V.int := by rw [List.map_append]; rfl
          rw [e] at ht2
          have h2 := s2k.tupT ht2
          refine ⟨_, _, thing_flat h2 (ints_flat _), fun zs e => ?_, ?_, .inr rfl, dp_intsT h2, by simp only [PyData.depth, depth_ints]; decide⟩
          · cases e
            rw [List.length_map, List.length_append, hgr.len]
            show n + 1 ≤ 400
            omega
          · cases eg : goodR pr n (some ((al ++ [0]).map V.int)) with
            | false => rfl
            | true =>
              obtain ⟨_, r, hr', hro'⟩ := good_row eg
              have := hro'.len
              rw [← gl_inj hr', List.length_append, hgr.len] at this
              simp at this
        · exact men_tup (SqT.of ((sd.trans s4k) _ _ ht3)) (fun v hv => by cases hv) (by decide) (OddR.nil _)
        · exact ⟨none, _, .flat rfl, (fun _ e => by cases e), OddR.none _ n, .inl (OddR.none _), .non, by simp [PyData.depth]⟩
        · exact ⟨none, _, .lst (SqL.of (s4k _ _ hl4)), (fun _ e => by cases e), OddR.none _ n, .inl (OddR.none _), .lst (SqL.of (s4k _ _ hl4)) (dp_all (fun z => .int z) al), by simp only [PyData.depth, depth_ints]; decide⟩
        · exact men_tup (s7k.tupT ht7) (appF (cutF _ _) (oneF rfl)) (by rw [List.length_append]; show _ + 1 ≤ 400; omega) (OddR.item (v := .int pr) (List.mem_append.mpr (.inr (.head _))) not_prime_N)
        · exact men_tup (sk.tupT ht10) (appF (cutF _ _) (oneF rfl)) (by rw [List.length_append]; show _ + 1 ≤ 400; omega) (OddR.item (v := .bl true) (List.mem_append.mpr (.inr (.head _))) rfl)
        · exact ⟨none, _, .flat rfl, (fun _ e => by cases e), OddR.none _ n, .inl (OddR.none _), .int _, by simp [PyData.depth]⟩
        · exact ⟨none, _, .flat rfl, (fun _ e => by cases e), OddR.none _ n, .inl (OddR.none _), .str _, by simp [PyData.depth]⟩
      clear cutF appF oneF c1 gg gd gc gc' ht1 ht2 ht3 hl4 ht5 ht6 ht7 ht8 ht9 ht10 hml
      refine ⟨_, rfl, ⟨_, hmlq⟩, ⟨for_it (walk_list (xs := [V.ref t2, .ref t3, .non, .ref l4, .ref t7, .ref t10, .int 0, .str "a"])) (fun i σ H' => ∃ (y6 : Option V), σ = [some (.ref p), some (.int pr), some (.ref ta), some (.int (n : Int)), some (.ref g), none, y6] ∧ Same Hk H') ⟨none, rfl, Same.refl _⟩ (fun i σ H' _ ⟨_, _, s⟩ => s.seq hmlq) ?_ ?_⟩⟩
      · rintro i x _ Hy Hz hil ⟨y6, rfl, sy⟩ ⟨rfl, hxi⟩
        obtain ⟨o, d, hth, hzl, hgo, hor, hdp, hdep⟩ := (hM x (List.mem_of_getElem? hxi)).same sy
        have s0y := s0k.trans sy
        have gy := s0y.tupT hg
        have hIx := Thing.itm hth
        have htqy := s0y.seq htq
        have hthy := L2.Paired.mapP hthings fun _ _ z => z.same s0y
        refine Stop.cut (fun σ H' => σ = [some (.ref p), some (.int pr), some (.ref ta), some (.int (n : Int)), some (.ref g), none, some x] ∧ Same Hz H') (fun Qz2 hz2 => ?_) ?_
        · refine ⟨x, rfl, .ref g, rfl, d, _, hdp, dp_intsT gy, hdep, ?_⟩
          refine ⟨_, rfl, ite2 (fun _ => ?_) (fun _ => iteF (hz2 _ _ ⟨rfl, Same.refl _⟩))⟩
          refine ⟨.ref ta, rfl, by decide, fun l5 H5 n5 s5 hl5 => ?_⟩
          refine ⟨ta, l5, _, rfl, rfl, s5.seq htqy, SqL.of hl5, ?_⟩
          refine ⟨_, rfl, ite2 (fun e => ?_) (fun _ => iteF (hz2 _ _ ⟨rfl, s5⟩))⟩
          have hne : rows ≠ [] := fun z => by
            rw [z] at hxl
            rw [List.eq_nil_of_length_eq_zero hxl] at e
            cases e
          refine ⟨.int pr, rfl, .ref ta, rfl, x, rfl, ?_⟩
          refine tNil_i ?_
          refine told_row0 (E := E) (kk := false) (u := x) (i := rows.length) hpr (s5.seq htqy) (L2.Paired.mapP hthy fun _ _ z => z.same s5) (hth.same s5) (fun o' ho => (List.mem_append.mp ho).elim (hol o') fun z => by rw [List.mem_singleton.mp z]; exact hzl) hos (badRow_next h1 hro hne hgo) (by rw [← hxl, List.getElem?_append_right (Nat.le_refl _), Nat.sub_self]; rfl) fun u H6 s6 hu => ?_
          walk_at "rd"
          refine ⟨by show 2 ≤ sizeLine; decide, fun l H8 n8 s8 hl8 => ?_⟩
          refine neI_same (s8.seq hu) (SqL.of hl8) (hIx.same ((s5.trans s6).trans s8)) ?_
          refine ⟨false, rfl, iteF ?_⟩
          exact hz2 _ _ ⟨rfl, (s5.trans s6).trans s8⟩
        · rintro _ H4 ⟨rfl, s4⟩
          have s04 := s0y.trans s4
          refine Stop.cut (fun σ H' => σ = [some (.ref p), some (.int pr), some (.ref ta), some (.int (n : Int)), some (.ref g), none, some x] ∧ Same Hz H') (fun Qz2 hz2 => ?_) ?_
          · refine ⟨x, rfl, .ref g, rfl, d, _, dp_same s4 _ _ hdp, dp_intsT (s4.tupT gy), hdep, ?_⟩
            refine ⟨_, rfl, ite2 (fun _ => ?_) (fun _ => iteF (hz2 _ _ ⟨rfl, s4⟩))⟩
            refine ⟨.int pr, rfl, .ref ta, rfl, .ref g, rfl, x, rfl, by show 2 ≤ sizeLine; decide, fun l5 H5 n5 s5 hl5 => ?_⟩
            refine ⟨ta, l5, xs, _, rfl, rfl, (s04.trans s5) _ _ hta2.at_, hl5, ?_, fun l6 H6 n6 s6 hl6 => ?_⟩
            · exact Nat.le_trans (show xs.length + 2 ≤ 100 by omega) (by decide)
            have s46 := s5.trans s6
            refine ⟨.int (n : Int), rfl, ?_⟩
            refine tNil_i ?_
            have hpx : Paired (Thing K H6) (xs ++ [.ref g, x]) (someR (rows ++ [al]) ++ [o]) := by
              rw [show xs ++ [.ref g, x] = (xs ++ [.ref g]) ++ [x] by simp]
              rw [← someR_app]
              exact OS.paired_app (OS.paired_app (L2.Paired.mapP hthy fun _ _ z => z.same (s4.trans s46)) (.cons (hgth.same (s04.trans s46)) .nil)) (.cons (hth.same (s4.trans s46)) .nil)
            have hall : ∀ r ∈ rows ++ [al], RowOk pr n r := fun r h => (List.mem_append.mp h).elim (hro r) fun z => by rw [List.mem_singleton.mp z]; exact hgr
            refine told_row1 (E := E) (kk := false) (u := x) (i := (rows ++ [al]).length) hpr (SqL.of hl6) hpx (fun o' ho zs e => ?_) (by unfold someR; rw [List.length_append, List.length_map, List.length_append]; show _ + 1 + 1 ≤ 400; omega) (badRow_next h1 hall (by simp) hgo) (by
              rw [show xs ++ [V.ref g, x] = (xs ++ [.ref g]) ++ [x] by simp, show (rows ++ [al]).length = (xs ++ [V.ref g]).length by simp [hxl], List.getElem?_append_right (Nat.le_refl _), Nat.sub_self]
              rfl) fun u H7 s7 hu => ?_
            · rcases List.mem_append.mp ho with h | h
              · obtain ⟨r, hr', rfl⟩ := List.mem_map.mp h
                cases e
                rw [List.length_map, (hall r hr').len]
                omega
              · rw [List.mem_singleton.mp h] at e
                exact hzl zs e
            walk_at "rd"
            refine ⟨by show 2 ≤ sizeLine; decide, fun l H8 n8 s8 hl8 => ?_⟩
            refine neI_same (s8.seq hu) (SqL.of hl8) (hIx.same (((s4.trans s46).trans s7).trans s8)) ?_
            refine ⟨false, rfl, iteF ?_⟩
            exact hz2 _ _ ⟨rfl, ((s4.trans s46).trans s7).trans s8⟩
          · rintro _ H5 ⟨rfl, s5⟩
            have s05 := s0y.trans s5
            have fin : ∀ H', Same Hz H' → ∃ (y6 : Option V), [some (.ref p), some (.int pr), some (.ref ta), some (.int (n : Int)), some (.ref g), none, some x] = [some (.ref p), some (.int pr), some (.ref ta), some (.int (n : Int)), some (.ref g), none, y6] ∧ Same Hk H' := fun H' s' => ⟨_, rfl, sy.trans s'⟩
            refine ⟨.ref ta, rfl, by decide, fun l6 H6 n6 s6 hl6 => ?_⟩
            refine ⟨ta, l6, _, rfl, rfl, (s05.trans s6).seq htq, SqL.of hl6, ?_⟩
            refine ⟨_, rfl, ite2 (fun _ => ?_) (fun _ => iteF (fin _ (s5.trans s6)))⟩
            refine ⟨x, rfl, .ref g, rfl, by show 1 ≤ sizeLine; decide, fun t7 H7 n7 s7 ht7 => ?_⟩
            have s57 := (s5.trans s6).trans s7
            refine ⟨g, t7, _, _, rfl, rfl, (s0y.trans s57).tupT hg, SqT.of ht7, Nat.le_trans (show (al.map V.int).length + 1 ≤ 100 by omega) (by decide), fun t8 H8 s8' ht8 => ?_⟩
            rw [show al.map V.int ++ [V.int 0] = (al ++ [0]).map V.int by rw [List.map_append]; rfl] at ht8
            have s58 := s57.trans s8'
            refine ⟨d, _, dp_same s58 _ _ hdp, dp_intsT ht8, hdep, ?_⟩
            refine ⟨_, rfl, ite2 (fun e => ?_) (fun _ => iteF (fin _ s58))⟩
            have hor2 : OddR pr o := by
              rcases hor with h | h
              · exact h
              · rw [h, SeqAt.eqv_refl_plain _ (by rw [← h]; exact dp_plain d _ hdp)] at e
                cases e
            refine ⟨.int pr, rfl, by decide, fun l9 H9 n9 s9 hl9 => ?_⟩
            refine ⟨x, rfl, ?_⟩
            refine tNil_i ?_
            refine told_row0 (E := E) (kk := false) (os := []) (u := x) (i := 0) hpr (SqL.of hl9) .nil (hth.same (s58.trans s9)) (fun o' ho => by rw [List.mem_singleton.mp ho]; exact hzl) (by decide) (badRow_first (n := 1) (rows := []) (Nat.le_refl _) (fun _ h => nomatch h) hor2) rfl fun u H10 s10 hu => ?_
            walk_at "rd"
            refine ⟨by show 2 ≤ sizeLine; decide, fun l H8 n8 s8 hl8 => ?_⟩
            refine neI_same (s8.seq hu) (SqL.of hl8) (hIx.same (((s58.trans s9).trans s10).trans s8)) ?_
            refine ⟨false, rfl, iteF ?_⟩
            exact fin _ (((s58.trans s9).trans s10).trans s8)
      · rintro σ H30 ⟨y6, rfl, s30⟩
        exact hz _ _ ⟨y6, rfl, s0k.trans s30⟩
    · rintro _ H3 ⟨y6, rfl, s3⟩
      have S3 := S2.same s3
      have hta3 := S2.nx s3 _ _ hta2
      have hx3 : Paired (RowV K H3) xs rows := L2.Paired.mapP hx2 fun _ _ z => z.same s3
      have hg3 := s3.tupT hg
      have hq3 := hta3.sq (K := K)
      have hm9 : m ≤ 900000 := by omega
      have hgl := hgr.len
      refine ⟨.ref p, rfl, .int pr, rfl, .ref ta, rfl, .ref g, rfl, ?_⟩
      refine tNil_i ?_
      refine ⟨p, m, pr, n, ta, g, xs, rows, al, rfl, S3, hm9, hpr, h1, hn, hta3, hx3, hro, hrl, hg3, hgl, fun H4 m4 S4 hm4 x4 => ?_⟩
      refine ⟨true, rfl, iteF ?_⟩
      have hta4 := x4 _ _ hta3
      have hq4 := hta4.sq (K := K)
      have hx4 : Paired (RowV K H4) xs rows := L2.Paired.mapP hx3 fun v r z => by
        obtain ⟨b, e, h⟩ := z
        exact ⟨b, e, tupT_nx S3 x4 h⟩
      have hg4 := tupT_nx S3 x4 hg3
      have hth4 := rowsV_things hx4
      have hgt4 : Thing K H4 (.ref g) (some (al.map V.int)) := thing_flat hg4 (ints_flat al)
      have holg : ∀ o ∈ someR rows ++ [some (al.map V.int)], ∀ zs, o = some zs → zs.length ≤ 400 := fun o ho => (List.mem_append.mp ho).elim (hol o) fun z zs e => by
        rw [List.mem_singleton.mp z] at e
        cases e
        omega
      clear hthings hgth htq hx2 hx3 hq3 hg3 hg
      refine Stop.cut (fun σ H' => ∃ (y6 : Option V), σ = [some (.ref p), some (.int pr), some (.ref ta), some (.int (n : Int)), some (.ref g), none, y6] ∧ Same H4 H') (fun Qz hz => ?_) ?_
      · walk_at "rd"
        refine ⟨by show 1 ≤ sizeLine; decide, fun t1 H5 n5 s5 ht1 => ?_⟩
        walk_at "rd"
        refine ⟨by show 1 ≤ sizeLine; decide, fun l2 H6 n6 s6 hl2 => ?_⟩
        walk_at "rd"
        refine fun dd hd => ?_
        have s7 : Same H6 (upd H6 dd (.dK [])) := same_new hd
        have hde : (upd H6 dd (.dK [])) dd = some (.dK []) := upd_same
        generalize upd H6 dd (.dK []) = H7 at s7 hde ⊢
        walk_at "rd"
        refine ⟨by show 9 ≤ sizeLine; decide, fun ml H8 n8 s8 hml => ?_⟩
        have hmlq : SqL K H8 ml [V.int 0, .int 4, .int (-3), .non, .bl true, .str "2", .ref t1, .ref l2, .ref dd] := SqL.of hml
        have s48 := ((s5.trans s6).trans s7).trans s8
        have hM : ∀ v ∈ [V.int 0, .int 4, .int (-3), .non, .bl true, .str "2", .ref t1, .ref l2, .ref dd], PrV K H8 v none := fun v hv => by
          simp only [List.mem_cons, List.not_mem_nil, or_false] at hv
          rcases hv with rfl | rfl | rfl | rfl | rfl | rfl | rfl | rfl | rfl
          · exact .no (.flat rfl) (by decide)
          · exact .no (.flat rfl) (by decide)
          · exact .no (.flat rfl) (by decide)
          · exact .no (.flat rfl) rfl
          · exact .no (.flat rfl) rfl
          · exact .no (.flat rfl) rfl
          · exact .no (.tup (SqT.of (((s6.trans s7).trans s8) _ _ ht1))) rfl
          · exact .no (.lst (SqL.of ((s7.trans s8) _ _ hl2))) rfl
          · exact .no (.dct (s8 _ _ hde)) rfl
        refine ⟨_, rfl, ⟨_, hmlq⟩, ⟨for_it (walk_list (xs := [V.int 0, .int 4, .int (-3), .non, .bl true, .str "2", .ref t1, .ref l2, .ref dd])) (fun i σ H' => ∃ (y6 : Option V), σ = [some (.ref p), some (.int pr), some (.ref ta), some (.int (n : Int)), some (.ref g), none, y6] ∧ Same H8 H') ⟨y6, rfl, Same.refl _⟩ (fun i σ H' _ ⟨_, _, s⟩ => s.seq hmlq) ?_ ?_⟩⟩
        · rintro i x _ Hy Hz hil ⟨y6, rfl, sy⟩ ⟨rfl, hxi⟩
          have hPx := (hM x (List.mem_of_getElem? hxi)).same sy
          have hIx := hPx.itm
          have s4z := s48.trans sy
          have htqz := s4z.seq hq4
          have htz := L2.Paired.mapP hth4 fun _ _ z => z.same s4z
          refine Stop.cut (fun σ H' => σ = [some (.ref p), some (.int pr), some (.ref ta), some (.int (n : Int)), some (.ref g), none, some x] ∧ Same Hz H') (fun Qz2 hz2 => ?_) ?_
          · refine ⟨x, rfl, .ref ta, rfl, .ref g, rfl, ?_⟩
            refine tNil_i ?_
            refine told_prime0 (E := E) (kk := false) hPx htqz htz (hgt4.same s4z) holg hos fun u H9 s9 hu => ?_
            walk_at "rd"
            refine ⟨by show 2 ≤ sizeLine; decide, fun l H10 n8 s8 hl8 => ?_⟩
            refine neI_same (s8.seq hu) (SqL.of hl8) (hIx.same (s9.trans s8)) ?_
            refine ⟨false, rfl, iteF ?_⟩
            refine ⟨x, rfl, .ref ta, rfl, .int (n : Int), rfl, ?_⟩
            refine tNil_i ?_
            have s10 := s9.trans s8
            refine told_prime1 (E := E) (kk := false) (hPx.same s10) (s10.seq htqz) (L2.Paired.mapP htz fun _ _ z => z.same s10) hol hos fun u' H11 s11 hu' => ?_
            walk_at "rd"
            refine ⟨by show 2 ≤ sizeLine; decide, fun l H12 n8 s8 hl8 => ?_⟩
            refine neI_same (s8.seq hu') (SqL.of hl8) (hIx.same ((s10.trans s11).trans s8)) ?_
            refine ⟨false, rfl, iteF ?_⟩
            exact hz2 _ _ ⟨rfl, (s10.trans s11).trans s8⟩
          · rintro _ H9 ⟨rfl, s9⟩
            refine ⟨x, rfl, by show 1 ≤ sizeLine; decide, fun l10 H10 n10 s10 hl10 => ?_⟩
            refine tC1_i ?_
            refine told_prime0 (E := E) (kk := false) (os := [none]) (og := none) (hPx.same (s9.trans s10)) (SqL.of hl10) (.cons (.flat rfl) .nil) (.flat rfl) (fun o ho zs e => by
              simp at ho
              rw [ho] at e
              cases e) (by decide) fun u H11 s11 hu => ?_
            walk_at "rd"
            refine ⟨by show 2 ≤ sizeLine; decide, fun l H12 n8 s8 hl8 => ?_⟩
            refine neI_same (s8.seq hu) (SqL.of hl8) (hIx.same (((s9.trans s10).trans s11).trans s8)) ?_
            refine ⟨false, rfl, iteF ?_⟩
            have s12 := ((s9.trans s10).trans s11).trans s8
            refine ⟨x, rfl, by show 1 ≤ sizeLine; decide, fun l13 H13 n13 s13 hl13 => ?_⟩
            refine tC1_i ?_
            refine told_prime1 (E := E) (kk := false) (os := [none]) (hPx.same (s12.trans s13)) (SqL.of hl13) (.cons (.flat rfl) .nil) (fun o ho zs e => by
              simp at ho
              rw [ho] at e
              cases e) (by decide) fun u' H14 s14 hu' => ?_
            walk_at "rd"
            refine ⟨by show 2 ≤ sizeLine; decide, fun l H15 n8 s8 hl8 => ?_⟩
            refine neI_same (s8.seq hu') (SqL.of hl8) (hIx.same (((s12.trans s13).trans s14).trans s8)) ?_
            refine ⟨false, rfl, iteF ?_⟩
            exact ⟨_, rfl, sy.trans (((s12.trans s13).trans s14).trans s8)⟩
        · rintro σ H9 ⟨y6, rfl, s9⟩
          exact hz _ _ ⟨y6, rfl, s48.trans s9⟩
      · rintro _ H5 ⟨y6, rfl, s5⟩
        refine Stop.cut (fun σ H' => ∃ (y6 : Option V), σ = [some (.ref p), some (.int pr), some (.ref ta), some (.int (n : Int)), some (.ref g), none, y6] ∧ Same H4 H') (fun Qz hz => ?_) ?_
        · walk_at "rd"
          refine ⟨by show 5 ≤ sizeLine; decide, fun ml H6 n6 s6 hml => ?_⟩
          have hmlq : SqL K H6 ml [V.int 0, .int 41, .int (-1), .int ((n : Int) + 1), .int ((n : Int) - 1)] := SqL.of hml
          have s46 := s5.trans s6
          refine ⟨_, rfl, ⟨_, hmlq⟩, ⟨for_it (walk_list (xs := [V.int 0, .int 41, .int (-1), .int ((n : Int) + 1), .int ((n : Int) - 1)])) (fun i σ H' => ∃ (y6 : Option V), σ = [some (.ref p), some (.int pr), some (.ref ta), some (.int (n : Int)), some (.ref g), none, y6] ∧ Same H6 H') ⟨y6, rfl, Same.refl _⟩ (fun i σ H' _ ⟨_, _, s⟩ => s.seq hmlq) ?_ ?_⟩⟩
          · rintro i x _ Hy Hz hil ⟨y6, rfl, sy⟩ ⟨rfl, hxi⟩
            obtain ⟨k, rfl, hk⟩ : ∃ k : Int, x = .int k ∧ (k ≠ n) := by
              have hv := List.mem_of_getElem? hxi
              simp only [List.mem_cons, List.not_mem_nil, or_false] at hv
              rcases hv with rfl | rfl | rfl | rfl | rfl
              all_goals exact ⟨_, rfl, by omega⟩
            have s4z := s46.trans sy
            have htqz := s4z.seq hq4
            have hIx : Itm K Hz (.int k) := .flat rfl
            walk_at "rd"
            have htz := L2.Paired.mapP hth4 fun _ _ z => z.same s4z
            refine ite2 (fun e1 => ?_) (fun e1 => ?_)
            · have e1' := of_decide_eq_true e1
              refine iteT ?_
              refine ⟨.int pr, rfl, .ref ta, rfl, .int k, rfl, ?_⟩
              refine tNil_i ?_
              refine told_count1 (E := E) (kk := false) hpr ((Same.refl Hz).seq htqz) (L2.Paired.mapP htz fun _ _ z => z.same (Same.refl Hz)) hol hos (badRow_good h1 hro) (fun h => by omega) fun u H9 s9 hu => ?_
              walk_at "rd"
              refine ⟨by show 2 ≤ sizeLine; decide, fun l H10 n8 s8 hl8 => ?_⟩
              refine neI_same (s8.seq hu) (SqL.of hl8) (hIx.same (((Same.refl Hz).trans s9).trans s8)) ?_
              refine ⟨false, rfl, iteF ?_⟩
              exact ⟨_, rfl, sy.trans (((Same.refl Hz).trans s9).trans s8)⟩
            walk_at "rd"
            refine ite2 (fun e2 => ?_) (fun e2 => ?_)
            · have e2' := of_decide_eq_true e2
              refine iteT ?_
              refine ⟨.int pr, rfl, .ref ta, rfl, .int k, rfl, ?_⟩
              refine tNil_i ?_
              refine told_count1 (E := E) (kk := false) hpr ((Same.refl Hz).seq htqz) (L2.Paired.mapP htz fun _ _ z => z.same (Same.refl Hz)) hol hos (badRow_good h1 hro) (fun h => by omega) fun u H9 s9 hu => ?_
              walk_at "rd"
              refine ⟨by show 2 ≤ sizeLine; decide, fun l H10 n8 s8 hl8 => ?_⟩
              refine neI_same (s8.seq hu) (SqL.of hl8) (hIx.same (((Same.refl Hz).trans s9).trans s8)) ?_
              refine ⟨false, rfl, iteF ?_⟩
              exact ⟨_, rfl, sy.trans (((Same.refl Hz).trans s9).trans s8)⟩
            refine ⟨.ref ta, rfl, by decide, fun l5 H5 n5 s5 hl5 => ?_⟩
            refine ⟨ta, l5, _, rfl, rfl, s5.seq htqz, SqL.of hl5, ?_⟩
            refine ⟨_, rfl, ite2 (fun e3 => ?_) (fun _ => iteF ⟨_, rfl, sy.trans s5⟩)⟩
            have hne : rows ≠ [] := fun z => by
              rw [z] at hxl
              rw [List.eq_nil_of_length_eq_zero hxl] at e3
              cases e3
            have hwo := wOf_rows hro hne
            refine ⟨.int pr, rfl, .ref ta, rfl, .int k, rfl, ?_⟩
            refine tNil_i ?_
            refine told_count1 (E := E) (kk := false) hpr ((s5).seq htqz) (L2.Paired.mapP htz fun _ _ z => z.same (s5)) hol hos (badRow_good h1 hro) (fun h => hk (by have := h.2.2 (fun z => hne (List.map_eq_nil_iff.mp z)); omega)) fun u H9 s9 hu => ?_
            walk_at "rd"
            refine ⟨by show 2 ≤ sizeLine; decide, fun l H10 n8 s8 hl8 => ?_⟩
            refine neI_same (s8.seq hu) (SqL.of hl8) (hIx.same (((s5).trans s9).trans s8)) ?_
            refine ⟨false, rfl, iteF ?_⟩
            exact ⟨_, rfl, sy.trans (((s5).trans s9).trans s8)⟩
          · rintro σ H9 ⟨y6, rfl, s9⟩
            exact hz _ _ ⟨y6, rfl, s46.trans s9⟩
        · rintro _ H6 ⟨y6, rfl, s6⟩
          refine Stop.cut (fun σ H' => σ = [some (.ref p), some (.int pr), some (.ref ta), some (.int (n : Int)), some (.ref g), none, y6] ∧ Same H6 H') (fun Qz hz => ?_) ?_
          · refine ⟨.int pr, rfl, by decide, fun l7 H7 n7 s7 hl7 => ?_⟩
            refine tC1_i ?_
            refine told_blind1 (E := E) (n := 40) (kk := false) (rows := []) hpr (by decide) (by decide) (SqL.of hl7) .nil (fun _ h => nomatch h) (by decide) fun v u H8 s8 hv hu => ?_
            walk_at "rd"
            refine ⟨by show 1 ≤ sizeLine; decide, fun a9 H9 n9 s9 ha9 => ?_⟩
            refine ⟨by show 1 ≤ sizeLine; decide, fun b9 H10 n10 s10 hb9 => ?_⟩
            refine ⟨b9, 39, [.int 0], rfl, rfl, hb9, by omega, by omega, ?_, fun c9 H11 n11 s11 hc9 => ?_⟩
            · exact Nat.le_trans (show 39 ≤ 100 by decide) (by decide)
            refine ⟨a9, c9, [.int 1], _, rfl, rfl, (s10.trans s11) _ _ ha9, hc9, ?_, fun d9 H12 n12 s12 hd9 => ?_⟩
            · exact Nat.le_trans (show 40 ≤ 100 by decide) (by decide)
            refine tNil_i ⟨d9, _, rfl, SqL.of hd9, fun f9 H13 n13 s13 hf9 => ?_⟩
            refine ⟨by show 2 ≤ sizeLine; decide, fun l14 H14 n14 s14 hl14 => ?_⟩
            have s814 := (((((s9.trans s10).trans s11).trans s12).trans s13).trans s14)
            have dB := (hv.same s814).dp
            have fl : ∀ v ∈ ([V.int 1] ++ (List.replicate 39 [V.int 0]).flatten), flatV v = true := by decide
            obtain ⟨dd, hd1, hd2⟩ := dp_flat (K := K) (H := H14) fl
            refine ⟨.list [.str (Str.ofString "told"), _], .list [.str (Str.ofString "told"), .tuple dd], .lst (s814.seq hu) (.cons (.str _) (.cons dB .nil)), .lst (SqL.of hl14) (.cons (.str _) (.cons (.tup (SqT.of (s14 _ _ hf9)) hd1) .nil)), ?_, ?_⟩
            · have hd1' : (bliD (solL pr 40 (blindE [] 40))).depth ≤ 1 := by
                cases solL pr 40 (blindE [] 40) with
                | none => simp [bliD, PyData.depth]
                | some ns => simp [bliD, PyData.depth, dints]
              simp only [PyData.depth, PyData.depthAll]
              omega
            have s614 := (s7.trans s8).trans s814
            refine ⟨_, rfl, ite2 (fun _ => ?_) (fun _ => iteF (hz _ _ ⟨rfl, s614⟩))⟩
            refine ⟨.int pr, rfl, ?_⟩
            refine tNil_i ?_
            refine ⟨pr, rfl, hpr, fun H15 s15 => ?_⟩
            refine ⟨true, rfl, iteF ?_⟩
            exact hz _ _ ⟨rfl, s614.trans s15⟩
          · rintro _ H7 ⟨rfl, s7⟩
            have s47 := s6.trans s7
            refine ⟨.int pr, rfl, .ref ta, rfl, by decide, fun t8 H8 n8 s8 ht8 => ?_⟩
            refine ⟨by show 1 ≤ sizeLine; decide, fun l9 H9 n9 s9 hl9 => ?_⟩
            have s49 := (s47.trans s8).trans s9
            refine ⟨ta, l9, xs, _, rfl, rfl, s49 _ _ hta4.at_, hl9, Nat.le_trans (show xs.length + 1 ≤ 100 by omega) (by decide), fun l10 H10 n10 s10 hl10 => ?_⟩
            have s4a := s49.trans s10
            have he : Thing K H10 (.ref t8) (some []) := .tup (SqT.of ((s9.trans s10) _ _ ht8)) (fun v hv => nomatch hv)
            refine ⟨.ref g, rfl, ?_⟩
            refine tNil_i ?_
            refine told_row0 (E := E) (kk := false) (os := someR rows ++ [some []]) (u := .ref t8) (i := rows.length) hpr (SqL.of hl10) (OS.paired_app (L2.Paired.mapP hth4 fun _ _ z => z.same s4a) (.cons he .nil)) (hgt4.same s4a) (fun o ho zs e => ?_) (by rw [List.length_append, hsl]; show _ + 1 ≤ 400; omega) (by rw [List.append_assoc]; exact badRow_first h1 hro (OddR.nil _)) (by rw [List.append_assoc, ← hxl, List.getElem?_append_right (Nat.le_refl _), Nat.sub_self]; rfl) fun u H11 s11 hu => ?_
            · rcases List.mem_append.mp ho with h | h
              · rcases List.mem_append.mp h with h | h
                · exact hol o h zs e
                · rw [List.mem_singleton.mp h] at e
                  cases e
                  decide
              · rw [List.mem_singleton.mp h] at e
                cases e
                omega
            refine ⟨u, _, 0, _, rfl, rfl, hu, rfl, ?_⟩
            refine ⟨_, _, .str _, .str _, by simp [PyData.depth], ?_⟩
            rw [SeqAt.eqv_refl_plain _ rfl]
            refine ⟨true, rfl, iteT ?_⟩
            refine ⟨.int pr, rfl, by decide, fun t12 H12 n12 s12 ht12 => ?_⟩
            refine ⟨by show 1 ≤ sizeLine; decide, fun l13 H13 n13 s13 hl13 => ?_⟩
            have he3 : Thing K H13 (.ref t12) (some []) := .tup (SqT.of (s13 _ _ ht12)) (fun v hv => nomatch hv)
            refine ⟨.int (n : Int), rfl, ?_⟩
            refine tNil_i ?_
            refine told_row1 (E := E) (kk := false) (os := [some []]) (u := .ref t12) (i := 0) hpr (SqL.of hl13) (.cons he3 .nil) (fun o ho zs e => by
              rw [List.mem_singleton.mp ho] at e
              cases e
              decide) (by decide) (badRow_first (n := 1) (rows := []) (Nat.le_refl _) (fun _ h => nomatch h) (OddR.nil _)) rfl fun u' H14 s14 hu' => ?_
            refine ⟨by decide, fun t15 H15 n15 s15 ht15 => ?_⟩
            refine ⟨by show 2 ≤ sizeLine; decide, fun l16 H16 n16 s16 hl16 => ?_⟩
            have sx := ((s13.trans s14).trans s15).trans s16
            refine ⟨.list [.str (Str.ofString "row"), .tuple []], .list [.str (Str.ofString "row"), .tuple []], .lst ((s15.trans s16).seq hu') (.cons (.str _) (.cons (.tup (SqT.of (sx _ _ ht12)) .nil) .nil)), .lst (SqL.of hl16) (.cons (.str _) (.cons (.tup (SqT.of (s16 _ _ ht15)) .nil) .nil)), by simp [PyData.depth, PyData.depthAll], ?_⟩
            rw [SeqAt.eqv_refl_plain _ rfl]
            exact q _
end
end P

set_option Elab.async false
set_option linter.all false
set_option maxRecDepth 100000
set_option maxHeartbeats 4000000
namespace P
open PySem PySem.Spec PyProof.Rows L2 OS
/-! short ways: "rd" opens a reading as far as equations go; "sep" finds what stands apart from the state; "sq" a list that is read; "nx" two heaps -/
local macro_rules | `(tactic| walk_at "sep") => `(tactic| first | assumption | (refine (by assumption : Nx _ _ _) _ _ ?_; walk_at "sep"))
local macro_rules | `(tactic| walk_at "sq") => `(tactic| first | assumption | exact .inl (.inl (by assumption)) | exact Sep.sq (by walk_at "sep") | exact Sep.st (by walk_at "sep") | exact .inl (.inl upd_same))
local macro_rules | `(tactic| walk_at "rd") => `(tactic| repeat (first
  | refine And.intro rfl ?_
  | apply Exists.intro
  | refine And.intro (by assumption) ?_
  | refine And.intro (DrawOk.mk (by omega) (by omega) (by omega)) ?_
  | refine And.intro at0 ?_
  | refine And.intro ⟨_, rfl⟩ ?_
  | refine And.intro (by walk_at "sq") ?_
  | refine And.intro (Or.inl (by walk_at "sq")) ?_
  | refine And.intro (Or.inr (by walk_at "sq")) ?_
  | refine And.intro (by omega) ?_))

section
variable {P : Program} {w : World} {K : PySem.W.Frag} {mg : Str → Option Value} {base : Heap}

/-- a list that was drawn: prime, width and rows; beside the state and beside the list at ll -/
def LstV (K : PySem.W.Frag) (p ll : Addr) (H : Hp) (v : V) : Prop := ∃ (b ta : Addr) (pr : Int) (n : Nat) (xs : List V) (rows : List (List Int)), v = .ref b ∧ SqT K H b [.int pr, .int (n : Int), .ref ta] ∧ isPr (.int pr) = true ∧ 1 ≤ n ∧ n ≤ 40 ∧ ta ≠ ll ∧ Sep H p ta (.lst xs) ∧ Paired (RowV K H) xs rows ∧ (∀ r ∈ rows, RowOk pr n r) ∧ rows.length ≤ 6
theorem LstV.nx {p ll : Addr} {H H' : Hp} {m : Nat} {v : V} (S : StAt H p m) (x : Nx p H H') (h : LstV K p ll H v) : LstV K p ll H' v := by
  obtain ⟨b, ta, pr, n, xs, rows, e, hb, hp, h1, hn, hne, hs, hx, hr, hl⟩ := h
  exact ⟨b, ta, pr, n, xs, rows, e, tupT_nx S x hb, hp, h1, hn, hne, x _ _ hs, L2.Paired.mapP hx fun _ _ ⟨c, e, z⟩ => ⟨c, e, tupT_nx S x z⟩, hr, hl⟩
theorem LstV.put {p ll : Addr} {H : Hp} {acc acc' : List V} {v : V} (sl : Sep H p ll (.lst acc)) (h : LstV K p ll H v) : LstV K p ll (upd H ll (.lst acc')) v := by
  obtain ⟨b, ta, pr, n, xs, rows, e, hb, hp, h1, hn, hne, hs, hx, hr, hl⟩ := h
  have kp : ∀ {c : Addr} {zs : List V}, SqT K H c zs → SqT K (upd H ll (.lst acc')) c zs := fun z => tupT_but sl.at_ (fun c o q z => by rw [upd_ne z]; exact q) z
  exact ⟨b, ta, pr, n, xs, rows, e, kp hb, hp, h1, hn, hne, hs.put_ne sl hne, L2.Paired.mapP hx fun _ _ ⟨c, e, z⟩ => ⟨c, e, kp z⟩, hr, hl⟩
theorem combL_ok {p : Int} {n : Nat} {ns : List Int} {rows : List (List Int)} (hp : isPr (.int p) = true) : RowOk p n (combL p ns rows n) := by
  have hp2 := pr_le hp
  refine ⟨by unfold combL; rw [List.length_map, List.length_range], fun i hi => ?_⟩
  unfold combL at hi
  obtain ⟨j, _, rfl⟩ := List.mem_map.mp hi
  exact LA.mod_rng (by omega) _
def spLaw (K : PySem.W.Frag) : Sp := fun vs H Q _ => ∃ (a : Addr) (ns : List Int), vs = [.ref a] ∧ SqL K H a (ns.map V.int) ∧ ns.length ≤ 63 ∧ ∀ H', Q (.bl true) H'
theorem ok_law (T : Txt K mg) : FnOk P w K mg base CX0 9 T.f_law T.fd_law ["_law_script"] (spLaw K) := by
  refine T.F_law.ok sc_law (fun vs H Q E h => ?_) (fun cdv A outer s H vs Q E hr h => ?_)
  · obtain ⟨a, ns, rfl, _⟩ := h
    rfl
  · obtain ⟨a, ns, rfl, ha, hl, q⟩ := h
    refine ⟨_, (pss_cons (ps_set (i := 1) sc_law.nd rfl (Or.inr rfl) (pe_call (ok_law_start T) (hr.mono (by decide)) (by rfl) T.g_law_start T.F_law_start.kp T.b_law_start .nil pass0 (pa_cons (pv 0) pa_nil)))
    (pss_cons (ps_set (i := 2) sc_law.nd rfl (Or.inl rfl) (pe_lstO pa_nil))
    (pss_stop (ps_for PassesOwn.never rfl (pi_hold (pi_range1 rfl T.n_range (pa_cons pe_int pa_nil))) (pg_name (i := 3) sc_law.nd rfl (Or.inl rfl))
      (pss_cons (ps_set (i := 4) sc_law.nd rfl (Or.inr rfl) (pe_call (ok_law_prime T) (hr.mono (by decide)) (by rfl) T.g_law_prime T.F_law_prime.kp T.b_law_prime .nil pass0 (pa_cons (pv 1) pa_nil)))
    (pss_cons (ps_set (i := 5) sc_law.nd rfl (Or.inl rfl) (pe_op op_add pe_int (pe_call (ok_law_draw T) (hr.mono (by decide)) (by rfl) T.g_law_draw T.F_law_draw.kp T.b_law_draw .nil pass0 (pa_cons (pv 1) (pa_cons pe_int pa_nil)))))
    (pss_stop (ps_if (pt_cmpR op_eq (pe_call (ok_law_draw T) (hr.mono (by decide)) (by rfl) T.g_law_draw T.F_law_draw.kp T.b_law_draw .nil pass0 (pa_cons (pv 1) (pa_cons pe_int pa_nil))) pe_int (nomark _))
      (pss_one (ps_set (i := 5) sc_law.nd rfl (Or.inl rfl) (pe_op op_add pe_int (pe_call (ok_law_draw T) (hr.mono (by decide)) (by rfl) T.g_law_draw T.F_law_draw.kp T.b_law_draw .nil pass0 (pa_cons (pv 1) (pa_cons pe_int pa_nil)))))) pss_nil)
    (pss_one (ps_expr (pe_bm PySem.F.plainAttrs_list PySem.F.slot_list_append PySem.F.type_list_append mt_append (pv 2) (pa_cons (pe_tupO (pa_cons (pv 4) (pa_cons (pv 5) (pa_cons (pe_call (ok_law_rows T) (hr.mono (by decide)) (by rfl) T.g_law_rows T.F_law_rows.kp T.b_law_rows .nil pass0 (pa_cons (pv 1) (pa_cons (pv 4) (pa_cons (pv 5) (pa_cons (pe_call (ok_law_draw T) (hr.mono (by decide)) (by rfl) T.g_law_draw T.F_law_draw.kp T.b_law_draw .nil pass0 (pa_cons (pv 1) (pa_cons pe_int pa_nil))) pa_nil))))) pa_nil)))) pa_nil))))))))
    (pss_stop (ps_for PassesOwn.never rfl (pi_hold (pi_range1 rfl T.n_range (pa_cons pe_int pa_nil))) (pg_name (i := 3) sc_law.nd rfl (Or.inl rfl))
      (pss_cons (ps_asg (pe_ix (r := rIxL K) ix_list (pv 2) (pe_op op_mod (pv 3) pe_int) (fun _ _ => rfl)) (pg_tup rfl (pgs_cons (pg_name (i := 4) sc_law.nd rfl (Or.inr rfl)) (pgs_cons (pg_name (i := 5) sc_law.nd rfl (Or.inl rfl)) (pgs_cons (pg_name (i := 6) sc_law.nd rfl (Or.inl rfl)) pgs_nil)))))
    (pss_cons (ps_set (i := 7) sc_law.nd rfl (Or.inl rfl) (pe_callTy (T := "tuple") (r := rTupL K) call_tupL (by rfl) T.n_tuple (by decide +kernel) (pa_cons (pe_lc (own := [("_law_k", 8)]) (g := gName 8) (tt := tYes) rfl sc_law.nd (pi_range1 rfl T.n_range (pa_cons (pv 5) pa_nil)) (blkOk_by (own := [("_law_k", 8)]) (N := N_law) (sc := defScope s_law) (by decide +kernel)) (fun _ _ _ _ _ => (pg_name (i := 8) sc_law.nd rfl (Or.inl rfl))) (fun _ _ _ _ _ => pts_nil) (fun _ _ _ _ _ => (pe_call (ok_law_draw T) (hr.mono (by decide)) (by rfl) T.g_law_draw T.F_law_draw.kp T.b_law_draw .nil pass0 (pa_cons (pv 1) (pa_cons (pv 4) pa_nil))))) pa_nil)))
    (pss_cons (ps_set (i := 9) sc_law.nd rfl (Or.inl rfl) (pe_call (ok_law_draw T) (hr.mono (by decide)) (by rfl) T.g_law_draw T.F_law_draw.kp T.b_law_draw .nil pass0 (pa_cons (pv 1) (pa_cons pe_int pa_nil))))
    (pss_stop (ps_if (pt_cmpR op_eq (pv 9) pe_int (nomark _))
      (pss_one (ps_set (i := 7) sc_law.nd rfl (Or.inl rfl) (pe_callTy (T := "tuple") (r := rTupL K) call_tupL (by rfl) T.n_tuple (by decide +kernel) (pa_cons (pe_op op_catO (pe_lstO (pa_cons pe_int pa_nil)) (pe_op op_mulL (pe_lstO (pa_cons pe_int pa_nil)) (pe_op op_sub (pv 5) pe_int))) pa_nil)))) pss_nil)
    (pss_stop (ps_if (pt_cmpR op_eq (pv 9) pe_int (nomark _))
      (pss_one (ps_set (i := 7) sc_law.nd rfl (Or.inl rfl) (pe_call (ok_law_sum T) (hr.mono (by decide)) (by rfl) T.g_law_sum T.F_law_sum.kp T.b_law_sum .nil pass0 (pa_cons (pv 4) (pa_cons (pe_lc (own := [("_law_row", 10)]) (g := gName 10) (tt := tYes) rfl sc_law.nd (pi_list (pv 6)) (blkOk_by (own := [("_law_row", 10)]) (N := N_law) (sc := defScope s_law) (by decide +kernel)) (fun _ _ _ _ _ => (pg_name (i := 10) sc_law.nd rfl (Or.inl rfl))) (fun _ _ _ _ _ => pts_nil) (fun _ _ _ _ _ => (pe_call (ok_law_draw T) (hr.mono (by decide)) (by rfl) T.g_law_draw T.F_law_draw.kp T.b_law_draw .nil pass0 (pa_cons (pv 1) (pa_cons (pv 4) pa_nil))))) (pa_cons (pv 6) (pa_cons (pv 5) pa_nil))))))) pss_nil)
    (pss_one (ps_if (pt_not (pt_val (pe_call (ok_law_right T) (hr.mono (by decide)) (by rfl) T.g_law_right T.F_law_right.kp T.b_law_right .nil pass0 (pa_cons (pv 4) (pa_cons (pv 6) (pa_cons (pv 7) (pa_cons (pv 5) pa_nil)))))))
      (pss_one (ps_ret pe_bl)) pss_nil))))))))
    (pss_cons (ps_asg (pe_ix (r := rIxL K) ix_list (pv 2) pe_int (fun _ _ => rfl)) (pg_tup rfl (pgs_cons (pg_name (i := 4) sc_law.nd rfl (Or.inr rfl)) (pgs_cons (pg_name (i := 5) sc_law.nd rfl (Or.inl rfl)) (pgs_cons (pg_name (i := 6) sc_law.nd rfl (Or.inl rfl)) pgs_nil)))))
    (pss_one (ps_ret (pe_call (ok_law_refused T) (hr.mono (by decide)) (by rfl) T.g_law_refused T.F_law_refused.kp T.b_law_refused .nil pass0 (pa_cons (pv 1) (pa_cons (pv 4) (pa_cons (pv 6) (pa_cons (pv 5) pa_nil)))))))))))), ?_⟩
    walk_at "rd"
    intro p H1 s1 n1 S1
    walk_at "rd"
    refine ⟨by decide, fun ll H2 n2 s2 hll => ?_⟩
    have S2 := S1.same s2
    have sl2 := Sep.of_new S1 s2 n2 hll
    refine Stop.cut (fun σ H' => ∃ (y3 y4 y5 : Option V) (m : Nat) (ls : List V), σ = [some (.ref a), some (.ref p), some (.ref ll), y3, y4, y5, none, none, none, none, none] ∧ StAt H' p m ∧ m ≤ 4000 ∧ Sep H' p ll (.lst ls) ∧ ls.length = 2 ∧ ∀ v ∈ ls, LstV K p ll H' v) (fun Qz hz => ?_) ?_
    · walk_at "rd"
      refine ⟨for_it walk_range (fun i σ H' => ∃ (y3 y4 y5 : Option V) (m : Nat) (ls : List V), σ = [some (.ref a), some (.ref p), some (.ref ll), y3, y4, y5, none, none, none, none, none] ∧ StAt H' p m ∧ m ≤ 1100 * i ∧ Sep H' p ll (.lst ls) ∧ ls.length = i ∧ ∀ v ∈ ls, LstV K p ll H' v)
        ⟨none, none, none, 0, [], rfl, S2, by omega, sl2, rfl, fun _ h => nomatch h⟩ (fun _ _ _ _ _ => trivial) ?_ ?_⟩
      · rintro i x _ H3 H3' hi ⟨y3, y4, y5, m, ls, rfl, S3, hm, sl3, hll3, hL3⟩ ⟨rfl, rfl⟩
        have hi2 : i < 2 := hi
        have hm9 : m ≤ 900000 := by omega
        walk_at "rd"
        intro pr H4 hpr S4 x4
        have hp2 := pr_le hpr
        have hm4 : m + 1 ≤ 900000 := by omega
        walk_at "rd"
        intro r0 H5 a0 b0 S5 x5
        obtain ⟨n0, hn0, hn1, hn2⟩ : ∃ n0 : Nat, 1 + r0 = (n0 : Int) ∧ 1 ≤ n0 ∧ n0 ≤ 6 := ⟨(1 + r0).toNat, by omega, by omega, by omega⟩
        have hm5 : m + 1 + 1 ≤ 900000 := by omega
        walk_at "rd"
        refine Stop.cut (fun σ H' => ∃ (n m' : Nat), σ = [some (.ref a), some (.ref p), some (.ref ll), some (.int (0 + (i : Int))), some (.int pr), some (.int (n : Int)), none, none, none, none, none] ∧ StAt H' p m' ∧ m' ≤ m + 4 ∧ 1 ≤ n ∧ n ≤ 40 ∧ Nx p H5 H') (fun Qz2 hz2 => ?_) ?_
        · walk_at "rd"
          intro r1 H6 a1 b1 S6 x6
          walk_at "rd"
          refine ite2 (fun e => ?_) (fun e => ?_)
          · have hm6 : m + 1 + 1 + 1 ≤ 900000 := by omega
            walk_at "rd"
            intro r2 H7 a2 b2 S7 x7
            walk_at "rd"
            refine hz2 _ _ ⟨(22 + r2).toNat, _, ?_, S7, by omega, by omega, by omega, x6.trans x7⟩
            rw [show (((22 + r2).toNat : Nat) : Int) = 22 + r2 by omega]
            rfl
          · refine hz2 _ _ ⟨n0, _, ?_, S6, by omega, hn1, by omega, x6⟩
            rw [← hn0]
            rfl
        · rintro _ H6 ⟨n, m6, rfl, S6, hm6, hn1, hn2, x6⟩
          have x36 := (x4.trans x5).trans x6
          have sl6 := x36 _ _ sl3
          have hL6 : ∀ v ∈ ls, LstV K p ll H6 v := fun v hv => (hL3 v hv).nx S3 x36
          clear S4 S5 x4 x5 x6 x36 hL3 sl3 S3
          have hq6 := sl6.sq (K := K)
          have hm6b : m6 ≤ 900000 := by omega
          refine ⟨_, rfl, .inl ⟨rfl, _, hq6⟩, ?_⟩
          walk_at "rd"
          intro r3 H7 a3 b3 S7 x7
          obtain ⟨c, rfl, hc⟩ : ∃ c : Nat, r3 = (c : Int) ∧ c ≤ 6 := ⟨r3.toNat, by omega, by omega⟩
          have hm7 : m6 + 1 ≤ 900000 := by omega
          have hn60 : n ≤ 60 := by omega
          have sl7 := x7 _ _ sl6
          walk_at "rd"
          intro ta H8 m8 xs rows n8 S8 hm8 x8 sta hxr hro hrl
          have hta : ta ≠ ll := fun z => by
            have := sl7.at_
            rw [← z, n8] at this
            cases this
          refine ⟨by show 3 ≤ sizeLine; decide, fun b H9 n9 s9 hb => ?_⟩
          have S9 := S8.same s9
          have sl9 := S8.nx s9 _ _ (x8 _ _ sl7)
          have hal : ls.length < sizeLine := small1e5 (by omega)
          refine tNil_i ⟨ll, ls, .ref b, rfl, rfl, sl9.at_, hal, ?_⟩
          have hL9 : ∀ v ∈ ls ++ [V.ref b], LstV K p ll H9 v := fun v hv => by
            rcases List.mem_append.mp hv with h | h
            · exact ((hL6 v h).nx S6 (x7.trans x8)).nx S8 (S8.nx s9)
            · rw [List.mem_singleton.mp h]
              exact ⟨b, ta, pr, n, xs, rows, rfl, SqT.of hb, hpr, hn1, hn2, hta, S8.nx s9 _ _ sta, L2.Paired.mapP hxr fun _ _ z => z.same s9, hro, by omega⟩
          exact ⟨_, _, _, m8, ls ++ [.ref b], rfl, S9.put sl9, by omega, sl9.put_same, by rw [List.length_append, hll3]; rfl, fun v hv => (hL9 v hv).put sl9⟩
      · rintro σ H3 ⟨y3, y4, y5, m, ls, rfl, S3, hm, sl3, hll3, hL3⟩
        exact hz _ _ ⟨y3, y4, y5, m, ls, rfl, S3, by have : ((2 : Int)).toNat = 2 := rfl; omega, sl3, hll3, hL3⟩
    · rintro _ H3 ⟨y3, y4, y5, m3, ls, rfl, S3, hm3, sl3, hll3, hL3⟩
      have pick : ∀ k : Int, 0 ≤ k → k < 2 → ∃ v, atI ls k = some v ∧ v ∈ ls := fun k h0 h1 => at_pick h0 (by rw [hll3]; exact h1)
      refine Stop.cut (fun σ H' => ∃ (y3 y4 y5 y6 y7 y9 : Option V) (m : Nat), σ = [some (.ref a), some (.ref p), some (.ref ll), y3, y4, y5, y6, y7, none, y9, none] ∧ StAt H' p m ∧ m ≤ 6000 ∧ Nx p H3 H') (fun Qz hz => ?_) ?_
      · walk_at "rd"
        refine ⟨for_it walk_range (fun i σ H' => ∃ (y3 y4 y5 y6 y7 y9 : Option V) (m : Nat), σ = [some (.ref a), some (.ref p), some (.ref ll), y3, y4, y5, y6, y7, none, y9, none] ∧ StAt H' p m ∧ m ≤ m3 + 100 * i ∧ Nx p H3 H')
          ⟨y3, y4, y5, none, none, none, m3, rfl, S3, by omega, fun _ _ h => h⟩ (fun _ _ _ _ _ => trivial) ?_ ?_⟩
        · rintro i x _ H4 H4' hi ⟨y3, y4, y5, y6, y7, y9, m, rfl, S4, hm, x4⟩ ⟨rfl, rfl⟩
          have hi8 : i < 8 := hi
          have hm1k : m ≤ 5000 := by omega
          have sl4 := x4 _ _ sl3
          have hq4 := sl4.sq (K := K)
          obtain ⟨v, hv, hvm⟩ := pick ((0 + (i : Int)) % 2) (by omega) (by omega)
          obtain ⟨b, ta, pr, n, xs, rows, rfl, hb, hpr, h1, hn, hne, hs, hx, hro, hrl⟩ := (hL3 v hvm).nx S3 x4
          have hp2 := pr_le hpr
          walk_at "rd"
          refine fun D hD => ?_
          refine lc_dr walk_range (by omega) p _ 1 (fun H y => ∃ z : Int, y = .int z ∧ 0 ≤ z ∧ z < pr) S4 hD (fun H H' y acc sD k h => h) (fun _ _ => trivial) ?_ ?_
          · intro j m5 x H5 H6 Qk hj S5 hm5 x5 hDx hy hk
            obtain ⟨rfl, rfl⟩ := hy
            have hm5b : m5 ≤ 900000 := by omega
            walk_at "rd"
            intro z H7 z0 z1 S7 x7
            exact hk (.int z) H7 _ ⟨z, rfl, z0, z1⟩ S7 (Nat.le_refl _) x7
          intro H5 m5 acc S5 hm5 x5 sD5 hal hR
          obtain ⟨gl0, rfl, hgl⟩ := rows_of hR
          have hgn : gl0.length = n := by
            rw [List.length_map] at hal
            omega
          have hDq := sD5.sq (K := K)
          walk_at "rd"
          intro g0 H6 n6 s6 hg0
          have S6 := S5.same s6
          have hm5c : m5 ≤ 900000 := by omega
          walk_at "rd"
          intro pl H7 a7 b7 S7 x7
          have x47 := (x5.trans (S5.nx s6)).trans x7
          have hg7 := tupT_nx S6 x7 (SqT.of (K := K) hg0)
          have hs7 := x47 _ _ hs
          have hx7 : Paired (RowV K H7) xs rows := L2.Paired.mapP hx fun _ _ ⟨c, e, z⟩ => ⟨c, e, tupT_nx S4 x47 z⟩
          have x37 := x4.trans x47
          have hgr0 : RowOk pr n gl0 := ⟨hgn, hgl⟩
          clear hDq sD5 hR hal hs hx hb hg0 hq4 sl4
          refine Stop.cut (fun σ H' => ∃ (g : Addr) (gl : List Int), σ = [some (.ref a), some (.ref p), some (.ref ll), some (.int (0 + (i : Int))), some (.int pr), some (.int (n : Int)), some (.ref ta), some (.ref g), none, some (.int pl), none] ∧ Same H7 H' ∧ SqT K H' g (gl.map V.int) ∧ RowOk pr n gl) (fun Qz2 hz2 => ?_) ?_
          · walk_at "rd"
            refine ite2 (fun e => ?_) (fun _ => hz2 _ _ ⟨g0, gl0, rfl, Same.refl _, hg7, hgr0⟩)
            refine ⟨by decide, fun a9 H10 n10 s10 ha9 => ?_⟩
            refine ⟨by decide, fun b9 H11 n11 s11 hb9 => ?_⟩
            refine ⟨.int (n : Int), rfl, (n : Int), 1, rfl, rfl, b9, (n : Int) - 1, [.int 0], rfl, rfl, hb9, by omega, by omega, ?_, fun c9 H12 n12 s12 hc9 => ?_⟩
            · simp
              exact Nat.le_trans (show n ≤ 1000 by omega) (by decide)
            rw [flat_reps, show ((n : Int) - 1).toNat = n - 1 by omega] at hc9
            refine ⟨a9, c9, [.int 1], _, rfl, rfl, (s11.trans s12) _ _ ha9, hc9, ?_, fun d9 H13 n13 s13 hd9 => ?_⟩
            · simp
              exact Nat.le_trans (show 1 + (n - 1) ≤ 1000 by omega) (by decide)
            refine tNil_i ⟨d9, _, rfl, SqL.of hd9, fun f9 H14 n14 s14 hf9 => ?_⟩
            have hgoal : SqT K H14 f9 ((goalL n).map V.int) := by
              have e : [V.int 1] ++ List.replicate (n - 1) (V.int 0) = (goalL n).map V.int := by
                unfold goalL
                rw [List.map_cons, List.map_replicate]
                rfl
              rw [← e]
              exact SqT.of hf9
            exact hz2 _ _ ⟨f9, goalL n, rfl, (((s10.trans s11).trans s12).trans s13).trans s14, hgoal, goalL_len h1, (LA.goal1_row (by omega) h1).rng⟩
          rintro _ H8 ⟨g1, gl1, rfl, s8, hg8, hgr1⟩
          have S8 := S7.same s8
          have hs8 := S7.nx s8 _ _ hs7
          have hx8 : Paired (RowV K H8) xs rows := L2.Paired.mapP hx7 fun _ _ z => z.same s8
          have x38 := x37.trans (S7.nx s8)
          clear hg7 hgr0 hgl hgn hs7 hx7
          have hxl := paired_len hx8
          refine Stop.cut (fun σ H' => ∃ (g : Addr) (gl : List Int) (m' : Nat), σ = [some (.ref a), some (.ref p), some (.ref ll), some (.int (0 + (i : Int))), some (.int pr), some (.int (n : Int)), some (.ref ta), some (.ref g), none, some (.int pl), none] ∧ StAt H' p m' ∧ m' ≤ m5 + 10 ∧ Nx p H8 H' ∧ SqT K H' g (gl.map V.int) ∧ RowOk pr n gl) (fun Qz2 hz2 => ?_) ?_
          · have hqt := hs8.sq (K := K)
            walk_at "rd"
            refine ite2 (fun e => ?_) (fun _ => hz2 _ _ ⟨g1, gl1, _, rfl, S8, by omega, fun _ _ h => h, hg8, hgr1⟩)
            walk_at "rd"
            refine ⟨⟨_, hqt⟩, fun D9 hD9 => ?_⟩
            refine lc_dr (walk_list (xs := xs)) (by omega) p _ 1 (fun H y => ∃ z : Int, y = .int z ∧ 0 ≤ z ∧ z < pr) S8 hD9 (fun H H' y acc sD k h => h) (fun H x => (x _ _ hs8).sq) ?_ ?_
            · intro j m9 x H9 H10 Qk hj S9 hm9 x9 hDx hy hk
              obtain ⟨rfl, hx⟩ := hy
              have hm9b : m9 ≤ 900000 := by omega
              walk_at "rd"
              intro z H11 z0 z1 S11 x11
              exact hk (.int z) H11 _ ⟨z, rfl, z0, z1⟩ S11 (Nat.le_refl _) x11
            intro H9 m9 acc S9 hm9 x9 sD9 hal hR
            obtain ⟨fs, rfl, hfs⟩ := rows_of hR
            have hfn : fs.length = rows.length := by
              rw [List.length_map] at hal
              omega
            have hDq := sD9.sq (K := K)
            have hs9 := x9 _ _ hs8
            have hq9 := hs9.sq (K := K)
            have hx9 : Paired (RowV K H9) xs rows := L2.Paired.mapP hx8 fun _ _ ⟨c, e, z⟩ => ⟨c, e, tupT_nx S8 x9 z⟩
            have hn1k : n ≤ 1000 := by omega
            have hr5 : rows.length ≤ 500 := by omega
            walk_at "rd"
            intro u H10 s10 hu
            exact hz2 _ _ ⟨u, _, m9, rfl, S9.same s10, by omega, x9.trans (S9.nx s10), hu, combL_ok hpr⟩
          rintro _ H9 ⟨g, gl, m9, rfl, S9, hm9, x9, hg9, hgr9⟩
          have hx9 : Paired (RowV K H9) xs rows := L2.Paired.mapP hx8 fun _ _ ⟨c, e, z⟩ => ⟨c, e, tupT_nx S8 x9 z⟩
          refine ⟨.int pr, rfl, .ref ta, rfl, .ref g, rfl, .int (n : Int), rfl, ?_⟩
          refine tNil_i ?_
          refine ⟨pr, n, ta, g, xs, rows, gl, rfl, hpr, (x9 _ _ hs8).at_, hx9, hro, hg9, hgr9, h1, hn, by omega, fun H10 s10 => ?_⟩
          refine ⟨true, rfl, iteF ?_⟩
          exact ⟨_, _, _, _, _, _, m9, rfl, S9.same s10, by omega, (x38.trans x9).trans (S9.nx s10)⟩
        · rintro σ H4 ⟨y3, y4, y5, y6, y7, y9, m, rfl, S4, hm, x4⟩
          exact hz _ _ ⟨y3, y4, y5, y6, y7, y9, m, rfl, S4, by have : ((8 : Int)).toNat = 8 := rfl; omega, x4⟩
      · rintro _ H4 ⟨y3, y4, y5, y6, y7, y9, m, rfl, S4, hm, x4⟩
        have sl4 := x4 _ _ sl3
        have hq4 := sl4.sq (K := K)
        obtain ⟨v, hv, hvm⟩ := pick 0 (by omega) (by omega)
        obtain ⟨b, ta, pr, n, xs, rows, rfl, hb, hpr, h1, hn, hne, hs, hx, hro, hrl⟩ := (hL3 v hvm).nx S3 x4
        walk_at "rd"
        exact fun H' => q H'
end
end P

set_option Elab.async false
set_option linter.all false
set_option maxRecDepth 100000
set_option maxHeartbeats 4000000
namespace P
open PySem PySem.Spec PyProof.Rows L2 OS
theorem ve_at (S : Addr) : PySem.HandSPX.refsVE (.ref S :: [.type "ValueError", .type "Exception", .type "BaseException", .type "object"]) = true :=
  (show PySem.HandSPX.refsVE [.type "ValueError", .type "Exception", .type "BaseException", .type "object"] = true by decide +kernel)
theorem all_mk {l : PySem.W.OpenLaw} {w : World} {K : PySem.W.Frag} {h : Heap} {mg : Str → Option Value} {fa f_BadCount__init_ f_BadPrime__init_ f_BadRow__init_ f_check_prime f_is_whole f_is_number f_has_numbers f_check_rows f_check_width f_goal_row f_factors_for f_blind_row f_solved f_is_unsolvable f_reduced f_less f_inverse f_law_start f_law_draw f_law_prime f_law_rows f_law_product f_law_sum f_law_cleared f_law_rank f_law_told f_law_right f_law_wide_blind f_law_odd_row_first f_law_refused f_law : Addr} (X : K.In h) (G : h.Ns mainGlobals mg) (hfa : mg "law" = some (.ref fa))
    {od0 an0 : Option Addr} {sl0 : Array (Option Value)} {oc0 kV0 dc0 pm0 cd0 ct0 : Value}
    {od1 an1 : Option Addr} {sl1 : Array (Option Value)} {oc1 kV1 dc1 pm1 cd1 ct1 : Value}
    {od2 an2 : Option Addr} {sl2 : Array (Option Value)} {oc2 kV2 dc2 pm2 cd2 ct2 : Value}
    {od3 an3 : Option Addr} {sl3 : Array (Option Value)} {oc3 kV3 dc3 pm3 cd3 ct3 : Value}
    {od4 an4 : Option Addr} {sl4 : Array (Option Value)} {oc4 kV4 dc4 pm4 cd4 ct4 : Value}
    {od5 an5 : Option Addr} {sl5 : Array (Option Value)} {oc5 kV5 dc5 pm5 cd5 ct5 : Value}
    {od6 an6 : Option Addr} {sl6 : Array (Option Value)} {oc6 kV6 dc6 pm6 cd6 ct6 : Value}
    {od7 an7 : Option Addr} {sl7 : Array (Option Value)} {oc7 kV7 dc7 pm7 cd7 ct7 : Value}
    {od8 an8 : Option Addr} {sl8 : Array (Option Value)} {oc8 kV8 dc8 pm8 cd8 ct8 : Value}
    {od9 an9 : Option Addr} {sl9 : Array (Option Value)} {oc9 kV9 dc9 pm9 cd9 ct9 : Value}
    {od10 an10 : Option Addr} {sl10 : Array (Option Value)} {oc10 kV10 dc10 pm10 cd10 ct10 : Value}
    {od11 an11 : Option Addr} {sl11 : Array (Option Value)} {oc11 kV11 dc11 pm11 cd11 ct11 : Value}
    {od12 an12 : Option Addr} {sl12 : Array (Option Value)} {oc12 kV12 dc12 pm12 cd12 ct12 : Value}
    {od13 an13 : Option Addr} {sl13 : Array (Option Value)} {oc13 kV13 dc13 pm13 cd13 ct13 : Value}
    {od14 an14 : Option Addr} {sl14 : Array (Option Value)} {oc14 kV14 dc14 pm14 cd14 ct14 : Value}
    {od15 an15 : Option Addr} {sl15 : Array (Option Value)} {oc15 kV15 dc15 pm15 cd15 ct15 : Value}
    {od16 an16 : Option Addr} {sl16 : Array (Option Value)} {oc16 kV16 dc16 pm16 cd16 ct16 : Value}
    {od17 an17 : Option Addr} {sl17 : Array (Option Value)} {oc17 kV17 dc17 pm17 cd17 ct17 : Value}
    {od18 an18 : Option Addr} {sl18 : Array (Option Value)} {oc18 kV18 dc18 pm18 cd18 ct18 : Value}
    {od19 an19 : Option Addr} {sl19 : Array (Option Value)} {oc19 kV19 dc19 pm19 cd19 ct19 : Value}
    {od20 an20 : Option Addr} {sl20 : Array (Option Value)} {oc20 kV20 dc20 pm20 cd20 ct20 : Value}
    {od21 an21 : Option Addr} {sl21 : Array (Option Value)} {oc21 kV21 dc21 pm21 cd21 ct21 : Value}
    {od22 an22 : Option Addr} {sl22 : Array (Option Value)} {oc22 kV22 dc22 pm22 cd22 ct22 : Value}
    {od23 an23 : Option Addr} {sl23 : Array (Option Value)} {oc23 kV23 dc23 pm23 cd23 ct23 : Value}
    {od24 an24 : Option Addr} {sl24 : Array (Option Value)} {oc24 kV24 dc24 pm24 cd24 ct24 : Value}
    {od25 an25 : Option Addr} {sl25 : Array (Option Value)} {oc25 kV25 dc25 pm25 cd25 ct25 : Value}
    {od26 an26 : Option Addr} {sl26 : Array (Option Value)} {oc26 kV26 dc26 pm26 cd26 ct26 : Value}
    {od27 an27 : Option Addr} {sl27 : Array (Option Value)} {oc27 kV27 dc27 pm27 cd27 ct27 : Value}
    {od28 an28 : Option Addr} {sl28 : Array (Option Value)} {oc28 kV28 dc28 pm28 cd28 ct28 : Value}
    {od29 an29 : Option Addr} {sl29 : Array (Option Value)} {oc29 kV29 dc29 pm29 cd29 ct29 : Value}
    {od30 an30 : Option Addr} {sl30 : Array (Option Value)} {oc30 kV30 dc30 pm30 cd30 ct30 : Value}
    {C_ShareError  C_BadCount C_BadPrime C_BadRow : Addr}
    {nmBadCount qBadCount : Str} {NBadCount : Addr} {bsBadCount : List Value} {snBadCount : List Str} {subBadCount : List Value} {abBadCount : Bool} {colBadCount : Option Bool} {ddBadCount : Option Addr} {x0BadCount x1BadCount x2BadCount x3BadCount x5BadCount : Option Value}
    (aCBadCount : PySem.W.nsIn K mainGlobals "BadCount" = some (some (.ref C_BadCount)))
    (xCBadCount : K.lookup C_BadCount = some (excClassObj nmBadCount qBadCount C_BadCount NBadCount bsBadCount (.ref C_ShareError :: [.type "ValueError", .type "Exception", .type "BaseException", .type "object"]) true snBadCount subBadCount abBadCount colBadCount ddBadCount x0BadCount x1BadCount x2BadCount x3BadCount x5BadCount "ValueError.__new__"))
    (eCBadCount : errB K C_BadCount = true)
    (iCBadCount : PySem.W.findIn K (.ref C_BadCount) "__init__" = some (some (.ref f_BadCount__init_)))
    (tIBadCount : PySem.W.typeIn K (.ref f_BadCount__init_) = some (.type "function"))
    (nfBadCount : PySem.W.findIn K (.ref C_BadCount) "count" = some none)
    {nmBadPrime qBadPrime : Str} {NBadPrime : Addr} {bsBadPrime : List Value} {snBadPrime : List Str} {subBadPrime : List Value} {abBadPrime : Bool} {colBadPrime : Option Bool} {ddBadPrime : Option Addr} {x0BadPrime x1BadPrime x2BadPrime x3BadPrime x5BadPrime : Option Value}
    (aCBadPrime : PySem.W.nsIn K mainGlobals "BadPrime" = some (some (.ref C_BadPrime)))
    (xCBadPrime : K.lookup C_BadPrime = some (excClassObj nmBadPrime qBadPrime C_BadPrime NBadPrime bsBadPrime (.ref C_ShareError :: [.type "ValueError", .type "Exception", .type "BaseException", .type "object"]) true snBadPrime subBadPrime abBadPrime colBadPrime ddBadPrime x0BadPrime x1BadPrime x2BadPrime x3BadPrime x5BadPrime "ValueError.__new__"))
    (eCBadPrime : errB K C_BadPrime = true)
    (iCBadPrime : PySem.W.findIn K (.ref C_BadPrime) "__init__" = some (some (.ref f_BadPrime__init_)))
    (tIBadPrime : PySem.W.typeIn K (.ref f_BadPrime__init_) = some (.type "function"))
    (nfBadPrime : PySem.W.findIn K (.ref C_BadPrime) "number" = some none)
    {nmBadRow qBadRow : Str} {NBadRow : Addr} {bsBadRow : List Value} {snBadRow : List Str} {subBadRow : List Value} {abBadRow : Bool} {colBadRow : Option Bool} {ddBadRow : Option Addr} {x0BadRow x1BadRow x2BadRow x3BadRow x5BadRow : Option Value}
    (aCBadRow : PySem.W.nsIn K mainGlobals "BadRow" = some (some (.ref C_BadRow)))
    (xCBadRow : K.lookup C_BadRow = some (excClassObj nmBadRow qBadRow C_BadRow NBadRow bsBadRow (.ref C_ShareError :: [.type "ValueError", .type "Exception", .type "BaseException", .type "object"]) true snBadRow subBadRow abBadRow colBadRow ddBadRow x0BadRow x1BadRow x2BadRow x3BadRow x5BadRow "ValueError.__new__"))
    (eCBadRow : errB K C_BadRow = true)
    (iCBadRow : PySem.W.findIn K (.ref C_BadRow) "__init__" = some (some (.ref f_BadRow__init_)))
    (tIBadRow : PySem.W.typeIn K (.ref f_BadRow__init_) = some (.type "function"))
    (nfBadRow : PySem.W.findIn K (.ref C_BadRow) "value" = some none)
    (ex_BadCount_BadCount : PySem.W.exmOne K (.ref C_BadCount) (.ref C_BadCount) = some true)
    (ex_BadCount_BadPrime : PySem.W.exmOne K (.ref C_BadCount) (.ref C_BadPrime) = some false)
    (ex_BadCount_BadRow : PySem.W.exmOne K (.ref C_BadCount) (.ref C_BadRow) = some false)
    (ex_BadPrime_BadCount : PySem.W.exmOne K (.ref C_BadPrime) (.ref C_BadCount) = some false)
    (ex_BadPrime_BadPrime : PySem.W.exmOne K (.ref C_BadPrime) (.ref C_BadPrime) = some true)
    (ex_BadPrime_BadRow : PySem.W.exmOne K (.ref C_BadPrime) (.ref C_BadRow) = some false)
    (ex_BadRow_BadCount : PySem.W.exmOne K (.ref C_BadRow) (.ref C_BadCount) = some false)
    (ex_BadRow_BadPrime : PySem.W.exmOne K (.ref C_BadRow) (.ref C_BadPrime) = some false)
    (ex_BadRow_BadRow : PySem.W.exmOne K (.ref C_BadRow) (.ref C_BadRow) = some true)
    (hn : PySem.W.specialIn K (.builtin "object.__class__") "__get__" = some (some (.builtin "getset_descriptor.__get__")))
    (ht : PySem.W.takesIn K (.builtin "object.__class__") = some true)
    {a_PRIMES : Addr} {od_PRIMES : Option Addr} {its_PRIMES : Array Value} {n_PRIMES : Nat} {sl_PRIMES : Array (Option Value)}
    (v_PRIMES : PySem.W.nsIn K mainGlobals "PRIMES" = some (some (.ref a_PRIMES)))
    (l_PRIMES : K.lookup a_PRIMES = some ⟨.type "tuple", od_PRIMES, .seq its_PRIMES n_PRIMES, sl_PRIMES⟩)
    (s_PRIMES : its_PRIMES.size ≤ sizeLine ∧ L2.Vals [.int 2, .int 3, .int 5, .int 7, .int 11] its_PRIMES.toList)
    (l0 : K.lookup f_BadCount__init_ = some ⟨oc0, od0, .func (PySem.W.fnOf "__init__" "BadCount.__init__" (defArgs s_BadCount__init_) (defBody s_BadCount__init_) (defScope s_BadCount__init_) .none kV0 dc0 pm0 an0 cd0 ct0), sl0⟩) (c0 : PySem.W.codeIn K cd0 "BadCount.__init__" = true) (k0 : PySem.W.keepIn K (.ref f_BadCount__init_) = true)
    (l1 : K.lookup f_BadPrime__init_ = some ⟨oc1, od1, .func (PySem.W.fnOf "__init__" "BadPrime.__init__" (defArgs s_BadPrime__init_) (defBody s_BadPrime__init_) (defScope s_BadPrime__init_) .none kV1 dc1 pm1 an1 cd1 ct1), sl1⟩) (c1 : PySem.W.codeIn K cd1 "BadPrime.__init__" = true) (k1 : PySem.W.keepIn K (.ref f_BadPrime__init_) = true)
    (l2 : K.lookup f_BadRow__init_ = some ⟨oc2, od2, .func (PySem.W.fnOf "__init__" "BadRow.__init__" (defArgs s_BadRow__init_) (defBody s_BadRow__init_) (defScope s_BadRow__init_) .none kV2 dc2 pm2 an2 cd2 ct2), sl2⟩) (c2 : PySem.W.codeIn K cd2 "BadRow.__init__" = true) (k2 : PySem.W.keepIn K (.ref f_BadRow__init_) = true)
    (a3 : PySem.W.nsIn K mainGlobals "check_prime" = some (some (.ref f_check_prime)))
    (l3 : K.lookup f_check_prime = some ⟨oc3, od3, .func (PySem.W.fnOf "check_prime" "check_prime" (defArgs s_check_prime) (defBody s_check_prime) (defScope s_check_prime) .none kV3 dc3 pm3 an3 cd3 ct3), sl3⟩) (c3 : PySem.W.codeIn K cd3 "check_prime" = true) (k3 : PySem.W.keepIn K (.ref f_check_prime) = true)
    (a4 : PySem.W.nsIn K mainGlobals "is_whole" = some (some (.ref f_is_whole)))
    (l4 : K.lookup f_is_whole = some ⟨oc4, od4, .func (PySem.W.fnOf "is_whole" "is_whole" (defArgs s_is_whole) (defBody s_is_whole) (defScope s_is_whole) .none kV4 dc4 pm4 an4 cd4 ct4), sl4⟩) (c4 : PySem.W.codeIn K cd4 "is_whole" = true) (k4 : PySem.W.keepIn K (.ref f_is_whole) = true)
    (a5 : PySem.W.nsIn K mainGlobals "is_number" = some (some (.ref f_is_number)))
    (l5 : K.lookup f_is_number = some ⟨oc5, od5, .func (PySem.W.fnOf "is_number" "is_number" (defArgs s_is_number) (defBody s_is_number) (defScope s_is_number) .none kV5 dc5 pm5 an5 cd5 ct5), sl5⟩) (c5 : PySem.W.codeIn K cd5 "is_number" = true) (k5 : PySem.W.keepIn K (.ref f_is_number) = true)
    (a6 : PySem.W.nsIn K mainGlobals "has_numbers" = some (some (.ref f_has_numbers)))
    (l6 : K.lookup f_has_numbers = some ⟨oc6, od6, .func (PySem.W.fnOf "has_numbers" "has_numbers" (defArgs s_has_numbers) (defBody s_has_numbers) (defScope s_has_numbers) .none kV6 dc6 pm6 an6 cd6 ct6), sl6⟩) (c6 : PySem.W.codeIn K cd6 "has_numbers" = true) (k6 : PySem.W.keepIn K (.ref f_has_numbers) = true)
    (a7 : PySem.W.nsIn K mainGlobals "check_rows" = some (some (.ref f_check_rows)))
    (l7 : K.lookup f_check_rows = some ⟨oc7, od7, .func (PySem.W.fnOf "check_rows" "check_rows" (defArgs s_check_rows) (defBody s_check_rows) (defScope s_check_rows) .none kV7 dc7 pm7 an7 cd7 ct7), sl7⟩) (c7 : PySem.W.codeIn K cd7 "check_rows" = true) (k7 : PySem.W.keepIn K (.ref f_check_rows) = true)
    (a8 : PySem.W.nsIn K mainGlobals "check_width" = some (some (.ref f_check_width)))
    (l8 : K.lookup f_check_width = some ⟨oc8, od8, .func (PySem.W.fnOf "check_width" "check_width" (defArgs s_check_width) (defBody s_check_width) (defScope s_check_width) .none kV8 dc8 pm8 an8 cd8 ct8), sl8⟩) (c8 : PySem.W.codeIn K cd8 "check_width" = true) (k8 : PySem.W.keepIn K (.ref f_check_width) = true)
    (a9 : PySem.W.nsIn K mainGlobals "goal_row" = some (some (.ref f_goal_row)))
    (l9 : K.lookup f_goal_row = some ⟨oc9, od9, .func (PySem.W.fnOf "goal_row" "goal_row" (defArgs s_goal_row) (defBody s_goal_row) (defScope s_goal_row) .none kV9 dc9 pm9 an9 cd9 ct9), sl9⟩) (c9 : PySem.W.codeIn K cd9 "goal_row" = true) (k9 : PySem.W.keepIn K (.ref f_goal_row) = true)
    (a10 : PySem.W.nsIn K mainGlobals "factors_for" = some (some (.ref f_factors_for)))
    (l10 : K.lookup f_factors_for = some ⟨oc10, od10, .func (PySem.W.fnOf "factors_for" "factors_for" (defArgs s_factors_for) (defBody s_factors_for) (defScope s_factors_for) .none kV10 dc10 pm10 an10 cd10 ct10), sl10⟩) (c10 : PySem.W.codeIn K cd10 "factors_for" = true) (k10 : PySem.W.keepIn K (.ref f_factors_for) = true)
    (a11 : PySem.W.nsIn K mainGlobals "blind_row" = some (some (.ref f_blind_row)))
    (l11 : K.lookup f_blind_row = some ⟨oc11, od11, .func (PySem.W.fnOf "blind_row" "blind_row" (defArgs s_blind_row) (defBody s_blind_row) (defScope s_blind_row) .none kV11 dc11 pm11 an11 cd11 ct11), sl11⟩) (c11 : PySem.W.codeIn K cd11 "blind_row" = true) (k11 : PySem.W.keepIn K (.ref f_blind_row) = true)
    (a12 : PySem.W.nsIn K mainGlobals "solved" = some (some (.ref f_solved)))
    (l12 : K.lookup f_solved = some ⟨oc12, od12, .func (PySem.W.fnOf "solved" "solved" (defArgs s_solved) (defBody s_solved) (defScope s_solved) .none kV12 dc12 pm12 an12 cd12 ct12), sl12⟩) (c12 : PySem.W.codeIn K cd12 "solved" = true) (k12 : PySem.W.keepIn K (.ref f_solved) = true)
    (a13 : PySem.W.nsIn K mainGlobals "is_unsolvable" = some (some (.ref f_is_unsolvable)))
    (l13 : K.lookup f_is_unsolvable = some ⟨oc13, od13, .func (PySem.W.fnOf "is_unsolvable" "is_unsolvable" (defArgs s_is_unsolvable) (defBody s_is_unsolvable) (defScope s_is_unsolvable) .none kV13 dc13 pm13 an13 cd13 ct13), sl13⟩) (c13 : PySem.W.codeIn K cd13 "is_unsolvable" = true) (k13 : PySem.W.keepIn K (.ref f_is_unsolvable) = true)
    (a14 : PySem.W.nsIn K mainGlobals "reduced" = some (some (.ref f_reduced)))
    (l14 : K.lookup f_reduced = some ⟨oc14, od14, .func (PySem.W.fnOf "reduced" "reduced" (defArgs s_reduced) (defBody s_reduced) (defScope s_reduced) .none kV14 dc14 pm14 an14 cd14 ct14), sl14⟩) (c14 : PySem.W.codeIn K cd14 "reduced" = true) (k14 : PySem.W.keepIn K (.ref f_reduced) = true)
    (a15 : PySem.W.nsIn K mainGlobals "less" = some (some (.ref f_less)))
    (l15 : K.lookup f_less = some ⟨oc15, od15, .func (PySem.W.fnOf "less" "less" (defArgs s_less) (defBody s_less) (defScope s_less) .none kV15 dc15 pm15 an15 cd15 ct15), sl15⟩) (c15 : PySem.W.codeIn K cd15 "less" = true) (k15 : PySem.W.keepIn K (.ref f_less) = true)
    (a16 : PySem.W.nsIn K mainGlobals "inverse" = some (some (.ref f_inverse)))
    (l16 : K.lookup f_inverse = some ⟨oc16, od16, .func (PySem.W.fnOf "inverse" "inverse" (defArgs s_inverse) (defBody s_inverse) (defScope s_inverse) .none kV16 dc16 pm16 an16 cd16 ct16), sl16⟩) (c16 : PySem.W.codeIn K cd16 "inverse" = true) (k16 : PySem.W.keepIn K (.ref f_inverse) = true)
    (a17 : PySem.W.nsIn K mainGlobals "_law_start" = some (some (.ref f_law_start)))
    (l17 : K.lookup f_law_start = some ⟨oc17, od17, .func (PySem.W.fnOf "_law_start" "_law_start" (defArgs s_law_start) (defBody s_law_start) (defScope s_law_start) .none kV17 dc17 pm17 an17 cd17 ct17), sl17⟩) (c17 : PySem.W.codeIn K cd17 "_law_start" = true) (k17 : PySem.W.keepIn K (.ref f_law_start) = true)
    (a18 : PySem.W.nsIn K mainGlobals "_law_draw" = some (some (.ref f_law_draw)))
    (l18 : K.lookup f_law_draw = some ⟨oc18, od18, .func (PySem.W.fnOf "_law_draw" "_law_draw" (defArgs s_law_draw) (defBody s_law_draw) (defScope s_law_draw) .none kV18 dc18 pm18 an18 cd18 ct18), sl18⟩) (c18 : PySem.W.codeIn K cd18 "_law_draw" = true) (k18 : PySem.W.keepIn K (.ref f_law_draw) = true)
    (a19 : PySem.W.nsIn K mainGlobals "_law_prime" = some (some (.ref f_law_prime)))
    (l19 : K.lookup f_law_prime = some ⟨oc19, od19, .func (PySem.W.fnOf "_law_prime" "_law_prime" (defArgs s_law_prime) (defBody s_law_prime) (defScope s_law_prime) .none kV19 dc19 pm19 an19 cd19 ct19), sl19⟩) (c19 : PySem.W.codeIn K cd19 "_law_prime" = true) (k19 : PySem.W.keepIn K (.ref f_law_prime) = true)
    (a20 : PySem.W.nsIn K mainGlobals "_law_rows" = some (some (.ref f_law_rows)))
    (l20 : K.lookup f_law_rows = some ⟨oc20, od20, .func (PySem.W.fnOf "_law_rows" "_law_rows" (defArgs s_law_rows) (defBody s_law_rows) (defScope s_law_rows) .none kV20 dc20 pm20 an20 cd20 ct20), sl20⟩) (c20 : PySem.W.codeIn K cd20 "_law_rows" = true) (k20 : PySem.W.keepIn K (.ref f_law_rows) = true)
    (a21 : PySem.W.nsIn K mainGlobals "_law_product" = some (some (.ref f_law_product)))
    (l21 : K.lookup f_law_product = some ⟨oc21, od21, .func (PySem.W.fnOf "_law_product" "_law_product" (defArgs s_law_product) (defBody s_law_product) (defScope s_law_product) .none kV21 dc21 pm21 an21 cd21 ct21), sl21⟩) (c21 : PySem.W.codeIn K cd21 "_law_product" = true) (k21 : PySem.W.keepIn K (.ref f_law_product) = true)
    (a22 : PySem.W.nsIn K mainGlobals "_law_sum" = some (some (.ref f_law_sum)))
    (l22 : K.lookup f_law_sum = some ⟨oc22, od22, .func (PySem.W.fnOf "_law_sum" "_law_sum" (defArgs s_law_sum) (defBody s_law_sum) (defScope s_law_sum) .none kV22 dc22 pm22 an22 cd22 ct22), sl22⟩) (c22 : PySem.W.codeIn K cd22 "_law_sum" = true) (k22 : PySem.W.keepIn K (.ref f_law_sum) = true)
    (a23 : PySem.W.nsIn K mainGlobals "_law_cleared" = some (some (.ref f_law_cleared)))
    (l23 : K.lookup f_law_cleared = some ⟨oc23, od23, .func (PySem.W.fnOf "_law_cleared" "_law_cleared" (defArgs s_law_cleared) (defBody s_law_cleared) (defScope s_law_cleared) .none kV23 dc23 pm23 an23 cd23 ct23), sl23⟩) (c23 : PySem.W.codeIn K cd23 "_law_cleared" = true) (k23 : PySem.W.keepIn K (.ref f_law_cleared) = true)
    (a24 : PySem.W.nsIn K mainGlobals "_law_rank" = some (some (.ref f_law_rank)))
    (l24 : K.lookup f_law_rank = some ⟨oc24, od24, .func (PySem.W.fnOf "_law_rank" "_law_rank" (defArgs s_law_rank) (defBody s_law_rank) (defScope s_law_rank) .none kV24 dc24 pm24 an24 cd24 ct24), sl24⟩) (c24 : PySem.W.codeIn K cd24 "_law_rank" = true) (k24 : PySem.W.keepIn K (.ref f_law_rank) = true)
    (a25 : PySem.W.nsIn K mainGlobals "_law_told" = some (some (.ref f_law_told)))
    (l25 : K.lookup f_law_told = some ⟨oc25, od25, .func (PySem.W.fnOf "_law_told" "_law_told" (defArgs s_law_told) (defBody s_law_told) (defScope s_law_told) .none kV25 dc25 pm25 an25 cd25 ct25), sl25⟩) (c25 : PySem.W.codeIn K cd25 "_law_told" = true) (k25 : PySem.W.keepIn K (.ref f_law_told) = true)
    (a26 : PySem.W.nsIn K mainGlobals "_law_right" = some (some (.ref f_law_right)))
    (l26 : K.lookup f_law_right = some ⟨oc26, od26, .func (PySem.W.fnOf "_law_right" "_law_right" (defArgs s_law_right) (defBody s_law_right) (defScope s_law_right) .none kV26 dc26 pm26 an26 cd26 ct26), sl26⟩) (c26 : PySem.W.codeIn K cd26 "_law_right" = true) (k26 : PySem.W.keepIn K (.ref f_law_right) = true)
    (a27 : PySem.W.nsIn K mainGlobals "_law_wide_blind" = some (some (.ref f_law_wide_blind)))
    (l27 : K.lookup f_law_wide_blind = some ⟨oc27, od27, .func (PySem.W.fnOf "_law_wide_blind" "_law_wide_blind" (defArgs s_law_wide_blind) (defBody s_law_wide_blind) (defScope s_law_wide_blind) .none kV27 dc27 pm27 an27 cd27 ct27), sl27⟩) (c27 : PySem.W.codeIn K cd27 "_law_wide_blind" = true) (k27 : PySem.W.keepIn K (.ref f_law_wide_blind) = true)
    (a28 : PySem.W.nsIn K mainGlobals "_law_odd_row_first" = some (some (.ref f_law_odd_row_first)))
    (l28 : K.lookup f_law_odd_row_first = some ⟨oc28, od28, .func (PySem.W.fnOf "_law_odd_row_first" "_law_odd_row_first" (defArgs s_law_odd_row_first) (defBody s_law_odd_row_first) (defScope s_law_odd_row_first) .none kV28 dc28 pm28 an28 cd28 ct28), sl28⟩) (c28 : PySem.W.codeIn K cd28 "_law_odd_row_first" = true) (k28 : PySem.W.keepIn K (.ref f_law_odd_row_first) = true)
    (a29 : PySem.W.nsIn K mainGlobals "_law_refused" = some (some (.ref f_law_refused)))
    (l29 : K.lookup f_law_refused = some ⟨oc29, od29, .func (PySem.W.fnOf "_law_refused" "_law_refused" (defArgs s_law_refused) (defBody s_law_refused) (defScope s_law_refused) .none kV29 dc29 pm29 an29 cd29 ct29), sl29⟩) (c29 : PySem.W.codeIn K cd29 "_law_refused" = true) (k29 : PySem.W.keepIn K (.ref f_law_refused) = true)
    (a30 : PySem.W.nsIn K mainGlobals "law" = some (some (.ref f_law)))
    (l30 : K.lookup f_law = some ⟨oc30, od30, .func (PySem.W.fnOf "law" "law" (defArgs s_law) (defBody s_law) (defScope s_law) .none kV30 dc30 pm30 an30 cd30 ct30), sl30⟩) (c30 : PySem.W.codeIn K cd30 "law" = true) (k30 : PySem.W.keepIn K (.ref f_law) = true)
    {t_MOST_WIDTH : Tok}
    (v_MOST_WIDTH : PySem.W.nsIn K mainGlobals "MOST_WIDTH" = some (some (.int 40 t_MOST_WIDTH)))
    (z_len : PySem.W.nsIn K mainGlobals "len" = some none)
    (z_all : PySem.W.nsIn K mainGlobals "all" = some none)
    (z_any : PySem.W.nsIn K mainGlobals "any" = some none)
    (z_list : PySem.W.nsIn K mainGlobals "list" = some none)
    (z_int : PySem.W.nsIn K mainGlobals "int" = some none)
    (z_range : PySem.W.nsIn K mainGlobals "range" = some none)
    (z_isinstance : PySem.W.nsIn K mainGlobals "isinstance" = some none)
    (z_tuple : PySem.W.nsIn K mainGlobals "tuple" = some none)
    (z_zip : PySem.W.nsIn K mainGlobals "zip" = some none)
    (z_sum : PySem.W.nsIn K mainGlobals "sum" = some none)
    (z_max : PySem.W.nsIn K mainGlobals "max" = some none)
    (z_bool : PySem.W.nsIn K mainGlobals "bool" = some none)
    (z_enumerate : PySem.W.nsIn K mainGlobals "enumerate" = some none)
    (z_abs : PySem.W.nsIn K mainGlobals "abs" = some none)
    : ∃ fd : FuncData, (∀ (s : Shared) (v : Value), BindsTo s fd ⟨[v], []⟩ [("_law_script", v)]) ∧ ∀ base : Heap, K.In base → base.Ns mainGlobals mg → FnOk l.prog w K mg base CX0 9 fa fd ["_law_script"] (P.spLaw K) := by
  have e := hfa.symm.trans (PySem.W.mg_of X G a30)
  cases e
  have F0 := fun_mk (st := s_BadCount__init_) l0 c0 k0
  have b0 := F0.binds (ps := ["self", "count"]) fun _ _ _ _ _ _ us hl => match us, hl with | [_, _], _ => rfl
  have F1 := fun_mk (st := s_BadPrime__init_) l1 c1 k1
  have b1 := F1.binds (ps := ["self", "number"]) fun _ _ _ _ _ _ us hl => match us, hl with | [_, _], _ => rfl
  have F2 := fun_mk (st := s_BadRow__init_) l2 c2 k2
  have b2 := F2.binds (ps := ["self", "value"]) fun _ _ _ _ _ _ us hl => match us, hl with | [_, _], _ => rfl
  have F3 := fun_mk (st := s_check_prime) l3 c3 k3
  have b3 := F3.binds (ps := ["prime"]) fun _ _ _ _ _ _ us hl => match us, hl with | [_], _ => rfl
  have F4 := fun_mk (st := s_is_whole) l4 c4 k4
  have b4 := F4.binds (ps := ["value"]) fun _ _ _ _ _ _ us hl => match us, hl with | [_], _ => rfl
  have F5 := fun_mk (st := s_is_number) l5 c5 k5
  have b5 := F5.binds (ps := ["prime", "value"]) fun _ _ _ _ _ _ us hl => match us, hl with | [_, _], _ => rfl
  have F6 := fun_mk (st := s_has_numbers) l6 c6 k6
  have b6 := F6.binds (ps := ["prime", "value", "many"]) fun _ _ _ _ _ _ us hl => match us, hl with | [_, _, _], _ => rfl
  have F7 := fun_mk (st := s_check_rows) l7 c7 k7
  have b7 := F7.binds (ps := ["prime", "values"]) fun _ _ _ _ _ _ us hl => match us, hl with | [_, _], _ => rfl
  have F8 := fun_mk (st := s_check_width) l8 c8 k8
  have b8 := F8.binds (ps := ["width", "rows"]) fun _ _ _ _ _ _ us hl => match us, hl with | [_, _], _ => rfl
  have F9 := fun_mk (st := s_goal_row) l9 c9 k9
  have b9 := F9.binds (ps := ["width"]) fun _ _ _ _ _ _ us hl => match us, hl with | [_], _ => rfl
  have F10 := fun_mk (st := s_factors_for) l10 c10 k10
  have b10 := F10.binds (ps := ["prime", "rows", "goal"]) fun _ _ _ _ _ _ us hl => match us, hl with | [_, _, _], _ => rfl
  have F11 := fun_mk (st := s_blind_row) l11 c11 k11
  have b11 := F11.binds (ps := ["prime", "rows", "width"]) fun _ _ _ _ _ _ us hl => match us, hl with | [_, _, _], _ => rfl
  have F12 := fun_mk (st := s_solved) l12 c12 k12
  have b12 := F12.binds (ps := ["prime", "equations", "many"]) fun _ _ _ _ _ _ us hl => match us, hl with | [_, _, _], _ => rfl
  have F13 := fun_mk (st := s_is_unsolvable) l13 c13 k13
  have b13 := F13.binds (ps := ["found", "many"]) fun _ _ _ _ _ _ us hl => match us, hl with | [_, _], _ => rfl
  have F14 := fun_mk (st := s_reduced) l14 c14 k14
  have b14 := F14.binds (ps := ["prime", "rows"]) fun _ _ _ _ _ _ us hl => match us, hl with | [_, _], _ => rfl
  have F15 := fun_mk (st := s_less) l15 c15 k15
  have b15 := F15.binds (ps := ["prime", "row", "factor", "other"]) fun _ _ _ _ _ _ us hl => match us, hl with | [_, _, _, _], _ => rfl
  have F16 := fun_mk (st := s_inverse) l16 c16 k16
  have b16 := F16.binds (ps := ["prime", "number"]) fun _ _ _ _ _ _ us hl => match us, hl with | [_, _], _ => rfl
  have F17 := fun_mk (st := s_law_start) l17 c17 k17
  have b17 := F17.binds (ps := ["_law_script"]) fun _ _ _ _ _ _ us hl => match us, hl with | [_], _ => rfl
  have F18 := fun_mk (st := s_law_draw) l18 c18 k18
  have b18 := F18.binds (ps := ["_law_state", "_law_size"]) fun _ _ _ _ _ _ us hl => match us, hl with | [_, _], _ => rfl
  have F19 := fun_mk (st := s_law_prime) l19 c19 k19
  have b19 := F19.binds (ps := ["_law_state"]) fun _ _ _ _ _ _ us hl => match us, hl with | [_], _ => rfl
  have F20 := fun_mk (st := s_law_rows) l20 c20 k20
  have b20 := F20.binds (ps := ["_law_state", "_law_modulus", "_law_span1", "_law_count"]) fun _ _ _ _ _ _ us hl => match us, hl with | [_, _, _, _], _ => rfl
  have F21 := fun_mk (st := s_law_product) l21 c21 k21
  have b21 := F21.binds (ps := ["_law_modulus", "_law_one", "_law_two"]) fun _ _ _ _ _ _ us hl => match us, hl with | [_, _, _], _ => rfl
  have F22 := fun_mk (st := s_law_sum) l22 c22 k22
  have b22 := F22.binds (ps := ["_law_modulus", "_law_factors", "_law_table1", "_law_span1"]) fun _ _ _ _ _ _ us hl => match us, hl with | [_, _, _, _], _ => rfl
  have F23 := fun_mk (st := s_law_cleared) l23 c23 k23
  have b23 := F23.binds (ps := ["_law_modulus", "_law_table1", "_law_span1"]) fun _ _ _ _ _ _ us hl => match us, hl with | [_, _, _], _ => rfl
  have F24 := fun_mk (st := s_law_rank) l24 c24 k24
  have b24 := F24.binds (ps := ["_law_modulus", "_law_table1", "_law_span1"]) fun _ _ _ _ _ _ us hl => match us, hl with | [_, _, _], _ => rfl
  have F25 := fun_mk (st := s_law_told) l25 c25 k25
  have b25 := F25.binds (ps := ["_law_plan", "_law_modulus", "_law_table1", "_law_thing"]) fun _ _ _ _ _ _ us hl => match us, hl with | [_, _, _, _], _ => rfl
  have F26 := fun_mk (st := s_law_right) l26 c26 k26
  have b26 := F26.binds (ps := ["_law_modulus", "_law_table1", "_law_aim1", "_law_span1"]) fun _ _ _ _ _ _ us hl => match us, hl with | [_, _, _, _], _ => rfl
  have F27 := fun_mk (st := s_law_wide_blind) l27 c27 k27
  have b27 := F27.binds (ps := ["_law_modulus"]) fun _ _ _ _ _ _ us hl => match us, hl with | [_], _ => rfl
  have F28 := fun_mk (st := s_law_odd_row_first) l28 c28 k28
  have b28 := F28.binds (ps := ["_law_state", "_law_modulus", "_law_table1", "_law_aim1"]) fun _ _ _ _ _ _ us hl => match us, hl with | [_, _, _, _], _ => rfl
  have F29 := fun_mk (st := s_law_refused) l29 c29 k29
  have b29 := F29.binds (ps := ["_law_state", "_law_modulus", "_law_table1", "_law_span1"]) fun _ _ _ _ _ _ us hl => match us, hl with | [_, _, _, _], _ => rfl
  have F30 := fun_mk (st := s_law) l30 c30 k30
  have b30 := F30.binds (ps := ["_law_script"]) fun _ _ _ _ _ _ us hl => match us, hl with | [_], _ => rfl
  let T : Txt K mg := {
    f_BadCount__init_ := f_BadCount__init_, fd_BadCount__init_ := _, F_BadCount__init_ := F0, b_BadCount__init_ := b0
    f_BadPrime__init_ := f_BadPrime__init_, fd_BadPrime__init_ := _, F_BadPrime__init_ := F1, b_BadPrime__init_ := b1
    f_BadRow__init_ := f_BadRow__init_, fd_BadRow__init_ := _, F_BadRow__init_ := F2, b_BadRow__init_ := b2
    f_check_prime := f_check_prime, fd_check_prime := _, F_check_prime := F3, b_check_prime := b3, g_check_prime := PySem.W.mg_of X G a3
    f_is_whole := f_is_whole, fd_is_whole := _, F_is_whole := F4, b_is_whole := b4, g_is_whole := PySem.W.mg_of X G a4
    f_is_number := f_is_number, fd_is_number := _, F_is_number := F5, b_is_number := b5, g_is_number := PySem.W.mg_of X G a5
    f_has_numbers := f_has_numbers, fd_has_numbers := _, F_has_numbers := F6, b_has_numbers := b6, g_has_numbers := PySem.W.mg_of X G a6
    f_check_rows := f_check_rows, fd_check_rows := _, F_check_rows := F7, b_check_rows := b7, g_check_rows := PySem.W.mg_of X G a7
    f_check_width := f_check_width, fd_check_width := _, F_check_width := F8, b_check_width := b8, g_check_width := PySem.W.mg_of X G a8
    f_goal_row := f_goal_row, fd_goal_row := _, F_goal_row := F9, b_goal_row := b9, g_goal_row := PySem.W.mg_of X G a9
    f_factors_for := f_factors_for, fd_factors_for := _, F_factors_for := F10, b_factors_for := b10, g_factors_for := PySem.W.mg_of X G a10
    f_blind_row := f_blind_row, fd_blind_row := _, F_blind_row := F11, b_blind_row := b11, g_blind_row := PySem.W.mg_of X G a11
    f_solved := f_solved, fd_solved := _, F_solved := F12, b_solved := b12, g_solved := PySem.W.mg_of X G a12
    f_is_unsolvable := f_is_unsolvable, fd_is_unsolvable := _, F_is_unsolvable := F13, b_is_unsolvable := b13, g_is_unsolvable := PySem.W.mg_of X G a13
    f_reduced := f_reduced, fd_reduced := _, F_reduced := F14, b_reduced := b14, g_reduced := PySem.W.mg_of X G a14
    f_less := f_less, fd_less := _, F_less := F15, b_less := b15, g_less := PySem.W.mg_of X G a15
    f_inverse := f_inverse, fd_inverse := _, F_inverse := F16, b_inverse := b16, g_inverse := PySem.W.mg_of X G a16
    f_law_start := f_law_start, fd_law_start := _, F_law_start := F17, b_law_start := b17, g_law_start := PySem.W.mg_of X G a17
    f_law_draw := f_law_draw, fd_law_draw := _, F_law_draw := F18, b_law_draw := b18, g_law_draw := PySem.W.mg_of X G a18
    f_law_prime := f_law_prime, fd_law_prime := _, F_law_prime := F19, b_law_prime := b19, g_law_prime := PySem.W.mg_of X G a19
    f_law_rows := f_law_rows, fd_law_rows := _, F_law_rows := F20, b_law_rows := b20, g_law_rows := PySem.W.mg_of X G a20
    f_law_product := f_law_product, fd_law_product := _, F_law_product := F21, b_law_product := b21, g_law_product := PySem.W.mg_of X G a21
    f_law_sum := f_law_sum, fd_law_sum := _, F_law_sum := F22, b_law_sum := b22, g_law_sum := PySem.W.mg_of X G a22
    f_law_cleared := f_law_cleared, fd_law_cleared := _, F_law_cleared := F23, b_law_cleared := b23, g_law_cleared := PySem.W.mg_of X G a23
    f_law_rank := f_law_rank, fd_law_rank := _, F_law_rank := F24, b_law_rank := b24, g_law_rank := PySem.W.mg_of X G a24
    f_law_told := f_law_told, fd_law_told := _, F_law_told := F25, b_law_told := b25, g_law_told := PySem.W.mg_of X G a25
    f_law_right := f_law_right, fd_law_right := _, F_law_right := F26, b_law_right := b26, g_law_right := PySem.W.mg_of X G a26
    f_law_wide_blind := f_law_wide_blind, fd_law_wide_blind := _, F_law_wide_blind := F27, b_law_wide_blind := b27, g_law_wide_blind := PySem.W.mg_of X G a27
    f_law_odd_row_first := f_law_odd_row_first, fd_law_odd_row_first := _, F_law_odd_row_first := F28, b_law_odd_row_first := b28, g_law_odd_row_first := PySem.W.mg_of X G a28
    f_law_refused := f_law_refused, fd_law_refused := _, F_law_refused := F29, b_law_refused := b29, g_law_refused := PySem.W.mg_of X G a29
    f_law := fa, fd_law := _, F_law := F30, b_law := b30, g_law := PySem.W.mg_of X G a30
    t_MOST_WIDTH := t_MOST_WIDTH, c_MOST_WIDTH := PySem.W.mg_of X G v_MOST_WIDTH
    n_len := PySem.W.mg_none_of X G z_len
    n_all := PySem.W.mg_none_of X G z_all
    n_any := PySem.W.mg_none_of X G z_any
    n_list := PySem.W.mg_none_of X G z_list
    n_int := PySem.W.mg_none_of X G z_int
    n_range := PySem.W.mg_none_of X G z_range
    n_isinstance := PySem.W.mg_none_of X G z_isinstance
    n_tuple := PySem.W.mg_none_of X G z_tuple
    n_zip := PySem.W.mg_none_of X G z_zip
    n_sum := PySem.W.mg_none_of X G z_sum
    n_max := PySem.W.mg_none_of X G z_max
    n_bool := PySem.W.mg_none_of X G z_bool
    n_enumerate := PySem.W.mg_none_of X G z_enumerate
    n_abs := PySem.W.mg_none_of X G z_abs
    kb_factors_for_goal_prime_rows := ⟨fun s us ws _ hl => by
      match us, ws, hl with
      | [], [x0, x1, x2], _ => exact .of_eq rfl
      | [], [], h => exact absurd (show (List.replicate 4 Value.none).length = 3 from h) (by decide)
      | [], [_], h => exact absurd (show (List.replicate 4 Value.none).length = 3 from h) (by decide)
      | [], [_, _], h => exact absurd (show (List.replicate 4 Value.none).length = 3 from h) (by decide)
      | [], _ :: _ :: _ :: _ :: _, h => exact absurd (show (List.replicate 4 Value.none).length = 3 from h) (by decide)
      | _ :: _, _, h => exact absurd (show (List.replicate 4 Value.none).length = 3 from h) (by decide),
    fun h1 t0 => by cases h1 with | nil => (cases t0 with | nil => exact vals_rep _ | cons r0 t1 => (cases t1 with | nil => exact vals_rep _ | cons r1 t2 => (cases t2 with | nil => exact vals_rep _ | cons r2 t3 => (cases t3 with | nil => exact (.cons r1 (.cons r2 (.cons r0 .nil))) | cons _ _ => exact vals_rep _)))) | cons _ _ => exact vals_rep _⟩
    kb_blind_row_width_rows_prime := ⟨fun s us ws _ hl => by
      match us, ws, hl with
      | [], [x0, x1, x2], _ => exact .of_eq rfl
      | [], [], h => exact absurd (show (List.replicate 4 Value.none).length = 3 from h) (by decide)
      | [], [_], h => exact absurd (show (List.replicate 4 Value.none).length = 3 from h) (by decide)
      | [], [_, _], h => exact absurd (show (List.replicate 4 Value.none).length = 3 from h) (by decide)
      | [], _ :: _ :: _ :: _ :: _, h => exact absurd (show (List.replicate 4 Value.none).length = 3 from h) (by decide)
      | _ :: _, _, h => exact absurd (show (List.replicate 4 Value.none).length = 3 from h) (by decide),
    fun h1 t0 => by cases h1 with | nil => (cases t0 with | nil => exact vals_rep _ | cons r0 t1 => (cases t1 with | nil => exact vals_rep _ | cons r1 t2 => (cases t2 with | nil => exact vals_rep _ | cons r2 t3 => (cases t3 with | nil => exact (.cons r2 (.cons r1 (.cons r0 .nil))) | cons _ _ => exact vals_rep _)))) | cons _ _ => exact vals_rep _⟩
    C_BadCount := C_BadCount, g_BadCount := PySem.W.mg_of X G aCBadCount, er_BadCount := errT_of eCBadCount ⟨_, _, _, _, _, _, _, _, _, _, _, _, _, _, _, xCBadCount, ve_at _⟩ hn ht
    iC_BadCount := iCBadCount, tI_BadCount := tIBadCount, nf_BadCount := nfBadCount
    ex_BadCount_BadCount := ex_BadCount_BadCount
    ex_BadCount_BadPrime := ex_BadCount_BadPrime
    ex_BadCount_BadRow := ex_BadCount_BadRow
    C_BadPrime := C_BadPrime, g_BadPrime := PySem.W.mg_of X G aCBadPrime, er_BadPrime := errT_of eCBadPrime ⟨_, _, _, _, _, _, _, _, _, _, _, _, _, _, _, xCBadPrime, ve_at _⟩ hn ht
    iC_BadPrime := iCBadPrime, tI_BadPrime := tIBadPrime, nf_BadPrime := nfBadPrime
    ex_BadPrime_BadCount := ex_BadPrime_BadCount
    ex_BadPrime_BadPrime := ex_BadPrime_BadPrime
    ex_BadPrime_BadRow := ex_BadPrime_BadRow
    C_BadRow := C_BadRow, g_BadRow := PySem.W.mg_of X G aCBadRow, er_BadRow := errT_of eCBadRow ⟨_, _, _, _, _, _, _, _, _, _, _, _, _, _, _, xCBadRow, ve_at _⟩ hn ht
    iC_BadRow := iCBadRow, tI_BadRow := tIBadRow, nf_BadRow := nfBadRow
    ex_BadRow_BadCount := ex_BadRow_BadCount
    ex_BadRow_BadPrime := ex_BadRow_BadPrime
    ex_BadRow_BadRow := ex_BadRow_BadRow
    a_PRIMES := a_PRIMES, g_PRIMES := PySem.W.mg_of X G v_PRIMES, t_PRIMES := fun H => .inr ⟨_, _, _, l_PRIMES, rfl, rfl, s_PRIMES.1, s_PRIMES.2⟩
  }
  exact ⟨PySem.W.fnOf "law" "law" (defArgs s_law) (defBody s_law) (defScope s_law) .none kV30 dc30 pm30 an30 cd30 ct30, fun s v => .of_eq rfl, fun base _ _ => ok_law T⟩
end P
open PySem PySem.W PyProof.Rows
set_option maxRecDepth 100000 in
set_option maxHeartbeats 0 in
theorem PySem.Challenge.cw_openshares_k16_whole_factors_or_blind_ro_holds : PySem.Challenge.rw_openshares_k16_whole_factors_or_blind_ro.Holds := by
  w_on; o_law; k_head; (case hw => w_witness2)
  k_fill
  refine L2.walk_of (l := PySem.Challenge.rw_openshares_k16_whole_factors_or_blind_ro) (n := 63) (k := 9) (x := "_law_script") (CX := fun _ => L2.CX0) (sp := fun w => P.spLaw _) rfl (by decide) rfl ⟨rfl, by decide, by decide⟩ (fun w h Y => PySem.W.kIn_of Y) ?F (fun _ _ a ns hl _ hS => ⟨a, ns, rfl, hS, hl, fun _ => rfl⟩) (fun _ _ _ _ _ h => h)
  case F =>
    intro w mg fa h KX G hmg
    refine' P.all_mk KX G hmg ?aCBadCount ?xCBadCount ?eCBadCount ?iCBadCount ?tIBadCount ?nfBadCount ?aCBadPrime ?xCBadPrime ?eCBadPrime ?iCBadPrime ?tIBadPrime ?nfBadPrime ?aCBadRow ?xCBadRow ?eCBadRow ?iCBadRow ?tIBadRow ?nfBadRow ?ex_BadCount_BadCount ?ex_BadCount_BadPrime ?ex_BadCount_BadRow ?ex_BadPrime_BadCount ?ex_BadPrime_BadPrime ?ex_BadPrime_BadRow ?ex_BadRow_BadCount ?ex_BadRow_BadPrime ?ex_BadRow_BadRow ?hn ?ht ?v_PRIMES ?l_PRIMES ?s_PRIMES ?l0 ?c0 ?k0 ?l1 ?c1 ?k1 ?l2 ?c2 ?k2 ?a3 ?l3 ?c3 ?k3 ?a4 ?l4 ?c4 ?k4 ?a5 ?l5 ?c5 ?k5 ?a6 ?l6 ?c6 ?k6 ?a7 ?l7 ?c7 ?k7 ?a8 ?l8 ?c8 ?k8 ?a9 ?l9 ?c9 ?k9 ?a10 ?l10 ?c10 ?k10 ?a11 ?l11 ?c11 ?k11 ?a12 ?l12 ?c12 ?k12 ?a13 ?l13 ?c13 ?k13 ?a14 ?l14 ?c14 ?k14 ?a15 ?l15 ?c15 ?k15 ?a16 ?l16 ?c16 ?k16 ?a17 ?l17 ?c17 ?k17 ?a18 ?l18 ?c18 ?k18 ?a19 ?l19 ?c19 ?k19 ?a20 ?l20 ?c20 ?k20 ?a21 ?l21 ?c21 ?k21 ?a22 ?l22 ?c22 ?k22 ?a23 ?l23 ?c23 ?k23 ?a24 ?l24 ?c24 ?k24 ?a25 ?l25 ?c25 ?k25 ?a26 ?l26 ?c26 ?k26 ?a27 ?l27 ?c27 ?k27 ?a28 ?l28 ?c28 ?k28 ?a29 ?l29 ?c29 ?k29 ?a30 ?l30 ?c30 ?k30 ?v_MOST_WIDTH ?z_len ?z_all ?z_any ?z_list ?z_int ?z_range ?z_isinstance ?z_tuple ?z_zip ?z_sum ?z_max ?z_bool ?z_enumerate ?z_abs
    (case aCBadCount => k_is)
    (case xCBadCount => k_is)
    (case eCBadCount => kernel_rfl)
    (case iCBadCount => k_is)
    (case tIBadCount => k_is)
    (case nfBadCount => k_is)
    (case aCBadPrime => k_is)
    (case xCBadPrime => k_is)
    (case eCBadPrime => kernel_rfl)
    (case iCBadPrime => k_is)
    (case tIBadPrime => k_is)
    (case nfBadPrime => k_is)
    (case aCBadRow => k_is)
    (case xCBadRow => k_is)
    (case eCBadRow => kernel_rfl)
    (case iCBadRow => k_is)
    (case tIBadRow => k_is)
    (case nfBadRow => k_is)
    (case ex_BadCount_BadCount => kernel_rfl)
    (case ex_BadCount_BadPrime => kernel_rfl)
    (case ex_BadCount_BadRow => kernel_rfl)
    (case ex_BadPrime_BadCount => kernel_rfl)
    (case ex_BadPrime_BadPrime => kernel_rfl)
    (case ex_BadPrime_BadRow => kernel_rfl)
    (case ex_BadRow_BadCount => kernel_rfl)
    (case ex_BadRow_BadPrime => kernel_rfl)
    (case ex_BadRow_BadRow => kernel_rfl)
    (case hn => k_is)
    (case ht => k_is)
    (case v_PRIMES => k_is)
    (case l_PRIMES => k_is)
    (case s_PRIMES => exact ⟨by decide, (.cons ⟨_, rfl⟩ (.cons ⟨_, rfl⟩ (.cons ⟨_, rfl⟩ (.cons ⟨_, rfl⟩ (.cons ⟨_, rfl⟩ .nil)))))⟩)
    (case l0 => k_is)
    (case c0 => k_is)
    (case k0 => k_is)
    (case l1 => k_is)
    (case c1 => k_is)
    (case k1 => k_is)
    (case l2 => k_is)
    (case c2 => k_is)
    (case k2 => k_is)
    (case a3 => k_is)
    (case l3 => k_is)
    (case c3 => k_is)
    (case k3 => k_is)
    (case a4 => k_is)
    (case l4 => k_is)
    (case c4 => k_is)
    (case k4 => k_is)
    (case a5 => k_is)
    (case l5 => k_is)
    (case c5 => k_is)
    (case k5 => k_is)
    (case a6 => k_is)
    (case l6 => k_is)
    (case c6 => k_is)
    (case k6 => k_is)
    (case a7 => k_is)
    (case l7 => k_is)
    (case c7 => k_is)
    (case k7 => k_is)
    (case a8 => k_is)
    (case l8 => k_is)
    (case c8 => k_is)
    (case k8 => k_is)
    (case a9 => k_is)
    (case l9 => k_is)
    (case c9 => k_is)
    (case k9 => k_is)
    (case a10 => k_is)
    (case l10 => k_is)
    (case c10 => k_is)
    (case k10 => k_is)
    (case a11 => k_is)
    (case l11 => k_is)
    (case c11 => k_is)
    (case k11 => k_is)
    (case a12 => k_is)
    (case l12 => k_is)
    (case c12 => k_is)
    (case k12 => k_is)
    (case a13 => k_is)
    (case l13 => k_is)
    (case c13 => k_is)
    (case k13 => k_is)
    (case a14 => k_is)
    (case l14 => k_is)
    (case c14 => k_is)
    (case k14 => k_is)
    (case a15 => k_is)
    (case l15 => k_is)
    (case c15 => k_is)
    (case k15 => k_is)
    (case a16 => k_is)
    (case l16 => k_is)
    (case c16 => k_is)
    (case k16 => k_is)
    (case a17 => k_is)
    (case l17 => k_is)
    (case c17 => k_is)
    (case k17 => k_is)
    (case a18 => k_is)
    (case l18 => k_is)
    (case c18 => k_is)
    (case k18 => k_is)
    (case a19 => k_is)
    (case l19 => k_is)
    (case c19 => k_is)
    (case k19 => k_is)
    (case a20 => k_is)
    (case l20 => k_is)
    (case c20 => k_is)
    (case k20 => k_is)
    (case a21 => k_is)
    (case l21 => k_is)
    (case c21 => k_is)
    (case k21 => k_is)
    (case a22 => k_is)
    (case l22 => k_is)
    (case c22 => k_is)
    (case k22 => k_is)
    (case a23 => k_is)
    (case l23 => k_is)
    (case c23 => k_is)
    (case k23 => k_is)
    (case a24 => k_is)
    (case l24 => k_is)
    (case c24 => k_is)
    (case k24 => k_is)
    (case a25 => k_is)
    (case l25 => k_is)
    (case c25 => k_is)
    (case k25 => k_is)
    (case a26 => k_is)
    (case l26 => k_is)
    (case c26 => k_is)
    (case k26 => k_is)
    (case a27 => k_is)
    (case l27 => k_is)
    (case c27 => k_is)
    (case k27 => k_is)
    (case a28 => k_is)
    (case l28 => k_is)
    (case c28 => k_is)
    (case k28 => k_is)
    (case a29 => k_is)
    (case l29 => k_is)
    (case c29 => k_is)
    (case k29 => k_is)
    (case a30 => k_is)
    (case l30 => k_is)
    (case c30 => k_is)
    (case k30 => k_is)
    (case v_MOST_WIDTH => k_is)
    (case z_len => k_is)
    (case z_all => k_is)
    (case z_any => k_is)
    (case z_list => k_is)
    (case z_int => k_is)
    (case z_range => k_is)
    (case z_isinstance => k_is)
    (case z_tuple => k_is)
    (case z_zip => k_is)
    (case z_sum => k_is)
    (case z_max => k_is)
    (case z_bool => k_is)
    (case z_enumerate => k_is)
    (case z_abs => k_is)
#print axioms PySem.Challenge.cw_openshares_k16_whole_factors_or_blind_ro_holds

