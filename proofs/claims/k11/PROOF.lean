import PyProof.Rows.All
import Wide.All
import OpenK.AllK
import Wide.FinOn
import HandS.ForMost
import HandS.Walk
import HandS.Wide
import HandS.Deep
import HandS.TupAny
import HandS.Style
import HandS.IsInst
import HandS.Flow
import KE.KRevSl
import KE.SortKeyHeap
import HandS.SortKw
import PyProof.FactsAll.dict
import PyProof.FactsAll.subtypes
import KE.DataEq
import HandS.TryMany
import HandS.ExcInit
import HandS.ExcField
import HandS.ForExc
import HandS.ExcIs
import HandS.ExcValue
import HandS.DeepEq
import KE.KExcIs
import HandS.Iter
import KE.GoesEnum
import HandS.ExcOwn
import HandS.ClsMeth
import HandS.Property
import HandS.OwnEq
import HandS.MakeKwOnly
import HandS.CallLocal
import HandS.FStr
import KE.KCallOwn
import KE.KFmtOwn
import PyProof.InstEq
import HandS.SetTxt0
import HandS.SetFor
import HandS.SuiteRaise
import HandS.RaiseFrom
import HandS.ExcInitHot
import PySem.Challenge.RW_openshares_k11_family_texts
set_option Elab.async false
set_option linter.all false
set_option maxRecDepth 100000
set_option maxHeartbeats 4000000
/-! rules of my own: a call by keywords alone, a text turned round, the state of the draws -/
namespace OS
open PySem PySem.Spec PyProof.Rows L2

/-! ### f(k = v, ..) -/
section
variable {X : Cx} {CX : CXT} {k : Nat} {f : Addr} {fd : FuncData} {ps ks : List Str} {sp : Sp} {E : XK} {x : Str} {p pos : Pos} {kws : List Keyword} {tk : TA} {g : List Value → List Value → List Value} {gV : List V → List V → List V}
theorem pe_callK0 (F : FnOk X.prog X.w X.K X.mg X.base CX k f fd ps sp) (hr : Room k X.A) (hg : Gl X x) (hm : X.mg x = some (.ref f)) (hk : PySem.W.keepIn X.K (.ref f) = true) (hb : KBinds X.K fd ps ks g gV) (hx : Passes CX X E)
    (hkw : PK X kws tk) (hall : (backToKw pos (keywordEach kws X.env)).all (·.1.isSome) = true := by rfl) (hks : (backToKw pos (keywordEach kws X.env)).filterMap (·.1) = ks := by rfl)
    (hdb : (x == ("__debug__" : Str)) = false := by decide)
    (hpl : ((backTo pos (starEach [] X.env)).any (·.1) || (backToKw pos (keywordEach kws X.env)).any (·.1.isNone)) = false := by rfl) :
    PE X (.Call (.Name x p) [] kws pos) (tCallK sp gV E tNil tk) := by
  refine ⟨fun pins s σ H Q I h => ?_⟩
  refine wpAny_Call_Name_kw (ld_glob I hg hm ?_ hdb)
  refine PySem.W.callWith_KW0 (h₀ := X.base) I.ok.mod.kin hk hall ?_ hpl
  refine thn (hkw.run pos pins s σ H _ I h) fun ws s2 ⟨zs, H2, I2, rz, q2⟩ => ⟨I2.kIn, ?_⟩
  rw [hks]
  exact run_fnk (us := []) (vs := []) F hr hb hx I2 .nil rz q2
end

/-! ### text[::-1] -/
def revS (z : Str) : Str := ⟨z.cps.toList.reverse.toArray⟩
theorem revS_list (z : Str) : (revS z).cps.toList = z.cps.toList.reverse := by simp [revS]
theorem revS_len (z : Str) : (revS z).length = z.length := by simp [revS, Str.length]
def tRevS (te : TE) : TE := fun σ H Q => te σ H fun x H1 => ∃ z, x = .str z ∧ z.length ≤ sizeLine ∧ Q (.str (revS z)) H1
theorem rev_idx (n : Nat) : Builtin.Str.strSliceIndices none none (-1) n = (List.range n).reverse := by
  show sliceRange ((n : Int) - 1) (-1) (-1) = _
  rw [PySem.W.krv_sliceRange, PySem.W.krv_range]
theorem pe_revS {X : Cx} {e : Expr} {te : TE} {k : Nat} {p1 p2 p3 pos : Pos} (he : PE X e te) : PE X (.Subscript e (.Slice none none (some (.UnaryOp .USub (.Constant (.int 1) k p1) p2)) p3) pos) (tRevS te) := by
  refine ⟨fun pins s σ H Q I h => ?_⟩
  refine Subscript_ (thn (he.run pins s σ H _ I h) fun v s1 ⟨x, H1, I1, r1, q1⟩ => ?_)
  obtain ⟨z, ex, hz, q⟩ := q1
  subst ex
  obtain ⟨t, rfl⟩ := r1
  have hst : PO X (some (.UnaryOp .USub (.Constant (.int 1) k p1) p2)) (tPart (tUn (rU fun i => .int (-i)) (tC (.int 1)))) := po_some (pe_un un_neg pe_int)
  refine wpAny_Slice (thn (po_none.run pins s1 σ H1 (fun o H2 => o = none ∧ H2 = H1) I1 ⟨rfl, rfl⟩) fun vl s2 ⟨l, H2, I2, pl, el, e2⟩ => ?_)
  subst el e2
  refine thn (po_none.run pins s2 σ H2 (fun o H3 => o = none ∧ H3 = H2) I2 ⟨rfl, rfl⟩) fun vu s3 ⟨u, H3, I3, pu, eu, e3⟩ => ?_
  subst eu e3
  refine thn (hst.run pins s3 σ H3 (fun o H4 => o = some (-1) ∧ H4 = H3) I3 ⟨1, rfl, -1, rfl, rfl, rfl⟩) fun vs s4 ⟨o, H4, I4, ps, eo, e4⟩ => ?_
  subst eo e4
  have I5 : Inv X pins σ H4 { s4 with heap := s4.heap.push { cls := .type "slice", data := .fields #[vl, vu, vs] } } := I4.kept (t' := s4.toks) fun b ob q => Heap.get?_push_of_some _ q
  show wpAny (model X.prog X.w) X.A (subscriptTail e (.Slice none none (some (.UnaryOp .USub (.Constant (.int 1) k p1) p2)) p3) (.str z t) (.ref s4.heap.objs.size)) (EP X pins σ Q) X.xe { s4 with heap := s4.heap.push { cls := .type "slice", data := .fields #[vl, vu, vs] } }
  obtain ⟨pl', e1, e1'⟩ := IsPart.raw pl
  obtain ⟨pu', e2, e2'⟩ := IsPart.raw pu
  obtain ⟨ps', e3, e3'⟩ := IsPart.raw ps
  subst e1 e2 e3
  refine tail_any (typeIs_str _ z t) slot_str_getitem.lookup ?_ (by with_unfolding_all rfl)
  refine wpAny_getItem_str_slice (l := pl') (u := pu') (st := ps') ⟨_, Heap.get?_push_size _ rfl, rfl, rfl⟩ (by rw [e3']; rfl) ?_
  have el : (pl'.map (·.1)) = none := e1'
  have eu : (pu'.map (·.1)) = none := e2'
  have es : (ps'.map (·.1)) = some (-1) := e3'
  unfold sliceMade slicePicked
  rw [el, eu, es]
  show Made.post (if ((-1 : Int) == 1 && _) = true then _ else Made.str ⟨((Builtin.Str.strSliceIndices none none (-1) z.length).filterMap (z.cps[·]?)).toArray⟩) (EP X pins σ Q) _
  rw [if_neg (by simp), rev_idx]
  have ez : (List.range z.length).reverse.filterMap (z.cps[·]?) = z.cps.toList.reverse := by
    rw [List.filterMap_reverse]
    show ((List.range z.cps.size).filterMap (z.cps[·]?)).reverse = _
    rw [PySem.W.krv_all]
  rw [ez]
  exact ⟨by
    show (revS z).length ≤ sizeLine
    rw [revS_len]
    exact hz, .str (revS z), H4, I5.tok _, ⟨_, rfl⟩, q⟩
end OS
namespace OS
open PySem PySem.Spec PyProof.Rows L2
/-! ### a[k] for a[k] += e, lists -/
def rGetL (K : PySem.W.Frag) : V → V → Hp → VK → Prop := fun o i H Q => ∃ p xs k v, o = .ref p ∧ i = .int k ∧ SqL K H p xs ∧ 0 ≤ k ∧ xs[k.toNat]? = some v ∧ Q v H
theorem pget_list {X : Cx} : PGet X (rGetL X.K) := by
  intro pins s σ H o i ov iv Q I ro ri h
  obtain ⟨p, xs, k, z, rfl, rfl, hq, h0, he, q⟩ := h
  cases ro
  obtain ⟨t, rfl⟩ := ri
  obtain ⟨its, r, pl, hz⟩ := I.list hq
  obtain ⟨w, ew, rw'⟩ := r.get he
  have hl := r.length
  have hn := line63
  have hlt : k.toNat < xs.length := (List.getElem?_eq_some_iff.mp he).1
  exact wpAny_getItem_list pl.isList h0 (by omega) (by simpa using ew) ⟨z, H, I, rw', q⟩
/-! ### the state of the draws -/
structure StA (H : Hp) (p a b : Addr) (zs ms : List Int) (n : Nat) : Prop where
  hp : H p = some (.lst [.ref a, .ref b, .int (n : Int)])
  ha : H a = some (.lst (zs.map V.int))
  hb : H b = some (.lst (ms.map V.int))
  ab : a ≠ b
  ne : ms ≠ []
  lz : zs.length ≤ 100
  lm : ms.length ≤ 100
def StAt (H : Hp) (p : Addr) (n : Nat) : Prop := ∃ a b zs ms, StA H p a b zs ms n
def Own (H : Hp) (p q : Addr) : Prop := q = p ∨ ∃ xs, H p = some (.lst xs) ∧ V.ref q ∈ xs
/-- o stands at q, and q is no part of the state at p -/
structure Sep (H : Hp) (p q : Addr) (o : HO) : Prop where
  at_ : H q = some o
  no : ¬ Own H p q
/-- what is no part of the state stays -/
def Nx (p : Addr) (H H' : Hp) : Prop := ∀ q o, Sep H p q o → Sep H' p q o
theorem Nx.refl (p : Addr) (H : Hp) : Nx p H H := fun _ _ h => h
theorem Nx.trans {p : Addr} {H H1 H2 : Hp} (a : Nx p H H1) (b : Nx p H1 H2) : Nx p H H2 := fun q o h => b q o (a q o h)
theorem StA.pa {H : Hp} {p a b : Addr} {zs ms : List Int} {n : Nat} (S : StA H p a b zs ms n) : p ≠ a := by
  refine ne_of S.hp S.ha fun z => ?_
  injection z with z
  cases zs <;> simp at z
theorem StA.pb {H : Hp} {p a b : Addr} {zs ms : List Int} {n : Nat} (S : StA H p a b zs ms n) : p ≠ b := by
  refine ne_of S.hp S.hb fun z => ?_
  injection z with z
  cases ms <;> simp at z
theorem own_iff {H : Hp} {p a b : Addr} {n : Int} (h : H p = some (.lst [.ref a, .ref b, .int n])) (q : Addr) : Own H p q ↔ q = p ∨ q = a ∨ q = b := by
  unfold Own
  rw [h]
  constructor
  · rintro (h | ⟨xs, e, m⟩)
    · exact .inl h
    · cases e
      simp at m
      exact .inr m
  · rintro (h | h)
    · exact .inl h
    · refine .inr ⟨_, rfl, ?_⟩
      simpa using h
theorem StA.mk' {H : Hp} {p a b : Addr} {zs ms : List Int} {n : Nat} (S : StA H p a b zs ms n) : StAt H p n := ⟨a, b, zs, ms, S⟩
theorem StAt.same {H H' : Hp} {p : Addr} {n : Nat} (S : StAt H p n) (s : Same H H') : StAt H' p n := by
  obtain ⟨a, b, zs, ms, S⟩ := S
  exact ⟨a, b, zs, ms, s _ _ S.hp, s _ _ S.ha, s _ _ S.hb, S.ab, S.ne, S.lz, S.lm⟩
theorem StAt.nx {H H' : Hp} {p : Addr} {n : Nat} (S : StAt H p n) (s : Same H H') : Nx p H H' := by
  obtain ⟨a, b, zs, ms, S⟩ := S
  intro q o h
  refine ⟨s _ _ h.at_, fun z => h.no ?_⟩
  rw [own_iff S.hp]
  exact (own_iff (s _ _ S.hp) q).mp z
theorem same_new {H : Hp} {p : Addr} {o : HO} (h : H p = none) : Same H (upd H p o) := fun b x e => by
  rw [upd_ne (ne_of_none e h)]
  exact e
theorem StAt.free {H : Hp} {p q : Addr} {n : Nat} (S : StAt H p n) (h : H q = none) : ¬ Own H p q := by
  obtain ⟨a, b, zs, ms, S⟩ := S
  rw [own_iff S.hp]
  rintro (z | z | z)
  · exact ne_of_none S.hp h z.symm
  · exact ne_of_none S.ha h z.symm
  · exact ne_of_none S.hb h z.symm
/-- a new object -/
theorem StAt.new {H : Hp} {p q : Addr} {n : Nat} {o : HO} (S : StAt H p n) (h : H q = none) : Sep (upd H q o) p q o := by
  refine ⟨upd_same, fun z => S.free h ?_⟩
  obtain ⟨a, b, zs, ms, S⟩ := S
  rw [own_iff S.hp]
  exact (own_iff (same_new h _ _ S.hp) q).mp z
theorem Sep.sq {K : PySem.W.Frag} {H : Hp} {p q : Addr} {xs : List V} (h : Sep H p q (.lst xs)) : SqL K H q xs := .inl (.inl h.at_)
theorem Sep.st {K : PySem.W.Frag} {H : Hp} {p q : Addr} {xs : List V} (h : Sep H p q (.tup xs)) : SqT K H q xs := .inl (.inl h.at_)
/-- an object of one's own is written -/
theorem StAt.put {H : Hp} {p q : Addr} {n : Nat} {o u : HO} (S : StAt H p n) (h : Sep H p q o) : StAt (upd H q u) p n := by
  obtain ⟨a, b, zs, ms, S⟩ := S
  have no := h.no
  rw [own_iff S.hp] at no
  refine ⟨a, b, zs, ms, ?_, ?_, ?_, S.ab, S.ne, S.lz, S.lm⟩
  · rw [upd_ne (fun z => no (.inl z.symm))]; exact S.hp
  · rw [upd_ne (fun z => no (.inr (.inl z.symm)))]; exact S.ha
  · rw [upd_ne (fun z => no (.inr (.inr z.symm)))]; exact S.hb
theorem own_put {H : Hp} {p q r : Addr} {u : HO} (h : r ≠ p) : Own (upd H r u) p q ↔ Own H p q := by
  unfold Own
  rw [upd_ne (fun z => h z.symm)]
theorem Sep.ne {H : Hp} {p q : Addr} {o : HO} (h : Sep H p q o) : q ≠ p := fun z => h.no (.inl z)
theorem Sep.put_same {H : Hp} {p q : Addr} {o u : HO} (h : Sep H p q o) : Sep (upd H q u) p q u := ⟨upd_same, fun z => h.no ((own_put h.ne).mp z)⟩
theorem Sep.put_ne {H : Hp} {p q r : Addr} {o o' u : HO} (h : Sep H p q o) (h' : Sep H p r o') (n : q ≠ r) : Sep (upd H r u) p q o := ⟨by rw [upd_ne n]; exact h.at_, fun z => h.no ((own_put h'.ne).mp z)⟩
/-! ### what the draws promise -/
structure DrawOk (n : Nat) (size : Int) : Prop where
  few : n ≤ 1000000000
  pos : 0 < size
  big : size < 1000000000000
def spDraw : Sp := fun vs H Q _ => ∃ (p : Addr) (n : Nat) (size : Int), vs = [.ref p, .int size] ∧ StAt H p n ∧ DrawOk n size ∧
  ∀ (r : Int) (H' : Hp), 0 ≤ r → r < size → StAt H' p (n + 1) → Nx p H H' → Q (.int r) H'
def spStart (K : PySem.W.Frag) : Sp := fun vs H Q _ => ∃ (a : Addr) (ns : List Int), vs = [.ref a] ∧ SqL K H a (ns.map V.int) ∧ ns.length ≤ 63 ∧ ∀ (p : Addr) (H' : Hp), Same H H' → H p = none → StAt H' p 0 → Q (.ref p) H'
end OS
namespace OS
open PySem PySem.Spec PyProof.Rows L2
/-! ### comprehensions whose parts change nothing that is tracked -/
theorem paired_snoc {α β : Type} {R : α → β → Prop} : ∀ {xs : List α} {ys : List β} {x : α} {y : β}, Paired R xs ys → R x y → Paired R (xs ++ [x]) (ys ++ [y])
  | _, _, _, _, .nil, h => .cons h .nil
  | _, _, _, _, .cons r t, h => .cons r (paired_snoc t h)
theorem take_snoc {α : Type} {xs : List α} {i : Nat} {a : α} (h : xs[i]? = some a) : xs.take (i + 1) = xs.take i ++ [a] := by
  rw [List.take_add_one, h]
  rfl
theorem same_put {H1 H : Hp} {D : Addr} {o : HO} (s : Same H1 H) (hD : H1 D = none) : Same H1 (upd H D o) := fun b x e => by
  rw [upd_ne (ne_of_none e hD)]
  exact s b x e
theorem same_put' {H1 H : Hp} {D : Addr} {o : HO} (s : Same H1 H) (hD : H1 D = none) : Same H1 (upd H D o) := same_put s hD
theorem small1e5 {n : Nat} (h : n ≤ 100000) : n < sizeLine := Nat.lt_of_le_of_lt h (by decide)
/-- over xs, where t holds: a value that stands in R to the item -/
theorem lc_rel {α : Type} {J : It} {n : Nat} {G : Hp → Prop} {Y : Nat → Hp → V → Hp → Prop} (w : Walk J n G Y) {xs : List α} (hn : xs.length = n) (hz : n ≤ 100000) (t : α → Bool) (R : Hp → α → V → Prop) {g : TG} {tt : TT} {te : TE} {vs : List Nat} {σ : L2.St} {H1 : Hp} {D : Addr} {Qd : Hp → Prop}
    (hD : H1 D = none) (hR : ∀ H H' a v acc, Same H1 H → H D = some (.lst acc) → (∀ b o, H b = some o → b ≠ D → H' b = some o) → R H a v → R H' a v) (hG : ∀ H, Same H1 H → G H)
    (hs : ∀ i a x H H' (Qk : V → Hp → Prop) (Qn : Hp → Prop), xs[i]? = some a → Same H1 H → Y i H x H' → (t a = true → ∀ y H4, R H4 a y → Same H H4 → Qk y H4) → (t a = false → ∀ H4, Same H H4 → Qn H4) →
      g x (wipe σ vs) H' fun σ2 H2 => wipe σ2 vs = wipe σ vs ∧ tt σ2 H2 fun b H3 => if b = true then te σ2 H3 Qk else Qn H3)
    (hd : ∀ H acc, Same H1 H → H D = some (.lst acc) → Paired (R H) (xs.filter t) acc → Qd H) :
    ∃ W : Nat → Nat → Hp → Prop, (∃ m, W 0 m (upd H1 D (.lst []))) ∧ ∀ i m H, W i m H →
      (J.stop i H ∧ Qd H) ∨ (J.go i H ∧ ∃ Nx : Hp → Prop, (∀ H', Nx H' → ∃ m', m' < m ∧ W (i + 1) m' H') ∧ ∀ x H', J.yld i H x H' → g x (wipe σ vs) H' fun σ2 H2 => wipe σ2 vs = wipe σ vs ∧ tt σ2 H2 fun b H3 =>
        if b = true then te σ2 H3 fun y H4 => ∃ acc, H4 D = some (.lst acc) ∧ acc.length < sizeLine ∧ Nx (upd H4 D (.lst (acc ++ [y]))) else Nx H3) := by
  refine lc_it w (fun i H => Same H1 H ∧ ∃ acc, H D = some (.lst acc) ∧ acc.length ≤ i ∧ Paired (R H) ((xs.take i).filter t) acc) ⟨same_new hD, [], upd_same, Nat.le_refl _, .nil⟩ (fun i H _ h => hG H h.1) ?_ ?_
  · intro i x H H' hi ⟨sm, acc, hacc, hl, pr⟩ hy
    have hx : xs[i]? = some xs[i] := List.getElem?_eq_getElem (by omega)
    have ht := take_snoc hx
    refine hs i xs[i] x H H' _ _ hx sm hy (fun e y H4 hr s4 => ?_) (fun e H4 s4 => ?_)
    · have h4 := s4 _ _ hacc
      refine ⟨acc, h4, Nat.lt_of_le_of_lt hl (small1e5 (by omega)), same_put (sm.trans s4) hD, acc ++ [y], upd_same, by simp; omega, ?_⟩
      rw [ht, List.filter_append, show [xs[i]].filter t = [xs[i]] by simp [e]]
      have kp : ∀ b o, H4 b = some o → b ≠ D → (upd H4 D (.lst (acc ++ [y]))) b = some o := fun b o q z => by rw [upd_ne z]; exact q
      exact paired_snoc (L2.Paired.mapP pr fun a v q => hR _ _ a v acc (sm.trans s4) h4 kp (hR _ _ a v acc sm hacc (fun b o q _ => s4 b o q) q)) (hR _ _ _ _ acc (sm.trans s4) h4 kp hr)
    · refine ⟨sm.trans s4, acc, s4 _ _ hacc, by omega, ?_⟩
      rw [ht, List.filter_append, show [xs[i]].filter t = [] by simp [e], List.append_nil]
      exact L2.Paired.mapP pr fun a v q => hR _ _ a v acc sm hacc (fun b o q _ => s4 b o q) q
  · intro H ⟨sm, acc, hacc, hl, pr⟩
    rw [List.take_of_length_le (by omega)] at pr
    exact hd H acc sm hacc pr
theorem paired_fn {α β : Type} {F : α → β} : ∀ {xs : List α} {ys : List β}, Paired (fun a v => v = F a) xs ys → ys = xs.map F
  | _, _, .nil => rfl
  | _, _, .cons r t => by rw [r, paired_fn t]; rfl
/-- .. a value that is told by the item -/
theorem lc_fn {α : Type} {J : It} {n : Nat} {G : Hp → Prop} {Y : Nat → Hp → V → Hp → Prop} (w : Walk J n G Y) {xs : List α} (hn : xs.length = n) (hz : n ≤ 100000) (t : α → Bool) (F : α → V) {g : TG} {tt : TT} {te : TE} {vs : List Nat} {σ : L2.St} {H1 : Hp} {D : Addr} {Qd : Hp → Prop}
    (hD : H1 D = none) (hG : ∀ H, Same H1 H → G H)
    (hs : ∀ i a x H H' (Qk : V → Hp → Prop) (Qn : Hp → Prop), xs[i]? = some a → Same H1 H → Y i H x H' → (t a = true → ∀ H4, Same H H4 → Qk (F a) H4) → (t a = false → ∀ H4, Same H H4 → Qn H4) →
      g x (wipe σ vs) H' fun σ2 H2 => wipe σ2 vs = wipe σ vs ∧ tt σ2 H2 fun b H3 => if b = true then te σ2 H3 Qk else Qn H3)
    (hd : ∀ H, Same H1 H → H D = some (.lst ((xs.filter t).map F)) → Qd H) :
    ∃ W : Nat → Nat → Hp → Prop, (∃ m, W 0 m (upd H1 D (.lst []))) ∧ ∀ i m H, W i m H →
      (J.stop i H ∧ Qd H) ∨ (J.go i H ∧ ∃ Nx : Hp → Prop, (∀ H', Nx H' → ∃ m', m' < m ∧ W (i + 1) m' H') ∧ ∀ x H', J.yld i H x H' → g x (wipe σ vs) H' fun σ2 H2 => wipe σ2 vs = wipe σ vs ∧ tt σ2 H2 fun b H3 =>
        if b = true then te σ2 H3 fun y H4 => ∃ acc, H4 D = some (.lst acc) ∧ acc.length < sizeLine ∧ Nx (upd H4 D (.lst (acc ++ [y]))) else Nx H3) := by
  refine lc_rel w hn hz t (fun _ a v => v = F a) hD (fun _ _ _ _ _ _ _ _ e => e) hG (fun i a x H H' Qk Qn h1 h2 h3 h4 h5 => hs i a x H H' Qk Qn h1 h2 h3 (fun e H4 s => h4 e _ H4 rfl s) h5) fun H acc s e p => ?_
  rw [paired_fn p] at e
  exact hd H s e
/-- .. all of xs -/
theorem lc_all {α : Type} {J : It} {n : Nat} {G : Hp → Prop} {Y : Nat → Hp → V → Hp → Prop} (w : Walk J n G Y) {xs : List α} (hn : xs.length = n) (hz : n ≤ 100000) (F : α → V) {g : TG} {te : TE} {vs : List Nat} {σ : L2.St} {H1 : Hp} {D : Addr} {Qd : Hp → Prop}
    (hD : H1 D = none) (hG : ∀ H, Same H1 H → G H)
    (hs : ∀ i a x H H' (Qk : V → Hp → Prop), xs[i]? = some a → Same H1 H → Y i H x H' → (∀ H4, Same H H4 → Qk (F a) H4) → g x (wipe σ vs) H' fun σ2 H2 => wipe σ2 vs = wipe σ vs ∧ te σ2 H2 Qk)
    (hd : ∀ H, Same H1 H → H D = some (.lst (xs.map F)) → Qd H) :
    ∃ W : Nat → Nat → Hp → Prop, (∃ m, W 0 m (upd H1 D (.lst []))) ∧ ∀ i m H, W i m H →
      (J.stop i H ∧ Qd H) ∨ (J.go i H ∧ ∃ Nx : Hp → Prop, (∀ H', Nx H' → ∃ m', m' < m ∧ W (i + 1) m' H') ∧ ∀ x H', J.yld i H x H' → g x (wipe σ vs) H' fun σ2 H2 => wipe σ2 vs = wipe σ vs ∧ tYes σ2 H2 fun b H3 =>
        if b = true then te σ2 H3 fun y H4 => ∃ acc, H4 D = some (.lst acc) ∧ acc.length < sizeLine ∧ Nx (upd H4 D (.lst (acc ++ [y]))) else Nx H3) := by
  refine lc_it w (fun i H => Same H1 H ∧ H D = some (.lst ((xs.take i).map F))) ⟨same_new hD, upd_same⟩ (fun i H _ h => hG H h.1) ?_ ?_
  · intro i x H H' hi ⟨sm, hacc⟩ hy
    have hx : xs[i]? = some xs[i] := List.getElem?_eq_getElem (by omega)
    refine hs i xs[i] x H H' _ hx sm hy (fun H4 s4 => ?_)
    refine ⟨_, s4 _ _ hacc, ?_, same_put (sm.trans s4) hD, ?_⟩
    · rw [List.length_map]
      exact small1e5 (Nat.le_trans (List.length_take_le _ _) (by omega))
    · rw [upd_same, take_snoc hx, List.map_append]
      rfl
  · intro H ⟨sm, hacc⟩
    rw [List.take_of_length_le (by omega)] at hacc
    exact hd H sm hacc
end OS
namespace OS
open PySem PySem.Spec PyProof.Rows L2
/-! ### data in lists: == and != -/
def okS (z : Str) : Prop := PyData.canLay0 (.str z) = true
theorem dp_all {α : Type} {K : PySem.W.Frag} {H : Hp} {f : α → V} {g : α → PyData} (h : ∀ a, Dp K H (f a) (g a)) : ∀ xs : List α, DpAll K H (xs.map f) (xs.map g)
  | [] => .nil
  | a :: r => .cons (h a) (dp_all h r)
theorem dp_strs {K : PySem.W.Frag} {H : Hp} {a : Addr} {xs : List Str} (h : SqL K H a (xs.map V.str)) : Dp K H (.ref a) (.list (xs.map .str)) := .lst h (dp_all (fun x => .str x) xs)
theorem dp_ints {K : PySem.W.Frag} {H : Hp} {a : Addr} {xs : List Int} (h : SqL K H a (xs.map V.int)) : Dp K H (.ref a) (.list (xs.map .int)) := .lst h (dp_all (fun x => .int x) xs)
theorem lay_all {α : Type} {g : α → PyData} : ∀ {xs : List α}, (∀ a ∈ xs, (g a).canLay0 = true) → PyData.canLayAll0 (xs.map g) = true
  | [], _ => rfl
  | a :: r, h => by
    show ((g a).canLay0 && PyData.canLayAll0 (r.map g)) = true
    rw [h a (.head _), lay_all fun b hb => h b (.tail _ hb)]
    rfl
theorem depth_all {α : Type} {g : α → PyData} {n : Nat} : ∀ {xs : List α}, (∀ a ∈ xs, (g a).depth ≤ n) → PyData.depthAll (xs.map g) ≤ n
  | [], _ => Nat.zero_le _
  | a :: r, h => by
    show max (g a).depth (PyData.depthAll (r.map g)) ≤ n
    exact Nat.max_le.mpr ⟨h a (.head _), depth_all fun b hb => h b (.tail _ hb)⟩
theorem shaped_of {d : PyData} {n : Nat} (h : d.canLay0 = true) (hd : d.depth ≤ n) (hn : n ≤ 64) : SeqAt.shaped d = true := by
  show (d.canLay0 && decide (d.depth ≤ 64)) = true
  rw [h, decide_eq_true (Nat.le_trans hd hn)]
  rfl
theorem shaped_strs {xs : List Str} (h : ∀ x ∈ xs, okS x) : SeqAt.shaped (.list (xs.map .str)) = true :=
  shaped_of (n := 1) (lay_all (g := .str) h) (Nat.succ_le_succ (depth_all (n := 0) fun _ _ => Nat.le_refl 0)) (by decide)
theorem shaped_ints {xs : List Int} : SeqAt.shaped (.list (xs.map .int)) = true :=
  shaped_of (n := 1) (lay_all (g := .int) fun _ _ => rfl) (Nat.succ_le_succ (depth_all (n := 0) fun _ _ => Nat.le_refl 0)) (by decide)
theorem shaped_nil : SeqAt.shaped (.list []) = true := rfl
theorem dp_nil {K : PySem.W.Frag} {H : Hp} {a : Addr} (h : SqL K H a []) : Dp K H (.ref a) (.list []) := .lst h .nil
theorem eqv_nil (ds : List PyData) : PyData.eqv (.list ds) (.list []) = ds.isEmpty := by
  cases ds <;> rfl
/-- a list of ints against [] -/
theorem ints_ne_nil {K : PySem.W.Frag} {H : Hp} {a p : Addr} {xs : List Int} {Q : VK} (h : SqL K H a (xs.map V.int)) (h0 : SqL K H p []) (q : Q (.bl (!xs.isEmpty)) H) : rNeD K (.ref a) (.ref p) H Q := by
  refine ⟨_, _, dp_ints h, dp_nil h0, shaped_ints, shaped_nil, ?_⟩
  rw [eqv_nil]
  cases xs <;> exact q
theorem strs_ne_nil {K : PySem.W.Frag} {H : Hp} {a p : Addr} {xs : List Str} {Q : VK} (h : SqL K H a (xs.map V.str)) (ho : ∀ x ∈ xs, okS x) (h0 : SqL K H p []) (q : Q (.bl (!xs.isEmpty)) H) : rNeD K (.ref a) (.ref p) H Q := by
  refine ⟨_, _, dp_strs h, dp_nil h0, shaped_strs ho, shaped_nil, ?_⟩
  rw [eqv_nil]
  cases xs <;> exact q
theorem strs_eq_nil {K : PySem.W.Frag} {H : Hp} {a p : Addr} {xs : List Str} {Q : VK} (h : SqL K H a (xs.map V.str)) (ho : ∀ x ∈ xs, okS x) (h0 : SqL K H p []) (q : Q (.bl xs.isEmpty) H) : rEqD K (.ref a) (.ref p) H Q := by
  refine ⟨_, _, dp_strs h, dp_nil h0, shaped_strs ho, shaped_nil, ?_⟩
  rw [eqv_nil]
  cases xs <;> exact q
end OS
namespace OS
open PySem PySem.Spec PyProof.Rows L2
/-! ### the state's own turns -/
theorem filter_empty {α : Type} {t : α → Bool} : ∀ l : List α, (l.filter fun c => !t c).isEmpty = l.all t
  | [] => rfl
  | a :: r => by
    have ih := filter_empty (t := t) r
    cases e : t a
    · simp [e]
    · rw [List.filter_cons_of_neg (by simp [e]), List.all_cons, e, Bool.true_and]
      exact ih
theorem cutV1 (xs : List V) : cutV xs (some 1) none = xs.drop 1 := by
  unfold cutV
  rw [show HT.sIx xs.length 0 (some 1) = min 1 xs.length from HT.sIx_nat xs.length 0 1, HT.sIx_none]
  cases xs with
  | nil => rfl
  | cons x r =>
    rw [show min 1 (x :: r).length = 1 by
      rw [List.length_cons]
      omega]
    show (List.take ((x :: r).length - 1) r) = r
    rw [List.length_cons, Nat.add_sub_cancel]
    exact List.take_length
section
variable {H H' : Hp} {p a b r : Addr} {zs zs' ms : List Int} {n : Nat}
theorem StA.same (S : StA H p a b zs ms n) (s : Same H H') : StA H' p a b zs ms n := ⟨s _ _ S.hp, s _ _ S.ha, s _ _ S.hb, S.ab, S.ne, S.lz, S.lm⟩
theorem StA.nx (S : StA H p a b zs ms n) (s : Same H H') : Nx p H H' := S.mk'.nx s
/-- all but p and a stays -/
theorem StA.nx_put (S : StA H p a b zs ms n) {x : Addr} {k : Int} (s : ∀ q o, H q = some o → q ≠ p → q ≠ a → H' q = some o) (hp : H' p = some (.lst [.ref x, .ref b, .int k])) (hx : x = a ∨ H x = none) : Nx p H H' := by
  intro q o h
  have no := h.no
  rw [own_iff S.hp] at no
  refine ⟨s _ _ h.at_ (fun z => no (.inl z)) (fun z => no (.inr (.inl z))), ?_⟩
  rw [own_iff hp]
  rintro (z | z | z)
  · exact no (.inl z)
  · rcases hx with e | e
    · exact no (.inr (.inl (z.trans e)))
    · exact ne_of_none h.at_ e z
  · exact no (.inr (.inr z))
theorem StA.bump (S : StA H p a b zs ms n) : StA (upd H p (.lst [.ref a, .ref b, .int ((n : Int) + 1)])) p a b zs ms (n + 1) := by
  refine ⟨upd_same, ?_, ?_, S.ab, S.ne, S.lz, S.lm⟩
  · rw [upd_ne S.pa.symm]; exact S.ha
  · rw [upd_ne S.pb.symm]; exact S.hb
theorem StA.bump_nx (S : StA H p a b zs ms n) {k : Int} : Nx p H (upd H p (.lst [.ref a, .ref b, .int k])) :=
  S.nx_put (fun q o e z _ => by rw [upd_ne z]; exact e) upd_same (.inl rfl)
theorem StA.swap (S : StA H p a b zs ms n) (hr : H r = none) (hz : zs'.length ≤ 100) : StA (upd (upd H r (.lst (zs'.map V.int))) p (.lst [.ref r, .ref b, .int (n : Int)])) p r b zs' ms n := by
  have rp : r ≠ p := (ne_of_none S.hp hr).symm
  have rb : r ≠ b := (ne_of_none S.hb hr).symm
  refine ⟨upd_same, ?_, ?_, rb, S.ne, hz, S.lm⟩
  · rw [upd_ne rp, upd_same]
  · rw [upd_ne S.pb.symm, upd_ne rb.symm]; exact S.hb
theorem StA.swap_nx (S : StA H p a b zs ms n) (hr : H r = none) : Nx p H (upd (upd H r (.lst (zs'.map V.int))) p (.lst [.ref r, .ref b, .int (n : Int)])) :=
  S.nx_put (fun q o e z _ => by rw [upd_ne z, upd_ne (ne_of_none e hr)]; exact e) upd_same (.inr hr)
theorem StA.seta (S : StA H p a b zs ms n) (hz : zs'.length ≤ 100) : StA (upd H a (.lst (zs'.map V.int))) p a b zs' ms n := by
  refine ⟨?_, upd_same, ?_, S.ab, S.ne, hz, S.lm⟩
  · rw [upd_ne S.pa]; exact S.hp
  · rw [upd_ne S.ab.symm]; exact S.hb
theorem StA.seta_nx (S : StA H p a b zs ms n) : Nx p H (upd H a (.lst (zs'.map V.int))) :=
  S.nx_put (fun q o e _ z => by rw [upd_ne z]; exact e) (by rw [upd_ne S.pa]; exact S.hp) (.inl rfl)
end
theorem pow5 (x : Int) : 0 ≤ (x ^ 5) % 2147483647 ∧ (x ^ 5) % 2147483647 < 2147483647 := ⟨Int.emod_nonneg _ (by decide), Int.emod_lt_of_pos _ (by decide)⟩
end OS
namespace OS
open PySem PySem.Spec PyProof.Rows L2
theorem at0 {α : Type} {x : α} {l : List α} : atI (x :: l) 0 = some x := atI_nat (j := 0) rfl
theorem ix0 {α : Type} {x : α} {l : List α} : ixN (x :: l).length 0 = some 0 := by
  unfold ixN
  rw [if_pos (by decide), if_pos (by rw [List.length_cons]; omega)]
  rfl
end OS
namespace OS
open PySem PySem.Spec PyProof.Rows L2
/-- a statement, then the rest: Z holds between them, whatever way led there -/
theorem seq_cut {t U : TS} {D : Ends} {σ : L2.St} {H : Hp} (Z : L2.St → Hp → Prop) (h : ∀ Qz : L2.St → Hp → Prop, (∀ σ' H', Z σ' H' → Qz σ' H') → t { D with nx := Qz } σ H) (hz : ∀ σ' H', Z σ' H' → U D σ' H') : tSeq t U D σ H := h (U D) hz
end OS
namespace OS
open PySem PySem.Spec PyProof.Rows L2
/-! ### joined texts -/
theorem glue_fold : ∀ (r : List Str) (acc : Array Nat), (r.foldl (fun acc p => acc ++ Str.empty.cps ++ p.cps) acc).toList = acc.toList ++ (r.map fun p => p.cps.toList).flatten
  | [], acc => by simp
  | p :: r, acc => by
    rw [List.foldl_cons, glue_fold r]
    simp [Str.empty]
theorem join0 (ys : List Str) : (Txt.join Str.empty ys).cps.toList = (ys.map fun p => p.cps.toList).flatten := by
  unfold Txt.join Builtin.Str.glued
  cases ys with
  | nil => simp [Str.empty]
  | cons y r =>
    show (r.foldl _ y.cps).toList = _
    rw [glue_fold r]
    rfl
/-- signs one by one -/
theorem join_signs (cs : List Nat) : (Txt.join Str.empty (cs.map fun c => ⟨#[c]⟩)).cps.toList = cs := by
  rw [join0, List.map_map]
  induction cs with
  | nil => rfl
  | cons c r ih => simpa using ih
theorem signs_len (cs : List Nat) : ((cs.map fun c => (⟨#[c]⟩ : Str)).map (·.length)).sum = cs.length := by
  induction cs with
  | nil => rfl
  | cons c r ih =>
    rw [List.map_cons, List.map_cons, List.sum_cons, ih, List.length_cons]
    show 1 + r.length = _
    omega
theorem str_list_len (z : Str) : z.cps.toList.length = z.length := by simp [Str.length]
theorem app_signs (a b : Str) : (a ++ b).cps.toList = a.cps.toList ++ b.cps.toList := cps_toList_append a b
theorem app_len (a b : Str) : (a ++ b).length = a.length + b.length := by
  rw [← str_list_len, app_signs, List.length_append, str_list_len, str_list_len]
end OS
namespace OS
open PySem PySem.Spec PyProof.Rows L2
/-! ### comprehensions whose parts draw -/
theorem lc_dr {J : It} {n : Nat} {G : Hp → Prop} {Y : Nat → Hp → V → Hp → Prop} (w : Walk J n G Y) (hz : n ≤ 100000) (p : Addr) (m0 c : Nat) (R : Hp → V → Prop) {g : TG} {te : TE} {vs : List Nat} {σ : L2.St} {H1 : Hp} {D : Addr} {Qd : Hp → Prop}
    (S : StAt H1 p m0) (hD : H1 D = none) (hR : ∀ H H' y acc, Sep H p D (.lst acc) → (∀ q o, Sep H p q o → q ≠ D → Sep H' p q o) → R H y → R H' y) (hG : ∀ H, Nx p H1 H → G H)
    (hs : ∀ i m x H H' (Qk : V → Hp → Prop), i < n → StAt H p m → m ≤ m0 + c * i → Nx p H1 H → (∃ acc, Sep H p D (.lst acc)) → Y i H x H' → (∀ y H4 m', R H4 y → StAt H4 p m' → m' ≤ m + c → Nx p H H4 → Qk y H4) → g x (wipe σ vs) H' fun σ2 H2 => wipe σ2 vs = wipe σ vs ∧ te σ2 H2 Qk)
    (hd : ∀ H m acc, StAt H p m → m ≤ m0 + c * n → Nx p H1 H → Sep H p D (.lst acc) → acc.length = n → (∀ y ∈ acc, R H y) → Qd H) :
    ∃ W : Nat → Nat → Hp → Prop, (∃ m, W 0 m (upd H1 D (.lst []))) ∧ ∀ i m H, W i m H →
      (J.stop i H ∧ Qd H) ∨ (J.go i H ∧ ∃ Nx : Hp → Prop, (∀ H', Nx H' → ∃ m', m' < m ∧ W (i + 1) m' H') ∧ ∀ x H', J.yld i H x H' → g x (wipe σ vs) H' fun σ2 H2 => wipe σ2 vs = wipe σ vs ∧ tYes σ2 H2 fun b H3 =>
        if b = true then te σ2 H3 fun y H4 => ∃ acc, H4 D = some (.lst acc) ∧ acc.length < sizeLine ∧ Nx (upd H4 D (.lst (acc ++ [y]))) else Nx H3) := by
  refine lc_it w (fun i H => ∃ m acc, StAt H p m ∧ m ≤ m0 + c * i ∧ Nx p H1 H ∧ Sep H p D (.lst acc) ∧ acc.length = i ∧ ∀ y ∈ acc, R H y) ⟨m0, [], S.same (same_new hD), Nat.le_add_right _ _, S.nx (same_new hD), S.new hD, rfl, fun y h => nomatch h⟩ (fun i H _ ⟨_, _, _, _, x, _⟩ => hG H x) ?_ ?_
  · intro i x H H' hi ⟨m, acc, S', hm, nx, sD, hl, hr⟩ hy
    refine hs i m x H H' _ hi S' hm nx ⟨_, sD⟩ hy fun y H4 m' ry S4 hm' nx4 => ?_
    have sD4 := nx4 _ _ sD
    refine ⟨acc, sD4.at_, by rw [hl]; exact small1e5 (by omega), m', acc ++ [y], S4.put sD4, by rw [Nat.mul_succ]; omega, ?_, sD4.put_same, by simp [hl], ?_⟩
    · intro q o hq
      have hq4 := nx4 _ _ (nx q o hq)
      have : q ≠ D := ne_of_none hq.at_ hD
      exact hq4.put_ne sD4 this
    · have kp : ∀ q o, Sep H4 p q o → q ≠ D → Sep (upd H4 D (.lst (acc ++ [y]))) p q o := fun q o h n => h.put_ne sD4 n
      intro z hz'
      rcases List.mem_append.mp hz' with h | h
      · exact hR _ _ z acc sD4 kp (hR _ _ z acc sD (fun q o h _ => nx4 q o h) (hr z h))
      · rw [List.mem_singleton.mp h]
        exact hR _ _ y acc sD4 kp ry
  · intro H ⟨m, acc, S', hm, nx, sD, hl, hr⟩
    exact hd H m acc S' hm nx sD hl hr
end OS
namespace OS
open PySem PySem.Spec PyProof.Rows L2
/-- a place to stop: a statement whose ways meet behind it -/
structure Stop (t u : TS) (D : Ends) (σ : L2.St) (H : Hp) : Prop where
  go : tSeq t u D σ H
theorem pss_stop {X : Cx} {st : Stmt} {rest : List Stmt} {t u : TS} (h1 : PS X st t) (h2 : PSs X rest u) : PSs X (st :: rest) (Stop t u) := ⟨fun pins s σ H D I h => (pss_cons h1 h2).run pins s σ H D I h.go⟩
theorem Stop.cut {t U : TS} {D : Ends} {σ : L2.St} {H : Hp} (Z : L2.St → Hp → Prop) (h : ∀ Qz : L2.St → Hp → Prop, (∀ σ' H', Z σ' H' → Qz σ' H') → t { D with nx := Qz } σ H) (hz : ∀ σ' H', Z σ' H' → U D σ' H') : Stop t U D σ H := ⟨seq_cut Z h hz⟩
end OS
namespace OS
open PySem PySem.Spec PyProof.Rows L2
theorem at_pick {α : Type} {l : List α} {i : Int} (h0 : 0 ≤ i) (h1 : i < l.length) : ∃ v, atI l i = some v ∧ v ∈ l := by
  obtain ⟨n, rfl⟩ := Int.eq_ofNat_of_zero_le h0
  have hn : n < l.length := by omega
  exact ⟨l[n], atI_nat (List.getElem?_eq_getElem hn), List.getElem_mem hn⟩
/-- a sign of a text -/
theorem sign_pick {z : Str} {i : Int} (h0 : 0 ≤ i) (h1 : i < z.length) : ∃ c, atI z.cps.toList i = some c ∧ c ∈ z.cps.toList := at_pick h0 (by rw [str_list_len]; exact h1)
end OS
namespace OS
open PySem PySem.Spec PyProof.Rows L2
theorem vals_rep : ∀ n : Nat, Vals (List.replicate n V.non) (List.replicate n Value.none)
  | 0 => .nil
  | n + 1 => .cons rfl (vals_rep n)
theorem Vals.len1 {vs : List V} {us : List Value} (h : Vals vs us) : vs.length = us.length := L2.Vals.length h
end OS
namespace OS
open PySem PySem.Spec PyProof.Rows L2
/-- a new object, the heap told by what stands -/
theorem newO {H : Hp} {o : HO} {Q : VK} (h : ∀ (p : Addr) (H' : Hp), H p = none → Same H H' → H' p = some o → Q (.ref p) H') : ∀ p, H p = none → Q (.ref p) (upd H p o) := fun p hp => h p _ hp (same_new hp) upd_same
theorem newS {H : Hp} {o : HO} {Q : VK} {p : Addr} {n : Nat} (S : StAt H p n) (h : ∀ (q : Addr) (H' : Hp), H q = none → StAt H' p n → Nx p H H' → Sep H' p q o → Q (.ref q) H') : ∀ q, H q = none → Q (.ref q) (upd H q o) := fun q hq => h q _ hq (S.same (same_new hq)) (S.nx (same_new hq)) (S.new hq)
theorem Sep.of_new {H H' : Hp} {p q : Addr} {n : Nat} {o : HO} (S : StAt H p n) (s : Same H H') (hq : H q = none) (h : H' q = some o) : Sep H' p q o := by
  obtain ⟨a, b, zs, ms, S⟩ := S
  refine ⟨h, fun z => ?_⟩
  rw [own_iff (s _ _ S.hp)] at z
  rcases z with z | z | z
  · exact ne_of_none S.hp hq z.symm
  · exact ne_of_none S.ha hq z.symm
  · exact ne_of_none S.hb hq z.symm
end OS
namespace OS
open PySem PySem.Spec PyProof.Rows L2
/-! ### rules whose new object comes with what stands, not with the heap's term -/
theorem peImp {X : Cx} {e : Expr} {t t' : TE} (h : PE X e t) (k : ∀ σ H Q, t' σ H Q → t σ H Q) : PE X e t' := ⟨fun pins s σ H Q I q => h.run pins s σ H Q I (k σ H Q q)⟩
def tMonoA (t : TA) : TA := fun σ H Q => ∃ Q0 : List V → Hp → Prop, t σ H Q0 ∧ ∀ xs H1, Q0 xs H1 → Q xs H1
theorem pa_mono {X : Cx} {es : List Expr} {t : TA} (h : PA X es t) : PA X es (tMonoA t) := ⟨fun pos pins s σ H Q I ⟨Q0, q0, k⟩ => thn (h.run pos pins s σ H Q0 I q0) fun us s1 ⟨xs, H1, I1, r, q⟩ => ⟨xs, H1, I1, r, k xs H1 q⟩⟩
/-- what follows a new object o -/
def NewO (H : Hp) (o : HO) (Q : VK) : Prop := ∀ (p : Addr) (H' : Hp), H p = none → Same H H' → H' p = some o → Q (.ref p) H'
theorem NewO.to {H : Hp} {o : HO} {Q : VK} (h : NewO H o Q) : ∀ p, H p = none → Q (.ref p) (upd H p o) := fun p hp => h p _ hp (same_new hp) upd_same
def tLstO (t : TA) : TE := fun σ H Q => t σ H fun xs H1 => xs.length ≤ sizeLine ∧ NewO H1 (.lst xs) Q
def tTupO (t : TA) : TE := fun σ H Q => t σ H fun xs H1 => xs.length ≤ sizeLine ∧ NewO H1 (.tup xs) Q
section
variable {X : Cx} {es : List Expr} {t : TA} {pos : Pos}
theorem pe_lstO (h : PA X es t) : PE X (.List es pos) (tLstO t) := peImp (pe_lst (pa_mono h)) fun _ _ _ q => ⟨_, q, fun _ _ z => ⟨z.1, z.2.to⟩⟩
theorem pe_tupO {x1} (h : PA X es t) : PE X (.Tuple es x1 pos) (tTupO t) := peImp (pe_tup (pa_mono h)) fun _ _ _ q => ⟨_, q, fun _ _ z => ⟨z.1, z.2.to⟩⟩
theorem opImp {f : Value → Value → Sem Value} {r r' : R2} (h : OpR X f r) (k : ∀ x y H Q, r' x y H Q → r x y H Q) : OpR X f r' := fun pins s σ H x y v u Q I rx ry q => h pins s σ H x y v u Q I rx ry (k x y H Q q)
/-- xs + ys, lists -/
def rCatO : R2 := fun x y H Q => ∃ l b xs zs, x = .ref l ∧ y = .ref b ∧ H l = some (.lst xs) ∧ H b = some (.lst zs) ∧ xs.length + zs.length ≤ sizeLine ∧ NewO H (.lst (xs ++ zs)) Q
theorem op_catO : OpR X (binaryOp .Add) rCatO := opImp op_cat fun _ _ _ _ ⟨l, b, xs, zs, h1, h2, h3, h4, h5, q⟩ => ⟨l, b, xs, zs, h1, h2, h3, h4, h5, q.to⟩
end
end OS
namespace OS
open PySem PySem.Spec PyProof.Rows L2
section
variable {X : Cx}
theorem callImp {f : Value} {r r' : List V → Hp → VK → Prop} (h : CallR X f r) (k : ∀ xs H Q, r' xs H Q → r xs H Q) : CallR X f r' := fun pins s σ H xs us Q I rs q => h pins s σ H xs us Q I rs (k xs H Q q)
theorem call_list_ofO : CallR X (.type "list") (fun xs H Q => ∃ p ys, xs = [.ref p] ∧ (SqL X.K H p ys ∨ SqT X.K H p ys) ∧ NewO H (.lst ys) Q) := callImp call_list_of fun _ _ _ ⟨p, ys, h1, h2, q⟩ => ⟨p, ys, h1, h2, q.to⟩
/-- tuple(list) -/
theorem call_tuple_ofL : CallR X (.type "tuple") (fun xs H Q => ∃ p ys, xs = [.ref p] ∧ SqL X.K H p ys ∧ NewO H (.tup ys) Q) := callImp call_tuple_of fun _ _ _ ⟨p, ys, h1, h2, q⟩ => ⟨p, ys, h1, .inl ⟨h2, q.to⟩⟩
theorem slImp {r r' : V → Option Int → Option Int → Hp → VK → Prop} (h : SlR X r) (k : ∀ x lo hi H Q, r' x lo hi H Q → r x lo hi H Q) : SlR X r' := fun pins s σ H x v vl vu lo hi sl Q I rx hs pl pu q => h pins s σ H x v vl vu lo hi sl Q I rx hs pl pu (k x lo hi H Q q)
def rSlLO (K : PySem.W.Frag) : V → Option Int → Option Int → Hp → VK → Prop := fun x lo hi H Q => ∃ a xs, x = .ref a ∧ SqL K H a xs ∧ NewO H (.lst (cutV xs lo hi)) Q
theorem sl_listO : SlR X (rSlLO X.K) := slImp sl_list fun _ _ _ _ _ ⟨a, xs, h1, h2, q⟩ => ⟨a, xs, h1, h2, q.to⟩
end
/-- what the state keeps where a new list takes the place of its digits -/
theorem StA.swapO {H H' : Hp} {p a b r : Addr} {zs zs' ms : List Int} {n : Nat} (S : StA H p a b zs ms n) (hr : H r = none) (s : Same H H') (e : H' r = some (.lst (zs'.map V.int))) (hz : zs'.length ≤ 100) :
    StA (upd H' p (.lst [.ref r, .ref b, .int (n : Int)])) p r b zs' ms n ∧ Nx p H (upd H' p (.lst [.ref r, .ref b, .int (n : Int)])) := by
  have rp : r ≠ p := (ne_of_none S.hp hr).symm
  have rb : r ≠ b := (ne_of_none S.hb hr).symm
  refine ⟨⟨upd_same, by rw [upd_ne rp]; exact e, by rw [upd_ne S.pb.symm]; exact s _ _ S.hb, rb, S.ne, hz, S.lm⟩, S.nx_put (fun q o e z _ => by rw [upd_ne z]; exact s _ _ e) upd_same (.inr hr)⟩
end OS
namespace OS
open PySem PySem.Spec PyProof.Rows L2
theorem dp_bools {K : PySem.W.Frag} {H : Hp} {a : Addr} {xs : List Bool} (h : SqL K H a (xs.map V.bl)) : Dp K H (.ref a) (.list (xs.map .bool)) := .lst h (dp_all (fun x => .bl x) xs)
theorem shaped_bools {xs : List Bool} : SeqAt.shaped (.list (xs.map .bool)) = true :=
  shaped_of (n := 1) (lay_all (g := .bool) fun _ _ => rfl) (Nat.succ_le_succ (depth_all (n := 0) fun _ _ => Nat.le_refl 0)) (by decide)
theorem eqv_bools : ∀ xs : List Bool, PyData.eqvAll (xs.map .bool) (xs.map .bool) = true
  | [] => rfl
  | x :: r => by
    show (PyData.eqv (.bool x) (.bool x) && PyData.eqvAll (r.map .bool) (r.map .bool)) = true
    rw [eqv_bools r, show PyData.eqv (.bool x) (.bool x) = (x == x) from rfl]
    simp
/-- two lists of the same bools -/
theorem bools_ne {K : PySem.W.Frag} {H : Hp} {a b : Addr} {xs : List Bool} {Q : VK} (h : SqL K H a (xs.map V.bl)) (h' : SqL K H b (xs.map V.bl)) (q : Q (.bl false) H) : rNeD K (.ref a) (.ref b) H Q := by
  refine ⟨_, _, dp_bools h, dp_bools h', shaped_bools, shaped_bools, ?_⟩
  rw [show PyData.eqv (.list (xs.map .bool)) (.list (xs.map .bool)) = true from eqv_bools xs]
  exact q
theorem bools_eq {K : PySem.W.Frag} {H : Hp} {a b : Addr} {xs : List Bool} {Q : VK} (h : SqL K H a (xs.map V.bl)) (h' : SqL K H b (xs.map V.bl)) (q : Q (.bl true) H) : rEqD K (.ref a) (.ref b) H Q := by
  refine ⟨_, _, dp_bools h, dp_bools h', shaped_bools, shaped_bools, ?_⟩
  rw [show PyData.eqv (.list (xs.map .bool)) (.list (xs.map .bool)) = true from eqv_bools xs]
  exact q
end OS
namespace OS
open PySem PySem.Spec PyProof.Rows L2
/-- a place to stop: ahead of a loop's turns -/
structure Hold (p : Prop) : Prop where
  go : p
theorem hold_eq (R : It → Hp → Prop) : (fun J H1 => Hold (R J H1)) = R := funext fun J => funext fun H1 => propext ⟨Hold.go, Hold.mk⟩
def iHold (wi : TI) : TI := fun σ H R => wi σ H fun J H1 => Hold (R J H1)
theorem pi_hold {X : Cx} {tg l : Expr} {wi : TI} (h : PI X tg l wi) : PI X tg l (iHold wi) := ⟨fun pins s σ H R I q => by
  have z := h.run pins s σ H (fun J H1 => Hold (R J H1)) I q
  rw [hold_eq] at z
  exact z⟩
end OS

set_option Elab.async false
set_option linter.all false
set_option maxRecDepth 100000
set_option maxHeartbeats 4000000
/-! sorted of tuples of texts, also of empty ones; by key -/
namespace PySem.OSS
open PySem PySem.Calls PySem.SeqAt PySem.W PyProof.Rows
section
variable {prog : Program} {w : World} {A : Around} {E : Value → Shared → Prop} {s : Shared}
/-- one tuple against another, as sorting compares where all are of one type -/
theorem oneLt_tup {xs ys : List PyData} {a b : Value} {as bs : List Addr} {Q : Bool → Shared → Prop} (ra : Reads s.heap a (.tuple xs) as) (rb : Reads s.heap b (.tuple ys) bs) (h : alike (.tuple xs) (.tuple ys) = true)
    (hu : A.units + min (PyData.tuple xs).depth (PyData.tuple ys).depth < cLine) (hq : Q (dataLt (.tuple xs) (.tuple ys)) s) : wpAny (model prog w) A (oneLt' true a b) Q E s := by
  have hal : alikeAll xs ys = true := by simpa [alike] using h
  cases ra with
  | @tuple l o vs n _ as₁ h1 h2 h3 h4 =>
    cases rb with
    | @tuple l' o' vs' n' _ bs₁ k1 k2 k3 k4 =>
      have n1 : vs.size = xs.length := by simpa using ReadsAll.length _ _ _ h4
      have n2 : vs'.size = ys.length := by simpa using ReadsAll.length _ _ _ k4
      rw [dataLt_tuple, ← firstLt_toks xs ys hal, ← n1, ← n2] at hq
      rw [oneLt'_eq]
      simp only [if_true]
      obtain ⟨cls, dd, data, sl⟩ := o
      obtain ⟨cls2, dd2, data2, sl2⟩ := o'
      simp only at h2 h3 k2 k3
      subst h2 h3 k2 k3
      refine wpAny_bind (wpAny_cRoomFor (room_here hu) ?_)
      refine wpAny_bind (wpAny_callSpecialIfBound?_slot (T := "tuple") ⟨_, h1, rfl⟩ F.slot_tuple_lt (call_meets F.slot_tuple_lt ⟨_, h1, rfl⟩ F.entry_tuple_lt (F.args_tuple_lt_2 _ _) (tuple_ltAt l l' vs vs' n n' dd dd2 sl sl2 (pairEq xs ys) (fun j => dataLt (xs.getD j .none) (ys.getD j .none)))
        ⟨h1, k1, fun j j1 j2 => ?_, fun j j1 j2 hj => ?_, ?_⟩))
      · have := eqAt_alikeAll xs ys A.in1 s vs.toList vs'.toList _ _ h4 k4 hal (room_in hu) j (by simpa using j1) (by simpa using j2)
        simpa using this
      · have := rcLt_alikeAll xs ys A.in1 s vs.toList vs'.toList _ _ h4 k4 hal (room_in hu) j (by simpa using j1) (by simpa using j2) hj
        simpa using this
      · exact wpAny_truthy_bool hq
/-- what the tuples begin with -/
theorem firsts_any {M : Model} {A : Around} {E : Value → Shared → Prop} : ∀ {vs : List Value} {ds : List PyData}, EachIs (fun v d => ∃ as, Reads s.heap v d as) vs ds → (∀ d, d ∈ ds → ∃ r, d = .tuple r) →
    ∃ fs : List (Option Value), fs.length = vs.length ∧ (ds.head? = some (.tuple ([] : List PyData)) → fs.head? = some none) ∧ ∀ {Q : List (Option Value) → Shared → Prop}, Q fs s → wpAny M A (vs.mapM firstOfTuple') Q E s
  | _, _, .nil, _ => ⟨[], rfl, fun h => by simp at h, fun h => by rw [List.mapM_nil]; exact wpAny_pure h⟩
  | _, _, .cons (a := v) (b := d) ⟨as, r⟩ t, ht => by
    obtain ⟨fs, h1, _, h3⟩ := firsts_any t fun d hd => ht d (List.mem_cons_of_mem _ hd)
    obtain ⟨r0, rfl⟩ := ht d (List.mem_cons_self ..)
    cases r with
    | @tuple a o xs n _ _ ho hc hd hr =>
      refine ⟨xs[0]? :: fs, by rw [List.length_cons, List.length_cons, h1], fun e => ?_, fun {Q} hq => ?_⟩
      · have e' : r0 = [] := by simpa using e
        subst e'
        have hx : xs.toList = [] := by
          cases q : xs.toList with
          | nil => rfl
          | cons f fr => rw [q] at hr; cases hr
        have hx' : xs[0]? = none := by rw [← Array.getElem?_toList, hx]; rfl
        rw [hx']
        rfl
      · rw [List.mapM_cons]
        refine wpAny_bind ?_
        rw [kas_first_eq]
        refine wpAny_bind (Looks.here (show Looks M s.heap (typeOf (.ref a)) o.cls from (Looks.ld ho).andThen .now) ?_)
        rw [hc, if_neg (by first | decide | simp)]
        refine wpAny_bind (listItems_at ho hd (wpAny_pure ?_))
        exact wpAny_bind (h3 (wpAny_pure hq))
/-- tuples of which the first is empty: compared as things of one type -/
theorem kind_tup0 {M : Model} {vs : List Value} {ds : List PyData} {Q : SortKind → Shared → Prop} (e : EachIs (fun v d => ∃ as, Reads s.heap v d as) vs (.tuple [] :: ds)) (ht : ∀ d, d ∈ ds → ∃ r, d = .tuple r) (h : Q oneType' s) :
    wpAny M A (keyKind' vs.toArray) Q E s := by
  have ht' : ∀ d, d ∈ PyData.tuple [] :: ds → ∃ r, d = .tuple r := fun d hd => by
    rcases List.mem_cons.mp hd with rfl | hd
    · exact ⟨_, rfl⟩
    · exact ht d hd
  obtain ⟨fs, f1, f2, f3⟩ := firsts_any (M := M) (A := A) (E := E) e ht'
  have f2 := f2 rfl
  obtain ⟨v₁, rest, rfl⟩ : ∃ v₁ rest, vs = v₁ :: rest := by
    cases e with
    | cons _ _ => exact ⟨_, _, rfl⟩
  cases fs with
  | nil => simp at f2
  | cons f fr =>
    have ef : f = none := by simpa using f2
    subst ef
    rw [kat_kind_eq, List.mapM_toArray, map_eq_pure_bind]
    refine wpAny_bind (wpAny_bind (f3 (wpAny_pure ?_)))
    rw [if_neg (by simp), if_neg (by simp)]
    rw [oneTypeOnly'_eq, List.mapM_toArray, map_eq_pure_bind]
    have hT : ∀ v ∈ v₁ :: rest, Looks M s.heap (typeOf v) (Value.type "tuple") := fun v hv => by
      obtain ⟨d, hd, as, r⟩ := e.left v hv
      obtain ⟨r', rfl⟩ := ht' d hd
      exact looks_reads r
    refine wpAny_bind (wpAny_bind (wpAny_bind (kas_mapM (r := Value.type "tuple") _ (fun v hv Q' hq => (hT v hv).here hq) (wpAny_pure ?_))))
    have hall : ((List.map (fun _ => Value.type "tuple") (v₁ :: rest)).toArray.all fun x => x == Value.type "tuple") = true := by
      simp only [List.all_toArray, List.all_map, List.all_eq_true]
      intro _ _
      rfl
    have h0 : (List.map (fun _ => Value.type "tuple") (v₁ :: rest)).toArray[0]? = some (Value.type "tuple") := by simp
    rw [h0]
    simp only [hall, if_true]
    exact wpAny_pure (wpAny_pure h)
/-- tuples of which the first is empty can be sorted -/
theorem sorts_tup0 {vs : List Value} {ds : List PyData} (e : EachIs (fun v d => ∃ as, Reads s.heap v d as) vs (.tuple [] :: ds)) (ht : ∀ d, d ∈ ds → ∃ r, d = .tuple r) (hal : AllAlike (.tuple [] :: ds)) (hu : ∀ d, d ∈ PyData.tuple [] :: ds → A.units + d.depth < cLine) :
    SortsAt prog w A s (dataKind s.heap (.tuple [] :: ds)) vs := by
  have ht' : ∀ d, d ∈ PyData.tuple [] :: ds → ∃ r, d = .tuple r := fun d hd => by
    rcases List.mem_cons.mp hd with rfl | hd
    · exact ⟨_, rfl⟩
    · exact ht d hd
  refine ⟨fun v hv => ?_, oneType', ?_, fun h2 E Q hq => kind_tup0 e ht hq⟩
  · obtain ⟨d, hd, as, r⟩ := e.left v hv
    exact ⟨_, dataKind_some hal hd r⟩
  · intro E x y a b Q ha hb hq
    obtain ⟨d, as, hd, ra, rfl⟩ := dataKind_inv ha
    obtain ⟨d', as', hd', rb, rfl⟩ := dataKind_inv hb
    obtain ⟨r, rfl⟩ := ht' d hd
    obtain ⟨r', rfl⟩ := ht' d' hd'
    rw [keyLt'_oneType]
    exact oneLt_tup ra rb (hal _ hd _ hd') (Nat.lt_of_le_of_lt (Nat.add_le_add_left (Nat.min_le_left _ _) _) (hu _ hd)) hq
/-- can be sorted: as the library has it, or tuples of which the first is empty -/
def SortableX (ds : List PyData) : Prop := Sortable ds ∨ ∃ r, ds = .tuple [] :: r ∧ ∀ d, d ∈ r → ∃ x, d = .tuple x
theorem sorts_dataX {vs : List Value} {ds : List PyData} (e : EachIs (fun v d => ∃ as, Reads s.heap v d as) vs ds) (hal : AllAlike ds) (hk : SortableX ds) (hu : ∀ d, d ∈ ds → A.units + d.depth < cLine) :
    SortsAt prog w A s (dataKind s.heap ds) vs := by
  rcases hk with hk | ⟨r, rfl, ht⟩
  · exact SortsAt.data e hal hk hu
  · exact sorts_tup0 e ht hal hu
theorem sorted_dataX {β : Type} {vs : List Value} {bs : List β} {enc : β → PyData} {R : Value → β → Prop} {l : Addr} {Q : Value → Shared → Prop} (hl : s.heap.IsList l vs.toArray) (e : EachIs R vs bs) (er : EachIs (fun v b => ∃ as, Reads s.heap v (enc b) as) vs bs) (hal : AllAlike (bs.map enc)) (hk : SortableX (bs.map enc)) (hL : bs.length ≤ sizeLine)
    (hu : ∀ b, b ∈ bs → A.units + 2 + (enc b).depth < cLine) (h : ∀ out, out.length = bs.length → EachIs R out (bs.mergeSort (dataLe false enc)) → Q (.ref (s.heap.objs.size + 1)) { s with heap := sortedAll s.heap vs (List.toArray out) }) :
    wpAny (model prog w) A (call (.builtin "sorted") [.ref l]) Q E s := by
  have er' : EachIs (fun v b => ∃ as, Reads (sortingHeap (copyHeap s.heap vs) (s.heap.objs.size + 1) vs) v (enc b) as) vs bs := er.mono fun _ _ ⟨as, r⟩ => ⟨as, PyProof.Rows.Reads.keeps (fun _ _ => sorting_copy_old) r⟩
  exact sorted_vals hl (sorts_dataX (s := { s with heap := sortingHeap (copyHeap s.heap vs) (s.heap.objs.size + 1) vs }) (each_map (R := fun v d => ∃ as, Reads (sortingHeap (copyHeap s.heap vs) (s.heap.objs.size + 1) vs) v d as) enc er') hal hk (bound_map hu)) (by rw [e.length]; exact hL)
    (h _ (by rw [sortVals_length false rfl]; exact e.length) (sortVals_data false e er' hal))
end
end PySem.OSS

set_option Elab.async false
set_option linter.all false
set_option maxRecDepth 100000
set_option maxHeartbeats 4000000
namespace OS
open PySem PySem.Spec PyProof.Rows L2 PySem.OSS
open PySem.W (EachIs AllAlike dataLe)
theorem each_of_vals {β : Type} (fv : β → V) : ∀ {bs : List β} {us : List Value}, Vals (bs.map fv) us → EachIs (fun v b => RelV (fv b) v) us bs
  | [], _, r => by
    have r' : Vals [] _ := r
    cases r'
    exact .nil
  | b :: bs, _, r => by
    have r' : Vals (fv b :: bs.map fv) _ := r
    cases r' with
    | cons h t => exact .cons h (each_of_vals fv t)
theorem vals_of_each {β : Type} (fv : β → V) : ∀ {bs : List β} {us : List Value}, EachIs (fun v b => RelV (fv b) v) us bs → Vals (bs.map fv) us
  | _, _, .nil => .nil
  | _, _, .cons h t => .cons h (vals_of_each fv t)
/-- sorted(xs): xs a list of data, b's value fv b, its data enc b -/
structure SortXAt (K : PySem.W.Frag) (H : Hp) (Q : VK) (a : Addr) : Prop where
  go : ∃ (β : Type) (bs : List β) (fv : β → V) (enc : β → PyData), SqL K H a (bs.map fv) ∧ (∀ b ∈ bs, Dp K H (fv b) (enc b)) ∧ AllAlike (bs.map enc) ∧ SortableX (bs.map enc) ∧ (∀ b ∈ bs, (enc b).depth ≤ 3) ∧ NewO H (.lst ((bs.mergeSort (dataLe false enc)).map fv)) Q
def rSortX (K : PySem.W.Frag) : List V → Hp → VK → Prop := fun vs H Q => ∃ (a : Addr), vs = [V.ref a] ∧ SortXAt K H Q a
section
variable {X : Cx}
theorem cr_sortX (hu : X.A.units + 65 < cLine) : CallR X (.builtin "sorted") (rSortX X.K) := by
  intro pins s σ H vs us Q I r h
  obtain ⟨a, rfl, β, bs, fv, enc, hs, hd, hal, hk, hdp, q⟩ := h
  obtain ⟨its, rv, hl, hz⟩ := I.list hs
  obtain ⟨u, rfl, ru⟩ := vals1 r
  obtain rfl : u = Value.ref a := ru
  have e := each_of_vals fv rv
  rw [List.length_map] at hz
  refine sorted_dataX (R := fun v b => RelV (fv b) v) (enc := enc) hl.isList e ((PySem.W.each_mem e).mono fun v b ⟨r1, hb⟩ => Dp.reads I (enc b) (fv b) v (hd b hb) r1) hal hk hz (fun b hb => ?_) fun out ho eo => ?_
  · have := hdp b hb
    omega
  · obtain ⟨ep, he'⟩ := PyProof.Rows.sortedAll_at s.heap its out.toArray
    refine ⟨.ref _, upd H (s.heap.objs.size + 1) (.lst ((bs.mergeSort (dataLe false enc)).map fv)), I.laid (t' := s.toks) (fun _ _ => PyProof.Rows.sortedAll_old) (Nat.le_succ _) ⟨?_, out, ep, vals_of_each fv eo, he'⟩, rfl, q.to _ (I.hok.fresh (Nat.le_succ _))⟩
    rw [List.length_map, List.length_mergeSort]
    exact hz
variable {e : Expr} {te : TE} {x y kn : Str} {p kp pos kpos : Pos}
/-- sorted(xs, key=len): xs a list of tuples, b's value fv b, its length ln b -/
structure SortLenAt (K : PySem.W.Frag) (Q : VK) (H1 : Hp) (a : Addr) : Prop where
  go : ∃ (β : Type) (bs : List β) (fv : β → V) (ln : β → Nat), SqL K H1 a (bs.map fv) ∧ (∀ b ∈ bs, ∃ t zs, fv b = .ref t ∧ SqT K H1 t zs ∧ zs.length = ln b) ∧
    NewO H1 (.lst ((bs.mergeSort fun b c => decide ((ln b : Int) ≤ (ln c : Int))).map fv)) Q
def sortLenAt (K : PySem.W.Frag) (Q : VK) (v : V) (H1 : Hp) : Prop := ∃ (a : Addr), v = V.ref a ∧ SortLenAt K Q H1 a
def tSortLen (K : PySem.W.Frag) (te : TE) : TE := fun σ H Q => te σ H fun v H1 => sortLenAt K Q v H1
theorem pe_sortLen (hu : X.A.units + 65 < cLine) (hg : Gl X "sorted") (hm : X.mg "sorted" = none) (hgl : Gl X "len") (hml : X.mg "len" = none) (he : PE X e te)
    (hst : starEach [e] X.env = (false, eval e X.env) :: starEach [] X.env := by rfl) (hee : backTo pos (starEach [e] X.env) = (false, eval e X.env) :: backTo pos (starEach [] X.env) := by rfl) (hpl : (backTo pos (starEach [e] X.env)).any (·.1) = false := by rfl) :
    PE X (.Call (.Name "sorted" p) [e] [⟨some "key", .Name "len" kp, kpos⟩] pos) (tSortLen X.K te) := by
  refine ⟨fun pins s σ H Q I h => ?_⟩
  refine wpAny_Call_Name_kw (ld_blt I hg hm (by rfl) ?_ (by decide) (by decide))
  have h' : tCons te tNil σ H (fun vs H1 => match vs with | [x] => sortLenAt X.K Q x H1 | _ => False) := h
  refine PyProof.Rows.callWith_kw (thn ((pa_cons he pa_nil hst).run pos pins s σ H _ I h') fun us s1 ⟨vs, H1, I1, r1, q1⟩ => ?_) hee hpl (by rfl) (by rfl)
  show wpAny _ _ (evalAll [(do let v ← eval (.Name "len" kp) X.env; standAt pos; pure v)]) _ _ s1
  refine wpAny_evalAll_cons (wpAny_bind (ld_blt I1 hgl hml (by rfl) (wpAny_bind (wpAny_standAt (wpAny_pure ?_))) (by decide) (by decide)))
  refine wpAny_evalAll_nil ?_
  match vs, r1, q1 with
  | [v], r1, q1 =>
  obtain ⟨a, rfl, β, bs, fv, ln, hs, ht, q⟩ := q1
  obtain ⟨u, rfl, ru⟩ := vals1 r1
  obtain rfl : u = Value.ref a := ru
  obtain ⟨its, rv, hl, hz⟩ := I1.list hs
  have e := each_of_vals fv rv
  rw [List.length_map] at hz
  refine PySem.W.sorted_key_data (kw := [(Str.ofString "key", .builtin "len")]) (b := false) (R := fun v b => RelV (fv b) v) (fun b => PyData.int (ln b)) hl.isList e (AllAlike.of fun b b' => by simp [PySem.W.alike]) (PySem.W.Sortable.others fun b => ⟨(fun z => nomatch z), fun xs z => nomatch z⟩) hz (fun b hb => ?_) (PyProof.Rows.ksk_s1 _ _) (fun _ => PyProof.Rows.ksk_l1 _ _) (fun x => PyProof.Rows.ksk_t4 _ _) (fun v b hR hb h tk kp => ?_) fun out c h' tk kp hn ho hlen eo => ?_
  · simp only [PyData.depth]
    omega
  · obtain ⟨t, zs, e1, h1, h2⟩ := ht b hb
    have hR' : RelV (V.ref t) v := e1 ▸ hR
    obtain rfl : v = Value.ref t := hR'
    obtain ⟨its2, rv2, ⟨o, g1, g2, n, g3⟩, hz2⟩ := I1.tuple h1
    refine PyProof.Rows.len_tuple (items := its2.toArray) ⟨o, kp _ _ g1, g2, n, g3⟩ ?_ ?_
    · have := rv2.length
      have hsl := sizeLine_eq
      rw [List.size_toArray]
      omega
    · refine ⟨h, tk + 1 + 1, rfl, fun _ _ q => q, ?_⟩
      have e2 : (its2.toArray.size : Int) = (ln b : Int) := by
        rw [List.size_toArray, ← rv2.length, h2]
      rw [e2]
      exact Reads.int _ _
  · have e3 : (bs.mergeSort (dataLe false fun b => PyData.int (ln b))) = bs.mergeSort fun b c => decide ((ln b : Int) ≤ (ln c : Int)) := by
      rw [PySem.W.dataLe_int (fun b => (ln b : Int))]
    rw [e3] at eo
    refine ⟨.ref _, upd H1 (s1.heap.objs.size + 1) (.lst ((bs.mergeSort fun b c => decide ((ln b : Int) ≤ (ln c : Int))).map fv)), I1.laid (t' := tk) kp (Nat.le_succ _) ⟨?_, out, c, vals_of_each fv eo, ho⟩, rfl, q.to _ (I1.hok.fresh (Nat.le_succ _))⟩
    rw [List.length_map, List.length_mergeSort]
    exact hz
end
end OS

set_option Elab.async false
set_option linter.all false
set_option maxRecDepth 100000
set_option maxHeartbeats 4000000
/-! lists of groups, without the heap -/
namespace OS
open PySem PySem.Spec PyProof.Rows L2 PySem.OSS
open PySem.W (EachIs AllAlike dataLe TotalLe sameRank sort_unique sort_stable sort_pairwise sortLe_total)
section
variable {α : Type} {r l p : α → α → Bool}
theorem rank_filter {q : α → α → Bool} (h : TotalLe q) (c : α) (t : α → Bool) (ht : ∀ a, t a = true → sameRank q c a = true) (xs : List α) : (xs.mergeSort q).filter t = xs.filter t := by
  have e : ∀ ys : List α, ys.filter t = (ys.filter (sameRank q c)).filter t := fun ys => by
    rw [List.filter_filter]
    refine List.filter_congr fun a _ => ?_
    cases q1 : t a with
    | false => simp
    | true => rw [ht a q1]; rfl
  rw [e, e xs, sort_stable h]
theorem pairwise_two (hl : TotalLe l) : ∀ {m : List α}, m.Pairwise (fun a b => l a b = true) → (∀ c, (m.filter (sameRank l c)).Pairwise (fun a b => r a b = true)) → m.Pairwise (fun a b => l a b = true ∧ (l b a = true → r a b = true))
  | [], _, _ => .nil
  | x :: m, h1, h2 => by
    obtain ⟨h3, h4⟩ := List.pairwise_cons.mp h1
    refine List.pairwise_cons.mpr ⟨fun y hy => ⟨h3 y hy, fun hyx => ?_⟩, pairwise_two hl h4 fun c => ?_⟩
    · have q := h2 x
      rw [List.filter_cons_of_pos (PySem.W.sameRank_self hl x)] at q
      refine (List.pairwise_cons.mp q).1 y (List.mem_filter.mpr ⟨hy, ?_⟩)
      unfold sameRank
      rw [h3 y hy, hyx]
      rfl
    · exact (h2 c).sublist ((List.sublist_cons_self x m).filter _)
/-- sorted by r, then by l, is sorted by l and among equals by r -/
theorem sort_two (hr : TotalLe r) (hl : TotalLe l) (hp : TotalLe p) (H : ∀ a b, p a b = true ↔ (l a b = true ∧ (l b a = true → r a b = true))) (xs : List α) : (xs.mergeSort r).mergeSort l = xs.mergeSort p := by
  have hrank : ∀ c a, sameRank p c a = true → sameRank l c a = true ∧ sameRank r c a = true := fun c a h => by
    unfold sameRank at h ⊢
    rw [Bool.and_eq_true] at h
    obtain ⟨h1, h2⟩ := h
    obtain ⟨a1, a2⟩ := (H c a).mp h1
    obtain ⟨b1, b2⟩ := (H a c).mp h2
    rw [a1, b1, a2 b1, b2 a1]
    exact ⟨rfl, rfl⟩
  refine sort_unique hp ?_ fun c => ?_
  · refine (pairwise_two (r := r) hl (sort_pairwise hl _) fun c => ?_).imp fun {a b} h => (H a b).mpr h
    rw [sort_stable hl]
    exact (sort_pairwise hr xs).sublist List.filter_sublist
  · rw [rank_filter hl c _ fun a h => (hrank c a h).1, rank_filter hr c _ fun a h => (hrank c a h).2]
end

/-! ### groups: tuples of texts -/
abbrev encG (g : List Str) : PyData := .tuple (g.map .str)
abbrev encP (g : List Str) : PyData := .tuple [.int (g.length : Int), .tuple (g.map .str)]
theorem eqvAll_strs : ∀ xs ys : List Str, PyData.eqvAll (xs.map .str) (ys.map .str) = decide (xs = ys)
  | [], [] => by simp [PyData.eqvAll]
  | [], _ :: _ => by simp [PyData.eqvAll]
  | _ :: _, [] => by simp [PyData.eqvAll]
  | x :: xs, y :: ys => by
    show (PyData.eqv (.str x) (.str y) && PyData.eqvAll (xs.map .str) (ys.map .str)) = _
    rw [eqvAll_strs xs ys]
    show ((x == y) && decide (xs = ys)) = decide (x :: xs = y :: ys)
    by_cases h1 : x = y <;> by_cases h2 : xs = ys <;> simp [h1, h2]
theorem eqv_G (g g' : List Str) : PyData.eqv (encG g) (encG g') = decide (g = g') := by
  show PyData.eqvAll (g.map .str) (g'.map .str) = _
  exact eqvAll_strs g g'
theorem alikeAll_strs : ∀ xs ys : List Str, PySem.W.alikeAll (xs.map .str) (ys.map .str) = true
  | [], _ => by simp [PySem.W.alikeAll]
  | _ :: _, [] => by simp [PySem.W.alikeAll]
  | x :: xs, y :: ys => by
    show PySem.W.alikeAll (.str x :: xs.map .str) (.str y :: ys.map .str) = true
    rw [PySem.W.alikeAll, alikeAll_strs xs ys]
    simp [PySem.W.alike]
theorem alike_G (g g' : List Str) : PySem.W.alike (encG g) (encG g') = true := by
  show PySem.W.alike (.tuple (g.map .str)) (.tuple (g'.map .str)) = true
  rw [PySem.W.alike, alikeAll_strs]
theorem alike_P (g g' : List Str) : PySem.W.alike (encP g) (encP g') = true := by
  show PySem.W.alike (.tuple [.int _, .tuple (g.map .str)]) (.tuple [.int _, .tuple (g'.map .str)]) = true
  rw [PySem.W.alike, PySem.W.alikeAll, PySem.W.alikeAll, alike_G g g']
  simp [PySem.W.alike, PySem.W.alikeAll]
theorem depth_strs : ∀ xs : List Str, PyData.depthAll (xs.map .str) = 0
  | [] => by simp [PyData.depthAll]
  | x :: xs => by
    show PyData.depthAll (.str x :: xs.map .str) = 0
    rw [PyData.depthAll, depth_strs xs]
    simp [PyData.depth]
theorem depth_G (g : List Str) : (encG g).depth = 1 := by
  show PyData.depth (.tuple (g.map .str)) = 1
  simp only [PyData.depth, depth_strs]
theorem depth_P (g : List Str) : (encP g).depth = 2 := by
  show PyData.depth (.tuple [.int _, .tuple (g.map .str)]) = 2
  simp only [PyData.depth, PyData.depthAll, depth_strs]
  rfl
theorem lt_irr (d : PyData) : PySem.W.dataLt d d = false := PyProof.Rows.lex_irrefl _
/-- sorted, then sorted by length, is sorted by (length, group) -/
theorem groups_sort (gs : List (List Str)) : (gs.mergeSort (dataLe false encG)).mergeSort (fun b c => decide ((b.length : Int) ≤ (c.length : Int))) = gs.mergeSort (dataLe false encP) := by
  refine sort_two (sortLe_total _ _ _) ⟨fun a b c h1 h2 => ?_, fun a b => ?_⟩ (sortLe_total _ _ _) (fun a b => ?_) gs
  · simp only [decide_eq_true_eq] at *
    omega
  · simp only [decide_eq_true_eq]
    omega
  · show (!PySem.W.dataLt (encP b) (encP a)) = true ↔ (decide _ = true ∧ (decide _ = true → (!PySem.W.dataLt (encG b) (encG a)) = true))
    rw [PySem.W.dataLt_pair (by simp [PySem.W.alike]) (alike_G b a), PySem.W.dataLt_int, eqv_G]
    simp only [PyData.eqv, beq_iff_eq, decide_eq_true_eq]
    by_cases h : (b.length : Int) = a.length
    · rw [if_pos h]
      by_cases h2 : b = a
      · subst h2
        rw [if_pos rfl, lt_irr]
        simp
      · rw [if_neg h2]
        constructor
        · intro q
          exact ⟨by omega, fun _ => q⟩
        · intro q
          exact q.2 (by omega)
    · rw [if_neg h]
      simp only [Bool.not_eq_true', decide_eq_false_iff_not]
      constructor
      · intro q
        exact ⟨by omega, fun z => by omega⟩
      · intro q
        omega
theorem row_anti : ∀ xs ys : List Str, PySem.W.rowLt (xs.map .str) (ys.map .str) = false → PySem.W.rowLt (ys.map .str) (xs.map .str) = false → xs = ys
  | [], [], _, _ => rfl
  | [], y :: ys, h, _ => by
    have e : PySem.W.rowLt [] (PyData.str y :: ys.map .str) = true := by
      unfold PySem.W.rowLt
      rw [PySem.W.toks_all_cons]
      simp only [PySem.W.keyToksAll]
      rw [PyProof.Rows.lex_diff (O := itemOrd) (by simp)]
      rfl
    exact absurd (e.symm.trans h) (by simp)
  | x :: xs, [], _, h => by
    have e : PySem.W.rowLt [] (PyData.str x :: xs.map .str) = true := by
      unfold PySem.W.rowLt
      rw [PySem.W.toks_all_cons]
      simp only [PySem.W.keyToksAll]
      rw [PyProof.Rows.lex_diff (O := itemOrd) (by simp)]
      rfl
    exact absurd (e.symm.trans h) (by simp)
  | x :: xs, y :: ys, h1, h2 => by
    have e : ∀ (x y : Str) (xs ys : List Str), PySem.W.rowLt (PyData.str x :: xs.map .str) (PyData.str y :: ys.map .str) = if x = y then PySem.W.rowLt (xs.map .str) (ys.map .str) else decide (x.cps.toList < y.cps.toList) := fun x y xs ys => by
      unfold PySem.W.rowLt
      rw [PySem.W.dataLt_cons (by simp [PySem.W.alike]), PySem.W.dataLt_str]
      simp only [PyData.eqv, beq_iff_eq]
    have h1' : PySem.W.rowLt (PyData.str x :: xs.map .str) (PyData.str y :: ys.map .str) = false := h1
    have h2' : PySem.W.rowLt (PyData.str y :: ys.map .str) (PyData.str x :: xs.map .str) = false := h2
    rw [e] at h1' h2'
    by_cases q : x = y
    · subst q
      rw [if_pos rfl] at h1' h2'
      rw [row_anti xs ys h1' h2']
    · rw [if_neg q] at h1'
      rw [if_neg (fun z => q z.symm)] at h2'
      have a1 := List.not_lt.mp (of_decide_eq_false h1')
      have a2 := List.not_lt.mp (of_decide_eq_false h2')
      exact absurd (PySem.W.str_of_cps (List.le_antisymm a2 a1)) q
/-- by (length, group) -/
abbrev leP : List Str → List Str → Bool := dataLe false encP
theorem leP_iff (a b : List Str) : leP a b = true ↔ ((a.length : Int) ≤ b.length ∧ (b.length = a.length → (!PySem.W.dataLt (encG b) (encG a)) = true)) := by
  show (!PySem.W.dataLt (encP b) (encP a)) = true ↔ _
  rw [PySem.W.dataLt_pair (by simp [PySem.W.alike]) (alike_G b a), PySem.W.dataLt_int, eqv_G]
  simp only [PyData.eqv, beq_iff_eq, decide_eq_true_eq]
  by_cases h : (b.length : Int) = a.length
  · rw [if_pos h]
    by_cases h2 : b = a
    · subst h2
      rw [if_pos rfl, lt_irr]
      simp
    · rw [if_neg h2]
      exact ⟨fun q => ⟨by omega, fun _ => q⟩, fun q => q.2 (by omega)⟩
  · rw [if_neg h]
    simp only [Bool.not_eq_true', decide_eq_false_iff_not]
    exact ⟨fun q => ⟨by omega, fun z => by omega⟩, fun q => by omega⟩
theorem leP_total : TotalLe leP := sortLe_total _ _ _
theorem leP_anti {a b : List Str} (h1 : leP a b = true) (h2 : leP b a = true) : a = b := by
  obtain ⟨a1, a2⟩ := (leP_iff a b).mp h1
  obtain ⟨b1, b2⟩ := (leP_iff b a).mp h2
  have e : b.length = a.length := by omega
  have c1 := a2 e
  have c2 := b2 e.symm
  rw [Bool.not_eq_true', PySem.W.dataLt_tuple] at c1 c2
  exact row_anti a b c2 c1
theorem rankP (c a : List Str) : sameRank leP c a = decide (c = a) := by
  by_cases h : c = a
  · subst h
    rw [PySem.W.sameRank_self leP_total]
    simp
  · rw [decide_eq_false h]
    cases q : sameRank leP c a with
    | false => rfl
    | true =>
      unfold sameRank at q
      rw [Bool.and_eq_true] at q
      exact absurd (leP_anti q.1 q.2) h
theorem filter_one {m : List (List Str)} (h : m.Nodup) (c : List Str) : m.filter (fun a => decide (c = a)) = if c ∈ m then [c] else [] := by
  induction m with
  | nil => simp
  | cons x m ih =>
    obtain ⟨h1, h2⟩ := List.nodup_cons.mp h
    by_cases q : c = x
    · subst q
      rw [List.filter_cons_of_pos (by simp), ih h2, if_neg h1, if_pos (List.mem_cons_self ..)]
    · rw [List.filter_cons_of_neg (by simp [q]), ih h2]
      simp [q]
/-- two lists in order, each group once, with the same groups -/
theorem orderly_one {m n : List (List Str)} (hm : m.Pairwise (fun a b => leP a b = true)) (hn : n.Pairwise (fun a b => leP a b = true)) (dm : m.Nodup) (dn : n.Nodup) (h : ∀ g, g ∈ m ↔ g ∈ n) : m = n := by
  refine PySem.W.sort_one leP_total m n hm hn fun c => ?_
  have e : sameRank leP c = fun a => decide (c = a) := funext fun a => rankP c a
  rw [e, filter_one dm, filter_one dn]
  simp only [h]

/-! ### all groups -/
def setsL (ps : List Str) : List (List Str) := ps.foldl (fun gs n => gs ++ gs.map (· ++ [n])) [[]]
def allG (ps : List Str) : List (List Str) := (setsL ps).mergeSort leP
theorem setsL_snoc (ps : List Str) (n : Str) : setsL (ps ++ [n]) = setsL ps ++ (setsL ps).map (· ++ [n]) := by
  unfold setsL
  rw [List.foldl_append]
  rfl
theorem setsL_head : ∀ ps : List Str, ∃ r, setsL ps = [] :: r := fun ps => by
  suffices h : ∀ (ps : List Str) (gs : List (List Str)), (∃ r, gs = [] :: r) → ∃ r, ps.foldl (fun gs n => gs ++ gs.map (· ++ [n])) gs = [] :: r from h ps [[]] ⟨[], rfl⟩
  intro ps
  induction ps with
  | nil => exact fun gs h => h
  | cons n ps ih =>
    intro gs ⟨r, e⟩
    rw [List.foldl_cons]
    exact ih _ ⟨_, by rw [e]; rfl⟩
theorem setsL_len (ps : List Str) : (setsL ps).length = 2 ^ ps.length := by
  suffices h : ∀ (ps : List Str) (gs : List (List Str)), (ps.foldl (fun gs n => gs ++ gs.map (· ++ [n])) gs).length = gs.length * 2 ^ ps.length by
    exact (h ps [[]]).trans (by simp)
  intro ps
  induction ps with
  | nil => intro gs; simp
  | cons n ps ih =>
    intro gs
    rw [List.foldl_cons, ih, List.length_append, List.length_map, List.length_cons, Nat.pow_succ]
    rw [Nat.mul_comm (2 ^ ps.length) 2, ← Nat.mul_assoc]
    congr 1
    omega
theorem mem_sets_from : ∀ (ps : List Str) (gs : List (List Str)) (g : List Str), g ∈ ps.foldl (fun gs n => gs ++ gs.map (· ++ [n])) gs ↔ ∃ g0 ∈ gs, ∃ s : List Str, s.Sublist ps ∧ g = g0 ++ s
  | [], gs, g => by
    rw [List.foldl_nil]
    constructor
    · exact fun h => ⟨g, h, [], .slnil, by simp⟩
    · rintro ⟨g0, h, s, hs, rfl⟩
      rw [List.sublist_nil.mp hs, List.append_nil]
      exact h
  | n :: ps, gs, g => by
    rw [List.foldl_cons, mem_sets_from ps]
    constructor
    · rintro ⟨g0, h, s, hs, rfl⟩
      rcases List.mem_append.mp h with h | h
      · exact ⟨g0, h, s, hs.cons _, rfl⟩
      · obtain ⟨g1, h1, rfl⟩ := List.mem_map.mp h
        exact ⟨g1, h1, n :: s, hs.cons_cons _, by simp⟩
    · rintro ⟨g0, h, s, hs, rfl⟩
      cases hs with
      | cons _ hs => exact ⟨g0, List.mem_append_left _ h, s, hs, rfl⟩
      | cons_cons _ hs => exact ⟨g0 ++ [n], List.mem_append_right _ (List.mem_map.mpr ⟨g0, h, rfl⟩), _, hs, by simp⟩
theorem mem_sets {ps g : List Str} : g ∈ setsL ps ↔ g.Sublist ps := by
  unfold setsL
  rw [mem_sets_from]
  constructor
  · rintro ⟨g0, h, s, hs, rfl⟩
    rw [List.mem_singleton.mp h]
    exact hs
  · exact fun h => ⟨[], List.mem_singleton.mpr rfl, g, h, rfl⟩
theorem nodup_from : ∀ (ps : List Str) (gs : List (List Str)), ps.Nodup → gs.Nodup → (∀ g ∈ gs, ∀ n ∈ ps, n ∉ g) → (ps.foldl (fun gs n => gs ++ gs.map (· ++ [n])) gs).Nodup
  | [], gs, _, h, _ => h
  | n :: ps, gs, hp, hg, hd => by
    obtain ⟨h1, h2⟩ := List.nodup_cons.mp hp
    rw [List.foldl_cons]
    refine nodup_from ps _ h2 ?_ fun g h m hm => ?_
    · refine List.nodup_append.mpr ⟨hg, ?_, fun a ha b hb e => ?_⟩
      · exact List.Pairwise.map _ (fun a b hab e => hab (List.append_cancel_right e)) hg
      · obtain ⟨g1, _, rfl⟩ := List.mem_map.mp hb
        subst e
        exact hd _ ha n (List.mem_cons_self ..) (by simp)
    · rcases List.mem_append.mp h with h | h
      · exact hd g h m (List.mem_cons_of_mem _ hm)
      · obtain ⟨g1, hg1, rfl⟩ := List.mem_map.mp h
        rw [List.mem_append, not_or]
        refine ⟨hd g1 hg1 m (List.mem_cons_of_mem _ hm), fun q => ?_⟩
        rw [List.mem_singleton] at q
        subst q
        exact h1 hm
theorem nodup_sets {ps : List Str} (h : ps.Nodup) : (setsL ps).Nodup := nodup_from ps _ h (by simp) fun g hg n _ => by
  rw [List.mem_singleton.mp hg]
  simp
theorem allG_perm (ps : List Str) : (allG ps).Perm (setsL ps) := List.mergeSort_perm _ _
theorem mem_allG {ps g : List Str} : g ∈ allG ps ↔ g.Sublist ps := ((allG_perm ps).mem_iff).trans mem_sets
theorem nodup_allG {ps : List Str} (h : ps.Nodup) : (allG ps).Nodup := (allG_perm ps).nodup_iff.mpr (nodup_sets h)
theorem sorted_allG (ps : List Str) : (allG ps).Pairwise (fun a b => leP a b = true) := sort_pairwise leP_total _
/-- the names of g among ps, in their order -/
def pick (ps g : List Str) : List Str := ps.filter fun n => decide (n ∈ g)
theorem pick_sub : ∀ {ps g : List Str}, ps.Nodup → g.Sublist ps → pick ps g = g
  | [], g, _, h => by
    rw [List.sublist_nil.mp h]
    rfl
  | n :: ps, g, hp, h => by
    obtain ⟨h1, h2⟩ := List.nodup_cons.mp hp
    cases h with
    | cons _ h =>
      have hn : n ∉ g := fun q => h1 (h.subset q)
      unfold pick
      rw [List.filter_cons_of_neg (by simp [hn])]
      exact pick_sub h2 h
    | @cons_cons g' _ _ h =>
      unfold pick
      rw [List.filter_cons_of_pos (by simp)]
      congr 1
      have e : (ps.filter fun m => decide (m ∈ n :: g')) = ps.filter fun m => decide (m ∈ g') := List.filter_congr fun m hm => by
        have : m ≠ n := fun q => h1 (q ▸ hm)
        simp [this]
      rw [e]
      exact pick_sub h2 h
theorem is_set_iff {ps g : List Str} (hp : ps.Nodup) : g = pick ps g ↔ g.Sublist ps := ⟨fun h => by rw [h]; exact List.filter_sublist, fun h => (pick_sub hp h).symm⟩
end OS

set_option Elab.async false
set_option linter.all false
set_option maxRecDepth 100000
set_option maxHeartbeats 4000000
/-! least groups, two ways -/
namespace OS
open PySem PySem.Spec PyProof.Rows L2 PySem.OSS
/-- all of o's names are in g -/
def inside (o g : List Str) : Bool := o.all fun n => decide (n ∈ g)
theorem inside_iff {o g : List Str} : inside o g = true ↔ ∀ n ∈ o, n ∈ g := by
  unfold inside
  simp
def givenP (ps : List Str) (rows : List (List Str)) : List (List Str) := (allG ps).filter fun g => decide (g ∈ rows)
def leastP (ps : List Str) (rows : List (List Str)) : List (List Str) := (givenP ps rows).filter fun g => !((givenP ps rows).any fun o => decide (o ≠ g) && inside o g)
def leastStep (A : List (List Str)) (g : List Str) : List (List Str) := if (A.filter fun o => inside o g) = [] then A ++ [g] else A
def leastL (rows : List (List Str)) : List (List Str) := (rows.mergeSort leP).foldl leastStep []
theorem sub_of_inside {ps a b : List Str} (hp : ps.Nodup) (ha : a.Sublist ps) (hb : b.Sublist ps) (h : ∀ n ∈ a, n ∈ b) : a.Sublist b := by
  have e : (pick ps b).filter (fun n => decide (n ∈ a)) = pick ps a := by
    unfold pick
    rw [List.filter_filter]
    refine List.filter_congr fun n _ => ?_
    by_cases q : n ∈ a
    · simp [q, h n q]
    · simp [q]
  rw [pick_sub hp ha, pick_sub hp hb] at e
  rw [← e]
  exact List.filter_sublist
structure LeastInv (ps : List Str) (pre A : List (List Str)) : Prop where
  sub : A.Sublist pre
  nd : A.Nodup
  cov : ∀ o ∈ pre, ∃ f ∈ A, ∀ n ∈ f, n ∈ o
  min : ∀ g ∈ A, ∀ o ∈ pre, (∀ n ∈ o, n ∈ g) → o = g
theorem LeastInv.step {ps : List Str} {pre A : List (List Str)} {g : List Str} (hp : ps.Nodup) (I : LeastInv ps pre A) (hs : ∀ o ∈ pre ++ [g], o.Sublist ps) (hle : ∀ o ∈ pre, leP o g = true) : LeastInv ps (pre ++ [g]) (leastStep A g) := by
  have hg := hs g (by simp)
  have old : ∀ g' ∈ A, (∀ n ∈ g, n ∈ g') → g = g' := fun g' h' hin => by
    have h'' := I.sub.subset h'
    have s := sub_of_inside hp hg (hs g' (List.mem_append_left _ h'')) hin
    obtain ⟨l1, _⟩ := (leP_iff g' g).mp (hle g' h'')
    exact s.eq_of_length_le (by omega)
  unfold leastStep
  by_cases q : (A.filter fun o => inside o g) = []
  · rw [if_pos q]
    have no : ∀ f ∈ A, ¬ ∀ n ∈ f, n ∈ g := fun f hf hin => (List.filter_eq_nil_iff.mp q) f hf (inside_iff.mpr hin)
    refine ⟨I.sub.append (List.Sublist.refl _), List.nodup_append.mpr ⟨I.nd, by simp, fun a ha b hb e => ?_⟩, fun o ho => ?_, fun g' h' o ho hin => ?_⟩
    · rw [List.mem_singleton] at hb
      subst e
      subst hb
      exact no _ ha fun n h => h
    · rcases List.mem_append.mp ho with ho | ho
      · obtain ⟨f, hf, h⟩ := I.cov o ho
        exact ⟨f, List.mem_append_left _ hf, h⟩
      · rw [List.mem_singleton] at ho
        subst ho
        exact ⟨o, by simp, fun n h => h⟩
    · rcases List.mem_append.mp h' with h5 | h5
      · rcases List.mem_append.mp ho with ho1 | ho1
        · exact I.min g' h5 o ho1 hin
        · rw [List.mem_singleton] at ho1
          subst ho1
          exact old g' h5 hin
      · rw [List.mem_singleton] at h5
        subst h5
        rcases List.mem_append.mp ho with ho | ho
        · obtain ⟨f, hf, h⟩ := I.cov o ho
          exact absurd (fun n hn => hin n (h n hn)) (no f hf)
        · exact List.mem_singleton.mp ho
  · rw [if_neg q]
    obtain ⟨f, hf⟩ := List.exists_mem_of_ne_nil _ q
    obtain ⟨hfA, hin⟩ := List.mem_filter.mp hf
    refine ⟨I.sub.trans (List.sublist_append_left _ _), I.nd, fun o ho => ?_, fun g' h' o ho hin' => ?_⟩
    · rcases List.mem_append.mp ho with ho | ho
      · exact I.cov o ho
      · rw [List.mem_singleton] at ho
        subst ho
        exact ⟨f, hfA, inside_iff.mp hin⟩
    · rcases List.mem_append.mp ho with ho | ho
      · exact I.min g' h' o ho hin'
      · rw [List.mem_singleton] at ho
        subst ho
        exact old g' h' hin'
theorem LeastInv.run {ps : List Str} (hp : ps.Nodup) : ∀ (suf pre A : List (List Str)), LeastInv ps pre A → (∀ o ∈ pre ++ suf, o.Sublist ps) → (pre ++ suf).Pairwise (fun a b => leP a b = true) → LeastInv ps (pre ++ suf) (suf.foldl leastStep A)
  | [], pre, A, I, _, _ => by
    rw [List.append_nil]
    exact I
  | g :: suf, pre, A, I, hs, hle => by
    have e : pre ++ g :: suf = (pre ++ [g]) ++ suf := by simp
    rw [e] at hs hle ⊢
    rw [List.foldl_cons]
    exact LeastInv.run hp suf _ _ (I.step hp (fun o ho => hs o (List.mem_append_left _ ho)) fun o ho => (List.pairwise_append.mp (List.pairwise_append.mp hle).1).2.2 o ho g (by simp)) hs hle
theorem least_same {ps : List Str} {rows : List (List Str)} (hp : ps.Nodup) (hr : ∀ g ∈ rows, g.Sublist ps) : leastL rows = leastP ps rows := by
  have hm : ∀ g, g ∈ rows.mergeSort leP ↔ g ∈ rows := fun g => (List.mergeSort_perm _ _).mem_iff
  have I : LeastInv ps (rows.mergeSort leP) (leastL rows) := LeastInv.run hp _ [] [] ⟨.slnil, .nil, (fun _ h => by simp at h), fun _ h => by simp at h⟩ (fun o ho => hr o ((hm o).mp ho)) (PySem.W.sort_pairwise leP_total _)
  have hG : ∀ g, g ∈ givenP ps rows ↔ g ∈ rows := fun g => by
    unfold givenP
    rw [List.mem_filter, mem_allG, decide_eq_true_eq]
    exact ⟨fun h => h.2, fun h => ⟨hr g h, h⟩⟩
  have sG : (leastP ps rows).Sublist (allG ps) := List.filter_sublist.trans List.filter_sublist
  refine orderly_one ((PySem.W.sort_pairwise leP_total _).sublist I.sub) ((sorted_allG ps).sublist sG) I.nd ((nodup_allG hp).sublist sG) fun g => ?_
  unfold leastP
  rw [List.mem_filter, hG, Bool.not_eq_true', List.any_eq_false]
  constructor
  · intro h
    refine ⟨(hm g).mp (I.sub.subset h), fun o ho => ?_⟩
    rw [Bool.and_eq_true, decide_eq_true_eq, inside_iff]
    rintro ⟨h1, h2⟩
    exact h1 (I.min g h o ((hm o).mpr ((hG o).mp ho)) h2)
  · rintro ⟨h1, h2⟩
    obtain ⟨f, hf, hin⟩ := I.cov g ((hm g).mpr h1)
    by_cases q : f = g
    · exact q ▸ hf
    · exact absurd (Bool.and_eq_true_iff.mpr ⟨decide_eq_true q, inside_iff.mpr hin⟩) (h2 f ((hG f).mpr ((hm f).mp (I.sub.subset hf))))
end OS

set_option Elab.async false
set_option linter.all false
set_option maxRecDepth 100000
set_option maxHeartbeats 4000000
/-! a text in a list or tuple of anything -/
namespace PySem.OSS
open PySem.SeqAt AutoSeq1 MeetsSeq PySem.Calls
theorem str_declines_dict (b : Str) (u : Tok) (l : Addr) (c : Value) (es : Array DictEntry) (n : Nat) (dd : Option Addr) (sl : Array (Option Value)) :
    Meets (Builtin.«str.__eq__» ⟨[.str b u, .ref l], []⟩) (fun _ R s => s.heap.get? l = some { cls := c, dict := dd, data := .dict es n, slots := sl } ∧ R (.ok (.ret .notImplemented)) s) :=
  .of_wp fun prog w A R s h => by obtain ⟨hp, g, d, tk, os⟩ := s; obtain ⟨hl, h⟩ := h; wp_walk using wpAny_loadPart' hl, wpAny_load hl; exact ⟨_, rfl, h⟩
theorem dict_declines_str (l : Addr) (es : Array DictEntry) (n : Nat) (dd : Option Addr) (sl : Array (Option Value)) (b : Str) (u : Tok) :
    Meets (Builtin.«dict.__eq__» ⟨[.ref l, .str b u], []⟩) (fun _ R s => s.heap.get? l = some { cls := .type "dict", dict := dd, data := .dict es n, slots := sl } ∧ R (.ok (.ret .notImplemented)) s) :=
  .of_wp fun prog w A R s h => by obtain ⟨hp, g, d, tk, os⟩ := s; obtain ⟨hl, h⟩ := h; have f1 := F.sub_str_dict; wp_walk using wpAny_loadPart' hl; exact ⟨_, rfl, h⟩
section
variable {A : Around} {s : Shared}
theorem rcAt_dict_str {l : Addr} {es : Array DictEntry} {n : Nat} {dd : Option Addr} {sl : Array (Option Value)} (b : Str) (u : Tok) (ho : s.heap.get? l = some { cls := .type "dict", dict := dd, data := .dict es n, slots := sl }) (hu : A.units < cLine) : RcAt A s (.ref l) (.str b u) false := fun prog w E Q h => by
  exact rc_eq_decline_or (k := false) ⟨_, ho, rfl⟩ (typeIs_str s b u) (by decide) F.sub_str_dict F.slot_dict_eq F.slot_str_eq_refl
    (fun _ hq => call_meets F.slot_dict_eq ⟨_, ho, rfl⟩ F.entry_dict_eq (F.args_dict_eq_2 _ _) (dict_declines_str l es n dd sl b u) ⟨ho, hq⟩)
    (fun _ hq => call_meets F.slot_str_eq_refl (typeIs_str s b u) F.entry_str_eq (F.args_str_eq_2 _ _) (str_declines_dict b u l (.type "dict") es n dd sl) ⟨ho, hq⟩)
    (fun _ hq => wpAny_of_eq (rfl : isSame (.ref l) (.str b u) = pure false) hq) (.inr hu) h
theorem eqAt_dict_str {l : Addr} {es : Array DictEntry} {n : Nat} {dd : Option Addr} {sl : Array (Option Value)} (b : Str) (u : Tok) (ho : s.heap.get? l = some { cls := .type "dict", dict := dd, data := .dict es n, slots := sl }) (hu : A.units < cLine) : EqAt A s (.ref l) (.str b u) false := fun prog w E Q h => by
  unfold eqBool
  refine wpAny_holding ?_
  refine wpAny_ite_split (fun hab => absurd (eq_of_beq hab) nofun) (fun _ => ?_)
  exact wpAny_bind (rcAt_dict_str b u ho hu prog w E _ (wpAny_truthy_bool h))
end
end PySem.OSS
namespace OS
open PySem PySem.Spec PyProof.Rows L2 PySem.OSS
/-- a thing that a list or tuple may hold -/
inductive Itm (K : PySem.W.Frag) (H : Hp) : V → Prop
  | flat {v : V} : flatV v = true → Itm K H v
  | lst {a : Addr} {zs : List V} : SqL K H a zs → Itm K H (.ref a)
  | tup {a : Addr} {zs : List V} : SqT K H a zs → Itm K H (.ref a)
  | dct {a : Addr} {kvs : List (Key × V)} : H a = some (.dK kvs) → Itm K H (.ref a)
def isS (z : Str) : V → Bool
  | .str t => t == z
  | _ => false
def isU (z : Str) : Value → Bool
  | .str t _ => t == z
  | _ => false
theorem isU_eq {z : Str} {y : V} {u : Value} (r : RelV y u) : isU z u = isS z y := by
  cases y with
  | str t => obtain ⟨k, rfl⟩ := r; rfl
  | int i => obtain ⟨k, rfl⟩ := r; rfl
  | byt i => obtain ⟨k, rfl⟩ := r; rfl
  | flt i => obtain ⟨k, rfl⟩ := r; rfl
  | _ => cases r; rfl
theorem flat_isS {z : Str} {y : V} (f : flatV y = true) : eqV y (.str z) = isS z y := by
  cases y <;> first | rfl | exact absurd (show false = true from f) Bool.false_ne_true
theorem any_isU {z : Str} : ∀ {xs : List V} {us : List Value}, Vals xs us → us.any (isU z) = xs.any (isS z)
  | _, _, .nil => rfl
  | _, _, .cons r t => by rw [List.any_cons, List.any_cons, isU_eq r, any_isU t]
section
variable {X : Cx} {pins : List (Addr × Obj)} {σ : L2.St} {H : Hp} {s : Shared}
theorem itm_eqAt (I : Inv X pins σ H s) {z : Str} {t : Tok} {A : Around} (hu : A.units < cLine) : ∀ {xs : List V} {us : List Value}, Vals xs us → (∀ v ∈ xs, Itm X.K H v) → ∀ u ∈ us, SeqAt.EqAt A s u (.str z t) (isU z u)
  | _, _, .nil, _, u, hm => absurd hm (by simp)
  | _, _, .cons (a := y) r tl, h, u, hm => by
    rcases List.mem_cons.mp hm with rfl | hm
    · have hy := h y (List.mem_cons_self ..)
      rw [isU_eq r]
      cases hy with
      | flat f =>
        have q := eqAt_V (A := A) (s := s) r (show RelV (.str z) (.str z t) from ⟨t, rfl⟩) f rfl
        rw [flat_isS f] at q
        exact q
      | lst hs =>
        cases r
        obtain ⟨its, _, pl, _⟩ := I.list hs
        exact SeqAt.EqAt.list_str z t pl.isList hu
      | tup hs =>
        cases r
        obtain ⟨its, _, pl, _⟩ := I.tuple hs
        exact SeqAt.EqAt.tuple_str z t pl hu
      | dct hd =>
        cases r
        obtain ⟨_, _, vs, _, o, es, ep, ho, ⟨h1, h2, h3⟩, h4, _⟩ := I.hok _ _ hd
        obtain ⟨cls, dd, data, sl⟩ := o
        simp only at h1 h4
        subst h1 h4
        exact eqAt_dict_str z t ho hu
    · exact itm_eqAt I hu tl (fun v hv => h v (List.mem_cons_of_mem _ hv)) u hm
/-- a text in a list or tuple of anything -/
def rInAny (K : PySem.W.Frag) (neg : Bool) : R2 := fun x y H Q => ∃ z p xs, x = .str z ∧ y = .ref p ∧ (SqL K H p xs ∨ SqT K H p xs) ∧ (∀ v ∈ xs, Itm K H v) ∧ Q (.bl (if neg then !xs.any (isS z) else xs.any (isS z))) H
theorem op_inAny (hu : X.A.units + 65 < cLine) : OpR X (compareOp .In) (rInAny X.K false) := by
  intro pins s σ H x y v u Q I rx ry h
  obtain ⟨z, p, xs, rfl, rfl, hq, hi, q⟩ := h
  obtain ⟨t, rfl⟩ := rx
  cases ry
  have hu1 : X.A.in1.units < cLine := by
    show X.A.units + 1 < cLine
    omega
  rcases hq with hq | hq
  · obtain ⟨its, r, pl, hz⟩ := I.list hq
    refine SeqAt.in_listAt (isU z) pl.isList (fun w hw => itm_eqAt I hu1 r hi w (by simpa using hw)) ⟨.bl _, H, I, rfl, ?_⟩
    rw [show its.toArray.any (isU z) = its.any (isU z) by simp, any_isU r]
    exact q
  · obtain ⟨its, r, pl, hz⟩ := I.tuple hq
    refine SeqAt.in_tupleAt (isU z) pl (fun w hw => itm_eqAt I hu1 r hi w (by simpa using hw)) ⟨.bl _, H, I, rfl, ?_⟩
    rw [show its.toArray.any (isU z) = its.any (isU z) by simp, any_isU r]
    exact q
theorem op_notInAny (hu : X.A.units + 65 < cLine) : OpR X (compareOp .NotIn) (rInAny X.K true) := by
  intro pins s σ H x y v u Q I rx ry h
  obtain ⟨z, p, xs, rfl, rfl, hq, hi, q⟩ := h
  obtain ⟨t, rfl⟩ := rx
  cases ry
  have hu1 : X.A.in1.units < cLine := by
    show X.A.units + 1 < cLine
    omega
  rcases hq with hq | hq
  · obtain ⟨its, r, pl, hz⟩ := I.list hq
    refine SeqAt.notIn_listAt (isU z) pl.isList (fun w hw => itm_eqAt I hu1 r hi w (by simpa using hw)) ⟨.bl _, H, I, rfl, ?_⟩
    rw [show its.toArray.any (isU z) = its.any (isU z) by simp, any_isU r]
    exact q
  · obtain ⟨its, r, pl, hz⟩ := I.tuple hq
    refine SeqAt.notIn_tupleAt (isU z) pl (fun w hw => itm_eqAt I hu1 r hi w (by simpa using hw)) ⟨.bl _, H, I, rfl, ?_⟩
    rw [show its.toArray.any (isU z) = its.any (isU z) by simp, any_isU r]
    exact q
end
end OS

set_option Elab.async false
set_option linter.all false
set_option maxRecDepth 100000
set_option maxHeartbeats 4000000
/-! == of anything with tuples and lists of texts -/
namespace PySem.OSS
open PySem.SeqAt AutoSeq1 MeetsSeq PySem.Calls
theorem tuple_declines_dict (l b : Addr) (items : Array Value) (es : Array DictEntry) (n n2 : Nat) (dd dd2 : Option Addr) (sl sl2 : Array (Option Value)) :
    Meets (Builtin.«tuple.__eq__» ⟨[.ref l, .ref b], []⟩) (fun _ R s => s.heap.get? l = some { cls := .type "tuple", dict := dd, data := .seq items n, slots := sl } ∧ s.heap.get? b = some { cls := .type "dict", dict := dd2, data := .dict es n2, slots := sl2 } ∧ R (.ok (.ret .notImplemented)) s) :=
  .of_wp fun prog w A R s h => by obtain ⟨hp, g, d, tk, os⟩ := s; obtain ⟨hl, hb, h⟩ := h; have f1 := F.sub_dict_tuple; wp_walk using wpAny_loadPart' hl, wpAny_loadPart' hb; exact ⟨_, rfl, h⟩
theorem dict_declines_tuple (l b : Addr) (items : Array Value) (es : Array DictEntry) (n n2 : Nat) (dd dd2 : Option Addr) (sl sl2 : Array (Option Value)) :
    Meets (Builtin.«dict.__eq__» ⟨[.ref b, .ref l], []⟩) (fun _ R s => s.heap.get? l = some { cls := .type "tuple", dict := dd, data := .seq items n, slots := sl } ∧ s.heap.get? b = some { cls := .type "dict", dict := dd2, data := .dict es n2, slots := sl2 } ∧ R (.ok (.ret .notImplemented)) s) :=
  .of_wp fun prog w A R s h => by obtain ⟨hp, g, d, tk, os⟩ := s; obtain ⟨hl, hb, h⟩ := h; have f1 := F.sub_tuple_dict; wp_walk using wpAny_loadPart' hl, wpAny_loadPart' hb; exact ⟨_, rfl, h⟩
section
variable {A : Around} {s : Shared}
/-- a dict is no tuple -/
theorem rcAt_dict_tuple {b l : Addr} {items : Array Value} {es : Array DictEntry} {n2 : Nat} {dd2 : Option Addr} {sl2 : Array (Option Value)} (hl : s.heap.IsTuple l items) (ho2 : s.heap.get? b = some { cls := .type "dict", dict := dd2, data := .dict es n2, slots := sl2 }) (hu : A.units < cLine) : RcAt A s (.ref b) (.ref l) false := fun prog w E Q h => by
  obtain ⟨⟨cls, dd, data, sl⟩, ho, hc, n, hd⟩ := id hl
  simp only at hc hd
  subst hc hd
  have hne : b ≠ l := fun e => by
    subst e
    have q := congrArg (fun o : Obj => o.cls) (Option.some.inj (ho.symm.trans ho2))
    exact absurd q (by simp)
  exact (rc_eq_decline_or (k := false) ⟨_, ho2, rfl⟩ ⟨_, ho, rfl⟩ (by decide) F.sub_tuple_dict F.slot_dict_eq F.slot_tuple_eq_refl
    (fun _ hq => call_meets F.slot_dict_eq ⟨_, ho2, rfl⟩ F.entry_dict_eq (F.args_dict_eq_2 _ _) (dict_declines_tuple l b items es n n2 dd dd2 sl sl2) ⟨ho, ho2, hq⟩)
    (fun _ hq => call_meets F.slot_tuple_eq_refl ⟨_, ho, rfl⟩ F.entry_tuple_eq (F.args_tuple_eq_2 _ _) (tuple_declines_dict l b items es n n2 dd dd2 sl sl2) ⟨ho, ho2, hq⟩)
    (fun _ hq => wpAny_isSame_ref_other hne ho2 ho (by simp) hq) (.inr hu) h)
end
end PySem.OSS
namespace OS
open PySem PySem.Spec PyProof.Rows L2 PySem.OSS
/-- the things xs are the texts ys -/
def eqS : List V → List Str → Bool
  | [], [] => true
  | x :: xs, y :: ys => isS y x && eqS xs ys
  | _, _ => false
theorem eqS_range : ∀ (xs : List V) (ys : List Str), ((List.range (min xs.length ys.length)).all (fun j => isS (ys.getD j default) (xs.getD j .non)) && xs.length == ys.length) = eqS xs ys
  | [], [] => rfl
  | [], _ :: _ => by simp [eqS]
  | _ :: _, [] => by simp [eqS]
  | x :: xs, y :: ys => by
    have ih := eqS_range xs ys
    have e1 : min (x :: xs).length (y :: ys).length = min xs.length ys.length + 1 := by simp only [List.length_cons]; omega
    have e2 : ((x :: xs).length == (y :: ys).length) = (xs.length == ys.length) := by simp
    have e3 : (List.range (min xs.length ys.length + 1)).all (fun j => isS ((y :: ys).getD j default) ((x :: xs).getD j .non)) = (isS y x && (List.range (min xs.length ys.length)).all (fun j => isS (ys.getD j default) (xs.getD j .non))) := by
      rw [List.range_succ_eq_map, List.all_cons, List.all_map]
      first | rfl | simp [Function.comp_def]
    rw [e1, e2, e3, eqS, ← ih, Bool.and_assoc]
theorem eqS_len {xs : List V} {ys : List Str} (h : xs.length ≠ ys.length) : eqS xs ys = false := by
  rw [← eqS_range]
  simp [h]
theorem eqS_strs : ∀ xs ys : List Str, eqS (xs.map .str) ys = decide (xs = ys)
  | [], [] => by simp [eqS]
  | [], _ :: _ => by simp [eqS]
  | _ :: _, [] => by simp [eqS]
  | x :: xs, y :: ys => by
    show (isS y (.str x) && eqS (xs.map .str) ys) = _
    rw [eqS_strs xs ys]
    show ((x == y) && decide (xs = ys)) = decide (x :: xs = y :: ys)
    by_cases h1 : x = y <;> by_cases h2 : xs = ys <;> simp [h1, h2]
theorem eqS_true : ∀ {xs : List V} {ys : List Str}, eqS xs ys = true → xs = ys.map .str
  | [], [], _ => rfl
  | [], _ :: _, h => by simp [eqS] at h
  | _ :: _, [], h => by simp [eqS] at h
  | x :: xs, y :: ys, h => by
    rw [eqS, Bool.and_eq_true] at h
    rw [List.map_cons, eqS_true h.2]
    congr 1
    cases x with
    | str t => exact congrArg V.str (eq_of_beq h.1)
    | _ => exact absurd h.1 (by simp [isS])
section
variable {X : Cx} {pins : List (Addr × Obj)} {σ : L2.St} {H : Hp} {s : Shared}
theorem strs_at : ∀ {ys : List Str} {us : List Value} {j : Nat}, Vals (ys.map V.str) us → j < us.length → ∃ t, us[j]? = some (.str (ys.getD j default) t)
  | [], _, j, r, hj => by
    have r' : Vals [] _ := r
    cases r'
    exact absurd hj (by simp)
  | y :: ys, _, j, r, hj => by
    have r' : Vals (V.str y :: ys.map V.str) _ := r
    cases r' with
    | cons h t =>
      cases j with
      | zero =>
        obtain ⟨k, rfl⟩ := h
        exact ⟨k, rfl⟩
      | succ j =>
        obtain ⟨k, hk⟩ := strs_at (ys := ys) (j := j) t (by simpa using hj)
        exact ⟨k, hk⟩
theorem itms_at : ∀ {xs : List V} {us : List Value} {j : Nat} {u : Value}, Vals xs us → us[j]? = some u → RelV (xs.getD j .non) u
  | _, _, j, u, .nil, h => by simp at h
  | _, _, 0, u, .cons r t, h => by
    have e : _ = u := Option.some.inj h
    subst e
    exact r
  | _ :: xs, _ :: us, j + 1, u, .cons r t, h => itms_at (xs := xs) (us := us) (j := j) t h
theorem items_eq (I : Inv X pins σ H s) {A : Around} (hu : A.units < cLine) {xs : List V} {ys : List Str} {us ws : List Value} (rx : Vals xs us) (ry : Vals (ys.map V.str) ws) (hi : ∀ v ∈ xs, Itm X.K H v) :
    ∀ j (h1 : j < us.toArray.size) (h2 : j < ws.toArray.size), SeqAt.EqAt A s us.toArray[j] ws.toArray[j] (isS (ys.getD j default) (xs.getD j .non)) := by
  intro j h1 h2
  have h1' : j < us.length := by simpa using h1
  have h2' : j < ws.length := by simpa using h2
  obtain ⟨t, ht⟩ := strs_at ry h2'
  have e1 : us[j]? = some us[j] := List.getElem?_eq_getElem h1'
  have e2 : ws[j]? = some ws[j] := List.getElem?_eq_getElem h2'
  have e3 : ws[j] = .str (ys.getD j default) t := Option.some.inj (e2.symm.trans ht)
  show SeqAt.EqAt A s us[j] ws[j] _
  rw [e3, ← isU_eq (itms_at rx e1)]
  exact itm_eqAt I hu rx hi _ (List.getElem_mem h1')
/-- a tuple of anything against a tuple of texts -/
def rEqTS (K : PySem.W.Frag) : R2 := fun x y H Q => ∃ a b xs ys, x = .ref a ∧ y = .ref b ∧ SqT K H a xs ∧ (∀ v ∈ xs, Itm K H v) ∧ SqT K H b (ys.map V.str) ∧ Q (.bl (eqS xs ys)) H
/-- a list of anything against a list of texts -/
def rEqLS (K : PySem.W.Frag) : R2 := fun x y H Q => ∃ a b xs ys, x = .ref a ∧ y = .ref b ∧ SqL K H a xs ∧ (∀ v ∈ xs, Itm K H v) ∧ SqL K H b (ys.map V.str) ∧ Q (.bl (eqS xs ys)) H
theorem op_eqTS (hu : X.A.units + 65 < cLine) : OpR X (compareOp .Eq) (rEqTS X.K) := by
  intro pins s σ H x y v u Q I rx ry h
  obtain ⟨a, b, xs, ys, rfl, rfl, hx, hi, hy, q⟩ := h
  cases rx
  cases ry
  obtain ⟨its, r, pl, hz⟩ := I.tuple hx
  obtain ⟨its2, r2, pl2, hz2⟩ := I.tuple hy
  refine SeqAt.eq_tupleAt pl pl2 (by omega) (items_eq I (by show X.A.units + 1 < cLine; omega) r r2 hi) ⟨.bl _, H, I, rfl, ?_⟩
  have e1 : its.toArray.size = xs.length := by simp [r.length]
  have e2 : its2.toArray.size = ys.length := by
    have := r2.length
    simp at this ⊢
    exact this.symm
  rw [e1, e2, eqS_range]
  exact q
theorem op_eqLS (hu : X.A.units + 65 < cLine) : OpR X (compareOp .Eq) (rEqLS X.K) := by
  intro pins s σ H x y v u Q I rx ry h
  obtain ⟨a, b, xs, ys, rfl, rfl, hx, hi, hy, q⟩ := h
  cases rx
  cases ry
  obtain ⟨its, r, pl, hz⟩ := I.list hx
  obtain ⟨its2, r2, pl2, hz2⟩ := I.list hy
  have e1 : its.toArray.size = xs.length := by simp [r.length]
  have e2 : its2.toArray.size = ys.length := by
    have := r2.length
    simp at this ⊢
    exact this.symm
  by_cases hl : xs.length = ys.length
  · refine SeqAt.eq_listAt pl.isList pl2.isList (by rw [e1, e2, hl]) (by omega) (items_eq I (by show X.A.units + 1 < cLine; omega) r r2 hi) ⟨.bl _, H, I, rfl, ?_⟩
    have e3 := eqS_range xs ys
    rw [← hl, Nat.min_self] at e3
    rw [e1]
    simp only [beq_self_eq_true, Bool.and_true] at e3
    rw [e3]
    exact q
  · refine SeqAt.eq_list_lengthsAt pl.isList pl2.isList (by rw [e1, e2]; simp [hl]) (by omega) ⟨.bl _, H, I, rfl, ?_⟩
    rw [eqS_len hl] at q
    exact q
/-- is the thing the empty tuple? -/
inductive EmpIs (K : PySem.W.Frag) (H : Hp) : V → Bool → Prop
  | flat {v : V} : flatV v = true → EmpIs K H v false
  | lst {a : Addr} {zs : List V} : SqL K H a zs → EmpIs K H (.ref a) false
  | tup {a : Addr} {zs : List V} : SqT K H a zs → EmpIs K H (.ref a) zs.isEmpty
  | dct {a : Addr} {kvs : List (Key × V)} : H a = some (.dK kvs) → EmpIs K H (.ref a) false
/-- anything against () -/
def rEqEmp (K : PySem.W.Frag) : R2 := fun x y H Q => ∃ b k, EmpIs K H x k ∧ y = .ref b ∧ SqT K H b [] ∧ Q (.bl k) H
theorem op_eqEmp (hu : X.A.units + 65 < cLine) : OpR X (compareOp .Eq) (rEqEmp X.K) := by
  intro pins s σ H x y v u Q I rx ry h
  obtain ⟨b, k, hx, rfl, hy, q⟩ := h
  cases ry
  obtain ⟨its2, r2, pl2, hz2⟩ := I.tuple hy
  have hu1 : X.A.units < cLine := by omega
  cases hx with
  | flat f =>
    cases x with
    | non =>
      cases rx
      exact SeqAt.RcAt.none_tuple pl2 hu1 X.prog X.w _ _ ⟨.bl _, H, I, rfl, q⟩
    | bl c =>
      cases rx
      exact SeqAt.RcAt.bool_tuple c pl2 hu1 X.prog X.w _ _ ⟨.bl _, H, I, rfl, q⟩
    | int i =>
      obtain ⟨t, rfl⟩ := rx
      exact SeqAt.RcAt.int_tuple i t pl2 hu1 X.prog X.w _ _ ⟨.bl _, H, I, rfl, q⟩
    | str z =>
      obtain ⟨t, rfl⟩ := rx
      exact SeqAt.RcAt.str_tuple z t pl2 hu1 X.prog X.w _ _ ⟨.bl _, H, I, rfl, q⟩
    | _ => exact absurd (show false = true from f) Bool.false_ne_true
  | lst hs =>
    cases rx
    obtain ⟨its, r, pl, hz⟩ := I.list hs
    exact SeqAt.RcAt.list_tuple pl.isList pl2 hu1 X.prog X.w _ _ ⟨.bl _, H, I, rfl, q⟩
  | tup hs =>
    rename_i a zs
    cases rx
    obtain ⟨its, r, pl, hz⟩ := I.tuple hs
    cases r2
    refine SeqAt.eq_tupleAt (e := fun _ => true) pl pl2 hu1 (fun j h1 h2 => absurd h2 (by simp)) ⟨.bl _, H, I, rfl, ?_⟩
    have e1 : its.toArray.size = zs.length := by simp [r.length]
    rw [e1]
    have e2 : ((List.range (min zs.length ([] : List Value).toArray.size)).all (fun _ => true) && zs.length == ([] : List Value).toArray.size) = zs.isEmpty := by
      cases zs <;> simp
    rw [e2]
    exact q
  | dct hd =>
    cases rx
    obtain ⟨_, _, vs, _, o, es, ep, ho, ⟨h1, h2, h3⟩, h4, _⟩ := I.hok _ _ hd
    obtain ⟨cls, dd, data, sl⟩ := o
    simp only at h1 h4
    subst h1 h4
    exact rcAt_dict_tuple pl2 ho hu1 X.prog X.w _ _ ⟨.bl _, H, I, rfl, q⟩
end
end OS

set_option Elab.async false
set_option linter.all false
set_option maxRecDepth 100000
set_option maxHeartbeats 4000000
/-! ==, !=, in, not in of data without dicts: nothing asked of the texts -/
namespace OS
open PySem PySem.Spec PyProof.Rows L2 PySem.OSS
mutual
theorem dp_plain {K : PySem.W.Frag} {H : Hp} : ∀ (d : PyData) (v : V), Dp K H v d → d.plain = true
  | .none, _, _ => rfl
  | .bool _, _, _ => rfl
  | .int _, _, _ => rfl
  | .str _, _, _ => rfl
  | .list ds, _, h => by
    cases h with
    | lst _ ha =>
      simp only [PyData.plain]
      exact dp_plains ds _ ha
  | .tuple ds, _, h => by
    cases h with
    | tup _ ha =>
      simp only [PyData.plain]
      exact dp_plains ds _ ha
  | .dict _, _, h => by cases h
theorem dp_plains {K : PySem.W.Frag} {H : Hp} : ∀ (ds : List PyData) (vs : List V), DpAll K H vs ds → PyData.plainAll ds = true
  | [], _, _ => rfl
  | d :: ds, _, h => by
    cases h with
    | cons h1 h2 =>
      simp only [PyData.plainAll]
      rw [dp_plain d _ h1, dp_plains ds _ h2]
      rfl
end
section
variable {X : Cx}
def rEqP (K : PySem.W.Frag) : R2 := fun x y H Q => ∃ d e, Dp K H x d ∧ Dp K H y e ∧ d.depth ≤ 60 ∧ Q (.bl (PyData.eqv d e)) H
def rNeP (K : PySem.W.Frag) : R2 := fun x y H Q => ∃ d e, Dp K H x d ∧ Dp K H y e ∧ d.depth ≤ 60 ∧ Q (.bl (!PyData.eqv d e)) H
theorem op_eqP (hu : X.A.units + 65 < cLine) : OpR X (compareOp .Eq) (rEqP X.K) := by
  intro pins s σ H x y v u Q I rx ry h
  obtain ⟨d, e, hd, he, hn, q⟩ := h
  obtain ⟨as, r1⟩ := Dp.reads I d x v hd rx
  obtain ⟨bs, r2⟩ := Dp.reads I e y u he ry
  exact SeqAt.eq_plain r1 r2 (dp_plain d _ hd) (dp_plain e _ he) (by omega) ⟨.bl _, H, I, rfl, q⟩
theorem op_neP (hu : X.A.units + 65 < cLine) : OpR X (compareOp .NotEq) (rNeP X.K) := by
  intro pins s σ H x y v u Q I rx ry h
  obtain ⟨d, e, hd, he, hn, q⟩ := h
  obtain ⟨as, r1⟩ := Dp.reads I d x v hd rx
  obtain ⟨bs, r2⟩ := Dp.reads I e y u he ry
  exact SeqAt.ne_plain r1 r2 (dp_plain d _ hd) (dp_plain e _ he) (by omega) ⟨.bl _, H, I, rfl, q⟩
def rInP (K : PySem.W.Frag) (neg : Bool) : R2 := fun x y H Q => ∃ d ds, Dp K H x d ∧ (Dp K H y (.list ds) ∨ Dp K H y (.tuple ds)) ∧ d.depth ≤ 60 ∧ Q (.bl (if neg then !ds.any fun z => PyData.eqv z d else ds.any fun z => PyData.eqv z d)) H
theorem op_inP (hu : X.A.units + 65 < cLine) : OpR X (compareOp .In) (rInP X.K false) := by
  intro pins s σ H x y v u Q I rx ry h
  obtain ⟨d, ds, hd, he, hn, q⟩ := h
  obtain ⟨as, r1⟩ := Dp.reads I d x v hd rx
  rcases he with he | he
  · obtain ⟨bs, r2⟩ := Dp.reads I _ y u he ry
    exact SeqAt.in_list_data r2 r1 (by have := dp_plain _ _ he; simpa only [PyData.plain] using this) (dp_plain d _ hd) (by omega) ⟨.bl _, H, I, rfl, q⟩
  · obtain ⟨bs, r2⟩ := Dp.reads I _ y u he ry
    exact SeqAt.in_tuple_data r2 r1 (by have := dp_plain _ _ he; simpa only [PyData.plain] using this) (dp_plain d _ hd) (by omega) ⟨.bl _, H, I, rfl, q⟩
theorem op_notInP (hu : X.A.units + 65 < cLine) : OpR X (compareOp .NotIn) (rInP X.K true) := by
  intro pins s σ H x y v u Q I rx ry h
  obtain ⟨d, ds, hd, he, hn, q⟩ := h
  obtain ⟨as, r1⟩ := Dp.reads I d x v hd rx
  rcases he with he | he
  · obtain ⟨bs, r2⟩ := Dp.reads I _ y u he ry
    exact SeqAt.notIn_list_data r2 r1 (by have := dp_plain _ _ he; simpa only [PyData.plain] using this) (dp_plain d _ hd) (by omega) ⟨.bl _, H, I, rfl, q⟩
  · obtain ⟨bs, r2⟩ := Dp.reads I _ y u he ry
    exact SeqAt.notIn_tuple_data r2 r1 (by have := dp_plain _ _ he; simpa only [PyData.plain] using this) (dp_plain d _ hd) (by omega) ⟨.bl _, H, I, rfl, q⟩
end
end OS

set_option Elab.async false
set_option linter.all false
set_option maxRecDepth 100000
set_option maxHeartbeats 4000000
/-! tuples told by what they hold; sorted of a tuple -/
namespace PySem.OSS
open PySem PySem.Calls PySem.W PyProof.Rows
section
variable {prog : Program} {w : World} {A : Around} {E : Value → Shared → Prop} {s : Shared}
theorem collect_tup {l : Addr} {vs : List Value} {Q : List Value → Shared → Prop} (hl : IsTup s.heap l vs.toArray)
    (h : Q vs { s with heap := (s.heap.push (seqObj "list" #[] 0)).update s.heap.objs.size (Obj.mapSeq (· ++ vs.toArray)) }) (hsz : vs.length ≤ sizeLine) :
    wpAny (model prog w) A (collect (.ref l)) Q E s := by
  obtain ⟨o, ho, hc, n, hd⟩ := id hl
  unfold collect
  refine wpAny_bind (wpAny_runValue (codeAny_builtin entry_proto_collect' ?_))
  show wpAny _ _ (do again (.builtin "list.__iadd__" ⟨[← newList [], .ref l], []⟩)) _ _ s
  refine wpAny_bind (wpAny_newList (wpAny_pure ⟨Code.quiet_builtin _ (by decide +kernel), codeAny_builtin entry_list_iadd' ?_⟩))
  show wpAny _ _ (Builtin.List.listExtendWith (.ref s.heap.objs.size) (.ref l) (.ref s.heap.objs.size)) _ _ { s with heap := s.heap.push (seqObj "list" #[] 0) }
  unfold Builtin.List.listExtendWith
  have ho' : (s.heap.push (seqObj "list" #[] 0)).get? l = some o := Heap.get?_push_of_some _ ho
  refine wpAny_bind (wpAny_typeOf (T := "tuple") ⟨o, ho', hc⟩ ?_)
  have ht : (Value.type "tuple" == Value.type "tuple") = true := by rfl
  rw [if_pos (by rw [ht]; simp)]
  refine wpAny_bind (listItems_at ho' hd ?_)
  refine wpAny_bind (listItems_at (xs := #[]) (n := 0) (Heap.get?_push_size _ rfl) rfl ?_)
  rw [if_neg (by simp)]
  refine wpAny_bind (listUpdate_at (xs := #[]) (n := 0) (Heap.get?_push_size _ rfl) rfl ?_ (Nat.zero_le _) (by show (#[] ++ vs.toArray).size ≤ sizeLine + 1; simp only [Array.size_append, List.size_toArray, List.length_nil]; omega))
  refine wpAny_pure ?_
  show wpAny (model prog w) A (do
      let o ← load s.heap.objs.size
      match o.data with
      | .seq xs _ => pure xs.toList
      | _ => unsupported "internal:collect") Q E { s with heap := (s.heap.push (seqObj "list" #[] 0)).update s.heap.objs.size (Obj.mapSeq (· ++ vs.toArray)) }
  refine wpAny_bind (wpAny_load (get?_update_seq (Heap.get?_push_size _ rfl) _) ?_)
  show wpAny _ _ (pure ((#[] : Array Value) ++ vs.toArray).toList) Q E _
  rw [show ((#[] : Array Value) ++ vs.toArray).toList = vs by simp]
  exact wpAny_pure h
theorem sorted_of_sortT {l : Addr} {vs : List Value} {kw : List (Str × Value)} {Q : Value → Shared → Prop} (hl : IsTup s.heap l vs.toArray) (hL : vs.length ≤ sizeLine) (ha1 : argsOk "sorted" ⟨[.ref l], kw⟩) (ha2 : ∀ x, argsOk "list.sort" ⟨[.ref x], kw⟩)
    (body : ∀ E' : Value → Shared → Prop, wpAny (model prog w) A.in1.in1 (Builtin.«list.sort» ⟨[.ref (s.heap.objs.size + 1)], kw⟩) (fun f s' => f = .done (.ret .none) ∧ Q (.ref (s.heap.objs.size + 1)) s') E' { s with heap := copyHeap s.heap vs }) :
    wpAny (model prog w) A (call (.builtin "sorted") [.ref l] kw) Q E s := by
  refine call_function_entry_kw kind_sorted plain_sorted entry_sorted ha1 ?_
  unfold Builtin.«sorted»
  refine wpAny_bind (m := checkCount "sorted" 1 1 _) (wpAny_pure ?_)
  refine wpAny_bind (collect_tup hl ?_ hL)
  refine wpAny_bind (wpAny_newList ?_ hL)
  have hsz : ((s.heap.push (seqObj "list" #[] 0)).update s.heap.objs.size (Obj.mapSeq (· ++ vs.toArray))).objs.size = s.heap.objs.size + 1 := by
    rw [Heap.size_update, size_push']
  show wpAny _ _ _ _ _ { s with heap := copyHeap s.heap vs }
  rw [hsz]
  refine wpAny_bind (wpAny_holding (wpAny_call_entry_kw slot_list_sort ⟨_, copyHeap_at s.heap vs, rfl⟩ entry_list_sort ?body (ha2 _)))
  case body =>
    show wpAny (model prog w) A.in1.in1 (Builtin.«list.sort» ⟨[.ref (s.heap.objs.size + 1)], kw⟩) _ _ _
    refine wpAny_mono (body _) (fun f s' hf => ?_) fun _ _ e => e
    obtain ⟨rfl, hq⟩ := hf
    exact ⟨_, rfl, wpAny_pure ⟨_, rfl, hq⟩⟩
theorem sorted_dataT {β : Type} {vs : List Value} {bs : List β} {enc : β → PyData} {R : Value → β → Prop} {l : Addr} {Q : Value → Shared → Prop} (hl : IsTup s.heap l vs.toArray) (e : EachIs R vs bs) (er : EachIs (fun v b => ∃ as, Reads s.heap v (enc b) as) vs bs) (hal : AllAlike (bs.map enc)) (hk : SortableX (bs.map enc)) (hL : bs.length ≤ sizeLine)
    (hu : ∀ b, b ∈ bs → A.units + 2 + (enc b).depth < cLine) (h : ∀ out, out.length = bs.length → EachIs R out (bs.mergeSort (dataLe false enc)) → Q (.ref (s.heap.objs.size + 1)) { s with heap := sortedAll s.heap vs (List.toArray out) }) :
    wpAny (model prog w) A (call (.builtin "sorted") [.ref l]) Q E s := by
  have er' : EachIs (fun v b => ∃ as, Reads (sortingHeap (copyHeap s.heap vs) (s.heap.objs.size + 1) vs) v (enc b) as) vs bs := er.mono fun _ _ ⟨as, r⟩ => ⟨as, PyProof.Rows.Reads.keeps (fun _ _ => sorting_copy_old) r⟩
  have S := sorts_dataX (prog := prog) (w := w) (A := A.in1.in1) (s := { s with heap := sortingHeap (copyHeap s.heap vs) (s.heap.objs.size + 1) vs }) (each_map (R := fun v d => ∃ as, Reads (sortingHeap (copyHeap s.heap vs) (s.heap.objs.size + 1) vs) v d as) enc er') hal hk (bound_map hu)
  have hL' : vs.length ≤ sizeLine := by rw [e.length]; exact hL
  exact sorted_of_sortT hl hL' (args_sorted1 _) (fun _ => args_list_sort _) fun _ => list_sort_vals (s := { s with heap := copyHeap s.heap vs }) (copyHeap_at s.heap vs) S hL' ⟨rfl, h _ (by rw [sortVals_length false rfl]; exact e.length) (sortVals_data false e er' hal)⟩
end
end PySem.OSS
namespace OS
open PySem PySem.Spec PyProof.Rows L2 PySem.OSS
open PySem.W (EachIs AllAlike dataLe)
/-- texts in order -/
abbrev leS : Str → Str → Bool := dataLe false PyData.str
/-- sorted(xs): xs a list or tuple of texts -/
def rSortS (K : PySem.W.Frag) : List V → Hp → VK → Prop := fun vs H Q => ∃ (a : Addr) (ys : List Str), vs = [V.ref a] ∧ (SqL K H a (ys.map V.str) ∨ SqT K H a (ys.map V.str)) ∧ NewO H (.lst ((ys.mergeSort leS).map V.str)) Q
section
variable {X : Cx}
theorem alikes_str (ys : List Str) : AllAlike (ys.map PyData.str) := AllAlike.of fun _ _ => by simp [PySem.W.alike]
theorem cr_sortS (hu : X.A.units + 65 < cLine) : CallR X (.builtin "sorted") (rSortS X.K) := by
  intro pins s σ H vs us Q I r h
  obtain ⟨a, ys, rfl, hs, q⟩ := h
  obtain ⟨u, rfl, ru⟩ := vals1 r
  obtain rfl : u = Value.ref a := ru
  have hk : SortableX (ys.map PyData.str) := .inl (PySem.W.Sortable.others fun b => ⟨(fun z => nomatch z), fun xs z => nomatch z⟩)
  have done : ∀ {its : List Value} {out : List Value}, ys.length ≤ sizeLine → EachIs (fun v b => RelV (V.str b) v) out (ys.mergeSort leS) → EP X pins σ Q (.ref (s.heap.objs.size + 1)) { s with heap := sortedAll s.heap its (List.toArray out) } := fun {its out} hz eo => by
    obtain ⟨ep, he'⟩ := PyProof.Rows.sortedAll_at s.heap its out.toArray
    refine ⟨.ref _, upd H (s.heap.objs.size + 1) (.lst ((ys.mergeSort leS).map V.str)), I.laid (t' := s.toks) (fun _ _ => PyProof.Rows.sortedAll_old) (Nat.le_succ _) ⟨?_, out, ep, vals_of_each _ eo, he'⟩, rfl, q.to _ (I.hok.fresh (Nat.le_succ _))⟩
    rw [List.length_map, List.length_mergeSort]
    exact hz
  have rd : ∀ {its : List Value}, EachIs (fun v b => RelV (V.str b) v) its ys → EachIs (fun v b => ∃ as, Reads s.heap v (PyData.str b) as) its ys := fun e => e.mono fun v b r => by
    obtain ⟨t, rfl⟩ := r
    exact ⟨_, Reads.str b t⟩
  rcases hs with hs | hs
  · obtain ⟨its, rv, hl, hz⟩ := I.list hs
    rw [List.length_map] at hz
    have e := each_of_vals V.str rv
    exact sorted_dataX (R := fun v b => RelV (V.str b) v) (enc := PyData.str) hl.isList e (rd e) (alikes_str ys) hk hz (fun b hb => by simp only [PyData.depth]; omega) fun out _ eo => done hz eo
  · obtain ⟨its, rv, hl, hz⟩ := I.tuple hs
    rw [List.length_map] at hz
    have e := each_of_vals V.str rv
    exact sorted_dataT (R := fun v b => RelV (V.str b) v) (enc := PyData.str) hl e (rd e) (alikes_str ys) hk hz (fun b hb => by simp only [PyData.depth]; omega) fun out _ eo => done hz eo
/-- t + u -/
def rCatTO (K : PySem.W.Frag) : R2 := fun x y H Q => ∃ a b xs ys, x = .ref a ∧ y = .ref b ∧ SqT K H a xs ∧ SqT K H b ys ∧ xs.length + ys.length ≤ sizeLine ∧ ∀ q H', Same H H' → SqT K H' q (xs ++ ys) → Q (.ref q) H'
theorem op_catTO : OpR X (binaryOp .Add) (rCatTO X.K) := opImp op_catA fun x y H Q ⟨a, b, xs, ys, h1, h2, h3, h4, h5, q⟩ => ⟨a, b, xs, ys, h1, h2, h3, h4, h5, (fun e => by
  subst e
  exact q b H (Same.refl H) h4), (fun _ e => by
  subst e
  exact q a H (Same.refl H) (by rw [List.append_nil]; exact h3)), fun _ _ p hp => q p _ (same_new hp) (SqT.of upd_same)⟩
theorem cut_whole {xs : List V} {lo hi : Option Int} (h : HT.sIx xs.length 0 lo = 0 ∧ HT.sIx xs.length xs.length hi = xs.length) : cutV xs lo hi = xs := by
  unfold cutV
  rw [h.1, h.2]
  simp
/-- t[lo:hi] -/
def rSlTO (K : PySem.W.Frag) : V → Option Int → Option Int → Hp → VK → Prop := fun x lo hi H Q => ∃ a xs, x = .ref a ∧ SqT K H a xs ∧ ∀ q H', Same H H' → SqT K H' q (cutV xs lo hi) → Q (.ref q) H'
theorem sl_tupO : SlR X (rSlTO X.K) := slImp sl_tupA fun x lo hi H Q ⟨a, xs, h1, h2, q⟩ => ⟨a, xs, h1, h2, (fun h => q a H (Same.refl H) (by rw [cut_whole h]; exact h2)), fun _ p hp => q p _ (same_new hp) (SqT.of upd_same)⟩
/-- tuple(xs) of a list or a tuple -/
def rTupO (K : PySem.W.Frag) : List V → Hp → VK → Prop := fun xs H Q => ∃ p ys, xs = [.ref p] ∧ (SqL K H p ys ∨ SqT K H p ys) ∧ ∀ q H', Same H H' → SqT K H' q ys → Q (.ref q) H'
end
end OS

set_option Elab.async false
set_option linter.all false
set_option maxRecDepth 100000
set_option maxHeartbeats 4000000
/-! a tuple turned round -/
namespace OS
open PySem PySem.Spec PySem.Calls PyProof.Rows L2 HT
open PySem.W (krv_range krv_all)
section
variable {prog : Program} {w : World} {A : Around} {E : Value → Shared → Prop} {s : Shared}
theorem adjust_rev (n : Nat) : Builtin.Slice.sliceAdjust none none (-1) (n : Int) = ((n : Int) - 1, -1) := by
  unfold Builtin.Slice.sliceAdjust
  rfl
theorem places_rev (n : Nat) : Builtin.Slice.slicePlaces ((n : Int) - 1) (-1) (-1) = n := by
  unfold Builtin.Slice.slicePlaces
  have h1 : ¬ ((-1 : Int) > 0) := by omega
  simp only [h1, if_false, Int.neg_neg, Int.ediv_one]
  split <;> omega
theorem sliceApplied_rev {sl : Addr} {vs : Value} {n : Nat} {Q : Int × Int × Nat → Shared → Prop} (hs : s.heap.IsSliceOf sl .none .none vs) (ps : IsPart vs (some (-1)))
    (h : Q ((n : Int) - 1, -1, n) s) : wpAny (model prog w) A (Builtin.Slice.sliceApplied (.ref sl) (pure (n : Int))) Q E s := by
  obtain ⟨os, hos, hcs, hds⟩ := id hs
  unfold Builtin.Slice.sliceApplied Builtin.Slice.sliceFields
  refine wpAny_bind (wpAny_bind (wpAny_field hos hds (x := .none) rfl (wpAny_bind (wpAny_field hos hds (x := .none) rfl (wpAny_bind (wpAny_field hos hds (x := vs) rfl (wpAny_pure ?_)))))))
  refine wpAny_bind (slicePart_ ps ?_)
  show wpAny _ _ (if ((-1 : Int) == 0) = true then _ else _) _ _ s
  rw [if_neg (by decide)]
  refine wpAny_bind (slicePart_none (wpAny_bind (slicePart_none (wpAny_bind (wpAny_pure ?_)))))
  show wpAny _ _ (match Builtin.Slice.sliceAdjust none none (-1) (n : Int) with | (lo, hi) => pure (lo, (-1 : Int), Builtin.Slice.slicePlaces lo hi (-1))) _ _ s
  rw [adjust_rev]
  show wpAny _ _ (pure ((n : Int) - 1, (-1 : Int), Builtin.Slice.slicePlaces ((n : Int) - 1) (-1) (-1))) _ _ s
  rw [places_rev]
  exact wpAny_pure h
theorem pick_rev (xs : Array Value) : ((List.range xs.size).filterMap fun (m : Nat) => xs[(((xs.size : Int) - 1) + (m : Int) * (-1)).toNat]?).toArray = xs.toList.reverse.toArray := by
  have e : ((List.range xs.size).filterMap fun (m : Nat) => xs[(((xs.size : Int) - 1) + (m : Int) * (-1)).toNat]?) = ((List.range xs.size).map fun k => xs.size - 1 - k).filterMap (xs[·]?) := by
    rw [List.filterMap_map]
    congr 1
    funext m
    have : (((xs.size : Int) - 1) + (m : Int) * (-1)).toNat = xs.size - 1 - m := by omega
    show xs[(((xs.size : Int) - 1) + (m : Int) * (-1)).toNat]? = xs[xs.size - 1 - m]?
    rw [this]
  rw [e, krv_range, List.filterMap_reverse, krv_all]
theorem getItem_tuple_rev {t sl : Addr} {items : Array Value} {vs : Value} {Q : Value → Shared → Prop} (ht : IsTup s.heap t items) (hs : s.heap.IsSliceOf sl .none .none vs) (ps : IsPart vs (some (-1)))
    (h : Q (.ref s.heap.objs.size) { s with heap := s.heap.push { cls := .type "tuple", data := .seq items.toList.reverse.toArray } })
    (hsz : items.size ≤ sizeLine) : wpAny (model prog w) A (getItem (.ref t) (.ref sl)) Q E s := by
  have htake : sizeOk (.seq items.toList.reverse.toArray) := by
    show items.toList.reverse.toArray.size ≤ sizeLine
    rw [List.size_toArray, List.length_reverse, Array.length_toList]
    exact hsz
  obtain ⟨os, hos, hcs, hds⟩ := id hs
  have hTs : s.TypeIs (.ref sl) "slice" := ⟨os, hos, hcs⟩
  unfold getItem
  try with_reducible refine wpAny_holding ?_
  first | refine wpAny_bind (wpAny_pure ?_) | skip
  refine wpAny_bind (wpAny_sequenceKey ht.typeIs (by decide) ?_)
  refine wpAny_bind (wpAny_callSpecial?_slot (name := Str.ofString "__getitem__") ht.typeIs PyProof.Rows.slot_tuple_getitem
    (wpAny_call_entry PyProof.Rows.slot_tuple_getitem ht.typeIs entry_tuple_getitem ?_ (args_tuple_getitem _ _)))
  show wpAny _ _ (Builtin.Tuple.tupleItemsOf (.ref t) >>= _) _ _ s
  refine wpAny_bind (tupleItemsOf_ ht ?_)
  refine wpAny_bind (wpAny_typeOf hTs ?_)
  rw [if_pos (by decide)]
  refine wpAny_bind (sliceApplied_rev hs ps ?_)
  have hno : ¬ ((((items.size : Int) - 1) == 0 && (-1 : Int) == 1 && items.size == items.size) = true) := by simp
  show wpAny _ _ (if (((items.size : Int) - 1) == 0 && (-1 : Int) == 1 && items.size == items.size) = true then _ else _) _ _ s
  rw [if_neg hno, pick_rev]
  first
    | exact wpAny_bind (m := Builtin.Tuple.tupleExact _) (wpAny_newObj_type (wpAny_pure ⟨_, rfl, wpAny_pure h⟩) htake)
    | exact wpAny_bind (m := Builtin.Tuple.tupleExact _) (wpAny_newObj_type (wpAny_bind (wpAny_pure (wpAny_pure ⟨_, rfl, wpAny_pure h⟩))) htake)
    | exact wpAny_bind (wpAny_bind (m := Builtin.Tuple.tupleExact _) (wpAny_newObj_type (wpAny_pure (wpAny_pure ⟨_, rfl, wpAny_pure h⟩)) htake))
    | exact wpAny_bind (wpAny_bind (m := Builtin.Tuple.tupleExact _) (wpAny_newObj_type (wpAny_pure ⟨_, rfl, wpAny_pure h⟩) htake))
end
end OS
namespace OS
open PySem PySem.Spec PyProof.Rows L2 PySem.OSS
/-- t[::-1], t a tuple -/
def tRevT (K : PySem.W.Frag) (te : TE) : TE := fun σ H Q => te σ H fun x H1 => ∃ a xs, x = .ref a ∧ SqT K H1 a xs ∧ NewO H1 (.tup xs.reverse) Q
theorem vals_reverse : ∀ {xs : List V} {us : List Value}, Vals xs us → Vals xs.reverse us.reverse
  | _, _, .nil => .nil
  | _, _, .cons r t => by
    rw [List.reverse_cons, List.reverse_cons]
    exact (vals_reverse t).append (.cons r .nil)
theorem pe_revT {X : Cx} {e : Expr} {te : TE} {k : Nat} {p1 p2 p3 pos : Pos} (he : PE X e te)
    (hbody : ∀ (t l : Addr), subscripted (.Slice none none (some (.UnaryOp .USub (.Constant (.int 1) k p1) p2)) p3) false (.ref t) (.ref l) = operate [.ref t, .ref l] (getItem (.ref t) (.ref l)) := by intro _ _; with_unfolding_all rfl) :
    PE X (.Subscript e (.Slice none none (some (.UnaryOp .USub (.Constant (.int 1) k p1) p2)) p3) pos) (tRevT X.K te) := by
  refine ⟨fun pins s σ H Q I h => ?_⟩
  refine Subscript_ (thn (he.run pins s σ H _ I h) fun v s1 ⟨x, H1, I1, r1, q1⟩ => ?_)
  obtain ⟨a, xs, ex, hx, q⟩ := q1
  subst ex
  obtain rfl : v = Value.ref a := r1
  have hst : PO X (some (.UnaryOp .USub (.Constant (.int 1) k p1) p2)) (tPart (tUn (rU fun i => .int (-i)) (tC (.int 1)))) := po_some (pe_un un_neg pe_int)
  refine wpAny_Slice (thn (po_none.run pins s1 σ H1 (fun o H2 => o = none ∧ H2 = H1) I1 ⟨rfl, rfl⟩) fun vl s2 ⟨l, H2, I2, pl, el, e2⟩ => ?_)
  subst el e2
  refine thn (po_none.run pins s2 σ H2 (fun o H3 => o = none ∧ H3 = H2) I2 ⟨rfl, rfl⟩) fun vu s3 ⟨u, H3, I3, pu, eu, e3⟩ => ?_
  subst eu e3
  refine thn (hst.run pins s3 σ H3 (fun o H4 => o = some (-1) ∧ H4 = H3) I3 ⟨1, rfl, -1, rfl, rfl, rfl⟩) fun vs s4 ⟨o, H4, I4, ps, eo, e4⟩ => ?_
  subst eo e4
  have I5 : Inv X pins σ H4 { s4 with heap := s4.heap.push { cls := .type "slice", data := .fields #[vl, vu, vs] } } := I4.kept (t' := s4.toks) fun b ob q => Heap.get?_push_of_some _ q
  show wpAny (model X.prog X.w) X.A (subscriptTail e (.Slice none none (some (.UnaryOp .USub (.Constant (.int 1) k p1) p2)) p3) (.ref a) (.ref s4.heap.objs.size)) (EP X pins σ Q) X.xe { s4 with heap := s4.heap.push { cls := .type "slice", data := .fields #[vl, vu, vs] } }
  obtain ⟨its, r, ht, hz⟩ := I5.tuple hx
  obtain rfl : vl = Value.none := by cases pl; rfl
  obtain rfl : vu = Value.none := by cases pu; rfl
  refine tail_any ht.typeIs PyProof.Rows.slot_tuple_getitem.lookup ?_ (hbody _ _)
  have hlen : its.toArray.size = xs.length := by rw [List.size_toArray]; exact r.length.symm
  refine getItem_tuple_rev ht ⟨_, Heap.get?_push_size _ rfl, rfl, rfl⟩ ps ?_ (by rw [hlen]; exact hz)
  refine ⟨.ref _, _, I5.laid (t' := s4.toks) (o := .tup xs.reverse) (fun b ob q => Heap.get?_push_of_some _ q) (Nat.le_refl _) ?_, rfl, q.to _ (I5.hok.fresh (Nat.le_refl _))⟩
  exact ⟨by rw [List.length_reverse]; exact hz, _, vals_reverse r, IsTup.new _ _⟩
end OS

set_option Elab.async false
set_option linter.all false
set_option maxRecDepth 100000
set_option maxHeartbeats 4000000
/-! several except clauses, with a name and without. The road is the library's for one clause with a name and for many without; here both meet -/
namespace OS
open PySem PySem.Spec PyProof.Rows L2
abbrev Suite := Addr → Value → Option Addr → TS
/-- behind the suite of a clause with a name its slot is empty -/
def Ends.less (D : Ends) (i : Nat) : Ends := { nx := fun σ H => D.nx (σ.set i none) H, rt := D.rt, bk := fun σ H => D.bk (σ.set i none) H, ct := fun σ H => D.ct (σ.set i none) H }
/-- a clause's suite, with its name's slot or without -/
def runSuite (oi : Option Nat) (ts : Suite) (D : Ends) (cls : Value) (d : Option Addr) (σ : L2.St) (H : Hp) (a : Addr) : Prop :=
  match oi with
  | none => ts a cls d D σ H
  | some i => ts a cls d (Ends.less D i) (σ.set i (some (.ref a))) H
def wMix (K : PySem.W.Frag) (Wout : WX) (D : Ends) : List (Value × Option Nat × Suite) → WX
  | [] => Wout
  | (c, oi, ts) :: r => fun cls d σ H => ∃ b, PySem.W.exmOne K cls c = some b ∧ (b = true → ∀ a, H a = none → runSuite oi ts D cls d σ H a) ∧ (b = false → wMix K Wout D r cls d σ H)
/-- a clause's name -/
inductive NameAt (X : Cx) : Option Str → Option Nat → Prop
  | no : NameAt X none none
  | yes {n : Str} {i : Nat} (hi : X.N[i]? = some n) (hl : X.env.kindOf n = some .local) : NameAt X (some n) (some i)
inductive HdsMix (X : Cx) : List ExceptHandler → List (Value × Option Nat × Suite) → Prop
  | nil : HdsMix X [] []
  | cons {x : Str} {on : Option Str} {oi : Option Nat} {c : Value} {ts : Suite} {b₀ : Stmt} {suite : List Stmt} {np pos' : Pos} {hds : List ExceptHandler} {l : List (Value × Option Nat × Suite)} (hc : Names X x c) (hn : NameAt X on oi)
      (hsu : ∀ (a : Addr) (oe : Obj) (cls : Value) (d : Option Addr) (pn : List (Addr × Obj)), Zc cls d oe → (∃ vs, oe.data = .fields vs) → PSs (X.suite a ((a, oe) :: pn)) (b₀ :: suite) (ts a cls d)) (r : HdsMix X hds l) :
      HdsMix X (.ExceptHandler (some (.Name x np)) on (b₀ :: suite) pos' :: hds) ((c, oi, ts) :: l)
section
variable {X : Cx} {body : List Stmt} {h₀ : ExceptHandler} {hds : List ExceptHandler} {l : List (Value × Option Nat × Suite)} {pos : Pos} {tb : WX → TS} {Wout : WX}
theorem ps_try_mix (hs : X.stack = X.env :: X.outer) (hf : X.env.frame = some X.env.locals) (hN : X.N.Nodup) (tk : Takes X Wout)
    (hb : ∀ (W : WX) (pn : List (Addr × Obj)) (xe : Value → Shared → Prop), Takes (X.tr pn xe) W → PassesOwn (model X.prog X.w) X.A X.env xe → PSs (X.tr pn xe) body (tb W))
    (hh : HdsMix X (h₀ :: hds) l) : PS X (.Try body (h₀ :: hds) [] [] pos) (fun D σ H => tb (wMix X.K Wout D l) D σ H) := by
  constructor
  intro pins s σ H D I h
  have ok := I.ok
  have hfr : X.A.frames = some (X.env :: X.outer) := ok.frames.trans (by rw [hs])
  -- behind the body, where it ends by itself
  have back : ∀ f s1, SP (X.tr (X.pn ++ pins) (fun e s₁ => wpAny (model X.prog X.w) X.A (noteFrame e X.env) (fun _ s₂ => wpAny (model X.prog X.w) X.A (setFlight e none) (fun _ s₃ =>
      wpAny (model X.prog X.w) X.A (handleBy e X.env (h₀ :: hds)) (SP X pins D) X.xe s₃) X.xe s₂) X.xe s₁)) [] D f s1 →
      (match f with | .next => SP X pins D .next s1 | f => SP X pins D f s1) := by
    intro f s1 q
    cases f
    · obtain ⟨σ', H', J, q⟩ := q
      exact ⟨σ', H', J.ofTry ok, q⟩
    · obtain ⟨σ', H', J, q⟩ := q
      exact ⟨σ', H', J.ofTry ok, q⟩
    · obtain ⟨σ', H', J, q⟩ := q
      exact ⟨σ', H', J.ofTry ok, q⟩
    · obtain ⟨v, σ', H', J, r, q⟩ := q
      exact ⟨v, σ', H', J.ofTry ok, r, q⟩
  refine wpAny_Try_except (wpAny_mono ((hb (wMix X.K Wout D l) (X.pn ++ pins) _ ?take PassesOwn.looking).run [] s σ H D (I.toTry _) h) (fun f s1 q => ?_) (fun _ _ he => he))
  case take =>
    intro u s' xx
    obtain ⟨a, B, sI, pins', σ', H', cls, d, rfl, J', nb, up, sky, na, os, ag, wish⟩ := xx
    have J : Inv X pins σ' H' sI := J'.ofTry ok
    refine Sky.land Zc.steady hfr hf (by rw [← hs]; exact sky) fun h3 fl3 up3 => ?_
    have J3 : Inv X pins σ' H' { s' with heap := h3 } := J.landed nb fl3.1 (up.trans up3) os ag
    obtain ⟨oe3, vs3, he3, hz3, hd3⟩ := fl3.there
    have nfr : a ∉ frs (X.env :: X.outer) := fun hm => by
      obtain ⟨_, o', e', hnf⟩ := fl3.2.2.1.mem hm
      cases he3.symm.trans e'
      exact hnf _ hd3
    have nL : a ≠ X.env.locals := fun z => nfr (List.mem_filterMap.mpr ⟨X.env, List.mem_cons_self, by rw [hf, z]⟩)
    have nF : a ∉ X.fs := fun hm => by
      obtain ⟨e, he, q⟩ := List.mem_filterMap.mp hm
      exact nfr (List.mem_filterMap.mpr ⟨e, List.mem_cons_of_mem _ he, q⟩)
    have S3 := J3.suite he3 hd3 na nL nF
    -- clause by clause
    have go : ∀ {hds' : List ExceptHandler} {l' : List (Value × Option Nat × Suite)}, HdsMix X hds' l' → wMix X.K Wout D l' cls d σ' H' →
        wpAny (model X.prog X.w) X.A (handleBy (.ref a) X.env hds') (SP X pins D) X.xe { s' with heap := h3 } := by
      intro hds' l' hk
      induction hk with
      | nil =>
        intro out
        obtain ⟨_, _, _, oe, vs, T, oT, ts', he, hz, hd, h1, hr⟩ := id fl3
        have fin : wpAny (model X.prog X.w) X.A (setFlight (.ref a) X.env.frame) (fun _ s4 => wpAny (model X.prog X.w) X.A (throw (.ref a) : Sem Flow) (SP X pins D) X.xe s4) X.xe { s' with heap := h3 } := by
          rw [hf]
          exact HandSPX.setFlight_upZ fl3 fun h4 hh4 up4 => wpAny_throw (tk _ _ ⟨a, B, sI, pins, σ', H', cls, d, rfl, J, nb, (up.trans up3).trans up4, .inr (.inr (by rw [hs]; exact hh4)), na, os, ag, out⟩)
        refine wpAny_handleBy_nil ?_
        unfold PySem.passOn
        refine wpAny_bind (wpAny_field he hd h1 ?_)
        rw [if_neg (show ¬ ((Value.ref T == Value.none) = true) from by simp)]
        first
          | exact wpAny_bind (wpAny_pure (wpAny_bind fin))
          | exact wpAny_bind fin
      | @cons x on oi c ts b₀ suite np pos' hds2 l2 hc hn hsu r ih =>
        intro wish
        obtain ⟨b, hb1, hyes, hno⟩ := wish
        refine wpAny_handleBy_cons (codeAny_handlers_test ?_) (by intro q; cases q)
        have LT : PySem.W.Looks (model X.prog X.w) h3 (typeOf (.ref a)) cls := fun A Q E s k q => wpAny_typeOf_ref (k _ _ he3) (by rw [hz3.1]; exact q)
        have look : ∀ {Q E}, Q c { s' with heap := h3 } → wpAny (model X.prog X.w) (X.A.mark (some (.ref a))) (eval (.Name x np) X.env) Q E { s' with heap := h3 } := fun {Q E} q => by
          rcases hc with ⟨hg, hdbg, hm | ⟨hm, hv, hnn⟩⟩
          · exact ld_glob (X := X.suite a ((a, oe3) :: (X.pn ++ pins))) S3 hg hm q hdbg
          · exact ld_blt (X := X.suite a ((a, oe3) :: (X.pn ++ pins))) S3 hg hm hv q hnn hdbg
        refine look ((PySem.W.exm_one (M := model X.prog X.w) J3.kIn LT hb1).here ?_)
        cases b with
        | false =>
          show wpAny _ X.A (handleBy (.ref a) X.env hds2) _ _ _
          exact ih (hno rfl)
        | true =>
          have run := hyes rfl a na
          cases hn with
          | no =>
            refine codeAny_handlers_suite (HandSPX.lands_againZ fl3 fun h4 fl4 up4 => ?_)
            obtain ⟨oe4, vs4, he4, hz4, hd4⟩ := fl4.there
            have S4 := (J.landed nb fl4.1 ((up.trans up3).trans up4) os ag : Inv X pins σ' H' { s' with heap := h4 }).suite he4 hd4 na nL nF
            refine wpAny_mono ((hsu a oe4 cls d (X.pn ++ pins) hz4 ⟨_, hd4⟩).run [] _ _ H' _ S4 run) (fun f s6 q6 => ?_) (fun _ _ z => False.elim z)
            cases f
            · exact q6.imp fun _ q => q.imp fun _ z => ⟨z.1.unsuite ok, z.2⟩
            · exact q6.imp fun _ q => q.imp fun _ z => ⟨z.1.unsuite ok, z.2⟩
            · exact q6.imp fun _ q => q.imp fun _ z => ⟨z.1.unsuite ok, z.2⟩
            · exact q6.imp fun _ q => q.imp fun _ q => q.imp fun _ z => ⟨z.1.unsuite ok, z.2⟩
          | @yes n i hi hln =>
            refine codeAny_handlers_suite_as (HandSPX.lands_againZ fl3 fun h4 fl4 up4 => ?_)
            obtain ⟨oe4, vs4, he4, hz4, hd4⟩ := fl4.there
            have S4 := (J.landed nb fl4.1 ((up.trans up3).trans up4) os ag : Inv X pins σ' H' { s' with heap := h4 }).suite he4 hd4 na nL nF
            refine store_ok (X := X.suite a ((a, oe4) :: (X.pn ++ pins))) (v := .ref a) S4 hN hi (.inl hln) rfl (fun s5 S5 => ?_) (.inr hln)
            refine wpAny_mono ((hsu a oe4 cls d (X.pn ++ pins) hz4 ⟨_, hd4⟩).run [] s5 _ H' _ S5 run) (fun f s6 q6 => ?_) (fun _ _ z => False.elim z)
            have gone : ∀ {σ6 : L2.St} {H6 : Hp} {Q : Shared → Prop}, Inv (X.suite a ((a, oe4) :: (X.pn ++ pins))) [] σ6 H6 s6 → (∀ s7, Inv X pins (σ6.set i none) H6 s7 → Q s7) →
                wpAny (model X.prog X.w) X.A (do bindName X.env n .none; unbindBehindTheSuite X.env n pos') (fun _ s7 => Q s7) X.xe s6 := fun {σ6 H6 Q} S6 hq => gone_ok (S6.unsuite ok) hN hi hln hq
            cases f
            · obtain ⟨_, _, S6, q⟩ := q6
              exact gone S6 fun s7 J7 => ⟨_, _, J7, q⟩
            · obtain ⟨_, _, S6, q⟩ := q6
              exact gone S6 fun s7 J7 => ⟨_, _, J7, q⟩
            · obtain ⟨_, _, S6, q⟩ := q6
              exact gone S6 fun s7 J7 => ⟨_, _, J7, q⟩
            · obtain ⟨_, _, _, S6, r6, q⟩ := q6
              exact gone S6 fun s7 J7 => ⟨_, _, _, J7, r6, q⟩
    exact go hh wish
  · have z := back f s1 q
    cases f
    · exact wpAny_execs_nil z
    all_goals exact z
end
end OS

set_option Elab.async false
set_option linter.all false
set_option maxRecDepth 100000
set_option maxHeartbeats 4000000
/-! groups in the heap -/
namespace OS
open PySem PySem.Spec PyProof.Rows L2
theorem room65 {k : Nat} {A : Around} (r : Room k A) : A.units + 65 < cLine := by have := r.un; omega
theorem _root_.L2.Same.tupT {K : PySem.W.Frag} {H H' : Hp} {a : Addr} {xs : List V} (e : Same H H') (h : SqT K H a xs) : SqT K H' a xs := by
  rcases h with (h | ⟨o, h⟩) | h
  · exact .inl (.inl (e _ _ h))
  · exact .inl (.inr ⟨o, e _ _ h⟩)
  · exact .inr h
theorem strs_get {xs : List Str} {i : Nat} {x : V} (h : (xs.map V.str)[i]? = some x) {s : Str} (hs : xs[i]? = some s) : x = .str s := by
  rw [List.getElem?_map, hs] at h
  exact (Option.some.inj h).symm
theorem strs_flat : ∀ xs : List Str, (xs.map V.str).all flatV = true
  | [] => rfl
  | x :: xs => by
    rw [List.map_cons, List.all_cons, strs_flat xs]
    rfl
theorem inV_strs (z : Str) : ∀ xs : List Str, inV (.str z) (xs.map V.str) = decide (z ∈ xs)
  | [] => rfl
  | x :: xs => by
    have ih := inV_strs z xs
    unfold inV at ih ⊢
    rw [List.map_cons, List.any_cons, ih]
    show ((x == z) || decide (z ∈ xs)) = decide (z ∈ x :: xs)
    by_cases h1 : x = z
    · subst h1
      simp
    · have h1' : ¬ z = x := fun q => h1 q.symm
      by_cases h2 : z ∈ xs <;> simp [h1, h1', h2]
/-- a group: a tuple of texts -/
def GrpV (K : PySem.W.Frag) (H : Hp) (x : V) (g : List Str) : Prop := ∃ a, x = .ref a ∧ SqT K H a (g.map V.str)
theorem GrpV.same {K : PySem.W.Frag} {H H' : Hp} {x : V} {g : List Str} (h : GrpV K H x g) (s : Same H H') : GrpV K H' x g := h.imp fun _ q => ⟨q.1, s.tupT q.2⟩
/-- items that are the groups gs -/
abbrev GrpsV (K : PySem.W.Frag) (H : Hp) (xs : List V) (gs : List (List Str)) : Prop := Paired (GrpV K H) xs gs
theorem GrpsV.same {K : PySem.W.Frag} {H H' : Hp} {xs : List V} {gs : List (List Str)} (h : GrpsV K H xs gs) (s : Same H H') : GrpsV K H' xs gs := Paired.mapP h fun _ _ q => q.same s
theorem GrpV.dp {K : PySem.W.Frag} {H : Hp} {x : V} {g : List Str} (h : GrpV K H x g) : Dp K H x (encG g) := by
  obtain ⟨a, rfl, q⟩ := h
  exact .tup q (dp_all (fun z => .str z) g)
theorem GrpsV.dps {K : PySem.W.Frag} {H : Hp} : ∀ {xs : List V} {gs : List (List Str)}, GrpsV K H xs gs → DpAll K H xs (gs.map encG)
  | _, _, .nil => .nil
  | _, _, .cons h t => .cons h.dp (GrpsV.dps t)
theorem any_encG (g : List Str) : ∀ gs : List (List Str), ((gs.map encG).any fun z => PyData.eqv z (encG g)) = decide (g ∈ gs)
  | [] => rfl
  | x :: gs => by
    rw [List.map_cons, List.any_cons, any_encG g gs, eqv_G]
    by_cases h1 : x = g
    · subst h1
      simp
    · have h1' : ¬ g = x := fun q => h1 q.symm
      by_cases h2 : g ∈ gs <;> simp [h1, h1', h2]
theorem eqv_Gs : ∀ gs hs : List (List Str), PyData.eqvAll (gs.map encG) (hs.map encG) = decide (gs = hs)
  | [], [] => by simp [PyData.eqvAll]
  | [], _ :: _ => by simp [PyData.eqvAll]
  | _ :: _, [] => by simp [PyData.eqvAll]
  | x :: xs, y :: ys => by
    show (PyData.eqv (encG x) (encG y) && PyData.eqvAll (xs.map encG) (ys.map encG)) = _
    rw [eqv_Gs xs ys, eqv_G]
    by_cases h1 : x = y <;> by_cases h2 : xs = ys <;> simp [h1, h2]
theorem paired_zip {α β : Type} {F : α → β → Prop} : ∀ {xs : List α} {ys : List β}, Paired F xs ys → (xs.zip ys).map Prod.fst = xs ∧ (xs.zip ys).map Prod.snd = ys ∧ ∀ p ∈ xs.zip ys, F p.1 p.2
  | _, _, .nil => ⟨rfl, rfl, fun _ h => by simp at h⟩
  | _, _, .cons h t => by
    obtain ⟨h1, h2, h3⟩ := paired_zip t
    refine ⟨by rw [List.zip_cons_cons, List.map_cons, h1], by rw [List.zip_cons_cons, List.map_cons, h2], fun p hp => ?_⟩
    rw [List.zip_cons_cons] at hp
    rcases List.mem_cons.mp hp with rfl | hp
    · exact h
    · exact h3 p hp
theorem paired_of {α β γ : Type} {F : α → β → Prop} {f : γ → α} {k : γ → β} : ∀ {l : List γ}, (∀ c ∈ l, F (f c) (k c)) → Paired F (l.map f) (l.map k)
  | [], _ => .nil
  | c :: l, h => .cons (h c (List.mem_cons_self ..)) (paired_of fun c hc => h c (List.mem_cons_of_mem _ hc))
theorem paired_get {α β : Type} {F : α → β → Prop} : ∀ {xs : List α} {ys : List β} {i : Nat} {x : α}, Paired F xs ys → xs[i]? = some x → ∃ y, ys[i]? = some y ∧ F x y
  | _, _, _, _, .nil, h => by simp at h
  | _, _, 0, _, .cons h t, e => ⟨_, rfl, by cases e; exact h⟩
  | _, _, i + 1, _, .cons h t, e => by
    obtain ⟨y, h1, h2⟩ := paired_get (i := i) t e
    exact ⟨y, h1, h2⟩
theorem paired_len {α β : Type} {F : α → β → Prop} {xs : List α} {ys : List β} (h : Paired F xs ys) : xs.length = ys.length := Paired.length h
end OS

set_option Elab.async false
set_option linter.all false
set_option maxRecDepth 100000
set_option maxHeartbeats 4000000
/-! own errors as values: made by place and by name, their fields read, asked by isinstance -/
namespace PySem
namespace OSX
open Builtin Builtin.ObjectAttr PySem.HandSPX
section
variable {M : Model} {prog : Program} {w : World} {A : Around} {E : Value → Shared → Prop} {R : Result → Shared → Prop} {h : Heap} {g : Array GenState} {d : Drawn} {t : Nat} {os : OsState}
variable {nm q : Str} {C N : Addr} {bs bm bmB : List Value} {hdct : Bool} {sn : List Str} {sub : List Value} {ab : Bool} {col : Option Bool} {dd : Option Addr} {k0 k1 k2 k3 k5 : Option Value} {B newId initId : String} {rest : List Value} {kws : List (Str × Value)}
theorem chk_kw (F : ExcBaseFacts B newId initId bmB) (hT : ∀ X : String, bm.contains (.type X) = bmB.contains (.type X)) {Q : Unit → Shared → Prop}
    (hC : h.get? C = some (excClassObj nm q C N bs bm hdct sn sub ab col dd k0 k1 k2 k3 k5 newId)) (hq : Q () ⟨h, g, d, t, os⟩) : wpAny M A (checkBuiltinCall newId ⟨.ref C :: rest, kws⟩) Q E ⟨h, g, d, t, os⟩ := by
  have hB : (Value.ref C :: bm).contains (.type B) = true := by rw [List.contains_cons, hT, F.hasB, Bool.or_true]
  have hs := F.noStar
  simp only [checkBuiltinCall, F.newKind, F.newSplit, F.newRow]
  repeat (first | refine wpAny_loadPart_at hC ?_ | (refine wpAny_isSubtype_exc hC ?_; rw [hB]) | refine wpAny_staticBase_exc hC ?_ | refine wpAny_madeBy_exc hC ?_ | simp only [bne_self_eq_false, Bool.false_eq_true, if_false] | wp_step)
  exact hq
theorem new_kw (F : ExcBaseFacts B newId initId bmB) (hT : ∀ X : String, bm.contains (.type X) = bmB.contains (.type X))
    (hC : h.get? C = some (excClassObj nm q C N bs bm hdct sn sub ab col dd k0 k1 k2 k3 k5 newId)) (hrest : rest.length ≤ sizeLine)
    (hq : R (.ok (.ret (.ref (h.objs.size + 1)))) ⟨(h.push (W.kdv_tup rest)).push (excO C h.objs.size), g, d, t, os⟩) :
    codeAny (model prog w) A (.builtin newId ⟨.ref C :: rest, kws⟩) R ⟨h, g, d, t, os⟩ := by
  have he := F.ends
  have hB : (Value.ref C :: bm).contains (.type B) = true := by rw [List.contains_cons, hT, F.hasB, Bool.or_true]
  have hA : (Value.ref C :: bm).contains (.type "AttributeError") = false := by rw [List.contains_cons, hT, F.noAttr]; rfl
  have hN : (Value.ref C :: bm).contains (.type "NameError") = false := by rw [List.contains_cons, hT, F.noName]; rfl
  refine codeAny_builtinAt F.entry ?_
  unfold Builtin.«BaseException.__new__»
  refine wpAt_bind ?_
  show wpAt _ _ _ (stack >>= _) _ _ _
  refine wpAt_bind (wpAt_stack fun p below => wpAt_of_wpAny ?_)
  wp_walk
  refine wpAt_of_wpAny ?_
  rw [F.owner]
  repeat (first | with_reducible refine wpAny_madeHere_exc F.canon hC ?_ | with_reducible refine wpAny_loadPart_at hC ?_ | (with_reducible refine wpAny_isSubtype_exc hC ?_; first | rw [hB] | rw [hA] | rw [hN]) | wp_step)
  show R _ _
  rw [Heap.size_push]
  exact hq
theorem tcall_kw (F : ExcBaseFacts B newId initId bmB) (hT : ∀ X : String, bm.contains (.type X) = bmB.contains (.type X)) {fI : Addr} {Q : Fin → Shared → Prop}
    (hC : h.get? C = some (excClassObj nm q C N bs bm hdct sn sub ab col dd k0 k1 k2 k3 k5 newId))
    (hi : W.Looks (model prog w) h (typeLookup (.ref C) "__init__") (some (.ref fI))) (hb : ∀ self, W.Looks (model prog w) h (bindSpecial (.ref fI) self) (.ref fI, [self])) (hrest : rest.length ≤ sizeLine)
    (hq : codeAny (model prog w) A (.call (.ref fI) ⟨.ref (h.objs.size + 1) :: rest, kws⟩)
      (fun r s' => match r with | .ok (.ret v) => v = .none ∧ Q (.done (.ret (.ref (h.objs.size + 1)))) s' | .ok _ => False | .error e => E e s')
      ⟨(h.push (W.kdv_tup rest)).push (excO C h.objs.size), g, d, t, os⟩) :
    wpAny (model prog w) A (Builtin.«type.__call__» ⟨.ref C :: rest, kws⟩) Q E ⟨h, g, d, t, os⟩ := by
  repeat (first | with_reducible refine wpAny_loadPart_at hC ?_ | with_reducible refine wpAny_madeBy_exc hC ?_ | wp_step)
  refine codeAny_call_builtin_code (Code.quiet_builtin _ F.quiet) (chk_kw F hT hC ?_)
  refine new_kw F hT hC hrest ?_
  show wpAny _ _ _ _ _ _
  have k : ∀ b o, h.get? b = some o → ((h.push (W.kdv_tup rest)).push (excO C h.objs.size)).get? b = some o := fun b o e => Heap.get?_push_of_some _ (Heap.get?_push_of_some _ e)
  have hC1 := k _ _ hC
  have hget : ((h.push (W.kdv_tup rest)).push (excO C h.objs.size)).get? (h.objs.size + 1) = some (excO C h.objs.size) := by heap_get
  have hcC : (Value.ref C :: bm).contains (.ref C) = true := by simp
  have i1 := hi.keeps k
  have b1 := (hb (.ref (h.objs.size + 1))).keeps k
  unfold isInstance
  repeat (first | with_reducible refine wpAny_loadPart_at hget ?_ | (with_reducible refine wpAny_isSubtype_exc hC1 ?_; rw [hcC]) | wp_step)
  show wpAny _ _ (typeLookup (.ref C) _) _ _ _
  refine i1.at ?_
  refine wpAny_holding (wpAny_bind (b1.at ?_))
  refine wpAny_bind (wpAny_call (codeAny_mono hq fun r s' z => ?_))
  rcases r with e | (v | _ | _ | _) <;> first | exact z | exact z.elim | skip
  obtain ⟨rfl, z⟩ := z
  first
    | exact wpAny_pure (wpAny_pure z)
    | (wp_walk; exact z)
theorem call_kw (F : ExcBaseFacts B newId initId bmB) (hT : ∀ X : String, bm.contains (.type X) = bmB.contains (.type X)) {fI : Addr}
    (hC : h.get? C = some (excClassObj nm q C N bs bm hdct sn sub ab col dd k0 k1 k2 k3 k5 newId))
    (hi : W.Looks (model prog w) h (typeLookup (.ref C) "__init__") (some (.ref fI))) (hb : ∀ self, W.Looks (model prog w) h (bindSpecial (.ref fI) self) (.ref fI, [self])) (hrest : rest.length ≤ sizeLine)
    (hq : codeAny (model prog w) (A.under (.builtin "type.__call__" ⟨.ref C :: rest, kws⟩)) (.call (.ref fI) ⟨.ref (h.objs.size + 1) :: rest, kws⟩) (W.InitBack (h.objs.size + 1) R)
      ⟨(h.push (W.kdv_tup rest)).push (excO C h.objs.size), g, d, t, os⟩) :
    codeAny (model prog w) A (.call (.ref C) ⟨rest, kws⟩) R ⟨h, g, d, t, os⟩ := by
  have f1 := tc_lookup
  have f2 := tc_bind (.ref C)
  have hTy : (⟨h, g, d, t, os⟩ : Shared).TypeIs (.ref C) "type" := ⟨_, hC, rfl⟩
  refine codeAny_of_tree ?_
  show wpAny _ _ (callAny (.ref C) _) _ _ _
  repeat (any_goals (first | assumption | with_reducible refine wpAny_loadPart_at hC ?_ | wp_step))
  refine ⟨rfl, ?_⟩
  refine codeAny_call_builtin_at (Code.quiet_builtin _ (by decide +kernel)) entry_typeCall (wpAny_check_type_call_sub hC (tcall_kw F hT hC hi hb hrest ?_))
  refine codeAny_mono hq fun r s' z => ?_
  rcases r with e | (v | _ | _ | _) <;> exact z
end
end OSX
end PySem
namespace OS
open PySem PySem.Spec PyProof.Rows L2
/-- what the top's text says of an own error's class -/
structure ErrT (K : PySem.W.Frag) (C : Addr) : Prop where
  ox : OexC K C
  xf : XfC K C
  ex : ExcC K C
def errB (K : PySem.W.Frag) (C : Addr) : Bool :=
  decide (PySem.W.findIn K (.ref C) "__setattr__" = some (some (.builtin "object.__setattr__"))) && (decide (PySem.W.findIn K (.ref C) "__getattribute__" = some (some (.builtin "BaseException.__getattribute__"))) &&
  (decide (PySem.W.findIn K (.ref C) "__getattr__" = some none) && (decide (PySem.W.subIn K (.ref C) (.type "BaseException") = some true) && (decide (PySem.W.typeIn K (.ref C) = some (.type "type")) &&
  (PySem.W.hasDictIn K C && (PySem.W.keepIn K (.ref C) && (decide (PySem.W.findIn K (.ref C) "__class__" = some (some (.builtin "object.__class__"))) && decide (PySem.W.mroIn K C (.type "object") = some true))))))))
theorem errT_of {K : PySem.W.Frag} {C : Addr} (h : errB K C = true)
    (cls : ∃ nm q N bs bm sn sub ab col dd k0 k1 k2 k3 k5, K.lookup C = some (excClassObj nm q C N bs bm true sn sub ab col dd k0 k1 k2 k3 k5 "ValueError.__new__") ∧ PySem.HandSPX.refsVE bm = true)
    (hn : PySem.W.specialIn K (.builtin "object.__class__") "__get__" = some (some (.builtin "getset_descriptor.__get__"))) (ht : PySem.W.takesIn K (.builtin "object.__class__") = some true) : ErrT K C := by
  unfold errB at h
  simp only [Bool.and_eq_true, decide_eq_true_eq] at h
  obtain ⟨h1, h2, h3, h4, h5, h6, h7, h8, h9⟩ := h
  exact ⟨⟨cls, h1, h4, h5, h7⟩, ⟨h2, h3, h4, h6⟩, ⟨h2, h3, h4, h6, h8, hn, ht, h9⟩⟩
/-- __init__(self, f): self.f = f -/
def spErr (C : Addr) (f : Str) : Sp := fun vs H Q _ => ∃ (a : Addr) (v : V), vs = [.ref a, v] ∧ H a = some (exo a C none) ∧ ∀ dx, H dx = none → dx ≠ a → Q .non (upd (upd H dx (exd dx [(f, v)])) a (exo a C (some dx)))
/-- an error at a of the class at C whose field f holds v -/
structure ErrAt (H : Hp) (C : Addr) (f : Str) (a : Addr) (v : V) : Prop where
  ob : ∃ dx, H a = some (exo a C (some dx)) ∧ H dx = some (exd dx [(f, v)])
/-- .. a new one since H0 -/
structure ErrNew (H0 H : Hp) (C : Addr) (f : Str) (a : Addr) (v : V) : Prop where
  ob : ∃ dx, H0 a = none ∧ H0 dx = none ∧ H a = some (exo a C (some dx)) ∧ H dx = some (exd dx [(f, v)])
theorem ErrNew.err {H0 H : Hp} {C : Addr} {f : Str} {a : Addr} {v : V} (h : ErrNew H0 H C f a v) : ErrAt H C f a v := by
  obtain ⟨dx, _, _, h1, h2⟩ := h
  exact ⟨dx, h1, h2⟩
/-- C(e): a new error -/
def tErr (C : Addr) (f : Str) (t : TA) : TE := fun σ H Q => t σ H fun vs H1 => ∃ v, vs = [v] ∧ ∀ (a : Addr) (H2 : Hp), Same H1 H2 → ErrNew H1 H2 C f a v → Q (.ref a) H2
/-- C(): a new error without a field -/
def tErr0 (C : Addr) : TE := fun _ H Q => ∀ (a : Addr) (H2 : Hp), H a = none → Same H H2 → H2 a = some (ExO (.ref C) a) → Q (.ref a) H2
section
variable {X : Cx} {x : Str} {p pos : Pos} {e : Expr} {es : List Expr} {kws : List Keyword} {t tk : TA} {C fI : Addr} {fd : FuncData} {k : Nat} {ps : List Str} {f : Str}
theorem run_err {pins : List (Addr × Obj)} {σ : L2.St} {H : Hp} {s : Shared} {Q : VK} {us : List Value} {kz : List (Str × Value)} {v : V} {u : Value} (T : ErrT X.K C) (iC : PySem.W.findIn X.K (.ref C) "__init__" = some (some (.ref fI))) (tI : PySem.W.typeIn X.K (.ref fI) = some (.type "function"))
    (F1 : FnOk X.prog X.w X.K X.mg X.base CX0 k fI fd ps (spErr C f)) (hr : Room (k + 1) X.A) (hu : us.length ≤ 1000) (hb : ∀ (s : Shared) (z : Value), X.K.In s.heap → BindsTo s fd ⟨z :: us, kz⟩ (ps.zip [z, u])) (I : Inv X pins σ H s) (rv : RelV v u)
    (h : ∀ (a : Addr) (H2 : Hp), Same H H2 → ErrNew H H2 C f a v → Q (.ref a) H2) : wpAny (model X.prog X.w) X.A (call (.ref C) us kz) (EP X pins σ Q) X.xe s := by
  obtain ⟨nm, q, N, bs, bm, sn, sub, ab, col, dd, k0, k1, k2, k3, k5, hC, hbm⟩ := T.ox.cls
  obtain ⟨hp, g, dr, tk, os⟩ := s
  have hsz : hp.objs.size ≤ hp.objs.size + 1 := Nat.le_succ _
  have hn : H (hp.objs.size + 1) = none := I.hok.fresh hsz
  have kk : ∀ b o, hp.get? b = some o → ((hp.push (PySem.W.kdv_tup us)).push (PySem.HandSPX.excO C hp.objs.size)).get? b = some o := fun b o e => Heap.get?_push_of_some _ (Heap.get?_push_of_some _ e)
  have hget : ((hp.push (PySem.W.kdv_tup us)).push (PySem.HandSPX.excO C hp.objs.size)).get? (hp.objs.size + 1) = some (PySem.HandSPX.excO C hp.objs.size) := by heap_get
  have I2 : Inv X pins σ (upd H (hp.objs.size + 1) (exo (hp.objs.size + 1) C none)) ⟨(hp.push (PySem.W.kdv_tup us)).push (PySem.HandSPX.excO C hp.objs.size), g, dr, tk, os⟩ :=
    I.laid (t' := tk) (a := hp.objs.size + 1) (o := exo (hp.objs.size + 1) C none) (h' := (hp.push (PySem.W.kdv_tup us)).push (PySem.HandSPX.excO C hp.objs.size)) kk hsz (exo_ok hget)
  generalize ea : hp.objs.size + 1 = a at hn hget I2
  have r2 : Vals [V.ref a, v] [Value.ref a, u] := .cons rfl (.cons rv .nil)
  have hq : spErr C f [V.ref a, v] (upd H a (exo a C none)) (fun y H2 => y = .non ∧ Q (.ref a) H2) E0 := by
    refine ⟨a, v, rfl, upd_same, fun dx hdx ne => ⟨rfl, ?_⟩⟩
    have hdx' : H dx = none := by rw [upd_ne ne] at hdx; exact hdx
    refine h a _ (fun b o e => ?_) ⟨dx, hn, hdx', upd_same, by rw [upd_ne ne, upd_same]⟩
    rw [upd_ne (ne_of_none e hn), upd_ne (ne_of_none e hdx'), upd_ne (ne_of_none e hn)]
    exact e
  refine wpAny_call (PySem.OSX.call_kw F.excBase_ValueError (fun Y => PySem.HandSPX.refsVE_contains Y bm hbm) (I.kIn _ _ hC) (PySem.W.looks_findIn I.kIn iC) (fun self => PySem.W.bind_fn I.kIn self tI) (Nat.le_of_lt (small1000 hu)) ?_)
  rw [ea]
  refine codeAny_mono (F1.run _ X.stack _ _ ⟨Value.ref a :: us, kz⟩ [Value.ref a, u] _ _ E0 (hr.make C us kz) (I2.env0.make C us kz) (hb _ _ I2.kIn) r2 hq) fun r s' hq' => ?_
  cases r with
  | error er => exact (show False from hq').elim
  | ok fl =>
    cases fl with
    | ret y =>
      obtain ⟨z, H', I3, rz, ez, q3⟩ := I2.after hq'
      subst ez
      exact ⟨rz, ⟨V.ref a, H', I3, rfl, q3⟩⟩
    | next => exact False.elim hq'
    | brk => exact False.elim hq'
    | cont => exact False.elim hq'
theorem pe_err (T : ErrT X.K C) (iC : PySem.W.findIn X.K (.ref C) "__init__" = some (some (.ref fI))) (tI : PySem.W.typeIn X.K (.ref fI) = some (.type "function")) (F1 : FnOk X.prog X.w X.K X.mg X.base CX0 k fI fd ps (spErr C f)) (hr : Room (k + 1) X.A)
    (hb : Binds X.K fd ps []) (hl : ps.length = 2) (hg : Gl X x) (hm : X.mg x = some (.ref C)) (ha : PA X (e :: es) t) (hdb : (x == ("__debug__" : Str)) = false := by decide)
    (he : starEach (e :: es) X.env = (false, eval e X.env) :: starEach es X.env := by rfl) (hpl : (backTo pos (starEach es X.env)).any (·.1) = false := by rfl) : PE X (.Call (.Name x p) (e :: es) [] pos) (tErr C f t) := by
  refine ⟨fun pins s σ H Q I h => wpAny_Call_Name_kw (ld_glob I hg hm ?_ hdb)⟩
  refine PySem.W.callWith_K (h₀ := X.base) I.ok.mod.kin T.ox.kC (thn (ha.run pos pins s σ H _ I h) fun us s1 ⟨vs, H1, I1, r, v, ev, q⟩ => ⟨I1.kIn, ?_⟩) he hpl
  subst ev
  cases r with
  | cons rv rr =>
    cases rr
    exact run_err (us := [_]) (kz := []) T iC tI F1 hr (show 1 ≤ 1000 by decide) (fun s z hK => hb s [z, _] hK hl.symm) I1 rv q
theorem pe_errK {ks : List Str} (T : ErrT X.K C) (iC : PySem.W.findIn X.K (.ref C) "__init__" = some (some (.ref fI))) (tI : PySem.W.typeIn X.K (.ref fI) = some (.type "function")) (F1 : FnOk X.prog X.w X.K X.mg X.base CX0 k fI fd ps (spErr C f)) (hr : Room (k + 1) X.A)
    (hb : ∀ (s : Shared) (z u : Value), BindsTo s fd ⟨[z], ks.zip [u]⟩ (ps.zip [z, u])) (hg : Gl X x) (hm : X.mg x = some (.ref C)) (hkw : PK X kws tk) (hall : (backToKw pos (keywordEach kws X.env)).all (·.1.isSome) = true := by rfl)
    (hks : (backToKw pos (keywordEach kws X.env)).filterMap (·.1) = ks := by rfl) (hdb : (x == ("__debug__" : Str)) = false := by decide)
    (hpl : ((backTo pos (starEach [] X.env)).any (·.1) || (backToKw pos (keywordEach kws X.env)).any (·.1.isNone)) = false := by rfl) : PE X (.Call (.Name x p) [] kws pos) (tErr C f tk) := by
  refine ⟨fun pins s σ H Q I h => wpAny_Call_Name_kw (ld_glob I hg hm ?_ hdb)⟩
  refine PySem.W.callWith_KW0 (h₀ := X.base) I.ok.mod.kin T.ox.kC hall ?_ hpl
  refine thn (hkw.run pos pins s σ H _ I h) fun ws s2 ⟨zs, H2, I2, rz, v, ev, q2⟩ => ⟨I2.kIn, ?_⟩
  subst ev
  rw [hks]
  cases rz with
  | cons rv rr =>
    cases rr
    exact run_err (us := []) T iC tI F1 hr (by decide) (fun s z _ => hb s z _) I2 rv q2
theorem pe_err0 {bmB : List Value} {B newId initId : String} (F : ExcBaseFacts B newId initId bmB) (q : PySem.W.excIn X.K C bmB newId = true) (kC : PySem.W.keepIn X.K (.ref C) = true) (hg : Gl X x) (hm : X.mg x = some (.ref C))
    (hdb : (x == ("__debug__" : Str)) = false := by decide) : PE X (.Call (.Name x p) [] [] pos) (tErr0 C) := by
  refine ⟨fun pins s σ H Q I h => wpAny_Call_Name_kw (ld_glob I hg hm ?_ hdb)⟩
  refine PySem.W.callWith_K0 I.kIn kC ?_
  obtain ⟨bm, N, nm, qn, bs, hdct, sn, sub, ab, col, dd, k0, k1, k2, k3, k5, mN, hC, hN, hni, T⟩ := exc_obj I.kIn q
  refine wpAny_call_exc_subT F T hC hN hni (fun h' a hm => ?_) (Nat.zero_le _)
  have hn : H a = none := I.hok.gone hm.new
  obtain ⟨t, ht, _, _⟩ := hm.there
  exact ⟨.ref a, upd H a (ExO (.ref C) a), I.laidN hm.keeps hm.new hn (exO_ok ht ⟨rfl, rfl⟩ rfl rfl rfl (show 4 < 6 by decide)), rfl, h a _ hn (same_new hn) upd_same⟩
end
end OS
namespace OS
open PySem PySem.Spec PyProof.Rows L2
/-- e.f, e an error -/
def tErrF (K : PySem.W.Frag) (f : Str) (te : TE) : TE := fun σ H Q => te σ H fun x H1 => ∃ (a C : Addr) (v : V), x = .ref a ∧ ErrT K C ∧ PySem.W.findIn K (.ref C) f = some none ∧ ErrAt H1 C f a v ∧ Q v H1
theorem err_inst {X : Cx} {pins : List (Addr × Obj)} {σ : L2.St} {H : Hp} {s : Shared} {C a : Addr} {f : Str} {v : V} (I : Inv X pins σ H s) (h : ErrAt H C f a v) : ∃ oe od u, PySem.W.InstAt s.heap a oe C (some od) ∧ PySem.W.lookIn f od = some (some u) ∧ RelV v u := by
  obtain ⟨dx, ho, hd⟩ := h
  obtain ⟨t1, e1⟩ := exo_at I.hok ho
  obtain ⟨mA, hns, hr⟩ := exd_at I.hok hd
  obtain ⟨od, h1, h2⟩ := lookIn_ns hns
  have hl : ([(f, v)] : List (Str × V)).lookup f = some v := by simp [List.lookup]
  obtain ⟨u, hu, ru⟩ := RelO.some_of (v := v) (o := mA f) (by rw [← hl]; exact hr f)
  refine ⟨_, od, u, ⟨e1, rfl, rfl, h1⟩, ?_, ru⟩
  rw [h2, hu]
theorem pe_errF {X : Cx} {e : Expr} {te : TE} {pos : Pos} {f : Str} (he : PE X e te) (hb : attributeBase e f X.env (eval e X.env) = eval e X.env := by rfl) : PE X (.Attribute e f pos) (tErrF X.K f te) := by
  refine ⟨fun pins s σ H Q I h => attr_of hb (thn (he.run pins s σ H _ I h) fun u s1 hh => ?_)⟩
  obtain ⟨x, H1, I1, rx, a, C, v, ex, T, hno, ea, q⟩ := hh
  subst ex
  obtain rfl : u = Value.ref a := rx
  obtain ⟨oe, od, y, J, hl, ry⟩ := err_inst I1 ea
  exact HandSPX.exc_get I1.kIn J T.xf.ga T.xf.gg T.xf.exC (PySem.W.findObj_own T.xf.hdC hno rfl hl) (handed_of ry) ⟨v, H1, I1.tok _, ry, q⟩
/-- isinstance(e, c), e an error -/
def rIsErr (K : PySem.W.Frag) : List V → Hp → VK → Prop := fun xs H Q => ∃ (a C : Addr) (c : V) (cv : Value) (b : Bool), xs = [.ref a, c] ∧ ((∃ f v, ErrAt H C f a v) ∨ H a = some (ExO (.ref C) a)) ∧ ErrT K C ∧ ClsV c cv ∧ PySem.W.kitOne K (.ref C) cv = some b ∧ Q (.bl b) H
theorem call_isErr {X : Cx} : CallR X (.builtin "isinstance") (rIsErr X.K) := by
  intro pins s σ H xs us Q I r h
  obtain ⟨a, C, c, cv, b, rfl, hat, T, hc, e, q⟩ := h
  obtain ⟨u1, u2, rfl, r1, r2⟩ := vals2 r
  have e2 := hc.eq r2
  subst e2
  cases (show u1 = Value.ref a from r1)
  obtain ⟨oe, od, J⟩ : ∃ oe od, PySem.W.InstAt s.heap a oe C od := by
    rcases hat with ⟨f, v, hat⟩ | hat
    · obtain ⟨oe, od, u, J, _, _⟩ := err_inst I hat
      exact ⟨oe, some od, J⟩
    · have x : ObjOk X.prog X.w H s.heap a (ExO (.ref C) a) := I.hok a _ hat
      obtain ⟨⟨oe, vs, h1, h2, h3, _⟩, _⟩ := x
      obtain ⟨oc, oda, odd, osl⟩ := oe
      obtain ⟨z1, z2⟩ := h2
      dsimp only at z1 z2 h3
      subst z1 z2 h3
      exact ⟨_, none, h1, rfl, rfl, trivial⟩
  have hcl : (PySem.W.clsIn X.K C).isSome = true := by
    obtain ⟨nm, q, N, bs, bm, sn, sub, ab, col, dd, k0, k1, k2, k3, k5, hC, hbm⟩ := T.ox.cls
    unfold PySem.W.clsIn
    rw [hC]
    rfl
  exact PySem.W.kia_one (PySem.W.kitx_exc hcl T.ex.hg T.ex.hk T.ex.hs T.ex.ha T.ex.hn T.ex.ht T.ex.hm) I.kIn J e (fun z => nomatch z) fun tk => ⟨.bl b, H, I.kept (t' := tk) fun _ _ z => z, rfl, q⟩
end OS
namespace OS
open PySem PySem.Spec PyProof.Rows L2
/-- the classes cs: which is which, all under S and ValueError -/
def pairsB (K : PySem.W.Frag) (cs : List Addr) (S : Addr) : Bool :=
  (List.range cs.length).all fun i => decide (PySem.W.kitOne K (.ref (cs.getD i 0)) (.ref S) = some true) && (decide (PySem.W.kitOne K (.ref (cs.getD i 0)) (.type "ValueError") = some true) &&
    (List.range cs.length).all fun j => decide (PySem.W.kitOne K (.ref (cs.getD i 0)) (.ref (cs.getD j 0)) = some (decide (j = i))))
theorem pairs_at {K : PySem.W.Frag} {cs : List Addr} {S : Addr} (h : pairsB K cs S = true) {i : Nat} (hi : i < cs.length) :
    PySem.W.kitOne K (.ref (cs.getD i 0)) (.ref S) = some true ∧ PySem.W.kitOne K (.ref (cs.getD i 0)) (.type "ValueError") = some true ∧ ∀ j, j < cs.length → PySem.W.kitOne K (.ref (cs.getD i 0)) (.ref (cs.getD j 0)) = some (decide (j = i)) := by
  unfold pairsB at h
  have q := List.all_eq_true.mp h i (List.mem_range.mpr hi)
  simp only [Bool.and_eq_true, decide_eq_true_eq] at q
  exact ⟨q.1, q.2.1, fun j hj => of_decide_eq_true (List.all_eq_true.mp q.2.2 j (List.mem_range.mpr hj))⟩
end OS

set_option Elab.async false
set_option linter.all false
set_option maxRecDepth 100000
set_option maxHeartbeats 4000000
/-! any values, seen as tuples -/
namespace OS
open PySem PySem.Spec PyProof.Rows L2
/-- a value; if it is a tuple, its items -/
inductive Thing (K : PySem.W.Frag) (H : Hp) : V → Option (List V) → Prop
  | flat {v : V} : flatV v = true → Thing K H v none
  | lst {a : Addr} {zs : List V} : SqL K H a zs → Thing K H (.ref a) none
  | dct {a : Addr} {kvs : List (Key × V)} : H a = some (.dK kvs) → Thing K H (.ref a) none
  | tup {a : Addr} {xs : List V} : SqT K H a xs → (∀ v ∈ xs, Itm K H v) → Thing K H (.ref a) (some xs)
theorem Itm.same {K : PySem.W.Frag} {H H' : Hp} {v : V} (h : Itm K H v) (s : Same H H') : Itm K H' v := by
  cases h with
  | flat f => exact .flat f
  | lst q => exact .lst (s.seq q)
  | tup q => exact .tup (s.tupT q)
  | dct q => exact .dct (s _ _ q)
theorem Thing.same {K : PySem.W.Frag} {H H' : Hp} {v : V} {o : Option (List V)} (h : Thing K H v o) (s : Same H H') : Thing K H' v o := by
  cases h with
  | flat f => exact .flat f
  | lst q => exact .lst (s.seq q)
  | dct q => exact .dct (s _ _ q)
  | tup q hi => exact .tup (s.tupT q) fun v hv => (hi v hv).same s
theorem ty_list {K : PySem.W.Frag} {H : Hp} {a : Addr} {xs : List V} (h : SqL K H a xs) : TyX K H (.ref a) (.type "list") := by
  rcases h with (h | ⟨o, h⟩) | ⟨o, its, n, h, c, _⟩
  · exact .base (.lst h)
  · exact .base (.frz h)
  · exact .kList h c
theorem ty_tup {K : PySem.W.Frag} {H : Hp} {a : Addr} {xs : List V} (h : SqT K H a xs) : TyX K H (.ref a) (.type "tuple") := by
  rcases h with (h | ⟨o, h⟩) | ⟨o, its, n, h, c, _⟩
  · exact .base (.tup h)
  · exact .fTuple h
  · exact .kTuple h c
theorem Thing.isT {K : PySem.W.Frag} {H : Hp} {v : V} {o : Option (List V)} (h : Thing K H v o) : ∃ t, TyX K H v t ∧ PySem.W.kitOne K t (.type "tuple") = some o.isSome := by
  cases h with
  | flat f =>
    cases v with
    | non => exact ⟨_, .base .non, by rfl⟩
    | bl b => exact ⟨_, .base (.bl b), by rfl⟩
    | int i => exact ⟨_, .base (.int i), by rfl⟩
    | str z => exact ⟨_, .base (.str z), by rfl⟩
    | _ => exact absurd (show false = true from f) Bool.false_ne_true
  | lst q => exact ⟨_, ty_list q, by rfl⟩
  | dct q => exact ⟨_, .base (.dK q), by rfl⟩
  | tup q _ => exact ⟨_, ty_tup q, by rfl⟩
theorem Thing.emp {K : PySem.W.Frag} {H : Hp} {v : V} {o : Option (List V)} (h : Thing K H v o) : EmpIs K H v (decide (o = some [])) := by
  cases h with
  | flat f =>
    rw [decide_eq_false (fun z => nomatch z)]
    exact .flat f
  | lst q =>
    rw [decide_eq_false (fun z => nomatch z)]
    exact .lst q
  | dct q =>
    rw [decide_eq_false (fun z => nomatch z)]
    exact .dct q
  | @tup a xs q _ =>
    have e : decide (some xs = some ([] : List V)) = xs.isEmpty := by cases xs <;> simp
    rw [e]
    exact .tup q
/-- the value is a group of the persons ps -/
def isGrp (ps : List Str) : Option (List V) → Bool
  | none => false
  | some xs => eqS xs (ps.filter fun n => xs.any (isS n))
theorem any_isS (n : Str) : ∀ g : List Str, (g.map V.str).any (isS n) = decide (n ∈ g)
  | [] => rfl
  | x :: g => by
    rw [List.map_cons, List.any_cons, any_isS n g]
    show ((x == n) || decide (n ∈ g)) = decide (n ∈ x :: g)
    by_cases h1 : x = n
    · subst h1
      simp
    · have h1' : ¬ n = x := fun q => h1 q.symm
      by_cases h2 : n ∈ g <;> simp [h1, h1', h2]
/-- what is a group is a tuple of texts, a part of ps -/
theorem isGrp_iff {ps : List Str} (hp : ps.Nodup) {o : Option (List V)} : isGrp ps o = true ↔ ∃ g : List Str, g.Sublist ps ∧ o = some (g.map V.str) := by
  constructor
  · intro h
    cases o with
    | none => simp [isGrp] at h
    | some xs =>
      have e := eqS_true h
      exact ⟨_, List.filter_sublist, congrArg some e⟩
  · rintro ⟨g, hg, rfl⟩
    show eqS (g.map V.str) (ps.filter fun n => (g.map V.str).any (isS n)) = true
    have e : (ps.filter fun n => (g.map V.str).any (isS n)) = pick ps g := by
      unfold pick
      exact List.filter_congr fun n _ => any_isS n g
    rw [e, eqS_strs, pick_sub hp hg]
    simp
end OS
namespace OS
open PySem PySem.Spec PyProof.Rows L2
/-- what is no list stands apart from one -/
theorem tupT_but {K : PySem.W.Frag} {H H' : Hp} {D a : Addr} {acc xs : List V} (hD : H D = some (.lst acc)) (k : ∀ b o, H b = some o → b ≠ D → H' b = some o) (h : SqT K H a xs) : SqT K H' a xs := by
  rcases h with (h | ⟨o, h⟩) | h
  · exact .inl (.inl (k _ _ h (ne_of h hD fun z => by cases z)))
  · exact .inl (.inr ⟨o, k _ _ h (ne_of h hD fun z => by cases z)⟩)
  · exact .inr h
theorem GrpV.but {K : PySem.W.Frag} {H H' : Hp} {D : Addr} {acc : List V} {x : V} {g : List Str} (hD : H D = some (.lst acc)) (k : ∀ b o, H b = some o → b ≠ D → H' b = some o) (h : GrpV K H x g) : GrpV K H' x g := h.imp fun _ q => ⟨q.1, tupT_but hD k q.2⟩
theorem paired_swap {α β : Type} {F : α → β → Prop} : ∀ {xs : List α} {ys : List β}, Paired F xs ys → Paired (fun y x => F x y) ys xs
  | _, _, .nil => .nil
  | _, _, .cons h t => .cons h (paired_swap t)
theorem paired_map {α β γ : Type} {F : γ → β → Prop} {f : α → γ} : ∀ {xs : List α} {ys : List β}, Paired (fun a b => F (f a) b) xs ys → Paired F (xs.map f) ys
  | _, _, .nil => .nil
  | _, _, .cons h t => .cons h (paired_map t)
theorem paired_app {α β : Type} {F : α → β → Prop} : ∀ {xs xs' : List α} {ys ys' : List β}, Paired F xs ys → Paired F xs' ys' → Paired F (xs ++ xs') (ys ++ ys')
  | _, _, _, _, .nil, h => h
  | _, _, _, _, .cons h t, h' => .cons h (paired_app t h')
end OS
namespace OS
open PySem PySem.Spec PyProof.Rows L2
/-- a walk over a list or a tuple -/
def iSeq (K : PySem.W.Frag) (tl : TE) : TI := fun σ H R => tl σ H fun x H1 => ∃ a, x = .ref a ∧ (((∃ xs, SqL K H1 a xs) ∧ R (Itl K a) H1) ∨ ((∃ xs, SqT K H1 a xs) ∧ R (Itt K a) H1))
theorem pi_seq {X : Cx} {tg l : Expr} {tl : TE} (hl : PE X l tl) : PI X tg l (iSeq X.K tl) := by
  constructor
  intro pins s σ H R I h
  refine thn (hl.run pins s σ H _ I h) fun v s1 q1 => ?_
  obtain ⟨x, H1, I1, r1, a, rfl, q⟩ := q1
  cases r1
  rcases q with ⟨⟨xs, hq⟩, q⟩ | ⟨⟨xs, hq⟩, q⟩
  · obtain ⟨its, rv, p, hz⟩ := I1.list hq
    exact wpAny_pyIter_list p.isList ⟨s1.heap.objs.size, [s1.heap.objs.size], _, _, H1, rfl, I1.kept (t' := s1.toks) fun b o e => Heap.get?_push_of_some _ e, turn_list a _, ⟨_, Heap.get?_push_size _ rfl, rfl, rfl⟩,
      (fun b hb => by rw [List.mem_singleton.mp hb]; exact I1.fpOk (Nat.le_refl _) (I1.hok.fresh (Nat.le_refl _))), q⟩
  · obtain ⟨its, rv, p, hz⟩ := I1.tuple hq
    exact wpAny_pyIter_tuple (show s1.heap.IsTuple a its.toArray from p) ⟨s1.heap.objs.size, [s1.heap.objs.size], _, _, H1, rfl, I1.kept (t' := s1.toks) fun b o e => Heap.get?_push_of_some _ e, turn_tuple a _, ⟨_, Heap.get?_push_size _ rfl, rfl, rfl⟩,
      (fun b hb => by rw [List.mem_singleton.mp hb]; exact I1.fpOk (Nat.le_refl _) (I1.hok.fresh (Nat.le_refl _))), q⟩
end OS

set_option Elab.async false
set_option linter.all false
set_option maxRecDepth 100000
set_option maxHeartbeats 4000000
/-! raise C(e), C an own error that keeps its argument -/
namespace OS
open PySem PySem.Spec PyProof.Rows L2
/-- what follows where an error of the class at C flies whose field f holds v -/
def Flies (Q : XK) (C : Addr) (f : Str) (v : V) (H1 : Hp) : Prop := ∀ (dx : Addr) (H2 : Hp), H1 dx = none → Same H1 H2 → H2 dx = some (.xd [(f, v)]) → Q (.ref C) (some dx) H2
def tRaiseE (C : Addr) (f : Str) (te : TE) : L2.St → Hp → XK → Prop := fun σ H Q => te σ H fun v H1 => Flies Q C f v H1
section
variable {X : Cx} {C fI : Addr} {f x : Str} {fd : FuncData} {ps : List Str} {k : Nat} {e : Expr} {te : TE} {p pos : Pos}
theorem pmk_err (T : ErrT X.K C) (iC : PySem.W.findIn X.K (.ref C) "__init__" = some (some (.ref fI))) (tI : PySem.W.typeIn X.K (.ref fI) = some (.type "function")) (F1 : FnOk X.prog X.w X.K X.mg X.base CX0 k fI fd ps (spErr C f)) (hr : Room (k + 1) X.A)
    (hb : Binds X.K fd ps []) (hg : Gl X x) (hm : X.mg x = some (.ref C)) (he : PE X e te) (hdb : (x == ("__debug__" : Str)) = false := by decide)
    (hst : starEach [e] X.env = (false, eval e X.env) :: starEach [] X.env := by rfl) (hpl : (backTo pos (starEach [] X.env)).any (·.1) = false := by rfl) :
    PMk X (.Call (.Name x p) [e] [] pos) (tRaiseE C f te) := by
  intro pins s σ H Q I h
  refine pmk_oex T.ox iC tI F1 hr hb .nil (fun _ _ _ _ _ _ _ z => z.elim) hg hm (pa_mono (pa_cons he pa_nil hst)) hdb hst hpl pins s σ H Q I ?_
  refine ⟨fun vs H1 => match vs with | [v] => Flies Q C f v H1 | _ => False, h, fun vs H1 q => ?_⟩
  match vs, q with
  | [v], q =>
    refine ⟨by show 1 ≤ 1000; decide, fun a na => ⟨a, v, rfl, upd_same, fun dx h1 h2 => ?_⟩⟩
    have n1 : H1 dx = none := by
      rw [upd_ne h2] at h1
      exact h1
    refine ⟨rfl, dx, [(f, v)], upd_same, by rw [upd_ne h2, upd_same], n1, q dx _ n1 (fun b o hb => ?_) upd_same⟩
    have ba : b ≠ a := ne_of_none hb na
    have bd : b ≠ dx := ne_of_none hb n1
    rw [upd_ne bd, del_ne ba, upd_ne ba, upd_ne bd, upd_ne ba]
    exact hb
/-- C(), C an own error without own __init__ -/
theorem pmk_err0 {bmB : List Value} {B newId initId : String} (F : ExcBaseFacts B newId initId bmB) (q : PySem.W.excIn X.K C bmB newId = true) (kC : PySem.W.keepIn X.K (.ref C) = true) (T : ErrT X.K C) (hg : Gl X x) (hm : X.mg x = some (.ref C))
    (hdb : (x == ("__debug__" : Str)) = false := by decide) : PMk X (.Call (.Name x p) [] [] pos) (fun _ H Q => Q (.ref C) none H) := by
  intro pins s σ H Q I h
  refine wpAny_Call_Name_kw (ld_glob I hg hm (PySem.W.callWith_K0 I.kIn kC ?_) hdb)
  obtain ⟨bm, N, nm, qn, bs, hdct, sn, sub, ab, col, dd, k0, k1, k2, k3, k5, mN, hC, hN, hni, T'⟩ := exc_obj I.kIn q
  exact wpAny_call_exc_subT F T' hC hN hni (fun h' e hm => mk_of I hm (raises_own T.ox.exC T.ox.tyC) h (I.hok.gone hm.new)) (Nat.zero_le _)
end
end OS

set_option Elab.async false
set_option linter.all false
set_option maxRecDepth 100000
set_option maxHeartbeats 4000000
/-! groups pass draws: a tuple is no part of the state -/
namespace OS
open PySem PySem.Spec PyProof.Rows L2
theorem StAt.sep {H : Hp} {p q : Addr} {n : Nat} {o : HO} (S : StAt H p n) (h : H q = some o) (nl : ∀ xs, o ≠ .lst xs) : Sep H p q o := by
  obtain ⟨a, b, zs, ms, S⟩ := S
  refine ⟨h, fun z => ?_⟩
  rw [own_iff S.hp] at z
  rcases z with z | z | z
  · subst z
    exact nl _ (Option.some.inj (h.symm.trans S.hp))
  · subst z
    exact nl _ (Option.some.inj (h.symm.trans S.ha))
  · subst z
    exact nl _ (Option.some.inj (h.symm.trans S.hb))
theorem tupT_nx {K : PySem.W.Frag} {H H' : Hp} {p a : Addr} {n : Nat} {xs : List V} (S : StAt H p n) (x : Nx p H H') (h : SqT K H a xs) : SqT K H' a xs := by
  rcases h with (h | ⟨o, h⟩) | h
  · exact .inl (.inl (x _ _ (S.sep h fun _ z => nomatch z)).at_)
  · exact .inl (.inr ⟨o, (x _ _ (S.sep h fun _ z => nomatch z)).at_⟩)
  · exact .inr h
theorem GrpV.nx {K : PySem.W.Frag} {H H' : Hp} {p : Addr} {n : Nat} {v : V} {g : List Str} (S : StAt H p n) (x : Nx p H H') (h : GrpV K H v g) : GrpV K H' v g := h.imp fun _ q => ⟨q.1, tupT_nx S x q.2⟩
theorem GrpsV.nx {K : PySem.W.Frag} {H H' : Hp} {p : Addr} {n : Nat} {xs : List V} {gs : List (List Str)} (S : StAt H p n) (x : Nx p H H') (h : GrpsV K H xs gs) : GrpsV K H' xs gs := Paired.mapP h fun _ _ q => GrpV.nx S x q
end OS

set_option Elab.async false
set_option linter.all false
set_option maxRecDepth 100000
set_option maxHeartbeats 4000000
/-! enumerate over a list or a tuple -/
namespace OS
open PySem PySem.Spec PyProof.Rows L2
theorem meets_enum_one {v : Value} {o : Obj} {H : Heap → Prop} (B : Begins v o H) :
    Meets (Builtin.«enumerate.__new__» ⟨[.type "enumerate", v], []⟩) (fun _ R s => H s.heap ∧
      R (.ok (.ret (.ref (s.heap.push o).objs.size))) { s with heap := (s.heap.push o).push { cls := .type "enumerate", data := .fields #[.none, .bool false, .ref s.heap.objs.size, rawInt 0, .none, .none] } }) :=
  .of_wp fun prog w A R s h => by
    obtain ⟨hp, g, d, tk, os⟩ := s; obtain ⟨h1, h⟩ := h
    have hsub := sub_enumerate
    have q1 : ∀ {A' : Around} {E : Value → Shared → Prop} {Q : Value → Shared → Prop}, Q (.ref hp.objs.size) ⟨hp.push o, g, d, tk, os⟩ → wpAny (model prog w) A' (pyIter v) Q E ⟨hp, g, d, tk, os⟩ :=
      fun q => B.iter prog w _ _ ⟨hp, g, d, tk, os⟩ _ h1 q
    wp_walk using q1
    refine wpAny_stack_any fun st => wpAny_pure ?_
    split
    · rename_i c _ _ _ _ _
      cases (c == Value.type "enumerate")
      · wp_walk using q1
        exact ⟨_, rfl, h⟩
      · wp_walk using q1
        exact ⟨_, rfl, h⟩
    · wp_walk using q1
      exact ⟨_, rfl, h⟩
theorem enum_one {prog : Program} {w : World} {A : Around} {E : Value → Shared → Prop} {s : Shared} {v : Value} {o : Obj} {H : Heap → Prop} {Q : Value → Shared → Prop} (B : Begins v o H) (h1 : H s.heap)
    (h : ∀ h', IsEnum h' (s.heap.objs.size + 1) s.heap.objs.size 0 .none → h'.get? s.heap.objs.size = some o → h'.objs.size = s.heap.objs.size + 2 →
      (∀ b o, s.heap.get? b = some o → h'.get? b = some o) → Q (.ref (s.heap.objs.size + 1)) { s with heap := h' }) :
    wpAny (model prog w) A (call (.type "enumerate") [v]) Q E s := by
  refine callType_new F.called_enumerate (by decide) (F.typeCall_enumerate_1 _) (F.newCall_enumerate_1 _) (fun obj => F.args_object_init_2 obj _) F.entry_enumerate_new
    (meets_enum_one B) ⟨h1, ?_⟩
  have hz : (s.heap.push o).objs.size = s.heap.objs.size + 1 := Heap.size_push ..
  show _ ∧ _
  rw [hz]
  have he : IsEnum ((s.heap.push o).push { cls := .type "enumerate", data := .fields #[.none, .bool false, .ref s.heap.objs.size, rawInt 0, .none, .none] }) (s.heap.objs.size + 1) s.heap.objs.size 0 .none := by
    have := Heap.get?_push_size (s.heap.push o) (o := { cls := .type "enumerate", data := .fields #[.none, .bool false, .ref s.heap.objs.size, rawInt 0, .none, .none] }) rfl
    rw [hz] at this; exact this
  refine ⟨⟨_, he, rfl⟩, h _ he (Heap.get?_push_of_some _ (Heap.get?_push_size _ B.free)) (by rw [Heap.size_push, hz]) fun b o x => Heap.get?_push_of_some _ (Heap.get?_push_of_some _ x)⟩
/-- the tuple at a, each item in a new pair -/
def Itet (K : PySem.W.Frag) (a : Addr) : It :=
  ⟨fun i H => ∃ (xs : List V) (x : V), SqT K H a xs ∧ xs[i]? = some x, fun i H v H' => ∃ T x, v = .ref T ∧ H T = none ∧ H' = upd H T (.tup [.int (i : Nat), x]) ∧ ∀ xs, SqT K H a xs → xs[i]? = some x, fun i H => ∃ xs : List V, SqT K H a xs ∧ xs.length ≤ i⟩
theorem walk_enumT {K : PySem.W.Frag} {a : Addr} {xs : List V} : Walk (Itet K a) xs.length (fun H => SqT K H a xs) (YPair (fun i => some (.int (i : Nat))) (fun i => xs[i]?)) :=
  ⟨fun i _ hi q => ⟨xs, xs[i], q, by simp [hi]⟩, fun _ q => ⟨xs, q, Nat.le_refl _⟩, fun i H v H' _ q ⟨T, x, h1, h2, h3, h4⟩ => ⟨T, .int (i : Nat), x, h1, h2, h3, rfl, h4 xs q⟩⟩
theorem tup_ne_enum {s : Shared} {a e it : Addr} {its : Array Value} {i : Int} {old : Value} (p : s.heap.IsTuple a its) (he : IsEnum s.heap e it i old) : e ≠ a := by
  intro z
  subst z
  obtain ⟨o, ho, hc, _⟩ := p
  rw [show s.heap.get? e = _ from he] at ho
  obtain rfl := Option.some.inj ho
  have h2 : (Value.type "enumerate") = Value.type "tuple" := hc
  injection h2 with h3
  exact absurd h3 (by decide)
theorem tup_ne_iter {s : Shared} {a it b : Addr} {its : Array Value} {i : Nat} (p : s.heap.IsTuple a its) (hi : s.heap.IsTupleIter it b i) : a ≠ it := by
  intro z
  subst z
  obtain ⟨o, ho, hc, _⟩ := p
  obtain ⟨o', ho', hc', _⟩ := hi
  obtain rfl := Option.some.inj (ho.symm.trans ho')
  have h2 : (Value.type "tuple") = Value.type "tuple_iterator" := hc.symm.trans hc'
  injection h2 with h3
  exact absurd h3 (by decide)
theorem wpAny_pyNext_enum_endT {prog : Program} {w : World} {A : Around} {E : Value → Shared → Prop} {s : Shared} {e it l : Addr} {i : Nat} {items : Array Value} {old : Value} {Q : Option Value → Shared → Prop} (hh : A.handled = none)
    (he : IsEnum s.heap e it i old) (hit : s.heap.IsTupleIter it l i) (hl : s.heap.IsTuple l items) (hx : items[i]? = none)
    (hQ : ∀ h', Heap.ExtBut it s.heap h' → Q none { s with heap := h' }) : wpAny (model prog w) A (pyNext (.ref e)) Q E s := by
  have hT : s.TypeIs (.ref e) "enumerate" := ⟨_, he, rfl⟩
  unfold pyNext
  refine wpAny_bind (wpAny_attempt (wpAny_callSpecial?_slot (name := Str.ofString "__next__") hT F.slot_enumerate_next
    (wpAny_call_entry F.slot_enumerate_next hT F.entry_enumerate_next ?_ (F.args_enumerate_next_1 _))))
  show wpAny _ _ (field (.ref e) 2 >>= _) _ _ _
  refine wpAny_bind (wpAny_field he rfl (x := .ref it) rfl ?_)
  refine wpAny_bind (wpAny_nextOf_tuple_end hh hit hl hx fun h' x he' hx' => ?_)
  obtain ⟨o, ho, hc⟩ := hx'
  refine wpAny_bind (wpAny_isInstance (T := "StopIteration") (b := true) ⟨o, ho, hc⟩ isSubtype_stop ?_)
  exact wpAny_pure (hQ _ he')
theorem turn_enumT {P : Program} {w : World} {K : PySem.W.Frag} {elts : List Expr} {kk : Nat} {tpos : Pos} (a e it : Addr) :
    Turn P w K (.Tuple elts kk tpos) (Itet K a) [e, it] e (fun i h => (∃ old, IsEnum h e it ((i : Nat) : Int) old) ∧ h.IsTupleIter it a i ∧ e ≠ it) where
  mem := by simp
  obj := fun i h st b hb => by
    obtain ⟨⟨old, he⟩, ⟨o, ho, hc, hd⟩, _⟩ := st
    have e' : b = e ∨ b = it := by simpa using hb
    rcases e' with z | z
    · rw [z]; exact ⟨_, he, fun v q => nomatch q⟩
    · rw [z]; exact ⟨o, ho, fun v q => by rw [hd] at q; cases q⟩
  keep := fun i h h' st k => let ⟨⟨old, he⟩, hi, hne⟩ := st; ⟨⟨old, k e (by simp) _ he⟩, hi.at fun o q => k it (by simp) o q, hne⟩
  item := by
    intro X hP hw hK hc i pins s σ H E I hf st hg
    subst hP hw hK
    obtain ⟨⟨old, he⟩, hit, hne⟩ := st
    obtain ⟨xs, x, hq, hx⟩ := hg
    obtain ⟨its, rv, p, hz⟩ := I.tuple hq
    obtain ⟨u, hu, ru⟩ := rv.get hx
    have pt : s.heap.IsTuple a its.toArray := p
    have hel : e < s.heap.objs.size := Heap.lt_size he
    have hil : it < s.heap.objs.size := by obtain ⟨_, q, _⟩ := hit; exact Heap.lt_size q
    have hi : i < its.toArray.size := by
      have := (List.getElem?_eq_some_iff.mp hu).1
      simpa using this
    have hh : X.A.in1.handled = none := I.ok.hd hc
    refine wpAny_pyNext_enum_itemD (D := Draws.tuple hh it a (tup_ne_iter pt hit) its.toArray) he ⟨hit, pt⟩ hi hne (by simp [hne, tup_ne_enum pt he]) fun u' h' tk hP ho hst' hT hsz hk => ?_
    have hu' : u' = u := by
      have h3 : its.toArray[i]? = some u' := hP
      rw [List.getElem?_toArray, hu] at h3
      exact (Option.some.inj h3).symm
    subst hu'
    obtain ⟨hit', pt'⟩ := hst'
    refine ⟨_, rfl, wpAny_letOwnedTupleGo_enum (s := { s with heap := h', toks := tk + 1 }) ho fun h'' he' sb => ?_⟩
    have hT2 : h''.get? s.heap.objs.size = some { cls := .type "tuple", data := .seq #[.int i tk, u'] } := (sb.2 _ (Nat.ne_of_gt hel)).trans hT
    have new : ObjOk X.prog X.w (upd H s.heap.objs.size (.tup [.int (i : Nat), x])) h'' s.heap.objs.size (.tup [.int (i : Nat), x]) :=
      ⟨by show 2 ≤ sizeLine; decide, [.int i tk, u'], .cons ⟨_, rfl⟩ (.cons ru .nil), ⟨_, hT2, rfl, _, rfl⟩⟩
    have I1 : Inv X pins σ (upd H s.heap.objs.size (.tup [.int (i : Nat), x])) { s with heap := h'', toks := tk + 1 } :=
      I.turnedNew (ch := [e, it]) (fun b ob hb q => (sb.2 b (fun z => hb (by simp [z]))).trans (hk b ob (fun z => hb (by simp [z])) (fun z => hb (by simp [z])) q)) hf (Nat.le_refl _) new
    refine ⟨.ref s.heap.objs.size, _, I1, rfl, ⟨_, x, rfl, I.hok.fresh (Nat.le_refl _), rfl, fun ys hy => by rw [I.tuple_inj hy hq]; exact hx⟩, ⟨⟨u', ?_⟩, hit'.at fun o q => (sb.2 it (Ne.symm hne)).trans q, hne⟩, fun b hb => ?_⟩
    · have e1 : ((i + 1 : Nat) : Int) = (i : Int) + 1 := by omega
      rw [e1]; exact he'
    · have hb' : b < s.heap.objs.size := by
        have e' : b = e ∨ b = it := by simpa using hb
        rcases e' with z | z
        · rw [z]; exact hel
        · rw [z]; exact hil
      rw [upd_ne (Nat.ne_of_lt hb')]
      exact (hf b hb).1
  done := by
    intro X hP hw hK hc i pins s σ H E I hf st hg
    subst hP hw hK
    obtain ⟨⟨old, he⟩, hit, hne⟩ := st
    obtain ⟨xs, hq, hx⟩ := hg
    obtain ⟨its, rv, p, hz⟩ := I.tuple hq
    obtain ⟨f0, f1, f2, f3, f4, f5⟩ := hf it (by simp)
    have hl := rv.length
    have pt : s.heap.IsTuple a its.toArray := p
    refine wpAny_pyNext_enum_endT (I.ok.hd hc) he hit pt (by simp; omega) fun h' eb => ⟨rfl, I.turned (t' := s.toks) (fun b o hb q => eb b o hb q) f0 f1 f3 f4 f5⟩
  self := fun A i s Q E st h => let ⟨⟨_, he⟩, _⟩ := st; wpAny_pyIter_enum he h
/-- enumerate(xs), xs a list or a tuple -/
def iEnumS (K : PySem.W.Frag) (ta : TA) : TI := fun σ H R => ta σ H fun vs H1 => ∃ a, vs = [.ref a] ∧ (((∃ xs, SqL K H1 a xs) ∧ R (Ite K a) H1) ∨ ((∃ xs, SqT K H1 a xs) ∧ R (Itet K a) H1))
theorem pi_enumS {X : Cx} {e : Expr} {ta : TA} {p pos tpos : Pos} {elts : List Expr} {kk : Nat} (hg : Gl X "enumerate") (hm : X.mg "enumerate" = none) (ha : PA X [e] ta) (hs : starEach [e] X.env = [(false, eval e X.env)] := by rfl) :
    PI X (.Tuple elts kk tpos) (.Call (.Name "enumerate" p) [e] [] pos) (iEnumS X.K ta) := by
  refine ⟨fun pins s σ H R I h => ?_⟩
  refine Call_ (ld_blt I hg hm boot_enumerate (PyProof.Rows.callWith_type1 (thn (ha.run pos pins s σ H _ I h) fun us s1 ⟨vs, H1, I1, r1, q1⟩ => ?_) hs rfl))
  obtain ⟨a, ex, q⟩ := q1
  subst ex
  cases r1 with
  | cons r rr =>
    cases rr
    cases r
    have apart : ∀ b ∈ [s1.heap.objs.size + 1, s1.heap.objs.size], s1.heap.objs.size ≤ b := fun b hb => by
      have e' : b = s1.heap.objs.size + 1 ∨ b = s1.heap.objs.size := by simpa using hb
      rcases e' with z | z
      · rw [z]; exact Nat.le_add_right _ _
      · rw [z]; exact Nat.le_refl _
    rcases q with ⟨⟨xs, hq⟩, q⟩ | ⟨⟨xs, hq⟩, q⟩
    · obtain ⟨its, rv, p', hz⟩ := I1.list hq
      refine call_enumerate_list p'.isList fun h' he hit hsz hk => wpAny_pyIter_enum he ?_
      have I2 : Inv X pins σ H1 { s1 with heap := h' } := I1.kept (t' := s1.toks) hk
      exact ⟨s1.heap.objs.size + 1, [s1.heap.objs.size + 1, s1.heap.objs.size], _, _, H1, rfl, I2, turn_enum a (s1.heap.objs.size + 1) s1.heap.objs.size, ⟨⟨.none, he⟩, hit, Nat.succ_ne_self _⟩, fun b hb => I1.fpOk (apart b hb) (I1.hok.fresh (apart b hb)), q⟩
    · obtain ⟨its, rv, p', hz⟩ := I1.tuple hq
      have pt : s1.heap.IsTuple a its.toArray := p'
      refine enum_one (begins_tuple a its.toArray) pt fun h' he hit hsz hk => wpAny_pyIter_enum he ?_
      have I2 : Inv X pins σ H1 { s1 with heap := h' } := I1.kept (t' := s1.toks) hk
      exact ⟨s1.heap.objs.size + 1, [s1.heap.objs.size + 1, s1.heap.objs.size], _, _, H1, rfl, I2, turn_enumT a (s1.heap.objs.size + 1) s1.heap.objs.size, ⟨⟨.none, he⟩, ⟨_, hit, rfl, rfl⟩, Nat.succ_ne_self _⟩, fun b hb => I1.fpOk (apart b hb) (I1.hok.fresh (apart b hb)), q⟩
/-- t[lo:hi], t a list or a tuple -/
theorem sl_seqO {X : Cx} : SlR X (fun x lo hi H Q => rSlLO X.K x lo hi H Q ∨ rSlTO X.K x lo hi H Q) := SlR.or sl_listO sl_tupO
end OS

set_option Elab.async false
set_option linter.all false
set_option maxRecDepth 100000
set_option maxHeartbeats 4000000
/-! calls of a class, a classmethod, a method: within a try, by keywords, by a local name -/
namespace OS
open PySem PySem.Spec PyProof.Rows L2 ClX
/-! ### what may fly is told at the slots -/
def tMakeS (C : Addr) (sp : Sp) (E : L2.St → XK) (t : TA) : TE := fun σ H Q => t σ H fun vs H1 => ∀ x dx, H1 x = none → H1 dx = none → dx ≠ x →
  sp (.ref x :: vs) (upd (upd H1 dx (.own x)) x (.ins C dx [])) (fun v H2 => v = .non ∧ Q (.ref x) H2) (E σ)
def tMethSx (C : Addr) (m : Str) (sp : Sp) (E : L2.St → XK) (ta : TE) (t : TA) : TE := fun σ H Q => ta σ H fun x H1 => ∃ a dx fs, x = .ref a ∧ H1 a = some (.ins C dx fs) ∧ fs.lookup m = none ∧ t σ H1 fun vs H2 => sp (x :: vs) H2 Q (E σ)
def tCMethS (C : Addr) (sp : Sp) (E : L2.St → XK) (ta : TE) (t : TA) : TE := fun σ H Q => ta σ H fun x H1 => x = .ref C ∧ t σ H1 fun vs H2 => sp (.ref C :: vs) H2 Q (E σ)
section
variable {X : Cx} {CX : CXT} {k : Nat} {f C p g : Addr} {mc : Value} {fd : FuncData} {ps : List Str} {sp : Sp} {E : L2.St → XK} {E1 : XK} {x m : Str} {q pos apos : Pos} {e o : Expr} {es : List Expr} {ta : TE} {t tk : TA} {pl : Sem Bool} {kws : List Keyword} {ks : List Str}
theorem at_of (hx : Passes CX X E1) (σ : L2.St) : PassesAt CX X σ E1 := fun pins H s e s' I c => hx pins σ H s e s' I c
theorem run_makeS {pins : List (Addr × Obj)} {σ : L2.St} {H : Hp} {s : Shared} {Q : VK} {us : List Value} {vs : List V} (M : Mk X.K C f) (F : FnOk X.prog X.w X.K X.mg X.base CX k f fd ps sp) (hr : Room (k + 1) X.A) (hb : Binds X.K fd ps [])
    (hx : PassesAt CX X σ (E σ)) (I : Inv X pins σ H s) (r : Vals vs us)
    (h : ∀ x dx, H x = none → H dx = none → dx ≠ x → sp (.ref x :: vs) (upd (upd H dx (.own x)) x (.ins C dx [])) (fun v H2 => v = .non ∧ Q (.ref x) H2) (E σ)) :
    wpAny (model X.prog X.w) X.A (call (.ref C) us) (EP X pins σ Q) X.xe s := by
  have hq := h (s.heap.objs.size + 1) s.heap.objs.size (I.hok.fresh (Nat.le_succ _)) (I.hok.fresh (Nat.le_refl _)) (Nat.ne_of_lt (Nat.lt_succ_self _))
  have I2 := Inv.made (C := C) I
  have r2 : Vals (V.ref (s.heap.objs.size + 1) :: vs) (Value.ref (s.heap.objs.size + 1) :: us) := .cons rfl r
  have hl : (Value.ref (s.heap.objs.size + 1) :: us ++ []).length = ps.length := by
    have e := r2.length
    rw [F.len _ _ _ _ hq] at e
    rw [List.append_nil]
    exact e.symm
  have b := hb _ (Value.ref (s.heap.objs.size + 1) :: us) I2.kIn hl
  rw [List.append_nil] at b
  refine wpAny_call (make_map (f := f) I.kIn M.makes M.init (beq_iff_eq.mp M.fn) (codeAny_mono (F.run _ X.stack _ _ ⟨Value.ref (s.heap.objs.size + 1) :: us, []⟩ (Value.ref (s.heap.objs.size + 1) :: us) _ _ (E σ) (hr.make C us [])
    (I2.env0.make C us []) b r2 hq) fun r s' hq' => ?_))
  cases r with
  | error e => exact hx pins _ _ e s' I2 hq'
  | ok fl =>
    cases fl with
    | ret u =>
      obtain ⟨v, H', I3, rv, ev, q3⟩ := I2.after hq'
      subst ev
      exact ⟨rv, ⟨V.ref (s.heap.objs.size + 1), H', I3, rfl, q3⟩⟩
    | next => exact False.elim hq'
    | brk => exact False.elim hq'
    | cont => exact False.elim hq'
theorem pe_makeS (M : Mk X.K C f) (F : FnOk X.prog X.w X.K X.mg X.base CX k f fd ps sp) (hr : Room (k + 1) X.A) (hg : Gl X x) (hm : X.mg x = some (.ref C)) (hb : Binds X.K fd ps []) (hx : ∀ σ, PassesAt CX X σ (E σ))
    (ha : PA X (e :: es) t) (hdb : (x == ("__debug__" : Str)) = false := by decide) (he : starEach (e :: es) X.env = (false, eval e X.env) :: starEach es X.env := by rfl) (hpl : (backTo pos (starEach es X.env)).any (·.1) = false := by rfl) :
    PE X (.Call (.Name x q) (e :: es) [] pos) (tMakeS C sp E t) := by
  refine ⟨fun pins s σ H Q I h => ?_⟩
  refine wpAny_Call_Name_kw (ld_glob I hg hm ?_ hdb)
  refine PySem.W.callWith_K (h₀ := X.base) I.ok.mod.kin M.kp (thn (ha.run pos pins s σ H _ I h) fun us s1 ⟨vs, H1, I1, r, q⟩ => ⟨I1.kIn, ?_⟩) he hpl
  exact run_makeS M F hr hb (hx σ) I1 r q
/-- x(e, ..) where the name x of the def holds the class -/
def tMakeL (C : Addr) (i : Nat) (sp : Sp) (E : L2.St → XK) (t : TA) : TE := fun σ H Q => σ[i]? = some (some (.ref C)) ∧ tMakeS C sp E t σ H Q
theorem pe_makeL {i : Nat} (M : Mk X.K C f) (F : FnOk X.prog X.w X.K X.mg X.base CX k f fd ps sp) (hr : Room (k + 1) X.A) (hN : X.N[i]? = some x) (hv : Vis X.env.scope x) (hb : Binds X.K fd ps []) (hx : ∀ σ, PassesAt CX X σ (E σ))
    (ha : PA X (e :: es) t) (hdb : (x == ("__debug__" : Str)) = false := by decide) (hcd : (x == ("__classdict__" : Str)) = false := by decide) (he : starEach (e :: es) X.env = (false, eval e X.env) :: starEach es X.env := by rfl) (hpl : (backTo pos (starEach es X.env)).any (·.1) = false := by rfl) :
    PE X (.Call (.Name x q) (e :: es) [] pos) (tMakeL C i sp E t) := by
  refine ⟨fun pins s σ H Q I h => ?_⟩
  obtain ⟨hs, ht⟩ := h
  refine wpAny_Call_Name_kw (thn ((pe_var (pos := q) hN hv hdb hcd).run pins s σ H (fun v H1 => v = .ref C ∧ H1 = H) I ⟨.ref C, hs, rfl, rfl⟩) fun u s1 ⟨v, H1, I1, r1, q1⟩ => ?_)
  obtain ⟨rfl, rfl⟩ := q1
  cases r1
  refine PySem.W.callWith_K (h₀ := X.base) I.ok.mod.kin M.kp (thn (ha.run pos pins s1 σ _ _ I1 ht) fun us s2 ⟨vs, H2, I2, r, q⟩ => ⟨I2.kIn, ?_⟩) he hpl
  exact run_makeS M F hr hb (hx σ) I2 r q
theorem pe_methSx (he : PE X o ta) (c : Cls X.K C) (hm : Meth X.K C m f) (F : FnOk X.prog X.w X.K X.mg X.base CX k f fd ps sp) (hr : Room k X.A) (hb : Binds X.K fd ps []) (hx : ∀ σ, PassesAt CX X σ (E σ)) (ha : PA X (e :: es) t)
    (hst : starEach (e :: es) X.env = (false, eval e X.env) :: starEach es X.env := by rfl) (hpl : (backTo pos (starEach es X.env)).any (·.1) = false := by rfl)
    (ht : eval (.Call (.Attribute o m apos) (e :: es) [] pos) X.env = (do
      let ov ← eval o X.env
      standAt apos.atName
      let (f, first) ← holding [ov] (getMethod ov m pl)
      callWith pos f first (backTo pos (starEach (e :: es) X.env)) (backToKw pos (keywordEach [] X.env))) := by rfl) :
    PE X (.Call (.Attribute o m apos) (e :: es) [] pos) (tMethSx C m sp E ta t) := by
  refine ⟨fun pins s σ H Q I h => ?_⟩
  refine PySem.W.methodCall_KW (pl := pl) (thn (he.run pins s σ H _ I h) fun u s1 ⟨x, H1, I1, rx, a, dx, fs, ex, ea, l, q⟩ => ?_) ht
  subst ex
  obtain rfl : u = Value.ref a := rx
  refine getmeth_ok I1 ea c hm l ?_
  refine PySem.W.callWith_K (first := [.ref a]) (h₀ := X.base) I.ok.mod.kin hm.kp (thn (ha.run pos pins s1 σ H1 _ I1 q) fun us s2 ⟨vs, H2, I2, r, q2⟩ => ⟨I2.kIn, ?_⟩) hst hpl
  exact run_fnS (us := .ref a :: us) (vs := .ref a :: vs) F hr hb (hx σ) I2 (.cons rfl r) q2
theorem run_fnRS {pins : List (Addr × Obj)} {σ : L2.St} {H : Hp} {s : Shared} {Q : VK} {us : List Value} {vs : List V} {kz : List (Str × Value)} {zs : List Value} (F : FnOk X.prog X.w X.K X.mg X.base CX k f fd ps sp) (hr : Room k X.A) (hx : PassesAt CX X σ E1) (I : Inv X pins σ H s)
    (b : BindsTo s fd ⟨us, kz⟩ (ps.zip zs)) (r : Vals vs zs) (h : sp vs H Q E1) :
    codeAny (model X.prog X.w) X.A (.call (.ref f) ⟨us, kz⟩) (fun r s' => match r with | .ok (.ret v) => EP X pins σ Q v s' | .ok _ => False | .error e => X.xe e s') s := by
  refine codeAny_mono (F.run X.A X.stack s H ⟨us, kz⟩ zs vs Q E1 hr I.env0 b r h) fun r s' hq => ?_
  cases r with
  | error e => exact hx pins H s e s' I hq
  | ok fl =>
    cases fl with
    | ret u => exact I.after hq
    | next => exact False.elim hq
    | brk => exact False.elim hq
    | cont => exact False.elim hq
theorem pe_cmethS (he : PE X o ta) (r : CRead X.K C mc) (c : CMet X.K C mc m p g) (F : FnOk X.prog X.w X.K X.mg X.base CX k g fd ps sp) (hr : Room k X.A) (hb : Binds X.K fd ps []) (hx : ∀ σ, PassesAt CX X σ (E σ)) (ha : PA X (e :: es) t)
    (hst : starEach (e :: es) X.env = (false, eval e X.env) :: starEach es X.env := by rfl) (hpl : (backTo pos (starEach es X.env)).any (·.1) = false := by rfl)
    (ht : eval (.Call (.Attribute o m apos) (e :: es) [] pos) X.env = (do
      let ov ← eval o X.env
      standAt apos.atName
      let (f, first) ← holding [ov] (getMethod ov m pl)
      callWith pos f first (backTo pos (starEach (e :: es) X.env)) (backToKw pos (keywordEach [] X.env))) := by rfl) :
    PE X (.Call (.Attribute o m apos) (e :: es) [] pos) (tCMethS C sp E ta t) := by
  refine ⟨fun pins s σ H Q I h => ?_⟩
  refine PySem.W.methodCall_KW (pl := pl) (thn (he.run pins s σ H _ I h) fun u s1 ⟨x, H1, I1, rx, ex, q⟩ => ?_) ht
  subst ex
  obtain rfl : u = Value.ref C := rx
  refine getmethcm_ok I1 r c fun s2 I2 => ?_
  refine callwith_cm I2 (base_none I1 (Nat.le_refl _)) c.fi (thn (ha.run pos _ s2 σ H1 _ I2 q) fun us s3 ⟨vs, H2, I3, rv, q2⟩ => ⟨⟨pin_at I3, I3.kIn⟩, ?_⟩) hst hpl
  have hl : (Value.ref C :: us ++ []).length = ps.length := by
    rw [List.append_nil, List.length_cons, ← rv.length]
    exact F.len _ _ _ _ q2
  have b := hb s3 (Value.ref C :: us) I3.kIn hl
  rw [List.append_nil] at b
  have z := wpAny_call (PySem.W.method_call (pin_at I3) (run_fnRS (vs := .ref C :: vs) F hr (hx σ) I3 b (.cons rfl rv) q2))
  exact thn z fun _ _ y => unpinE y
/-! ### by keywords alone -/
/-- o.m(k = v, ..) -/
def tMethK (C : Addr) (m : Str) (n : Nat) (sp : Sp) (gV : List V → List V → List V) (E : XK) (ta : TE) (tk : TA) : TE := fun σ H Q => ta σ H fun x H1 => ∃ a dx fs, x = .ref a ∧ H1 a = some (.ins C dx fs) ∧ fs.lookup m = none ∧ tk σ H1 fun zs H2 => zs.length = n ∧ sp (gV [x] zs) H2 Q E
variable {gg : List Value → List Value → List Value} {gV : List V → List V → List V}
theorem pe_methK0 (he : PE X o ta) (c : Cls X.K C) (hm : Meth X.K C m f) (F : FnOk X.prog X.w X.K X.mg X.base CX k f fd ps sp) (hr : Room k X.A) (hb : KBn X.K fd ps 1 ks gg gV) (hx : Passes CX X E1) (hkw : PK X kws tk)
    (hall : (backToKw pos (keywordEach kws X.env)).all (·.1.isSome) = true := by rfl) (hks : (backToKw pos (keywordEach kws X.env)).filterMap (·.1) = ks := by rfl)
    (hpl : ((backTo pos (starEach [] X.env)).any (·.1) || (backToKw pos (keywordEach kws X.env)).any (·.1.isNone)) = false := by rfl)
    (ht : eval (.Call (.Attribute o m apos) [] kws pos) X.env = (do
      let ov ← eval o X.env
      standAt apos.atName
      let (f, first) ← holding [ov] (getMethod ov m pl)
      callWith pos f first (backTo pos (starEach [] X.env)) (backToKw pos (keywordEach kws X.env))) := by rfl) :
    PE X (.Call (.Attribute o m apos) [] kws pos) (tMethK C m ks.length sp gV E1 ta tk) := by
  refine ⟨fun pins s σ H Q I h => ?_⟩
  refine PySem.W.methodCall_KW (pl := pl) (thn (he.run pins s σ H _ I h) fun u s1 ⟨x, H1, I1, rx, a, dx, fs, ex, ea, l, q⟩ => ?_) ht
  subst ex
  obtain rfl : u = Value.ref a := rx
  refine getmeth_ok I1 ea c hm l ?_
  refine PySem.W.callWith_KW0 (first := [.ref a]) (h₀ := X.base) I.ok.mod.kin hm.kp hall ?_ hpl
  refine thn (hkw.run pos pins s1 σ H1 _ I1 q) fun ws s2 ⟨zs, H2, I2, rz, lz, q2⟩ => ⟨I2.kIn, ?_⟩
  rw [hks]
  have r1 : Vals [V.ref a] [Value.ref a] := .cons rfl .nil
  exact wpAny_call (run_fnRS F hr (at_of hx σ) I2 (hb.to s2 [Value.ref a] ws I2.kIn rfl (rz.length.symm.trans lz)) (hb.rel r1 rz) q2)
/-- C.m(k = v, ..), a classmethod -/
def tCMethK (C : Addr) (n : Nat) (sp : Sp) (gV : List V → List V → List V) (E : XK) (ta : TE) (tk : TA) : TE := fun σ H Q => ta σ H fun x H1 => x = .ref C ∧ tk σ H1 fun zs H2 => zs.length = n ∧ sp (gV [.ref C] zs) H2 Q E
theorem pe_cmethK0 (he : PE X o ta) (r : CRead X.K C mc) (c : CMet X.K C mc m p g) (F : FnOk X.prog X.w X.K X.mg X.base CX k g fd ps sp) (hr : Room k X.A) (hb : KBn X.K fd ps 1 ks gg gV) (hx : Passes CX X E1) (hkw : PK X kws tk)
    (hall : (backToKw pos (keywordEach kws X.env)).all (·.1.isSome) = true := by rfl) (hks : (backToKw pos (keywordEach kws X.env)).filterMap (·.1) = ks := by rfl)
    (hpl : ((backTo pos (starEach [] X.env)).any (·.1) || (backToKw pos (keywordEach kws X.env)).any (·.1.isNone)) = false := by rfl)
    (ht : eval (.Call (.Attribute o m apos) [] kws pos) X.env = (do
      let ov ← eval o X.env
      standAt apos.atName
      let (f, first) ← holding [ov] (getMethod ov m pl)
      callWith pos f first (backTo pos (starEach [] X.env)) (backToKw pos (keywordEach kws X.env))) := by rfl) :
    PE X (.Call (.Attribute o m apos) [] kws pos) (tCMethK C ks.length sp gV E1 ta tk) := by
  refine ⟨fun pins s σ H Q I h => ?_⟩
  refine PySem.W.methodCall_KW (pl := pl) (thn (he.run pins s σ H _ I h) fun u s1 ⟨x, H1, I1, rx, ex, q⟩ => ?_) ht
  subst ex
  obtain rfl : u = Value.ref C := rx
  refine getmethcm_ok I1 r c fun s2 I2 => ?_
  refine PySem.W.callWith_of hpl (PySem.W.keeps_M (self := .ref C) c.fi) (evalArgs_kw2_nil hall ?_)
  refine thn (hkw.run pos _ s2 σ H1 _ I2 q) fun ws s3 ⟨zs, H2, I3, rz, lz, q2⟩ => ⟨⟨pin_at I3, I3.kIn⟩, ?_⟩
  rw [hks]
  have r1 : Vals [V.ref C] [Value.ref C] := .cons rfl .nil
  have b := hb.to s3 [Value.ref C] ws I3.kIn rfl (rz.length.symm.trans lz)
  have z := wpAny_call (PySem.W.method_call (pin_at I3) (run_fnRS F hr (at_of hx σ) I3 b (hb.rel r1 rz) q2))
  exact thn z fun _ _ y => unpinE y
end
end OS

set_option Elab.async false
set_option linter.all false
set_option maxRecDepth 100000
set_option maxHeartbeats 4000000
/-! != of lists whose items are equal: the same object, the same flat value, the same data, lists of such -/
namespace OS
open PySem PySem.Spec PyProof.Rows L2 PySem.OSS
/-- equal, seen without looking at what is the same object -/
def EqI (K : PySem.W.Frag) (H : Hp) (x y : V) : Prop := (x = y ∧ flatV x = true) ∨ (∃ a, x = .ref a ∧ y = .ref a) ∨ ∃ d, Dp K H x d ∧ Dp K H y d ∧ d.depth ≤ 20
def EqN (K : PySem.W.Frag) (H : Hp) : Nat → V → V → Prop
  | 0 => EqI K H
  | n + 1 => fun x y => EqI K H x y ∨ ∃ a b xs ys, x = .ref a ∧ y = .ref b ∧ SqL K H a xs ∧ SqL K H b ys ∧ Paired (EqN K H n) xs ys
theorem flat_self {x : V} (h : flatV x = true) : eqV x x = true := by
  cases x with
  | non => rfl
  | bl b => cases b <;> rfl
  | int i => simp [eqV]
  | str z => simp [eqV]
  | _ => cases h
section
variable {X : Cx} {pins : List (Addr × Obj)} {σ : L2.St} {H : Hp} {s : Shared}
theorem eqI_at (I : Inv X pins σ H s) {A : Around} (hu : A.units + 21 < cLine) {x y : V} {u v : Value} (h : EqI X.K H x y) (rx : RelV x u) (ry : RelV y v) : SeqAt.EqAt A s u v true := by
  rcases h with ⟨rfl, f⟩ | ⟨a, rfl, rfl⟩ | ⟨d, h1, h2, hd⟩
  · have := eqAt_V (A := A) (s := s) rx ry f f
    rwa [flat_self f] at this
  · cases (show u = Value.ref a from rx)
    cases (show v = Value.ref a from ry)
    exact SeqAt.EqAt.same _
  · obtain ⟨as, r1⟩ := Dp.reads I d x u h1 rx
    obtain ⟨bs, r2⟩ := Dp.reads I d y v h2 ry
    have := SeqAt.eqAt_plain d d A s u v as bs r1 r2 (dp_plain d _ h1) (dp_plain d _ h2) (by omega)
    rwa [SeqAt.eqv_refl_plain d (dp_plain d _ h1)] at this
theorem eqN_at (I : Inv X pins σ H s) : ∀ (n : Nat) {A : Around}, A.units + n + 21 < cLine → ∀ {x y : V} {u v : Value}, EqN X.K H n x y → RelV x u → RelV y v → SeqAt.EqAt A s u v true
  | 0, A, hu, x, y, u, v, h, rx, ry => eqI_at I (by omega) h rx ry
  | n + 1, A, hu, x, y, u, v, h, rx, ry => by
    rcases h with h | ⟨a, b, xs, ys, rfl, rfl, ha, hb, hp⟩
    · exact eqI_at I (by omega) h rx ry
    · cases (show u = Value.ref a from rx)
      cases (show v = Value.ref b from ry)
      by_cases e : a = b
      · subst e
        exact SeqAt.EqAt.same _
      obtain ⟨us, r1, p1, _⟩ := I.list ha
      obtain ⟨ws, r2, p2, _⟩ := I.list hb
      have hsz : us.toArray.size = ws.toArray.size := by
        rw [List.size_toArray, List.size_toArray, ← r1.length, ← r2.length]
        exact Paired.length hp
      have rc : SeqAt.RcAt A s (.ref a) (.ref b) ((List.range us.toArray.size).all fun _ => true) := SeqAt.RcAt.lists (e := fun _ => true) p1.isList p2.isList hsz (by omega) fun j h1 h2 => by
        have k1 : j < us.length := by simpa using h1
        have k2 : j < ws.length := by simpa using h2
        have l1 : j < xs.length := by rw [r1.length]; exact k1
        obtain ⟨x0, hx0⟩ : ∃ x0, xs[j]? = some x0 := ⟨_, List.getElem?_eq_getElem l1⟩
        obtain ⟨y0, hy0, hxy⟩ := paired_get hp hx0
        obtain ⟨u0, hu0, ru0⟩ := r1.get hx0
        obtain ⟨v0, hv0, rv0⟩ := r2.get hy0
        rw [List.getElem?_eq_getElem k1] at hu0
        rw [List.getElem?_eq_getElem k2] at hv0
        have := eqN_at I n (A := A.in1) (by show A.units + 1 + n + 21 < cLine; omega) hxy ru0 rv0
        rw [← Option.some.inj hu0, ← Option.some.inj hv0] at this
        simpa using this
      rw [show ((List.range us.toArray.size).all fun _ => true) = true from List.all_eq_true.mpr fun _ _ => rfl] at rc
      exact SeqAt.EqAt.of_refs e rc
end
def rNeI (K : PySem.W.Frag) : R2 := fun x y H Q => ∃ a b xs ys, x = .ref a ∧ y = .ref b ∧ SqL K H a xs ∧ SqL K H b ys ∧ Paired (EqN K H 1) xs ys ∧ Q (.bl false) H
theorem op_neI {X : Cx} (hu : X.A.units + 65 < cLine) : OpR X (compareOp .NotEq) (rNeI X.K) := by
  intro pins s σ H x y v u Q I rx ry h
  obtain ⟨a, b, xs, ys, rfl, rfl, ha, hb, hp, q⟩ := h
  cases rx
  cases ry
  obtain ⟨us, r1, p1, _⟩ := I.list ha
  obtain ⟨ws, r2, p2, _⟩ := I.list hb
  have hsz : us.toArray.size = ws.toArray.size := by
    rw [List.size_toArray, List.size_toArray, ← r1.length, ← r2.length]
    exact Paired.length hp
  have rc : SeqAt.RcNeAt X.A s (.ref a) (.ref b) (!(List.range us.toArray.size).all fun _ => true) := SeqAt.RcNeAt.lists (e := fun _ => true) p1.isList p2.isList hsz (by omega) fun j h1 h2 => by
    have k1 : j < us.length := by simpa using h1
    have k2 : j < ws.length := by simpa using h2
    have l1 : j < xs.length := by rw [r1.length]; exact k1
    obtain ⟨x0, hx0⟩ : ∃ x0, xs[j]? = some x0 := ⟨_, List.getElem?_eq_getElem l1⟩
    obtain ⟨y0, hy0, hxy⟩ := paired_get hp hx0
    obtain ⟨u0, hu0, ru0⟩ := r1.get hx0
    obtain ⟨v0, hv0, rv0⟩ := r2.get hy0
    rw [List.getElem?_eq_getElem k1] at hu0
    rw [List.getElem?_eq_getElem k2] at hv0
    have := eqN_at I 1 (A := X.A.in1) (by show X.A.units + 1 + 1 + 21 < cLine; omega) hxy ru0 rv0
    rw [← Option.some.inj hu0, ← Option.some.inj hv0] at this
    simpa using this
  rw [show ((List.range us.toArray.size).all fun _ => true) = true from List.all_eq_true.mpr fun _ _ => rfl] at rc
  exact rc X.prog X.w X.xe _ ⟨.bl false, H, I, rfl, q⟩
theorem takesNo {X : Cx} : Takes X (fun _ _ _ _ => False) := fun _ _ x => by
  obtain ⟨_, _, _, _, _, _, _, _, _, _, _, _, _, _, _, _, z⟩ := x
  exact z.elim
theorem pass0x {X : Cx} : Passes (L2.CX X.prog X.w) X E0 := fun _ _ _ _ _ _ _ h => by
  obtain ⟨_, _, _, _, _, _, _, _, _, _, _, _, z⟩ := h
  exact z.elim
end OS

set_option Elab.async false
set_option linter.all false
set_option maxRecDepth 100000
set_option maxHeartbeats 4000000
/-! any values that stand beside the state of the draws; comprehensions whose test draws -/
namespace OS
open PySem PySem.Spec PyProof.Rows L2
/-- an address that is none of what stands beside the state -/
def Frn (p : Addr) (H : Hp) (q : Addr) : Prop := ∀ D o, Sep H p D o → q ≠ D
theorem Frn.none {p q : Addr} {H : Hp} (h : H q = none) : Frn p H q := fun D o s z => by
  have := s.at_
  rw [← z, h] at this
  cases this
theorem Frn.nx {p q : Addr} {H H1 : Hp} (x : Nx p H H1) (h : Frn p H1 q) : Frn p H q := fun D o s => h D o (x _ _ s)
/-- a tuple beside the state -/
def TupN (K : PySem.W.Frag) (p : Addr) (H : Hp) (a : Addr) (xs : List V) : Prop := (Sep H p a (.tup xs) ∨ ∃ o, Sep H p a (.frz o (.tup xs))) ∨ ∀ H', SqT K H' a xs
theorem TupN.of {K : PySem.W.Frag} {H : Hp} {p a : Addr} {n : Nat} {xs : List V} (S : StAt H p n) (h : SqT K H a xs) : TupN K p H a xs := by
  rcases h with (h | ⟨o, h⟩) | h
  · exact .inl (.inl (S.sep h fun _ z => nomatch z))
  · exact .inl (.inr ⟨o, S.sep h fun _ z => nomatch z⟩)
  · exact .inr fun H' => .inr h
theorem TupN.sq {K : PySem.W.Frag} {H : Hp} {p a : Addr} {xs : List V} (h : TupN K p H a xs) : SqT K H a xs := by
  rcases h with (h | ⟨o, h⟩) | h
  · exact .inl (.inl h.at_)
  · exact .inl (.inr ⟨o, h.at_⟩)
  · exact h H
theorem TupN.kept {K : PySem.W.Frag} {H H' : Hp} {p D a : Addr} {xs acc : List V} (sD : Sep H p D (.lst acc)) (k : ∀ q o, Sep H p q o → q ≠ D → Sep H' p q o) (h : TupN K p H a xs) : TupN K p H' a xs := by
  rcases h with (h | ⟨o, h⟩) | h
  · exact .inl (.inl (k _ _ h (ne_of h.at_ sD.at_ fun z => by cases z)))
  · exact .inl (.inr ⟨o, k _ _ h (ne_of h.at_ sD.at_ fun z => by cases z)⟩)
  · exact .inr h
theorem TupN.nx {K : PySem.W.Frag} {H H' : Hp} {p a : Addr} {xs : List V} (x : Nx p H H') (h : TupN K p H a xs) : TupN K p H' a xs := by
  rcases h with (h | ⟨o, h⟩) | h
  · exact .inl (.inl (x _ _ h))
  · exact .inl (.inr ⟨o, x _ _ h⟩)
  · exact .inr h
/-- an item beside the state; its lists and dicts are at addresses in B -/
inductive ItmX (K : PySem.W.Frag) (p : Addr) (H : Hp) (B : Addr → Prop) : V → Prop
  | flat {v : V} : flatV v = true → ItmX K p H B v
  | lst {a : Addr} {zs : List V} : Sep H p a (.lst zs) → B a → ItmX K p H B (.ref a)
  | dct {a : Addr} {kvs : List (Key × V)} : Sep H p a (.dK kvs) → B a → ItmX K p H B (.ref a)
  | tup {a : Addr} {zs : List V} : TupN K p H a zs → ItmX K p H B (.ref a)
/-- a value beside the state; if it is a tuple, its items -/
inductive ThgX (K : PySem.W.Frag) (p : Addr) (H : Hp) (B : Addr → Prop) : V → Option (List V) → Prop
  | flat {v : V} : flatV v = true → ThgX K p H B v none
  | lst {a : Addr} {zs : List V} : Sep H p a (.lst zs) → B a → ThgX K p H B (.ref a) none
  | dct {a : Addr} {kvs : List (Key × V)} : Sep H p a (.dK kvs) → B a → ThgX K p H B (.ref a) none
  | tup {a : Addr} {xs : List V} : TupN K p H a xs → (∀ v ∈ xs, ItmX K p H B v) → ThgX K p H B (.ref a) (some xs)
section
variable {K : PySem.W.Frag} {H H' : Hp} {p : Addr} {B B' : Addr → Prop} {v : V} {o : Option (List V)}
theorem ItmX.nx (x : Nx p H H') (h : ItmX K p H B v) : ItmX K p H' B v := by
  cases h with
  | flat f => exact .flat f
  | lst s b => exact .lst (x _ _ s) b
  | dct s b => exact .dct (x _ _ s) b
  | tup s => exact .tup (s.nx x)
theorem ThgX.nx (x : Nx p H H') (h : ThgX K p H B v o) : ThgX K p H' B v o := by
  cases h with
  | flat f => exact .flat f
  | lst s b => exact .lst (x _ _ s) b
  | dct s b => exact .dct (x _ _ s) b
  | tup s hi => exact .tup (s.nx x) fun w hw => (hi w hw).nx x
theorem ItmX.mono (b : ∀ a, B a → B' a) (h : ItmX K p H B v) : ItmX K p H B' v := by
  cases h with
  | flat f => exact .flat f
  | lst s c => exact .lst s (b _ c)
  | dct s c => exact .dct s (b _ c)
  | tup s => exact .tup s
theorem ThgX.mono (b : ∀ a, B a → B' a) (h : ThgX K p H B v o) : ThgX K p H B' v o := by
  cases h with
  | flat f => exact .flat f
  | lst s c => exact .lst s (b _ c)
  | dct s c => exact .dct s (b _ c)
  | tup s hi => exact .tup s fun w hw => (hi w hw).mono b
theorem ItmX.itm (h : ItmX K p H B v) : Itm K H v := by
  cases h with
  | flat f => exact .flat f
  | lst s b => exact .lst s.sq
  | dct s b => exact .dct s.at_
  | tup s => exact .tup s.sq
theorem ThgX.thing (h : ThgX K p H B v o) : Thing K H v o := by
  cases h with
  | flat f => exact .flat f
  | lst s b => exact .lst s.sq
  | dct s b => exact .dct s.at_
  | tup s hi => exact .tup s.sq fun w hw => (hi w hw).itm
/-- where all but the list at P is kept -/
theorem ItmX.but {P : Addr} {u : HO} (h : ItmX K p H (fun a => a ≠ P) v) {acc : List V} (sP : Sep H p P (.lst acc)) : ItmX K p (upd H P u) (fun a => a ≠ P) v := by
  have k : ∀ q o, Sep H p q o → q ≠ P → Sep (upd H P u) p q o := fun q o h n => h.put_ne sP n
  cases h with
  | flat f => exact .flat f
  | lst s b => exact .lst (k _ _ s b) b
  | dct s b => exact .dct (k _ _ s b) b
  | tup s => exact .tup (s.kept sP k)
theorem ThgX.but {P : Addr} {u : HO} (h : ThgX K p H (fun a => a ≠ P) v o) {acc : List V} (sP : Sep H p P (.lst acc)) : ThgX K p (upd H P u) (fun a => a ≠ P) v o := by
  have k : ∀ q o, Sep H p q o → q ≠ P → Sep (upd H P u) p q o := fun q o h n => h.put_ne sP n
  cases h with
  | flat f => exact .flat f
  | lst s b => exact .lst (k _ _ s b) b
  | dct s b => exact .dct (k _ _ s b) b
  | tup s hi => exact .tup (s.kept sP k) fun w hw => (hi w hw).but sP
end
/-- over n turns: tests and items may draw -/
theorem lc_drt {J : It} {n : Nat} {G : Hp → Prop} {Y : Nat → Hp → V → Hp → Prop} (w : Walk J n G Y) (hz : n ≤ 100000) (p : Addr) (m0 c : Nat) (R : Hp → V → Prop) {g : TG} {tt : TT} {te : TE} {vs : List Nat} {σ : L2.St} {H1 : Hp} {D : Addr} {Qd : Hp → Prop}
    (S : StAt H1 p m0) (hD : H1 D = none) (hR : ∀ H H' y acc, Sep H p D (.lst acc) → (∀ q o, Sep H p q o → q ≠ D → Sep H' p q o) → R H y → R H' y) (hG : ∀ H, Nx p H1 H → G H)
    (hs : ∀ i m x H H' (Qk : V → Hp → Prop) (Qn : Hp → Prop), i < n → StAt H p m → m ≤ m0 + c * i → Nx p H1 H → Y i H x H' → (∀ y H4 m', R H4 y → StAt H4 p m' → m' ≤ m + c → Nx p H H4 → Qk y H4) → (∀ H4 m', StAt H4 p m' → m' ≤ m + c → Nx p H H4 → Qn H4) →
      g x (wipe σ vs) H' fun σ2 H2 => wipe σ2 vs = wipe σ vs ∧ tt σ2 H2 fun b H3 => if b = true then te σ2 H3 Qk else Qn H3)
    (hd : ∀ H m acc, StAt H p m → m ≤ m0 + c * n → Nx p H1 H → Sep H p D (.lst acc) → acc.length ≤ n → (∀ y ∈ acc, R H y) → Qd H) :
    ∃ W : Nat → Nat → Hp → Prop, (∃ m, W 0 m (upd H1 D (.lst []))) ∧ ∀ i m H, W i m H →
      (J.stop i H ∧ Qd H) ∨ (J.go i H ∧ ∃ Nx : Hp → Prop, (∀ H', Nx H' → ∃ m', m' < m ∧ W (i + 1) m' H') ∧ ∀ x H', J.yld i H x H' → g x (wipe σ vs) H' fun σ2 H2 => wipe σ2 vs = wipe σ vs ∧ tt σ2 H2 fun b H3 =>
        if b = true then te σ2 H3 fun y H4 => ∃ acc, H4 D = some (.lst acc) ∧ acc.length < sizeLine ∧ Nx (upd H4 D (.lst (acc ++ [y]))) else Nx H3) := by
  refine lc_it w (fun i H => ∃ m acc, StAt H p m ∧ m ≤ m0 + c * i ∧ Nx p H1 H ∧ Sep H p D (.lst acc) ∧ acc.length ≤ i ∧ ∀ y ∈ acc, R H y) ⟨m0, [], S.same (same_new hD), Nat.le_add_right _ _, S.nx (same_new hD), S.new hD, Nat.le_refl _, fun y h => nomatch h⟩ (fun i H _ ⟨_, _, _, _, x, _⟩ => hG H x) ?_ ?_
  · intro i x H H' hi ⟨m, acc, S', hm, nx, sD, hl, hr⟩ hy
    refine hs i m x H H' _ _ hi S' hm nx hy (fun y H4 m' ry S4 hm' nx4 => ?_) (fun H4 m' S4 hm' nx4 => ?_)
    · have sD4 := nx4 _ _ sD
      refine ⟨acc, sD4.at_, small1e5 (by omega), m', acc ++ [y], S4.put sD4, by rw [Nat.mul_succ]; omega, ?_, sD4.put_same, by rw [List.length_append]; simp; omega, ?_⟩
      · intro q o hq
        have hq4 := nx4 _ _ (nx q o hq)
        have : q ≠ D := ne_of_none hq.at_ hD
        exact hq4.put_ne sD4 this
      · have kp : ∀ q o, Sep H4 p q o → q ≠ D → Sep (upd H4 D (.lst (acc ++ [y]))) p q o := fun q o h n => h.put_ne sD4 n
        intro z hz'
        rcases List.mem_append.mp hz' with h | h
        · exact hR _ _ z acc sD4 kp (hR _ _ z acc sD (fun q o h _ => nx4 q o h) (hr z h))
        · rw [List.mem_singleton.mp h]
          exact hR _ _ y acc sD4 kp ry
    · have sD4 := nx4 _ _ sD
      exact ⟨m', acc, S4, by rw [Nat.mul_succ]; omega, nx.trans nx4, sD4, by omega, fun y hy => hR _ _ y acc sD (fun q o h _ => nx4 q o h) (hr y hy)⟩
  · intro H ⟨m, acc, S', hm, nx, sD, hl, hr⟩
    exact hd H m acc S' hm nx sD hl hr
end OS

set_option Elab.async false
set_option linter.all false
set_option maxRecDepth 100000
set_option maxHeartbeats 4000000
/-! == of two instances by their own __eq__, both answers -/
namespace OS
open PySem PySem.Spec PyProof.Rows L2
def rEqO (C : Addr) (sp : Sp) : R2 := fun x y H Q => ∃ a b dx dy fs gs, x = .ref a ∧ y = .ref b ∧ H a = some (.ins C dx fs) ∧ H b = some (.ins C dy gs) ∧ sp [x, y] H (fun v H' => ∃ k, v = .bl k ∧ Q (.bl k) H') E0
section
variable {X : Cx} {k : Nat} {f C : Addr} {fd : FuncData} {ps : List Str} {sp : Sp}
/-- .. as a rich comparison; y of any type that is not asked first -/
theorem rc_own {A : Around} {pins : List (Addr × Obj)} {σ : L2.St} {H : Hp} {s : Shared} {a : Addr} {y : V} {u tb : Value} {P : Bool → Hp → Prop} (F : FnOk X.prog X.w X.K X.mg X.base CX0 k f fd ps sp) (sb : Sub X k A) (hs : PySem.W.findIn X.K (.ref C) "__eq__" = some (some (.ref f)))
    (hf : PySem.W.isFn X.K (.ref f) = true) (hb : Binds X.K fd ps []) (I : Inv X pins σ H s) {dx : Addr} {fs : List (Str × V)} (ha : H a = some (.ins C dx fs)) (ry : RelV y u) (ht : PySem.W.Looks (model X.prog X.w) s.heap (typeOf u) tb) (hn : PySem.W.notFirst X.K C tb = true)
    (h : sp [.ref a, y] H (fun v H' => ∃ k, v = .bl k ∧ P k H') E0) {E : Value → Shared → Prop} : wpAny (model X.prog X.w) A (richCompare .Eq (.ref a) u) (fun r s' => ∃ k H', r = .bool k ∧ Inv X pins σ H' s' ∧ P k H') E s := by
  obtain ⟨mA, J, _⟩ := ins_get I.hok ha
  obtain ⟨od, J, _⟩ := J.look
  obtain ⟨m, hF⟩ := I.fr
  refine PySem.W.cmp_K (op := .Eq) (tb := tb) sb.room.units0 hF I.ok.mod.kin J ht hn hs hf ?_
  have e0 : Env0 X.prog X.w X.K X.mg X.base A X.stack s H := by
    have e := I.env0
    exact ⟨by rw [sb.fr]; exact e.frames, e.mod, e.bs, e.bsz, e.funs, e.frf, e.hok, e.bare⟩
  have hl := F.len _ _ _ _ h
  have r2 : Vals [V.ref a, y] [Value.ref a, u] := .cons rfl (.cons ry .nil)
  refine wpAny_call (codeAny_mono (F.run A X.stack s H ⟨[.ref a, u], []⟩ [.ref a, u] [.ref a, y] _ E0 sb.room e0 (by
    have := hb s [.ref a, u] I.kIn (by simpa using hl)
    simpa using this) r2 h) fun r s' hq => ?_)
  cases r with
  | error e => exact (show False from hq).elim
  | ok fl =>
    cases fl with
    | ret w =>
      obtain ⟨z, H', I', rz, k, ez, q⟩ := I.after hq
      subst ez
      cases rz
      exact ⟨k, H', rfl, I', q⟩
    | next => exact False.elim hq
    | brk => exact False.elim hq
    | cont => exact False.elim hq
theorem op_eqO (F : FnOk X.prog X.w X.K X.mg X.base CX0 k f fd ps sp) (hr : Room k X.A) (hs : PySem.W.findIn X.K (.ref C) "__eq__" = some (some (.ref f))) (hf : PySem.W.isFn X.K (.ref f) = true) (hb : Binds X.K fd ps []) (hn : PySem.W.notFirst X.K C (.ref C) = true) :
    OpR X (compareOp .Eq) (rEqO C sp) := by
  intro pins s σ H x y v u Q I rx ry h
  obtain ⟨a, b, dx, dy, fs, gs, rfl, rfl, ha, hb', h⟩ := h
  have ry' : RelV (V.ref b) (Value.ref b) := rfl
  cases rx
  cases ry
  obtain ⟨mB, J', _⟩ := ins_get I.hok hb'
  obtain ⟨od', J', _⟩ := J'.look
  show wpAny (model X.prog X.w) X.A (richCompare .Eq (.ref a) (.ref b)) (EP X pins σ Q) X.xe s
  refine wpAny_mono (rc_own (P := fun k H' => Q (.bl k) H') F ⟨hr, rfl⟩ hs hf hb I ha ry' J'.type hn ?_) (fun r s' z => ?_) fun _ _ x => x
  · exact h
  · obtain ⟨k, H', rfl, I', q⟩ := z
    exact ⟨.bl k, H', I', rfl, q⟩
end
end OS

set_option Elab.async false
set_option linter.all false
set_option maxRecDepth 100000
set_option maxHeartbeats 4000000
/-! an instance with an own __eq__ in a list of values of builtin types: each declines, the own one is asked -/
namespace OSO
open PySem PySem.SeqAt
open AutoSeq1 (wpAny_loadPart')
open MeetsSeq MeetsSeq2 MeetsSeq3 SeqRoads2
section
variable {prog : Program} {w : World} {A : Around} {E : Value → Shared → Prop} {s : Shared} {R : Result → Shared → Prop} {K : PySem.W.Frag} {x C dx : Addr} {od : Option Obj}
theorem isInst_no {M : Model} {T : String} {Q : Bool → Shared → Prop} (I : PySem.W.InstAt s.heap x (PySem.W.instObj C dx) C od) (X : K.In s.heap) (e : PySem.W.subIn K (.ref C) (.type T) = some false) (h : Q false s) :
    wpAny M A (isInstance (.ref x) (.type T)) Q E s := by
  unfold isInstance
  exact wpAny_bind (I.type.here ((PySem.W.looks_subIn X e).here h))
theorem int_dec (a : Int) (t : Tok) : Meets (Builtin.«int.__eq__» ⟨[.int a t, .ref x], []⟩) (fun _ R s => s.heap.get? x = some (PySem.W.instObj C dx) ∧ R (.ok (.ret .notImplemented)) s) :=
  .of_wp fun prog w A R s h => by
    obtain ⟨hp, g, d, tk, os⟩ := s
    obtain ⟨hl, h⟩ := h
    wp_walk using wpAny_loadPart' hl, wpAny_load hl
    exact ⟨_, rfl, h⟩
theorem str_dec (a : Str) (t : Tok) : Meets (Builtin.«str.__eq__» ⟨[.str a t, .ref x], []⟩) (fun _ R s => s.heap.get? x = some (PySem.W.instObj C dx) ∧ R (.ok (.ret .notImplemented)) s) :=
  .of_wp fun prog w A R s h => by
    obtain ⟨hp, g, d, tk, os⟩ := s
    obtain ⟨hl, h⟩ := h
    wp_walk using wpAny_loadPart' hl, wpAny_load hl
    exact ⟨_, rfl, h⟩
theorem tup_dec (l : Addr) (e : PySem.W.subIn K (.ref C) (.type "tuple") = some false) : Meets (Builtin.«tuple.__eq__» ⟨[.ref l, .ref x], []⟩) (fun _ R s => (K.In s.heap ∧ PySem.W.InstAt s.heap x (PySem.W.instObj C dx) C od) ∧ R (.ok (.ret .notImplemented)) s) :=
  .of_wp fun prog w A R s h => by
    obtain ⟨hp, g, d, tk, os⟩ := s
    obtain ⟨⟨X, I⟩, h⟩ := h
    wp_walk using isInst_no I X e
    exact ⟨_, rfl, h⟩
theorem list_dec (l : Addr) (e : PySem.W.subIn K (.ref C) (.type "list") = some false) : Meets (Builtin.«list.__eq__» ⟨[.ref l, .ref x], []⟩) (fun _ R s => (K.In s.heap ∧ PySem.W.InstAt s.heap x (PySem.W.instObj C dx) C od) ∧ R (.ok (.ret .notImplemented)) s) :=
  .of_wp fun prog w A R s h => by
    obtain ⟨hp, g, d, tk, os⟩ := s
    obtain ⟨⟨X, I⟩, h⟩ := h
    wp_walk using isInst_no I X e
    exact ⟨_, rfl, h⟩
theorem dict_dec (l : Addr) (e : PySem.W.subIn K (.ref C) (.type "dict") = some false) {Q : Fin → Shared → Prop} {E' : Value → Shared → Prop} (hd : s.TypeIs (.ref l) "dict") (X : K.In s.heap) (I : PySem.W.InstAt s.heap x (PySem.W.instObj C dx) C od) (h : Q (.done (.ret .notImplemented)) s) : wpAny (model prog w) A (Builtin.«dict.__eq__» ⟨[.ref l, .ref x], []⟩) Q E' s := by
  show wpAny _ _ (Builtin.Dict.dictSlotArgs "__eq__" ⟨[.ref l, .ref x], []⟩ >>= _) _ _ s
  refine wpAny_bind ?_
  unfold Builtin.Dict.dictSlotArgs
  refine wpAny_bind (wpAny_notOrdered_dict hd ?_)
  show wpAny _ _ (pure (Value.ref l, Value.ref x)) _ _ s
  refine wpAny_pure ?_
  refine wpAny_bind (isInst_no I X e ?_)
  simp only [Bool.not_false, if_true]
  exact wpAny_bind (wpAny_rule (wpAny_bind (wpAny_pure (wpAny_pure h))))
/-- `in` over a list: none of its items is equal -/
def TurnG (prog : Program) (w : World) (A : Around) (E : Value → Shared → Prop) (l : Addr) (x : Value) (N : Nat) (I : Shared → Prop) : Prop :=
  ∀ (i : Nat) s, I s → ∃ (items : Array Value) (n : Nat), s.heap.get? l = some { cls := .type "list", data := .seq items n } ∧ items.size = N ∧ ∀ h : i < items.size, wpAny (model prog w) A.in1 (eqBool items[i] x) (fun r s' => r = false ∧ I s') E s
theorem contains_loopG (l : Addr) (x : Value) (N : Nat) (I : Shared → Prop) (hI : TurnG prog w A (fun e s' => R (.error e) s') l x N I) (fin : ∀ s, I s → R (.ok (.ret (.bool false))) s) (k : Nat) :
    ∀ i : Nat, N - i = k → ∀ s, I s → wpAny (model prog w) A.in1 (Builtin.«list.__contains__.loop» ⟨[.ref l, x, rawInt i], []⟩) (GQ.FinOf prog w A R) (fun e s' => R (.error e) s') s := by
  induction k with
  | zero =>
    intro i hk s h
    obtain ⟨items, n, hl, hz, _⟩ := hI i _ h
    have hR := fin s h
    obtain ⟨hp, g, d, tk, os⟩ := s
    wp_walk using wpAny_loadPart' hl
    have hi : items[((i : Nat) : Int).toNat]? = none := by simp; omega
    rw [hi]
    wp_walk
    exact hR
  | succ k ih =>
    intro i hk s h
    obtain ⟨items, n, hl, hz, turn⟩ := hI i _ h
    have hlt : i < items.size := by omega
    have ht := turn hlt
    obtain ⟨hp, g, d, tk, os⟩ := s
    wp_walk using wpAny_loadPart' hl
    have hi : items[((i : Nat) : Int).toNat]? = some items[i] := by simp [hlt]
    have hc : ((i : Int) + 1) = ((i + 1 : Nat) : Int) := by omega
    rw [hi]
    refine wpAny_bind (wpAny_mono ht (fun r s2 h2 => ?_) fun _ _ x => x)
    obtain ⟨hr, h2⟩ := h2
    subst hr
    have hrec := ih (i + 1) (by omega) s2 h2
    obtain ⟨hp2, g2, d2, tk2, os2⟩ := s2
    wp_walk
    rw [hc]
    exact ⟨plainId_quiet plain_contains_loop _, codeAny_builtin entry_contains_loop (by
      rw [Around.under_plainId plain_contains_loop _]
      exact hrec)⟩
theorem notIn_own {l : Addr} {x : Value} {N : Nat} {Q : Value → Shared → Prop} (I : Shared → Prop) (hI : TurnG prog w A E l x N I) (fin : ∀ s, I s → Q (.bool true) s) (h : I s) :
    wpAny (model prog w) A (compareOp .NotIn x (.ref l)) Q E s := by
  obtain ⟨items, n, hl, hz, _⟩ := hI 0 _ h
  refine PyProof.Rows.NotIn_slot ⟨_, hl, rfl⟩ F.slot_list_contains (GQ.call_here F.slot_list_contains ⟨_, hl, rfl⟩ F.entry_list_contains (F.args_list_contains_2 _ _) ?_)
  have hrec := contains_loopG (prog := prog) (w := w) (A := A) (R := wants (fun r s' => wpAny (model prog w) A (truthy r) (fun b s'' => Q (.bool (!b)) s'') E s') E) l x N I hI (fun s' q => wpAny_truthy_bool (fin s' q)) _ 0 rfl s h
  obtain ⟨hp, g, d, tk, os⟩ := s
  wp_walk using wpAny_loadPart' hl
  exact ⟨plainId_quiet plain_contains_loop _, codeAny_builtin entry_contains_loop (by
    rw [Around.under_plainId plain_contains_loop _]
    exact hrec)⟩
theorem rc_right {T id : String} {u : Value} {f : Addr} {ox : Obj} {Q : Value → Shared → Prop} (hu : A.units < cLine) (hT : s.TypeIs u T) (slot : Slot T (cmpInfo .Eq).2.1 id) (X : K.In s.heap) (I : PySem.W.InstAt s.heap x ox C od) (hsub : PySem.W.subIn K (.ref C) (.type T) = some false)
    (hs : PySem.W.findIn K (.ref C) "__eq__" = some (some (.ref f))) (hf : PySem.W.isFn K (.ref f) = true) (dec : ∀ Q' : Value → Shared → Prop, Q' .notImplemented s → wpAny (model prog w) A (call (.builtin id) [u, .ref x]) Q' E s)
    (h : wpAny (model prog w) A (call (.ref f) [.ref x, u]) (PySem.W.CmpBack Q) E s) : wpAny (model prog w) A (richCompare .Eq u (.ref x)) Q E s := by
  have one : wpAny (model prog w) A (tryCompare (.ref x) "__eq__" u) (fun r s' => ∃ v, r = some v ∧ Q v s') E s := by
    unfold tryCompare
    refine wpAny_bind (PySem.W.ifBound_K X I hs hf (wpAny_mono h (fun v s' hv => ?_) fun _ _ e => e))
    cases v <;> first | exact hv.elim | exact wpAny_pure ⟨_, rfl, hv⟩
  have two : wpAny (model prog w) A (tryCompare u "__eq__" (.ref x)) (fun r s' => r = none ∧ s' = s) E s := wpAny_tryCompare_declines hT slot (dec _ ⟨rfl, rfl, rfl⟩)
  simp only [richCompare, cmpInfo_Eq, hT.oneThing_none]
  refine wpAny_holding (wpAny_bind (wpAny_cRoomFor hu ?_))
  refine wpAny_bind (wpAny_typeOf hT ?_)
  refine wpAny_bind (I.type.here ?_)
  split
  · refine wpAny_bind ((PySem.W.looks_subIn X hsub).here ?_)
    simp only [Bool.false_eq_true, if_false, Bool.not_false, if_true]
    refine wpAny_bind (m := tryCompare u _ (.ref x)) (wpAny_mono two (fun r s1 z => ?_) fun _ _ e => e)
    obtain ⟨z1, z2⟩ := z
    subst z1
    subst z2
    refine wpAny_bind (m := tryCompare (.ref x) _ u) (wpAny_mono one (fun r s2 z => ?_) fun _ _ e => e)
    obtain ⟨v, rfl, hq⟩ := z
    exact wpAny_pure hq
  · rename_i q
    exact absurd (by simp) q
end
end OSO
namespace OS
open PySem PySem.Spec PyProof.Rows L2
/-- values whose own == declines -/
inductive DecV (K : PySem.W.Frag) (H : Hp) : V → Prop
  | non : DecV K H .non
  | int (i : Int) : DecV K H (.int i)
  | str (z : Str) : DecV K H (.str z)
  | tup {a : Addr} {xs : List V} : SqT K H a xs → DecV K H (.ref a)
  | lst {a : Addr} {xs : List V} : SqL K H a xs → DecV K H (.ref a)
  | dct {a : Addr} {kvs : List (Key × V)} : H a = some (.dK kvs) → DecV K H (.ref a)
theorem DecV.same {K : PySem.W.Frag} {H H' : Hp} {v : V} (h : DecV K H v) (s : Same H H') : DecV K H' v := by
  cases h with
  | non => exact .non
  | int i => exact .int i
  | str z => exact .str z
  | tup h => exact .tup (s.tupT h)
  | lst h => exact .lst (s.seq h)
  | dct h => exact .dct (s _ _ h)
structure DecK (K : PySem.W.Frag) (C : Addr) : Prop where
  n : PySem.W.subIn K (.ref C) (.type "NoneType") = some false
  i : PySem.W.subIn K (.ref C) (.type "int") = some false
  s : PySem.W.subIn K (.ref C) (.type "str") = some false
  t : PySem.W.subIn K (.ref C) (.type "tuple") = some false
  l : PySem.W.subIn K (.ref C) (.type "list") = some false
  d : PySem.W.subIn K (.ref C) (.type "dict") = some false
section
variable {X : Cx} {k : Nat} {f C : Addr} {fd : FuncData} {ps : List Str} {sp : Sp}
/-- an item == the instance, inside a builtin: False by the own __eq__ -/
theorem eq_right {A : Around} {pins : List (Addr × Obj)} {σ : L2.St} {H : Hp} {s : Shared} {a : Addr} {y : V} {u : Value} (F : FnOk X.prog X.w X.K X.mg X.base CX0 k f fd ps sp) (sb : Sub X k A) (hs : PySem.W.findIn X.K (.ref C) "__eq__" = some (some (.ref f)))
    (hf : PySem.W.isFn X.K (.ref f) = true) (hb : Binds X.K fd ps []) (dk : DecK X.K C) (I : Inv X pins σ H s) {dx : Addr} {fs : List (Str × V)} (ha : H a = some (.ins C dx fs)) (ry : RelV y u) (dy : DecV X.K H y)
    (h : sp [.ref a, y] H (fun v H' => v = .bl false ∧ Same H H') E0) {E : Value → Shared → Prop} : wpAny (model X.prog X.w) A (eqBool u (.ref a)) (fun r s' => r = false ∧ ∃ H', Inv X pins σ H' s' ∧ Same H H') E s := by
  obtain ⟨mA, J0, _⟩ := ins_get I.hok ha
  have hobj := J0.obj
  obtain ⟨od, J, _⟩ := J0.look
  obtain ⟨m, hF⟩ := I.fr
  have XK := I.kIn
  have e0 : Env0 X.prog X.w X.K X.mg X.base A X.stack s H := by
    have e := I.env0
    exact ⟨by rw [sb.fr]; exact e.frames, e.mod, e.bs, e.bsz, e.funs, e.frf, e.hok, e.bare⟩
  have hl := F.len _ _ _ _ h
  have r2 : Vals [V.ref a, y] [Value.ref a, u] := .cons rfl (.cons ry .nil)
  have body : wpAny (model X.prog X.w) A (call (.ref f) [.ref a, u]) (PySem.W.CmpBack fun r s' => r = .bool false ∧ ∃ H', Inv X pins σ H' s' ∧ Same H H') E s := by
    refine wpAny_call (codeAny_mono (F.run A X.stack s H ⟨[.ref a, u], []⟩ [.ref a, u] [.ref a, y] _ E0 sb.room e0 (by
      have := hb s [.ref a, u] I.kIn (by simpa using hl)
      simpa using this) r2 h) fun r s' hq => ?_)
    cases r with
    | error e => exact (show False from hq).elim
    | ok fl =>
      cases fl with
      | ret w =>
        obtain ⟨z, H', I', rz, ez, q⟩ := I.after hq
        subst ez
        cases rz
        exact ⟨rfl, H', I', q⟩
      | next => exact False.elim hq
      | brk => exact False.elim hq
      | cont => exact False.elim hq
  have rc : ∀ {T id : String} (hT : s.TypeIs u T) (slot : Slot T (cmpInfo .Eq).2.1 id) (hsub : PySem.W.subIn X.K (.ref C) (.type T) = some false) (dec : ∀ Q' : Value → Shared → Prop, Q' .notImplemented s → wpAny (model X.prog X.w) A (call (.builtin id) [u, .ref a]) Q' E s),
      wpAny (model X.prog X.w) A (richCompare .Eq u (.ref a)) (fun v s' => wpAny (model X.prog X.w) A (truthOfDropped v) (fun r s' => r = false ∧ ∃ H', Inv X pins σ H' s' ∧ Same H H') E s') E s := fun hT slot hsub dec => by
    refine wpAny_mono (OSO.rc_right sb.room.units0 hT slot XK J hsub hs hf dec body) (fun v s' hv => ?_) fun _ _ x => x
    obtain ⟨rfl, q⟩ := hv
    exact wpAny_truthy_bool ⟨rfl, q⟩
  cases dy with
  | non =>
    cases ry
    unfold eqBool
    refine wpAny_holding ?_
    refine wpAny_ite_split (fun hab => absurd (eq_of_beq hab) nofun) (fun _ => ?_)
    exact wpAny_bind (rc (T := "NoneType") rfl PySem.F.slot_NoneType_eq dk.n (fun _ hq => call_gives PySem.F.slot_NoneType_eq rfl PySem.F.entry_NoneType_eq (PySem.F.args_NoneType_eq_2 _ _) (SeqAt.NoneType___eq___none_ref_0 a) hq))
  | int i =>
    obtain ⟨t, rfl⟩ := ry
    unfold eqBool
    refine wpAny_holding ?_
    refine wpAny_ite_split (fun hab => absurd (eq_of_beq hab) nofun) (fun _ => ?_)
    exact wpAny_bind (rc (typeIs_int s i t) PySem.F.slot_int_eq dk.i (fun _ hq => call_meets PySem.F.slot_int_eq (typeIs_int s i t) PySem.F.entry_int_eq (PySem.F.args_int_eq_2 _ _) (OSO.int_dec i t) ⟨hobj, hq⟩))
  | str z =>
    obtain ⟨t, rfl⟩ := ry
    unfold eqBool
    refine wpAny_holding ?_
    refine wpAny_ite_split (fun hab => absurd (eq_of_beq hab) nofun) (fun _ => ?_)
    exact wpAny_bind (rc (typeIs_str s z t) PySem.F.slot_str_eq dk.s (fun _ hq => call_meets PySem.F.slot_str_eq (typeIs_str s z t) PySem.F.entry_str_eq (PySem.F.args_str_eq_2 _ _) (OSO.str_dec z t) ⟨hobj, hq⟩))
  | @tup b xs ht =>
    cases ry
    obtain ⟨its, r, pl, hz⟩ := I.tuple ht
    obtain ⟨⟨cls, dd, data, sl⟩, ho, hc, n, hd⟩ := id pl
    simp only at hc hd
    subst hc hd
    have ne : b ≠ a := fun z => by
      rw [z, hobj] at ho
      cases ho
    have hT : s.TypeIs (.ref b) "tuple" := ⟨_, ho, rfl⟩
    unfold eqBool
    refine wpAny_holding ?_
    refine wpAny_ite_split (fun hab => absurd (by have := eq_of_beq hab; injection this) ne) (fun _ => ?_)
    exact wpAny_bind (rc hT PySem.F.slot_tuple_eq dk.t (fun _ hq => call_meets PySem.F.slot_tuple_eq hT PySem.F.entry_tuple_eq (PySem.F.args_tuple_eq_2 _ _) (OSO.tup_dec b dk.t) ⟨⟨XK, J⟩, hq⟩))
  | @lst b xs ht =>
    cases ry
    obtain ⟨its, r, pl, hz⟩ := I.list ht
    obtain ⟨⟨cls, dd, data, sl⟩, ho, hc, n, hd⟩ := id pl.isList
    simp only at hc hd
    subst hc hd
    have ne : b ≠ a := fun z => by
      rw [z, hobj] at ho
      cases ho
    have hT : s.TypeIs (.ref b) "list" := ⟨_, ho, rfl⟩
    unfold eqBool
    refine wpAny_holding ?_
    refine wpAny_ite_split (fun hab => absurd (by have := eq_of_beq hab; injection this) ne) (fun _ => ?_)
    exact wpAny_bind (rc hT PySem.F.slot_list_eq dk.l (fun _ hq => call_meets PySem.F.slot_list_eq hT PySem.F.entry_list_eq (PySem.F.args_list_eq_2 _ _) (OSO.list_dec b dk.l) ⟨⟨XK, J⟩, hq⟩))
  | @dct b kvs hd =>
    cases ry
    have ne : b ≠ a := fun z => by
      rw [z, ha] at hd
      cases hd
    obtain ⟨_, _, vs, _, da⟩ := I.hok b _ hd
    have hT : s.TypeIs (.ref b) "dict" := da.typeIs
    unfold eqBool
    refine wpAny_holding ?_
    refine wpAny_ite_split (fun hab => absurd (by have := eq_of_beq hab; injection this) ne) (fun _ => ?_)
    exact wpAny_bind (rc hT PySem.F.slot_dict_eq dk.d (fun _ hq => wpAny_call_entry PySem.F.slot_dict_eq hT PySem.F.entry_dict_eq (OSO.dict_dec b dk.d hT XK J ⟨_, rfl, hq⟩) (PySem.F.args_dict_eq_2 _ _)))
def rNotInO (K : PySem.W.Frag) (C : Addr) (sp : Sp) : R2 := fun x y H Q => ∃ a p dx fs xs, x = .ref a ∧ y = .ref p ∧ H a = some (.ins C dx fs) ∧ H p = some (.lst xs) ∧ (∀ v ∈ xs, DecV K H v) ∧ (∀ v ∈ xs, ∀ H', Same H H' → sp [.ref a, v] H' (fun b H'' => b = .bl false ∧ Same H' H'') E0) ∧ ∀ H', Same H H' → Q (.bl true) H'
theorem op_notInO (F : FnOk X.prog X.w X.K X.mg X.base CX0 k f fd ps sp) (hr : Room (k + 1) X.A) (hs : PySem.W.findIn X.K (.ref C) "__eq__" = some (some (.ref f))) (hf : PySem.W.isFn X.K (.ref f) = true) (hb : Binds X.K fd ps []) (dk : DecK X.K C) :
    OpR X (compareOp .NotIn) (rNotInO X.K C sp) := by
  intro pins s σ H x y v u Q I rx ry h
  obtain ⟨a, p, dx, fs, xs, rfl, rfl, ha, hp, hd, hsp, q⟩ := h
  cases rx
  cases ry
  have sb : Sub X k X.A.in1 := (Sub.in1 (X := X) (n := k) ⟨hr, rfl⟩)
  refine OSO.notIn_own (N := xs.length) (fun s' => ∃ H', Inv X pins σ H' s' ∧ Same H H') (fun i s' z => ?_) (fun s' z => ?_) ⟨H, I, Same.refl H⟩
  · obtain ⟨H1, I1, e1⟩ := z
    obtain ⟨z, its, n, r, e⟩ := I1.hok p _ (e1 _ _ hp)
    refine ⟨its.toArray, n, e, by rw [List.size_toArray, ← r.length], fun h1 => ?_⟩
    have k1 : i < xs.length := by rw [r.length]; simpa using h1
    obtain ⟨u0, hu0, ru⟩ := r.get (List.getElem?_eq_getElem k1)
    have g1 : its[i]? = some its.toArray[i] := by
      have h1' : i < its.length := by simpa using h1
      rw [List.getElem?_eq_getElem h1'] <;> simp
    rw [g1] at hu0
    rw [Option.some.inj hu0]
    refine wpAny_mono (eq_right F sb hs hf hb dk I1 (e1 _ _ ha) ru ((hd _ (List.getElem_mem k1)).same e1) (hsp _ (List.getElem_mem k1) H1 e1)) (fun r2 s2 z => ?_) fun _ _ x => x
    obtain ⟨h2, H2, I2, e2⟩ := z
    exact ⟨h2, H2, I2, e1.trans e2⟩
  · obtain ⟨H1, I1, e1⟩ := z
    exact ⟨.bl true, H1, I1, rfl, q H1 e1⟩
end
end OS

set_option Elab.async false
set_option linter.all false
set_option maxRecDepth 100000
set_option maxHeartbeats 4000000
/-! str(x) by an own __str__ -/
namespace OS
open PySem PySem.Spec PyProof.Rows L2
def rStrO (C : Addr) (sp : Sp) : List V → Hp → VK → Prop := fun xs H Q => ∃ a dx fs, xs = [.ref a] ∧ H a = some (.ins C dx fs) ∧ sp [.ref a] H (fun v H' => ∃ z, v = .str z ∧ Q (.str z) H') E0
section
variable {X : Cx} {k : Nat} {f C : Addr} {fd : FuncData} {ps : List Str} {sp : Sp}
theorem cr_strO (F : FnOk X.prog X.w X.K X.mg X.base CX0 k f fd ps sp) (hr : Room (k + 2) X.A) (hs : PySem.W.findIn X.K (.ref C) "__str__" = some (some (.ref f))) (hf : PySem.W.isFn X.K (.ref f) = true) (hb : Binds X.K fd ps []) :
    CallR X (.type "str") (rStrO C sp) := by
  intro pins s σ H xs us Q I r h
  obtain ⟨a, dx, fs, rfl, ha, h⟩ := h
  obtain ⟨u, rfl, rx⟩ := vals1 r
  cases rx
  have sb : Sub X k X.A.in1.in1 := (Sub.in1 (X := X) (n := k) (Sub.in1 (X := X) (n := k + 1) ⟨hr, rfl⟩))
  obtain ⟨mA, J0, _⟩ := ins_get I.hok ha
  obtain ⟨od, J, _⟩ := J0.look
  have e0 : Env0 X.prog X.w X.K X.mg X.base X.A.in1.in1 X.stack s H := by
    have e := I.env0
    exact ⟨by rw [sb.fr]; exact e.frames, e.mod, e.bs, e.bsz, e.funs, e.frf, e.hok, e.bare⟩
  have hl := F.len _ _ _ _ h
  have r2 : Vals [V.ref a] [Value.ref a] := .cons rfl .nil
  refine PySem.W.kso_call sb.room.units0 I.kIn J hs hf ?_
  refine wpAny_call (codeAny_mono (F.run X.A.in1.in1 X.stack s H ⟨[.ref a], []⟩ [.ref a] [.ref a] _ E0 sb.room e0 (by
    have := hb s [.ref a] I.kIn (by simpa using hl)
    simpa using this) r2 h) fun r s' hq => ?_)
  cases r with
  | error e => exact (show False from hq).elim
  | ok fl =>
    cases fl with
    | ret w =>
      obtain ⟨z, H', I', rz, y, ez, q⟩ := I.after hq
      subst ez
      obtain ⟨t, rfl⟩ := rz
      exact ⟨.str y, H', I', ⟨t, rfl⟩, q⟩
    | next => exact False.elim hq
    | brk => exact False.elim hq
    | cont => exact False.elim hq
def rJoin (K : PySem.W.Frag) : V → List V → Hp → VK → Prop := fun x xs H Q => ∃ a p, ∃ ys : List Str, x = .str a ∧ xs = [.ref p] ∧ (SqL K H p (ys.map V.str) ∨ SqT K H p (ys.map V.str)) ∧ (ys.map (·.length)).sum + ys.length * a.length ≤ 16777216 ∧ Q (.str (Txt.join a ys)) H
theorem mt_joinK : MtR X "str.join" (rJoin X.K) := mt_join
theorem pe_joinR {o e : Expr} {to te : TE} {r : V → List V → Hp → VK → Prop} {apos pos : Pos} (rule : MtR X "str.join" r) (ho : PE X o to) (he : PE X e te) (hs : starEach [e] X.env = [(false, eval e X.env)] := by rfl) (hbase : attributeBase o "join" X.env (eval o X.env) = eval o X.env := by rfl) (hline : (apos.endLine == pos.line) = true := by rfl) :
    PE X (.Call (.Attribute o "join" apos) [e] [] pos) (tM1 r to te) := pe_m1 PySem.F.slot_str_join PySem.F.type_str_join rule ho he hs hbase hline
end
end OS

set_option Elab.async false
set_option linter.all false
set_option maxRecDepth 100000
set_option maxHeartbeats 4000000
/-! != of two instances by their own __eq__; own | and &; methods without arguments and by keywords within a try; two for clauses; unpacking of a list -/
namespace PySem.OSNeO
open PySem PySem.Spec PySem.Calls PyProof.Rows PySem.W
section
variable {prog : Program} {w : World} {M : Model} {A : Around} {E : Value → Shared → Prop} {s : Shared} {K : Frag} {x C f : Addr} {ox : Obj} {od : Option Obj} {b tb : Value} {name : Str}
theorem slot_ne : Slot "object" "__ne__" "object.__ne__" := .of (owner := "object") (n := "__ne__") (by rw [typeLookup_type, builtinLookup_eq_fast]; kernel_rfl) (by decide +kernel) (by decide +kernel) (by decide +kernel) (.inl (by decide +kernel)) (by kernel_rfl)
theorem ifBound_blt {id : String} {args : List Value} {Q : Option Value → Shared → Prop} (X : K.In s.heap) (I : InstAt s.heap x ox C od) (hs : findIn K (.ref C) name = some (some (.builtin id)))
    (hb : ∀ self, bindSpecial (.builtin id) self = pure (.builtin id, [self])) (h : wpAny M A (call (.builtin id) (.ref x :: args)) (fun v => Q (some v)) E s) : wpAny M A (callSpecialIfBound? (.ref x) name args) Q E s := by
  simp only [callSpecialIfBound?, bindSpecialIfBound?]
  refine wpAny_holding (wpAny_bind (wpAny_bind (wpAny_bind (I.type.here ((looks_findIn X hs).here ?_)))))
  refine wpAny_bind (wpAny_askSetting (wpAny_ite ?_))
  have fin : wpAny M A (call (.builtin id) ([.ref x] ++ args) >>= fun v => pure (some v)) Q E s := wpAny_bind (wpAny_mono h (fun v s' h' => wpAny_pure h') fun _ _ h' => h')
  split
  · exact wpAny_bind ((Looks.of_pure (hb _)).here (wpAny_pure (by exact fin)))
  · exact wpAny_tryCatch (wpAny_bind ((Looks.of_pure (hb _)).here (wpAny_pure (by exact fin))))
/-- object.__ne__ by an own __eq__ that tells a bool -/
theorem call_ne {Q : Value → Shared → Prop} (hu : A.in1.units < cLine) (X : K.In s.heap) (I : InstAt s.heap x ox C od) (hm : mroIn K C (.type "object") = some true) (hs : findIn K (.ref C) "__eq__" = some (some (.ref f))) (hf : isFn K (.ref f) = true)
    (h : wpAny (model prog w) A.in1 (call (.ref f) [.ref x, b]) (fun v s' => ∃ k, v = .bool k ∧ Q (.bool (!k)) s') E s) : wpAny (model prog w) A (call (.builtin "object.__ne__") [.ref x, b]) Q E s := by
  refine wpAny_call (codeAny_call_builtin slot_ne.plain PySem.F.cmpEntry_ne (check_slot (i := "object.__ne__") (owner := "object") (n := "__ne__") (by decide +kernel) (by decide +kernel) (I.type.andThen (looks_mroIn X hm)) (PySem.F.cmpArgs_ne _ _) ?_))
  unfold Builtin.«object.__ne__»
  refine wpAny_bind (m := slotArgs "__ne__" 1 _) (wpAny_pure ?_)
  refine wpAny_bind (m := cRoomFor _ _) (wpAny_cRoomFor hu ?_)
  refine wpAny_bind (m := callSpecialIfBound? (.ref x) (Str.ofString "__eq__") _) (ifBound_K X I hs hf (wpAny_mono h (fun r s' hq => ?_) fun _ _ y => y))
  obtain ⟨k, rfl, q⟩ := hq
  refine wpAny_bind (wpAny_of_eq (a := k) (by cases k <;> rfl) ?_)
  exact wpAny_pure q
theorem cmp_ne {h₀ : Heap} {L : Addr} {m : Str → Option Value} {Q : Value → Shared → Prop} (hu : A.units + 3 < cLine) (F : Fr h₀ L s.heap m) (X₀ : K.In h₀) (I : InstAt s.heap x ox C od) (hb : Looks (model prog w) s.heap (typeOf b) tb) (hn : notFirst K C tb = true)
    (hm : mroIn K C (.type "object") = some true) (hne : findIn K (.ref C) "__ne__" = some (some (.builtin "object.__ne__"))) (hs : findIn K (.ref C) "__eq__" = some (some (.ref f))) (hf : isFn K (.ref f) = true)
    (h : wpAny (model prog w) A.in1 (call (.ref f) [.ref x, b]) (fun v s' => ∃ k, v = .bool k ∧ Q (.bool (!k)) s') E s) : wpAny (model prog w) A (richCompare .NotEq (.ref x) b) Q E s := by
  have X := X₀.keeps F.keep
  have one : wpAny (model prog w) A (tryCompare (.ref x) (cmpInfo .NotEq).2.1 b) (fun r s' => ∃ v, r = some v ∧ Q v s') E s := by
    unfold tryCompare
    refine wpAny_bind (ifBound_blt X I hne slot_ne.bind (call_ne (by show A.units + 1 < cLine; omega) X I hm hs hf (wpAny_mono h (fun v s' hv => ?_) fun _ _ e => e)))
    obtain ⟨k, rfl, q⟩ := hv
    exact ⟨k, rfl, wpAny_pure ⟨_, rfl, q⟩⟩
  unfold richCompare
  simp only [oneThing_ref]
  refine wpAny_holding (wpAny_bind (wpAny_cRoomFor (by omega) ?_))
  refine wpAny_bind (I.type.here (wpAny_bind (hb.here ?_)))
  split
  · rename_i q
    have e : subIn K tb (.ref C) = some false := by
      rcases Bool.or_eq_true_iff.mp hn with e | e
      · rw [beq_iff_eq.mp e] at q; simp at q
      · exact beq_iff_eq.mp e
    refine wpAny_bind ((looks_subIn X e).here ?_)
    simp only [Bool.false_eq_true, if_false]
    refine wpAny_bind (wpAny_mono one (fun r s' z => ?_) fun _ _ e => e)
    obtain ⟨v, rfl, hq⟩ := z
    exact wpAny_pure hq
  · refine wpAny_bind (wpAny_pure ?_)
    simp only [Bool.false_eq_true, if_false]
    refine wpAny_bind (wpAny_mono one (fun r s' z => ?_) fun _ _ e => e)
    obtain ⟨v, rfl, hq⟩ := z
    exact wpAny_pure hq
end
end PySem.OSNeO
namespace OS
open PySem PySem.Spec PyProof.Rows L2 ClX
def rNeO (C : Addr) (sp : Sp) : R2 := fun x y H Q => ∃ a b dx dy fs gs, x = .ref a ∧ y = .ref b ∧ H a = some (.ins C dx fs) ∧ H b = some (.ins C dy gs) ∧ sp [x, y] H (fun v H' => ∃ k, v = .bl k ∧ Q (.bl (!k)) H') E0
section
variable {X : Cx} {k : Nat} {f C : Addr} {fd : FuncData} {ps : List Str} {sp : Sp}
theorem op_neO (F : FnOk X.prog X.w X.K X.mg X.base CX0 k f fd ps sp) (hr : Room (k + 2) X.A) (hs : PySem.W.findIn X.K (.ref C) "__eq__" = some (some (.ref f))) (hf : PySem.W.isFn X.K (.ref f) = true) (hb : Binds X.K fd ps []) (hn : PySem.W.notFirst X.K C (.ref C) = true)
    (hm : PySem.W.mroIn X.K C (.type "object") = some true) (hne : PySem.W.findIn X.K (.ref C) "__ne__" = some (some (.builtin "object.__ne__"))) :
    OpR X (compareOp .NotEq) (rNeO C sp) := by
  intro pins s σ H x y v u Q I rx ry h
  obtain ⟨a, b, dx, dy, fs, gs, rfl, rfl, ha, hb', h⟩ := h
  cases rx
  cases ry
  obtain ⟨mB, J', _⟩ := ins_get I.hok hb'
  obtain ⟨od', J', _⟩ := J'.look
  obtain ⟨mA, J, _⟩ := ins_get I.hok ha
  obtain ⟨od, J, _⟩ := J.look
  obtain ⟨m, hF⟩ := I.fr
  show wpAny (model X.prog X.w) X.A (richCompare .NotEq (.ref a) (.ref b)) (EP X pins σ Q) X.xe s
  have sb : Sub X k X.A.in1 := (Sub.in1 (X := X) (n := k) (⟨hr.mono (Nat.le_succ _), rfl⟩))
  have sb0 : Sub X (k + 1) X.A := ⟨hr.mono (Nat.le_succ _), rfl⟩
  refine PySem.OSNeO.cmp_ne (by have := hr.un; omega) hF I.ok.mod.kin J J'.type hn hm hne hs hf ?_
  have e0 : Env0 X.prog X.w X.K X.mg X.base X.A.in1 X.stack s H := by
    have e := I.env0
    exact ⟨by rw [sb.fr]; exact e.frames, e.mod, e.bs, e.bsz, e.funs, e.frf, e.hok, e.bare⟩
  have hl := F.len _ _ _ _ h
  have r2 : Vals [V.ref a, V.ref b] [Value.ref a, Value.ref b] := .cons rfl (.cons rfl .nil)
  refine wpAny_call (codeAny_mono (F.run X.A.in1 X.stack s H ⟨[.ref a, .ref b], []⟩ [.ref a, .ref b] [.ref a, .ref b] _ E0 sb.room e0 (by
    have := hb s [.ref a, .ref b] I.kIn (by simpa using hl)
    simpa using this) r2 h) fun r s' hq => ?_)
  cases r with
  | error e => exact (show False from hq).elim
  | ok fl =>
    cases fl with
    | ret w =>
      obtain ⟨z, H', I', rz, k, ez, q⟩ := I.after hq
      subst ez
      cases rz
      exact ⟨k, rfl, .bl (!k), H', I', rfl, q⟩
    | next => exact False.elim hq
    | brk => exact False.elim hq
    | cont => exact False.elim hq
end
/-! ### own | and & -/
def tOwnOp (C : Addr) (sp : Sp) (E : L2.St → XK) (ta tb : TE) : TE := fun σ H Q => ta σ H fun x H1 => tb σ H1 fun y H2 => ∃ a b dx dy fs gs, x = .ref a ∧ y = .ref b ∧ H2 a = some (.ins C dx fs) ∧ H2 b = some (.ins C dy gs) ∧ sp [x, y] H2 (fun v H' => ∃ r, v = .ref r ∧ Q v H') (E σ)
section
variable {X : Cx} {CX : CXT} {k : Nat} {f C p g : Addr} {mc : Value} {fd : FuncData} {ps : List Str} {sp : Sp} {E : L2.St → XK} {x m : Str} {q pos apos : Pos} {e o a b : Expr} {es : List Expr} {ta tb : TE} {t tk : TA} {pl : Sem Bool} {kws : List Keyword} {ks : List Str} {op : Operator}
theorem pe_ownOp (F : FnOk X.prog X.w X.K X.mg X.base CX k f fd ps sp) (hr : Room k X.A) (hs : PySem.W.findIn X.K (.ref C) (PySem.dunder op.info.2) = some (some (.ref f))) (hf : PySem.W.isFn X.K (.ref f) = true) (hb : Binds X.K fd ps []) (hc : PySem.W.selfFirst X.K C = true)
    (hx : ∀ σ, PassesAt CX X σ (E σ)) (ha : PE X a ta) (hbe : PE X b tb) : PE X (.BinOp a op b pos) (tOwnOp C sp E ta tb) := by
  refine ⟨fun pins s σ H Q I h => ?_⟩
  refine wpAny_BinOp (binT ha hbe I h fun v u s2 x y H2 I2 rx ry hq => ?_)
  obtain ⟨a, b, dx, dy, fs, gs, rfl, rfl, ea, eb, h⟩ := hq
  cases rx
  cases ry
  obtain ⟨mB, J', _⟩ := ins_get I2.hok eb
  obtain ⟨od', J', _⟩ := J'.look
  obtain ⟨mA, J, _⟩ := ins_get I2.hok ea
  obtain ⟨od, J, _⟩ := J.look
  obtain ⟨m, hF⟩ := I2.fr
  have r2 : Vals [V.ref a, V.ref b] [Value.ref a, Value.ref b] := .cons rfl (.cons rfl .nil)
  refine PySem.W.binop_K hF I2.ok.mod.kin J J'.type hc hs hf ?_
  have z := run_fnS (us := [.ref a, .ref b]) (vs := [.ref a, .ref b]) F hr hb (hx σ) I2 r2 h
  refine wpAny_mono z (fun v s' hv => ?_) fun _ _ e => e
  obtain ⟨w', H', I', rw', r, e1, q'⟩ := hv
  subst e1
  obtain rfl : v = Value.ref r := rw'
  show EP X pins σ Q (.ref r) s'
  exact ⟨V.ref r, H', I', rfl, q'⟩
/-! ### a method without arguments, in a try -/
def tMethS0 (C : Addr) (m : Str) (sp : Sp) (E : L2.St → XK) (ta : TE) : TE := fun σ H Q => ta σ H fun x H1 => ∃ a dx fs, x = .ref a ∧ H1 a = some (.ins C dx fs) ∧ fs.lookup m = none ∧ sp [x] H1 Q (E σ)
theorem pe_methS0 (he : PE X o ta) (c : Cls X.K C) (hm : Meth X.K C m f) (F : FnOk X.prog X.w X.K X.mg X.base CX k f fd ps sp) (hr : Room k X.A) (hb : Binds X.K fd ps []) (hx : ∀ σ, PassesAt CX X σ (E σ))
    (ht : eval (.Call (.Attribute o m apos) [] [] pos) X.env = (do
      let ov ← eval o X.env
      standAt apos.atName
      let (f, first) ← holding [ov] (getMethod ov m pl)
      callWith pos f first (backTo pos (starEach [] X.env)) (backToKw pos (keywordEach [] X.env))) := by rfl) :
    PE X (.Call (.Attribute o m apos) [] [] pos) (tMethS0 C m sp E ta) := by
  refine ⟨fun pins s σ H Q I h => ?_⟩
  refine PySem.W.methodCall_KW (pl := pl) (thn (he.run pins s σ H _ I h) fun u s1 ⟨x, H1, I1, rx, a, dx, fs, ex, ea, l, q⟩ => ?_) ht
  subst ex
  obtain rfl : u = Value.ref a := rx
  refine getmeth_ok I1 ea c hm l ?_
  exact PySem.W.callWith_K0 (first := [.ref a]) I1.kIn hm.kp (run_fnS (us := [.ref a]) (vs := [.ref a]) F hr hb (hx σ) I1 (.cons rfl .nil) q)
/-! ### .. by keywords alone, in a try -/
def tMethKS (C : Addr) (m : Str) (n : Nat) (sp : Sp) (gV : List V → List V → List V) (E : L2.St → XK) (ta : TE) (tk : TA) : TE := fun σ H Q => ta σ H fun x H1 => ∃ a dx fs, x = .ref a ∧ H1 a = some (.ins C dx fs) ∧ fs.lookup m = none ∧ tk σ H1 fun zs H2 => zs.length = n ∧ sp (gV [x] zs) H2 Q (E σ)
variable {gg : List Value → List Value → List Value} {gV : List V → List V → List V}
theorem pe_methKS0 (he : PE X o ta) (c : Cls X.K C) (hm : Meth X.K C m f) (F : FnOk X.prog X.w X.K X.mg X.base CX k f fd ps sp) (hr : Room k X.A) (hb : KBn X.K fd ps 1 ks gg gV) (hx : ∀ σ, PassesAt CX X σ (E σ)) (hkw : PK X kws tk)
    (hall : (backToKw pos (keywordEach kws X.env)).all (·.1.isSome) = true := by rfl) (hks : (backToKw pos (keywordEach kws X.env)).filterMap (·.1) = ks := by rfl)
    (hpl : ((backTo pos (starEach [] X.env)).any (·.1) || (backToKw pos (keywordEach kws X.env)).any (·.1.isNone)) = false := by rfl)
    (ht : eval (.Call (.Attribute o m apos) [] kws pos) X.env = (do
      let ov ← eval o X.env
      standAt apos.atName
      let (f, first) ← holding [ov] (getMethod ov m pl)
      callWith pos f first (backTo pos (starEach [] X.env)) (backToKw pos (keywordEach kws X.env))) := by rfl) :
    PE X (.Call (.Attribute o m apos) [] kws pos) (tMethKS C m ks.length sp gV E ta tk) := by
  refine ⟨fun pins s σ H Q I h => ?_⟩
  refine PySem.W.methodCall_KW (pl := pl) (thn (he.run pins s σ H _ I h) fun u s1 ⟨x, H1, I1, rx, a, dx, fs, ex, ea, l, q⟩ => ?_) ht
  subst ex
  obtain rfl : u = Value.ref a := rx
  refine getmeth_ok I1 ea c hm l ?_
  refine PySem.W.callWith_KW0 (first := [.ref a]) (h₀ := X.base) I.ok.mod.kin hm.kp hall ?_ hpl
  refine thn (hkw.run pos pins s1 σ H1 _ I1 q) fun ws s2 ⟨zs, H2, I2, rz, lz, q2⟩ => ⟨I2.kIn, ?_⟩
  rw [hks]
  have r1 : Vals [V.ref a] [Value.ref a] := .cons rfl .nil
  exact wpAny_call (run_fnRS F hr (hx σ) I2 (hb.to s2 [Value.ref a] ws I2.kIn rfl (rz.length.symm.trans lz)) (hb.rel r1 rz) q2)
end
/-! ### two for clauses: for a in xs for b in ys -/
section
variable {J : It} {n : Nat} {G : Hp → Prop} {Y : Nat → Hp → V → Hp → Prop}
theorem in_it (w : Walk J n G Y) {g : TG} {tt : TT} {te : TE} {vs : List Nat} {σ : L2.St} {H1 : Hp} {D : Addr} {Qd : Hp → Prop} (Pv : Nat → Hp → Prop) (h0 : Pv 0 H1) (hG : ∀ i H, i ≤ n → Pv i H → G H)
    (hs : ∀ i x H H', i < n → Pv i H → Y i H x H' → g x (wipe σ vs) H' fun σ2 H2 => wipe σ2 vs = wipe σ vs ∧ tt σ2 H2 fun b H3 =>
      if b = true then te σ2 H3 fun y H4 => ∃ acc, H4 D = some (.lst acc) ∧ acc.length < sizeLine ∧ Pv (i + 1) (upd H4 D (.lst (acc ++ [y]))) else Pv (i + 1) H3) (hd : ∀ H, Pv n H → Qd H) :
    ∃ W : Nat → Nat → Hp → Prop, (∃ m, W 0 m H1) ∧ ∀ i m H, W i m H →
      (J.stop i H ∧ Qd H) ∨ (J.go i H ∧ ∃ Nx : Hp → Prop, (∀ H', Nx H' → ∃ m', m' < m ∧ W (i + 1) m' H') ∧ ∀ x H', J.yld i H x H' → g x (wipe σ vs) H' fun σ2 H2 => wipe σ2 vs = wipe σ vs ∧ tt σ2 H2 fun b H3 =>
        if b = true then te σ2 H3 fun y H4 => ∃ acc, H4 D = some (.lst acc) ∧ acc.length < sizeLine ∧ Nx (upd H4 D (.lst (acc ++ [y]))) else Nx H3) := by
  refine ⟨fun i m H => m = n - i ∧ i ≤ n ∧ Pv i H, ⟨n, by simp, Nat.zero_le _, h0⟩, ?_⟩
  rintro i m H ⟨rfl, hi, p⟩
  have q := hG i H hi p
  by_cases hlt : i < n
  · refine .inr ⟨w.goes i H hlt q, Pv (i + 1), fun H' p' => ⟨n - (i + 1), by omega, rfl, hlt, p'⟩, fun x H' y => hs i x H H' hlt p (w.yields i H x H' hlt q y)⟩
  · have e : i = n := by omega
    subst e
    exact .inl ⟨w.stops H q, hd H p⟩
theorem lc2_it (w : Walk J n G Y) {g : TG} {tt : TT} {tb : L2.St → Hp → (Hp → Prop) → Prop} {vs : List Nat} {σ : L2.St} {H1 : Hp} {D : Addr} {Qd : Hp → Prop} (Pv : Nat → Hp → Prop) (h0 : Pv 0 (upd H1 D (.lst []))) (hG : ∀ i H, i ≤ n → Pv i H → G H)
    (hs : ∀ i x H H', i < n → Pv i H → Y i H x H' → g x (wipe σ vs) H' fun σ2 H2 => wipe σ2 vs = wipe σ vs ∧ tt σ2 H2 fun b H3 =>
      if b = true then tb σ2 H3 (Pv (i + 1)) else Pv (i + 1) H3) (hd : ∀ H, Pv n H → Qd H) :
    ∃ W : Nat → Nat → Hp → Prop, (∃ m, W 0 m (upd H1 D (.lst []))) ∧ ∀ i m H, W i m H →
      (J.stop i H ∧ Qd H) ∨ (J.go i H ∧ ∃ Nx : Hp → Prop, (∀ H', Nx H' → ∃ m', m' < m ∧ W (i + 1) m' H') ∧ ∀ x H', J.yld i H x H' → g x (wipe σ vs) H' fun σ2 H2 => wipe σ2 vs = wipe σ vs ∧ tt σ2 H2 fun b H3 =>
        if b = true then tb σ2 H3 Nx else Nx H3) := by
  refine ⟨fun i m H => m = n - i ∧ i ≤ n ∧ Pv i H, ⟨n, by simp, Nat.zero_le _, h0⟩, ?_⟩
  rintro i m H ⟨rfl, hi, p⟩
  have q := hG i H hi p
  by_cases hlt : i < n
  · refine .inr ⟨w.goes i H hlt q, Pv (i + 1), fun H' p' => ⟨n - (i + 1), by omega, rfl, hlt, p'⟩, fun x H' y => hs i x H H' hlt p (w.yields i H x H' hlt q y)⟩
  · have e : i = n := by omega
    subst e
    exact .inl ⟨w.stops H q, hd H p⟩
end
/-! ### (a, b, ..) = a list of that length -/
def gTupL (K : PySem.W.Frag) (n : Nat) (t : TGs) : TG := fun v σ H Q => ∃ a xs, v = .ref a ∧ SqL K H a xs ∧ xs.length = n ∧ t xs σ H Q
theorem pg_tupL {X : Cx} {es : List Expr} {k : Nat} {pos : Pos} {t : TGs} {n : Nat} (hc : X.calm = true) (h : PGs X es t)
    (hn : (assignEach es X.env).length = n := by rfl) (hst : (assignEach es X.env).findIdx? (·.1) = none := by rfl) : PG X (.Tuple es k pos) (gTupL X.K n t) := by
  refine ⟨fun pins s σ H v u Q I r hw => ?_⟩
  obtain ⟨a, xs, e1, hq, hl, hw⟩ := hw
  subst e1
  cases r
  obtain ⟨its, rv, ht, hz⟩ := I.list hq
  rw [assign_Tuple]
  refine wpAny_bind (wpAny_standAt ?_)
  have e2 : its.toArray.size = n := by simp [← hl, rv.length]
  unfold unpack
  rw [hn, hst, ← e2]
  refine wpAny_bind (wpAny_holding (PySem.W.kun_itemsOf (I.ok.hd hc) ht.isList fun h' hx => ?_))
  have I1 : Inv X pins σ H { s with heap := h' } := I.kept (t' := s.toks) fun b o e => hx b o (Nat.ne_of_lt (Heap.lt_size e)) e
  exact h.run pins _ σ H xs _ Q I1 (by simpa using rv) hw
end OS

set_option Elab.async false
set_option linter.all false
set_option maxRecDepth 100000
set_option maxHeartbeats 4000000
namespace OS
open PySem PySem.Spec PyProof.Rows L2
/-! ### f(k = v, ..) in a try -/
def tCallKS (sp : Sp) (gV : List V → List V → List V) (E : L2.St → XK) (tk : TA) : TE := fun σ H Q => tk σ H fun zs H1 => sp (gV [] zs) H1 Q (E σ)
section
variable {X : Cx} {CX : CXT} {k : Nat} {f : Addr} {fd : FuncData} {ps ks : List Str} {sp : Sp} {E : L2.St → XK} {x : Str} {p pos : Pos} {kws : List Keyword} {tk : TA} {g : List Value → List Value → List Value} {gV : List V → List V → List V}
theorem pe_callKS0 (F : FnOk X.prog X.w X.K X.mg X.base CX k f fd ps sp) (hr : Room k X.A) (hg : Gl X x) (hm : X.mg x = some (.ref f)) (hk : PySem.W.keepIn X.K (.ref f) = true) (hb : KBinds X.K fd ps ks g gV) (hx : ∀ σ, PassesAt CX X σ (E σ))
    (hkw : PK X kws tk) (hall : (backToKw pos (keywordEach kws X.env)).all (·.1.isSome) = true := by rfl) (hks : (backToKw pos (keywordEach kws X.env)).filterMap (·.1) = ks := by rfl)
    (hdb : (x == ("__debug__" : Str)) = false := by decide)
    (hpl : ((backTo pos (starEach [] X.env)).any (·.1) || (backToKw pos (keywordEach kws X.env)).any (·.1.isNone)) = false := by rfl) :
    PE X (.Call (.Name x p) [] kws pos) (tCallKS sp gV E tk) := by
  refine ⟨fun pins s σ H Q I h => ?_⟩
  refine wpAny_Call_Name_kw (ld_glob I hg hm ?_ hdb)
  refine PySem.W.callWith_KW0 (h₀ := X.base) I.ok.mod.kin hk hall ?_ hpl
  refine thn (hkw.run pos pins s σ H _ I h) fun ws s2 ⟨zs, H2, I2, rz, q2⟩ => ⟨I2.kIn, ?_⟩
  rw [hks]
  have r2 := hb.rel (vs := []) (us := []) .nil rz
  have hl : (g [] ws).length = ps.length := by rw [← r2.length]; exact F.len _ _ _ _ q2
  refine wpAny_call (codeAny_mono (F.run X.A X.stack s2 H2 ⟨[], ks.zip ws⟩ (g [] ws) (gV [] zs) Q (E σ) hr I2.env0 (hb.to s2 [] ws I2.kIn hl) r2 q2) fun r s' hq => ?_)
  cases r with
  | error e => exact hx σ pins H2 s2 e s' I2 hq
  | ok fl =>
    cases fl with
    | ret u => exact I2.after hq
    | next => exact False.elim hq
    | brk => exact False.elim hq
    | cont => exact False.elim hq
end
end OS

set_option Elab.async false
set_option linter.all false
set_option maxRecDepth 100000
set_option maxHeartbeats 4000000
/-! sets of texts: set(list), set(tuple), sorted(set) -/
namespace OS
open PySem PySem.Spec PyProof.Rows L2 PySem.Froz

/-- the texts met, the last one first -/
def metS (xs : List Str) : List Str := xs.foldl (fun l k => if k ∈ l then l else k :: l) []
theorem metS_snoc (xs : List Str) (k : Str) : metS (xs ++ [k]) = if k ∈ metS xs then metS xs else k :: metS xs := by
  unfold metS
  rw [List.foldl_append]
  rfl
theorem metS_facts (xs : List Str) : (metS xs).Nodup ∧ (∀ k, k ∈ metS xs ↔ k ∈ xs) ∧ (metS xs).length ≤ xs.length := by
  suffices h : ∀ ys : List Str, (metS ys.reverse).Nodup ∧ (∀ k, k ∈ metS ys.reverse ↔ k ∈ ys.reverse) ∧ (metS ys.reverse).length ≤ ys.reverse.length by
    have := h xs.reverse
    rwa [List.reverse_reverse] at this
  intro ys
  induction ys with
  | nil => exact ⟨List.Pairwise.nil, fun k => Iff.rfl, Nat.le_refl _⟩
  | cons y ys ih =>
    obtain ⟨h1, h2, h3⟩ := ih
    rw [List.reverse_cons, metS_snoc]
    by_cases e : y ∈ metS ys.reverse
    · rw [if_pos e]
      refine ⟨h1, fun k => ?_, by rw [List.length_append]; omega⟩
      rw [h2, List.mem_append, List.mem_singleton]
      exact ⟨.inl, fun z => z.elim id fun z => z ▸ (h2 y).mp e⟩
    · rw [if_neg e]
      refine ⟨List.nodup_cons.mpr ⟨e, h1⟩, fun k => ?_, by rw [List.length_cons, List.length_append]; exact Nat.succ_le_succ h3⟩
      rw [List.mem_cons, h2, List.mem_append, List.mem_singleton]
      exact Or.comm
/-- a set's payload of texts that can be walked -/
structure TxR (P : Program) (w : World) (D : SD) (l : List Str) : Prop where
  ok : TxOk P w D l
  ris : Ris D.2.2.place.toList
  led : w.params.followText "set-order" = true ∨ D.2.2.led = true
section
variable {P : Program} {w : World} {A : Around} {E : Value → Shared → Prop} {s : Shared}
theorem TxR.add {D : SD} {l : List Str} {k : Str} (u : Tok) (F : TxR P w D l) : TxR P w (addTx (hashStr w k) (.str k u) D) (k :: l) := by
  have hr := layNew_ris D.2.2 D.1 (hashStr w k) (.str k u) F.ris
  have hl := layNew_led D.2.2 D.1 (hashStr w k) (.str k u)
  have tailR : ∀ (ep : Nat) (es : Array (Int × Value)) (t : SetTable) (b : Bool), Ris t.place.toList → Ris (tailTx ep es t b).2.2.place.toList := fun ep es t b h => by
    unfold tailTx
    by_cases c : (!b && t.tooFull) = true
    · rw [if_pos c]
      exact relayAll_ris _ _ _
    · rw [if_neg c]
      exact h
  have tailL : ∀ (ep : Nat) (es : Array (Int × Value)) (t : SetTable) (b : Bool), t.led = true → (tailTx ep es t b).2.2.led = true := fun ep es t b h => by
    unfold tailTx
    by_cases c : (!b && t.tooFull) = true
    · rw [if_pos c]
      exact (relayAll_led _ _ _).trans h
    · rw [if_neg c]
      exact h
  refine ⟨add_ok u F.ok, ?_, F.led.imp id fun z => ?_⟩
  · unfold addTx
    refine tailR _ _ _ _ ?_
    by_cases c : (layNew D.2.2 D.1 (hashStr w k) (.str k u)).2.1.plain = true
    · rw [if_pos c]
      exact hr
    · rw [if_neg c]
      exact hr
  · unfold addTx
    refine tailL _ _ _ _ ?_
    by_cases c : (layNew D.2.2 D.1 (hashStr w k) (.str k u)).2.1.plain = true
    · rw [if_pos c]
      exact hl.trans z
    · rw [if_neg c]
      exact hl.trans z
/-- the add of a text that is in -/
theorem dup_x {a : Addr} {T : String} {D : SD} {l : List Str} {k : Str} {u : Tok} {Q : Bool → Shared → Prop} (ho : s.heap.get? a = some (sObj T D)) (F : TxOk P w D l) (hk : k ∈ l) (hb : l.length < scanBound) (h : Q false s) :
    wpAny (model P w) A (setAddHashed a (.str k u) (hashStr w k)) Q E s := by
  obtain ⟨es, ep, t⟩ := D
  have hb' : es.size < scanBound := by
    have : es.size = l.length := F.sz
    omega
  unfold setAddHashed setAddHashedIn
  refine wpAny_holding (wpAny_bind (wpAny_setState_of ho rfl F.fit ?_))
  dsimp only
  rw [byScan_of rfl hb' F.el]
  simp only [↓reduceIte]
  unfold setAddByScan
  refine wpAny_bind ?_
  refine wpAny_bind (wpAny_rule ?_)
  refine wpAny_bind (wpAny_setScan_of (is_str (P := P) (w := w) k u) ho rfl F.fit F.el ?_)
  obtain ⟨e, he, q⟩ := (F.mem k).mp hk
  cases hf : List.findIdx? (fun e => (strKind P w).is k e.2) es.toList with
  | none =>
    have := List.findIdx?_eq_none_iff.mp hf e he
    rw [q] at this
    cases this
  | some j =>
    dsimp only
    exact wpAny_pure (wpAny_pure h)
end
section
variable {P : Program} {w : World} {A : Around} {R : Result → Shared → Prop} {I : Addr} {fp wr : List Addr} {G : Array GenState → Array GenState → Prop} {n : Nat} {Pv : Nat → Value → Prop} {St : Nat → Shared → Prop}
/-- what set.update's loop comes to, over texts -/
theorem upd_txt (W : WalksS P w A.in1 I fp wr G n Pv St) (S : Addr) (hS : S ∉ fp) (xs : List Str) (hn : xs.length = n) (hv : ∀ i v, Pv i v → ∃ u x, xs[i]? = some x ∧ v = .str x u) (hb : n + 1 < scanBound) :
    ∀ (k i : Nat) (s : Shared), n - i = k → i ≤ n → St i s → (∃ D, s.heap.get? S = some (sObj "set" D) ∧ TxR P w D (metS (xs.take i))) →
      (∀ s', Moved (S :: wr) G s s' → (∃ D, s'.heap.get? S = some (sObj "set" D) ∧ TxR P w D (metS xs)) → R (.ok (.ret .none)) s') →
      codeAny (model P w) A (.builtin "set.update.loop" ⟨[.ref S, .ref I], []⟩) R s := by
  have hw : S ∉ wr := fun h => hS (W.sub _ h)
  have wide : ∀ b ∈ wr, b ∈ S :: wr := fun b h => List.mem_cons_of_mem _ h
  intro k
  induction k with
  | zero =>
    intro i s hk hi hst ⟨D, hD, T⟩ hR
    obtain rfl : i = n := by omega
    refine codeAny_builtin PyProof.Rows.F.entry_set_update_loop ?_
    rw [Around.under_plainId PyProof.Rows.F.plain_set_update_loop _]
    show wpAny _ A.in1 (pyNext (.ref I) >>= _) _ _ s
    refine wpAny_bind (W.done s _ _ hst fun s' hm => ?_)
    show wpAny _ A.in1 (ret Value.none) _ _ s'
    rw [← hn, List.take_length] at T
    exact wpAny_pure (hR s' (hm.mono wide) ⟨D, hm.heap S _ hw hD, T⟩)
  | succ k ih =>
    intro i s hk hi hst ⟨D, hD, T⟩ hR
    have hlt : i < n := by omega
    refine codeAny_builtin PyProof.Rows.F.entry_set_update_loop ?_
    rw [Around.under_plainId PyProof.Rows.F.plain_set_update_loop _]
    show wpAny _ A.in1 (pyNext (.ref I) >>= _) _ _ s
    refine wpAny_bind (W.item i s _ _ hlt hst fun v s' hP hst' hm => ?_)
    obtain ⟨u, x, hx, rfl⟩ := hv i v hP
    have hD' := hm.heap S _ hw hD
    have hlen : (metS (xs.take i)).length ≤ i := Nat.le_trans (metS_facts _).2.2 (by rw [List.length_take]; omega)
    have tk : xs.take (i + 1) = xs.take i ++ [x] := by
      rw [List.take_succ, hx]
      rfl
    show wpAny _ A.in1 (holding [Value.str x u] (setAdd S (.str x u)) >>= _) _ _ s'
    refine wpAny_bind (wpAny_holding ?_)
    unfold setAdd
    refine wpAny_holding ?_
    refine wpAny_bind ((strKind P w).pyHash (k := x) (is_str _ _) ?_)
    by_cases e : x ∈ metS (xs.take i)
    · refine dup_x (l := metS (xs.take i)) (D := D) (s := { s' with toks := s'.toks + 1 }) hD' T.ok e (by omega) ?_
      refine wpAny_pure ⟨plainId_quiet PyProof.Rows.F.plain_set_update_loop _, ih (i + 1) _ (by omega) hlt (W.frame _ s' s'.heap _ hst' (Nat.le_succ _) fun b _ o q => q) ⟨D, hD', by rw [tk, metS_snoc, if_pos e]; exact T⟩ fun s2 hm2 h2 => ?_⟩
      exact hR s2 (Moved.trans W.gtrans ((hm.mono wide).then_heap (Nat.le_succ _) fun b o _ q => q) hm2) h2
    · have ha2 : (s'.heap.update S (fun _ => sObj "set" (addTx (hashStr w x) (.str x u) D))).get? S = some (sObj "set" (addTx (hashStr w x) (.str x u) D)) := get_upd _ hD' rfl
      refine add_x (l := metS (xs.take i)) (D := D) (s := { s' with toks := s'.toks + 1 }) hD' T.ok e (by omega) ?_
      refine wpAny_pure ⟨plainId_quiet PyProof.Rows.F.plain_set_update_loop _, ih (i + 1) _ (by omega) hlt (W.frame _ s' _ _ hst' (Nat.le_succ _) fun b hb' o q => ?_) ⟨_, ha2, by rw [tk, metS_snoc, if_neg e]; exact T.add u⟩ fun s2 hm2 h2 => ?_⟩
      · exact Heap.get?_update_of_ne _ (fun z => hS (z ▸ hb')) q
      · refine hR s2 (Moved.trans W.gtrans ((hm.mono wide).then_heap (Nat.le_succ _) fun b o hb' q => ?_) hm2) h2
        exact Heap.get?_update_of_ne _ (fun z => hb' (by rw [← z]; exact List.mem_cons_self ..)) q
end
section
variable {P : Program} {w : World} {A : Around} {E : Value → Shared → Prop} {s : Shared}

set_option maxRecDepth 100000 in
set_option maxHeartbeats 3200000 in
/-- set(xs) of a list of texts -/
theorem set_of_list {l : Addr} {items : Array Value} {xs : List Str} {Q : Value → Shared → Prop} (hh : A.handled = none) (hl : s.heap.IsList l items) (hit : Vals (xs.map V.str) items.toList) (hb : xs.length + 1 < scanBound)
    (h : ∀ (h' : Heap) (tk : Nat), (∃ D, h'.get? s.heap.objs.size = some (sObj "set" D) ∧ TxR P w D (metS xs)) → (∀ b o, s.heap.get? b = some o → h'.get? b = some o) → Q (.ref s.heap.objs.size) { s with heap := h', toks := tk }) :
    wpAny (model P w) A (call (.type "set") [.ref l]) Q E s := by
  have hsz : items.size = xs.length := by
    have q := hit.length
    rw [List.length_map, Array.length_toList] at q
    exact q.symm
  obtain ⟨c, tl, hmro⟩ := F.called_set.mro
  have hmade := F.called_set.made
  have hsub := F.called_set.sub
  refine wpAny_call (codeAny_of_tree ?_)
  show wpAny _ _ (callAny (.type "set") _) _ _ _
  refine wpAny_pure ⟨Code.quiet_builtin _ (by decide +kernel), codeAny_builtin F.entry_type_call ?_⟩
  rw [Around.under_plain (weight_type_call_type "set" [.ref l] []) rfl]
  have h1 := F.called_set.notType
  have h2 := F.called_set.canCreate
  have hct := F.typeCall_set_1 (.ref l)
  repeat (any_goals (first | assumption | wp_step))
  generalize he0 : (!w.params.followText "set-order") = ld
  refine codeAny_mono (code_set_led1 (.ref l) (E := E) (Q₁ := fun obj s1 => obj = .ref s.heap.objs.size ∧ s1 = { s with heap := s.heap.push ({ cls := .type "set", dict := none, data := .set #[] 0 (.fresh 0 0 ld) } : Obj) }) ⟨rfl, by rw [he0]⟩) fun r s1 hr => ?_
  cases r with
  | error e => exact hr
  | ok fl =>
    cases fl with
    | ret obj =>
      obtain ⟨rfl, rfl⟩ := hr
      have hS : (s.heap.push ({ cls := .type "set", dict := none, data := .set #[] 0 (.fresh 0 0 ld) } : Obj)).get? s.heap.objs.size = some ({ cls := .type "set", dict := none, data := .set #[] 0 (.fresh 0 0 ld) } : Obj) := Heap.get?_push_size _ rfl
      have hT : Shared.TypeIs { s with heap := s.heap.push ({ cls := .type "set", dict := none, data := .set #[] 0 (.fresh 0 0 ld) } : Obj) } (.ref s.heap.objs.size) "set" := ⟨_, hS, rfl⟩
      have hli := F.called_set.init.lookup
      have hbi := F.called_set.init.bind (.ref s.heap.objs.size)
      repeat (any_goals (first | assumption | wp_step))
      refine codeAny_mono (codeAny_call_builtin (R := wants (fun r s2 => r = .none ∧ ∃ h' tk, s2 = { s with heap := h', toks := tk } ∧ (∃ D, h'.get? s.heap.objs.size = some (sObj "set" D) ∧ TxR P w D (metS xs)) ∧ (∀ b o, s.heap.get? b = some o → h'.get? b = some o)) E) F.called_set.init.plain F.entry_set_init (check_set_init_1 hT ?_)) fun r2 s2 hr2 => ?_
      · obtain ⟨ol, hol, hcl, nl, hdl⟩ := hl
        obtain ⟨ocls, odict, odata, oslots⟩ := ol
        simp only at hcl hdl
        subst hcl hdl
        have hol' : (s.heap.push ({ cls := .type "set", dict := none, data := .set #[] 0 (.fresh 0 0 ld) } : Obj)).get? l = some { cls := .type "list", dict := odict, data := .seq items nl, slots := oslots } := Heap.get?_push_of_some _ hol
        have hsls := F.sub_list_set
        have hslf := F.sub_list_frozenset
        have hne : (Value.type "list" == Value.type "dict") = false := by decide
        have hl1 : (s.heap.push ({ cls := .type "set", dict := none, data := .set #[] 0 (.fresh 0 0 ld) } : Obj)).IsList l items := ⟨_, hol', rfl, nl, rfl⟩
        unfold Builtin.«set.__init__» noKeywords Builtin.Frozenset.updateFrom
        generalize hPI : pyIter = PI
        wp_walk
        subst hPI
        refine wpAny_pyIter_list (s := { s with heap := s.heap.push ({ cls := .type "set", dict := none, data := .set #[] 0 (.fresh 0 0 ld) } : Obj) }) hl1 ?_
        refine wpAny_bind (wpAny_runValue ?_)
        have hlS : l < s.heap.objs.size := Heap.lt_size hol
        have hh3 : A.in1.in1.in1.handled = none := by simp [hh]
        have hneI : l ≠ (s.heap.push ({ cls := .type "set", dict := none, data := .set #[] 0 (.fresh 0 0 ld) } : Obj)).objs.size := by
          rw [Heap.size_push]
          exact Nat.ne_of_lt (Nat.lt_succ_of_lt hlS)
        have hSf : s.heap.objs.size ∉ [(s.heap.push ({ cls := .type "set", dict := none, data := .set #[] 0 (.fresh 0 0 ld) } : Obj)).objs.size, l] := by
          rw [Heap.size_push]
          simp only [List.mem_cons, List.mem_singleton, List.not_mem_nil, or_false, not_or]
          exact ⟨Nat.ne_of_lt (Nat.lt_succ_self _), Nat.ne_of_gt hlS⟩
        have hv : ∀ (i : Nat) (v : Value), items[i]? = some v → ∃ u x, xs[i]? = some x ∧ v = .str x u := fun i v hv => by
          have hi : i < xs.length := by
            rw [← hsz]
            exact (Array.getElem?_eq_some_iff.mp hv).1
          have e : (xs.map V.str)[i]? = some (V.str xs[i]) := by rw [List.getElem?_map, List.getElem?_eq_getElem hi]; rfl
          obtain ⟨u, hu, ru⟩ := hit.get e
          rw [Array.getElem?_toList, hv] at hu
          obtain rfl := Option.some.inj hu
          obtain ⟨t, rfl⟩ := ru
          exact ⟨t, _, List.getElem?_eq_getElem hi, rfl⟩
        refine upd_txt ((Walks.list hh3 _ l hneI items).toS) s.heap.objs.size hSf xs hsz.symm hv (by rw [hsz]; exact hb) (items.size - 0) 0 _ (by omega) (Nat.zero_le _) ⟨⟨_, Heap.get?_push_size _ rfl, rfl, rfl⟩, (hl1.push _)⟩ ?h0 ?hR
        case h0 =>
          refine ⟨(#[], 0, .fresh 0 0 ld), ?_, ⟨.nil (by rfl), List.Pairwise.nil, ?_⟩⟩
          · exact Heap.get?_push_of_some _ hS
          · rw [← he0]
            show _ ∨ (!w.params.followText "set-order") = true
            cases w.params.followText "set-order"
            · exact .inr rfl
            · exact .inl rfl
        case hR =>
          intro s' hm hD
          obtain ⟨h', g', d', tk', os'⟩ := s'
          have eg : g' = s.gens := hm.gens
          have ed : d' = s.drawn := hm.drawn
          have eo : os' = s.os := hm.os
          subst eg ed eo
          show wpAny _ _ _ _ _ _
          refine wpAny_pure ?_
          show wpAny _ _ (ret Value.none) _ _ _
          refine wpAny_pure ⟨rfl, h', tk', rfl, hD, fun b o e => ?_⟩
          have hb0 : b < s.heap.objs.size := Heap.lt_size e
          refine hm.heap b o ?_ (Heap.get?_push_of_some _ (Heap.get?_push_of_some _ e))
          rw [Heap.size_push]
          simp only [List.mem_cons, List.mem_singleton, List.not_mem_nil, or_false, not_or]
          exact ⟨Nat.ne_of_lt hb0, Nat.ne_of_lt (Nat.lt_succ_of_lt hb0)⟩
      · cases r2 with
        | error e => exact hr2
        | ok fl2 =>
          cases fl2 with
          | ret r =>
            obtain ⟨rfl, h', tk, rfl, hD, hk⟩ := hr2
            repeat (any_goals (first | assumption | wp_step))
            exact h _ _ hD hk
          | _ => exact hr2.elim
    | _ => exact hr.elim

set_option maxRecDepth 100000 in
set_option maxHeartbeats 3200000 in
/-- set(xs) of a tuple of texts -/
theorem set_of_tuple {l : Addr} {items : Array Value} {xs : List Str} {Q : Value → Shared → Prop} (hh : A.handled = none) (hl : s.heap.IsTuple l items) (hit : Vals (xs.map V.str) items.toList) (hb : xs.length + 1 < scanBound)
    (h : ∀ (h' : Heap) (tk : Nat), (∃ D, h'.get? s.heap.objs.size = some (sObj "set" D) ∧ TxR P w D (metS xs)) → (∀ b o, s.heap.get? b = some o → h'.get? b = some o) → Q (.ref s.heap.objs.size) { s with heap := h', toks := tk }) :
    wpAny (model P w) A (call (.type "set") [.ref l]) Q E s := by
  have hsz : items.size = xs.length := by
    have q := hit.length
    rw [List.length_map, Array.length_toList] at q
    exact q.symm
  obtain ⟨c, tl, hmro⟩ := F.called_set.mro
  have hmade := F.called_set.made
  have hsub := F.called_set.sub
  refine wpAny_call (codeAny_of_tree ?_)
  show wpAny _ _ (callAny (.type "set") _) _ _ _
  refine wpAny_pure ⟨Code.quiet_builtin _ (by decide +kernel), codeAny_builtin F.entry_type_call ?_⟩
  rw [Around.under_plain (weight_type_call_type "set" [.ref l] []) rfl]
  have h1 := F.called_set.notType
  have h2 := F.called_set.canCreate
  have hct := F.typeCall_set_1 (.ref l)
  repeat (any_goals (first | assumption | wp_step))
  generalize he0 : (!w.params.followText "set-order") = ld
  refine codeAny_mono (code_set_led1 (.ref l) (E := E) (Q₁ := fun obj s1 => obj = .ref s.heap.objs.size ∧ s1 = { s with heap := s.heap.push ({ cls := .type "set", dict := none, data := .set #[] 0 (.fresh 0 0 ld) } : Obj) }) ⟨rfl, by rw [he0]⟩) fun r s1 hr => ?_
  cases r with
  | error e => exact hr
  | ok fl =>
    cases fl with
    | ret obj =>
      obtain ⟨rfl, rfl⟩ := hr
      have hS : (s.heap.push ({ cls := .type "set", dict := none, data := .set #[] 0 (.fresh 0 0 ld) } : Obj)).get? s.heap.objs.size = some ({ cls := .type "set", dict := none, data := .set #[] 0 (.fresh 0 0 ld) } : Obj) := Heap.get?_push_size _ rfl
      have hT : Shared.TypeIs { s with heap := s.heap.push ({ cls := .type "set", dict := none, data := .set #[] 0 (.fresh 0 0 ld) } : Obj) } (.ref s.heap.objs.size) "set" := ⟨_, hS, rfl⟩
      have hli := F.called_set.init.lookup
      have hbi := F.called_set.init.bind (.ref s.heap.objs.size)
      repeat (any_goals (first | assumption | wp_step))
      refine codeAny_mono (codeAny_call_builtin (R := wants (fun r s2 => r = .none ∧ ∃ h' tk, s2 = { s with heap := h', toks := tk } ∧ (∃ D, h'.get? s.heap.objs.size = some (sObj "set" D) ∧ TxR P w D (metS xs)) ∧ (∀ b o, s.heap.get? b = some o → h'.get? b = some o)) E) F.called_set.init.plain F.entry_set_init (check_set_init_1 hT ?_)) fun r2 s2 hr2 => ?_
      · obtain ⟨ol, hol, hcl, nl, hdl⟩ := hl
        obtain ⟨ocls, odict, odata, oslots⟩ := ol
        simp only at hcl hdl
        subst hcl hdl
        have hol' : (s.heap.push ({ cls := .type "set", dict := none, data := .set #[] 0 (.fresh 0 0 ld) } : Obj)).get? l = some { cls := .type "tuple", dict := odict, data := .seq items nl, slots := oslots } := Heap.get?_push_of_some _ hol
        have hsls := F.sub_tuple_set
        have hslf := F.sub_tuple_frozenset
        have hne : (Value.type "tuple" == Value.type "dict") = false := by decide
        have hl1 : (s.heap.push ({ cls := .type "set", dict := none, data := .set #[] 0 (.fresh 0 0 ld) } : Obj)).IsTuple l items := ⟨_, hol', rfl, nl, rfl⟩
        unfold Builtin.«set.__init__» noKeywords Builtin.Frozenset.updateFrom
        generalize hPI : pyIter = PI
        wp_walk
        subst hPI
        refine wpAny_pyIter_tuple (s := { s with heap := s.heap.push ({ cls := .type "set", dict := none, data := .set #[] 0 (.fresh 0 0 ld) } : Obj) }) hl1 ?_
        refine wpAny_bind (wpAny_runValue ?_)
        have hlS : l < s.heap.objs.size := Heap.lt_size hol
        have hh3 : A.in1.in1.in1.handled = none := by simp [hh]
        have hneI : l ≠ (s.heap.push ({ cls := .type "set", dict := none, data := .set #[] 0 (.fresh 0 0 ld) } : Obj)).objs.size := by
          rw [Heap.size_push]
          exact Nat.ne_of_lt (Nat.lt_succ_of_lt hlS)
        have hSf : s.heap.objs.size ∉ [(s.heap.push ({ cls := .type "set", dict := none, data := .set #[] 0 (.fresh 0 0 ld) } : Obj)).objs.size, l] := by
          rw [Heap.size_push]
          simp only [List.mem_cons, List.mem_singleton, List.not_mem_nil, or_false, not_or]
          exact ⟨Nat.ne_of_lt (Nat.lt_succ_self _), Nat.ne_of_gt hlS⟩
        have hv : ∀ (i : Nat) (v : Value), items[i]? = some v → ∃ u x, xs[i]? = some x ∧ v = .str x u := fun i v hv => by
          have hi : i < xs.length := by
            rw [← hsz]
            exact (Array.getElem?_eq_some_iff.mp hv).1
          have e : (xs.map V.str)[i]? = some (V.str xs[i]) := by rw [List.getElem?_map, List.getElem?_eq_getElem hi]; rfl
          obtain ⟨u, hu, ru⟩ := hit.get e
          rw [Array.getElem?_toList, hv] at hu
          obtain rfl := Option.some.inj hu
          obtain ⟨t, rfl⟩ := ru
          exact ⟨t, _, List.getElem?_eq_getElem hi, rfl⟩
        refine upd_txt ((Walks.tuple hh3 _ l hneI items).toS) s.heap.objs.size hSf xs hsz.symm hv (by rw [hsz]; exact hb) (items.size - 0) 0 _ (by omega) (Nat.zero_le _) ⟨⟨_, Heap.get?_push_size _ rfl, rfl, rfl⟩, (hl1.push _)⟩ ?h0 ?hR
        case h0 =>
          refine ⟨(#[], 0, .fresh 0 0 ld), ?_, ⟨.nil (by rfl), List.Pairwise.nil, ?_⟩⟩
          · exact Heap.get?_push_of_some _ hS
          · rw [← he0]
            show _ ∨ (!w.params.followText "set-order") = true
            cases w.params.followText "set-order"
            · exact .inr rfl
            · exact .inl rfl
        case hR =>
          intro s' hm hD
          obtain ⟨h', g', d', tk', os'⟩ := s'
          have eg : g' = s.gens := hm.gens
          have ed : d' = s.drawn := hm.drawn
          have eo : os' = s.os := hm.os
          subst eg ed eo
          show wpAny _ _ _ _ _ _
          refine wpAny_pure ?_
          show wpAny _ _ (ret Value.none) _ _ _
          refine wpAny_pure ⟨rfl, h', tk', rfl, hD, fun b o e => ?_⟩
          have hb0 : b < s.heap.objs.size := Heap.lt_size e
          refine hm.heap b o ?_ (Heap.get?_push_of_some _ (Heap.get?_push_of_some _ e))
          rw [Heap.size_push]
          simp only [List.mem_cons, List.mem_singleton, List.not_mem_nil, or_false, not_or]
          exact ⟨Nat.ne_of_lt hb0, Nat.ne_of_lt (Nat.lt_succ_of_lt hb0)⟩
      · cases r2 with
        | error e => exact hr2
        | ok fl2 =>
          cases fl2 with
          | ret r =>
            obtain ⟨rfl, h', tk, rfl, hD, hk⟩ := hr2
            repeat (any_goals (first | assumption | wp_step))
            exact h _ _ hD hk
          | _ => exact hr2.elim
    | _ => exact hr.elim
end
end OS

set_option Elab.async false
set_option linter.all false
set_option maxRecDepth 100000
set_option maxHeartbeats 4000000
/-! set(texts) and sorted(set) as calls -/
namespace OS
open PySem PySem.Spec PyProof.Rows L2 PySem.Froz
open PySem.W (EachIs Sortable list_sort_data)

theorem leS_anti0 {a b : Str} (h1 : leS a b = true) (h2 : leS b a = true) : a = b := by
  have h1 : (!PySem.W.dataLt (.str b) (.str a)) = true := h1
  have h2 : (!PySem.W.dataLt (.str a) (.str b)) = true := h2
  rw [Bool.not_eq_true', PySem.W.dataLt_str] at h1 h2
  exact PySem.W.str_of_cps (List.le_antisymm (List.not_lt.mp (of_decide_eq_false h1)) (List.not_lt.mp (of_decide_eq_false h2)))
theorem sorted_one : ∀ {l m : List Str}, l.Pairwise (fun a b => leS a b = true) → m.Pairwise (fun a b => leS a b = true) → l.Perm m → l = m
  | [], m, _, _, p => (List.nil_perm.mp p).symm
  | x :: l, [], _, _, p => absurd (List.perm_nil.mp p) (by simp)
  | x :: l, y :: m, hl, hm, p => by
    obtain ⟨l1, l2⟩ := List.pairwise_cons.mp hl
    obtain ⟨m1, m2⟩ := List.pairwise_cons.mp hm
    have e : x = y := by
      rcases List.mem_cons.mp (p.mem_iff.mp (List.mem_cons_self ..)) with h | h
      · exact h
      · rcases List.mem_cons.mp (p.mem_iff.mpr (List.mem_cons_self ..)) with h' | h'
        · exact h'.symm
        · exact leS_anti0 (l1 _ h') (m1 _ h)
    subst e
    rw [sorted_one l2 m2 (List.Perm.cons_inv p)]
theorem leS_tot : PySem.W.TotalLe leS := PySem.W.sortLe_total _ _ _
theorem sort_perm {l m : List Str} (p : l.Perm m) : l.mergeSort leS = m.mergeSort leS :=
  sorted_one (PySem.W.sort_pairwise leS_tot l) (PySem.W.sort_pairwise leS_tot m) (((List.mergeSort_perm l leS).trans p).trans (List.mergeSort_perm m leS).symm)
theorem perm_of {l m : List Str} : l.Nodup → (∀ x ∈ l, x ∈ m) → m.length = l.length → m.Perm l := by
  intro hd
  induction l generalizing m with
  | nil =>
    intro _ hn
    rw [List.length_eq_zero_iff.mp hn]
  | cons x l ih =>
    intro hs hn
    obtain ⟨h1, h2⟩ := List.nodup_cons.mp hd
    have hx := hs x (List.mem_cons_self ..)
    refine (List.perm_cons_erase hx).trans (List.Perm.cons x (ih h2 (fun y hy => ?_) ?_))
    · exact (List.mem_erase_of_ne (fun e : y = x => h1 (by rw [← e]; exact hy))).mpr (hs y (List.mem_cons_of_mem _ hy))
    · rw [List.length_erase_of_mem hx, hn]
      rfl
def strOf (v : Value) : Str := match v with | .str x _ => x | _ => default
theorem is_strOf {P : Program} {w : World} {k : Str} {v : Value} (h : (strKind P w).is k v = true) : ∃ u, v = .str k u := by
  change Value.isStrOf k v = true at h
  cases v with
  | str x u =>
    refine ⟨u, ?_⟩
    have : x = k := by simpa [Value.isStrOf] using h
    rw [this]
  | _ => simp [Value.isStrOf] at h
/-- the values of a payload of texts, in any order -/
theorem TxR.vals {P : Program} {w : World} {D : SD} {l : List Str} {vs : List Value} (T : TxR P w D l) (hn : l.Nodup) (p : vs.Perm (D.1.toList.map (·.2))) : (vs.map strOf).Perm l ∧ ∀ v ∈ vs, ∃ u, v = .str (strOf v) u := by
  have all : ∀ v ∈ vs, ∃ k u, v = .str k u := fun v hv => by
    obtain ⟨e, he, rfl⟩ := List.mem_map.mp (p.mem_iff.mp hv)
    obtain ⟨⟨k, hk, _⟩, _⟩ := T.ok.el e he
    obtain ⟨u, q⟩ := is_strOf hk
    exact ⟨k, u, q⟩
  refine ⟨perm_of hn (fun x hx => ?_) ?_, fun v hv => ?_⟩
  · obtain ⟨e, he, q⟩ := (T.ok.mem x).mp hx
    obtain ⟨u, q⟩ := is_strOf q
    exact List.mem_map.mpr ⟨e.2, p.mem_iff.mpr (List.mem_map.mpr ⟨e, he, rfl⟩), by rw [q]; rfl⟩
  · rw [List.length_map, p.length_eq, List.length_map, Array.length_toList]
    exact T.ok.sz
  · obtain ⟨k, u, rfl⟩ := all v hv
    exact ⟨u, rfl⟩
/-- the set of texts at a -/
def TxO (P : Program) (w : World) (a : Addr) (l : List Str) : HO := .ext fun h => ∃ D, h.get? a = some (sObj "set" D) ∧ TxR P w D l
section
variable {X : Cx}
theorem txO_new {P : Program} {w : World} {H : Hp} {h : Heap} {a : Addr} {l : List Str} (R : ∃ D, h.get? a = some (sObj "set" D) ∧ TxR P w D l) : ObjOk P w H h a (TxO P w a l) := by
  obtain ⟨D, hD, T⟩ := id R
  exact ⟨R, ⟨_, hD⟩, fun h1 h2 p k => by
    obtain ⟨D, hD, T⟩ := p
    exact ⟨D, k _ hD, T⟩⟩
/-- set(xs) of a list or a tuple of texts -/
def rSetTx (K : PySem.W.Frag) (P : Program) (w : World) : List V → Hp → VK → Prop := fun xs H Q => ∃ (l : Addr) (ys : List Str), xs = [V.ref l] ∧ (SqL K H l (ys.map V.str) ∨ SqT K H l (ys.map V.str)) ∧ ys.length ≤ 1000 ∧ ∀ p, H p = none → Q (.ref p) (upd H p (TxO P w p (metS ys)))
theorem cr_setTx (hc : X.calm = true) : CallR X (.type "set") (rSetTx X.K X.prog X.w) := by
  intro pins s σ H xs us Q I r h
  obtain ⟨l, ys, rfl, hs, hn, q⟩ := h
  rw [Vals.ref1 r]
  have hb : ys.length + 1 < scanBound := by
    unfold scanBound
    omega
  have fin : ∀ (h' : Heap) (tk : Nat), (∃ D, h'.get? s.heap.objs.size = some (sObj "set" D) ∧ TxR X.prog X.w D (metS ys)) → (∀ b o, s.heap.get? b = some o → h'.get? b = some o) → EP X pins σ Q (.ref s.heap.objs.size) { s with heap := h', toks := tk } := fun h' tk new k =>
    ⟨.ref _, upd H s.heap.objs.size (TxO X.prog X.w s.heap.objs.size (metS ys)), I.laid (t' := tk) k (Nat.le_refl _) (txO_new new), rfl, q _ (I.hok.fresh (Nat.le_refl _))⟩
  rcases hs with hs | hs
  · obtain ⟨its, rv, hl, _⟩ := I.list hs
    exact set_of_list (I.ok.hd hc) hl.isList (by simpa using rv) hb fin
  · obtain ⟨its, rv, hl, _⟩ := I.tuple hs
    exact set_of_tuple (I.ok.hd hc) hl (by simpa using rv) hb fin
/-- sorted(set) -/
def rSortTx (P : Program) (w : World) : List V → Hp → VK → Prop := fun xs H Q => ∃ (a : Addr) (l : List Str), xs = [V.ref a] ∧ H a = some (TxO P w a l) ∧ l.Nodup ∧ l.length ≤ 1000 ∧ NewO H (.lst ((l.mergeSort leS).map V.str)) Q
theorem cr_sortTx (hc : X.calm = true) (hu : X.A.units + 65 < cLine) : CallR X (.builtin "sorted") (rSortTx X.prog X.w) := by
  intro pins s σ H xs us Q I r h
  obtain ⟨a, l, rfl, ha, hd, hn, q⟩ := h
  rw [Vals.ref1 r]
  obtain ⟨D, hD, T⟩ := (I.hok a _ ha).1
  have hsz : D.1.size < scanBound := by
    have : D.1.size = l.length := T.ok.sz
    unfold scanBound
    omega
  refine Calls.call_function_entry kind_sorted plain_sorted entry_sorted (args_sorted1 _) ?_
  unfold Builtin.«sorted»
  refine wpAny_bind (m := checkCount "sorted" 1 1 _) (wpAny_pure ?_)
  refine wpAny_bind (collect_set (A := X.A.in1) (I.ok.hd hc) ⟨_, hD, rfl, rfl⟩ T.ok.fit hsz T.ris T.led fun s1 vs k1 hz g1 o1 pm => ?_)
  obtain ⟨pv, sv⟩ := T.vals hd pm
  have hvl : vs.length = l.length := by
    have := pv.length_eq
    rwa [List.length_map] at this
  have hL : vs.length ≤ sizeLine := by
    rw [hvl]
    exact Nat.le_trans hn (by decide)
  refine wpAny_bind (wpAny_newList ?_ hL)
  have hoL : (s1.heap.push (seqObj "list" vs.toArray 0)).get? s1.heap.objs.size = some (seqObj "list" vs.toArray 0) := Heap.get?_push_size _ rfl
  have ea : ∀ {us : List Value}, (∀ v ∈ us, ∃ u, v = .str (strOf v) u) → EachIs (fun v b => RelV (V.str b) v) us (us.map strOf) := by
    intro us
    induction us with
    | nil => exact fun _ => .nil
    | cons v us ih => exact fun h => .cons (h v (.head _)) (ih fun y hy => h y (.tail _ hy))
  have e1 := ea sv
  have e2 : EachIs (fun v b => ∃ as, Reads (s1.heap.push (seqObj "list" vs.toArray 0)) v (PyData.str b) as ∧ s1.heap.objs.size ∉ as) vs (vs.map strOf) := e1.mono fun v b r => by
    obtain ⟨t, rfl⟩ := r
    exact ⟨_, Reads.str b t, by simp⟩
  have hk : Sortable ((vs.map strOf).map PyData.str) := PySem.W.Sortable.others fun b => ⟨(fun z => nomatch z), fun xs z => nomatch z⟩
  refine wpAny_bind (wpAny_holding (list_sort_data (R := fun v b => RelV (V.str b) v) (enc := PyData.str) (s := { s1 with heap := s1.heap.push (seqObj "list" vs.toArray 0) }) hoL e1 e2 (alikes_str _) hk (by rw [List.length_map]; exact hL) (fun b _ => by simp only [PyData.depth, Around.in1_units]; omega) fun out hl eo => ?_))
  obtain ⟨c, hg⟩ := sortedHeap_at (vs := vs) (out := out.toArray) hoL
  refine wpAny_pure ⟨_, rfl, ?_⟩
  have hs : (vs.map strOf).mergeSort (PySem.W.dataLe false PyData.str) = l.mergeSort leS := sort_perm pv
  rw [hs] at eo
  have hlen : ((l.mergeSort leS).map V.str).length ≤ sizeLine := by
    rw [List.length_map, List.length_mergeSort]
    exact Nat.le_trans hn (by decide)
  have k2 : ∀ b o, s.heap.get? b = some o → (sortedHeap (s1.heap.push (seqObj "list" vs.toArray 0)) s1.heap.objs.size vs out.toArray).get? b = some o := fun b o e => by
    have q := k1 b o e
    have hlt := Heap.lt_size q
    rw [sortedHeap_old (Nat.ne_of_lt hlt) (by rw [Heap.size_push]; exact Nat.lt_succ_of_lt hlt)]
    exact Heap.get?_push_of_some _ q
  have hnp : H s1.heap.objs.size = none := I.hok.fresh hz
  have J : Inv X pins σ (upd H s1.heap.objs.size (.lst ((l.mergeSort leS).map V.str))) { s with heap := sortedHeap (s1.heap.push (seqObj "list" vs.toArray 0)) s1.heap.objs.size vs out.toArray, gens := s1.gens, drawn := s1.drawn, toks := s1.toks } :=
    I.call (ch := []) (Un.laid k2 hz hnp) (I.hok.laid k2 hz ⟨hlen, out, c, vals_of_each V.str eo, hg⟩) (by rw [g1]; exact I.bare) (fun _ z => nomatch z)
  have e : ({ s1 with heap := sortedHeap (s1.heap.push (seqObj "list" vs.toArray 0)) s1.heap.objs.size vs out.toArray } : Shared) = { s with heap := sortedHeap (s1.heap.push (seqObj "list" vs.toArray 0)) s1.heap.objs.size vs out.toArray, gens := s1.gens, drawn := s1.drawn, toks := s1.toks } := by
    cases s1
    cases s
    cases o1
    rfl
  rw [e]
  exact ⟨.ref _, _, J, rfl, q.to _ hnp⟩
end
end OS

set_option Elab.async false
set_option linter.all false
set_option maxRecDepth 100000
set_option maxHeartbeats 4000000
/-! texts: split, joined again, and the other way round -/
namespace OS
open PySem PySem.Spec PyProof.Rows L2
theorem pre_split {S l : List Nat} (h : TL.pre S l = true) : l = S ++ l.drop S.length := by
  have h : (l.take S.length == S) = true := h
  have e : l.take S.length = S := beq_iff_eq.mp h
  have := List.take_append_drop S.length l
  rw [e] at this
  exact this.symm
theorem spl_ne (S : List Nat) : ∀ (l acc : List Nat), TL.spl S 0 acc l ≠ [] := by
  intro l
  induction l with
  | nil => intro acc h; rw [TL.spl_nil] at h; cases h
  | cons c r ih =>
    intro acc h
    by_cases p : TL.pre S (c :: r) = true
    · rw [TL.spl_hit p] at h
      cases h
    · rw [TL.spl_miss ((Bool.not_eq_true _).mp p)] at h
      exact ih _ h
theorem joinL_cons {S p : List Nat} {ps : List (List Nat)} (h : ps ≠ []) : TL.joinL S (p :: ps) = p ++ (S ++ TL.joinL S ps) := by
  cases ps with
  | nil => exact absurd rfl h
  | cons q r => rfl
/-- what was split, joined -/
theorem join_spl {S : List Nat} (hS : S ≠ []) : ∀ (n : Nat) (l acc : List Nat), l.length ≤ n → TL.joinL S (TL.spl S 0 acc l) = acc ++ l := by
  intro n
  induction n with
  | zero =>
    intro l acc h
    obtain rfl := List.length_eq_zero_iff.mp (Nat.le_zero.mp h)
    rw [TL.spl_nil, List.append_nil]
    rfl
  | succ n ih =>
    intro l acc h
    cases l with
    | nil =>
      rw [TL.spl_nil, List.append_nil]
      rfl
    | cons c r =>
      have hl : r.length ≤ n := Nat.le_of_succ_le_succ h
      by_cases p : TL.pre S (c :: r) = true
      · rw [TL.spl_hit p, TL.spl_pass, joinL_cons (spl_ne S _ _), ih _ _ (Nat.le_trans (by rw [List.length_drop]; exact Nat.sub_le _ _) hl), List.nil_append]
        have e := pre_split p
        have e2 : (c :: r).drop S.length = r.drop (S.length - 1) := by
          cases S with
          | nil => exact absurd rfl hS
          | cons a S => rfl
        rw [← e2]
        exact congrArg (acc ++ ·) e.symm
      · rw [TL.spl_miss ((Bool.not_eq_true _).mp p), ih _ _ hl, List.append_assoc]
        rfl
/-- parted: as split at the first place -/
theorem par_spl {S : List Nat} (hS : S ≠ []) : ∀ (l acc : List Nat), match TL.par S acc l with
    | some (a, b) => TL.spl S 0 acc l = a :: TL.spl S 0 [] b
    | none => TL.spl S 0 acc l = [acc ++ l] := by
  intro l
  induction l with
  | nil =>
    intro acc
    have e : TL.par S acc [] = none := TL.par_none (p := []) fun i hi => absurd hi (Nat.not_lt_zero i)
    rw [e]
    show TL.spl S 0 acc [] = [acc ++ []]
    rw [TL.spl_nil, List.append_nil]
  | cons c r ih =>
    intro acc
    by_cases p : TL.pre S (c :: r) = true
    · rw [TL.par_hit p, TL.spl_hit p, TL.spl_pass]
      have e2 : (c :: r).drop S.length = r.drop (S.length - 1) := by
        cases S with
        | nil => exact absurd rfl hS
        | cons a S => rfl
      rw [e2]
    · have q := (Bool.not_eq_true _).mp p
      have := ih (acc ++ [c])
      rw [TL.par_miss q, TL.spl_miss q]
      revert this
      cases TL.par S (acc ++ [c]) r with
      | none =>
        intro this
        rw [this, List.append_assoc]
        rfl
      | some x => exact id
/-- " / " between parts without / -/
theorem bar_free {p : List Nat} (h : 47 ∉ p) (rest : List Nat) : ∀ i, i < p.length → TL.pre [32, 47, 32] ((p ++ ([32, 47, 32] ++ rest)).drop i) = false := by
  intro i hi
  cases e : TL.pre [32, 47, 32] ((p ++ ([32, 47, 32] ++ rest)).drop i) with
  | false => rfl
  | true =>
    have e := pre_split e
    have h1 : ((p ++ ([32, 47, 32] ++ rest)).drop i)[1]? = some 47 := by rw [e]; rfl
    rw [List.getElem?_drop] at h1
    by_cases hl : i + 1 < p.length
    · rw [List.getElem?_append_left hl] at h1
      exact absurd (List.mem_of_getElem? h1) h
    · have : i + 1 = p.length := by omega
      rw [this, List.getElem?_append_right (Nat.le_refl _), Nat.sub_self] at h1
      cases h1
theorem bar_last {p : List Nat} (h : 47 ∉ p) : ∀ i, i < p.length → TL.pre [32, 47, 32] (p.drop i) = false := by
  intro i hi
  cases e : TL.pre [32, 47, 32] (p.drop i) with
  | false => rfl
  | true =>
    have e := pre_split e
    have h1 : (p.drop i)[1]? = some 47 := by rw [e]; rfl
    rw [List.getElem?_drop] at h1
    exact absurd (List.mem_of_getElem? h1) h
theorem spl_bar : ∀ {parts : List (List Nat)}, parts ≠ [] → (∀ p ∈ parts, 47 ∉ p) → TL.spl [32, 47, 32] 0 [] (TL.joinL [32, 47, 32] parts) = parts
  | [], h, _ => absurd rfl h
  | [p], _, hp => by
    show TL.spl [32, 47, 32] 0 [] p = [p]
    rw [TL.spl_last (bar_last (hp p (List.mem_cons_self ..)))]
    rfl
  | p :: q :: r, _, hp => by
    show TL.spl [32, 47, 32] 0 [] (p ++ ([32, 47, 32] ++ TL.joinL [32, 47, 32] (q :: r))) = _
    rw [TL.spl_part (by simp) (bar_free (hp p (List.mem_cons_self ..)) _), spl_bar (by simp) fun x hx => hp x (List.mem_cons_of_mem _ hx)]
    rfl
/-! ### the same of texts -/
theorem tl_sp : TL.tl (Str.ofString " ") = [32] := by decide +kernel
theorem tl_co : TL.tl (Str.ofString ": ") = [58, 32] := by decide +kernel
theorem tl_ba : TL.tl (Str.ofString " / ") = [32, 47, 32] := by decide +kernel
theorem ki_sp : (Str.ofString " ").cps.all (· < 256) = true := by decide +kernel
theorem ki_co : (Str.ofString ": ").cps.all (· < 256) = true := by decide +kernel
theorem ki_ba : (Str.ofString " / ").cps.all (· < 256) = true := by decide +kernel
theorem join_split (x : Str) {y : Str} (hy : TL.tl y ≠ []) (hk : y.cps.all (· < 256) = true) : Txt.join y (Txt.split x y) = x := by
  refine TL.ext_tl ?_
  rw [TL.join_eq, TL.tl_join, TL.split_spl x y hy (TL.kind_ok hk), join_spl hy _ _ _ (Nat.le_refl _)]
  rfl
theorem split_ne (x : Str) {y : Str} (hy : TL.tl y ≠ []) (hk : y.cps.all (· < 256) = true) : Txt.split x y ≠ [] := fun e => by
  have := TL.split_spl x y hy (TL.kind_ok hk)
  rw [e] at this
  exact spl_ne _ _ _ this.symm
theorem split_bar {parts : List Str} (hne : parts ≠ []) (hp : ∀ p ∈ parts, 47 ∉ TL.tl p) : Txt.split (Txt.join (Str.ofString " / ") parts) (Str.ofString " / ") = parts := by
  refine TL.map_tl_inj ?_
  rw [TL.split_spl _ _ (by rw [tl_ba]; simp) (TL.kind_ok ki_ba), TL.join_eq, TL.tl_join, tl_ba, spl_bar (by simpa using hne)]
  intro p hp'
  obtain ⟨q, hq, rfl⟩ := List.mem_map.mp hp'
  exact hp q hq
theorem split_sp {parts : List Str} (hne : parts ≠ []) (hp : ∀ p ∈ parts, 32 ∉ TL.tl p) : Txt.split (Txt.join (Str.ofString " ") parts) (Str.ofString " ") = parts := TL.split_join tl_sp ki_sp hne hp
/-- two texts without : beside ": " -/
theorem split_two {a b : Str} (ha : 58 ∉ TL.tl a) (hb : 58 ∉ TL.tl b) : Txt.split (a ++ Str.ofString ": " ++ b) (Str.ofString ": ") = [a, b] := by
  have := TL.split_join tl_co ki_co (parts := [a, b]) (by simp) (fun p hp => by
    rcases List.mem_cons.mp hp with rfl | hp
    · exact ha
    · rw [List.mem_singleton.mp hp]
      exact hb)
  rw [TL.join_eq] at this
  exact this
/-- where split tells two parts partition tells the same -/
theorem part_two {x a b : Str} (h : Txt.split x (Str.ofString ": ") = [a, b]) : Txt.partition x (Str.ofString ": ") = (a, Str.ofString ": ", b) ∧ x = a ++ Str.ofString ": " ++ b := by
  have hj := join_split x (y := Str.ofString ": ") (by rw [tl_co]; simp) ki_co
  rw [h, TL.join_eq] at hj
  have hs := TL.split_spl x (Str.ofString ": ") (by rw [tl_co]; simp) (TL.kind_ok ki_co)
  rw [h, tl_co] at hs
  have hp := par_spl (S := [58, 32]) (by simp) (TL.tl x) []
  refine ⟨?_, hj.symm⟩
  rw [TL.partition_par _ _ (by rw [tl_co]; simp), tl_co]
  revert hp
  cases TL.par [58, 32] [] (TL.tl x) with
  | none =>
    intro hp
    rw [hp] at hs
    simp at hs
  | some z =>
    obtain ⟨u, v⟩ := z
    intro hp
    have hp : TL.spl [58, 32] 0 [] (TL.tl x) = u :: TL.spl [58, 32] 0 [] v := hp
    rw [hp] at hs
    obtain ⟨h1, h2⟩ := List.cons.inj hs
    have h3 := join_spl (S := [58, 32]) (by simp) _ v [] (Nat.le_refl _)
    rw [← h2] at h3
    have h3 : TL.tl b = v := h3
    show ((⟨u.toArray⟩ : Str), Str.ofString ": ", (⟨v.toArray⟩ : Str)) = _
    rw [← h1, ← h3, TL.mk_tl, TL.mk_tl]
end OS

set_option Elab.async false
set_option linter.all false
set_option maxRecDepth 100000
set_option maxHeartbeats 4000000
/-! own errors whose context is known: made in a body, made in an except suite -/
namespace OS
open PySem PySem.Spec PyProof.Rows L2 L2H
section
variable {X : Cx} {C fI : Addr} {f x : Str} {fd : FuncData} {ps : List Str} {sp : Sp} {k : Nat} {e : Expr} {es : List Expr} {ta : TA} {te : TE} {p pos : Pos}
/-- C(e, ..) of an own class with an own __init__; its context stands as None -/
theorem pmk_oexN {CX : CXT} (T : OexC X.K C) (iC : PySem.W.findIn X.K (.ref C) "__init__" = some (some (.ref fI))) (tI : PySem.W.typeIn X.K (.ref fI) = some (.type "function"))
    (F1 : FnOk X.prog X.w X.K X.mg X.base CX k fI fd ps sp) (hr : Room (k + 1) X.A) (hb : Binds X.K fd ps []) (hx : Passes CX X (fun _ _ _ => False)) (hg : Gl X x) (hm : X.mg x = some (.ref C)) (ha : PA X (e :: es) ta)
    (hdb : (x == ("__debug__" : Str)) = false := by decide) (he : starEach (e :: es) X.env = (false, eval e X.env) :: starEach es X.env := by rfl) (hpl : (backTo pos (starEach es X.env)).any (·.1) = false := by rfl) :
    L2N.PMk X (.Call (.Name x p) (e :: es) [] pos) (tMkO C sp [] ta) := by
  intro pins s σ H Q I h
  obtain ⟨nm, q, N, bs, bm, sn, sub, ab, col, dd, k0, k1, k2, k3, k5, hC, hbm⟩ := T.cls
  refine wpAny_Call_Name_kw (ld_glob I hg hm ?_ hdb)
  refine PySem.W.callWith_K (h₀ := X.base) I.ok.mod.kin T.kC (thn (ha.run pos pins s σ H _ I h) fun us s1 ⟨vs, H1, I1, r1, hz, q1⟩ => ⟨I1.kIn, ?_⟩) he hpl
  show wpAny _ _ (call (.ref C) us) _ _ _
  obtain ⟨hp, g, dr, tk, os⟩ := s1
  have low : hp.objs.size ≤ hp.objs.size + 1 := Nat.le_succ _
  have asked := q1 (hp.objs.size + 1) (I1.hok.fresh low)
  have old : ∀ b o, hp.get? b = some o → ((hp.push (PySem.W.kdv_tup us)).push (PySem.HandSPX.excO C hp.objs.size)).get? b = some o := fun b o e => Heap.get?_push_of_some _ (Heap.get?_push_of_some _ e)
  have new : ((hp.push (PySem.W.kdv_tup us)).push (PySem.HandSPX.excO C hp.objs.size)).get? (hp.objs.size + 1) = some (PySem.HandSPX.excO C hp.objs.size) := by heap_get
  have I2 : Inv X pins σ (upd H1 (hp.objs.size + 1) (exo (hp.objs.size + 1) C none)) ⟨(hp.push (PySem.W.kdv_tup us)).push (PySem.HandSPX.excO C hp.objs.size), g, dr, tk, os⟩ :=
    I1.laid (t' := tk) (a := hp.objs.size + 1) (o := exo (hp.objs.size + 1) C none) (h' := (hp.push (PySem.W.kdv_tup us)).push (PySem.HandSPX.excO C hp.objs.size)) old low (exo_ok new)
  have r2 : Vals (V.ref (hp.objs.size + 1) :: (vs ++ [])) (Value.ref (hp.objs.size + 1) :: (us ++ [])) := .cons rfl (r1.append .nil)
  have hl : (Value.ref (hp.objs.size + 1) :: us ++ []).length = ps.length := by
    have e := r2.length
    rw [F1.len _ _ _ _ asked] at e
    exact e.symm
  have hb2 := hb _ (Value.ref (hp.objs.size + 1) :: us) I2.kIn hl
  rw [List.cons_append] at hb2
  have few : us.length ≤ sizeLine := by
    rw [← Paired.length r1, sizeLine_eq]
    omega
  refine wpAny_call (PySem.HandSPX.call_own F.excBase_ValueError (fun Y => PySem.HandSPX.refsVE_contains Y bm hbm) (I1.kIn _ _ hC) (PySem.W.looks_findIn I1.kIn iC) (fun self => PySem.W.bind_fn I1.kIn self tI) few
    (codeAny_mono (F1.run _ X.stack _ _ ⟨Value.ref (hp.objs.size + 1) :: us, []⟩ (Value.ref (hp.objs.size + 1) :: (us ++ [])) _ _ (fun _ _ _ => False) (hr.make C us []) (I2.env0.make C us []) hb2 r2 asked) fun r s' hq' => ?_))
  cases r with
  | error er => exact hx pins σ _ _ er s' I2 hq'
  | ok fl =>
    cases fl with
    | ret u =>
      obtain ⟨v, H2, os2, bare2, un2, hok2, rv, ev, d, fs, ea, ed, hd1, q2⟩ := hq'
      subst ev
      obtain ⟨h2, g2, d2, t2, os'⟩ := s'
      obtain ⟨t0, G, J, kG, ge, hoe, na⟩ := mk_end0 (d2 := d2) (t2 := t2) I1 low old un2 hok2 os2 bare2 ea ed hd1
      refine ⟨rv, ⟨hp.objs.size + 1, _, _, ⟨G, g2, d2, t2, os'⟩, _, .ref C, some d, rfl, J, kG, ge, hoe, ⟨rfl, rfl, fun vs hv => ?_⟩, rfl, rfl, na, rfl, bare2, raises_own T.exC T.tyC, q2⟩⟩
      cases hv
      rfl
    | next => exact False.elim hq'
    | brk => exact False.elim hq'
    | cont => exact False.elim hq'
/-- what is asked of C(e), where an own error of one field flies -/
theorem flies_asks {σ : L2.St} {H : Hp} {Q : XK} (h : tRaiseE C f te σ H Q) : tMkO C (spErr C f) [] (tMonoA (tCons te tNil)) σ H Q := by
  refine ⟨fun vs H1 => match vs with | [v] => Flies Q C f v H1 | _ => False, h, fun vs H1 q => ?_⟩
  match vs, q with
  | [v], q =>
    refine ⟨by show 1 ≤ 1000; decide, fun a na => ⟨a, v, rfl, upd_same, fun dx h1 h2 => ?_⟩⟩
    have n1 : H1 dx = none := by
      rw [upd_ne h2] at h1
      exact h1
    refine ⟨rfl, dx, [(f, v)], upd_same, by rw [upd_ne h2, upd_same], n1, q dx _ n1 (fun b o hb => ?_) upd_same⟩
    have ba : b ≠ a := ne_of_none hb na
    have bd : b ≠ dx := ne_of_none hb n1
    rw [upd_ne bd, del_ne ba, upd_ne ba, upd_ne bd, upd_ne ba]
    exact hb
theorem pmk_errN (T : ErrT X.K C) (iC : PySem.W.findIn X.K (.ref C) "__init__" = some (some (.ref fI))) (tI : PySem.W.typeIn X.K (.ref fI) = some (.type "function")) (F1 : FnOk X.prog X.w X.K X.mg X.base CX0 k fI fd ps (spErr C f)) (hr : Room (k + 1) X.A)
    (hb : Binds X.K fd ps []) (hg : Gl X x) (hm : X.mg x = some (.ref C)) (he : PE X e te) (hdb : (x == ("__debug__" : Str)) = false := by decide)
    (hst : starEach [e] X.env = (false, eval e X.env) :: starEach [] X.env := by rfl) (hpl : (backTo pos (starEach [] X.env)).any (·.1) = false := by rfl) :
    L2N.PMk X (.Call (.Name x p) [e] [] pos) (tRaiseE C f te) := fun pins s σ H Q I h =>
  pmk_oexN T.ox iC tI F1 hr hb (fun _ _ _ _ _ _ _ z => z.elim) hg hm (pa_mono (pa_cons he pa_nil hst)) hdb hst hpl pins s σ H Q I (flies_asks h)
/-- .. in an except suite -/
theorem pmk5_err (T : ErrT X.K C) (iC : PySem.W.findIn X.K (.ref C) "__init__" = some (some (.ref fI))) (tI : PySem.W.typeIn X.K (.ref fI) = some (.type "function")) (F1 : FnH X.prog X.w X.K X.mg X.base CX0 k fI fd ps (spErr C f)) (hr : RoomH (k + 1) X.A) (hc : HotC X)
    (hb : Binds X.K fd ps []) (hg : Gl X x) (hm : X.mg x = some (.ref C)) (he : PE X e te) (hdb : (x == ("__debug__" : Str)) = false := by decide)
    (hst : starEach [e] X.env = (false, eval e X.env) :: starEach [] X.env := by rfl) (hpl : (backTo pos (starEach [] X.env)).any (·.1) = false := by rfl) :
    L2H.PMk5 X (.Call (.Name x p) [e] [] pos) (tRaiseE C f te) := fun pins s σ H Q I h =>
  L2H.pmk5_oexH T.ox iC tI F1 hr hc hb (fun _ _ _ _ _ _ _ z => z.elim) hg hm (pa_mono (pa_cons he pa_nil hst)) hdb hst hpl pins s σ H Q I (flies_asks h)
theorem pmk_err0N {bmB : List Value} {B newId initId : String} (F : ExcBaseFacts B newId initId bmB) (q : PySem.W.excIn X.K C bmB newId = true) (kC : PySem.W.keepIn X.K (.ref C) = true) (T : ErrT X.K C) (hg : Gl X x) (hm : X.mg x = some (.ref C))
    (hdb : (x == ("__debug__" : Str)) = false := by decide) : L2N.PMk X (.Call (.Name x p) [] [] pos) (fun _ H Q => Q (.ref C) none H) := by
  intro pins s σ H Q I h
  refine wpAny_Call_Name_kw (ld_glob I hg hm (PySem.W.callWith_K0 I.kIn kC ?_) hdb)
  obtain ⟨bm, N, nm, qn, bs, hdct, sn, sub, ab, col, dd, k0, k1, k2, k3, k5, mN, hC, hN, hni, T'⟩ := exc_obj I.kIn q
  exact wpAny_call_exc_subT F T' hC hN hni (fun h' e hm => L2N.mk_of I hm (raises_own T.ox.exC T.ox.tyC) h (I.hok.gone hm.new)) (Nat.zero_le _)
end
section
variable {P : Program} {w : World} {K : PySem.W.Frag} {mg : Str → Option Value} {base : Heap}
/-- a def that may raise, the errors' contexts known -/
theorem Fun.okN {x qual : Str} {st : Stmt} {f : Addr} {fd : FuncData} {N ps : List Str} {k : Nat} {sp : Sp} (F : L2.Fun K x qual st f fd) (S : FnScope N ps (defScope st)) (len : ∀ vs H Q E, sp vs H Q E → vs.length = ps.length)
    (hbody : ∀ (cdv : Value) (A : Around) (outer : List Env) (s : Shared) (H : Hp) (vs : List V) (Q : VK) (E : XK), Room k (A.deeper (envOfC qual (defScope st) s.heap.objs.size f cdv)) → sp vs H Q E →
      ∃ t, PSs (cxOf (L2N.CX P w) P w K mg base N qual (defScope st) f cdv A outer s H E) (defBody st) t ∧ t { nx := fun _ H' => Q .non H', rt := Q } (start N vs) H) : FnOk P w K mg base (L2N.CX P w) (k + 1) f fd ps sp := by
  obtain ⟨oc, od, kV, doc, pm, an, cdv, ct, osl, rfl, lk, hcd⟩ := F.ex
  exact fn_of lk hcd S len fun A outer s H vs Q E hr hsp => hbody cdv A outer s H vs Q E hr hsp
/-- a def of one row self.f = v, in an except suite -/
theorem Fun.okH {x qual : Str} {st : Stmt} {f : Addr} {fd : FuncData} {N ps : List Str} {k : Nat} {sp : Sp} (F : L2.Fun K x qual st f fd) (S : FnScope N ps (defScope st)) (len : ∀ vs H Q E, sp vs H Q E → vs.length = ps.length)
    (hbody : ∀ (cdv : Value) (A : Around) (outer : List Env) (s : Shared) (H : Hp) (vs : List V) (Q : VK) (E : XK) (p : Addr × Obj), sp vs H Q E →
      ∃ t, PSs (cxH CX0 P w K mg base N qual (defScope st) f cdv A outer s H E p) (defBody st) t ∧ t { nx := fun _ H' => Q .non H', rt := Q } (start N vs) H) : FnH P w K mg base CX0 (k + 1) f fd ps sp := by
  obtain ⟨oc, od, kV, doc, pm, an, cdv, ct, osl, rfl, lk, hcd⟩ := F.ex
  exact fn_ofH lk hcd S len fun A outer s H vs Q E p _ _ hsp => hbody cdv A outer s H vs Q E p hsp
/-- what is known of the contexts may be forgotten -/
theorem fn_weak {k : Nat} {f : Addr} {fd : FuncData} {ps : List Str} {sp : Sp} (F : FnOk P w K mg base (L2N.CX P w) k f fd ps sp) : FnOk P w K mg base (L2.CX P w) k f fd ps sp :=
  ⟨F.len, fun A outer s H args us vs Q E hr e0 hb r h => codeAny_mono (F.run A outer s H args us vs Q E hr e0 hb r h) fun r s' hq => by
    cases r with
    | error e =>
      obtain ⟨a, B, H', cls, d, e1, fl, rest⟩ := hq
      exact ⟨a, B, H', cls, d, e1, flyingZ_imp (fun o h => L2N.Zn.zc h) fl, rest⟩
    | ok fl => cases fl <;> exact hq⟩
end
end OS

set_option Elab.async false
set_option linter.all false
set_option maxRecDepth 100000
set_option maxHeartbeats 4000000
namespace P
open PySem PySem.Spec PyProof.Rows L2 OS
def top (i : Nat) : Stmt := PySem.Challenge.pw_openshares_k11_family_texts.main.body.getD i (.Pass ⟨0, 0, 0, 0⟩)
abbrev s_BadName__init_ : Stmt := inClass (top 3) 0
abbrev N_BadName__init_ : List Str := ["self", "name"]
theorem sc_BadName__init_ : FnScope N_BadName__init_ ["self", "name"] (defScope s_BadName__init_) := ⟨rfl, rfl, rfl, by decide +kernel, rfl, by decide +kernel, by decide +kernel⟩
abbrev s_DuplicateName__init_ : Stmt := inClass (top 4) 0
abbrev N_DuplicateName__init_ : List Str := ["self", "name"]
theorem sc_DuplicateName__init_ : FnScope N_DuplicateName__init_ ["self", "name"] (defScope s_DuplicateName__init_) := ⟨rfl, rfl, rfl, by decide +kernel, rfl, by decide +kernel, by decide +kernel⟩
abbrev s_BadCount__init_ : Stmt := inClass (top 5) 0
abbrev N_BadCount__init_ : List Str := ["self", "count"]
theorem sc_BadCount__init_ : FnScope N_BadCount__init_ ["self", "count"] (defScope s_BadCount__init_) := ⟨rfl, rfl, rfl, by decide +kernel, rfl, by decide +kernel, by decide +kernel⟩
abbrev s_BadGroup__init_ : Stmt := inClass (top 6) 0
abbrev N_BadGroup__init_ : List Str := ["self", "value"]
theorem sc_BadGroup__init_ : FnScope N_BadGroup__init_ ["self", "value"] (defScope s_BadGroup__init_) := ⟨rfl, rfl, rfl, by decide +kernel, rfl, by decide +kernel, by decide +kernel⟩
abbrev s_BadText__init_ : Stmt := inClass (top 7) 0
abbrev N_BadText__init_ : List Str := ["self", "text"]
theorem sc_BadText__init_ : FnScope N_BadText__init_ ["self", "text"] (defScope s_BadText__init_) := ⟨rfl, rfl, rfl, by decide +kernel, rfl, by decide +kernel, by decide +kernel⟩
abbrev s_valid_name : Stmt := top 14
abbrev N_valid_name : List Str := ["text", "char"]
theorem sc_valid_name : FnScope N_valid_name ["text"] (defScope s_valid_name) := ⟨rfl, rfl, rfl, by decide +kernel, rfl, by decide +kernel, by decide +kernel⟩
abbrev s_all_groups : Stmt := top 17
abbrev N_all_groups : List Str := ["persons", "groups", "name", "group"]
theorem sc_all_groups : FnScope N_all_groups ["persons"] (defScope s_all_groups) := ⟨rfl, rfl, rfl, by decide +kernel, rfl, by decide +kernel, by decide +kernel⟩
abbrev s_is_group : Stmt := top 18
abbrev N_is_group : List Str := ["persons", "value", "name"]
theorem sc_is_group : FnScope N_is_group ["persons", "value"] (defScope s_is_group) := ⟨rfl, rfl, rfl, by decide +kernel, rfl, by decide +kernel, by decide +kernel⟩
abbrev s_rest : Stmt := top 19
abbrev N_rest : List Str := ["persons", "group", "name"]
theorem sc_rest : FnScope N_rest ["persons", "group"] (defScope s_rest) := ⟨rfl, rfl, rfl, by decide +kernel, rfl, by decide +kernel, by decide +kernel⟩
abbrev s_contains : Stmt := top 20
abbrev N_contains : List Str := ["group", "other", "name"]
theorem sc_contains : FnScope N_contains ["group", "other"] (defScope s_contains) := ⟨rfl, rfl, rfl, by decide +kernel, rfl, by decide +kernel, by decide +kernel⟩
abbrev s_merged : Stmt := top 21
abbrev N_merged : List Str := ["persons", "one", "other", "name"]
theorem sc_merged : FnScope N_merged ["persons", "one", "other"] (defScope s_merged) := ⟨rfl, rfl, rfl, by decide +kernel, rfl, by decide +kernel, by decide +kernel⟩
abbrev s_checked_persons : Stmt := top 22
abbrev N_checked_persons : List Str := ["persons", "at", "name"]
theorem sc_checked_persons : FnScope N_checked_persons ["persons"] (defScope s_checked_persons) := ⟨rfl, rfl, rfl, by decide +kernel, rfl, by decide +kernel, by decide +kernel⟩
abbrev s_check_groups : Stmt := top 23
abbrev N_check_groups : List Str := ["persons", "groups", "value"]
theorem sc_check_groups : FnScope N_check_groups ["persons", "groups"] (defScope s_check_groups) := ⟨rfl, rfl, rfl, by decide +kernel, rfl, by decide +kernel, by decide +kernel⟩
abbrev s_least_groups : Stmt := top 24
abbrev N_least_groups : List Str := ["persons", "groups", "given", "group"]
theorem sc_least_groups : FnScope N_least_groups ["persons", "groups"] (defScope s_least_groups) := ⟨rfl, rfl, rfl, by decide +kernel, rfl, by decide +kernel, by decide +kernel⟩
abbrev s_contains_another : Stmt := top 25
abbrev N_contains_another : List Str := ["group", "groups", "other"]
theorem sc_contains_another : FnScope N_contains_another ["group", "groups"] (defScope s_contains_another) := ⟨rfl, rfl, rfl, by decide +kernel, rfl, by decide +kernel, by decide +kernel⟩
abbrev s_Family__init_ : Stmt := inClass (top 26) 0
abbrev N_Family__init_ : List Str := ["self", "persons", "groups", "names", "least", "name", "group"]
theorem sc_Family__init_ : FnScope N_Family__init_ ["self", "persons", "groups"] (defScope s_Family__init_) := ⟨rfl, rfl, rfl, by decide +kernel, rfl, by decide +kernel, by decide +kernel⟩
abbrev s_Family_read : Stmt := inClass (top 26) 2
abbrev N_Family_read : List Str := ["cls", "text", "persons", "_", "groups", "family", "part"]
theorem sc_Family_read : FnScope N_Family_read ["cls", "text"] (defScope s_Family_read) := ⟨rfl, rfl, rfl, by decide +kernel, rfl, by decide +kernel, by decide +kernel⟩
abbrev s_Family_persons : Stmt := inClass (top 26) 3
abbrev N_Family_persons : List Str := ["self"]
theorem sc_Family_persons : FnScope N_Family_persons ["self"] (defScope s_Family_persons) := ⟨rfl, rfl, rfl, by decide +kernel, rfl, by decide +kernel, by decide +kernel⟩
abbrev s_Family_groups : Stmt := inClass (top 26) 4
abbrev N_Family_groups : List Str := ["self"]
theorem sc_Family_groups : FnScope N_Family_groups ["self"] (defScope s_Family_groups) := ⟨rfl, rfl, rfl, by decide +kernel, rfl, by decide +kernel, by decide +kernel⟩
abbrev s_Family_needed : Stmt := inClass (top 26) 5
abbrev N_Family_needed : List Str := ["self"]
theorem sc_Family_needed : FnScope N_Family_needed ["self"] (defScope s_Family_needed) := ⟨rfl, rfl, rfl, by decide +kernel, rfl, by decide +kernel, by decide +kernel⟩
abbrev s_Family__eq_ : Stmt := inClass (top 26) 6
abbrev N_Family__eq_ : List Str := ["self", "other"]
theorem sc_Family__eq_ : FnScope N_Family__eq_ ["self", "other"] (defScope s_Family__eq_) := ⟨rfl, rfl, rfl, by decide +kernel, rfl, by decide +kernel, by decide +kernel⟩
abbrev s_Family__str_ : Stmt := inClass (top 26) 7
abbrev N_Family__str_ : List Str := ["self", "persons", "groups", "group"]
theorem sc_Family__str_ : FnScope N_Family__str_ ["self"] (defScope s_Family__str_) := ⟨rfl, rfl, rfl, by decide +kernel, rfl, by decide +kernel, by decide +kernel⟩
abbrev s_Family_opens : Stmt := inClass (top 26) 10
abbrev N_Family_opens : List Str := ["self", "group", "least"]
theorem sc_Family_opens : FnScope N_Family_opens ["self", "group"] (defScope s_Family_opens) := ⟨rfl, rfl, rfl, by decide +kernel, rfl, by decide +kernel, by decide +kernel⟩
abbrev s_Family_turned : Stmt := inClass (top 26) 11
abbrev N_Family_turned : List Str := ["self", "names", "group"]
theorem sc_Family_turned : FnScope N_Family_turned ["self"] (defScope s_Family_turned) := ⟨rfl, rfl, rfl, by decide +kernel, rfl, by decide +kernel, by decide +kernel⟩
abbrev s_law_start : Stmt := top 28
abbrev N_law_start : List Str := ["_law_script", "_law_cell"]
theorem sc_law_start : FnScope N_law_start ["_law_script"] (defScope s_law_start) := ⟨rfl, rfl, rfl, by decide +kernel, rfl, by decide +kernel, by decide +kernel⟩
abbrev s_law_draw : Stmt := top 29
abbrev N_law_draw : List Str := ["_law_state", "_law_size", "_law_digit", "_law_cell", "_law_one"]
theorem sc_law_draw : FnScope N_law_draw ["_law_state", "_law_size"] (defScope s_law_draw) := ⟨rfl, rfl, rfl, by decide +kernel, rfl, by decide +kernel, by decide +kernel⟩
abbrev s_law_names : Stmt := top 30
abbrev N_law_names : List Str := ["_law_state", "_law_count", "_law_signs_here", "_law_stem", "_law_k", "_law_letter", "_law_offset", "_law_stride", "_law_plan", "_law_step", "_law_whole", "_law_words", "_law_sign", "_law_back"]
theorem sc_law_names : FnScope N_law_names ["_law_state", "_law_count"] (defScope s_law_names) := ⟨rfl, rfl, rfl, by decide +kernel, rfl, by decide +kernel, by decide +kernel⟩
abbrev s_law_good : Stmt := top 31
abbrev N_law_good : List Str := ["_law_word", "_law_letters", "_law_sign"]
theorem sc_law_good : FnScope N_law_good ["_law_word"] (defScope s_law_good) := ⟨rfl, rfl, rfl, by decide +kernel, rfl, by decide +kernel, by decide +kernel⟩
abbrev s_law_signs : Stmt := top 32
abbrev N_law_signs : List Str := ["_law_signs_here"]
theorem sc_law_signs : FnScope N_law_signs [] (defScope s_law_signs) := ⟨rfl, rfl, rfl, by decide +kernel, rfl, by decide +kernel, by decide +kernel⟩
abbrev s_law_sets : Stmt := top 34
abbrev N_law_sets : List Str := ["_law_pool", "_law_found", "_law_label", "_law_chosen", "_law_pair"]
theorem sc_law_sets : FnScope N_law_sets ["_law_pool"] (defScope s_law_sets) := ⟨rfl, rfl, rfl, by decide +kernel, rfl, by decide +kernel, by decide +kernel⟩
abbrev s_law_inside : Stmt := top 35
abbrev N_law_inside : List Str := ["_law_small", "_law_large", "_law_word"]
theorem sc_law_inside : FnScope N_law_inside ["_law_small", "_law_large"] (defScope s_law_inside) := ⟨rfl, rfl, rfl, by decide +kernel, rfl, by decide +kernel, by decide +kernel⟩
abbrev s_law_least : Stmt := top 36
abbrev N_law_least : List Str := ["_law_rows", "_law_found", "_law_pair", "_law_chosen", "_law_one"]
theorem sc_law_least : FnScope N_law_least ["_law_rows"] (defScope s_law_least) := ⟨rfl, rfl, rfl, by decide +kernel, rfl, by decide +kernel, by decide +kernel⟩
abbrev s_law_drawn : Stmt := top 37
abbrev N_law_drawn : List Str := ["_law_state", "_law_pool", "_law_sets_here", "_law_plan", "_law_many", "_law_chosen", "_law_found", "_law_k"]
theorem sc_law_drawn : FnScope N_law_drawn ["_law_state", "_law_pool"] (defScope s_law_drawn) := ⟨rfl, rfl, rfl, by decide +kernel, rfl, by decide +kernel, by decide +kernel⟩
abbrev s_law_opens : Stmt := top 38
abbrev N_law_opens : List Str := ["_law_groups", "_law_chosen", "_law_one"]
theorem sc_law_opens : FnScope N_law_opens ["_law_groups", "_law_chosen"] (defScope s_law_opens) := ⟨rfl, rfl, rfl, by decide +kernel, rfl, by decide +kernel, by decide +kernel⟩
abbrev s_law_is_set : Stmt := top 40
abbrev N_law_is_set : List Str := ["_law_pool", "_law_thing", "_law_label"]
theorem sc_law_is_set : FnScope N_law_is_set ["_law_pool", "_law_thing"] (defScope s_law_is_set) := ⟨rfl, rfl, rfl, by decide +kernel, rfl, by decide +kernel, by decide +kernel⟩
abbrev s_law_text : Stmt := top 41
abbrev N_law_text : List Str := ["_law_pool", "_law_least_here", "_law_chosen"]
theorem sc_law_text : FnScope N_law_text ["_law_pool", "_law_least_here"] (defScope s_law_text) := ⟨rfl, rfl, rfl, by decide +kernel, rfl, by decide +kernel, by decide +kernel⟩
abbrev s_law_spoiled : Stmt := top 42
abbrev N_law_spoiled : List Str := ["_law_state", "_law_word", "_law_signs_here", "_law_sign", "_law_spot", "_law_plan", "_law_mark", "_law_words", "_law_k"]
theorem sc_law_spoiled : FnScope N_law_spoiled ["_law_state", "_law_word"] (defScope s_law_spoiled) := ⟨rfl, rfl, rfl, by decide +kernel, rfl, by decide +kernel, by decide +kernel⟩
abbrev s_law_due : Stmt := top 43
abbrev N_law_due : List Str := ["_law_word", "_law_parts", "_law_pool", "_law_rows", "_law_part", "_law_label", "_law_one"]
theorem sc_law_due : FnScope N_law_due ["_law_word"] (defScope s_law_due) := ⟨rfl, rfl, rfl, by decide +kernel, rfl, by decide +kernel, by decide +kernel⟩
abbrev s_law : Stmt := top 44
abbrev N_law : List Str := ["_law_script", "_law_state", "_law_pool", "_law_least_here", "_law_word", "_law_turn", "_law_due_here", "_law_told", "e", "_law_needed", "_law_label", "_law_one", "_law_chosen"]
theorem sc_law : FnScope N_law ["_law_script"] (defScope s_law) := ⟨rfl, rfl, rfl, by decide +kernel, rfl, by decide +kernel, by decide +kernel⟩

structure Txt (K : PySem.W.Frag) (mg : Str → Option Value) where
  f_BadName__init_ : Addr
  fd_BadName__init_ : FuncData
  F_BadName__init_ : Fun K "__init__" "BadName.__init__" s_BadName__init_ f_BadName__init_ fd_BadName__init_
  b_BadName__init_ : Binds K fd_BadName__init_ ["self", "name"] []
  f_DuplicateName__init_ : Addr
  fd_DuplicateName__init_ : FuncData
  F_DuplicateName__init_ : Fun K "__init__" "DuplicateName.__init__" s_DuplicateName__init_ f_DuplicateName__init_ fd_DuplicateName__init_
  b_DuplicateName__init_ : Binds K fd_DuplicateName__init_ ["self", "name"] []
  f_BadCount__init_ : Addr
  fd_BadCount__init_ : FuncData
  F_BadCount__init_ : Fun K "__init__" "BadCount.__init__" s_BadCount__init_ f_BadCount__init_ fd_BadCount__init_
  b_BadCount__init_ : Binds K fd_BadCount__init_ ["self", "count"] []
  f_BadGroup__init_ : Addr
  fd_BadGroup__init_ : FuncData
  F_BadGroup__init_ : Fun K "__init__" "BadGroup.__init__" s_BadGroup__init_ f_BadGroup__init_ fd_BadGroup__init_
  b_BadGroup__init_ : Binds K fd_BadGroup__init_ ["self", "value"] []
  f_BadText__init_ : Addr
  fd_BadText__init_ : FuncData
  F_BadText__init_ : Fun K "__init__" "BadText.__init__" s_BadText__init_ f_BadText__init_ fd_BadText__init_
  b_BadText__init_ : Binds K fd_BadText__init_ ["self", "text"] []
  f_valid_name : Addr
  fd_valid_name : FuncData
  F_valid_name : Fun K "valid_name" "valid_name" s_valid_name f_valid_name fd_valid_name
  b_valid_name : Binds K fd_valid_name ["text"] []
  g_valid_name : mg "valid_name" = some (.ref f_valid_name)
  f_all_groups : Addr
  fd_all_groups : FuncData
  F_all_groups : Fun K "all_groups" "all_groups" s_all_groups f_all_groups fd_all_groups
  b_all_groups : Binds K fd_all_groups ["persons"] []
  g_all_groups : mg "all_groups" = some (.ref f_all_groups)
  f_is_group : Addr
  fd_is_group : FuncData
  F_is_group : Fun K "is_group" "is_group" s_is_group f_is_group fd_is_group
  b_is_group : Binds K fd_is_group ["persons", "value"] []
  g_is_group : mg "is_group" = some (.ref f_is_group)
  f_rest : Addr
  fd_rest : FuncData
  F_rest : Fun K "rest" "rest" s_rest f_rest fd_rest
  b_rest : Binds K fd_rest ["persons", "group"] []
  g_rest : mg "rest" = some (.ref f_rest)
  f_contains : Addr
  fd_contains : FuncData
  F_contains : Fun K "contains" "contains" s_contains f_contains fd_contains
  b_contains : Binds K fd_contains ["group", "other"] []
  g_contains : mg "contains" = some (.ref f_contains)
  f_merged : Addr
  fd_merged : FuncData
  F_merged : Fun K "merged" "merged" s_merged f_merged fd_merged
  b_merged : Binds K fd_merged ["persons", "one", "other"] []
  g_merged : mg "merged" = some (.ref f_merged)
  f_checked_persons : Addr
  fd_checked_persons : FuncData
  F_checked_persons : Fun K "checked_persons" "checked_persons" s_checked_persons f_checked_persons fd_checked_persons
  b_checked_persons : Binds K fd_checked_persons ["persons"] []
  g_checked_persons : mg "checked_persons" = some (.ref f_checked_persons)
  f_check_groups : Addr
  fd_check_groups : FuncData
  F_check_groups : Fun K "check_groups" "check_groups" s_check_groups f_check_groups fd_check_groups
  b_check_groups : Binds K fd_check_groups ["persons", "groups"] []
  g_check_groups : mg "check_groups" = some (.ref f_check_groups)
  f_least_groups : Addr
  fd_least_groups : FuncData
  F_least_groups : Fun K "least_groups" "least_groups" s_least_groups f_least_groups fd_least_groups
  b_least_groups : Binds K fd_least_groups ["persons", "groups"] []
  g_least_groups : mg "least_groups" = some (.ref f_least_groups)
  f_contains_another : Addr
  fd_contains_another : FuncData
  F_contains_another : Fun K "contains_another" "contains_another" s_contains_another f_contains_another fd_contains_another
  b_contains_another : Binds K fd_contains_another ["group", "groups"] []
  g_contains_another : mg "contains_another" = some (.ref f_contains_another)
  f_Family__init_ : Addr
  fd_Family__init_ : FuncData
  F_Family__init_ : Fun K "__init__" "Family.__init__" s_Family__init_ f_Family__init_ fd_Family__init_
  b_Family__init_ : Binds K fd_Family__init_ ["self", "persons", "groups"] []
  f_Family_read : Addr
  fd_Family_read : FuncData
  F_Family_read : Fun K "read" "Family.read" s_Family_read f_Family_read fd_Family_read
  b_Family_read : Binds K fd_Family_read ["cls", "text"] []
  f_Family_persons : Addr
  fd_Family_persons : FuncData
  F_Family_persons : Fun K "persons" "Family.persons" s_Family_persons f_Family_persons fd_Family_persons
  b_Family_persons : Binds K fd_Family_persons ["self"] []
  f_Family_groups : Addr
  fd_Family_groups : FuncData
  F_Family_groups : Fun K "groups" "Family.groups" s_Family_groups f_Family_groups fd_Family_groups
  b_Family_groups : Binds K fd_Family_groups ["self"] []
  f_Family_needed : Addr
  fd_Family_needed : FuncData
  F_Family_needed : Fun K "needed" "Family.needed" s_Family_needed f_Family_needed fd_Family_needed
  b_Family_needed : Binds K fd_Family_needed ["self"] []
  f_Family__eq_ : Addr
  fd_Family__eq_ : FuncData
  F_Family__eq_ : Fun K "__eq__" "Family.__eq__" s_Family__eq_ f_Family__eq_ fd_Family__eq_
  b_Family__eq_ : Binds K fd_Family__eq_ ["self", "other"] []
  f_Family__str_ : Addr
  fd_Family__str_ : FuncData
  F_Family__str_ : Fun K "__str__" "Family.__str__" s_Family__str_ f_Family__str_ fd_Family__str_
  b_Family__str_ : Binds K fd_Family__str_ ["self"] []
  f_Family_opens : Addr
  fd_Family_opens : FuncData
  F_Family_opens : Fun K "opens" "Family.opens" s_Family_opens f_Family_opens fd_Family_opens
  b_Family_opens : Binds K fd_Family_opens ["self", "group"] []
  f_Family_turned : Addr
  fd_Family_turned : FuncData
  F_Family_turned : Fun K "turned" "Family.turned" s_Family_turned f_Family_turned fd_Family_turned
  b_Family_turned : Binds K fd_Family_turned ["self"] []
  f_law_start : Addr
  fd_law_start : FuncData
  F_law_start : Fun K "_law_start" "_law_start" s_law_start f_law_start fd_law_start
  b_law_start : Binds K fd_law_start ["_law_script"] []
  g_law_start : mg "_law_start" = some (.ref f_law_start)
  f_law_draw : Addr
  fd_law_draw : FuncData
  F_law_draw : Fun K "_law_draw" "_law_draw" s_law_draw f_law_draw fd_law_draw
  b_law_draw : Binds K fd_law_draw ["_law_state", "_law_size"] []
  g_law_draw : mg "_law_draw" = some (.ref f_law_draw)
  f_law_names : Addr
  fd_law_names : FuncData
  F_law_names : Fun K "_law_names" "_law_names" s_law_names f_law_names fd_law_names
  b_law_names : Binds K fd_law_names ["_law_state", "_law_count"] []
  g_law_names : mg "_law_names" = some (.ref f_law_names)
  f_law_good : Addr
  fd_law_good : FuncData
  F_law_good : Fun K "_law_good" "_law_good" s_law_good f_law_good fd_law_good
  b_law_good : Binds K fd_law_good ["_law_word"] []
  g_law_good : mg "_law_good" = some (.ref f_law_good)
  f_law_signs : Addr
  fd_law_signs : FuncData
  F_law_signs : Fun K "_law_signs" "_law_signs" s_law_signs f_law_signs fd_law_signs
  b_law_signs : Binds K fd_law_signs [] []
  g_law_signs : mg "_law_signs" = some (.ref f_law_signs)
  f_law_sets : Addr
  fd_law_sets : FuncData
  F_law_sets : Fun K "_law_sets" "_law_sets" s_law_sets f_law_sets fd_law_sets
  b_law_sets : Binds K fd_law_sets ["_law_pool"] []
  g_law_sets : mg "_law_sets" = some (.ref f_law_sets)
  f_law_inside : Addr
  fd_law_inside : FuncData
  F_law_inside : Fun K "_law_inside" "_law_inside" s_law_inside f_law_inside fd_law_inside
  b_law_inside : Binds K fd_law_inside ["_law_small", "_law_large"] []
  g_law_inside : mg "_law_inside" = some (.ref f_law_inside)
  f_law_least : Addr
  fd_law_least : FuncData
  F_law_least : Fun K "_law_least" "_law_least" s_law_least f_law_least fd_law_least
  b_law_least : Binds K fd_law_least ["_law_rows"] []
  g_law_least : mg "_law_least" = some (.ref f_law_least)
  f_law_drawn : Addr
  fd_law_drawn : FuncData
  F_law_drawn : Fun K "_law_drawn" "_law_drawn" s_law_drawn f_law_drawn fd_law_drawn
  b_law_drawn : Binds K fd_law_drawn ["_law_state", "_law_pool"] []
  g_law_drawn : mg "_law_drawn" = some (.ref f_law_drawn)
  f_law_opens : Addr
  fd_law_opens : FuncData
  F_law_opens : Fun K "_law_opens" "_law_opens" s_law_opens f_law_opens fd_law_opens
  b_law_opens : Binds K fd_law_opens ["_law_groups", "_law_chosen"] []
  g_law_opens : mg "_law_opens" = some (.ref f_law_opens)
  f_law_is_set : Addr
  fd_law_is_set : FuncData
  F_law_is_set : Fun K "_law_is_set" "_law_is_set" s_law_is_set f_law_is_set fd_law_is_set
  b_law_is_set : Binds K fd_law_is_set ["_law_pool", "_law_thing"] []
  g_law_is_set : mg "_law_is_set" = some (.ref f_law_is_set)
  f_law_text : Addr
  fd_law_text : FuncData
  F_law_text : Fun K "_law_text" "_law_text" s_law_text f_law_text fd_law_text
  b_law_text : Binds K fd_law_text ["_law_pool", "_law_least_here"] []
  g_law_text : mg "_law_text" = some (.ref f_law_text)
  f_law_spoiled : Addr
  fd_law_spoiled : FuncData
  F_law_spoiled : Fun K "_law_spoiled" "_law_spoiled" s_law_spoiled f_law_spoiled fd_law_spoiled
  b_law_spoiled : Binds K fd_law_spoiled ["_law_state", "_law_word"] []
  g_law_spoiled : mg "_law_spoiled" = some (.ref f_law_spoiled)
  f_law_due : Addr
  fd_law_due : FuncData
  F_law_due : Fun K "_law_due" "_law_due" s_law_due f_law_due fd_law_due
  b_law_due : Binds K fd_law_due ["_law_word"] []
  g_law_due : mg "_law_due" = some (.ref f_law_due)
  f_law : Addr
  fd_law : FuncData
  F_law : Fun K "law" "law" s_law f_law fd_law
  b_law : Binds K fd_law ["_law_script"] []
  g_law : mg "law" = some (.ref f_law)
  t_LETTERS : Tok
  c_LETTERS : mg "LETTERS" = some (.str "abcdefghijklmnopqrstuvwxyz" t_LETTERS)
  t_DIGITS : Tok
  c_DIGITS : mg "DIGITS" = some (.str "0123456789" t_DIGITS)
  t_LONGEST_NAME : Tok
  c_LONGEST_NAME : mg "LONGEST_NAME" = some (.int 6 t_LONGEST_NAME)
  t_MOST_PERSONS : Tok
  c_MOST_PERSONS : mg "MOST_PERSONS" = some (.int 5 t_MOST_PERSONS)
  n_set : mg "set" = none
  n_len : mg "len" = none
  n_all : mg "all" = none
  n_any : mg "any" = none
  n_abs : mg "abs" = none
  n_list : mg "list" = none
  n_int : mg "int" = none
  n_range : mg "range" = none
  n_isinstance : mg "isinstance" = none
  n_tuple : mg "tuple" = none
  n_sorted : mg "sorted" = none
  n_str : mg "str" = none
  n_enumerate : mg "enumerate" = none
  C_BadName : Addr
  g_BadName : mg "BadName" = some (.ref C_BadName)
  er_BadName : ErrT K C_BadName
  iC_BadName : PySem.W.findIn K (.ref C_BadName) "__init__" = some (some (.ref f_BadName__init_))
  tI_BadName : PySem.W.typeIn K (.ref f_BadName__init_) = some (.type "function")
  nf_BadName : PySem.W.findIn K (.ref C_BadName) "name" = some none
  C_DuplicateName : Addr
  g_DuplicateName : mg "DuplicateName" = some (.ref C_DuplicateName)
  er_DuplicateName : ErrT K C_DuplicateName
  iC_DuplicateName : PySem.W.findIn K (.ref C_DuplicateName) "__init__" = some (some (.ref f_DuplicateName__init_))
  tI_DuplicateName : PySem.W.typeIn K (.ref f_DuplicateName__init_) = some (.type "function")
  nf_DuplicateName : PySem.W.findIn K (.ref C_DuplicateName) "name" = some none
  C_BadCount : Addr
  g_BadCount : mg "BadCount" = some (.ref C_BadCount)
  er_BadCount : ErrT K C_BadCount
  iC_BadCount : PySem.W.findIn K (.ref C_BadCount) "__init__" = some (some (.ref f_BadCount__init_))
  tI_BadCount : PySem.W.typeIn K (.ref f_BadCount__init_) = some (.type "function")
  nf_BadCount : PySem.W.findIn K (.ref C_BadCount) "count" = some none
  C_BadGroup : Addr
  g_BadGroup : mg "BadGroup" = some (.ref C_BadGroup)
  er_BadGroup : ErrT K C_BadGroup
  iC_BadGroup : PySem.W.findIn K (.ref C_BadGroup) "__init__" = some (some (.ref f_BadGroup__init_))
  tI_BadGroup : PySem.W.typeIn K (.ref f_BadGroup__init_) = some (.type "function")
  nf_BadGroup : PySem.W.findIn K (.ref C_BadGroup) "value" = some none
  C_BadText : Addr
  g_BadText : mg "BadText" = some (.ref C_BadText)
  er_BadText : ErrT K C_BadText
  iC_BadText : PySem.W.findIn K (.ref C_BadText) "__init__" = some (some (.ref f_BadText__init_))
  tI_BadText : PySem.W.typeIn K (.ref f_BadText__init_) = some (.type "function")
  nf_BadText : PySem.W.findIn K (.ref C_BadText) "text" = some none
  C_NoGroup : Addr
  g_NoGroup : mg "NoGroup" = some (.ref C_NoGroup)
  er_NoGroup : ErrT K C_NoGroup
  q_NoGroup : PySem.W.excIn K C_NoGroup [.type "ValueError", .type "Exception", .type "BaseException", .type "object"] "ValueError.__new__" = true
  k_NoGroup : PySem.W.keepIn K (.ref C_NoGroup) = true
  C_Family : Addr
  g_Family : mg "Family" = some (.ref C_Family)
  cl_Family : Cls K C_Family
  na_persons : NoAttr K C_Family "_persons"
  na_groups : NoAttr K C_Family "_groups"
  na_needed : NoAttr K C_Family "_needed"
  mk_Family : Mk K C_Family f_Family__init_
  p_persons : Addr
  pp_persons : PropOf K C_Family "persons" p_persons f_Family_persons
  p_groups : Addr
  pp_groups : PropOf K C_Family "groups" p_groups f_Family_groups
  p_needed : Addr
  pp_needed : PropOf K C_Family "needed" p_needed f_Family_needed
  me_opens : Meth K C_Family "opens" f_Family_opens
  me_turned : Meth K C_Family "turned" f_Family_turned
  eq_at : PySem.W.findIn K (.ref C_Family) "__eq__" = some (some (.ref f_Family__eq_))
  eq_fn : PySem.W.isFn K (.ref f_Family__eq_) = true
  ne_at : PySem.W.findIn K (.ref C_Family) "__ne__" = some (some (.builtin "object.__ne__"))
  fc_Family : PySem.W.findIn K (.ref C_Family) "__class__" = some (some (.builtin "object.__class__"))
  sp_cls : PySem.W.specialIn K (.builtin "object.__class__") "__get__" = some (some (.builtin "getset_descriptor.__get__"))
  tk_cls : PySem.W.takesIn K (.builtin "object.__class__") = some true
  mro_Family : PySem.W.mroIn K C_Family (.type "object") = some true
  ki_Family : PySem.W.kitOne K (.ref C_Family) (.ref C_Family) = some true
  mc_Family : Value
  p_read : Addr
  cr_Family : ClX.CRead K C_Family mc_Family
  cm_read : ClX.CMet K C_Family mc_Family "read" p_read f_Family_read
  C_ShareError : Addr
  g_ShareError : mg "ShareError" = some (.ref C_ShareError)
  ki_BadText : PySem.W.kitOne K (.ref C_BadText) (.ref C_ShareError) = some true
  es_BadName : PySem.W.exmOne K (.ref C_BadName) (.ref C_ShareError) = some true
  es_DuplicateName : PySem.W.exmOne K (.ref C_DuplicateName) (.ref C_ShareError) = some true
  es_BadCount : PySem.W.exmOne K (.ref C_BadCount) (.ref C_ShareError) = some true
  es_BadGroup : PySem.W.exmOne K (.ref C_BadGroup) (.ref C_ShareError) = some true
  es_NoGroup : PySem.W.exmOne K (.ref C_NoGroup) (.ref C_ShareError) = some true
  es_BadText : PySem.W.exmOne K (.ref C_BadText) (.ref C_ShareError) = some true
  ex_BadName_BadName : PySem.W.exmOne K (.ref C_BadName) (.ref C_BadName) = some true
  ex_BadName_DuplicateName : PySem.W.exmOne K (.ref C_BadName) (.ref C_DuplicateName) = some false
  ex_BadName_BadCount : PySem.W.exmOne K (.ref C_BadName) (.ref C_BadCount) = some false
  ex_BadName_BadGroup : PySem.W.exmOne K (.ref C_BadName) (.ref C_BadGroup) = some false
  ex_BadName_NoGroup : PySem.W.exmOne K (.ref C_BadName) (.ref C_NoGroup) = some false
  ex_BadName_BadText : PySem.W.exmOne K (.ref C_BadName) (.ref C_BadText) = some false
  ex_DuplicateName_BadName : PySem.W.exmOne K (.ref C_DuplicateName) (.ref C_BadName) = some false
  ex_DuplicateName_DuplicateName : PySem.W.exmOne K (.ref C_DuplicateName) (.ref C_DuplicateName) = some true
  ex_DuplicateName_BadCount : PySem.W.exmOne K (.ref C_DuplicateName) (.ref C_BadCount) = some false
  ex_DuplicateName_BadGroup : PySem.W.exmOne K (.ref C_DuplicateName) (.ref C_BadGroup) = some false
  ex_DuplicateName_NoGroup : PySem.W.exmOne K (.ref C_DuplicateName) (.ref C_NoGroup) = some false
  ex_DuplicateName_BadText : PySem.W.exmOne K (.ref C_DuplicateName) (.ref C_BadText) = some false
  ex_BadCount_BadName : PySem.W.exmOne K (.ref C_BadCount) (.ref C_BadName) = some false
  ex_BadCount_DuplicateName : PySem.W.exmOne K (.ref C_BadCount) (.ref C_DuplicateName) = some false
  ex_BadCount_BadCount : PySem.W.exmOne K (.ref C_BadCount) (.ref C_BadCount) = some true
  ex_BadCount_BadGroup : PySem.W.exmOne K (.ref C_BadCount) (.ref C_BadGroup) = some false
  ex_BadCount_NoGroup : PySem.W.exmOne K (.ref C_BadCount) (.ref C_NoGroup) = some false
  ex_BadCount_BadText : PySem.W.exmOne K (.ref C_BadCount) (.ref C_BadText) = some false
  ex_BadGroup_BadName : PySem.W.exmOne K (.ref C_BadGroup) (.ref C_BadName) = some false
  ex_BadGroup_DuplicateName : PySem.W.exmOne K (.ref C_BadGroup) (.ref C_DuplicateName) = some false
  ex_BadGroup_BadCount : PySem.W.exmOne K (.ref C_BadGroup) (.ref C_BadCount) = some false
  ex_BadGroup_BadGroup : PySem.W.exmOne K (.ref C_BadGroup) (.ref C_BadGroup) = some true
  ex_BadGroup_NoGroup : PySem.W.exmOne K (.ref C_BadGroup) (.ref C_NoGroup) = some false
  ex_BadGroup_BadText : PySem.W.exmOne K (.ref C_BadGroup) (.ref C_BadText) = some false
  ex_NoGroup_BadName : PySem.W.exmOne K (.ref C_NoGroup) (.ref C_BadName) = some false
  ex_NoGroup_DuplicateName : PySem.W.exmOne K (.ref C_NoGroup) (.ref C_DuplicateName) = some false
  ex_NoGroup_BadCount : PySem.W.exmOne K (.ref C_NoGroup) (.ref C_BadCount) = some false
  ex_NoGroup_BadGroup : PySem.W.exmOne K (.ref C_NoGroup) (.ref C_BadGroup) = some false
  ex_NoGroup_NoGroup : PySem.W.exmOne K (.ref C_NoGroup) (.ref C_NoGroup) = some true
  ex_NoGroup_BadText : PySem.W.exmOne K (.ref C_NoGroup) (.ref C_BadText) = some false
  ex_BadText_BadName : PySem.W.exmOne K (.ref C_BadText) (.ref C_BadName) = some false
  ex_BadText_DuplicateName : PySem.W.exmOne K (.ref C_BadText) (.ref C_DuplicateName) = some false
  ex_BadText_BadCount : PySem.W.exmOne K (.ref C_BadText) (.ref C_BadCount) = some false
  ex_BadText_BadGroup : PySem.W.exmOne K (.ref C_BadText) (.ref C_BadGroup) = some false
  ex_BadText_NoGroup : PySem.W.exmOne K (.ref C_BadText) (.ref C_NoGroup) = some false
  ex_BadText_BadText : PySem.W.exmOne K (.ref C_BadText) (.ref C_BadText) = some true
  kb_read : KBn K fd_Family_read ["cls", "text"] 1 ["text"] (fun us ws => match us, ws with | [a], [x0] => [a, x0] | _, _ => List.replicate 2 Value.none) (fun us ws => match us, ws with | [a], [x0] => [a, x0] | _, _ => List.replicate 2 V.non)
  st_at : PySem.W.findIn K (.ref C_Family) "__str__" = some (some (.ref f_Family__str_))
  st_fn : PySem.W.isFn K (.ref f_Family__str_) = true
  nq_Family : PySem.W.notFirst K C_Family (.ref C_Family) = true

/-! short ways: "rd" opens a reading as far as equations go; "sep" finds what stands apart from the state; "sq" a list that is read; "nx" two heaps -/
local macro_rules | `(tactic| walk_at "sep") => `(tactic| first | assumption | (refine (by assumption : Nx _ _ _) _ _ ?_; walk_at "sep"))
local macro_rules | `(tactic| walk_at "sq") => `(tactic| first | assumption | exact .inl (.inl (by assumption)) | exact Sep.sq (by walk_at "sep") | exact Sep.st (by walk_at "sep") | exact .inl (.inl upd_same))
local macro_rules | `(tactic| walk_at "rd") => `(tactic| repeat (first
  | refine And.intro rfl ?_
  | apply Exists.intro
  | refine And.intro (by assumption) ?_
  | refine And.intro (DrawOk.mk (by omega) (by omega) (by omega)) ?_
  | refine And.intro at0 ?_
  | refine And.intro ⟨_, rfl⟩ ?_
  | refine And.intro (by walk_at "sq") ?_
  | refine And.intro (Or.inl (by walk_at "sq")) ?_
  | refine And.intro (Or.inr (by walk_at "sq")) ?_
  | refine And.intro (by omega) ?_))

section
variable {P : Program} {w : World} {K : PySem.W.Frag} {mg : Str → Option Value} {base : Heap}
def signs1 : Str := " !\"#$&'()*+,-./0123456789:;<=>?@ABCDEFGHIJKLMNOPQRSTUVWXYZ[\\]^_`"
def signs2 : Str := "abcdefghijklmnopqrstuvwxyz{|}~\n"
def spSigns : Sp := fun vs H Q _ => vs = [] ∧ Q (.str (signs1 ++ signs2)) H
theorem ok_law_signs (T : Txt K mg) : FnOk P w K mg base CX0 1 T.f_law_signs T.fd_law_signs [] spSigns := by
  refine T.F_law_signs.ok sc_law_signs (fun vs H Q E h => ?_) (fun cdv A outer s H vs Q E hr h => ?_)
  · obtain ⟨rfl, _⟩ := h
    rfl
  · obtain ⟨rfl, q⟩ := h
    refine ⟨_, (pss_cons (ps_set (i := 0) sc_law_signs.nd rfl (Or.inl rfl) pe_str)
    (pss_one (ps_ret (pe_op op_add_str (pv 0) pe_str)))), ?_⟩
    walk_at "rd"
    refine ⟨by decide +kernel, ?_⟩
    exact q

theorem ok_law_start (T : Txt K mg) : FnOk P w K mg base CX0 1 T.f_law_start T.fd_law_start ["_law_script"] (spStart K) := by
  refine T.F_law_start.ok sc_law_start (fun vs H Q E h => ?_) (fun cdv A outer s H vs Q E hr h => ?_)
  · obtain ⟨a, ns, rfl, _⟩ := h
    rfl
  · obtain ⟨a, ns, rfl, hS, hn, q⟩ := h
    refine ⟨_, (pss_one (ps_ret (pe_lstO (pa_cons (pe_lc (own := [("_law_cell", 1)]) (g := gName 1) rfl sc_law_start.nd (pi_list (pv 0)) (blkOk_by (own := [("_law_cell", 1)]) (N := N_law_start) (sc := defScope s_law_start) (by decide +kernel)) (fun _ _ _ _ _ => (pg_name (i := 1) sc_law_start.nd rfl (Or.inl rfl))) (fun _ _ _ _ _ => (pts_one (pt_cmpR op_ge (pe_callB (id := "abs") call_abs (by rfl) T.n_abs (by decide +kernel) (pa_cons (pv 1) pa_nil)) (pe_op op_pow pe_int pe_int) (nomark _)))) (fun _ _ _ _ _ => (pe_callB (id := "abs") call_abs (by rfl) T.n_abs (by decide +kernel) (pa_cons (pv 1) pa_nil)))) (pa_cons (pe_op op_catO (pe_callTy (T := "list") call_list_ofO (by rfl) T.n_list (by decide +kernel) (pa_cons (pv 0) pa_nil)) (pe_lstO (pa_cons pe_int pa_nil))) (pa_cons pe_int pa_nil)))))), ?_⟩
    walk_at "rd"
    refine ⟨⟨_, hS⟩, fun D hD => ?_⟩
    refine lc_fn (walk_list (xs := ns.map V.int)) (xs := ns) (by simp) (by simp; omega) (fun z => decide ((10 : Int) ^ 18 ≤ if z < 0 then -z else z)) (fun z => V.int (if z < 0 then -z else z)) hD (fun H1 s => s.seq hS) ?_ ?_
    · intro i z x H1 H2 Qk Qn hz sm hy hk hn'
      obtain ⟨rfl, hx⟩ := hy
      have ex : x = V.int z := by
        rw [List.getElem?_map, hz] at hx
        exact (Option.some.inj hx).symm
      subst ex
      walk_at "rd"
      refine ⟨⟨by decide, by decide, by decide⟩, ?_⟩
      walk_at "rd"
      refine ite2 (fun e => ?_) (fun e => ?_)
      · walk_at "rd"
        exact hk e _ (Same.refl _)
      · exact hn' ((Bool.not_eq_true _).mp e) _ (Same.refl _)
    · intro H1 sm hD1
      have hzs : (ns.filter fun z => decide ((10 : Int) ^ 18 ≤ if z < 0 then -z else z)).map (fun z => V.int (if z < 0 then -z else z)) = ((ns.filter fun z => decide ((10 : Int) ^ 18 ≤ if z < 0 then -z else z)).map (fun z => if z < 0 then -z else z)).map V.int := by
        rw [List.map_map]
        rfl
      rw [hzs] at hD1
      have hzl : ((ns.filter fun z => decide ((10 : Int) ^ 18 ≤ if z < 0 then -z else z)).map (fun z => if z < 0 then -z else z)).length ≤ 100 := by
        rw [List.length_map]
        exact Nat.le_trans (List.length_filter_le _ _) (by omega)
      generalize (ns.filter fun z => decide ((10 : Int) ^ 18 ≤ if z < 0 then -z else z)).map (fun z => if z < 0 then -z else z) = zs at hD1 hzl
      walk_at "rd"
      refine ⟨.inl (sm.seq hS), fun l H2 nl s1 hl => ?_⟩
      refine ⟨by decide, fun f H3 nf s2 hf => ?_⟩
      have hl3 := s2 _ _ hl
      refine ⟨l, f, _, _, rfl, rfl, hl3, hf, by simp; show ns.length + 1 ≤ _; exact Nat.le_of_lt (small1000 (by omega)), fun b H4 nb s3 hb => ?_⟩
      have hD4 := s3 _ _ (s2 _ _ (s1 _ _ hD1))
      walk_at "rd"
      refine ⟨by show 3 ≤ sizeLine; decide, fun p H5 np s4 hp => ?_⟩
      have sA := (((sm.trans s1).trans s2).trans s3).trans s4
      refine q p _ sA ((((sm.trans s1).trans s2).trans s3).free np) ⟨D, b, zs, ns ++ [5], hp, s4 _ _ hD4, by rw [List.map_append]; exact s4 _ _ hb, ?_, by simp, hzl, by simp; omega⟩
      exact ne_of_none (s2 _ _ (s1 _ _ hD1)) nb
theorem ok_law_draw (T : Txt K mg) : FnOk P w K mg base CX0 1 T.f_law_draw T.fd_law_draw ["_law_state", "_law_size"] spDraw := by
  refine T.F_law_draw.ok sc_law_draw (fun vs H Q E h => ?_) (fun cdv A outer s H vs Q E hr h => ?_)
  · obtain ⟨p, n, size, rfl, _⟩ := h
    rfl
  · obtain ⟨p, n, size, rfl, ⟨a, b, zs, ms, S⟩, ⟨hn, h0, h1⟩, q⟩ := h
    refine ⟨_, (pss_cons (ps_augS (pv 0) pe_int pget_list pe_int ip_add set_list)
    (pss_stop (ps_while PassesOwn.never (PW.pt (pw_and (pt_cmpR (op_neD hr.units) (pe_ix ix_list (pv 0) pe_int (fun _ _ => rfl)) (pe_lstO pa_nil) (nomark _)) (pw_and1 (pt_cmpR op_eq (pe_ix ix_list (pe_ix ix_list (pv 0) pe_int (fun _ _ => rfl)) pe_int (fun _ _ => rfl)) pe_int (nomark _))))) (pss_one (ps_asg (pe_slice sl_listO (pe_ix ix_list (pv 0) pe_int (fun _ _ => rfl)) (po_some pe_int) po_none) (pg_sub (pv 0) pe_int set_list))))
    (pss_cons (ps_if (pt_cmpR (op_neD hr.units) (pe_ix ix_list (pv 0) pe_int (fun _ _ => rfl)) (pe_lstO pa_nil) (nomark _))
      (pss_cons (ps_set (i := 2) sc_law_draw.nd rfl (Or.inl rfl) (pe_op op_mod (pe_callTy (T := "int") call_int1 (by rfl) T.n_int (by decide +kernel) (pa_cons (pe_ix ix_list (pe_ix ix_list (pv 0) pe_int (fun _ _ => rfl)) pe_int (fun _ _ => rfl)) pa_nil)) (pv 1)))
    (pss_cons (ps_asg (pe_op op_fdivW (pe_ix ix_list (pe_ix ix_list (pv 0) pe_int (fun _ _ => rfl)) pe_int (fun _ _ => rfl)) (pv 1)) (pg_sub (pe_ix ix_list (pv 0) pe_int (fun _ _ => rfl)) pe_int set_list))
    (pss_one (ps_ret (pv 2))))) pss_nil)
    (pss_cons (ps_set (i := 3) sc_law_draw.nd rfl (Or.inl rfl) (pe_op op_mod (pe_callTy (T := "int") call_int1 (by rfl) T.n_int (by decide +kernel) (pa_cons (pe_ix ix_list (pe_ix ix_list (pv 0) pe_int (fun _ _ => rfl)) (pe_op op_mod (pe_callTy (T := "int") call_int1 (by rfl) T.n_int (by decide +kernel) (pa_cons (pe_ix ix_list (pv 0) pe_int (fun _ _ => rfl)) pa_nil)) (pe_callB (id := "len") call_len_seq (by rfl) T.n_len PySem.boot_len (pa_cons (pe_ix ix_list (pv 0) pe_int (fun _ _ => rfl)) pa_nil))) (fun _ _ => rfl)) pa_nil)) pe_int))
    (pss_cons (ps_set (i := 4) sc_law_draw.nd rfl (Or.inl rfl) (pe_op op_mod (pe_callTy (T := "int") call_int1 (by rfl) T.n_int (by decide +kernel) (pa_cons (pe_op op_pow (pe_op op_add (pe_op op_add (pe_op op_mul (pv 3) pe_int) (pe_op op_mul (pe_ix ix_list (pv 0) pe_int (fun _ _ => rfl)) pe_int)) pe_int) pe_int) pa_nil)) pe_int))
    (pss_one (ps_ret (pe_op op_mod (pe_op op_mod (pe_callTy (T := "int") call_int1 (by rfl) T.n_int (by decide +kernel) (pa_cons (pe_op op_pow (pe_op op_add (pe_op op_add (pe_op op_mul (pv 4) pe_int) (pe_op op_mul (pe_ix ix_list (pv 0) pe_int (fun _ _ => rfl)) pe_int)) pe_int) pe_int) pa_nil)) pe_int) (pv 1))))))))), ?_⟩
    walk_at "rd"
    refine ⟨.inl (.inl S.hp), by decide, rfl, ?_⟩
    walk_at "rd"
    refine ⟨S.hp, rfl, ?_⟩
    have S1 : StA (upd H p (.lst ([V.ref a, V.ref b, V.int ↑n].set (Int.toNat 2) (V.int (↑n + 1))))) p a b zs ms (n + 1) := S.bump
    have x1 : Nx p H (upd H p (.lst ([V.ref a, V.ref b, V.int ↑n].set (Int.toNat 2) (V.int (↑n + 1))))) := S.bump_nx
    generalize upd H p (.lst ([V.ref a, V.ref b, V.int ↑n].set (Int.toNat 2) (V.int (↑n + 1)))) = H1 at S1 x1 ⊢
    dsimp only
    refine Stop.cut (fun σ H' => σ = L2.start N_law_draw [V.ref p, V.int size] ∧ ∃ a zs, StA H' p a b zs ms (n + 1) ∧ Nx p H H') (fun Qz hz => ?_) ?_
    · refine ⟨fun m σ H' => σ = L2.start N_law_draw [V.ref p, V.int size] ∧ ∃ a zs, StA H' p a b zs ms (n + 1) ∧ Nx p H H' ∧ zs.length = m, ⟨_, rfl, a, zs, S1, x1, rfl⟩, ?_⟩
      rintro m _ H2 ⟨rfl, a, zs, S2, x2, rfl⟩
      have hp2 := S2.hp
      have ha2 := S2.ha
      walk_at "rd"
      refine ⟨Nat.zero_le _, fun e H3 ne s3 he => ?_⟩
      have S3 := S2.same s3
      have x3 := x2.trans (S2.nx s3)
      refine ints_ne_nil (.inl (.inl S3.ha)) (.inl (.inl he)) ?_
      clear s3 he ne hp2 ha2 S2 x2
      have hp3 := S3.hp
      have ha3 := S3.ha
      walk_at "rd"
      refine ite2 (fun c1 => ?_) (fun c1 => ?_)
      · cases zs with
        | nil => simp at c1
        | cons z zs =>
          have hl : (z :: zs).length ≤ 100 := S3.lz
          rw [List.map_cons] at ha3
          walk_at "rd"
          refine ite2 (fun c2 => ?_) (fun c2 => ?_)
          · refine ⟨fun σ H' => σ = L2.start N_law_draw [V.ref p, V.int size] ∧ ∃ a zs', StA H' p a b zs' ms (n + 1) ∧ Nx p H H' ∧ zs'.length = zs.length, fun σ H' ⟨e1, a, zs', h1, h2, h3⟩ => ⟨zs.length, by simp, e1, a, zs', h1, h2, h3⟩, ?_⟩
            walk_at "rd"
            intro r H4 hr s4 e4
            have hp4 := s4 _ _ hp3
            have hl' : zs.length ≤ 100 := by
              rw [List.length_cons] at hl
              omega
            rw [cutV1] at e4
            have w4 := S3.swapO (zs' := zs) hr s4 e4 hl'
            walk_at "rd"
            exact ⟨w4.1, x3.trans w4.2, rfl⟩
          · exact hz _ _ ⟨rfl, a, z :: zs, S3, x3⟩
      · exact hz _ _ ⟨rfl, a, zs, S3, x3⟩
    · rintro _ H2 ⟨rfl, a, zs, S2, x2⟩
      have hp2 := S2.hp
      walk_at "rd"
      refine ⟨Nat.zero_le _, fun e H3 ne s3 he => ?_⟩
      have S3 := S2.same s3
      have x3 := x2.trans (S2.nx s3)
      refine ints_ne_nil (.inl (.inl S3.ha)) (.inl (.inl he)) ?_
      clear s3 he ne hp2 S2 x2
      have hp3 := S3.hp
      have ha3 := S3.ha
      have hb3 := S3.hb
      walk_at "rd"
      refine ite2 (fun c1 => ?_) (fun c1 => ?_)
      · cases zs with
        | nil => simp at c1
        | cons z zs =>
          have hl : (z :: zs).length ≤ 100 := S3.lz
          rw [List.map_cons] at ha3
          walk_at "rd"
          refine .inl ?_
          walk_at "rd"
          refine ⟨wide_div h0 (b := 64) (by omega) (by decide) (by decide), ?_⟩
          walk_at "rd"
          refine ⟨ix0, ?_⟩
          walk_at "rd"
          refine q _ _ (Int.emod_nonneg _ (by omega)) (Int.emod_lt_of_pos _ h0) (S3.seta (zs' := z / size :: zs) hl).mk' (x3.trans (S3.seta_nx (zs' := z / size :: zs)))
      · have ml : 0 < ms.length := List.length_pos_iff.mpr S3.ne
        have ml' : (0 : Int) < (((ms.map V.int).length : Nat) : Int) := by rw [List.length_map]; omega
        obtain ⟨j, hj, hjl⟩ : ∃ j : Nat, (((n + 1 : Nat) : Int) % (((ms.map V.int).length : Nat) : Int)) = (j : Int) ∧ j < ms.length := by
          refine ⟨(n + 1) % ms.length, ?_, Nat.mod_lt _ ml⟩
          rw [List.length_map]
          omega
        have hat : atI (ms.map V.int) (((n + 1 : Nat) : Int) % (((ms.map V.int).length : Nat) : Int)) = some (.int ms[j]) := by
          rw [hj]
          exact atI_nat (by rw [List.getElem?_map, List.getElem?_eq_getElem hjl]; rfl)
        generalize ms[j] = c0 at hat
        walk_at "rd"
        refine .inl ?_
        walk_at "rd"
        refine .inl ?_
        walk_at "rd"
        have hc0 := Int.emod_nonneg c0 (show (2147483647 : Int) ≠ 0 by decide)
        have hc1 := Int.emod_lt_of_pos c0 (show (0 : Int) < 2147483647 by decide)
        walk_at "rd"
        refine ⟨.inr ⟨by decide, by decide⟩, ?_⟩
        walk_at "rd"
        refine ⟨.inr ⟨by decide, by decide⟩, ?_⟩
        walk_at "rd"
        refine ⟨⟨by decide, by decide, ?_⟩, ?_⟩
        · show (c0 % 2147483647 * 48271 + ((n + 1 : Nat) : Int) * 69621 + 7).natAbs < 18446744073709551616
          generalize c0 % 2147483647 = c1 at hc0 hc1 ⊢
          omega
        walk_at "rd"
        refine .inl ?_
        walk_at "rd"
        have hd : 0 ≤ (c0 % 2147483647 * 48271 + (((n + 1 : Nat)) : Int) * 69621 + 7) ^ Int.toNat 5 % 2147483647 ∧ (c0 % 2147483647 * 48271 + (((n + 1 : Nat)) : Int) * 69621 + 7) ^ Int.toNat 5 % 2147483647 < 2147483647 := pow5 _
        walk_at "rd"
        refine ⟨.inr ⟨by decide, by decide⟩, ?_⟩
        walk_at "rd"
        refine ⟨.inr ⟨by decide, by decide⟩, ?_⟩
        walk_at "rd"
        refine ⟨⟨by decide, by decide, ?_⟩, ?_⟩
        · show ((c0 % 2147483647 * 48271 + ((n + 1 : Nat) : Int) * 69621 + 7) ^ Int.toNat 5 % 2147483647 * 16807 + ((n + 1 : Nat) : Int) * 40692 + 13).natAbs < 18446744073709551616
          generalize (c0 % 2147483647 * 48271 + ((n + 1 : Nat) : Int) * 69621 + 7) ^ Int.toNat 5 % 2147483647 = d1 at hd ⊢
          omega
        walk_at "rd"
        refine .inl ?_
        walk_at "rd"
        exact q _ _ (Int.emod_nonneg _ (by omega)) (Int.emod_lt_of_pos _ h0) S3.mk' x3

theorem ok_BadName__init_ (T : Txt K mg) : FnOk P w K mg base CX0 1 T.f_BadName__init_ T.fd_BadName__init_ ["self", "name"] (spErr T.C_BadName "name") := by
  refine T.F_BadName__init_.ok sc_BadName__init_ (fun vs H Q E h => ?_) (fun cdv A outer s H vs Q E hr h => ?_)
  · obtain ⟨a, v, rfl, _⟩ := h
    rfl
  · obtain ⟨a, v, rfl, ha, q⟩ := h
    refine ⟨_, (pss_one (ps_ost (pv 0) (pv 1))), ?_⟩
    walk_at "rd"
    refine ⟨T.er_BadName.ox, T.nf_BadName, .inl ⟨ha, fun dx h1 h2 => q dx h1 h2⟩⟩
theorem ok_DuplicateName__init_ (T : Txt K mg) : FnOk P w K mg base CX0 1 T.f_DuplicateName__init_ T.fd_DuplicateName__init_ ["self", "name"] (spErr T.C_DuplicateName "name") := by
  refine T.F_DuplicateName__init_.ok sc_DuplicateName__init_ (fun vs H Q E h => ?_) (fun cdv A outer s H vs Q E hr h => ?_)
  · obtain ⟨a, v, rfl, _⟩ := h
    rfl
  · obtain ⟨a, v, rfl, ha, q⟩ := h
    refine ⟨_, (pss_one (ps_ost (pv 0) (pv 1))), ?_⟩
    walk_at "rd"
    refine ⟨T.er_DuplicateName.ox, T.nf_DuplicateName, .inl ⟨ha, fun dx h1 h2 => q dx h1 h2⟩⟩
theorem ok_BadCount__init_ (T : Txt K mg) : FnOk P w K mg base CX0 1 T.f_BadCount__init_ T.fd_BadCount__init_ ["self", "count"] (spErr T.C_BadCount "count") := by
  refine T.F_BadCount__init_.ok sc_BadCount__init_ (fun vs H Q E h => ?_) (fun cdv A outer s H vs Q E hr h => ?_)
  · obtain ⟨a, v, rfl, _⟩ := h
    rfl
  · obtain ⟨a, v, rfl, ha, q⟩ := h
    refine ⟨_, (pss_one (ps_ost (pv 0) (pv 1))), ?_⟩
    walk_at "rd"
    refine ⟨T.er_BadCount.ox, T.nf_BadCount, .inl ⟨ha, fun dx h1 h2 => q dx h1 h2⟩⟩
theorem ok_BadGroup__init_ (T : Txt K mg) : FnOk P w K mg base CX0 1 T.f_BadGroup__init_ T.fd_BadGroup__init_ ["self", "value"] (spErr T.C_BadGroup "value") := by
  refine T.F_BadGroup__init_.ok sc_BadGroup__init_ (fun vs H Q E h => ?_) (fun cdv A outer s H vs Q E hr h => ?_)
  · obtain ⟨a, v, rfl, _⟩ := h
    rfl
  · obtain ⟨a, v, rfl, ha, q⟩ := h
    refine ⟨_, (pss_one (ps_ost (pv 0) (pv 1))), ?_⟩
    walk_at "rd"
    refine ⟨T.er_BadGroup.ox, T.nf_BadGroup, .inl ⟨ha, fun dx h1 h2 => q dx h1 h2⟩⟩
theorem ok_BadText__init_ (T : Txt K mg) : FnOk P w K mg base CX0 1 T.f_BadText__init_ T.fd_BadText__init_ ["self", "text"] (spErr T.C_BadText "text") := by
  refine T.F_BadText__init_.ok sc_BadText__init_ (fun vs H Q E h => ?_) (fun cdv A outer s H vs Q E hr h => ?_)
  · obtain ⟨a, v, rfl, _⟩ := h
    rfl
  · obtain ⟨a, v, rfl, ha, q⟩ := h
    refine ⟨_, (pss_one (ps_ost (pv 0) (pv 1))), ?_⟩
    walk_at "rd"
    refine ⟨T.er_BadText.ox, T.nf_BadText, .inl ⟨ha, fun dx h1 h2 => q dx h1 h2⟩⟩

end
end P

set_option Elab.async false
set_option linter.all false
set_option maxRecDepth 100000
set_option maxHeartbeats 4000000
namespace P
open PySem PySem.Spec PyProof.Rows L2 OS
/-! short ways: "rd" opens a reading as far as equations go; "sep" finds what stands apart from the state; "sq" a list that is read; "nx" two heaps -/
local macro_rules | `(tactic| walk_at "sep") => `(tactic| first | assumption | (refine (by assumption : Nx _ _ _) _ _ ?_; walk_at "sep"))
local macro_rules | `(tactic| walk_at "sq") => `(tactic| first | assumption | exact .inl (.inl (by assumption)) | exact Sep.sq (by walk_at "sep") | exact Sep.st (by walk_at "sep") | exact .inl (.inl upd_same))
local macro_rules | `(tactic| walk_at "rd") => `(tactic| repeat (first
  | refine And.intro rfl ?_
  | apply Exists.intro
  | refine And.intro (by assumption) ?_
  | refine And.intro (DrawOk.mk (by omega) (by omega) (by omega)) ?_
  | refine And.intro at0 ?_
  | refine And.intro ⟨_, rfl⟩ ?_
  | refine And.intro (by walk_at "sq") ?_
  | refine And.intro (Or.inl (by walk_at "sq")) ?_
  | refine And.intro (Or.inr (by walk_at "sq")) ?_
  | refine And.intro (by omega) ?_))

section
variable {P : Program} {w : World} {K : PySem.W.Frag} {mg : Str → Option Value} {base : Heap}
/-- contains(group, other) -/
def spContains (K : PySem.W.Frag) : Sp := fun vs H Q _ => ∃ (a b : Addr) (gs os : List Str), vs = [.ref a, .ref b] ∧ SqT K H a (gs.map V.str) ∧ SqT K H b (os.map V.str) ∧ os.length ≤ 1000 ∧ ∀ H', Same H H' → Q (.bl (inside os gs)) H'
theorem ok_contains (T : Txt K mg) : FnOk P w K mg base CX0 1 T.f_contains T.fd_contains ["group", "other"] (spContains K) := by
  refine T.F_contains.ok sc_contains (fun vs H Q E h => ?_) (fun cdv A outer s H vs Q E hr h => ?_)
  · obtain ⟨a, b, gs, os, rfl, _⟩ := h
    rfl
  · obtain ⟨a, b, gs, os, rfl, hg, ho, hl, q⟩ := h
    refine ⟨_, (pss_one (ps_ret (pe_callB (id := "all") (r := rAll K) (cr_all rfl) (by rfl) T.n_all (by decide +kernel) (pa_cons (pe_lc (own := [("name", 2)]) (g := gName 2) (tt := tYes) rfl sc_contains.nd (pi_tup (pv 1)) (blkOk_by (own := [("name", 2)]) (N := N_contains) (sc := defScope s_contains) (by decide +kernel)) (fun _ _ _ _ _ => (pg_name (i := 2) sc_contains.nd rfl (Or.inl rfl))) (fun _ _ _ _ _ => pts_nil) (fun _ _ _ _ _ => (pe_cmpR (r := rIn K false) op_in_seq (pv 2) (pv 0) (by rfl)))) pa_nil)))), ?_⟩
    walk_at "rd"
    refine ⟨⟨_, ho⟩, fun D hD => ?_⟩
    refine lc_all (walk_tup (xs := os.map V.str)) (xs := os) (by simp) (by simp; omega) (fun n => V.bl (decide (n ∈ gs))) hD (fun H1 s => s.tupT ho) ?_ ?_
    · intro i n x H1 H2 Qk hn sm hy hk
      obtain ⟨rfl, hx⟩ := hy
      obtain rfl := strs_get hx hn
      have hg2 := sm.tupT hg
      walk_at "rd"
      refine ⟨strs_flat gs, ?_⟩
      rw [inV_strs]
      exact hk _ (Same.refl _)
    · intro H1 sm hD1
      refine ⟨D, os.map fun n => decide (n ∈ gs), rfl, SqL.of (by rw [List.map_map]; exact hD1), ?_⟩
      have e : (os.map fun n => decide (n ∈ gs)).all id = inside os gs := by
        unfold inside
        rw [List.all_map]
        rfl
      rw [e]
      exact q _ sm
/-- rest(persons, group) -/
def spRest (K : PySem.W.Frag) : Sp := fun vs H Q _ => ∃ (a b : Addr) (ps gs : List Str), vs = [.ref a, .ref b] ∧ SqT K H a (ps.map V.str) ∧ SqT K H b (gs.map V.str) ∧ ps.length ≤ 1000 ∧
  ∀ p H', Same H H' → SqT K H' p ((ps.filter fun n => !decide (n ∈ gs)).map V.str) → Q (.ref p) H'
theorem ok_rest (T : Txt K mg) : FnOk P w K mg base CX0 1 T.f_rest T.fd_rest ["persons", "group"] (spRest K) := by
  refine T.F_rest.ok sc_rest (fun vs H Q E h => ?_) (fun cdv A outer s H vs Q E hr h => ?_)
  · obtain ⟨a, b, ps, gs, rfl, _⟩ := h
    rfl
  · obtain ⟨a, b, ps, gs, rfl, hp, hg, hl, q⟩ := h
    refine ⟨_, (pss_one (ps_ret (pe_callTy (T := "tuple") call_tuple_ofL (by rfl) T.n_tuple (by decide +kernel) (pa_cons (pe_lc (own := [("name", 2)]) (g := gName 2) rfl sc_rest.nd (pi_tup (pv 0)) (blkOk_by (own := [("name", 2)]) (N := N_rest) (sc := defScope s_rest) (by decide +kernel)) (fun _ _ _ _ _ => (pg_name (i := 2) sc_rest.nd rfl (Or.inl rfl))) (fun _ _ _ _ _ => (pts_one (pt_cmpR (r := rIn K true) op_notIn_seq (pv 2) (pv 1) (by rfl)))) (fun _ _ _ _ _ => (pv 2))) pa_nil)))), ?_⟩
    walk_at "rd"
    refine ⟨⟨_, hp⟩, fun D hD => ?_⟩
    refine lc_fn (walk_tup (xs := ps.map V.str)) (xs := ps) (by simp) (by simp; omega) (fun n => !decide (n ∈ gs)) V.str hD (fun H1 s => s.tupT hp) ?_ ?_
    · intro i n x H1 H2 Qk Qn hn sm hy hk hn'
      obtain ⟨rfl, hx⟩ := hy
      obtain rfl := strs_get hx hn
      have hg2 := sm.tupT hg
      walk_at "rd"
      refine ⟨strs_flat gs, ?_⟩
      rw [inV_strs]
      walk_at "rd"
      refine ite2 (fun e => ?_) (fun e => ?_)
      · walk_at "rd"
        exact hk e _ (Same.refl _)
      · exact hn' ((Bool.not_eq_true _).mp e) _ (Same.refl _)
    · intro H1 sm hD1
      refine ⟨D, _, rfl, SqL.of hD1, fun p H2 np s2 hp2 => ?_⟩
      exact q p H2 (sm.trans s2) (SqT.of hp2)
/-- is_group(persons, value) -/
def spIsGrp (K : PySem.W.Frag) : Sp := fun vs H Q _ => ∃ (a : Addr) (ps : List Str) (x : V) (o : Option (List V)), vs = [.ref a, x] ∧ SqT K H a (ps.map V.str) ∧ Thing K H x o ∧ ps.length ≤ 1000 ∧ ∀ H', Same H H' → Q (.bl (isGrp ps o)) H'
theorem ok_is_group (T : Txt K mg) : FnOk P w K mg base CX0 1 T.f_is_group T.fd_is_group ["persons", "value"] (spIsGrp K) := by
  refine T.F_is_group.ok sc_is_group (fun vs H Q E h => ?_) (fun cdv A outer s H vs Q E hr h => ?_)
  · obtain ⟨a, ps, x, o, rfl, _⟩ := h
    rfl
  · obtain ⟨a, ps, x, o, rfl, hp, hx, hl, q⟩ := h
    refine ⟨_, (pss_cons (ps_if (pt_not (pt_val (pe_callB (id := "isinstance") (r := rIsi K) call_isi (by rfl) T.n_isinstance (by decide +kernel) (pa_cons (pv 1) (pa_cons (pe_bltn (v := .ty "tuple") (u := .type "tuple") (by rfl) T.n_tuple (by decide +kernel) rfl) pa_nil)))))
      (pss_one (ps_ret pe_bl)) pss_nil)
    (pss_one (ps_ret (pe_cmpR (r := rEqTS K) (op_eqTS (room65 hr)) (pv 1) (pe_callTy (T := "tuple") call_tuple_ofL (by rfl) T.n_tuple (by decide +kernel) (pa_cons (pe_lc (own := [("name", 2)]) (g := gName 2) rfl sc_is_group.nd (pi_tup (pv 0)) (blkOk_by (own := [("name", 2)]) (N := N_is_group) (sc := defScope s_is_group) (by decide +kernel)) (fun _ _ _ _ _ => (pg_name (i := 2) sc_is_group.nd rfl (Or.inl rfl))) (fun _ _ _ _ _ => (pts_one (pt_cmpR (r := rInAny K false) (op_inAny (room65 hr)) (pv 2) (pv 1) (by rfl)))) (fun _ _ _ _ _ => (pv 2))) pa_nil)) (nomark _))))), ?_⟩
    obtain ⟨t, ht, hk⟩ := hx.isT
    walk_at "rd"
    refine ⟨.ty _, ht, hk, ?_⟩
    walk_at "rd"
    cases hx with
    | flat f => exact q H (Same.refl H)
    | lst z => exact q H (Same.refl H)
    | dct z => exact q H (Same.refl H)
    | @tup b xs hb hi =>
      walk_at "rd"
      refine ⟨⟨_, hp⟩, fun D hD => ?_⟩
      refine lc_fn (walk_tup (xs := ps.map V.str)) (xs := ps) (by simp) (by simp; omega) (fun n => xs.any (isS n)) V.str hD (fun H1 s => s.tupT hp) ?_ ?_
      · intro i n x H1 H2 Qk Qn hn sm hy hk hn'
        obtain ⟨rfl, hx⟩ := hy
        obtain rfl := strs_get hx hn
        have hb2 := sm.tupT hb
        have hi2 : ∀ v ∈ xs, Itm K H2 v := fun v hv => (hi v hv).same sm
        walk_at "rd"
        refine ite2 (fun e => ?_) (fun e => ?_)
        · walk_at "rd"
          exact hk e _ (Same.refl _)
        · exact hn' ((Bool.not_eq_true _).mp e) _ (Same.refl _)
      · intro H1 sm hD1
        refine ⟨D, _, rfl, SqL.of hD1, fun p H2 np s2 hp2 => ?_⟩
        have hb3 := (sm.trans s2).tupT hb
        have hi3 : ∀ v ∈ xs, Itm K H2 v := fun v hv => (hi v hv).same (sm.trans s2)
        refine ⟨b, p, xs, _, rfl, rfl, hb3, hi3, SqT.of hp2, ?_⟩
        exact q H2 (sm.trans s2)
end
end P

set_option Elab.async false
set_option linter.all false
set_option maxRecDepth 100000
set_option maxHeartbeats 4000000
namespace P
open PySem PySem.Spec PyProof.Rows L2 OS
/-! short ways: "rd" opens a reading as far as equations go; "sep" finds what stands apart from the state; "sq" a list that is read; "nx" two heaps -/
local macro_rules | `(tactic| walk_at "sep") => `(tactic| first | assumption | (refine (by assumption : Nx _ _ _) _ _ ?_; walk_at "sep"))
local macro_rules | `(tactic| walk_at "sq") => `(tactic| first | assumption | exact .inl (.inl (by assumption)) | exact Sep.sq (by walk_at "sep") | exact Sep.st (by walk_at "sep") | exact .inl (.inl upd_same))
local macro_rules | `(tactic| walk_at "rd") => `(tactic| repeat (first
  | refine And.intro rfl ?_
  | apply Exists.intro
  | refine And.intro (by assumption) ?_
  | refine And.intro (DrawOk.mk (by omega) (by omega) (by omega)) ?_
  | refine And.intro at0 ?_
  | refine And.intro ⟨_, rfl⟩ ?_
  | refine And.intro (by walk_at "sq") ?_
  | refine And.intro (Or.inl (by walk_at "sq")) ?_
  | refine And.intro (Or.inr (by walk_at "sq")) ?_
  | refine And.intro (by omega) ?_))

section
variable {P : Program} {w : World} {K : PySem.W.Frag} {mg : Str → Option Value} {base : Heap}
/-- contains_another(group, groups) -/
def spAnother (K : PySem.W.Frag) : Sp := fun vs H Q _ => ∃ (x : V) (p : Addr) (xs : List V) (g : List Str) (gs : List (List Str)), vs = [x, .ref p] ∧ GrpV K H x g ∧ SqL K H p xs ∧ GrpsV K H xs gs ∧ gs.length ≤ 1000 ∧ (∀ o ∈ gs, o.length ≤ 1000) ∧
  ∀ H', Same H H' → Q (.bl (gs.any fun o => decide (o ≠ g) && inside o g)) H'
theorem ok_contains_another (T : Txt K mg) : FnOk P w K mg base CX0 2 T.f_contains_another T.fd_contains_another ["group", "groups"] (spAnother K) := by
  refine T.F_contains_another.ok sc_contains_another (fun vs H Q E h => ?_) (fun cdv A outer s H vs Q E hr h => ?_)
  · obtain ⟨x, p, xs, g, gs, rfl, _⟩ := h
    rfl
  · obtain ⟨x, p, xs, g, gs, rfl, hx, hp, hg, hl, hl2, q⟩ := h
    refine ⟨_, (pss_one (ps_ret (pe_callB (id := "any") (r := rAny K) (cr_any rfl) (by rfl) T.n_any (by decide +kernel) (pa_cons (pe_lc (own := [("other", 2)]) (g := gName 2) (tt := tYes) rfl sc_contains_another.nd (pi_list (pv 1)) (blkOk_by (own := [("other", 2)]) (N := N_contains_another) (sc := defScope s_contains_another) (by decide +kernel)) (fun _ _ _ _ _ => (pg_name (i := 2) sc_contains_another.nd rfl (Or.inl rfl))) (fun _ _ _ _ _ => pts_nil) (fun _ _ _ _ _ => (pe_and (pe_cmpR (r := rNeP K) (op_neP (room65 hr)) (pv 2) (pv 0) (nomark _)) (pe_one (pe_call (ok_contains T) (hr.mono (by decide)) (by rfl) T.g_contains T.F_contains.kp T.b_contains .nil pass0 (pa_cons (pv 0) (pa_cons (pv 2) pa_nil))))))) pa_nil)))), ?_⟩
    walk_at "rd"
    refine ⟨⟨_, hp⟩, fun D hD => ?_⟩
    refine lc_all (walk_list (xs := xs)) (xs := gs) (paired_len hg).symm (by rw [paired_len hg]; exact Nat.le_trans hl (by decide)) (fun o => V.bl (decide (o ≠ g) && inside o g)) hD (fun H1 s => s.seq hp) ?_ ?_
    · intro i o y H1 H2 Qk ho sm hy hk
      obtain ⟨rfl, hy⟩ := hy
      obtain ⟨o', h1, h2⟩ := OS.paired_get hg hy
      obtain rfl : o' = o := Option.some.inj (h1.symm.trans ho)
      have hmem : o' ∈ gs := List.mem_of_getElem? ho
      have hx2 := hx.same sm
      have hy2 := h2.same sm
      walk_at "rd"
      refine ⟨hy2.dp, hx2.dp, by rw [depth_G]; decide, ?_⟩
      rw [eqv_G]
      walk_at "rd"
      obtain ⟨b, rfl, hb⟩ := hx2
      obtain ⟨c, rfl, hc⟩ := hy2
      refine ite2 (fun e => ?_) (fun e => ?_)
      · have e1 : o' ≠ g := by simpa using e
        have hl3 := hl2 _ hmem
        walk_at "rd"
        intro H3 s3
        rw [decide_eq_true e1, Bool.true_and] at hk
        exact hk H3 s3
      · have e1 : o' = g := by simpa using e
        subst e1
        have e2 : (decide (o' ≠ o') && inside o' o') = false := by simp
        rw [e2] at hk
        exact hk _ (Same.refl _)
    · intro H1 sm hD1
      refine ⟨D, gs.map (fun o => decide (o ≠ g) && inside o g), rfl, SqL.of (by rw [List.map_map]; exact hD1), ?_⟩
      rw [List.any_map]
      exact q _ sm
end
end P

set_option Elab.async false
set_option linter.all false
set_option maxRecDepth 100000
set_option maxHeartbeats 4000000
namespace P
open PySem PySem.Spec PyProof.Rows L2 OS
/-! short ways: "rd" opens a reading as far as equations go; "sep" finds what stands apart from the state; "sq" a list that is read; "nx" two heaps -/
local macro_rules | `(tactic| walk_at "sep") => `(tactic| first | assumption | (refine (by assumption : Nx _ _ _) _ _ ?_; walk_at "sep"))
local macro_rules | `(tactic| walk_at "sq") => `(tactic| first | assumption | exact .inl (.inl (by assumption)) | exact Sep.sq (by walk_at "sep") | exact Sep.st (by walk_at "sep") | exact .inl (.inl upd_same))
local macro_rules | `(tactic| walk_at "rd") => `(tactic| repeat (first
  | refine And.intro rfl ?_
  | apply Exists.intro
  | refine And.intro (by assumption) ?_
  | refine And.intro (DrawOk.mk (by omega) (by omega) (by omega)) ?_
  | refine And.intro at0 ?_
  | refine And.intro ⟨_, rfl⟩ ?_
  | refine And.intro (by walk_at "sq") ?_
  | refine And.intro (Or.inl (by walk_at "sq")) ?_
  | refine And.intro (Or.inr (by walk_at "sq")) ?_
  | refine And.intro (by omega) ?_))

section
variable {P : Program} {w : World} {K : PySem.W.Frag} {mg : Str → Option Value} {base : Heap}
/-- all_groups(persons) -/
def spAllGroups (K : PySem.W.Frag) : Sp := fun vs H Q _ => ∃ (a : Addr) (ps : List Str), vs = [.ref a] ∧ SqT K H a (ps.map V.str) ∧ ps.length ≤ 8 ∧ ∀ p H' xs, H p = none → Same H H' → H' p = some (.lst xs) → GrpsV K H' xs (allG ps) → Q (.ref p) H'
theorem sets_small {ps : List Str} (h : ps.length ≤ 8) : (setsL ps).length ≤ 256 := by
  rw [setsL_len]
  exact Nat.pow_le_pow_right (by decide : 2 > 0) h
theorem ok_all_groups (T : Txt K mg) : FnOk P w K mg base CX0 1 T.f_all_groups T.fd_all_groups ["persons"] (spAllGroups K) := by
  refine T.F_all_groups.ok sc_all_groups (fun vs H Q E h => ?_) (fun cdv A outer s H vs Q E hr h => ?_)
  · obtain ⟨a, ps, rfl, _⟩ := h
    rfl
  · obtain ⟨a, ps, rfl, hp, hl, q⟩ := h
    refine ⟨_, (pss_cons (ps_set (i := 1) sc_all_groups.nd rfl (Or.inl rfl) (pe_lstO (pa_cons (pe_tupO pa_nil) pa_nil)))
    (pss_stop (ps_for PassesOwn.never rfl (pi_hold (pi_tup (pv 0))) (pg_name (i := 2) sc_all_groups.nd rfl (Or.inr rfl))
      (pss_one (ps_set (i := 1) sc_all_groups.nd rfl (Or.inl rfl) (pe_op op_catO (pv 1) (pe_lc (own := [("group", 3)]) (g := gName 3) (tt := tYes) rfl sc_all_groups.nd (pi_list (pv 1)) (blkOk_by (own := [("group", 3)]) (N := N_all_groups) (sc := defScope s_all_groups) (by decide +kernel)) (fun _ _ _ _ _ => (pg_name (i := 3) sc_all_groups.nd rfl (Or.inl rfl))) (fun _ _ _ _ _ => pts_nil) (fun _ _ _ _ _ => (pe_op (r := rCatTO K) op_catTO (pv 3) (pe_tupO (pa_cons (pv 2) pa_nil)))))))))
    (pss_one (ps_ret (pe_sortLen (room65 hr) (by rfl) T.n_sorted (by rfl) T.n_len (pe_callB (id := "sorted") (cr_sortX (room65 hr)) (by rfl) T.n_sorted (by decide +kernel) (pa_cons (pv 1) pa_nil))))))), ?_⟩
    walk_at "rd"
    refine ⟨by decide, fun e H1 ne s1 he => ?_⟩
    walk_at "rd"
    refine ⟨by show 1 ≤ sizeLine; decide, fun p H2 n2 s2 hp2 => ?_⟩
    have s12 : Same H H2 := s1.trans s2
    have hg2 : GrpsV K H2 [V.ref e] (setsL (ps.take 0)) := .cons ⟨e, rfl, SqT.of (s2 _ _ he)⟩ .nil
    clear s1 s2 n2 ne he
    refine Stop.cut (fun σ H' => ∃ (p : Addr) (xs : List V) (y : Option V), σ = [some (.ref a), some (.ref p), y, none] ∧ Same H H' ∧ H' p = some (.lst xs) ∧ GrpsV K H' xs (setsL ps)) (fun Qz hz => ?_) ?_
    · walk_at "rd"
      refine ⟨⟨_, s12.tupT hp⟩, ⟨for_it (walk_tup (xs := ps.map V.str)) (fun i σ H' => ∃ (p : Addr) (xs : List V) (y : Option V), σ = [some (.ref a), some (.ref p), y, none] ∧ Same H H' ∧ H' p = some (.lst xs) ∧ GrpsV K H' xs (setsL (ps.take i))) ⟨p, _, none, rfl, s12, hp2, hg2⟩ (fun i σ H' _ ⟨_, _, _, _, s, _⟩ => s.tupT hp) ?_ ?_⟩⟩
      · rintro i x _ H3 H4 hi ⟨p3, xs, y, rfl, s3, hp3, hg3⟩ ⟨rfl, hx⟩
        have hi' : i < ps.length := by simpa using hi
        obtain rfl := strs_get hx (List.getElem?_eq_getElem hi')
        have hlen : (setsL (ps.take i)).length ≤ 256 := sets_small (by rw [List.length_take]; omega)
        have hxl := paired_len hg3
        walk_at "rd"
        refine ⟨⟨_, SqL.of hp3⟩, fun D hD => ?_⟩
        refine lc_rel (walk_list (xs := xs)) (xs := setsL (ps.take i)) hxl.symm (by omega) (fun _ => true) (fun H g v => GrpV K H v (g ++ [ps[i]])) hD (fun H H' g v acc _ hDa k h => h.but hDa k) (fun H s => s.seq (SqL.of hp3)) ?_ ?_
        · intro j g v H5 H6 Qk Qn hg sm hy hk _
          obtain ⟨rfl, hv⟩ := hy
          obtain ⟨g', h1, h2⟩ := OS.paired_get hg3 hv
          obtain rfl : g' = g := Option.some.inj (h1.symm.trans hg)
          obtain ⟨b, rfl, hb⟩ := h2.same sm
          walk_at "rd"
          refine ⟨by show 1 ≤ sizeLine; decide, fun t H7 n7 s7 ht => ?_⟩
          have hgl : g'.length ≤ 8 := by
            have h9 : g' ∈ setsL (ps.take i) := List.mem_of_getElem? hg
            have h8 := (mem_sets.mp h9).length_le
            rw [List.length_take] at h8
            omega
          refine ⟨b, t, g'.map V.str, [V.str ps[i]], rfl, rfl, s7.tupT hb, SqT.of ht, by rw [List.length_map]; exact Nat.le_trans (Nat.add_le_add_right hgl 1) (by decide), fun q8 H8 s8 hq8 => ?_⟩
          exact hk rfl _ _ ⟨q8, rfl, by rw [List.map_append]; exact hq8⟩ (s7.trans s8)
        · intro H5 acc sm hD5 pr
          have hfl : (setsL (ps.take i)).filter (fun _ => true) = setsL (ps.take i) := List.filter_eq_self.mpr fun _ _ => rfl
          rw [hfl] at pr
          refine ⟨p3, D, xs, acc, rfl, rfl, sm _ _ hp3, hD5, ?_, fun p6 H6 n6 s6 hp6 => ?_⟩
          · have := paired_len pr
            rw [hxl, ← this]
            exact Nat.le_trans (Nat.add_le_add hlen hlen) (by decide)
          · walk_at "rd"
            refine ⟨(s3.trans sm).trans s6, hp6, ?_⟩
            have e : ps.take (i + 1) = ps.take i ++ [ps[i]] := by rw [List.take_succ, List.getElem?_eq_getElem hi']; rfl
            rw [e, setsL_snoc]
            refine paired_app ((hg3.same sm).same s6) ?_
            have pr2 : Paired (fun (g : List Str) (v : V) => GrpV K H6 v (g ++ [ps[i]])) (setsL (ps.take i)) acc := Paired.mapP pr fun _ _ z => z.same s6
            exact paired_swap (paired_map (F := fun (g : List Str) (v : V) => GrpV K H6 v g) (f := fun g => g ++ [ps[i]]) pr2)
      · rintro σ H3 ⟨p3, xs, y, rfl, s3, hp3, hg3⟩
        rw [List.length_map, List.take_length] at hg3
        exact hz _ _ ⟨p3, xs, y, rfl, s3, hp3, hg3⟩
    · rintro _ H3 ⟨p3, xs, y, rfl, s3, hp3, hg3⟩
      walk_at "rd"
      obtain ⟨z1, z2, z3⟩ := paired_zip hg3
      have sm1 : ((xs.zip (setsL ps)).mergeSort (PySem.W.dataLe false fun b => encG b.2)).map Prod.snd = (setsL ps).mergeSort (PySem.W.dataLe false encG) := by
        have h := PySem.W.sort_maps (r := PySem.W.dataLe false fun b : V × List Str => encG b.2) (s := PySem.W.dataLe false encG) (Prod.snd : V × List Str → List Str) (l := xs.zip (setsL ps)) (fun _ _ _ _ => rfl)
        rw [z2] at h
        exact h
      refine ⟨V × List Str, xs.zip (setsL ps), Prod.fst, fun b => encG b.2, by rw [z1]; exact SqL.of hp3, fun b hb => (z3 b hb).dp, PySem.W.AllAlike.of fun b b' => alike_G _ _, .inr ?_, fun b _ => by rw [depth_G]; decide, fun q1 H4 n4 s4 hq1 => ?_⟩
      · obtain ⟨r, hr⟩ := setsL_head ps
        refine ⟨r.map encG, ?_, fun d hd => ?_⟩
        · have : (xs.zip (setsL ps)).map (fun b => encG b.2) = ((xs.zip (setsL ps)).map Prod.snd).map encG := by rw [List.map_map]; rfl
          rw [this, z2, hr]
          rfl
        · obtain ⟨g, _, rfl⟩ := List.mem_map.mp hd
          exact ⟨_, rfl⟩
      · refine ⟨q1, rfl, ⟨V × List Str, _, Prod.fst, fun b => b.2.length, SqL.of hq1, fun b hb => ?_, fun q2 H5 n5 s5 hq2 => ?_⟩⟩
        · obtain ⟨t, h1, h2⟩ := (z3 b ((List.mergeSort_perm _ _).mem_iff.mp hb)).same s4
          exact ⟨t, _, h1, h2, by simp⟩
        · refine q q2 H5 _ ((s3.trans s4).free n5) ((s3.trans s4).trans s5) hq2 ?_
          have e : allG ps = (((xs.zip (setsL ps)).mergeSort (PySem.W.dataLe false fun b => encG b.2)).mergeSort fun b c => decide ((b.2.length : Int) ≤ (c.2.length : Int))).map Prod.snd := by
            have h := PySem.W.sort_maps (r := fun b c : V × List Str => decide ((b.2.length : Int) ≤ (c.2.length : Int))) (s := fun b c : List Str => decide ((b.length : Int) ≤ (c.length : Int))) (Prod.snd : V × List Str → List Str) (l := (xs.zip (setsL ps)).mergeSort (PySem.W.dataLe false fun b => encG b.2)) (fun _ _ _ _ => rfl)
            rw [sm1, groups_sort] at h
            exact h.symm
          rw [e]
          refine paired_of fun c hc => ?_
          have hc' := (List.mergeSort_perm _ _).mem_iff.mp ((List.mergeSort_perm _ _).mem_iff.mp hc)
          exact ((z3 c hc').same s4).same s5
end
end P

set_option Elab.async false
set_option linter.all false
set_option maxRecDepth 100000
set_option maxHeartbeats 4000000
namespace P
open PySem PySem.Spec PyProof.Rows L2 OS
/-! short ways: "rd" opens a reading as far as equations go; "sep" finds what stands apart from the state; "sq" a list that is read; "nx" two heaps -/
local macro_rules | `(tactic| walk_at "sep") => `(tactic| first | assumption | (refine (by assumption : Nx _ _ _) _ _ ?_; walk_at "sep"))
local macro_rules | `(tactic| walk_at "sq") => `(tactic| first | assumption | exact .inl (.inl (by assumption)) | exact Sep.sq (by walk_at "sep") | exact Sep.st (by walk_at "sep") | exact .inl (.inl upd_same))
local macro_rules | `(tactic| walk_at "rd") => `(tactic| repeat (first
  | refine And.intro rfl ?_
  | apply Exists.intro
  | refine And.intro (by assumption) ?_
  | refine And.intro (DrawOk.mk (by omega) (by omega) (by omega)) ?_
  | refine And.intro at0 ?_
  | refine And.intro ⟨_, rfl⟩ ?_
  | refine And.intro (by walk_at "sq") ?_
  | refine And.intro (Or.inl (by walk_at "sq")) ?_
  | refine And.intro (Or.inr (by walk_at "sq")) ?_
  | refine And.intro (by omega) ?_))

section
variable {P : Program} {w : World} {K : PySem.W.Frag} {mg : Str → Option Value} {base : Heap}
/-- least_groups(persons, groups) -/
def spLeast (K : PySem.W.Frag) : Sp := fun vs H Q _ => ∃ (a p : Addr) (ps : List Str) (xs : List V) (rows : List (List Str)), vs = [.ref a, .ref p] ∧ SqT K H a (ps.map V.str) ∧ ps.length ≤ 8 ∧ (SqL K H p xs ∨ SqT K H p xs) ∧ GrpsV K H xs rows ∧
  ∀ q H' ys, Same H H' → SqT K H' q ys → GrpsV K H' ys (leastP ps rows) → Q (.ref q) H'
theorem ok_least_groups (T : Txt K mg) : FnOk P w K mg base CX0 3 T.f_least_groups T.fd_least_groups ["persons", "groups"] (spLeast K) := by
  refine T.F_least_groups.ok sc_least_groups (fun vs H Q E h => ?_) (fun cdv A outer s H vs Q E hr h => ?_)
  · obtain ⟨a, p, ps, xs, rows, rfl, _⟩ := h
    rfl
  · obtain ⟨a, p, ps, xs, rows, rfl, ha, hl, hp, hg, q⟩ := h
    refine ⟨_, (pss_cons (ps_set (i := 2) sc_least_groups.nd rfl (Or.inr rfl) (pe_lc (own := [("group", 3)]) (g := gName 3) rfl sc_least_groups.nd (pi_list (pe_call (ok_all_groups T) (hr.mono (by decide)) (by rfl) T.g_all_groups T.F_all_groups.kp T.b_all_groups .nil pass0 (pa_cons (pv 0) pa_nil))) (blkOk_by (own := [("group", 3)]) (N := N_least_groups) (sc := defScope s_least_groups) (by decide +kernel)) (fun _ _ _ _ _ => (pg_name (i := 3) sc_least_groups.nd rfl (Or.inl rfl))) (fun _ _ _ _ _ => (pts_one (pt_cmpR (r := rInP K false) (op_inP (room65 hr)) (pv 3) (pv 1) (by rfl)))) (fun _ _ _ _ _ => (pv 3))))
    (pss_one (ps_ret (pe_callTy (T := "tuple") call_tuple_ofL (by rfl) T.n_tuple (by decide +kernel) (pa_cons (pe_lc (own := [("group", 3)]) (g := gName 3) rfl sc_least_groups.nd (pi_list (pv 2)) (blkOk_by (own := [("group", 3)]) (N := N_least_groups) (sc := defScope s_least_groups) (by decide +kernel)) (fun _ _ _ _ _ => (pg_name (i := 3) sc_least_groups.nd rfl (Or.inl rfl))) (fun _ _ _ _ _ => (pts_one (pt_not (pt_val (pe_call (ok_contains_another T) (hr.mono (by decide)) (by rfl) T.g_contains_another T.F_contains_another.kp T.b_contains_another .nil pass0 (pa_cons (pv 3) (pa_cons (pv 2) pa_nil))))))) (fun _ _ _ _ _ => (pv 3))) pa_nil))))), ?_⟩
    walk_at "rd"
    intro m H1 ys nm s1 hm hys
    have hal : (allG ps).length ≤ 256 := by rw [(allG_perm ps).length_eq]; exact sets_small hl
    have hyl := paired_len hys
    walk_at "rd"
    refine ⟨⟨_, SqL.of hm⟩, fun D hD => ?_⟩
    refine lc_rel (walk_list (xs := ys)) (xs := allG ps) hyl.symm (by omega) (fun g => decide (g ∈ rows)) (fun H g v => GrpV K H v g) hD (fun H H' g v acc _ hDa k h => h.but hDa k) (fun H s => s.seq (SqL.of hm)) ?_ ?_
    · intro i g v H2 H3 Qk Qn hgi sm hy hk hn
      obtain ⟨rfl, hv⟩ := hy
      obtain ⟨g', h1, h2⟩ := OS.paired_get hys hv
      obtain rfl : g' = g := Option.some.inj (h1.symm.trans hgi)
      have h3 := h2.same sm
      have hg3 := (hg.same s1).same sm
      have hp3 : Dp K H3 (.ref p) (.list (rows.map encG)) ∨ Dp K H3 (.ref p) (.tuple (rows.map encG)) := hp.imp (fun z => .lst (sm.seq (s1.seq z)) hg3.dps) (fun z => .tup (sm.tupT (s1.tupT z)) hg3.dps)
      walk_at "rd"
      refine ⟨h3.dp, hp3, by rw [depth_G]; decide, ?_⟩
      rw [any_encG]
      walk_at "rd"
      refine ite2 (fun e => ?_) (fun e => ?_)
      · walk_at "rd"
        exact hk e _ _ h3 (Same.refl _)
      · exact hn ((Bool.not_eq_true _).mp e) _ (Same.refl _)
    · intro H2 acc sm hD2 pr
      have pr' : GrpsV K H2 acc (givenP ps rows) := paired_swap pr
      have hgl : (givenP ps rows).length ≤ 256 := Nat.le_trans (List.length_filter_le _ _) hal
      have hal2 := paired_len pr'
      have hsub : ∀ o ∈ givenP ps rows, o.length ≤ 1000 := fun o ho => by
        have := (mem_allG.mp (List.mem_filter.mp ho).1).length_le
        omega
      walk_at "rd"
      refine ⟨⟨_, SqL.of hD2⟩, fun D3 hD3 => ?_⟩
      refine lc_rel (walk_list (xs := acc)) (xs := givenP ps rows) hal2.symm (by omega) (fun g => !((givenP ps rows).any fun o => decide (o ≠ g) && inside o g)) (fun H g v => GrpV K H v g) hD3 (fun H H' g v acc _ hDa k h => h.but hDa k) (fun H s => s.seq (SqL.of hD2)) ?_ ?_
      · intro i g v H4 H5 Qk Qn hgi sm2 hy hk hn
        obtain ⟨rfl, hv⟩ := hy
        obtain ⟨g', h1, h2⟩ := OS.paired_get pr' hv
        obtain rfl : g' = g := Option.some.inj (h1.symm.trans hgi)
        have h5 := h2.same sm2
        have hD5 := SqL.of (K := K) (sm2 _ _ hD2)
        have pr5 := pr'.same sm2
        walk_at "rd"
        intro H6 s6
        walk_at "rd"
        refine ite2 (fun e => ?_) (fun e => ?_)
        · walk_at "rd"
          exact hk e _ _ (h5.same s6) s6
        · exact hn ((Bool.not_eq_true _).mp e) _ s6
      · intro H4 acc2 sm2 hD4 pr2
        have pr4 : GrpsV K H4 acc2 (leastP ps rows) := paired_swap pr2
        refine ⟨D3, _, rfl, SqL.of hD4, fun q1 H5 n5 s5 hq5 => ?_⟩
        exact q q1 H5 acc2 (((s1.trans sm).trans sm2).trans s5) (SqT.of hq5) (pr4.same s5)
end
end P

set_option Elab.async false
set_option linter.all false
set_option maxRecDepth 100000
set_option maxHeartbeats 4000000
namespace P
open PySem PySem.Spec PyProof.Rows L2 OS
/-! short ways: "rd" opens a reading as far as equations go; "sep" finds what stands apart from the state; "sq" a list that is read; "nx" two heaps -/
local macro_rules | `(tactic| walk_at "sep") => `(tactic| first | assumption | (refine (by assumption : Nx _ _ _) _ _ ?_; walk_at "sep"))
local macro_rules | `(tactic| walk_at "sq") => `(tactic| first | assumption | exact .inl (.inl (by assumption)) | exact Sep.sq (by walk_at "sep") | exact Sep.st (by walk_at "sep") | exact .inl (.inl upd_same))
local macro_rules | `(tactic| walk_at "rd") => `(tactic| repeat (first
  | refine And.intro rfl ?_
  | apply Exists.intro
  | refine And.intro (by assumption) ?_
  | refine And.intro (DrawOk.mk (by omega) (by omega) (by omega)) ?_
  | refine And.intro at0 ?_
  | refine And.intro ⟨_, rfl⟩ ?_
  | refine And.intro (by walk_at "sq") ?_
  | refine And.intro (Or.inl (by walk_at "sq")) ?_
  | refine And.intro (Or.inr (by walk_at "sq")) ?_
  | refine And.intro (by omega) ?_))

section
variable {P : Program} {w : World} {K : PySem.W.Frag} {mg : Str → Option Value} {base : Heap}
theorem eqv_nil {α : Type} (f : α → PyData) : ∀ xs : List α, PyData.eqv (.list (xs.map f)) (.list []) = xs.isEmpty
  | [] => rfl
  | _ :: _ => rfl
theorem notIn_nil (os gs : List Str) : (os.filter fun n => !decide (n ∈ gs)).isEmpty = inside os gs := by
  unfold inside
  rw [Bool.eq_iff_iff, List.isEmpty_iff, List.filter_eq_nil_iff, List.all_eq_true]
  simp
/-- _law_inside(small, large) -/
def spInside (K : PySem.W.Frag) : Sp := fun vs H Q _ => ∃ (a b : Addr) (os gs : List Str), vs = [.ref a, .ref b] ∧ SqT K H a (os.map V.str) ∧ (SqL K H b (gs.map V.str) ∨ SqT K H b (gs.map V.str)) ∧ os.length ≤ 1000 ∧ ∀ H', Same H H' → Q (.bl (inside os gs)) H'
theorem ok_law_inside (T : Txt K mg) : FnOk P w K mg base CX0 1 T.f_law_inside T.fd_law_inside ["_law_small", "_law_large"] (spInside K) := by
  refine T.F_law_inside.ok sc_law_inside (fun vs H Q E h => ?_) (fun cdv A outer s H vs Q E hr h => ?_)
  · obtain ⟨a, b, gs, os, rfl, _⟩ := h
    rfl
  · obtain ⟨a, b, os, gs, rfl, ho, hg, hl, q⟩ := h
    refine ⟨_, (pss_one (ps_ret (pe_cmpR (r := rEqP K) (op_eqP (room65 hr)) (pe_lc (own := [("_law_word", 2)]) (g := gName 2) rfl sc_law_inside.nd (pi_tup (pv 0)) (blkOk_by (own := [("_law_word", 2)]) (N := N_law_inside) (sc := defScope s_law_inside) (by decide +kernel)) (fun _ _ _ _ _ => (pg_name (i := 2) sc_law_inside.nd rfl (Or.inl rfl))) (fun _ _ _ _ _ => (pts_one (pt_cmpR (r := rIn K true) op_notIn_seq (pv 2) (pv 1) (by rfl)))) (fun _ _ _ _ _ => (pv 2))) (pe_lstO pa_nil) (nomark _)))), ?_⟩
    walk_at "rd"
    refine ⟨⟨_, ho⟩, fun D hD => ?_⟩
    refine lc_fn (walk_tup (xs := os.map V.str)) (xs := os) (by simp) (by simp; omega) (fun n => !decide (n ∈ gs)) V.str hD (fun H1 s => s.tupT ho) ?_ ?_
    · intro i n x H1 H2 Qk Qn hn sm hy hk hn'
      obtain ⟨rfl, hx⟩ := hy
      obtain rfl := strs_get hx hn
      have hg2 := hg.imp (fun z => sm.seq z) fun z => sm.tupT z
      walk_at "rd"
      refine ⟨strs_flat gs, ?_⟩
      rw [inV_strs]
      walk_at "rd"
      refine ite2 (fun e => ?_) (fun e => ?_)
      · walk_at "rd"
        exact hk e _ (Same.refl _)
      · exact hn' ((Bool.not_eq_true _).mp e) _ (Same.refl _)
    · intro H1 sm hD1
      walk_at "rd"
      refine ⟨by decide, fun e H2 ne s2 he => ?_⟩
      have d1 : Dp K H2 (.ref D) (.list ((os.filter fun n => !decide (n ∈ gs)).map .str)) := dp_strs (SqL.of (s2 _ _ hD1))
      refine ⟨_, _, d1, dp_nil (SqL.of he), ?_, ?_⟩
      · have := depth_strs (os.filter fun n => !decide (n ∈ gs))
        simp only [PyData.depth]
        omega
      · rw [eqv_nil, notIn_nil]
        exact q _ (sm.trans s2)
/-- _law_sets(pool) -/
def spSets (K : PySem.W.Frag) : Sp := fun vs H Q _ => ∃ (a : Addr) (ps : List Str), vs = [.ref a] ∧ (SqL K H a (ps.map V.str) ∨ SqT K H a (ps.map V.str)) ∧ ps.length ≤ 8 ∧ ∀ p H' xs, H p = none → Same H H' → H' p = some (.lst xs) → GrpsV K H' xs (allG ps) → Q (.ref p) H'
end
end P

set_option Elab.async false
set_option linter.all false
set_option maxRecDepth 100000
set_option maxHeartbeats 4000000
namespace OS
open PySem PySem.Spec PyProof.Rows L2
/-- len(xs), a list or a tuple -/
def rLenS (K : PySem.W.Frag) : List V → Hp → VK → Prop := fun xs H Q => ∃ p ys, xs = [V.ref p] ∧ (SqL K H p ys ∨ SqT K H p ys) ∧ Q (.int ys.length) H
theorem call_lenS {X : Cx} : CallR X (.builtin "len") (rLenS X.K) := call_len_seq
/-- list(xs) of a list or a tuple -/
def rListS (K : PySem.W.Frag) : List V → Hp → VK → Prop := fun xs H Q => ∃ p ys, xs = [V.ref p] ∧ (SqL K H p ys ∨ SqT K H p ys) ∧ NewO H (.lst ys) Q
theorem call_listS {X : Cx} : CallR X (.type "list") (rListS X.K) := call_list_ofO
end OS
namespace P
open PySem PySem.Spec PyProof.Rows L2 OS
/-! short ways: "rd" opens a reading as far as equations go; "sep" finds what stands apart from the state; "sq" a list that is read; "nx" two heaps -/
local macro_rules | `(tactic| walk_at "sep") => `(tactic| first | assumption | (refine (by assumption : Nx _ _ _) _ _ ?_; walk_at "sep"))
local macro_rules | `(tactic| walk_at "sq") => `(tactic| first | assumption | exact .inl (.inl (by assumption)) | exact Sep.sq (by walk_at "sep") | exact Sep.st (by walk_at "sep") | exact .inl (.inl upd_same))
local macro_rules | `(tactic| walk_at "rd") => `(tactic| repeat (first
  | refine And.intro rfl ?_
  | apply Exists.intro
  | refine And.intro (by assumption) ?_
  | refine And.intro (DrawOk.mk (by omega) (by omega) (by omega)) ?_
  | refine And.intro at0 ?_
  | refine And.intro ⟨_, rfl⟩ ?_
  | refine And.intro (by walk_at "sq") ?_
  | refine And.intro (Or.inl (by walk_at "sq")) ?_
  | refine And.intro (Or.inr (by walk_at "sq")) ?_
  | refine And.intro (by omega) ?_))

section
variable {P : Program} {w : World} {K : PySem.W.Frag} {mg : Str → Option Value} {base : Heap}
/-- a pair (length, group) -/
def PairV (K : PySem.W.Frag) (H : Hp) (x : V) (g : List Str) : Prop := ∃ t b, x = .ref t ∧ SqT K H t [.int (g.length : Int), .ref b] ∧ SqT K H b (g.map V.str)
theorem PairV.same {K : PySem.W.Frag} {H H' : Hp} {x : V} {g : List Str} (h : PairV K H x g) (s : Same H H') : PairV K H' x g := by
  obtain ⟨t, b, h1, h2, h3⟩ := h
  exact ⟨t, b, h1, s.tupT h2, s.tupT h3⟩
theorem PairV.but {K : PySem.W.Frag} {H H' : Hp} {D : Addr} {acc : List V} {x : V} {g : List Str} (hD : H D = some (.lst acc)) (k : ∀ b o, H b = some o → b ≠ D → H' b = some o) (h : PairV K H x g) : PairV K H' x g := by
  obtain ⟨t, b, h1, h2, h3⟩ := h
  exact ⟨t, b, h1, tupT_but hD k h2, tupT_but hD k h3⟩
theorem PairV.dp {K : PySem.W.Frag} {H : Hp} {x : V} {g : List Str} (h : PairV K H x g) : Dp K H x (encP g) := by
  obtain ⟨t, b, rfl, h2, h3⟩ := h
  exact .tup h2 (.cons (.int _) (.cons (.tup h3 (dp_all (fun z => .str z) g)) .nil))
/-- what sorted makes of such pairs -/
theorem pairs_sorted {K : PySem.W.Frag} {H : Hp} {D : Addr} {acc : List V} {gs : List (List Str)} {Q : VK} (hD : H D = some (.lst acc)) (pr : Paired (PairV K H) acc gs)
    (q : ∀ p H' ys, H p = none → Same H H' → H' p = some (.lst ys) → Paired (PairV K H') ys (gs.mergeSort leP) → Q (.ref p) H') : SortXAt K H Q D := by
  obtain ⟨z1, z2, z3⟩ := paired_zip pr
  have sm1 : ((acc.zip gs).mergeSort (PySem.W.dataLe false fun b => encP b.2)).map Prod.snd = gs.mergeSort leP := by
    have h := PySem.W.sort_maps (r := PySem.W.dataLe false fun b : V × List Str => encP b.2) (s := PySem.W.dataLe false encP) (Prod.snd : V × List Str → List Str) (l := acc.zip gs) (fun _ _ _ _ => rfl)
    rw [z2] at h
    exact h
  refine ⟨V × List Str, acc.zip gs, Prod.fst, fun b => encP b.2, by rw [z1]; exact SqL.of hD, fun b hb => (z3 b hb).dp, PySem.W.AllAlike.of fun b b' => alike_P _ _, .inl (PySem.W.Sortable.tuples fun b => ⟨_, _, rfl⟩), fun b _ => by rw [depth_P]; decide, fun q1 H4 n4 s4 hq1 => ?_⟩
  refine q q1 H4 _ n4 s4 hq1 ?_
  rw [← sm1]
  exact paired_of fun c hc => (z3 c ((List.mergeSort_perm _ _).mem_iff.mp hc)).same s4
theorem ok_law_sets (T : Txt K mg) : FnOk P w K mg base CX0 1 T.f_law_sets T.fd_law_sets ["_law_pool"] (spSets K) := by
  refine T.F_law_sets.ok sc_law_sets (fun vs H Q E h => ?_) (fun cdv A outer s H vs Q E hr h => ?_)
  · obtain ⟨a, ps, rfl, _⟩ := h
    rfl
  · obtain ⟨a, ps, rfl, hp, hl, q⟩ := h
    refine ⟨_, (pss_cons (ps_set (i := 1) sc_law_sets.nd rfl (Or.inl rfl) (pe_lstO (pa_cons (pe_tupO pa_nil) pa_nil)))
    (pss_stop (ps_for PassesOwn.never rfl (pi_hold (pi_seq (pv 0))) (pg_name (i := 2) sc_law_sets.nd rfl (Or.inr rfl))
      (pss_one (ps_set (i := 1) sc_law_sets.nd rfl (Or.inl rfl) (pe_op op_catO (pv 1) (pe_lc (own := [("_law_chosen", 3)]) (g := gName 3) (tt := tYes) rfl sc_law_sets.nd (pi_list (pv 1)) (blkOk_by (own := [("_law_chosen", 3)]) (N := N_law_sets) (sc := defScope s_law_sets) (by decide +kernel)) (fun _ _ _ _ _ => (pg_name (i := 3) sc_law_sets.nd rfl (Or.inl rfl))) (fun _ _ _ _ _ => pts_nil) (fun _ _ _ _ _ => (pe_op (r := rCatTO K) op_catTO (pv 3) (pe_tupO (pa_cons (pv 2) pa_nil)))))))))
    (pss_one (ps_ret (pe_lc (own := [("_law_pair", 4)]) (g := gName 4) (tt := tYes) rfl sc_law_sets.nd (pi_list (pe_callB (id := "sorted") (cr_sortX (room65 hr)) (by rfl) T.n_sorted (by decide +kernel) (pa_cons (pe_lc (own := [("_law_chosen", 3)]) (g := gName 3) (tt := tYes) rfl sc_law_sets.nd (pi_list (pv 1)) (blkOk_by (own := [("_law_chosen", 3)]) (N := N_law_sets) (sc := defScope s_law_sets) (by decide +kernel)) (fun _ _ _ _ _ => (pg_name (i := 3) sc_law_sets.nd rfl (Or.inl rfl))) (fun _ _ _ _ _ => pts_nil) (fun _ _ _ _ _ => (pe_tupO (pa_cons (pe_callB (id := "len") (r := rLenS K) call_lenS (by rfl) T.n_len PySem.boot_len (pa_cons (pv 3) pa_nil)) (pa_cons (pv 3) pa_nil))))) pa_nil))) (blkOk_by (own := [("_law_pair", 4)]) (N := N_law_sets) (sc := defScope s_law_sets) (by decide +kernel)) (fun _ _ _ _ _ => (pg_name (i := 4) sc_law_sets.nd rfl (Or.inl rfl))) (fun _ _ _ _ _ => pts_nil) (fun _ _ _ _ _ => (pe_ix (r := rIxT K) ix_tup (pv 4) pe_int (fun _ _ => rfl)))))))), ?_⟩
    have hpk : ∀ {H'}, Same H H' → (SqL K H' a (ps.map V.str) ∨ SqT K H' a (ps.map V.str)) := fun s => hp.imp (fun z => s.seq z) fun z => s.tupT z
    walk_at "rd"
    refine ⟨by decide, fun e H1 ne s1 he => ?_⟩
    walk_at "rd"
    refine ⟨by show 1 ≤ sizeLine; decide, fun p H2 n2 s2 hp2 => ?_⟩
    have s12 : Same H H2 := s1.trans s2
    have hg2 : GrpsV K H2 [V.ref e] (setsL (ps.take 0)) := .cons ⟨e, rfl, SqT.of (s2 _ _ he)⟩ .nil
    clear s1 s2 n2 ne he
    refine Stop.cut (fun σ H' => ∃ (p : Addr) (xs : List V) (y : Option V), σ = [some (.ref a), some (.ref p), y, none, none] ∧ Same H H' ∧ H' p = some (.lst xs) ∧ GrpsV K H' xs (setsL ps)) (fun Qz hz => ?_) ?_
    · walk_at "rd"
      rcases hp with hp | hp
      · refine .inl ⟨⟨_, s12.seq hp⟩, ⟨for_it (walk_list (xs := ps.map V.str)) (fun i σ H' => ∃ (p : Addr) (xs : List V) (y : Option V), σ = [some (.ref a), some (.ref p), y, none, none] ∧ Same H H' ∧ H' p = some (.lst xs) ∧ GrpsV K H' xs (setsL (ps.take i))) ⟨p, _, none, rfl, s12, hp2, hg2⟩ (fun i σ H' _ ⟨_, _, _, _, s, _⟩ => s.seq hp) ?_ ?_⟩⟩
        · rintro i x _ H3 H4 hi ⟨p3, xs, y, rfl, s3, hp3, hg3⟩ ⟨rfl, hx⟩
          have hi' : i < ps.length := by simpa using hi
          obtain rfl := strs_get hx (List.getElem?_eq_getElem hi')
          have hlen : (setsL (ps.take i)).length ≤ 256 := sets_small (by rw [List.length_take]; omega)
          have hxl := paired_len hg3
          walk_at "rd"
          refine ⟨⟨_, SqL.of hp3⟩, fun D hD => ?_⟩
          refine lc_rel (walk_list (xs := xs)) (xs := setsL (ps.take i)) hxl.symm (by omega) (fun _ => true) (fun H g v => GrpV K H v (g ++ [ps[i]])) hD (fun H H' g v acc _ hDa k h => h.but hDa k) (fun H s => s.seq (SqL.of hp3)) ?_ ?_
          · intro j g v H5 H6 Qk Qn hg sm hy hk _
            obtain ⟨rfl, hv⟩ := hy
            obtain ⟨g', h1, h2⟩ := OS.paired_get hg3 hv
            obtain rfl : g' = g := Option.some.inj (h1.symm.trans hg)
            obtain ⟨b, rfl, hb⟩ := h2.same sm
            walk_at "rd"
            refine ⟨by show 1 ≤ sizeLine; decide, fun t H7 n7 s7 ht => ?_⟩
            have hgl : g'.length ≤ 8 := by
              have h9 : g' ∈ setsL (ps.take i) := List.mem_of_getElem? hg
              have h8 := (mem_sets.mp h9).length_le
              rw [List.length_take] at h8
              omega
            refine ⟨b, t, g'.map V.str, [V.str ps[i]], rfl, rfl, s7.tupT hb, SqT.of ht, by rw [List.length_map]; exact Nat.le_trans (Nat.add_le_add_right hgl 1) (by decide), fun q8 H8 s8 hq8 => ?_⟩
            exact hk rfl _ _ ⟨q8, rfl, by rw [List.map_append]; exact hq8⟩ (s7.trans s8)
          · intro H5 acc sm hD5 pr
            have hfl : (setsL (ps.take i)).filter (fun _ => true) = setsL (ps.take i) := List.filter_eq_self.mpr fun _ _ => rfl
            rw [hfl] at pr
            refine ⟨p3, D, xs, acc, rfl, rfl, sm _ _ hp3, hD5, ?_, fun p6 H6 n6 s6 hp6 => ?_⟩
            · have := paired_len pr
              rw [hxl, ← this]
              exact Nat.le_trans (Nat.add_le_add hlen hlen) (by decide)
            · walk_at "rd"
              refine ⟨(s3.trans sm).trans s6, hp6, ?_⟩
              have e : ps.take (i + 1) = ps.take i ++ [ps[i]] := by rw [List.take_succ, List.getElem?_eq_getElem hi']; rfl
              rw [e, setsL_snoc]
              refine paired_app ((hg3.same sm).same s6) ?_
              have pr2 : Paired (fun (g : List Str) (v : V) => GrpV K H6 v (g ++ [ps[i]])) (setsL (ps.take i)) acc := Paired.mapP pr fun _ _ z => z.same s6
              exact paired_swap (paired_map (F := fun (g : List Str) (v : V) => GrpV K H6 v g) (f := fun g => g ++ [ps[i]]) pr2)
        · rintro σ H3 ⟨p3, xs, y, rfl, s3, hp3, hg3⟩
          rw [List.length_map, List.take_length] at hg3
          exact hz _ _ ⟨p3, xs, y, rfl, s3, hp3, hg3⟩
      · refine .inr ⟨⟨_, s12.tupT hp⟩, ⟨for_it (walk_tup (xs := ps.map V.str)) (fun i σ H' => ∃ (p : Addr) (xs : List V) (y : Option V), σ = [some (.ref a), some (.ref p), y, none, none] ∧ Same H H' ∧ H' p = some (.lst xs) ∧ GrpsV K H' xs (setsL (ps.take i))) ⟨p, _, none, rfl, s12, hp2, hg2⟩ (fun i σ H' _ ⟨_, _, _, _, s, _⟩ => s.tupT hp) ?_ ?_⟩⟩
        · rintro i x _ H3 H4 hi ⟨p3, xs, y, rfl, s3, hp3, hg3⟩ ⟨rfl, hx⟩
          have hi' : i < ps.length := by simpa using hi
          obtain rfl := strs_get hx (List.getElem?_eq_getElem hi')
          have hlen : (setsL (ps.take i)).length ≤ 256 := sets_small (by rw [List.length_take]; omega)
          have hxl := paired_len hg3
          walk_at "rd"
          refine ⟨⟨_, SqL.of hp3⟩, fun D hD => ?_⟩
          refine lc_rel (walk_list (xs := xs)) (xs := setsL (ps.take i)) hxl.symm (by omega) (fun _ => true) (fun H g v => GrpV K H v (g ++ [ps[i]])) hD (fun H H' g v acc _ hDa k h => h.but hDa k) (fun H s => s.seq (SqL.of hp3)) ?_ ?_
          · intro j g v H5 H6 Qk Qn hg sm hy hk _
            obtain ⟨rfl, hv⟩ := hy
            obtain ⟨g', h1, h2⟩ := OS.paired_get hg3 hv
            obtain rfl : g' = g := Option.some.inj (h1.symm.trans hg)
            obtain ⟨b, rfl, hb⟩ := h2.same sm
            walk_at "rd"
            refine ⟨by show 1 ≤ sizeLine; decide, fun t H7 n7 s7 ht => ?_⟩
            have hgl : g'.length ≤ 8 := by
              have h9 : g' ∈ setsL (ps.take i) := List.mem_of_getElem? hg
              have h8 := (mem_sets.mp h9).length_le
              rw [List.length_take] at h8
              omega
            refine ⟨b, t, g'.map V.str, [V.str ps[i]], rfl, rfl, s7.tupT hb, SqT.of ht, by rw [List.length_map]; exact Nat.le_trans (Nat.add_le_add_right hgl 1) (by decide), fun q8 H8 s8 hq8 => ?_⟩
            exact hk rfl _ _ ⟨q8, rfl, by rw [List.map_append]; exact hq8⟩ (s7.trans s8)
          · intro H5 acc sm hD5 pr
            have hfl : (setsL (ps.take i)).filter (fun _ => true) = setsL (ps.take i) := List.filter_eq_self.mpr fun _ _ => rfl
            rw [hfl] at pr
            refine ⟨p3, D, xs, acc, rfl, rfl, sm _ _ hp3, hD5, ?_, fun p6 H6 n6 s6 hp6 => ?_⟩
            · have := paired_len pr
              rw [hxl, ← this]
              exact Nat.le_trans (Nat.add_le_add hlen hlen) (by decide)
            · walk_at "rd"
              refine ⟨(s3.trans sm).trans s6, hp6, ?_⟩
              have e : ps.take (i + 1) = ps.take i ++ [ps[i]] := by rw [List.take_succ, List.getElem?_eq_getElem hi']; rfl
              rw [e, setsL_snoc]
              refine paired_app ((hg3.same sm).same s6) ?_
              have pr2 : Paired (fun (g : List Str) (v : V) => GrpV K H6 v (g ++ [ps[i]])) (setsL (ps.take i)) acc := Paired.mapP pr fun _ _ z => z.same s6
              exact paired_swap (paired_map (F := fun (g : List Str) (v : V) => GrpV K H6 v g) (f := fun g => g ++ [ps[i]]) pr2)
        · rintro σ H3 ⟨p3, xs, y, rfl, s3, hp3, hg3⟩
          rw [List.length_map, List.take_length] at hg3
          exact hz _ _ ⟨p3, xs, y, rfl, s3, hp3, hg3⟩
    · rintro _ H3 ⟨p3, xs, y, rfl, s3, hp3, hg3⟩
      have hlen := sets_small hl
      have hxl := paired_len hg3
      walk_at "rd"
      refine ⟨⟨_, SqL.of hp3⟩, fun D hD => ?_⟩
      refine lc_rel (walk_list (xs := xs)) (xs := setsL ps) hxl.symm (by omega) (fun _ => true) (fun H g v => PairV K H v g) hD (fun H H' g v acc _ hDa k h => h.but hDa k) (fun H s => s.seq (SqL.of hp3)) ?_ ?_
      · intro j g v H5 H6 Qk Qn hg sm hy hk _
        obtain ⟨rfl, hv⟩ := hy
        obtain ⟨g', h1, h2⟩ := OS.paired_get hg3 hv
        obtain rfl : g' = g := Option.some.inj (h1.symm.trans hg)
        obtain ⟨b, rfl, hb⟩ := h2.same sm
        walk_at "rd"
        refine ⟨by show 2 ≤ sizeLine; decide, fun t H7 n7 s7 ht => ?_⟩
        rw [List.length_map] at ht
        exact hk rfl _ _ ⟨t, b, rfl, SqT.of ht, s7.tupT hb⟩ s7
      · intro H5 acc sm hD5 pr
        have hfl : (setsL ps).filter (fun _ => true) = setsL ps := List.filter_eq_self.mpr fun _ _ => rfl
        rw [hfl] at pr
        refine ⟨D, rfl, pairs_sorted hD5 (paired_swap pr) fun m H6 ys n6 s6 hm hys => ?_⟩
        have hal : (allG ps).length ≤ 256 := by rw [(allG_perm ps).length_eq]; exact hlen
        have hyl := paired_len hys
        refine ⟨m, rfl, ⟨_, SqL.of hm⟩, fun D2 hD2 => ?_⟩
        refine lc_rel (walk_list (xs := ys)) (xs := allG ps) hyl.symm (by show ys.length ≤ 100000; rw [hyl]; exact Nat.le_trans hal (by decide)) (fun _ => true) (fun H g v => GrpV K H v g) hD2 (fun H H' g v acc _ hDa k h => h.but hDa k) (fun H s => s.seq (SqL.of hm)) ?_ ?_
        · intro j g v H7 H8 Qk Qn hg sm7 hy hk _
          obtain ⟨rfl, hv⟩ := hy
          obtain ⟨g', h1, h2⟩ := OS.paired_get hys hv
          obtain rfl : g' = g := Option.some.inj (h1.symm.trans hg)
          obtain ⟨t, b, rfl, ht, hb⟩ := h2.same sm7
          walk_at "rd"
          exact hk rfl _ _ ⟨b, rfl, hb⟩ (Same.refl _)
        · intro H7 acc2 sm7 hD7 pr7
          have hfl2 : (allG ps).filter (fun _ => true) = allG ps := List.filter_eq_self.mpr fun _ _ => rfl
          rw [hfl2] at pr7
          exact q D2 H7 acc2 ((((s3.trans sm).trans s6)).free hD2) (((s3.trans sm).trans s6).trans sm7) hD7 (paired_swap pr7)
end
end P

set_option Elab.async false
set_option linter.all false
set_option maxRecDepth 100000
set_option maxHeartbeats 4000000
namespace P
open PySem PySem.Spec PyProof.Rows L2 OS
/-! short ways: "rd" opens a reading as far as equations go; "sep" finds what stands apart from the state; "sq" a list that is read; "nx" two heaps -/
local macro_rules | `(tactic| walk_at "sep") => `(tactic| first | assumption | (refine (by assumption : Nx _ _ _) _ _ ?_; walk_at "sep"))
local macro_rules | `(tactic| walk_at "sq") => `(tactic| first | assumption | exact .inl (.inl (by assumption)) | exact Sep.sq (by walk_at "sep") | exact Sep.st (by walk_at "sep") | exact .inl (.inl upd_same))
local macro_rules | `(tactic| walk_at "rd") => `(tactic| repeat (first
  | refine And.intro rfl ?_
  | apply Exists.intro
  | refine And.intro (by assumption) ?_
  | refine And.intro (DrawOk.mk (by omega) (by omega) (by omega)) ?_
  | refine And.intro at0 ?_
  | refine And.intro ⟨_, rfl⟩ ?_
  | refine And.intro (by walk_at "sq") ?_
  | refine And.intro (Or.inl (by walk_at "sq")) ?_
  | refine And.intro (Or.inr (by walk_at "sq")) ?_
  | refine And.intro (by omega) ?_))

section
variable {P : Program} {w : World} {K : PySem.W.Frag} {mg : Str → Option Value} {base : Heap}
theorem depth_Gs : ∀ gs : List (List Str), PyData.depthAll (gs.map encG) ≤ 1
  | [] => by simp [PyData.depthAll]
  | g :: gs => by
    have h1 := depth_Gs gs
    have h2 := depth_G g
    simp only [List.map_cons, PyData.depthAll]
    omega
theorem take_fold {α β : Type} (f : β → α → β) (b : β) {l : List α} {i : Nat} {x : α} (h : l[i]? = some x) : (l.take (i + 1)).foldl f b = f ((l.take i).foldl f b) x := by
  rw [List.take_succ, h]
  simp [List.foldl_append]
theorem leastStep_len (A : List (List Str)) (g : List Str) : (leastStep A g).length ≤ A.length + 1 := by
  unfold leastStep
  split
  · simp
  · omega
/-- _law_least(rows) -/
def spLLeast (K : PySem.W.Frag) : Sp := fun vs H Q _ => ∃ (a : Addr) (xs : List V) (rows : List (List Str)), vs = [.ref a] ∧ SqL K H a xs ∧ GrpsV K H xs rows ∧ rows.length ≤ 90000 ∧ (∀ g ∈ rows, g.length ≤ 900) ∧ ∀ p H' ys, H p = none → Same H H' → H' p = some (.lst ys) → GrpsV K H' ys (leastL rows) → Q (.ref p) H'
theorem ok_law_least (T : Txt K mg) : FnOk P w K mg base CX0 2 T.f_law_least T.fd_law_least ["_law_rows"] (spLLeast K) := by
  refine T.F_law_least.ok sc_law_least (fun vs H Q E h => ?_) (fun cdv A outer s H vs Q E hr h => ?_)
  · obtain ⟨a, xs, rows, rfl, _⟩ := h
    rfl
  · obtain ⟨a, xs, rows, rfl, ha, hg, hl, hll, q⟩ := h
    refine ⟨_, (pss_cons (ps_set (i := 1) sc_law_least.nd rfl (Or.inl rfl) (pe_lstO pa_nil))
    (pss_stop (ps_for PassesOwn.never rfl (pi_hold (pi_list (pe_callB (id := "sorted") (cr_sortX (room65 hr)) (by rfl) T.n_sorted (by decide +kernel) (pa_cons (pe_lc (own := [("_law_chosen", 3)]) (g := gName 3) (tt := tYes) rfl sc_law_least.nd (pi_list (pv 0)) (blkOk_by (own := [("_law_chosen", 3)]) (N := N_law_least) (sc := defScope s_law_least) (by decide +kernel)) (fun _ _ _ _ _ => (pg_name (i := 3) sc_law_least.nd rfl (Or.inl rfl))) (fun _ _ _ _ _ => pts_nil) (fun _ _ _ _ _ => (pe_tupO (pa_cons (pe_callB (id := "len") (r := rLenS K) call_lenS (by rfl) T.n_len PySem.boot_len (pa_cons (pv 3) pa_nil)) (pa_cons (pv 3) pa_nil))))) pa_nil)))) (pg_name (i := 2) sc_law_least.nd rfl (Or.inr rfl))
      (pss_one (ps_if (pt_cmpR (r := rEqP K) (op_eqP (room65 hr)) (pe_lc (own := [("_law_one", 4)]) (g := gName 4) rfl sc_law_least.nd (pi_list (pv 1)) (blkOk_by (own := [("_law_one", 4)]) (N := N_law_least) (sc := defScope s_law_least) (by decide +kernel)) (fun _ _ _ _ _ => (pg_name (i := 4) sc_law_least.nd rfl (Or.inl rfl))) (fun _ _ _ _ _ => (pts_one (pt_val (pe_call (ok_law_inside T) (hr.mono (by decide)) (by rfl) T.g_law_inside T.F_law_inside.kp T.b_law_inside .nil pass0 (pa_cons (pv 4) (pa_cons (pe_ix (r := rIxT K) ix_tup (pv 2) pe_int (fun _ _ => rfl)) pa_nil)))))) (fun _ _ _ _ _ => (pv 4))) (pe_lstO pa_nil) (nomark _))
      (pss_one (ps_expr (pe_bm PySem.F.plainAttrs_list PySem.F.slot_list_append PySem.F.type_list_append mt_append (pv 1) (pa_cons (pe_ix (r := rIxT K) ix_tup (pv 2) pe_int (fun _ _ => rfl)) pa_nil)))) pss_nil)))
    (pss_one (ps_ret (pv 1))))), ?_⟩
    have hxl := paired_len hg
    walk_at "rd"
    refine ⟨by decide, fun p H1 np s1 hp => ?_⟩
    have Sp0 : Same H H1 := s1
    refine Stop.cut (fun σ H' => ∃ (y : Option V) (fs : List V), σ = [some (.ref a), some (.ref p), y, none, none] ∧ Same H H' ∧ H' p = some (.lst fs) ∧ GrpsV K H' fs (leastL rows)) (fun Qz hz => ?_) ?_
    · walk_at "rd"
      refine ⟨⟨_, s1.seq ha⟩, fun D hD => ?_⟩
      refine lc_rel (walk_list (xs := xs)) (xs := rows) hxl.symm (by rw [hxl]; omega) (fun _ => true) (fun H g v => PairV K H v g) hD (fun H H' g v acc _ hDa k h => h.but hDa k) (fun H s => s.seq (s1.seq ha)) ?_ ?_
      · intro j g v H5 H6 Qk Qn hgj sm hy hk _
        obtain ⟨rfl, hv⟩ := hy
        obtain ⟨g', h1, h2⟩ := OS.paired_get hg hv
        obtain rfl : g' = g := Option.some.inj (h1.symm.trans hgj)
        obtain ⟨b, rfl, hb⟩ := (h2.same s1).same sm
        walk_at "rd"
        refine ⟨by show 2 ≤ sizeLine; decide, fun t H7 n7 s7 ht => ?_⟩
        rw [List.length_map] at ht
        exact hk rfl _ _ ⟨t, b, rfl, SqT.of ht, s7.tupT hb⟩ s7
      · intro H5 acc sm hD5 pr
        have hfl : rows.filter (fun _ => true) = rows := List.filter_eq_self.mpr fun _ _ => rfl
        rw [hfl] at pr
        refine ⟨D, rfl, pairs_sorted hD5 (paired_swap pr) fun m H6 ys n6 s6 hm hys => ?_⟩
        have hp6 := s6 _ _ (sm _ _ hp)
        have nmp : p ≠ m := ne_of_none (sm _ _ hp) n6
        have hyl := paired_len hys
        have hsl : (rows.mergeSort leP).length = rows.length := List.length_mergeSort _
        have S6 : Same H H6 := (s1.trans sm).trans s6
        refine ⟨m, rfl, ⟨_, SqL.of hm⟩, ⟨for_it (walk_list (xs := ys)) (fun i σ H' => ∃ (y : Option V) (fs : List V), σ = [some (.ref a), some (.ref p), y, none, none] ∧ Same H H' ∧ H' m = some (.lst ys) ∧ Paired (PairV K H') ys (rows.mergeSort leP) ∧ H' p = some (.lst fs) ∧ GrpsV K H' fs (((rows.mergeSort leP).take i).foldl leastStep []) ∧ fs.length ≤ i)
          ⟨none, [], rfl, S6, hm, hys, hp6, .nil, Nat.le_refl _⟩ (fun i σ H' _ ⟨_, _, _, _, z, _⟩ => SqL.of z) ?_ ?_⟩⟩
        · rintro i x _ H7 H8 hi ⟨y, fs, rfl, s7, hm7, hy7, hp7, hf7, hfl7⟩ ⟨rfl, hx⟩
          obtain ⟨g, hgi, h2⟩ := OS.paired_get hy7 hx
          obtain ⟨t, b, rfl, ht, hb⟩ := h2
          have hgm : g ∈ rows := (List.mergeSort_perm _ _).mem_iff.mp (List.mem_of_getElem? hgi)
          have hsub : ∀ o ∈ (((rows.mergeSort leP).take i).foldl leastStep []), o.length ≤ 1000 := by
            have : ∀ (l : List (List Str)) (A : List (List Str)), (∀ o ∈ l, o.length ≤ 1000) → (∀ o ∈ A, o.length ≤ 1000) → ∀ o ∈ l.foldl leastStep A, o.length ≤ 1000 := by
              intro l
              induction l with
              | nil => exact fun A _ h => h
              | cons z l ih =>
                intro A hz' hA
                rw [List.foldl_cons]
                refine ih _ (fun o ho => hz' o (List.mem_cons_of_mem _ ho)) fun o ho => ?_
                unfold leastStep at ho
                split at ho
                · rcases List.mem_append.mp ho with ho | ho
                  · exact hA o ho
                  · rw [List.mem_singleton.mp ho]
                    exact hz' z (List.mem_cons_self ..)
                · exact hA o ho
            refine this _ _ (fun o ho => ?_) (fun o ho => by simp at ho)
            have := hll o ((List.mergeSort_perm _ _).mem_iff.mp (List.mem_of_mem_take ho))
            omega
          have hfl8 := paired_len hf7
          have hi9 : i < rows.length := by rw [hyl, hsl] at hi; exact hi
          have tf := take_fold leastStep [] hgi
          generalize (((rows.mergeSort leP).take i).foldl leastStep []) = A at hf7 hsub hfl8 tf
          walk_at "rd"
          refine ⟨⟨_, SqL.of hp7⟩, fun D2 hD2 => ?_⟩
          refine lc_rel (walk_list (xs := fs)) (xs := A) hfl8.symm (by omega) (fun o => inside o g) (fun H g v => GrpV K H v g) hD2 (fun H H' g v acc _ hDa k h => h.but hDa k) (fun H s => s.seq (SqL.of hp7)) ?_ ?_
          · intro j o v H9 H10 Qk Qn ho sm9 hy hk hn
            obtain ⟨rfl, hv⟩ := hy
            obtain ⟨o', h1, h2⟩ := OS.paired_get hf7 hv
            obtain rfl : o' = o := Option.some.inj (h1.symm.trans ho)
            have hol := hsub _ (List.mem_of_getElem? ho)
            have h3 := h2.same sm9
            obtain ⟨c, rfl, hc⟩ := id h3
            have ht9 := sm9.tupT ht
            have hb9 := sm9.tupT hb
            walk_at "rd"
            intro H11 s11
            walk_at "rd"
            refine ite2 (fun e1 => ?_) (fun e1 => ?_)
            · walk_at "rd"
              exact hk e1 _ _ (h3.same s11) s11
            · exact hn ((Bool.not_eq_true _).mp e1) _ s11
          · intro H9 acc2 sm9 hD9 pr9
            have pr9' : GrpsV K H9 acc2 (A.filter fun o => inside o g) := paired_swap pr9
            walk_at "rd"
            refine ⟨by decide, fun e H10 ne10 s10 he10 => ?_⟩
            have d1 : Dp K H10 (.ref D2) (.list ((A.filter fun o => inside o g).map encG)) := .lst (SqL.of (s10 _ _ hD9)) (pr9'.same s10).dps
            refine ⟨_, _, d1, dp_nil (SqL.of he10), ?_, ?_⟩
            · have := depth_Gs (A.filter fun o => inside o g)
              simp only [PyData.depth]
              omega
            · rw [eqv_nil]
              have hp10 := s10 _ _ (sm9 _ _ hp7)
              have hm10 := s10 _ _ (sm9 _ _ hm7)
              have hy10 : Paired (PairV K H10) ys (rows.mergeSort leP) := Paired.mapP hy7 fun _ _ z => (z.same sm9).same s10
              have hf10 := (hf7.same sm9).same s10
              have ht10 := s10.tupT (sm9.tupT ht)
              have hb10 := s10.tupT (sm9.tupT hb)
              have S10 := (s7.trans sm9).trans s10
              walk_at "rd"
              have hflt : fs.length < sizeLine := Nat.lt_of_le_of_lt (show fs.length ≤ 100000 by omega) (by decide)
              refine ite2 (fun e1 => ?_) (fun e1 => ?_)
              · have e2 : (A.filter fun o => inside o g) = [] := List.isEmpty_iff.mp e1
                walk_at "rd"
                refine ⟨.inl ⟨rfl, _, SqL.of hp10⟩, ?_⟩
                walk_at "rd"
                have kp : ∀ c o, H10 c = some o → c ≠ p → (upd H10 p (HO.lst (fs ++ [V.ref b]))) c = some o := fun c o e hc => (upd_ne hc).trans e
                refine ⟨fun c o e => (upd_ne (ne_of_none e np)).trans (S10 c o e), kp m _ hm10 nmp.symm, Paired.mapP hy10 fun _ _ z => z.but hp10 kp, upd_same, ?_, ?_⟩
                · rw [tf]
                  unfold leastStep
                  rw [if_pos e2]
                  exact paired_app (Paired.mapP hf10 fun _ _ z => z.but hp10 kp) (.cons ⟨b, rfl, tupT_but hp10 kp hb10⟩ .nil)
                · rw [List.length_append]
                  simp
                  omega
              · have e2 : (A.filter fun o => inside o g) ≠ [] := fun z => e1 (by rw [z]; rfl)
                rw [tf]
                unfold leastStep
                rw [if_neg e2]
                exact ⟨_, fs, rfl, S10, hm10, hy10, hp10, hf10, by omega⟩
        · rintro σ H7 ⟨y, fs, rfl, s7, hm7, hy7, hp7, hf7, hfl7⟩
          rw [hyl, List.take_length] at hf7
          exact hz _ _ ⟨y, fs, rfl, s7, hp7, hf7⟩
    · rintro _ H3 ⟨y, fs, rfl, s3, hp3, hg3⟩
      walk_at "rd"
      exact q p H3 fs np s3 hp3 hg3
end
end P

set_option Elab.async false
set_option linter.all false
set_option maxRecDepth 100000
set_option maxHeartbeats 4000000
namespace P
open PySem PySem.Spec PyProof.Rows L2 OS
/-! short ways: "rd" opens a reading as far as equations go; "sep" finds what stands apart from the state; "sq" a list that is read; "nx" two heaps -/
local macro_rules | `(tactic| walk_at "sep") => `(tactic| first | assumption | (refine (by assumption : Nx _ _ _) _ _ ?_; walk_at "sep"))
local macro_rules | `(tactic| walk_at "sq") => `(tactic| first | assumption | exact .inl (.inl (by assumption)) | exact Sep.sq (by walk_at "sep") | exact Sep.st (by walk_at "sep") | exact .inl (.inl upd_same))
local macro_rules | `(tactic| walk_at "rd") => `(tactic| repeat (first
  | refine And.intro rfl ?_
  | apply Exists.intro
  | refine And.intro (by assumption) ?_
  | refine And.intro (DrawOk.mk (by omega) (by omega) (by omega)) ?_
  | refine And.intro at0 ?_
  | refine And.intro ⟨_, rfl⟩ ?_
  | refine And.intro (by walk_at "sq") ?_
  | refine And.intro (Or.inl (by walk_at "sq")) ?_
  | refine And.intro (Or.inr (by walk_at "sq")) ?_
  | refine And.intro (by omega) ?_))

section
variable {P : Program} {w : World} {K : PySem.W.Frag} {mg : Str → Option Value} {base : Heap}
theorem filter_any {α : Type} (t : α → Bool) : ∀ l : List α, (!(l.filter t).isEmpty) = l.any t
  | [] => rfl
  | x :: l => by
    by_cases h : t x = true
    · rw [List.filter_cons_of_pos h, List.any_cons, h]
      rfl
    · rw [List.filter_cons_of_neg h, List.any_cons, filter_any t l, (Bool.not_eq_true _).mp h, Bool.false_or]
/-- _law_opens(rows, chosen) -/
def spLOpens (K : PySem.W.Frag) : Sp := fun vs H Q _ => ∃ (p b : Addr) (xs : List V) (rows : List (List Str)) (gs : List Str), vs = [.ref p, .ref b] ∧ SqL K H p xs ∧ GrpsV K H xs rows ∧ rows.length ≤ 900 ∧ (∀ g ∈ rows, g.length ≤ 900) ∧ (SqL K H b (gs.map V.str) ∨ SqT K H b (gs.map V.str)) ∧
  ∀ H', Same H H' → Q (.bl (rows.any fun o => inside o gs)) H'
theorem ok_law_opens (T : Txt K mg) : FnOk P w K mg base CX0 2 T.f_law_opens T.fd_law_opens ["_law_groups", "_law_chosen"] (spLOpens K) := by
  refine T.F_law_opens.ok sc_law_opens (fun vs H Q E h => ?_) (fun cdv A outer s H vs Q E hr h => ?_)
  · obtain ⟨p, b, xs, rows, gs, rfl, _⟩ := h
    rfl
  · obtain ⟨p, b, xs, rows, gs, rfl, hp, hg, hl, hll, hb, q⟩ := h
    refine ⟨_, (pss_one (ps_ret (pe_cmpR (r := rNeP K) (op_neP (room65 hr)) (pe_lc (own := [("_law_one", 2)]) (g := gName 2) rfl sc_law_opens.nd (pi_list (pv 0)) (blkOk_by (own := [("_law_one", 2)]) (N := N_law_opens) (sc := defScope s_law_opens) (by decide +kernel)) (fun _ _ _ _ _ => (pg_name (i := 2) sc_law_opens.nd rfl (Or.inl rfl))) (fun _ _ _ _ _ => (pts_one (pt_val (pe_call (ok_law_inside T) (hr.mono (by decide)) (by rfl) T.g_law_inside T.F_law_inside.kp T.b_law_inside .nil pass0 (pa_cons (pv 2) (pa_cons (pv 1) pa_nil)))))) (fun _ _ _ _ _ => (pv 2))) (pe_lstO pa_nil) (nomark _)))), ?_⟩
    have hxl := paired_len hg
    walk_at "rd"
    refine ⟨⟨_, hp⟩, fun D hD => ?_⟩
    refine lc_rel (walk_list (xs := xs)) (xs := rows) hxl.symm (by rw [hxl]; omega) (fun o => inside o gs) (fun H g v => GrpV K H v g) hD (fun H H' g v acc _ hDa k h => h.but hDa k) (fun H s => s.seq hp) ?_ ?_
    · intro j o v H9 H10 Qk Qn ho sm9 hy hk hn
      obtain ⟨rfl, hv⟩ := hy
      obtain ⟨o', h1, h2⟩ := OS.paired_get hg hv
      obtain rfl : o' = o := Option.some.inj (h1.symm.trans ho)
      have hol := hll _ (List.mem_of_getElem? ho)
      have hol2 : o'.length ≤ 1000 := by omega
      have h3 := h2.same sm9
      obtain ⟨c, rfl, hc⟩ := id h3
      have hb9 := hb.imp (fun z => sm9.seq z) fun z => sm9.tupT z
      walk_at "rd"
      intro H11 s11
      walk_at "rd"
      refine ite2 (fun e1 => ?_) (fun e1 => ?_)
      · walk_at "rd"
        exact hk e1 _ _ (h3.same s11) s11
      · exact hn ((Bool.not_eq_true _).mp e1) _ s11
    · intro H9 acc2 sm9 hD9 pr9
      have pr9' : GrpsV K H9 acc2 (rows.filter fun o => inside o gs) := paired_swap pr9
      walk_at "rd"
      refine ⟨by decide, fun e H10 ne10 s10 he10 => ?_⟩
      have d1 : Dp K H10 (.ref D) (.list ((rows.filter fun o => inside o gs).map encG)) := .lst (SqL.of (s10 _ _ hD9)) (pr9'.same s10).dps
      refine ⟨_, _, d1, dp_nil (SqL.of he10), ?_, ?_⟩
      · have := depth_Gs (rows.filter fun o => inside o gs)
        simp only [PyData.depth]
        omega
      · rw [eqv_nil, filter_any]
        exact q _ (sm9.trans s10)
/-- what a name is -/
def lowS : Str := "abcdefghijklmnopqrstuvwxyz"
def digS : Str := "0123456789"
def okN (l : List Nat) : Bool := decide (1 ≤ l.length) && decide (l.length ≤ 6) && decide (l.headD 0 ∈ lowS.cps.toList) && l.all fun c => decide (c ∈ (lowS ++ digS).cps.toList)
def spName : Sp := fun vs H Q _ => ∃ z : Str, vs = [.str z] ∧ z.length ≤ 100000 ∧ ∀ H', Same H H' → Q (.bl (okN z.cps.toList)) H'
theorem len_list (z : Str) : z.cps.toList.length = z.length := by simp [Str.length]
theorem ok_valid_name (T : Txt K mg) : FnOk P w K mg base CX0 1 T.f_valid_name T.fd_valid_name ["text"] spName := by
  refine T.F_valid_name.ok sc_valid_name (fun vs H Q E h => ?_) (fun cdv A outer s H vs Q E hr h => ?_)
  · obtain ⟨z, rfl, _⟩ := h
    rfl
  · obtain ⟨z, rfl, hz, q⟩ := h
    refine ⟨_, (pss_cons (ps_if (pt_not (pt_chain op_le op_le pe_int (pe_callB (id := "len") call_len_str (by rfl) T.n_len PySem.boot_len (pa_cons (pv 0) pa_nil)) (pe_glob (v := .int 6) rfl T.c_LONGEST_NAME ⟨_, rfl⟩)))
      (pss_one (ps_ret pe_bl)) pss_nil)
    (pss_one (ps_ret (pe_and (pe_cmpR op_in_sign (pe_ix ix_str (pv 0) pe_int (fun _ _ => rfl)) (pe_glob (v := .str "abcdefghijklmnopqrstuvwxyz") rfl T.c_LETTERS ⟨_, rfl⟩) (by rfl)) (pe_one (pe_callB (id := "all") (r := rAll K) (cr_all rfl) (by rfl) T.n_all (by decide +kernel) (pa_cons (pe_lc (own := [("char", 1)]) (g := gName 1) (tt := tYes) rfl sc_valid_name.nd (pi_str (pv 0)) (blkOk_by (own := [("char", 1)]) (N := N_valid_name) (sc := defScope s_valid_name) (by decide +kernel)) (fun _ _ _ _ _ => (pg_name (i := 1) sc_valid_name.nd rfl (Or.inl rfl))) (fun _ _ _ _ _ => pts_nil) (fun _ _ _ _ _ => (pe_cmpR op_in_sign (pv 1) (pe_op op_add_str (pe_glob (v := .str "abcdefghijklmnopqrstuvwxyz") rfl T.c_LETTERS ⟨_, rfl⟩) (pe_glob (v := .str "0123456789") rfl T.c_DIGITS ⟨_, rfl⟩)) (by rfl)))) pa_nil))))))), ?_⟩
    have hzl : z.length ≤ sizeLine := Nat.le_trans hz (by decide)
    have hl := len_list z
    have hz2 : (z.cps.toList.length : Int) = (z.length : Int) := by rw [hl]
    have bad : okN z.cps.toList = false → Q (.bl false) H := fun e => by
      have := q H (Same.refl H)
      rwa [e] at this
    walk_at "rd"
    refine ite2 (fun e1 => ?_) (fun e1 => ?_)
    · have e1' := of_decide_eq_true e1
      walk_at "rd"
      refine ite2 (fun e2 => ?_) (fun e2 => ?_)
      · refine bad ?_
        have e2' : ¬ (z.length ≤ 6) := fun x => by simp [decide_eq_true (show ((z.length : Nat) : Int) ≤ 6 by omega)] at e2
        unfold okN
        rw [hl, decide_eq_false e2', Bool.and_false]
        rfl
      · have e2' : z.length ≤ 6 := by
          apply Classical.byContradiction
          intro x
          exact e2 (by simp; omega)
        obtain ⟨c, cs, hc⟩ : ∃ c cs, z.cps.toList = c :: cs := by
          cases e : z.cps.toList with
          | nil =>
            rw [e] at hl
            simp at hl
            omega
          | cons c cs => exact ⟨c, cs, rfl⟩
        walk_at "rd"
        refine ⟨show atI z.cps.toList 0 = some c by rw [hc]; exact atI_nat (j := 0) rfl, ?_⟩
        walk_at "rd"
        have hN : okN z.cps.toList = (decide (c ∈ lowS.cps.toList) && z.cps.toList.all fun c => decide (c ∈ (lowS ++ digS).cps.toList)) := by
          unfold okN
          rw [hl, decide_eq_true (show 1 ≤ z.length by omega), decide_eq_true e2', Bool.true_and, Bool.true_and, show z.cps.toList.headD 0 = c by rw [hc]; rfl]
        refine ite2 (fun e3 => ?_) (fun e3 => ?_)
        · walk_at "rd"
          intro D hD
          refine lc_all walk_str (xs := z.cps.toList) (by simp) (by show z.length ≤ 100000; exact Nat.le_trans hz (by decide)) (fun c => V.bl (decide (c ∈ (lowS ++ digS).cps.toList))) hD (fun _ _ => trivial) ?_ ?_
          · intro i a x H1 H2 Qk ha sm hy hk
            obtain ⟨rfl, c', hc', rfl⟩ := hy
            have : a = c' := by
              rw [Array.getElem?_toList] at ha
              exact Option.some.inj (ha.symm.trans hc')
            subst this
            walk_at "rd"
            refine ⟨by decide +kernel, ?_⟩
            walk_at "rd"
            exact hk _ (Same.refl _)
          · intro H1 sm hD1
            walk_at "rd"
            refine ⟨show SqL _ H1 D ((z.cps.toList.map fun c => decide (c ∈ (lowS ++ digS).cps.toList)).map V.bl) from .inl (.inl (by rw [List.map_map]; exact hD1)), ?_⟩
            have := q H1 sm
            rw [hN, show decide (c ∈ lowS.cps.toList) = true from e3, Bool.true_and] at this
            rw [List.all_map]
            exact this
        · refine bad ?_
          rw [hN, show decide (c ∈ lowS.cps.toList) = false from (Bool.not_eq_true _).mp e3]
          rfl
    · have e1' : ¬ (1 ≤ z.length) := fun x => e1 (decide_eq_true (by omega))
      walk_at "rd"
      refine iteT ?_
      refine bad ?_
      unfold okN
      rw [hl, decide_eq_false e1']
      rfl

end
end P

set_option Elab.async false
set_option linter.all false
set_option maxRecDepth 100000
set_option maxHeartbeats 4000000
namespace P
open PySem PySem.Spec PyProof.Rows L2 OS
/-! short ways: "rd" opens a reading as far as equations go; "sep" finds what stands apart from the state; "sq" a list that is read; "nx" two heaps -/
local macro_rules | `(tactic| walk_at "sep") => `(tactic| first | assumption | (refine (by assumption : Nx _ _ _) _ _ ?_; walk_at "sep"))
local macro_rules | `(tactic| walk_at "sq") => `(tactic| first | assumption | exact .inl (.inl (by assumption)) | exact Sep.sq (by walk_at "sep") | exact Sep.st (by walk_at "sep") | exact .inl (.inl upd_same))
local macro_rules | `(tactic| walk_at "rd") => `(tactic| repeat (first
  | refine And.intro rfl ?_
  | apply Exists.intro
  | refine And.intro (by assumption) ?_
  | refine And.intro (DrawOk.mk (by omega) (by omega) (by omega)) ?_
  | refine And.intro at0 ?_
  | refine And.intro ⟨_, rfl⟩ ?_
  | refine And.intro (by walk_at "sq") ?_
  | refine And.intro (Or.inl (by walk_at "sq")) ?_
  | refine And.intro (Or.inr (by walk_at "sq")) ?_
  | refine And.intro (by omega) ?_))

section
variable {P : Program} {w : World} {K : PySem.W.Frag} {mg : Str → Option Value} {base : Heap}
/-- what is wrong with the k-th name -/
def badAt (ps : List Str) (k : Nat) : Option (Str × Str) := if okN (ps.getD k default).cps.toList then (if ps.getD k default ∈ ps.take k then some ("twice", ps.getD k default) else none) else some ("name", ps.getD k default)
/-- the first that is wrong with the first k names -/
def wrongUp (ps : List Str) : Nat → Option (Str × Str)
  | 0 => none
  | k + 1 => match wrongUp ps k with
    | some r => some r
    | none => badAt ps k
theorem wrongUp_stay {ps : List Str} {r : Str × Str} : ∀ {i n : Nat}, wrongUp ps i = some r → i ≤ n → wrongUp ps n = some r := by
  intro i n h hle
  induction n with
  | zero =>
    have : i = 0 := by omega
    subst this
    exact h
  | succ n ih =>
    by_cases q : i ≤ n
    · show (match wrongUp ps n with | some r => some r | none => badAt ps n) = some r
      rw [ih q]
    · have : i = n + 1 := by omega
      subst this
      exact h
/-- what is wrong with the names -/
def wrV (ps : List Str) : List V := if ps.length < 1 ∨ 5 < ps.length then [.str "count", .int (ps.length : Int)] else match wrongUp ps ps.length with
  | none => []
  | some (t, z) => [.str t, .str z]
theorem wrV_count {ps : List Str} (h : ps.length < 1 ∨ 5 < ps.length) : wrV ps = [.str "count", .int (ps.length : Int)] := if_pos h
theorem wrV_some {ps : List Str} {t z : Str} (h : ¬ (ps.length < 1 ∨ 5 < ps.length)) {i : Nat} (hi : i ≤ ps.length) (e : wrongUp ps i = some (t, z)) : wrV ps = [.str t, .str z] := by
  unfold wrV
  rw [if_neg h, wrongUp_stay e hi]
theorem wrV_none {ps : List Str} (h : ¬ (ps.length < 1 ∨ 5 < ps.length)) (e : wrongUp ps ps.length = none) : wrV ps = [] := by
  unfold wrV
  rw [if_neg h, e]
end
end P

set_option Elab.async false
set_option linter.all false
set_option maxRecDepth 100000
set_option maxHeartbeats 4000000
namespace P
open PySem PySem.Spec PyProof.Rows L2 OS
/-! short ways: "rd" opens a reading as far as equations go; "sep" finds what stands apart from the state; "sq" a list that is read; "nx" two heaps -/
local macro_rules | `(tactic| walk_at "sep") => `(tactic| first | assumption | (refine (by assumption : Nx _ _ _) _ _ ?_; walk_at "sep"))
local macro_rules | `(tactic| walk_at "sq") => `(tactic| first | assumption | exact .inl (.inl (by assumption)) | exact Sep.sq (by walk_at "sep") | exact Sep.st (by walk_at "sep") | exact .inl (.inl upd_same))
local macro_rules | `(tactic| walk_at "rd") => `(tactic| repeat (first
  | refine And.intro rfl ?_
  | apply Exists.intro
  | refine And.intro (by assumption) ?_
  | refine And.intro (DrawOk.mk (by omega) (by omega) (by omega)) ?_
  | refine And.intro at0 ?_
  | refine And.intro ⟨_, rfl⟩ ?_
  | refine And.intro (by walk_at "sq") ?_
  | refine And.intro (Or.inl (by walk_at "sq")) ?_
  | refine And.intro (Or.inr (by walk_at "sq")) ?_
  | refine And.intro (by omega) ?_))

section
variable {P : Program} {w : World} {K : PySem.W.Frag} {mg : Str → Option Value} {base : Heap}
theorem erase_perm {α : Type} : ∀ {l : List α} {k : Nat} (h : k < l.length), (l[k] :: l.eraseIdx k).Perm l
  | [], _, h => absurd h (by simp)
  | x :: l, 0, _ => List.Perm.refl _
  | x :: l, k + 1, h => (List.Perm.swap _ _ _).trans ((erase_perm (l := l) (k := k) (by simpa using h)).cons x)
end
end P

set_option Elab.async false
set_option linter.all false
set_option maxRecDepth 100000
set_option maxHeartbeats 4000000
namespace P
open PySem PySem.Spec PyProof.Rows L2 OS
/-! short ways: "rd" opens a reading as far as equations go; "sep" finds what stands apart from the state; "sq" a list that is read; "nx" two heaps -/
local macro_rules | `(tactic| walk_at "sep") => `(tactic| first | assumption | (refine (by assumption : Nx _ _ _) _ _ ?_; walk_at "sep"))
local macro_rules | `(tactic| walk_at "sq") => `(tactic| first | assumption | exact .inl (.inl (by assumption)) | exact Sep.sq (by walk_at "sep") | exact Sep.st (by walk_at "sep") | exact .inl (.inl upd_same))
local macro_rules | `(tactic| walk_at "rd") => `(tactic| repeat (first
  | refine And.intro rfl ?_
  | apply Exists.intro
  | refine And.intro (by assumption) ?_
  | refine And.intro (DrawOk.mk (by omega) (by omega) (by omega)) ?_
  | refine And.intro at0 ?_
  | refine And.intro ⟨_, rfl⟩ ?_
  | refine And.intro (by walk_at "sq") ?_
  | refine And.intro (Or.inl (by walk_at "sq")) ?_
  | refine And.intro (Or.inr (by walk_at "sq")) ?_
  | refine And.intro (by omega) ?_))

section
variable {P : Program} {w : World} {K : PySem.W.Frag} {mg : Str → Option Value} {base : Heap}
/-- check_groups(persons, groups): the things os; the first that is no group, or is empty, flies -/
def spCheck (T : Txt K mg) : Sp := fun vs H Q E => ∃ (a p : Addr) (ps : List Str) (xs : List V) (os : List (Option (List V))), vs = [.ref a, .ref p] ∧ SqT K H a (ps.map V.str) ∧ ps.length ≤ 900 ∧ (SqL K H p xs ∨ SqT K H p xs) ∧ Paired (Thing K H) xs os ∧ os.length ≤ 100000 ∧
  (os = [] → ∀ H', Same H H' → E (.ref T.C_NoGroup) none H') ∧
  (∀ (i : Nat) (x : V) (o : Option (List V)), xs[i]? = some x → os[i]? = some o → (∀ j o', j < i → os[j]? = some o' → isGrp ps o' = true ∧ o' ≠ some []) → ¬ (isGrp ps o = true ∧ o ≠ some []) → ∀ H', Same H H' → Flies E T.C_BadGroup "value" x H') ∧
  (os ≠ [] → (∀ o ∈ os, isGrp ps o = true ∧ o ≠ some []) → ∀ H', Same H H' → Q .non H')
theorem ok_check_groupsN (T : Txt K mg) : FnOk P w K mg base (L2N.CX P w) 3 T.f_check_groups T.fd_check_groups ["persons", "groups"] (spCheck T) := by
  refine OS.Fun.okN T.F_check_groups sc_check_groups (fun vs H Q E h => ?_) (fun cdv A outer s H vs Q E hr h => ?_)
  · obtain ⟨a, p, ps, xs, os, rfl, _⟩ := h
    rfl
  · obtain ⟨a, p, ps, xs, os, rfl, ha, hl, hp, hx, hol, qn, qb, q⟩ := h
    refine ⟨_, (pss_cons (ps_if (pt_cmpR op_eq (pe_callB (id := "len") (r := rLenS K) call_lenS (by rfl) T.n_len PySem.boot_len (pa_cons (pv 1) pa_nil)) pe_int (nomark _))
      (pss_one (L2N.ps_raise rfl (L2N.takes_of rfl rfl rfl rfl) (pmk_err0N PySem.F.excBase_ValueError T.q_NoGroup T.k_NoGroup T.er_NoGroup (by rfl) T.g_NoGroup))) pss_nil)
    (pss_one (ps_for (passes_of rfl) rfl (pi_hold (pi_seq (pv 1))) (pg_name (i := 2) sc_check_groups.nd rfl (Or.inl rfl))
      (pss_one (ps_if (PW.pt (pw_or (pt_cmpR (r := rEqEmp K) (op_eqEmp (room65 hr)) (pv 2) (pe_tupO pa_nil) (nomark _)) (pw_or1 (pt_not (pt_val (pe_call (ok_is_group T) (hr.mono (by decide)) (by rfl) T.g_is_group T.F_is_group.kp T.b_is_group .nil pass0 (pa_cons (pv 0) (pa_cons (pv 2) pa_nil))))))))
      (pss_one (L2N.ps_raise rfl (L2N.takes_of rfl rfl rfl rfl) (pmk_errN T.er_BadGroup T.iC_BadGroup T.tI_BadGroup (ok_BadGroup__init_ T) (hr.mono (by decide)) T.b_BadGroup__init_ (by rfl) T.g_BadGroup (pv 2)))) pss_nil))))), ?_⟩
    have hxl := paired_len hx
    walk_at "rd"
    refine ite2 (fun e1 => ?_) (fun e1 => ?_)
    · have h0 : xs.length = 0 := by
        have h1 := V.int.inj (of_decide_eq_true e1)
        omega
      have hos : os = [] := List.eq_nil_of_length_eq_zero (by omega)
      exact qn hos H (Same.refl H)
    · have hne : os ≠ [] := fun z => e1 (decide_eq_true (by
        rw [z] at hxl
        have h1 : xs.length = 0 := hxl
        rw [h1]
        rfl))
      walk_at "rd"
      rcases hp with hp | hp
      · refine .inl ⟨⟨_, hp⟩, ⟨for_it (walk_list (xs := xs)) (fun i σ H' => ∃ (y : Option V), σ = [some (.ref a), some (.ref p), y] ∧ Same H H' ∧ ∀ j o', j < i → os[j]? = some o' → isGrp ps o' = true ∧ o' ≠ some []) ⟨none, rfl, Same.refl H, fun j _ h => absurd h (by omega)⟩ (fun i σ H' _ ⟨_, _, s, _⟩ => s.seq hp) ?_ ?_⟩⟩
        · rintro i x _ H1 H2 hi ⟨y, rfl, s1, hgood⟩ ⟨rfl, hxi⟩
          obtain ⟨o, hoi, hth⟩ := OS.paired_get hx hxi
          walk_at "rd"
          refine ⟨by decide, fun e H3 ne s3 he => ?_⟩
          have s13 := s1.trans s3
          have hth3 := hth.same s13
          refine ⟨e, _, hth3.emp, rfl, SqT.of he, ?_⟩
          walk_at "rd"
          refine ite2 (fun e2 => ?_) (fun e2 => ?_)
          · have e3 : o = some [] := of_decide_eq_true e2
            first
              | exact qb i x o hxi hoi hgood (fun z => z.2 e3) H3 s13
              | (refine iteT ?_; exact qb i x o hxi hoi hgood (fun z => z.2 e3) H3 s13)
              | (walk_at "rd"; exact qb i x o hxi hoi hgood (fun z => z.2 e3) H3 s13)
          · have e3 : o ≠ some [] := fun z => e2 (decide_eq_true z)
            have ha3 := s13.tupT ha
            have hl3 : ps.length ≤ 1000 := by omega
            walk_at "rd"
            intro H4 s4
            have s14 := s13.trans s4
            walk_at "rd"
            refine ite2 (fun e4 => ?_) (fun e4 => ?_)
            · have e5 : isGrp ps o = false := (Bool.not_eq_true' _).mp e4
              first
                | exact qb i x o hxi hoi hgood (fun z => by rw [e5] at z; exact absurd z.1 (by simp)) H4 s14
                | (walk_at "rd"; exact qb i x o hxi hoi hgood (fun z => by rw [e5] at z; exact absurd z.1 (by simp)) H4 s14)
            · have e5 : isGrp ps o = true := by simpa using e4
              refine ⟨_, rfl, s14, fun j o' hj hjo => ?_⟩
              by_cases q2 : j < i
              · exact hgood j o' q2 hjo
              · obtain rfl : j = i := by omega
                obtain rfl : o = o' := Option.some.inj (hoi.symm.trans hjo)
                exact ⟨e5, e3⟩
        · rintro σ H1 ⟨y, rfl, s1, hgood⟩
          refine q hne (fun o ho => ?_) H1 s1
          obtain ⟨j, hj⟩ := List.getElem?_of_mem ho
          have hjl := (List.getElem?_eq_some_iff.mp hj).1
          exact hgood j o (by omega) hj
      · refine .inr ⟨⟨_, hp⟩, ⟨for_it (walk_tup (xs := xs)) (fun i σ H' => ∃ (y : Option V), σ = [some (.ref a), some (.ref p), y] ∧ Same H H' ∧ ∀ j o', j < i → os[j]? = some o' → isGrp ps o' = true ∧ o' ≠ some []) ⟨none, rfl, Same.refl H, fun j _ h => absurd h (by omega)⟩ (fun i σ H' _ ⟨_, _, s, _⟩ => s.tupT hp) ?_ ?_⟩⟩
        · rintro i x _ H1 H2 hi ⟨y, rfl, s1, hgood⟩ ⟨rfl, hxi⟩
          obtain ⟨o, hoi, hth⟩ := OS.paired_get hx hxi
          walk_at "rd"
          refine ⟨by decide, fun e H3 ne s3 he => ?_⟩
          have s13 := s1.trans s3
          have hth3 := hth.same s13
          refine ⟨e, _, hth3.emp, rfl, SqT.of he, ?_⟩
          walk_at "rd"
          refine ite2 (fun e2 => ?_) (fun e2 => ?_)
          · have e3 : o = some [] := of_decide_eq_true e2
            first
              | exact qb i x o hxi hoi hgood (fun z => z.2 e3) H3 s13
              | (refine iteT ?_; exact qb i x o hxi hoi hgood (fun z => z.2 e3) H3 s13)
              | (walk_at "rd"; exact qb i x o hxi hoi hgood (fun z => z.2 e3) H3 s13)
          · have e3 : o ≠ some [] := fun z => e2 (decide_eq_true z)
            have ha3 := s13.tupT ha
            have hl3 : ps.length ≤ 1000 := by omega
            walk_at "rd"
            intro H4 s4
            have s14 := s13.trans s4
            walk_at "rd"
            refine ite2 (fun e4 => ?_) (fun e4 => ?_)
            · have e5 : isGrp ps o = false := (Bool.not_eq_true' _).mp e4
              first
                | exact qb i x o hxi hoi hgood (fun z => by rw [e5] at z; exact absurd z.1 (by simp)) H4 s14
                | (walk_at "rd"; exact qb i x o hxi hoi hgood (fun z => by rw [e5] at z; exact absurd z.1 (by simp)) H4 s14)
            · have e5 : isGrp ps o = true := by simpa using e4
              refine ⟨_, rfl, s14, fun j o' hj hjo => ?_⟩
              by_cases q2 : j < i
              · exact hgood j o' q2 hjo
              · obtain rfl : j = i := by omega
                obtain rfl : o = o' := Option.some.inj (hoi.symm.trans hjo)
                exact ⟨e5, e3⟩
        · rintro σ H1 ⟨y, rfl, s1, hgood⟩
          refine q hne (fun o ho => ?_) H1 s1
          obtain ⟨j, hj⟩ := List.getElem?_of_mem ho
          have hjl := (List.getElem?_eq_some_iff.mp hj).1
          exact hgood j o (by omega) hj
theorem ok_check_groups (T : Txt K mg) : FnOk P w K mg base (L2.CX P w) 3 T.f_check_groups T.fd_check_groups ["persons", "groups"] (spCheck T) := fn_weak (ok_check_groupsN T)
end
end P

set_option Elab.async false
set_option linter.all false
set_option maxRecDepth 100000
set_option maxHeartbeats 4000000
namespace P
open PySem PySem.Spec PyProof.Rows L2 OS
/-! short ways: "rd" opens a reading as far as equations go; "sep" finds what stands apart from the state; "sq" a list that is read; "nx" two heaps -/
local macro_rules | `(tactic| walk_at "sep") => `(tactic| first | assumption | (refine (by assumption : Nx _ _ _) _ _ ?_; walk_at "sep"))
local macro_rules | `(tactic| walk_at "sq") => `(tactic| first | assumption | exact .inl (.inl (by assumption)) | exact Sep.sq (by walk_at "sep") | exact Sep.st (by walk_at "sep") | exact .inl (.inl upd_same))
local macro_rules | `(tactic| walk_at "rd") => `(tactic| repeat (first
  | refine And.intro rfl ?_
  | apply Exists.intro
  | refine And.intro (by assumption) ?_
  | refine And.intro (DrawOk.mk (by omega) (by omega) (by omega)) ?_
  | refine And.intro at0 ?_
  | refine And.intro ⟨_, rfl⟩ ?_
  | refine And.intro (by walk_at "sq") ?_
  | refine And.intro (Or.inl (by walk_at "sq")) ?_
  | refine And.intro (Or.inr (by walk_at "sq")) ?_
  | refine And.intro (by omega) ?_))

section
variable {P : Program} {w : World} {K : PySem.W.Frag} {mg : Str → Option Value} {base : Heap}
/-- a number of names that is no family's -/
abbrev badLen (ps : List Str) : Prop := ps.length < 1 ∨ 5 < ps.length
/-- checked_persons(persons) -/
def spPersons (T : Txt K mg) : Sp := fun vs H Q E => ∃ (p : Addr) (ps : List Str), vs = [.ref p] ∧ (SqL K H p (ps.map V.str) ∨ SqT K H p (ps.map V.str)) ∧ ps.length ≤ 90000 ∧ (∀ z ∈ ps, z.length ≤ 100000) ∧
  (badLen ps → ∀ H', Same H H' → Flies E T.C_BadCount "count" (.int (ps.length : Int)) H') ∧
  (∀ z H', ¬ badLen ps → wrongUp ps ps.length = some (("name" : Str), z) → Same H H' → Flies E T.C_BadName "name" (.str z) H') ∧
  (∀ z H', ¬ badLen ps → wrongUp ps ps.length = some (("twice" : Str), z) → Same H H' → Flies E T.C_DuplicateName "name" (.str z) H') ∧
  (¬ badLen ps → wrongUp ps ps.length = none → ∀ q H', Same H H' → SqT K H' q ((ps.mergeSort leS).map V.str) → Q (.ref q) H')
theorem ok_checked_personsN (T : Txt K mg) : FnOk P w K mg base (L2N.CX P w) 3 T.f_checked_persons T.fd_checked_persons ["persons"] (spPersons T) := by
  refine OS.Fun.okN T.F_checked_persons sc_checked_persons (fun vs H Q E h => ?_) (fun cdv A outer s H vs Q E hr h => ?_)
  · obtain ⟨p, ps, rfl, _⟩ := h
    rfl
  · obtain ⟨p, ps, rfl, hp, hl, hzl, qc, qN, qT, q⟩ := h
    refine ⟨_, (pss_cons (ps_if (pt_not (pt_chain op_le op_le pe_int (pe_callB (id := "len") (r := rLenS K) call_lenS (by rfl) T.n_len PySem.boot_len (pa_cons (pv 0) pa_nil)) (pe_glob (v := .int 5) rfl T.c_MOST_PERSONS ⟨_, rfl⟩)))
      (pss_one (L2N.ps_raise rfl (L2N.takes_of rfl rfl rfl rfl) (pmk_errN T.er_BadCount T.iC_BadCount T.tI_BadCount (ok_BadCount__init_ T) (hr.mono (by decide)) T.b_BadCount__init_ (by rfl) T.g_BadCount (pe_callB (id := "len") (r := rLenS K) call_lenS (by rfl) T.n_len PySem.boot_len (pa_cons (pv 0) pa_nil))))) pss_nil)
    (pss_stop (ps_for (passes_of rfl) rfl (pi_hold (pi_enumS (by rfl) T.n_enumerate (pa_cons (pv 0) pa_nil))) (pg_tup rfl (pgs_cons (pg_name (i := 1) sc_checked_persons.nd rfl (Or.inl rfl)) (pgs_cons (pg_name (i := 2) sc_checked_persons.nd rfl (Or.inl rfl)) pgs_nil)))
      (pss_cons (ps_if (pt_not (pt_val (pe_call (ok_valid_name T) (hr.mono (by decide)) (by rfl) T.g_valid_name T.F_valid_name.kp T.b_valid_name .nil pass0 (pa_cons (pv 2) pa_nil))))
      (pss_one (L2N.ps_raise rfl (L2N.takes_of rfl rfl rfl rfl) (pmk_errN T.er_BadName T.iC_BadName T.tI_BadName (ok_BadName__init_ T) (hr.mono (by decide)) T.b_BadName__init_ (by rfl) T.g_BadName (pv 2)))) pss_nil)
    (pss_one (ps_if (pt_cmpR (r := rIn K false) op_in_seq (pv 2) (pe_slice sl_seqO (pv 0) po_none (po_some (pv 1))) (by rfl))
      (pss_one (L2N.ps_raise rfl (L2N.takes_of rfl rfl rfl rfl) (pmk_errN T.er_DuplicateName T.iC_DuplicateName T.tI_DuplicateName (ok_DuplicateName__init_ T) (hr.mono (by decide)) T.b_DuplicateName__init_ (by rfl) T.g_DuplicateName (pv 2)))) pss_nil))))
    (pss_one (ps_ret (pe_callTy (T := "tuple") call_tuple_ofL (by rfl) T.n_tuple (by decide +kernel) (pa_cons (pe_callB (id := "sorted") (cr_sortS (room65 hr)) (by rfl) T.n_sorted (by decide +kernel) (pa_cons (pv 0) pa_nil)) pa_nil)))))), ?_⟩
    have hlm : (ps.map V.str).length = ps.length := List.length_map _
    walk_at "rd"
    refine ite2 (fun e1 => ?_) (fun e1 => ?_)
    · have e1' := of_decide_eq_true e1
      walk_at "rd"
      refine ite2 (fun e2 => ?_) (fun e2 => ?_)
      · have hb : badLen ps := .inr (by
          have : ¬ (((ps.map V.str).length : Nat) : Int) ≤ 5 := fun z => by rw [decide_eq_true z] at e2; cases e2
          omega)
        walk_at "rd"
        rw [hlm]
        exact qc hb H (Same.refl H)
      · have e2' : (((ps.map V.str).length : Nat) : Int) ≤ 5 := by
          apply Classical.byContradiction
          intro z
          exact e2 (by simp only [decide_eq_false z]; rfl)
        have hb : ¬ badLen ps := by
          rintro (z | z) <;> omega
        walk_at "rd"
        refine Stop.cut (fun σ H' => ∃ (y z : Option V), σ = [some (.ref p), y, z] ∧ Same H H' ∧ wrongUp ps ps.length = none) (fun Qz hz => ?_) ?_
        · walk_at "rd"
          rcases hp with hp | hp
          · refine .inl ⟨⟨_, hp⟩, ⟨for_it (walk_enum (K := K) (a := p) (xs := ps.map V.str)) (fun i σ H' => ∃ (y z : Option V), σ = [some (.ref p), y, z] ∧ Same H H' ∧ wrongUp ps i = none) ⟨none, none, rfl, Same.refl H, rfl⟩ (fun i σ H' _ ⟨_, _, _, s, _⟩ => s.seq hp) ?_ ?_⟩⟩
            · rintro i x _ H1 H2 hi ⟨y, z, rfl, s1, e3⟩ ⟨t, xi, xn, rfl, nt, rfl, hxi, hxn⟩
              have hi' : i < ps.length := by simpa using hi
              have hgi : ps[i]? = some ps[i] := List.getElem?_eq_getElem hi'
              obtain rfl := Option.some.inj hxi
              obtain rfl := strs_get hxn hgi
              have hgd : ps.getD i default = ps[i] := by rw [List.getD_eq_getElem?_getD, hgi]; rfl
              have hz1 := hzl _ (List.getElem_mem hi')
              have s2 : Same H (upd H1 t (.tup [.int (i : Nat), .str ps[i]])) := s1.trans (same_new nt)
              have ht2 : SqT K (upd H1 t (.tup [.int (i : Nat), .str ps[i]])) t [.int (i : Nat), .str ps[i]] := SqT.of upd_same
              generalize upd H1 t (.tup [.int (i : Nat), .str ps[i]]) = H2 at s2 ht2 ⊢
              refine ⟨t, _, rfl, ht2, rfl, ?_⟩
              walk_at "rd"
              intro H3 s3
              have s03 : Same H H3 := s2.trans s3
              have hp3 := s03.seq hp
              have hup : wrongUp ps (i + 1) = badAt ps i := by
                show (match wrongUp ps i with | some r => some r | none => badAt ps i) = _
                rw [e3]
              walk_at "rd"
              refine ite2 (fun e4 => ?_) (fun e4 => ?_)
              · have e5 : okN ps[i].cps.toList = false := (Bool.not_eq_true' _).mp e4
                have hw : wrongUp ps (i + 1) = some (("name" : Str), ps[i]) := by
                  rw [hup]
                  unfold badAt
                  rw [hgd, e5]
                  rfl
                walk_at "rd"
                exact qN _ H3 hb (wrongUp_stay hw hi') s03
              · have e5 : okN ps[i].cps.toList = true := by simpa using e4
                have hcut : cutV (ps.map V.str) none (some (i : Int)) = (ps.take i).map V.str := by
                  unfold cutV
                  rw [HT.sIx_none, HT.sIx_nat]
                  simp [Nat.min_eq_left (Nat.le_of_lt hi')]
                walk_at "rd"
                refine .inl ⟨p, _, rfl, hp3, ?_⟩
                rw [hcut]
                first
                  | intro c H4 s4 hc
                    have s04 := s03.trans s4
                    have hc' : SqL K H4 c ((ps.take i).map V.str) ∨ SqT K H4 c ((ps.take i).map V.str) := .inr hc
                    skip
                  | intro c H4 n4 s4 hc
                    have s04 := s03.trans s4
                    have hc' : SqL K H4 c ((ps.take i).map V.str) ∨ SqT K H4 c ((ps.take i).map V.str) := .inl (SqL.of hc)
                walk_at "rd"
                refine ⟨strs_flat _, ?_⟩
                rw [inV_strs]
                walk_at "rd"
                refine ite2 (fun e6 => ?_) (fun e6 => ?_)
                · have hw : wrongUp ps (i + 1) = some (("twice" : Str), ps[i]) := by
                    rw [hup]
                    unfold badAt
                    rw [hgd, if_pos e5, if_pos (of_decide_eq_true e6)]
                  walk_at "rd"
                  exact qT _ H4 hb (wrongUp_stay hw hi') s04
                · refine ⟨_, _, rfl, s04, ?_⟩
                  rw [hup]
                  unfold badAt
                  rw [hgd, if_pos e5, if_neg (fun z => e6 (decide_eq_true z))]
            · rintro σ H1 ⟨y, z, rfl, s1, e3⟩
              exact hz _ _ ⟨y, z, rfl, s1, by simpa using e3⟩
          · refine .inr ⟨⟨_, hp⟩, ⟨for_it (walk_enumT (K := K) (a := p) (xs := ps.map V.str)) (fun i σ H' => ∃ (y z : Option V), σ = [some (.ref p), y, z] ∧ Same H H' ∧ wrongUp ps i = none) ⟨none, none, rfl, Same.refl H, rfl⟩ (fun i σ H' _ ⟨_, _, _, s, _⟩ => s.tupT hp) ?_ ?_⟩⟩
            · rintro i x _ H1 H2 hi ⟨y, z, rfl, s1, e3⟩ ⟨t, xi, xn, rfl, nt, rfl, hxi, hxn⟩
              have hi' : i < ps.length := by simpa using hi
              have hgi : ps[i]? = some ps[i] := List.getElem?_eq_getElem hi'
              obtain rfl := Option.some.inj hxi
              obtain rfl := strs_get hxn hgi
              have hgd : ps.getD i default = ps[i] := by rw [List.getD_eq_getElem?_getD, hgi]; rfl
              have hz1 := hzl _ (List.getElem_mem hi')
              have s2 : Same H (upd H1 t (.tup [.int (i : Nat), .str ps[i]])) := s1.trans (same_new nt)
              have ht2 : SqT K (upd H1 t (.tup [.int (i : Nat), .str ps[i]])) t [.int (i : Nat), .str ps[i]] := SqT.of upd_same
              generalize upd H1 t (.tup [.int (i : Nat), .str ps[i]]) = H2 at s2 ht2 ⊢
              refine ⟨t, _, rfl, ht2, rfl, ?_⟩
              walk_at "rd"
              intro H3 s3
              have s03 : Same H H3 := s2.trans s3
              have hp3 := s03.tupT hp
              have hup : wrongUp ps (i + 1) = badAt ps i := by
                show (match wrongUp ps i with | some r => some r | none => badAt ps i) = _
                rw [e3]
              walk_at "rd"
              refine ite2 (fun e4 => ?_) (fun e4 => ?_)
              · have e5 : okN ps[i].cps.toList = false := (Bool.not_eq_true' _).mp e4
                have hw : wrongUp ps (i + 1) = some (("name" : Str), ps[i]) := by
                  rw [hup]
                  unfold badAt
                  rw [hgd, e5]
                  rfl
                walk_at "rd"
                exact qN _ H3 hb (wrongUp_stay hw hi') s03
              · have e5 : okN ps[i].cps.toList = true := by simpa using e4
                have hcut : cutV (ps.map V.str) none (some (i : Int)) = (ps.take i).map V.str := by
                  unfold cutV
                  rw [HT.sIx_none, HT.sIx_nat]
                  simp [Nat.min_eq_left (Nat.le_of_lt hi')]
                walk_at "rd"
                refine .inr ⟨p, _, rfl, hp3, ?_⟩
                rw [hcut]
                first
                  | intro c H4 s4 hc
                    have s04 := s03.trans s4
                    have hc' : SqL K H4 c ((ps.take i).map V.str) ∨ SqT K H4 c ((ps.take i).map V.str) := .inr hc
                    skip
                  | intro c H4 n4 s4 hc
                    have s04 := s03.trans s4
                    have hc' : SqL K H4 c ((ps.take i).map V.str) ∨ SqT K H4 c ((ps.take i).map V.str) := .inl (SqL.of hc)
                walk_at "rd"
                refine ⟨strs_flat _, ?_⟩
                rw [inV_strs]
                walk_at "rd"
                refine ite2 (fun e6 => ?_) (fun e6 => ?_)
                · have hw : wrongUp ps (i + 1) = some (("twice" : Str), ps[i]) := by
                    rw [hup]
                    unfold badAt
                    rw [hgd, if_pos e5, if_pos (of_decide_eq_true e6)]
                  walk_at "rd"
                  exact qT _ H4 hb (wrongUp_stay hw hi') s04
                · refine ⟨_, _, rfl, s04, ?_⟩
                  rw [hup]
                  unfold badAt
                  rw [hgd, if_pos e5, if_neg (fun z => e6 (decide_eq_true z))]
            · rintro σ H1 ⟨y, z, rfl, s1, e3⟩
              exact hz _ _ ⟨y, z, rfl, s1, by simpa using e3⟩
        · rintro _ H3 ⟨y, z, rfl, s3, e3⟩
          have hp3 : SqL K H3 p (ps.map V.str) ∨ SqT K H3 p (ps.map V.str) := hp.elim (fun h => .inl (s3.seq h)) fun h => .inr (s3.tupT h)
          walk_at "rd"
          intro a H4 n4 s4 h4
          walk_at "rd"
          intro b H5 n5 s5 h5
          exact q hb e3 b H5 ((s3.trans s4).trans s5) (SqT.of h5)
    · have hb : badLen ps := .inl (by
        have : ¬ (1 : Int) ≤ (((ps.map V.str).length : Nat) : Int) := fun z => e1 (decide_eq_true z)
        omega)
      refine ⟨_, rfl, ?_⟩
      refine iteT ?_
      walk_at "rd"
      rw [hlm]
      exact qc hb H (Same.refl H)
theorem ok_checked_persons (T : Txt K mg) : FnOk P w K mg base (L2.CX P w) 3 T.f_checked_persons T.fd_checked_persons ["persons"] (spPersons T) := fn_weak (ok_checked_personsN T)
end
end P

set_option Elab.async false
set_option linter.all false
set_option maxRecDepth 100000
set_option maxHeartbeats 4000000
namespace P
open PySem PySem.Spec PyProof.Rows L2 OS
/-! short ways: "rd" opens a reading as far as equations go; "sep" finds what stands apart from the state; "sq" a list that is read; "nx" two heaps -/
local macro_rules | `(tactic| walk_at "sep") => `(tactic| first | assumption | (refine (by assumption : Nx _ _ _) _ _ ?_; walk_at "sep"))
local macro_rules | `(tactic| walk_at "sq") => `(tactic| first | assumption | exact .inl (.inl (by assumption)) | exact Sep.sq (by walk_at "sep") | exact Sep.st (by walk_at "sep") | exact .inl (.inl upd_same))
local macro_rules | `(tactic| walk_at "rd") => `(tactic| repeat (first
  | refine And.intro rfl ?_
  | apply Exists.intro
  | refine And.intro (by assumption) ?_
  | refine And.intro (DrawOk.mk (by omega) (by omega) (by omega)) ?_
  | refine And.intro at0 ?_
  | refine And.intro ⟨_, rfl⟩ ?_
  | refine And.intro (by walk_at "sq") ?_
  | refine And.intro (Or.inl (by walk_at "sq")) ?_
  | refine And.intro (Or.inr (by walk_at "sq")) ?_
  | refine And.intro (by omega) ?_))

section
variable {P : Program} {w : World} {K : PySem.W.Frag} {mg : Str → Option Value} {base : Heap}
theorem wrongUp_none {ps : List Str} : ∀ {n : Nat}, wrongUp ps n = none → n ≤ ps.length → (ps.take n).Nodup ∧ ∀ z ∈ ps.take n, okN z.cps.toList = true := by
  intro n
  induction n with
  | zero => intro _ _; simp
  | succ n ih =>
    intro h hn
    have h0 : wrongUp ps n = none := by
      cases e : wrongUp ps n with
      | none => rfl
      | some r =>
        have : wrongUp ps (n + 1) = some r := wrongUp_stay e (Nat.le_succ n)
        rw [h] at this
        cases this
    obtain ⟨h1, h2⟩ := ih h0 (by omega)
    have hgi : ps[n]? = some ps[n] := List.getElem?_eq_getElem hn
    have hgd : ps.getD n default = ps[n] := by rw [List.getD_eq_getElem?_getD, hgi]; rfl
    have hb : badAt ps n = none := by
      have : wrongUp ps (n + 1) = badAt ps n := by
        show (match wrongUp ps n with | some r => some r | none => badAt ps n) = _
        rw [h0]
      rw [← this]
      exact h
    unfold badAt at hb
    rw [hgd] at hb
    have e1 : okN ps[n].cps.toList = true := by
      cases e : okN ps[n].cps.toList with
      | true => rfl
      | false =>
        rw [e] at hb
        cases hb
    rw [if_pos e1] at hb
    have e2 : ps[n] ∉ ps.take n := fun z => by
      rw [if_pos z] at hb
      cases hb
    rw [take_snoc hgi]
    refine ⟨List.nodup_append.mpr ⟨h1, by simp, fun a ha b hb e => ?_⟩, fun z hz => ?_⟩
    · rw [List.mem_singleton] at hb
      subst hb
      subst e
      exact e2 ha
    · rcases List.mem_append.mp hz with hz | hz
      · exact h2 z hz
      · rw [List.mem_singleton.mp hz]
        exact e1
theorem names_nodup {ps : List Str} (h : wrongUp ps ps.length = none) : ps.Nodup := by
  have := (wrongUp_none h (Nat.le_refl _)).1
  rwa [List.take_length] at this
theorem names_ok {ps : List Str} (h : wrongUp ps ps.length = none) : ∀ z ∈ ps, okN z.cps.toList = true := by
  have := (wrongUp_none h (Nat.le_refl _)).2
  rwa [List.take_length] at this
/-- the names in order -/
abbrev srt (ps : List Str) : List Str := ps.mergeSort leS
theorem srt_perm (ps : List Str) : (srt ps).Perm ps := List.mergeSort_perm _ _
theorem srt_len (ps : List Str) : (srt ps).length = ps.length := (srt_perm ps).length_eq
theorem srt_nodup {ps : List Str} (h : ps.Nodup) : (srt ps).Nodup := (srt_perm ps).nodup_iff.mpr h
/-- groups as things -/
abbrev asThing (g : List Str) : Option (List V) := some (g.map V.str)
theorem rows_of {ws : List Str} (hw : ws.Nodup) : ∀ {os : List (Option (List V))}, (∀ o ∈ os, isGrp ws o = true ∧ o ≠ some []) → ∃ rows : List (List Str), os = rows.map asThing ∧ ∀ g ∈ rows, g.Sublist ws ∧ g ≠ []
  | [], _ => ⟨[], rfl, fun g h => nomatch h⟩
  | o :: os, h => by
    obtain ⟨rows, e, hr⟩ := rows_of hw (os := os) fun o' ho => h o' (List.mem_cons_of_mem _ ho)
    obtain ⟨h1, h2⟩ := h o (List.mem_cons_self ..)
    obtain ⟨g, hg, rfl⟩ := (isGrp_iff hw).mp h1
    refine ⟨g :: rows, by rw [e]; rfl, fun g' hg' => ?_⟩
    rcases List.mem_cons.mp hg' with rfl | hg'
    · exact ⟨hg, fun z => h2 (by rw [z]; rfl)⟩
    · exact hr g' hg'
theorem Thing.grp {H : Hp} {v : V} {g : List Str} (h : Thing K H v (asThing g)) : GrpV K H v g := by
  generalize e : asThing g = o at h
  cases h with
  | flat f => cases e
  | lst q => cases e
  | dct q => cases e
  | @tup a xs q hi =>
    obtain rfl := Option.some.inj e
    exact ⟨a, rfl, q⟩
theorem things_grps {H : Hp} : ∀ {xs : List V} {rows : List (List Str)}, Paired (Thing K H) xs (rows.map asThing) → GrpsV K H xs rows
  | [], [], _ => .nil
  | [], _ :: _, h => by cases h
  | _ :: _, [], h => by cases h
  | x :: xs, g :: rows, h => by
    cases h with
    | cons h1 h2 => exact .cons (Thing.grp h1) (things_grps h2)
theorem things_same {H H' : Hp} {xs : List V} {os : List (Option (List V))} (h : Paired (Thing K H) xs os) (s : Same H H') : Paired (Thing K H') xs os := Paired.mapP h fun _ _ q => q.same s
/-- who is needed -/
def needL (ws : List Str) (gs : List (List Str)) : List Str := ws.filter fun n => gs.any fun g => decide (n ∈ g)
def flds (a b c : Addr) : List (Str × V) := putF "_needed" (.ref c) (putF "_groups" (.ref b) (putF "_persons" (.ref a) []))
/-- a Family stands at f -/
def FamAt (K : PySem.W.Frag) (C : Addr) (H : Hp) (f : Addr) (ws : List Str) (gs : List (List Str)) : Prop :=
  ∃ (dx a b c : Addr) (xs : List V), H f = some (.ins C dx (flds a b c)) ∧ SqT K H a (ws.map V.str) ∧ SqT K H b xs ∧ GrpsV K H xs gs ∧ SqT K H c ((needL ws gs).map V.str)
theorem FamAt.same {C : Addr} {H H' : Hp} {f : Addr} {ws : List Str} {gs : List (List Str)} (h : FamAt K C H f ws gs) (s : Same H H') : FamAt K C H' f ws gs := by
  obtain ⟨dx, a, b, c, xs, h1, h2, h3, h4, h5⟩ := h
  exact ⟨dx, a, b, c, xs, s _ _ h1, s.tupT h2, s.tupT h3, h4.same s, s.tupT h5⟩
theorem FamAt.nx {C : Addr} {H H' : Hp} {p f : Addr} {m : Nat} {ws : List Str} {gs : List (List Str)} (S : StAt H p m) (x : Nx p H H') (h : FamAt K C H f ws gs) : FamAt K C H' f ws gs := by
  obtain ⟨dx, a, b, c, xs, h1, h2, h3, h4, h5⟩ := h
  exact ⟨dx, a, b, c, xs, (x _ _ (S.sep h1 fun _ z => nomatch z)).at_, tupT_nx S x h2, tupT_nx S x h3, GrpsV.nx S x h4, tupT_nx S x h5⟩
theorem k_pg : ¬ (("_persons" : Str) = "_groups") := by decide +kernel
theorem k_pn : ¬ (("_persons" : Str) = "_needed") := by decide +kernel
theorem k_gn : ¬ (("_groups" : Str) = "_needed") := by decide +kernel
theorem flds_persons (a b c : Addr) : (flds a b c).lookup ("_persons" : Str) = some (.ref a) := by
  unfold flds
  rw [lookup_putF, if_neg k_pn, lookup_putF, if_neg k_pg, lookup_putF, if_pos rfl]
theorem flds_groups (a b c : Addr) : (flds a b c).lookup ("_groups" : Str) = some (.ref b) := by
  unfold flds
  rw [lookup_putF, if_neg k_gn, lookup_putF, if_pos rfl]
theorem flds_needed (a b c : Addr) : (flds a b c).lookup ("_needed" : Str) = some (.ref c) := by
  unfold flds
  rw [lookup_putF, if_pos rfl]
theorem flds_no (a b c : Addr) {m : Str} (h1 : ¬ m = "_persons") (h2 : ¬ m = "_groups") (h3 : ¬ m = "_needed") : (flds a b c).lookup m = none := by
  unfold flds
  rw [lookup_putF, if_neg h3, lookup_putF, if_neg h2, lookup_putF, if_neg h1]
  rfl
theorem lenP {f : Str} {y : V} {fs : List (Str × V)} {n : Nat} (h : fs.length < n) : (putF f y fs).length < n + 1 := by
  have := length_putF f y fs
  omega
/-- what is no instance stands apart from one -/
theorem tupT_ins {H H' : Hp} {f a C dx : Addr} {fs : List (Str × V)} {xs : List V} (hf : H f = some (.ins C dx fs)) (k : ∀ b o, H b = some o → b ≠ f → H' b = some o) (h : SqT K H a xs) : SqT K H' a xs := by
  rcases h with (h | ⟨o, h⟩) | h
  · exact .inl (.inl (k _ _ h (ne_of h hf fun z => by cases z)))
  · exact .inl (.inr ⟨o, k _ _ h (ne_of h hf fun z => by cases z)⟩)
  · exact .inr h
theorem grps_ins {H H' : Hp} {f C dx : Addr} {fs : List (Str × V)} {xs : List V} {gs : List (List Str)} (hf : H f = some (.ins C dx fs)) (k : ∀ b o, H b = some o → b ≠ f → H' b = some o) (h : GrpsV K H xs gs) : GrpsV K H' xs gs :=
  Paired.mapP h fun _ _ q => q.imp fun _ q => ⟨q.1, tupT_ins hf k q.2⟩
/-- what flies if the names are wrong -/
structure NamesBad (T : Txt K mg) (E : XK) (H : Hp) (ps : List Str) : Prop where
  c : badLen ps → ∀ H', Same H H' → Flies E T.C_BadCount "count" (.int (ps.length : Int)) H'
  n : ∀ z H', ¬ badLen ps → wrongUp ps ps.length = some (("name" : Str), z) → Same H H' → Flies E T.C_BadName "name" (.str z) H'
  t : ∀ z H', ¬ badLen ps → wrongUp ps ps.length = some (("twice" : Str), z) → Same H H' → Flies E T.C_DuplicateName "name" (.str z) H'
/-- what flies if the groups are wrong -/
structure GroupsBad (T : Txt K mg) (E : XK) (H : Hp) (ws : List Str) (xs : List V) (os : List (Option (List V))) : Prop where
  n : os = [] → ∀ H', Same H H' → E (.ref T.C_NoGroup) none H'
  g : ∀ (i : Nat) (x : V) (o : Option (List V)), xs[i]? = some x → os[i]? = some o → (∀ j o', j < i → os[j]? = some o' → isGrp ws o' = true ∧ o' ≠ some []) → ¬ (isGrp ws o = true ∧ o ≠ some []) → ∀ H', Same H H' → Flies E T.C_BadGroup "value" x H'
/-- Family.__init__ -/
def spFam (T : Txt K mg) : Sp := fun vs H Q E => ∃ (f p g dx : Addr) (ps : List Str) (xs : List V) (os : List (Option (List V))), vs = [.ref f, .ref p, .ref g] ∧ H f = some (.ins T.C_Family dx []) ∧
  (SqL K H p (ps.map V.str) ∨ SqT K H p (ps.map V.str)) ∧ ps.length ≤ 90000 ∧ (∀ z ∈ ps, z.length ≤ 100000) ∧ (SqL K H g xs ∨ SqT K H g xs) ∧ Paired (Thing K H) xs os ∧ os.length ≤ 100000 ∧ NamesBad T E H ps ∧
  (¬ badLen ps → wrongUp ps ps.length = none → GroupsBad T E H (srt ps) xs os) ∧
  (¬ badLen ps → wrongUp ps ps.length = none → ∀ rows : List (List Str), os = rows.map asThing → rows ≠ [] → (∀ g ∈ rows, g.Sublist (srt ps) ∧ g ≠ []) → ∀ H', (∀ b o, H b = some o → b ≠ f → H' b = some o) → FamAt K T.C_Family H' f (srt ps) (leastP (srt ps) rows) → Q .non H')
theorem ok_Family__init_N (T : Txt K mg) : FnOk P w K mg base (L2N.CX P w) 4 T.f_Family__init_ T.fd_Family__init_ ["self", "persons", "groups"] (spFam T) := by
  refine OS.Fun.okN T.F_Family__init_ sc_Family__init_ (fun vs H Q E h => ?_) (fun cdv A outer s H vs Q E hr h => ?_)
  · obtain ⟨f, p, g, dx, ps, xs, os, rfl, _⟩ := h
    rfl
  · obtain ⟨f, p, g, dx, ps, xs, os, rfl, hf, hp, hl, hzl, hg, ho, hol, nb, gb, q⟩ := h
    refine ⟨_, (pss_cons (ps_set (i := 3) sc_Family__init_.nd rfl (Or.inl rfl) (pe_call (ok_checked_personsN T) (hr.mono (by decide)) (by rfl) T.g_checked_persons T.F_checked_persons.kp T.b_checked_persons .nil (L2N.passes_call (L2N.takes_of rfl rfl rfl rfl) (fun _ _ _ _ h => h)) (pa_cons (pv 1) pa_nil)))
    (pss_cons (ps_expr (pe_call (ok_check_groupsN T) (hr.mono (by decide)) (by rfl) T.g_check_groups T.F_check_groups.kp T.b_check_groups .nil (L2N.passes_call (L2N.takes_of rfl rfl rfl rfl) (fun _ _ _ _ h => h)) (pa_cons (pv 3) (pa_cons (pv 2) pa_nil))))
    (pss_cons (ps_set (i := 4) sc_Family__init_.nd rfl (Or.inr rfl) (pe_call (ok_least_groups T) (hr.mono (by decide)) (by rfl) T.g_least_groups T.F_least_groups.kp T.b_least_groups .nil pass0 (pa_cons (pv 3) (pa_cons (pv 2) pa_nil))))
    (pss_cons (ps_fld (pv 0) (pv 3) rfl)
    (pss_cons (ps_fld (pv 0) (pv 4) rfl)
    (pss_one (ps_fld (pv 0) (pe_callTy (T := "tuple") call_tuple_ofL (by rfl) T.n_tuple (by decide +kernel) (pa_cons (pe_lc (own := [("name", 5)]) (g := gName 5) rfl sc_Family__init_.nd (pi_tup (pv 3)) (blkOk_by (own := [("name", 5)]) (N := N_Family__init_) (sc := defScope s_Family__init_) (by decide +kernel)) (fun _ _ _ _ _ => (pg_name (i := 5) sc_Family__init_.nd rfl (Or.inr rfl))) (fun _ _ _ _ _ => (pts_one (pt_val (pe_callB (id := "any") (r := rAny K) (cr_any rfl) (by rfl) T.n_any (by decide +kernel) (pa_cons (pe_lc (own := [("group", 6)]) (wi := iTup K _) (g := gName 6) (tt := tYes) rfl sc_Family__init_.nd (pi_tup (pv 4)) (blkOk_by (own := [("group", 6)]) (N := N_Family__init_) (sc := { kind := ScopeKind.function, names := [(".0", NameKind.local), ("name", NameKind.cell), ("any", NameKind.globalImplicit), ("least", NameKind.cell)], isGenerator := false, isCoroutine := false }) (by decide +kernel)) (fun _ _ _ _ _ => (pg_name (i := 6) sc_Family__init_.nd rfl (Or.inl rfl))) (fun _ _ _ _ _ => pts_nil) (fun _ _ _ _ _ => (pe_cmpR (r := rIn K false) op_in_seq (pv 5) (pv 6) (by rfl)))) pa_nil))))) (fun _ _ _ _ _ => (pv 5))) pa_nil)) rfl))))))), ?_⟩
    walk_at "rd"
    refine ⟨nb.c, nb.n, nb.t, fun hb hw a H1 s1 ha => ?_⟩
    have hg1 : SqL K H1 g xs ∨ SqT K H1 g xs := hg.elim (fun h => .inl (s1.seq h)) fun h => .inr (s1.tupT h)
    have ho1 := things_same ho s1
    have gb1 := gb hb hw
    have hsl : (srt ps).length ≤ 900 := by rw [srt_len]; omega
    have hs8 : (srt ps).length ≤ 8 := by rw [srt_len]; omega
    have hwn := srt_nodup (names_nodup hw)
    have q1 := q hb hw
    clear q gb nb
    change SqT K H1 a ((srt ps).map V.str) at ha
    generalize srt ps = ws at *
    walk_at "rd"
    refine ⟨fun e H' s => gb1.n e H' (s1.trans s), fun i x o h1 h2 h3 h4 H' s => gb1.g i x o h1 h2 h3 h4 H' (s1.trans s), fun hne hgood H2 s2 => ?_⟩
    obtain ⟨rows, rfl, hrows⟩ := rows_of hwn hgood
    have hne' : rows ≠ [] := fun z => hne (by rw [z]; rfl)
    have q2 := q1 rows rfl hne' hrows
    have hgr := (things_grps ho1).same s2
    have ha2 := s2.tupT ha
    have hg2 : SqL K H2 g xs ∨ SqT K H2 g xs := hg1.elim (fun h => .inl (s2.seq h)) fun h => .inr (s2.tupT h)
    have s02 := s1.trans s2
    clear q1 gb1 ho ho1 hg1 hg
    walk_at "rd"
    intro c H3 ys s3 hc hys
    have hf3 := (s02.trans s3) _ _ hf
    have ha3 := s3.tupT ha2
    have s03 := s02.trans s3
    walk_at "rd"
    refine ⟨T.cl_Family, T.na_persons, by decide, ?_⟩
    refine ⟨_, rfl, _, rfl, f, T.C_Family, dx, _, rfl, upd_same, T.cl_Family, T.na_groups, Nat.lt_of_lt_of_le (lenP (show ([] : List (Str × V)).length < 1 by decide)) (by decide), ?_⟩
    have k5 : ∀ b o, H3 b = some o → b ≠ f → (upd (upd H3 f (HO.ins T.C_Family dx (putF "_persons" (V.ref a) []))) f (HO.ins T.C_Family dx (putF "_groups" (V.ref c) (putF "_persons" (V.ref a) [])))) b = some o := fun b o e h => by
      rw [upd_ne h, upd_ne h]
      exact e
    have hf5 : (upd (upd H3 f (HO.ins T.C_Family dx (putF "_persons" (V.ref a) []))) f (HO.ins T.C_Family dx (putF "_groups" (V.ref c) (putF "_persons" (V.ref a) [])))) f = some (HO.ins T.C_Family dx (putF "_groups" (V.ref c) (putF "_persons" (V.ref a) []))) := upd_same
    generalize upd (upd H3 f (HO.ins T.C_Family dx (putF "_persons" (V.ref a) []))) f (HO.ins T.C_Family dx (putF "_groups" (V.ref c) (putF "_persons" (V.ref a) []))) = H5 at k5 hf5 ⊢
    have ha5 := tupT_ins hf3 k5 ha3
    have hc5 := tupT_ins hf3 k5 hc
    have hys5 := grps_ins hf3 k5 hys
    clear ha3 hc hys ha2 hg2 ha hgr
    have hgl : (leastP ws rows).length ≤ 256 := Nat.le_trans (List.length_filter_le _ _) (Nat.le_trans (List.length_filter_le _ _) (by rw [(allG_perm ws).length_eq]; exact sets_small hs8))
    walk_at "rd"
    refine ⟨⟨_, ha5⟩, fun D hD => ?_⟩
    refine lc_fn (walk_tup (xs := ws.map V.str)) (xs := ws) (by simp) (by simp; omega) (fun n => (leastP ws rows).any fun g => decide (n ∈ g)) V.str hD (fun H1 s => s.tupT ha5) ?_ ?_
    · intro i n x H6 H7 Qk Qn hn sm hy hk hn'
      obtain ⟨rfl, hx⟩ := hy
      obtain rfl := strs_get hx hn
      have hc6 := sm.tupT hc5
      have hys6 := hys5.same sm
      walk_at "rd"
      refine ⟨⟨_, hc6⟩, fun D2 hD2 => ?_⟩
      refine lc_all (walk_tup (xs := ys)) (xs := leastP ws rows) (paired_len hys6).symm (by rw [paired_len hys6]; omega) (fun g => V.bl (decide (n ∈ g))) hD2 (fun H1 s => s.tupT hc6) ?_ ?_
      · intro j g y H8 H9 Qk2 hg sm8 hy hk2
        obtain ⟨rfl, hy⟩ := hy
        obtain ⟨g', h1, h2⟩ := OS.paired_get hys6 hy
        obtain rfl : g' = g := Option.some.inj (h1.symm.trans hg)
        obtain ⟨b, rfl, hb⟩ := h2.same sm8
        walk_at "rd"
        refine ⟨strs_flat g', ?_⟩
        rw [inV_strs]
        exact hk2 _ (Same.refl _)
      · intro H8 sm8 hD8
        refine ⟨D2, (leastP ws rows).map (fun g => decide (n ∈ g)), rfl, SqL.of (by rw [List.map_map]; exact hD8), ?_⟩
        rw [List.any_map]
        walk_at "rd"
        refine ite2 (fun e => ?_) (fun e => ?_)
        · walk_at "rd"
          exact hk e _ sm8
        · exact hn' ((Bool.not_eq_true _).mp e) _ sm8
    · intro H6 sm hD6
      refine ⟨D, _, rfl, SqL.of hD6, fun t H7 n7 s7 ht => ?_⟩
      have s57 := sm.trans s7
      have hf7 := s57 _ _ hf5
      walk_at "rd"
      refine ⟨T.cl_Family, T.na_needed, Nat.lt_of_lt_of_le (lenP (lenP (show ([] : List (Str × V)).length < 1 by decide))) (by decide), ?_⟩
      have k8 : ∀ b o, H7 b = some o → b ≠ f → (upd H7 f (HO.ins T.C_Family dx (flds a c t))) b = some o := fun b o e h => by
        rw [upd_ne h]
        exact e
      refine q2 _ (fun b o e h => k8 b o (s57 _ _ (k5 b o (s03 b o e) h)) h) ⟨dx, a, c, t, ys, upd_same, tupT_ins hf7 k8 (s57.tupT ha5), tupT_ins hf7 k8 (s57.tupT hc5), grps_ins hf7 k8 (hys5.same s57), tupT_ins hf7 k8 (SqT.of ht)⟩
theorem ok_Family__init_ (T : Txt K mg) : FnOk P w K mg base (L2.CX P w) 4 T.f_Family__init_ T.fd_Family__init_ ["self", "persons", "groups"] (spFam T) := fn_weak (ok_Family__init_N T)
end
end P

set_option Elab.async false
set_option linter.all false
set_option maxRecDepth 100000
set_option maxHeartbeats 4000000
namespace P
open PySem PySem.Spec PyProof.Rows L2 OS
/-! short ways: "rd" opens a reading as far as equations go; "sep" finds what stands apart from the state; "sq" a list that is read; "nx" two heaps -/
local macro_rules | `(tactic| walk_at "sep") => `(tactic| first | assumption | (refine (by assumption : Nx _ _ _) _ _ ?_; walk_at "sep"))
local macro_rules | `(tactic| walk_at "sq") => `(tactic| first | assumption | exact .inl (.inl (by assumption)) | exact Sep.sq (by walk_at "sep") | exact Sep.st (by walk_at "sep") | exact .inl (.inl upd_same))
local macro_rules | `(tactic| walk_at "rd") => `(tactic| repeat (first
  | refine And.intro rfl ?_
  | apply Exists.intro
  | refine And.intro (by assumption) ?_
  | refine And.intro (DrawOk.mk (by omega) (by omega) (by omega)) ?_
  | refine And.intro at0 ?_
  | refine And.intro ⟨_, rfl⟩ ?_
  | refine And.intro (by walk_at "sq") ?_
  | refine And.intro (Or.inl (by walk_at "sq")) ?_
  | refine And.intro (Or.inr (by walk_at "sq")) ?_
  | refine And.intro (by omega) ?_))

section
variable {P : Program} {w : World} {K : PySem.W.Frag} {mg : Str → Option Value} {base : Heap}
theorem ok_Family_persons (T : Txt K mg) : FnOk P w K mg base CX0 1 T.f_Family_persons T.fd_Family_persons ["self"] (getSp T.C_Family "_persons") := by
  refine T.F_Family_persons.ok sc_Family_persons (fun vs H Q E h => ?_) (fun cdv A outer s H vs Q E hr h => ?_)
  · obtain ⟨a, dx, fs, v, e, _⟩ := h
    rw [e]
    rfl
  · obtain ⟨a, dx, fs, v, e, ea, l, q⟩ := h
    subst e
    refine ⟨_, (pss_one (ps_ret (pe_fld (pv 0) rfl))), ?_⟩
    exact ⟨_, rfl, a, T.C_Family, dx, fs, v, rfl, ea, T.cl_Family, T.na_persons, l, q⟩
theorem ok_Family_groups (T : Txt K mg) : FnOk P w K mg base CX0 1 T.f_Family_groups T.fd_Family_groups ["self"] (getSp T.C_Family "_groups") := by
  refine T.F_Family_groups.ok sc_Family_groups (fun vs H Q E h => ?_) (fun cdv A outer s H vs Q E hr h => ?_)
  · obtain ⟨a, dx, fs, v, e, _⟩ := h
    rw [e]
    rfl
  · obtain ⟨a, dx, fs, v, e, ea, l, q⟩ := h
    subst e
    refine ⟨_, (pss_one (ps_ret (pe_fld (pv 0) rfl))), ?_⟩
    exact ⟨_, rfl, a, T.C_Family, dx, fs, v, rfl, ea, T.cl_Family, T.na_groups, l, q⟩
theorem ok_Family_needed (T : Txt K mg) : FnOk P w K mg base CX0 1 T.f_Family_needed T.fd_Family_needed ["self"] (getSp T.C_Family "_needed") := by
  refine T.F_Family_needed.ok sc_Family_needed (fun vs H Q E h => ?_) (fun cdv A outer s H vs Q E hr h => ?_)
  · obtain ⟨a, dx, fs, v, e, _⟩ := h
    rw [e]
    rfl
  · obtain ⟨a, dx, fs, v, e, ea, l, q⟩ := h
    subst e
    refine ⟨_, (pss_one (ps_ret (pe_fld (pv 0) rfl))), ?_⟩
    exact ⟨_, rfl, a, T.C_Family, dx, fs, v, rfl, ea, T.cl_Family, T.na_needed, l, q⟩
/-- family.opens(x) -/
def spFOpens (T : Txt K mg) : Sp := fun vs H Q E => ∃ (f : Addr) (x : V) (ws : List Str) (gs : List (List Str)) (o : Option (List V)), vs = [.ref f, x] ∧ FamAt K T.C_Family H f ws gs ∧ ws.length ≤ 8 ∧ ws.Nodup ∧ gs.length ≤ 900 ∧ (∀ g ∈ gs, g.length ≤ 900) ∧ Thing K H x o ∧
  (isGrp ws o = false → ∀ H', Same H H' → Flies E T.C_BadGroup "value" x H') ∧
  (∀ g : List Str, o = asThing g → g.Sublist ws → ∀ H', Same H H' → Q (.bl (gs.any fun l => inside l g)) H')
theorem ok_Family_opens (T : Txt K mg) : FnOk P w K mg base (L2.CX P w) 3 T.f_Family_opens T.fd_Family_opens ["self", "group"] (spFOpens T) := by
  refine T.F_Family_opens.okX sc_Family_opens (fun vs H Q E h => ?_) (fun cdv A outer s H vs Q E hr h => ?_)
  · obtain ⟨f, x, ws, gs, o, rfl, _⟩ := h
    rfl
  · obtain ⟨f, x, ws, gs, o, rfl, hf, hl, hwn, hgl, hgl2, hx, qb, q⟩ := h
    obtain ⟨dx, a, b, c, ys, hfi, ha, hb, hys, hc⟩ := hf
    have cl := T.cl_Family
    have n1 := T.na_persons
    have n2 := T.na_groups
    have l1 := flds_persons a b c
    have l2 := flds_groups a b c
    have hl3 : ws.length ≤ 1000 := by omega
    refine ⟨_, (pss_cons (ps_if (pt_not (pt_val (pe_call (ok_is_group T) (hr.mono (by decide)) (by rfl) T.g_is_group T.F_is_group.kp T.b_is_group .nil pass0 (pa_cons (pe_fld (pv 0) rfl) (pa_cons (pv 1) pa_nil)))))
      (pss_one (ps_raise rfl (takes_of rfl rfl rfl rfl) (pmk_err T.er_BadGroup T.iC_BadGroup T.tI_BadGroup (ok_BadGroup__init_ T) (hr.mono (by decide)) T.b_BadGroup__init_ (by rfl) T.g_BadGroup (pv 1)))) pss_nil)
    (pss_one (ps_ret (pe_callB (id := "any") (r := rAny K) (cr_any rfl) (by rfl) T.n_any (by decide +kernel) (pa_cons (pe_lc (own := [("least", 2)]) (g := gName 2) (tt := tYes) rfl sc_Family_opens.nd (pi_tup (pe_fld (pv 0) rfl)) (blkOk_by (own := [("least", 2)]) (N := N_Family_opens) (sc := defScope s_Family_opens) (by decide +kernel)) (fun _ _ _ _ _ => (pg_name (i := 2) sc_Family_opens.nd rfl (Or.inl rfl))) (fun _ _ _ _ _ => pts_nil) (fun _ _ _ _ _ => (pe_call (ok_contains T) (hr.mono (by decide)) (by rfl) T.g_contains T.F_contains.kp T.b_contains .nil pass0 (pa_cons (pv 1) (pa_cons (pv 2) pa_nil))))) pa_nil))))), ?_⟩
    walk_at "rd"
    intro H1 s1
    walk_at "rd"
    refine ite2 (fun e1 => ?_) (fun e1 => ?_)
    · have e2 : isGrp ws o = false := (Bool.not_eq_true' _).mp e1
      walk_at "rd"
      exact qb e2 H1 s1
    · have e2 : isGrp ws o = true := by simpa using e1
      obtain ⟨g, hg, rfl⟩ := (isGrp_iff hwn).mp e2
      obtain ⟨xa, rfl, hxa⟩ := Thing.grp (hx.same s1)
      have hf1 := s1 _ _ hfi
      have hb1 := s1.tupT hb
      have hys1 := hys.same s1
      walk_at "rd"
      refine ⟨⟨_, hb1⟩, fun D hD => ?_⟩
      refine lc_all (walk_tup (xs := ys)) (xs := gs) (paired_len hys1).symm (by rw [paired_len hys1]; omega) (fun l => V.bl (inside l g)) hD (fun H1 s => s.tupT hb1) ?_ ?_
      · intro j l y H8 H9 Qk2 hgj sm8 hy hk2
        obtain ⟨rfl, hy⟩ := hy
        obtain ⟨l', h1, h2⟩ := OS.paired_get hys1 hy
        obtain rfl : l' = l := Option.some.inj (h1.symm.trans hgj)
        obtain ⟨bb, rfl, hbb⟩ := h2.same sm8
        have hxa8 := sm8.tupT hxa
        have hll : l'.length ≤ 1000 := Nat.le_trans (hgl2 _ (List.mem_of_getElem? hgj)) (by decide)
        walk_at "rd"
        exact hk2
      · intro H8 sm8 hD8
        refine ⟨D, gs.map (fun l => inside l g), rfl, SqL.of (by rw [List.map_map]; exact hD8), ?_⟩
        rw [List.any_map]
        exact q g rfl hg H8 (s1.trans sm8)
/-- what stands at a Family is one -/
theorem fam_ty (T : Txt K mg) {H : Hp} {f : Addr} {ws : List Str} {gs : List (List Str)} (h : FamAt K T.C_Family H f ws gs) : TyX K H (.ref f) (.ref T.C_Family) := by
  obtain ⟨dx, a, b, c, xs, hf, _⟩ := h
  exact .base (.ins hf T.cl_Family T.fc_Family T.sp_cls T.tk_cls T.mro_Family)
/-- family == other -/
def spFEq (T : Txt K mg) : Sp := fun vs H Q _ => ∃ (f : Addr) (y : V) (ws : List Str) (gs : List (List Str)), vs = [.ref f, y] ∧ FamAt K T.C_Family H f ws gs ∧
  ((∃ (f' : Addr) (ws' : List Str) (gs' : List (List Str)), y = .ref f' ∧ FamAt K T.C_Family H f' ws' gs' ∧ ∀ H', Same H H' → Q (.bl (decide (ws = ws') && decide (gs = gs'))) H') ∨
   (∃ t : Value, TyX K H y t ∧ PySem.W.kitOne K t (.ref T.C_Family) = some false ∧ ∀ H', Same H H' → Q (.bl false) H'))
theorem ok_Family_eq_ (T : Txt K mg) : FnOk P w K mg base CX0 2 T.f_Family__eq_ T.fd_Family__eq_ ["self", "other"] (spFEq T) := by
  refine T.F_Family__eq_.ok sc_Family__eq_ (fun vs H Q E h => ?_) (fun cdv A outer s H vs Q E hr h => ?_)
  · obtain ⟨f, y, ws, gs, rfl, _⟩ := h
    rfl
  · obtain ⟨f, y, ws, gs, rfl, hf, h⟩ := h
    have cl := T.cl_Family
    have n1 := T.na_persons
    have n2 := T.na_groups
    refine ⟨_, (pss_one (ps_ret (pe_and (pe_callB (id := "isinstance") (r := rIsi K) call_isi (by rfl) T.n_isinstance (by decide +kernel) (pa_cons (pv 1) (pa_cons (pe_glob (v := .ref T.C_Family) rfl T.g_Family rfl) pa_nil))) (pe_and (pe_cmpR (r := rEqP K) (op_eqP (room65 hr)) (pe_fld (pv 0) rfl) (pe_fld (pv 1) rfl) (nomark _)) (pe_one (pe_cmpR (r := rEqP K) (op_eqP (room65 hr)) (pe_fld (pv 0) rfl) (pe_fld (pv 1) rfl) (nomark _))))))), ?_⟩
    rcases h with ⟨f', ws', gs', rfl, hf', q⟩ | ⟨t, ht, hk, q⟩
    · have ty := fam_ty T hf'
      have ki := T.ki_Family
      obtain ⟨dx, a, b, c, ys, hfi, ha, hb, hys, hc⟩ := hf
      obtain ⟨dx', a', b', c', ys', hfi', ha', hb', hys', hc'⟩ := hf'
      have l1 := flds_persons a b c
      have l2 := flds_groups a b c
      have l1' := flds_persons a' b' c'
      have l2' := flds_groups a' b' c'
      have d1 : Dp K H (.ref a) (encG ws) := .tup ha (dp_all (fun z => .str z) ws)
      have d1' : Dp K H (.ref a') (encG ws') := .tup ha' (dp_all (fun z => .str z) ws')
      have d2 : Dp K H (.ref b) (.tuple (gs.map encG)) := .tup hb hys.dps
      have d2' : Dp K H (.ref b') (.tuple (gs'.map encG)) := .tup hb' hys'.dps
      walk_at "rd"
      refine ⟨.own _, ty, ki, ?_⟩
      walk_at "rd"
      refine ⟨by rw [depth_G]; decide, ?_⟩
      rw [eqv_G]
      walk_at "rd"
      refine ite2 (fun e => ?_) (fun e => ?_)
      · have e1 : ws = ws' := of_decide_eq_true e
        walk_at "rd"
        refine ⟨?_, ?_⟩
        · have := depth_Gs gs
          simp only [PyData.depth]
          omega
        · rw [show PyData.eqv (.tuple (gs.map encG)) (.tuple (gs'.map encG)) = decide (gs = gs') from eqv_Gs gs gs']
          have := q H (Same.refl H)
          rw [decide_eq_true e1, Bool.true_and] at this
          exact this
      · have := q H (Same.refl H)
        rw [(Bool.not_eq_true _).mp e, Bool.false_and] at this
        exact this
    · walk_at "rd"
      refine ⟨.own _, ht, hk, ?_⟩
      walk_at "rd"
      exact q H (Same.refl H)
theorem badAt_none {ps : List Str} (h1 : ps.Nodup) (h2 : ∀ z ∈ ps, okN z.cps.toList = true) : ∀ {n : Nat}, n ≤ ps.length → wrongUp ps n = none := by
  intro n
  induction n with
  | zero => intro _; rfl
  | succ n ih =>
    intro hn
    show (match wrongUp ps n with | some r => some r | none => badAt ps n) = none
    rw [ih (by omega)]
    have hgi : ps[n]? = some ps[n] := List.getElem?_eq_getElem hn
    have hgd : ps.getD n default = ps[n] := by rw [List.getD_eq_getElem?_getD, hgi]; rfl
    show badAt ps n = none
    unfold badAt
    rw [hgd, if_pos (h2 _ (List.getElem_mem hn)), if_neg]
    intro hm
    obtain ⟨j, hj, e⟩ := List.getElem_of_mem hm
    rw [List.getElem_take] at e
    have hj' : j < n := by
      rw [List.length_take] at hj
      omega
    exact (List.pairwise_iff_getElem.mp h1) j n (by omega) hn hj' e
theorem leS_total : PySem.W.TotalLe leS := PySem.W.sortLe_total _ _ _
theorem srt_srt (ps : List Str) : srt (srt ps) = srt ps := List.mergeSort_of_pairwise (PySem.W.sort_pairwise leS_total ps)
theorem srt_fine {ps : List Str} (h : wrongUp ps ps.length = none) : wrongUp (srt ps) (srt ps).length = none :=
  badAt_none (srt_nodup (names_nodup h)) (fun z hz => names_ok h z ((srt_perm ps).mem_iff.mp hz)) (Nat.le_refl _)
theorem grps_things {H : Hp} : ∀ {xs : List V} {rows : List (List Str)}, GrpsV K H xs rows → Paired (Thing K H) xs (rows.map asThing)
  | _, _, .nil => .nil
  | _, _, .cons (b := g) ⟨a, e, q⟩ t => .cons (by
    subst e
    refine .tup q fun v hv => ?_
    obtain ⟨z, _, rfl⟩ := List.mem_map.mp hv
    exact .flat rfl) (grps_things t)
end
end P

set_option Elab.async false
set_option linter.all false
set_option maxRecDepth 100000
set_option maxHeartbeats 4000000
namespace P
open PySem PySem.Spec PyProof.Rows L2 OS
section
variable {P : Program} {w : World} {K : PySem.W.Frag} {mg : Str → Option Value} {base : Heap}
/-! ### the groups that open -/
/-- a group opens by these rows -/
def opL (rows : List (List Str)) (g : List Str) : Bool := rows.any fun o => inside o g
def restG (ws g : List Str) : List Str := ws.filter fun n => !decide (n ∈ g)
def mrg (ws a b : List Str) : List Str := ws.filter fun n => decide (n ∈ a) || decide (n ∈ b)
/-- the groups of ws for which P holds -/
def upG (ws : List Str) (P : List Str → Bool) : List (List Str) := (allG ws).filter P
theorem opL_iff {rows : List (List Str)} {g : List Str} : opL rows g = true ↔ ∃ o ∈ rows, ∀ n ∈ o, n ∈ g := by
  unfold opL
  rw [List.any_eq_true]
  exact ⟨fun ⟨o, h1, h2⟩ => ⟨o, h1, inside_iff.mp h2⟩, fun ⟨o, h1, h2⟩ => ⟨o, h1, inside_iff.mpr h2⟩⟩
theorem mem_restG {ws g : List Str} {n : Str} : n ∈ restG ws g ↔ n ∈ ws ∧ n ∉ g := by
  unfold restG
  rw [List.mem_filter]
  simp
theorem mem_mrg {ws a b : List Str} {n : Str} : n ∈ mrg ws a b ↔ n ∈ ws ∧ (n ∈ a ∨ n ∈ b) := by
  unfold mrg
  rw [List.mem_filter]
  simp
theorem restG_sub (ws g : List Str) : (restG ws g).Sublist ws := List.filter_sublist
theorem mrg_sub (ws a b : List Str) : (mrg ws a b).Sublist ws := List.filter_sublist
theorem mem_upG {ws g : List Str} {P : List Str → Bool} : g ∈ upG ws P ↔ g.Sublist ws ∧ P g = true := by
  unfold upG
  rw [List.mem_filter, mem_allG]
theorem upG_sub {ws : List Str} {P : List Str → Bool} : ∀ g ∈ upG ws P, g.Sublist ws := fun g h => (mem_upG.mp h).1
theorem same_of {ps a b : List Str} (hp : ps.Nodup) (ha : a.Sublist ps) (hb : b.Sublist ps) (h1 : ∀ n ∈ a, n ∈ b) (h2 : ∀ n ∈ b, n ∈ a) : a = b :=
  (sub_of_inside hp ha hb h1).eq_of_length_le (sub_of_inside hp hb ha h2).length_le
theorem mem_given {ps : List Str} {rows : List (List Str)} (hr : ∀ g ∈ rows, g.Sublist ps) {g : List Str} : g ∈ givenP ps rows ↔ g ∈ rows := by
  unfold givenP
  rw [List.mem_filter, mem_allG, decide_eq_true_eq]
  exact ⟨fun h => h.2, fun h => ⟨hr g h, h⟩⟩
theorem least_sub (ps : List Str) (rows : List (List Str)) : (leastP ps rows).Sublist (allG ps) := List.filter_sublist.trans List.filter_sublist
theorem mem_least {ps : List Str} {rows : List (List Str)} (hr : ∀ g ∈ rows, g.Sublist ps) {g : List Str} : g ∈ leastP ps rows ↔ g ∈ rows ∧ ∀ o ∈ rows, (∀ n ∈ o, n ∈ g) → o = g := by
  unfold leastP
  rw [List.mem_filter, mem_given hr, Bool.not_eq_true', List.any_eq_false]
  refine and_congr Iff.rfl ⟨fun h o ho hin => ?_, fun h o ho => ?_⟩
  · have := h o ((mem_given hr).mpr ho)
    rw [Bool.and_eq_true, decide_eq_true_eq, inside_iff] at this
    exact Classical.byContradiction fun z => this ⟨z, hin⟩
  · rw [Bool.and_eq_true, decide_eq_true_eq, inside_iff]
    rintro ⟨h1, h2⟩
    exact h1 (h o ((mem_given hr).mp ho) h2)
theorem least_in {ps : List Str} {rows : List (List Str)} (hr : ∀ g ∈ rows, g.Sublist ps) {g : List Str} (h : g ∈ leastP ps rows) : g ∈ rows := ((mem_least hr).mp h).1
theorem least_below {ps : List Str} {rows : List (List Str)} (hp : ps.Nodup) (hr : ∀ g ∈ rows, g.Sublist ps) : ∀ (n : Nat) (o : List Str), o.length ≤ n → o ∈ rows → ∃ l ∈ leastP ps rows, ∀ n ∈ l, n ∈ o := by
  intro n
  induction n with
  | zero =>
    intro o hl ho
    refine ⟨o, (mem_least hr).mpr ⟨ho, fun q hq h2 => ?_⟩, fun n h => h⟩
    have hs := sub_of_inside hp (hr q hq) (hr o ho) h2
    exact hs.eq_of_length (by have := hs.length_le; omega)
  | succ n ih =>
    intro o hl ho
    by_cases h : ∃ q ∈ rows, q ≠ o ∧ ∀ n ∈ q, n ∈ o
    · obtain ⟨q, hq, h1, h2⟩ := h
      have hs := sub_of_inside hp (hr q hq) (hr o ho) h2
      have hlt : q.length ≠ o.length := fun z => h1 (hs.eq_of_length z)
      obtain ⟨l, h3, h4⟩ := ih q (by have := hs.length_le; omega) hq
      exact ⟨l, h3, fun n hn => h2 n (h4 n hn)⟩
    · exact ⟨o, (mem_least hr).mpr ⟨ho, fun q hq h2 => Classical.byContradiction fun h1 => h ⟨q, hq, h1, h2⟩⟩, fun n h => h⟩
theorem least_any {ps : List Str} {rows : List (List Str)} (hp : ps.Nodup) (hr : ∀ g ∈ rows, g.Sublist ps) (g : List Str) : opL (leastP ps rows) g = opL rows g := by
  rw [Bool.eq_iff_iff, opL_iff, opL_iff]
  constructor
  · rintro ⟨l, h1, h2⟩
    exact ⟨l, least_in hr h1, h2⟩
  · rintro ⟨o, h1, h2⟩
    obtain ⟨l, h3, h4⟩ := least_below hp hr o.length o (Nat.le_refl _) h1
    exact ⟨l, h3, fun n hn => h2 n (h4 n hn)⟩
/-- the least groups are told by what opens -/
theorem least_op {ps : List Str} {A B : List (List Str)} (hp : ps.Nodup) (hA : ∀ g ∈ A, g.Sublist ps) (hB : ∀ g ∈ B, g.Sublist ps) (h : ∀ g, g.Sublist ps → opL A g = opL B g) : leastP ps A = leastP ps B := by
  have half : ∀ {A B : List (List Str)}, (∀ g ∈ A, g.Sublist ps) → (∀ g ∈ B, g.Sublist ps) → (∀ g, g.Sublist ps → opL A g = opL B g) → ∀ g, g ∈ leastP ps A → g ∈ leastP ps B := by
    intro A B hA hB h g hg
    obtain ⟨h1, h2⟩ := (mem_least hA).mp hg
    have low : ∀ o ∈ B, (∀ n ∈ o, n ∈ g) → o = g := fun o ho hin => by
      obtain ⟨a, ha, ha2⟩ := opL_iff.mp ((h o (hB o ho)).trans (opL_iff.mpr ⟨o, ho, fun n hn => hn⟩))
      have e := h2 a ha fun n hn => hin n (ha2 n hn)
      subst e
      exact same_of hp (hB o ho) (hA a ha) hin ha2
    obtain ⟨b, hb, hb2⟩ := opL_iff.mp ((h g (hA g h1)).symm.trans (opL_iff.mpr ⟨g, h1, fun n hn => hn⟩))
    exact (mem_least hB).mpr ⟨low b hb hb2 ▸ hb, low⟩
  have sA := least_sub ps A
  have sB := least_sub ps B
  exact orderly_one ((sorted_allG ps).sublist sA) ((sorted_allG ps).sublist sB) ((nodup_allG hp).sublist sA) ((nodup_allG hp).sublist sB) fun g => ⟨half hA hB h g, half hB hA (fun g hg => (h g hg).symm) g⟩
/-- groups that keep opening when persons come in -/
def Mono (ws : List Str) (P : List Str → Bool) : Prop := ∀ a b, a.Sublist ws → b.Sublist ws → (∀ n ∈ a, n ∈ b) → P a = true → P b = true
theorem op_up {ws : List Str} {P : List Str → Bool} (hm : Mono ws P) {g : List Str} (hg : g.Sublist ws) : opL (upG ws P) g = P g := by
  rw [Bool.eq_iff_iff, opL_iff]
  exact ⟨fun ⟨o, h1, h2⟩ => hm o g (upG_sub o h1) hg h2 (mem_upG.mp h1).2, fun h => ⟨g, mem_upG.mpr ⟨hg, h⟩, fun n hn => hn⟩⟩
theorem opL_mono {rows : List (List Str)} {a b : List Str} (h : ∀ n ∈ a, n ∈ b) (e : opL rows a = true) : opL rows b = true := by
  obtain ⟨o, h1, h2⟩ := opL_iff.mp e
  exact opL_iff.mpr ⟨o, h1, fun n hn => h n (h2 n hn)⟩
/-! ### persons and rows that make a family -/
structure Fine (ws : List Str) : Prop where
  one : 1 ≤ ws.length
  five : ws.length ≤ 5
  ok : wrongUp ws ws.length = none
  srt : srt ws = ws
  small : ∀ z ∈ ws, z.length ≤ 1000
structure RowsOk (ws : List Str) (rows : List (List Str)) : Prop where
  ne : rows ≠ []
  sub : ∀ g ∈ rows, g.Sublist ws
  full : ∀ g ∈ rows, g ≠ []
theorem Fine.nd {ws : List Str} (h : Fine ws) : ws.Nodup := names_nodup h.ok
theorem RowsOk.least {ws : List Str} {rows : List (List Str)} (hp : ws.Nodup) (h : RowsOk ws rows) : RowsOk ws (leastP ws rows) where
  ne := fun z => by
    cases e : rows with
    | nil => exact h.ne e
    | cons o _ =>
      obtain ⟨l, h1, _⟩ := least_below hp h.sub o.length o (Nat.le_refl _) (by rw [e]; exact List.mem_cons_self ..)
      rw [z] at h1
      cases h1
  sub := fun g hg => h.sub g (least_in h.sub hg)
  full := fun g hg => h.full g (least_in h.sub hg)
theorem opL_none {rows : List (List Str)} (h : ∀ g ∈ rows, g ≠ []) : opL rows [] = false := by
  cases e : opL rows [] with
  | false => rfl
  | true =>
    obtain ⟨o, h1, h2⟩ := opL_iff.mp e
    cases o with
    | nil => exact absurd rfl (h [] h1)
    | cons n _ => exact absurd (h2 n (List.mem_cons_self ..)) (by simp)
theorem opL_all {ws : List Str} {rows : List (List Str)} (h : RowsOk ws rows) : opL rows ws = true := by
  cases e : rows with
  | nil => exact absurd e h.ne
  | cons o r => exact opL_iff.mpr ⟨o, List.mem_cons_self .., fun n hn => (h.sub o (by rw [e]; exact List.mem_cons_self ..)).subset hn⟩
theorem restG_nil (ws : List Str) : restG ws [] = ws := List.filter_eq_self.mpr fun n _ => by simp
theorem restG_self (ws : List Str) : restG ws ws = [] := List.filter_eq_nil_iff.mpr fun n hn => by simp [hn]
theorem restG_restG {ws g : List Str} (hp : ws.Nodup) (hg : g.Sublist ws) : restG ws (restG ws g) = g := by
  refine same_of hp (restG_sub _ _) hg (fun n hn => ?_) fun n hn => ?_
  · obtain ⟨h1, h2⟩ := mem_restG.mp hn
    exact Classical.byContradiction fun z => h2 (mem_restG.mpr ⟨h1, z⟩)
  · exact mem_restG.mpr ⟨hg.subset hn, fun z => (mem_restG.mp z).2 hn⟩
/-- whose rest does not open -/
abbrev turnB (ws : List Str) (rows : List (List Str)) : List Str → Bool := fun g => !opL rows (restG ws g)
theorem turn_mono (ws : List Str) (rows : List (List Str)) : Mono ws (turnB ws rows) := fun a b _ _ h e => by
  show (!opL rows (restG ws b)) = true
  cases q : opL rows (restG ws b) with
  | false => rfl
  | true =>
    have : opL rows (restG ws a) = true := opL_mono (fun n hn => mem_restG.mpr ⟨(mem_restG.mp hn).1, fun z => (mem_restG.mp hn).2 (h n z)⟩) q
    rw [show turnB ws rows a = !opL rows (restG ws a) from rfl, this] at e
    cases e
theorem turn_rows {ws : List Str} {rows : List (List Str)} (h : RowsOk ws rows) : RowsOk ws (upG ws (turnB ws rows)) where
  ne := fun z => by
    have hm : ws ∈ upG ws (turnB ws rows) := mem_upG.mpr ⟨List.Sublist.refl _, by show (!opL rows (restG ws ws)) = true; rw [restG_self, opL_none h.full]; rfl⟩
    rw [z] at hm
    cases hm
  sub := upG_sub
  full := fun g hg e => by
    subst e
    have := (mem_upG.mp hg).2
    rw [show turnB ws rows [] = !opL rows (restG ws []) from rfl, restG_nil, opL_all h] at this
    cases this
theorem op_turn {ws : List Str} {rows : List (List Str)} {g : List Str} (hg : g.Sublist ws) : opL (upG ws (turnB ws rows)) g = !opL rows (restG ws g) := op_up (turn_mono ws rows) hg
/-- what two families open -/
def andG (ws : List Str) (A B : List (List Str)) : List (List Str) := A.flatMap fun a => B.map fun b => mrg ws a b
theorem mem_andG {ws : List Str} {A B : List (List Str)} {g : List Str} : g ∈ andG ws A B ↔ ∃ a ∈ A, ∃ b ∈ B, mrg ws a b = g := by
  unfold andG
  rw [List.mem_flatMap]
  exact ⟨fun ⟨a, h1, h2⟩ => let ⟨b, h3, h4⟩ := List.mem_map.mp h2; ⟨a, h1, b, h3, h4⟩, fun ⟨a, h1, b, h3, h4⟩ => ⟨a, h1, List.mem_map.mpr ⟨b, h3, h4⟩⟩⟩
theorem op_and {ws : List Str} {A B : List (List Str)} (hA : ∀ g ∈ A, g.Sublist ws) (hB : ∀ g ∈ B, g.Sublist ws) (g : List Str) : opL (andG ws A B) g = (opL A g && opL B g) := by
  rw [Bool.eq_iff_iff, Bool.and_eq_true, opL_iff, opL_iff, opL_iff]
  constructor
  · rintro ⟨o, h1, h2⟩
    obtain ⟨a, ha, b, hb, rfl⟩ := mem_andG.mp h1
    exact ⟨⟨a, ha, fun n hn => h2 n (mem_mrg.mpr ⟨(hA a ha).subset hn, .inl hn⟩)⟩, ⟨b, hb, fun n hn => h2 n (mem_mrg.mpr ⟨(hB b hb).subset hn, .inr hn⟩)⟩⟩
  · rintro ⟨⟨a, ha, h1⟩, ⟨b, hb, h2⟩⟩
    exact ⟨_, mem_andG.mpr ⟨a, ha, b, hb, rfl⟩, fun n hn => (mem_mrg.mp hn).2.elim (h1 n) (h2 n)⟩
theorem op_or (A B : List (List Str)) (g : List Str) : opL (A ++ B) g = (opL A g || opL B g) := List.any_append
theorem and_rows {ws : List Str} {A B : List (List Str)} (hA : RowsOk ws A) (hB : RowsOk ws B) : RowsOk ws (andG ws A B) where
  ne := fun z => by
    obtain ⟨a, ha⟩ := List.exists_mem_of_ne_nil _ hA.ne
    obtain ⟨b, hb⟩ := List.exists_mem_of_ne_nil _ hB.ne
    have hm := mem_andG (ws := ws).mpr ⟨a, ha, b, hb, rfl⟩
    rw [z] at hm
    cases hm
  sub := fun g hg => by
    obtain ⟨a, _, b, _, rfl⟩ := mem_andG.mp hg
    exact mrg_sub _ _ _
  full := fun g hg e => by
    obtain ⟨a, ha, b, hb, rfl⟩ := mem_andG.mp hg
    obtain ⟨n, hn⟩ := List.exists_mem_of_ne_nil _ (hA.full a ha)
    have : n ∈ mrg ws a b := mem_mrg.mpr ⟨(hA.sub a ha).subset hn, .inl hn⟩
    rw [e] at this
    cases this
theorem or_rows {ws : List Str} {A B : List (List Str)} (hA : RowsOk ws A) (hB : RowsOk ws B) : RowsOk ws (A ++ B) where
  ne := fun z => hA.ne (List.append_eq_nil_iff.mp z).1
  sub := fun g hg => (List.mem_append.mp hg).elim (hA.sub g) (hB.sub g)
  full := fun g hg => (List.mem_append.mp hg).elim (hA.full g) (hB.full g)
/-! ### without a person -/
theorem mem_rest1 {ws : List Str} {z n : Str} : n ∈ restG ws [z] ↔ n ∈ ws ∧ n ≠ z := by rw [mem_restG, List.mem_singleton]
theorem fine_rest {ws : List Str} {z : Str} (h : Fine ws) (hn : restG ws [z] ≠ []) : Fine (restG ws [z]) where
  one := List.length_pos_iff.mpr hn
  five := Nat.le_trans (restG_sub _ _).length_le h.five
  ok := badAt_none (h.nd.sublist (restG_sub _ _)) (fun n hn => names_ok h.ok n ((restG_sub _ _).subset hn)) (Nat.le_refl _)
  srt := List.mergeSort_of_pairwise ((by have := PySem.W.sort_pairwise leS_total ws; rw [show List.mergeSort ws leS = ws from h.srt] at this; exact this : ws.Pairwise fun a b => leS a b = true).sublist (restG_sub _ _))
  small := fun n hn => h.small n ((restG_sub _ _).subset hn)
def woG (rows : List (List Str)) (z : Str) : List (List Str) := rows.filter fun g => !decide (z ∈ g)
theorem mem_woG {rows : List (List Str)} {z : Str} {g : List Str} : g ∈ woG rows z ↔ g ∈ rows ∧ z ∉ g := by
  unfold woG
  rw [List.mem_filter]
  simp
theorem sub_rest {ws g : List Str} {z : Str} (hp : ws.Nodup) (hg : g.Sublist ws) (h : z ∉ g) : g.Sublist (restG ws [z]) :=
  sub_of_inside hp hg (restG_sub _ _) fun n hn => mem_rest1.mpr ⟨hg.subset hn, fun e => h (e ▸ hn)⟩
theorem wo_sub {ws : List Str} {rows : List (List Str)} {z : Str} (hp : ws.Nodup) (h : ∀ g ∈ rows, g.Sublist ws) : ∀ g ∈ woG rows z, g.Sublist (restG ws [z]) := fun g hg => sub_rest hp (h g (mem_woG.mp hg).1) (mem_woG.mp hg).2
theorem op_wo {ws : List Str} {rows : List (List Str)} {z : Str} {g : List Str} (hg : g.Sublist (restG ws [z])) : opL (woG rows z) g = opL rows g := by
  rw [Bool.eq_iff_iff, opL_iff, opL_iff]
  exact ⟨fun ⟨o, h1, h2⟩ => ⟨o, (mem_woG.mp h1).1, h2⟩, fun ⟨o, h1, h2⟩ => ⟨o, mem_woG.mpr ⟨h1, fun hz => (mem_rest1.mp (hg.subset (h2 z hz))).2 rfl⟩, h2⟩⟩
def pubG (rows : List (List Str)) (z : Str) : List (List Str) := rows.map fun g => restG g [z]
theorem mem_pubG {rows : List (List Str)} {z : Str} {g : List Str} : g ∈ pubG rows z ↔ ∃ o ∈ rows, restG o [z] = g := by
  unfold pubG
  exact List.mem_map
theorem pub_sub {ws : List Str} {rows : List (List Str)} {z : Str} (h : ∀ g ∈ rows, g.Sublist ws) : ∀ g ∈ pubG rows z, g.Sublist (restG ws [z]) := fun g hg => by
  obtain ⟨o, ho, rfl⟩ := mem_pubG.mp hg
  exact (h o ho).filter _
theorem op_pub (rows : List (List Str)) (z : Str) (g : List Str) : opL (pubG rows z) g = opL rows (g ++ [z]) := by
  rw [Bool.eq_iff_iff, opL_iff, opL_iff]
  constructor
  · rintro ⟨o, h1, h2⟩
    obtain ⟨q, hq, rfl⟩ := mem_pubG.mp h1
    refine ⟨q, hq, fun n hn => ?_⟩
    by_cases e : n = z
    · exact List.mem_append_right _ (List.mem_singleton.mpr e)
    · exact List.mem_append_left _ (h2 n (mem_rest1.mpr ⟨hn, e⟩))
  · rintro ⟨o, h1, h2⟩
    refine ⟨_, mem_pubG.mpr ⟨o, h1, rfl⟩, fun n hn => ?_⟩
    obtain ⟨h3, h4⟩ := mem_rest1.mp hn
    exact (List.mem_append.mp (h2 n h3)).elim id fun e => absurd (List.mem_singleton.mp e) h4
/-- the person alone opens exactly if she is a least group -/
theorem alone_iff {ws : List Str} {rows : List (List Str)} {z : Str} (hp : ws.Nodup) (h : RowsOk ws rows) : opL rows [z] = true ↔ [z] ∈ rows := by
  rw [opL_iff]
  constructor
  · rintro ⟨o, h1, h2⟩
    have hnd := hp.sublist (h.sub o h1)
    have : o = [z] := by
      cases o with
      | nil => exact absurd rfl (h.full [] h1)
      | cons a r =>
        have ea := List.mem_singleton.mp (h2 a (List.mem_cons_self ..))
        cases r with
        | nil => rw [ea]
        | cons b r =>
          have eb := List.mem_singleton.mp (h2 b (List.mem_cons_of_mem _ (List.mem_cons_self ..)))
          have := (List.nodup_cons.mp hnd).1
          exact absurd (by rw [ea, eb]; exact List.mem_cons_self ..) this
    exact this ▸ h1
  · exact fun h1 => ⟨[z], h1, fun n hn => hn⟩
theorem pub_rows {ws : List Str} {rows : List (List Str)} {z : Str} (hp : ws.Nodup) (h : RowsOk ws rows) (ha : [z] ∉ rows) : RowsOk (restG ws [z]) (pubG rows z) where
  ne := fun e => h.ne (List.map_eq_nil_iff.mp e)
  sub := pub_sub h.sub
  full := fun g hg e => by
    obtain ⟨o, ho, rfl⟩ := mem_pubG.mp hg
    refine ha ((alone_iff hp h).mp (opL_iff.mpr ⟨o, ho, fun n hn => ?_⟩))
    by_cases q : n = z
    · exact List.mem_singleton.mpr q
    · have : n ∈ restG o [z] := mem_rest1.mpr ⟨hn, q⟩
      rw [e] at this
      cases this
/-- few -/
theorem allG_len {ws : List Str} (h : ws.length ≤ 5) : (allG ws).length ≤ 32 := by
  rw [(allG_perm ws).length_eq, setsL_len]
  exact Nat.pow_le_pow_right (by decide : 2 > 0) h
theorem few {ws : List Str} {gs : List (List Str)} (h5 : ws.length ≤ 5) (hs : gs.Sublist (allG ws)) (hf : ∀ g ∈ gs, g ≠ []) : gs.length ≤ 31 := by
  have h1 := allG_len h5
  have h2 := hs.length_le
  by_cases e : gs.length = (allG ws).length
  · have e2 := hs.eq_of_length e
    have hm : ([] : List Str) ∈ gs := by rw [e2]; exact mem_allG.mpr (List.nil_sublist _)
    exact absurd rfl (hf [] hm)
  · omega
end
end P

set_option Elab.async false
set_option linter.all false
set_option maxRecDepth 100000
set_option maxHeartbeats 4000000
namespace P
open PySem PySem.Spec PyProof.Rows L2 OS
/-! short ways: "rd" opens a reading as far as equations go; "sep" finds what stands apart from the state; "sq" a list that is read; "nx" two heaps -/
local macro_rules | `(tactic| walk_at "sep") => `(tactic| first | assumption | (refine (by assumption : Nx _ _ _) _ _ ?_; walk_at "sep"))
local macro_rules | `(tactic| walk_at "sq") => `(tactic| first | assumption | exact .inl (.inl (by assumption)) | exact Sep.sq (by walk_at "sep") | exact Sep.st (by walk_at "sep") | exact .inl (.inl upd_same))
local macro_rules | `(tactic| walk_at "rd") => `(tactic| repeat (first
  | refine And.intro rfl ?_
  | apply Exists.intro
  | refine And.intro (by assumption) ?_
  | refine And.intro (DrawOk.mk (by omega) (by omega) (by omega)) ?_
  | refine And.intro at0 ?_
  | refine And.intro ⟨_, rfl⟩ ?_
  | refine And.intro (by walk_at "sq") ?_
  | refine And.intro (Or.inl (by walk_at "sq")) ?_
  | refine And.intro (Or.inr (by walk_at "sq")) ?_
  | refine And.intro (by omega) ?_))

section
variable {P : Program} {w : World} {K : PySem.W.Frag} {mg : Str → Option Value} {base : Heap}
/-- merged(persons, one, other) -/
def spMerged (K : PySem.W.Frag) : Sp := fun vs H Q _ => ∃ (a b c : Addr) (ps gs hs : List Str), vs = [.ref a, .ref b, .ref c] ∧ SqT K H a (ps.map V.str) ∧ SqT K H b (gs.map V.str) ∧ SqT K H c (hs.map V.str) ∧ ps.length ≤ 1000 ∧
  ∀ p H', Same H H' → SqT K H' p ((mrg ps gs hs).map V.str) → Q (.ref p) H'
theorem ok_merged (T : Txt K mg) : FnOk P w K mg base CX0 1 T.f_merged T.fd_merged ["persons", "one", "other"] (spMerged K) := by
  refine T.F_merged.ok sc_merged (fun vs H Q E h => ?_) (fun cdv A outer s H vs Q E hr h => ?_)
  · obtain ⟨a, b, c, ps, gs, hs, rfl, _⟩ := h
    rfl
  · obtain ⟨a, b, c, ps, gs, hs, rfl, hp, hg, hh, hl, q⟩ := h
    refine ⟨_, (pss_one (ps_ret (pe_callTy (T := "tuple") call_tuple_ofL (by rfl) T.n_tuple (by decide +kernel) (pa_cons (pe_lc (own := [("name", 3)]) (g := gName 3) rfl sc_merged.nd (pi_tup (pv 0)) (blkOk_by (own := [("name", 3)]) (N := N_merged) (sc := defScope s_merged) (by decide +kernel)) (fun _ _ _ _ _ => (pg_name (i := 3) sc_merged.nd rfl (Or.inl rfl))) (fun _ _ _ _ _ => (pts_one (PW.pt (pw_or (pt_cmpR (r := rIn K false) op_in_seq (pv 3) (pv 1) (by rfl)) (pw_or1 (pt_cmpR (r := rIn K false) op_in_seq (pv 3) (pv 2) (by rfl))))))) (fun _ _ _ _ _ => (pv 3))) pa_nil)))), ?_⟩
    walk_at "rd"
    refine ⟨⟨_, hp⟩, fun D hD => ?_⟩
    refine lc_fn (walk_tup (xs := ps.map V.str)) (xs := ps) (by simp) (by simp; omega) (fun n => decide (n ∈ gs) || decide (n ∈ hs)) V.str hD (fun H1 s => s.tupT hp) ?_ ?_
    · intro i n x H1 H2 Qk Qn hn sm hy hk hn'
      obtain ⟨rfl, hx⟩ := hy
      obtain rfl := strs_get hx hn
      have hg2 := sm.tupT hg
      have hh2 := sm.tupT hh
      walk_at "rd"
      refine ⟨strs_flat gs, ?_⟩
      rw [inV_strs]
      walk_at "rd"
      refine ite2 (fun e => ?_) (fun e => ?_)
      · have e0 : decide (n ∈ gs) = true := e
        refine iteT ?_
        walk_at "rd"
        exact hk (by rw [e0]; rfl) _ (Same.refl _)
      · have e' : decide (n ∈ gs) = false := (Bool.not_eq_true _).mp e
        walk_at "rd"
        refine ⟨strs_flat hs, ?_⟩
        rw [inV_strs]
        walk_at "rd"
        refine ite2 (fun e2 => ?_) (fun e2 => ?_)
        · have e3 : decide (n ∈ hs) = true := e2
          walk_at "rd"
          exact hk (by rw [e', e3]; rfl) _ (Same.refl _)
        · have e3 : decide (n ∈ hs) = false := (Bool.not_eq_true _).mp e2
          exact hn' (by rw [e', e3]; rfl) _ (Same.refl _)
    · intro H1 sm hD1
      refine ⟨D, _, rfl, SqL.of hD1, fun p H2 np s2 hp2 => ?_⟩
      exact q p H2 (sm.trans s2) (SqT.of hp2)
end
end P

set_option Elab.async false
set_option linter.all false
set_option maxRecDepth 100000
set_option maxHeartbeats 4000000
namespace P
open PySem PySem.Spec PyProof.Rows L2 OS
/-! short ways: "rd" opens a reading as far as equations go; "sep" finds what stands apart from the state; "sq" a list that is read; "nx" two heaps -/
local macro_rules | `(tactic| walk_at "sep") => `(tactic| first | assumption | (refine (by assumption : Nx _ _ _) _ _ ?_; walk_at "sep"))
local macro_rules | `(tactic| walk_at "sq") => `(tactic| first | assumption | exact .inl (.inl (by assumption)) | exact Sep.sq (by walk_at "sep") | exact Sep.st (by walk_at "sep") | exact .inl (.inl upd_same))
local macro_rules | `(tactic| walk_at "rd") => `(tactic| repeat (first
  | refine And.intro rfl ?_
  | apply Exists.intro
  | refine And.intro (by assumption) ?_
  | refine And.intro (DrawOk.mk (by omega) (by omega) (by omega)) ?_
  | refine And.intro at0 ?_
  | refine And.intro ⟨_, rfl⟩ ?_
  | refine And.intro (by walk_at "sq") ?_
  | refine And.intro (Or.inl (by walk_at "sq")) ?_
  | refine And.intro (Or.inr (by walk_at "sq")) ?_
  | refine And.intro (by omega) ?_))

section
variable {P : Program} {w : World} {K : PySem.W.Frag} {mg : Str → Option Value} {base : Heap}
theorem tNil_i {σ : L2.St} {H : Hp} {Q : List V → Hp → Prop} (h : Q [] H) : tNil σ H Q := h
/-- Family(ws, rows) of fine ones, where nothing flies -/
theorem fam_made (T : Txt K mg) {E : XK} {H : Hp} {f dx a g : Addr} {ws : List Str} {xs : List V} {rows : List (List Str)} {Q : VK} (hfn : H f = none) (hdn : H dx = none) (hne : dx ≠ f) (ha : SqL K H a (ws.map V.str) ∨ SqT K H a (ws.map V.str)) (F : Fine ws)
    (hg : SqL K H g xs ∨ SqT K H g xs) (hgv : GrpsV K H xs rows) (hrl : rows.length ≤ 100000) (hR : RowsOk ws rows) (R : ∀ H', Same H H' → H f = none → FamAt K T.C_Family H' f ws (leastP ws rows) → Q .non H') :
    spFam T [.ref f, .ref a, .ref g] (upd (upd H dx (HO.own f)) f (HO.ins T.C_Family dx [])) Q E := by
  have sn : Same H (upd (upd H dx (HO.own f)) f (HO.ins T.C_Family dx [])) := (same_new hdn).trans (same_new (by rw [upd_ne hne.symm]; exact hfn))
  have hfat : (upd (upd H dx (HO.own f)) f (HO.ins T.C_Family dx [])) f = some (HO.ins T.C_Family dx []) := upd_same
  generalize upd (upd H dx (HO.own f)) f (HO.ins T.C_Family dx []) = H6 at sn hfat ⊢
  have hbs : ¬ badLen ws := by
    have h1 := F.one
    have h5 := F.five
    rintro (z | z) <;> omega
  have hw := F.ok
  have good : ∀ (o : Option (List V)), o ∈ rows.map asThing → isGrp (srt ws) o = true ∧ o ≠ some [] := fun o ho => by
    obtain ⟨g', hg', rfl⟩ := List.mem_map.mp ho
    exact ⟨(isGrp_iff (srt_nodup F.nd)).mpr ⟨g', by rw [F.srt]; exact hR.sub g' hg', rfl⟩, fun z => hR.full g' hg' (List.map_eq_nil_iff.mp (Option.some.inj z))⟩
  refine ⟨f, a, g, dx, ws, xs, rows.map asThing, rfl, hfat, ha.elim (fun h => .inl (sn.seq h)) (fun h => .inr (sn.tupT h)), by have := F.five; omega, fun z hz => Nat.le_trans (F.small z hz) (by decide), hg.elim (fun h => .inl (sn.seq h)) (fun h => .inr (sn.tupT h)), things_same (grps_things hgv) sn, by rw [List.length_map]; exact hrl,
    ⟨fun z => absurd z hbs, fun z H' _ h => (by rw [hw] at h; cases h), fun z H' _ h => (by rw [hw] at h; cases h)⟩, fun _ _ => ⟨fun z => absurd (List.map_eq_nil_iff.mp z) hR.ne, fun i x o _ h2 _ h4 => absurd (good o (List.mem_of_getElem? h2)) h4⟩, fun _ _ rows' er _ _ H' kp hF => ?_⟩
  have er' : rows = rows' := (List.map_inj_right (fun x y h => List.map_inj_right (fun a b z => V.str.inj z) |>.mp (Option.some.inj h))).mp er
  subst er'
  rw [F.srt] at hF
  exact R H' (fun b o e => kp b o (sn b o e) (ne_of_none e hfn)) hfn hF
/-- family.opens(group) -/
theorem opens_call (T : Txt K mg) {E : XK} {H : Hp} {f : Addr} {x : V} {ws g : List Str} {gs : List (List Str)} {Q : VK} (hf : FamAt K T.C_Family H f ws gs) (F : Fine ws) (hl : gs.length ≤ 900) (hs : ∀ g ∈ gs, g.Sublist ws) (hx : GrpV K H x g) (hg : g.Sublist ws)
    (R : ∀ H', Same H H' → Q (.bl (opL gs g)) H') : spFOpens T [.ref f, x] H Q E := by
  obtain ⟨b, rfl, hb⟩ := hx
  have h5 := F.five
  refine ⟨f, .ref b, ws, gs, asThing g, rfl, hf, by omega, F.nd, hl, fun g' h' => ?_, ?_, fun z => ?_, fun g' eg _ H' s => ?_⟩
  · have := (hs g' h').length_le
    omega
  · exact .tup hb fun v hv => by
      obtain ⟨z, _, rfl⟩ := List.mem_map.mp hv
      exact .flat rfl
  · have := (isGrp_iff F.nd).mpr ⟨g, hg, rfl⟩
    rw [z] at this
    cases this
  · obtain rfl : g = g' := List.map_inj_right (fun a b z => V.str.inj z) |>.mp (Option.some.inj eg)
    exact R H' s
/-- family.turned() -/
def spTurned (T : Txt K mg) : Sp := fun vs H Q _ => ∃ (f : Addr) (ws : List Str) (gs : List (List Str)), vs = [.ref f] ∧ FamAt K T.C_Family H f ws gs ∧ Fine ws ∧ RowsOk ws gs ∧ gs.length ≤ 31 ∧
  ∀ f' H', H f' = none → Same H H' → FamAt K T.C_Family H' f' ws (leastP ws (upG ws (turnB ws gs))) → Q (.ref f') H'
theorem ok_Family_turned (T : Txt K mg) : FnOk P w K mg base (L2.CX P w) 6 T.f_Family_turned T.fd_Family_turned ["self"] (spTurned T) := by
  refine T.F_Family_turned.okX sc_Family_turned (fun vs H Q E h => ?_) (fun cdv A outer s H vs Q E hr h => ?_)
  · obtain ⟨f, ws, gs, rfl, _⟩ := h
    rfl
  · obtain ⟨f, ws, gs, rfl, hf, F, hR, hgl, q⟩ := h
    have cl := T.cl_Family
    have n1 := T.na_persons
    obtain ⟨dx, a, b, c, ys, hfi, ha, hb, hys, hc⟩ := id hf
    have l1 := flds_persons a b c
    have no := flds_no a b c (m := "opens") (by decide +kernel) (by decide +kernel) (by decide +kernel)
    have h5 := F.five
    have hl8 : ws.length ≤ 8 := by omega
    refine ⟨_, (pss_cons (ps_set (i := 1) sc_Family_turned.nd rfl (Or.inr rfl) (pe_fld (pv 0) rfl))
    (pss_one (ps_ret (pe_makeS T.mk_Family (ok_Family__init_ T) (hr.mono (by decide)) (by rfl) T.g_Family T.b_Family__init_ (fun σ => at_of (passes_call (takes_of rfl rfl rfl rfl) (fun _ _ _ _ h => h)) σ) (pa_cons (pv 1) (pa_cons (pe_lc (own := [("group", 2)]) (g := gName 2) rfl sc_Family_turned.nd (pi_list (pe_call (ok_all_groups T) (hr.mono (by decide)) (by rfl) T.g_all_groups T.F_all_groups.kp T.b_all_groups .nil pass0 (pa_cons (pv 1) pa_nil))) (blkOk_by (own := [("group", 2)]) (N := N_Family_turned) (sc := defScope s_Family_turned) (by decide +kernel)) (fun _ _ _ _ _ => (pg_name (i := 2) sc_Family_turned.nd rfl (Or.inl rfl))) (fun _ _ _ _ _ => (pts_one (pt_not (pt_val (pe_methSx (E := fun _ => E0) (pv 0) T.cl_Family T.me_opens (ok_Family_opens T) (hr.mono (by decide)) T.b_Family_opens (fun σ => at_of pass0x σ) (pa_cons (pe_call (ok_rest T) (hr.mono (by decide)) (by rfl) T.g_rest T.F_rest.kp T.b_rest .nil pass0 (pa_cons (pv 1) (pa_cons (pv 2) pa_nil))) pa_nil)))))) (fun _ _ _ _ _ => (pv 2))) pa_nil)))))), ?_⟩
    walk_at "rd"
    intro l H1 xs n1 s1 hl hxs
    walk_at "rd"
    refine ⟨⟨_, SqL.of hl⟩, fun D hD => ?_⟩
    have hal := allG_len h5
    refine lc_rel (walk_list (xs := xs)) (xs := allG ws) (paired_len hxs).symm (by rw [paired_len hxs]; omega) (turnB ws gs) (fun H g v => GrpV K H v g) hD (fun H H' g v acc _ hDa k h => h.but hDa k) (fun H s => s.seq (SqL.of hl)) ?_ ?_
    · intro j g v H5 H6 Qk Qn hgj sm hy hk hn
      obtain ⟨rfl, hv⟩ := hy
      obtain ⟨g', h1, h2⟩ := OS.paired_get hxs hv
      obtain rfl : g' = g := Option.some.inj (h1.symm.trans hgj)
      have h3 := h2.same sm
      obtain ⟨bb, rfl, hbb⟩ := id h3
      have s06 := s1.trans sm
      have hfi6 := s06 _ _ hfi
      have ha6 := s06.tupT ha
      have hl1000 : ws.length ≤ 1000 := by omega
      walk_at "rd"
      intro p7 H7 s7 hp7
      refine tNil_i ?_
      refine opens_call T ((hf.same s06).same s7) F (by omega) hR.sub ⟨p7, rfl, hp7⟩ (restG_sub ws g') fun H8 s8 => ?_
      walk_at "rd"
      refine ite2 (fun e => ?_) (fun e => ?_)
      · walk_at "rd"
        exact hk e _ _ ((h3.same s7).same s8) (s7.trans s8)
      · exact hn ((Bool.not_eq_true _).mp e) _ (s7.trans s8)
    · intro H5 acc sm hD5 pr
      have pr' : GrpsV K H5 acc (upG ws (turnB ws gs)) := paired_swap pr
      have s05 := s1.trans sm
      have ha5 := s05.tupT ha
      walk_at "rd"
      intro f' dx' hfn hdn hne
      refine fam_made T hfn hdn hne (.inr ha5) F (.inl (SqL.of hD5)) pr' ?_ (turn_rows hR) (fun H7 s7 hn7 hF7 => ⟨rfl, ?_⟩)
      · exact Nat.le_trans (List.length_filter_le _ _) (by omega)
      · exact q f' H7 (s05.free hn7) (s05.trans s7) hF7
end
end P

set_option Elab.async false
set_option linter.all false
set_option maxRecDepth 100000
set_option maxHeartbeats 4000000
namespace P
open PySem PySem.Spec PyProof.Rows L2 OS
/-! short ways: "rd" opens a reading as far as equations go; "sep" finds what stands apart from the state; "sq" a list that is read; "nx" two heaps -/
local macro_rules | `(tactic| walk_at "sep") => `(tactic| first | assumption | (refine (by assumption : Nx _ _ _) _ _ ?_; walk_at "sep"))
local macro_rules | `(tactic| walk_at "sq") => `(tactic| first | assumption | exact .inl (.inl (by assumption)) | exact Sep.sq (by walk_at "sep") | exact Sep.st (by walk_at "sep") | exact .inl (.inl upd_same))
local macro_rules | `(tactic| walk_at "rd") => `(tactic| repeat (first
  | refine And.intro rfl ?_
  | apply Exists.intro
  | refine And.intro (by assumption) ?_
  | refine And.intro (DrawOk.mk (by omega) (by omega) (by omega)) ?_
  | refine And.intro at0 ?_
  | refine And.intro ⟨_, rfl⟩ ?_
  | refine And.intro (by walk_at "sq") ?_
  | refine And.intro (Or.inl (by walk_at "sq")) ?_
  | refine And.intro (Or.inr (by walk_at "sq")) ?_
  | refine And.intro (by omega) ?_))

section
variable {P : Program} {w : World} {K : PySem.W.Frag} {mg : Str → Option Value} {base : Heap}
theorem sjoin_len (a : Str) : ∀ ys : List Str, (Str.join a ys).length ≤ (ys.map (·.length)).sum + ys.length * a.length
  | [] => Nat.zero_le _
  | [x] => by
    show x.length ≤ _
    rw [List.map_cons, List.sum_cons]
    omega
  | x :: y :: ys => by
    have ih := sjoin_len a (y :: ys)
    show (x ++ a ++ Str.join a (y :: ys)).length ≤ _
    rw [app_len, app_len, List.map_cons, List.sum_cons, List.length_cons, Nat.succ_mul]
    omega
theorem tjoin_len (a : Str) (ys : List Str) : (Txt.join a ys).length ≤ (ys.map (·.length)).sum + ys.length * a.length := by
  rw [TL.join_eq]
  exact sjoin_len a ys
theorem sum_le_of {B : Nat} : ∀ {zs : List Str}, (∀ z ∈ zs, z.length ≤ B) → (zs.map (·.length)).sum ≤ zs.length * B
  | [], _ => Nat.zero_le _
  | z :: zs, h => by
    have h1 := h z (List.mem_cons_self ..)
    have h2 := sum_le_of (zs := zs) fun y hy => h y (List.mem_cons_of_mem _ hy)
    rw [List.map_cons, List.sum_cons, List.length_cons, Nat.succ_mul]
    omega
/-- the text of a family -/
def famTxt (ws : List Str) (gs : List (List Str)) : Str := Str.empty ++ Txt.join (Str.ofString " ") ws ++ Str.ofString ": " ++ Txt.join (Str.ofString " / ") (gs.map (Txt.join (Str.ofString " ")))
/-- str(family) -/
def spFStr (T : Txt K mg) : Sp := fun vs H Q _ => ∃ (f : Addr) (ws : List Str) (gs : List (List Str)), vs = [.ref f] ∧ FamAt K T.C_Family H f ws gs ∧ ws.length ≤ 8 ∧ (∀ z ∈ ws, z.length ≤ 1000) ∧ gs.length ≤ 256 ∧ (∀ g ∈ gs, g.Sublist ws) ∧ ∀ H', Same H H' → Q (.str (famTxt ws gs)) H'
theorem ok_Family__str_ (T : Txt K mg) : FnOk P w K mg base CX0 1 T.f_Family__str_ T.fd_Family__str_ ["self"] (spFStr T) := by
  refine T.F_Family__str_.ok sc_Family__str_ (fun vs H Q E h => ?_) (fun cdv A outer s H vs Q E hr h => ?_)
  · obtain ⟨f, ws, gs, rfl, _⟩ := h
    rfl
  · obtain ⟨f, ws, gs, rfl, hf, hl, hz, hgl, hgs, q⟩ := h
    obtain ⟨dx, a, b, c, ys, hfi, ha, hb, hys, hc⟩ := hf
    have cl := T.cl_Family
    have n1 := T.na_persons
    have n2 := T.na_groups
    have l1 := flds_persons a b c
    have l2 := flds_groups a b c
    have e1 : (Str.ofString " ").length = 1 := by decide +kernel
    have e2 : (Str.ofString ": ").length = 2 := by decide +kernel
    have e3 : (Str.ofString " / ").length = 3 := by decide +kernel
    have small : ∀ g : List Str, g.length ≤ 8 → (∀ z ∈ g, z.length ≤ 1000) → (g.map (·.length)).sum + g.length * (Str.ofString " ").length ≤ 8008 := fun g h1 h2 => by
      have := sum_le_of h2
      rw [e1]
      omega
    have hgl8 : ∀ g ∈ gs, g.length ≤ 8 ∧ ∀ z ∈ g, z.length ≤ 1000 := fun g hg => ⟨by have := (hgs g hg).length_le; omega, fun z hz' => hz z ((hgs g hg).subset hz')⟩
    have hp1 : (Txt.join (Str.ofString " ") ws).length ≤ 8008 := Nat.le_trans (tjoin_len _ _) (small ws hl hz)
    refine ⟨_, (pss_cons (ps_set (i := 1) sc_Family__str_.nd rfl (Or.inl rfl) (pe_joinR (r := rJoin K) mt_joinK pe_str (pe_fld (pv 0) rfl)))
    (pss_cons (ps_set (i := 2) sc_Family__str_.nd rfl (Or.inl rfl) (pe_joinR (r := rJoin K) mt_joinK pe_str (pe_lc (own := [("group", 3)]) (g := gName 3) (tt := tYes) rfl sc_Family__str_.nd (pi_tup (pe_fld (pv 0) rfl)) (blkOk_by (own := [("group", 3)]) (N := N_Family__str_) (sc := defScope s_Family__str_) (by decide +kernel)) (fun _ _ _ _ _ => (pg_name (i := 3) sc_Family__str_.nd rfl (Or.inl rfl))) (fun _ _ _ _ _ => pts_nil) (fun _ _ _ _ _ => (pe_joinR (r := rJoin K) mt_joinK pe_str (pv 3))))))
    (pss_one (ps_ret (pe_joined (PJ.cons (pe_fmt (pv 1)) (PJ.cons pe_str (PJ.cons (pe_fmt (pv 2)) PJ.nil)))))))), ?_⟩
    walk_at "rd"
    refine ⟨Nat.le_trans (small ws hl hz) (by decide), ?_⟩
    unfold famTxt at q
    generalize Txt.join (Str.ofString " ") ws = w1 at hp1 q ⊢
    walk_at "rd"
    refine ⟨⟨_, hb⟩, fun D hD => ?_⟩
    refine lc_all (walk_tup (xs := ys)) (xs := gs) (paired_len hys).symm (by rw [paired_len hys]; omega) (fun g => V.str (Txt.join (Str.ofString " ") g)) hD (fun H1 s => s.tupT hb) ?_ ?_
    · intro j g y H8 H9 Qk2 hgj sm8 hy hk2
      obtain ⟨rfl, hy⟩ := hy
      obtain ⟨g', h1, h2⟩ := OS.paired_get hys hy
      obtain rfl : g' = g := Option.some.inj (h1.symm.trans hgj)
      obtain ⟨bb, rfl, hbb⟩ := h2.same sm8
      obtain ⟨h3, h4⟩ := hgl8 _ (List.mem_of_getElem? hgj)
      walk_at "rd"
      refine ⟨Nat.le_trans (small g' h3 h4) (by decide), ?_⟩
      exact hk2 _ (Same.refl _)
    · intro H8 sm8 hD8
      have hp2 : ∀ z ∈ gs.map (Txt.join (Str.ofString " ")), z.length ≤ 8008 := fun z hz' => by
        obtain ⟨g, hg, rfl⟩ := List.mem_map.mp hz'
        obtain ⟨h3, h4⟩ := hgl8 g hg
        exact Nat.le_trans (tjoin_len _ _) (small g h3 h4)
      have hs2 := sum_le_of hp2
      have hml : (gs.map (Txt.join (Str.ofString " "))).length = gs.length := List.length_map _
      have hsum : ((gs.map (Txt.join (Str.ofString " "))).map (·.length)).sum + (gs.map (Txt.join (Str.ofString " "))).length * (Str.ofString " / ").length ≤ 2051000 := by
        rw [hml] at hs2 ⊢
        rw [e3]
        omega
      have hj := Nat.le_trans (tjoin_len (Str.ofString " / ") _) hsum
      have hDq : SqL K H8 D ((gs.map (Txt.join (Str.ofString " "))).map V.str) := SqL.of (by rw [List.map_map]; exact hD8)
      refine ⟨_, D, _, rfl, rfl, .inl hDq, Nat.le_trans hsum (by decide), ?_⟩
      generalize Txt.join (Str.ofString " / ") (gs.map (Txt.join (Str.ofString " "))) = w2 at hj q ⊢
      walk_at "rd"
      have le24 : ∀ n : Nat, n ≤ 3000000 → n ≤ sizeLine := fun n h => Nat.le_trans h (by decide)
      have h0 : (Str.empty ++ w1).length ≤ 8008 := by
        rw [app_len]
        show 0 + w1.length ≤ 8008
        omega
      have h1 : (Str.empty ++ w1 ++ Str.ofString ": ").length ≤ 8010 := by
        rw [app_len, e2]
        omega
      have h2 : (Str.empty ++ w1 ++ Str.ofString ": " ++ w2).length ≤ 3000000 := by
        rw [app_len]
        omega
      refine .inl ⟨w1, rfl, le24 _ (by omega), w1, rfl, le24 _ (by omega), ⟨_, rfl, le24 _ (by omega), ?_⟩⟩
      exact ⟨_, rfl, .inl ⟨w2, rfl, le24 _ (by omega), w2, rfl, le24 _ h2, q _ sm8⟩⟩
end
end P

set_option Elab.async false
set_option linter.all false
set_option maxRecDepth 100000
set_option maxHeartbeats 4000000
namespace P
open PySem PySem.Spec PyProof.Rows L2 OS
/-! short ways: "rd" opens a reading as far as equations go; "sep" finds what stands apart from the state; "sq" a list that is read; "nx" two heaps -/
local macro_rules | `(tactic| walk_at "sep") => `(tactic| first | assumption | (refine (by assumption : Nx _ _ _) _ _ ?_; walk_at "sep"))
local macro_rules | `(tactic| walk_at "sq") => `(tactic| first | assumption | exact .inl (.inl (by assumption)) | exact Sep.sq (by walk_at "sep") | exact Sep.st (by walk_at "sep") | exact .inl (.inl upd_same))
local macro_rules | `(tactic| walk_at "rd") => `(tactic| repeat (first
  | refine And.intro rfl ?_
  | apply Exists.intro
  | refine And.intro (by assumption) ?_
  | refine And.intro (DrawOk.mk (by omega) (by omega) (by omega)) ?_
  | refine And.intro at0 ?_
  | refine And.intro ⟨_, rfl⟩ ?_
  | refine And.intro (by walk_at "sq") ?_
  | refine And.intro (Or.inl (by walk_at "sq")) ?_
  | refine And.intro (Or.inr (by walk_at "sq")) ?_
  | refine And.intro (by omega) ?_))

section
variable {P : Program} {w : World} {K : PySem.W.Frag} {mg : Str → Option Value} {base : Heap}
def signsN : Str := "abcdefghijklmnopqrstuvwxyz0123456789"
theorem signsN_len : signsN.length = 36 := by decide +kernel
theorem empty_str : (Str.ofString "") = Str.empty := by decide +kernel
theorem joined_len (cs : List Nat) : (Txt.join (Str.ofString "") (cs.map fun c => ⟨#[c]⟩)).length = cs.length := by
  rw [← str_list_len, empty_str, join_signs]
theorem acc_signs : ∀ {acc : List V}, (∀ y ∈ acc, ∃ c, y = .str ⟨#[c]⟩) → ∃ cs : List Nat, acc = cs.map (fun c => V.str ⟨#[c]⟩)
  | [], _ => ⟨[], rfl⟩
  | y :: r, h => by
    obtain ⟨c, rfl⟩ := h y (.head _)
    obtain ⟨cs, rfl⟩ := acc_signs fun y hy => h y (.tail _ hy)
    exact ⟨c :: cs, rfl⟩
theorem acc_signs2 {P : Nat → Prop} : ∀ {acc : List V}, (∀ y ∈ acc, ∃ c, y = .str ⟨#[c]⟩ ∧ P c) → ∃ cs : List Nat, acc = cs.map (fun c => V.str ⟨#[c]⟩) ∧ ∀ x ∈ cs, P x
  | [], _ => ⟨[], rfl, fun _ h => nomatch h⟩
  | y :: r, h => by
    obtain ⟨c, rfl, hc⟩ := h y (.head _)
    obtain ⟨cs, rfl, hcs⟩ := acc_signs2 fun y hy => h y (.tail _ hy)
    exact ⟨c :: cs, rfl, fun x hx => (List.mem_cons.mp hx).elim (fun e => e ▸ hc) (hcs x)⟩
theorem acc_strs {n : Nat} : ∀ {acc : List V}, (∀ y ∈ acc, ∃ z : Str, y = .str z ∧ z.length ≤ n) → ∃ zs : List Str, acc = zs.map V.str ∧ ∀ z ∈ zs, z.length ≤ n
  | [], _ => ⟨[], rfl, fun _ h => nomatch h⟩
  | y :: r, h => by
    obtain ⟨c, rfl, hc⟩ := h y (.head _)
    obtain ⟨cs, rfl, hcs⟩ := acc_strs fun y hy => h y (.tail _ hy)
    exact ⟨c :: cs, rfl, fun z hz => by
      rcases List.mem_cons.mp hz with rfl | hz
      · exact hc
      · exact hcs z hz⟩
theorem num_small (a b : Int) (h0 : 0 ≤ a) (h1 : a ≤ 9) (h2 : 0 ≤ b) (h3 : b ≤ 8) : 0 ≤ a * b ∧ a * b ≤ 100 := by
  refine ⟨Int.mul_nonneg h0 h2, ?_⟩
  have := Int.mul_le_mul h1 h3 h2 (show (0 : Int) ≤ 9 by decide)
  omega
theorem num_len {v : Int} (h0 : 0 ≤ v) (h1 : v ≤ 100) : (Str.ofString (toString v)).length ≤ 10 := by
  obtain ⟨n, rfl⟩ := Int.eq_ofNat_of_zero_le h0
  have key : ∀ n : Fin 101, (Str.ofString (toString ((n.val : Nat) : Int))).length ≤ 10 := by decide +kernel
  exact key ⟨n, by omega⟩
theorem num_log {v : Int} (h0 : 0 ≤ v) (h1 : v ≤ 100) : v.natAbs.log2 < 1920 := by
  obtain ⟨n, rfl⟩ := Int.eq_ofNat_of_zero_le h0
  have key : ∀ n : Fin 101, ((n.val : Nat) : Int).natAbs.log2 < 1920 := by decide +kernel
  exact key ⟨n, by omega⟩
theorem cutS_len (z : Str) (lo hi : Option Int) : (cutS z lo hi).length ≤ z.length := by
  rw [← str_list_len, ← str_list_len]
  unfold cutS
  show (List.toArray _).toList.length ≤ _
  rw [List.toList_toArray]
  exact Nat.le_trans (List.length_take_le' _ _) (by rw [List.length_drop]; omega)
/-! ### names that are names, each another one -/
theorem signsN_eq : signsN.cps.toList = (lowS ++ digS).cps.toList := by decide +kernel
theorem low_of {c : Nat} (h1 : 97 ≤ c) (h2 : c ≤ 122) : c ∈ lowS.cps.toList := by
  have key : ∀ n : Fin 26, (97 + n.val) ∈ lowS.cps.toList := by decide +kernel
  have := key ⟨c - 97, by omega⟩
  rwa [show 97 + (c - 97) = c by omega] at this
theorem low_sign {c : Nat} (h : c ∈ lowS.cps.toList) : c ∈ signsN.cps.toList := by
  rw [signsN_eq, app_signs]
  exact List.mem_append_left _ h
theorem sign_low {i : Int} (h0 : 0 ≤ i) (h1 : i < 26) : ∃ c : Nat, atI signsN.cps.toList i = some c ∧ (c : Int) = 97 + i := by
  obtain ⟨n, rfl⟩ := Int.eq_ofNat_of_zero_le h0
  have key : ∀ n : Fin 26, signsN.cps.toList[n.val]? = some (97 + n.val) := by decide +kernel
  exact ⟨97 + n, atI_nat (key ⟨n, by omega⟩), by omega⟩
theorem ok_of {z : Str} {c : Nat} {cs : List Nat} (e : z.cps.toList = c :: cs) (hc : c ∈ lowS.cps.toList) (hcs : ∀ x ∈ cs, x ∈ signsN.cps.toList) (hl : cs.length ≤ 5) : okN z.cps.toList = true := by
  rw [e]
  unfold okN
  simp only [List.length_cons, List.headD_cons, Bool.and_eq_true, decide_eq_true_eq, List.all_eq_true]
  refine ⟨⟨⟨by omega, by omega⟩, decide_eq_true hc⟩, fun x hx => ?_⟩
  rw [← signsN_eq]
  rcases List.mem_cons.mp hx with rfl | hx
  · exact low_sign hc
  · exact hcs x hx
theorem nodup_key {zs : List Str} (key : Str → Int) (h : ∀ (i j : Nat) (a b : Str), i < j → zs[i]? = some a → zs[j]? = some b → key a ≠ key b) : zs.Nodup := by
  refine List.pairwise_iff_getElem.mpr fun i j hi hj hij e => ?_
  exact h i j _ _ hij (List.getElem?_eq_getElem hi) (List.getElem?_eq_getElem hj) (by rw [e])
def firstK (z : Str) : Int := (z.cps.toList.headD 0 : Nat)
def lastK (z : Str) : Int := (z.cps.toList.getLastD 0 : Nat)
def lenK (z : Str) : Int := (z.length : Nat)
def numK (z : Str) : Int := ((z.cps.toList.drop 1).foldl (fun a c => 10 * a + (c - 48)) 0 : Nat)
theorem num_facts {v : Int} (h0 : 0 ≤ v) (h1 : v ≤ 100) : (∀ x ∈ (Str.ofString (toString v)).cps.toList, x ∈ signsN.cps.toList) ∧ (Str.ofString (toString v)).cps.toList.length ≤ 5 ∧ (((Str.ofString (toString v)).cps.toList.foldl (fun a c => 10 * a + (c - 48)) 0 : Nat) : Int) = v := by
  obtain ⟨n, rfl⟩ := Int.eq_ofNat_of_zero_le h0
  have key : ∀ n : Fin 101, (∀ x ∈ (Str.ofString (toString ((n.val : Nat) : Int))).cps.toList, x ∈ signsN.cps.toList) ∧ (Str.ofString (toString ((n.val : Nat) : Int))).cps.toList.length ≤ 5 ∧ ((Str.ofString (toString ((n.val : Nat) : Int))).cps.toList.foldl (fun a c => 10 * a + (c - 48)) 0) = n.val := by decide +kernel
  obtain ⟨h2, h3, h4⟩ := key ⟨n, by omega⟩
  exact ⟨h2, h3, by rw [h4]⟩
theorem one_len (c : Nat) : (⟨#[c]⟩ : Str).cps.toList = [c] := rfl
def keyP (r : Int) (z : Str) : Int := if r % 2 = 0 then lastK z else firstK z
/-- names that are names, each another one, so many -/
structure NamesOk (ns : List Str) (c : Int) : Prop where
  len : (ns.length : Int) = c
  ok : ∀ z ∈ ns, okN z.cps.toList = true
  nd : ns.Nodup
theorem ok_small {z : Str} (h : okN z.cps.toList = true) : z.length ≤ 6 := by
  unfold okN at h
  simp only [Bool.and_eq_true, decide_eq_true_eq] at h
  rw [← str_list_len]
  exact h.1.1.2
theorem NamesOk.nums {lc : Nat} {c st : Int} (hl : lc ∈ lowS.cps.toList) (h1 : 1 ≤ st) (h2 : st ≤ 9) (hc0 : 0 ≤ c) (hc : c ≤ 6) : NamesOk ((List.range c.toNat).map fun k : Nat => (⟨#[lc]⟩ : Str) ++ Str.ofString (toString (st * ((k : Int) + 1)))) c := by
  have sm : ∀ k : Nat, k < c.toNat → 0 ≤ st * ((k : Int) + 1) ∧ st * ((k : Int) + 1) ≤ 100 := fun k hk => num_small st ((k : Int) + 1) (by omega) h2 (by omega) (by omega)
  have lst : ∀ k : Nat, ((⟨#[lc]⟩ : Str) ++ Str.ofString (toString (st * ((k : Int) + 1)))).cps.toList = lc :: (Str.ofString (toString (st * ((k : Int) + 1)))).cps.toList := fun k => by rw [app_signs]; rfl
  refine ⟨by rw [List.length_map, List.length_range]; omega, fun z hz => ?_, nodup_key numK fun i j a b hij ha hb e => ?_⟩
  · obtain ⟨k, hk, rfl⟩ := List.mem_map.mp hz
    obtain ⟨a, b⟩ := sm k (List.mem_range.mp hk)
    obtain ⟨n1, n2, _⟩ := num_facts a b
    exact ok_of (lst k) hl n1 n2
  · have get : ∀ (i : Nat) (a : Str), ((List.range c.toNat).map fun k : Nat => (⟨#[lc]⟩ : Str) ++ Str.ofString (toString (st * ((k : Int) + 1))))[i]? = some a → i < c.toNat ∧ numK a = st * ((i : Int) + 1) := fun i a h => by
      rw [List.getElem?_map] at h
      by_cases hi : i < c.toNat
      · rw [List.getElem?_range hi] at h
        obtain rfl := Option.some.inj h
        obtain ⟨x, y⟩ := sm i hi
        refine ⟨hi, ?_⟩
        unfold numK
        rw [lst]
        exact (num_facts x y).2.2
      · rw [List.getElem?_eq_none (by rw [List.length_range]; omega)] at h
        cases h
    obtain ⟨hi, e1⟩ := get i a ha
    obtain ⟨hj, e2⟩ := get j b hb
    rw [e1, e2] at e
    have := Int.mul_lt_mul_of_pos_left (show (i : Int) + 1 < (j : Int) + 1 by omega) (show 0 < st by omega)
    omega
theorem NamesOk.cuts {wh : Str} {a : Nat} {cs : List Nat} {c : Int} (e : wh.cps.toList = a :: cs) (ha : a ∈ lowS.cps.toList) (hcs : ∀ x ∈ cs, x ∈ signsN.cps.toList) (hl : cs.length = 5) (hc0 : 0 ≤ c) (hc : c ≤ 6) : NamesOk ((List.range c.toNat).map fun k : Nat => cutS wh none (some ((k : Int) + 1))) c := by
  have lst : ∀ k : Nat, k < 6 → (cutS wh none (some ((k : Int) + 1))).cps.toList = a :: cs.take k := fun k hk => by
    have hw : wh.length = 6 := by rw [← str_list_len, e, List.length_cons, hl]
    unfold cutS
    rw [HT.sIx_none, show (k : Int) + 1 = ((k + 1 : Nat) : Int) by omega, HT.sIx_nat, hw, e, show min (k + 1) 6 = k + 1 by omega]
    show List.take (k + 1) (a :: cs) = _
    rw [List.take_succ_cons]
  refine ⟨by rw [List.length_map, List.length_range]; omega, fun z hz => ?_, nodup_key lenK fun i j x y hij hx hy q => ?_⟩
  · obtain ⟨k, hk, rfl⟩ := List.mem_map.mp hz
    have := List.mem_range.mp hk
    exact ok_of (lst k (by omega)) ha (fun x hx => hcs x (List.mem_of_mem_take hx)) (by rw [List.length_take]; omega)
  · have get : ∀ (i : Nat) (x : Str), ((List.range c.toNat).map fun k : Nat => cutS wh none (some ((k : Int) + 1)))[i]? = some x → i < c.toNat ∧ lenK x = (i : Int) + 1 := fun i x h => by
      rw [List.getElem?_map] at h
      by_cases hi : i < c.toNat
      · rw [List.getElem?_range hi] at h
        obtain rfl := Option.some.inj h
        refine ⟨hi, ?_⟩
        unfold lenK
        rw [← str_list_len, lst i (by omega), List.length_cons, List.length_take, hl]
        omega
      · rw [List.getElem?_eq_none (by rw [List.length_range]; omega)] at h
        cases h
    obtain ⟨hi, e1⟩ := get i x hx
    obtain ⟨hj, e2⟩ := get j y hy
    rw [e1, e2] at q
    omega
/-- _law_names(state, count) -/
def spNames : Sp := fun vs H Q _ => ∃ (p : Addr) (m : Nat) (c : Int), vs = [.ref p, .int c] ∧ StAt H p m ∧ 0 ≤ c ∧ c ≤ 6 ∧ m ≤ 900000000 ∧
  ∀ q H' (ns : List Str) m', Frn p H q → StAt H' p m' → m' ≤ m + 60 → Nx p H H' → Sep H' p q (.lst (ns.map V.str)) → NamesOk ns c → Q (.ref q) H'
theorem ok_law_names (T : Txt K mg) : FnOk P w K mg base CX0 2 T.f_law_names T.fd_law_names ["_law_state", "_law_count"] spNames := by
  refine T.F_law_names.ok sc_law_names (fun vs H Q E h => ?_) (fun cdv A outer s H vs Q E hr h => ?_)
  · obtain ⟨p, m, c, rfl, _⟩ := h
    rfl
  · obtain ⟨p, m, c, rfl, S, hc0, hc1, hm, q⟩ := h
    refine ⟨_, (pss_cons (ps_set (i := 2) sc_law_names.nd rfl (Or.inr rfl) pe_str)
    (pss_cons (ps_set (i := 3) sc_law_names.nd rfl (Or.inl rfl) (pe_join pe_str (pe_lc (own := [("_law_k", 4)]) (g := gName 4) (tt := tYes) rfl sc_law_names.nd (pi_range1 rfl T.n_range (pa_cons (pe_call (ok_law_draw T) (hr.mono (by decide)) (by rfl) T.g_law_draw T.F_law_draw.kp T.b_law_draw .nil pass0 (pa_cons (pv 0) (pa_cons pe_int pa_nil))) pa_nil)) (blkOk_by (own := [("_law_k", 4)]) (N := N_law_names) (sc := defScope s_law_names) (by decide +kernel)) (fun _ _ _ _ _ => (pg_name (i := 4) sc_law_names.nd rfl (Or.inl rfl))) (fun _ _ _ _ _ => pts_nil) (fun _ _ _ _ _ => (pe_ix ix_str (pv 2) (pe_call (ok_law_draw T) (hr.mono (by decide)) (by rfl) T.g_law_draw T.F_law_draw.kp T.b_law_draw .nil pass0 (pa_cons (pv 0) (pa_cons pe_int pa_nil))) (fun _ _ => rfl))))))
    (pss_cons (ps_set (i := 5) sc_law_names.nd rfl (Or.inr rfl) (pe_ix ix_str (pv 2) (pe_call (ok_law_draw T) (hr.mono (by decide)) (by rfl) T.g_law_draw T.F_law_draw.kp T.b_law_draw .nil pass0 (pa_cons (pv 0) (pa_cons pe_int pa_nil))) (fun _ _ => rfl)))
    (pss_cons (ps_set (i := 6) sc_law_names.nd rfl (Or.inl rfl) (pe_call (ok_law_draw T) (hr.mono (by decide)) (by rfl) T.g_law_draw T.F_law_draw.kp T.b_law_draw .nil pass0 (pa_cons (pv 0) (pa_cons pe_int pa_nil))))
    (pss_cons (ps_set (i := 7) sc_law_names.nd rfl (Or.inl rfl) (pe_ix (r := rIxL K) ix_list (pe_lstO (pa_cons pe_int (pa_cons pe_int (pa_cons pe_int (pa_cons pe_int (pa_cons pe_int (pa_cons pe_int pa_nil))))))) (pe_call (ok_law_draw T) (hr.mono (by decide)) (by rfl) T.g_law_draw T.F_law_draw.kp T.b_law_draw .nil pass0 (pa_cons (pv 0) (pa_cons pe_int pa_nil))) (fun _ _ => rfl)))
    (pss_cons (ps_set (i := 8) sc_law_names.nd rfl (Or.inl rfl) (pe_call (ok_law_draw T) (hr.mono (by decide)) (by rfl) T.g_law_draw T.F_law_draw.kp T.b_law_draw .nil pass0 (pa_cons (pv 0) (pa_cons pe_int pa_nil))))
    (pss_stop (ps_if (PW.pt (pw_and (pt_cmpR op_eq (pv 8) pe_int (nomark _)) (pw_and1 (pt_cmpR op_lt (pv 1) pe_int (nomark _)))))
      (pss_one (ps_ret (pe_slice sl_listO (pe_lstO (pa_cons pe_str (pa_cons pe_str (pa_cons pe_str (pa_cons pe_str (pa_cons pe_str (pa_cons pe_str pa_nil))))))) po_none (po_some (pv 1))))) pss_nil)
    (pss_stop (ps_if (PW.pt (pw_or (pt_cmpR op_eq (pv 8) pe_int (nomark _)) (pw_or1 (PW.pt (pw_and (pt_cmpR op_eq (pv 8) pe_int (nomark _)) (pw_and1 (pt_cmpR op_gt (pv 1) pe_int (nomark _))))))))
      (pss_cons (ps_set (i := 9) sc_law_names.nd rfl (Or.inr rfl) (pe_op op_add pe_int (pe_call (ok_law_draw T) (hr.mono (by decide)) (by rfl) T.g_law_draw T.F_law_draw.kp T.b_law_draw .nil pass0 (pa_cons (pv 0) (pa_cons pe_int pa_nil)))))
    (pss_one (ps_ret (pe_lc (own := [("_law_k", 4)]) (g := gName 4) (tt := tYes) rfl sc_law_names.nd (pi_range1 rfl T.n_range (pa_cons (pv 1) pa_nil)) (blkOk_by (own := [("_law_k", 4)]) (N := N_law_names) (sc := defScope s_law_names) (by decide +kernel)) (fun _ _ _ _ _ => (pg_name (i := 4) sc_law_names.nd rfl (Or.inl rfl))) (fun _ _ _ _ _ => pts_nil) (fun _ _ _ _ _ => (pe_op op_add_str (pv 5) (pe_callTy (T := "str") call_str_int (by rfl) T.n_str (by decide +kernel) (pa_cons (pe_op op_mul (pv 9) (pe_op op_add (pv 4) pe_int)) pa_nil)))))))) pss_nil)
    (pss_cons (ps_if (pt_cmpR op_eq (pv 8) pe_int (nomark _))
      (pss_cons (ps_set (i := 10) sc_law_names.nd rfl (Or.inr rfl) (pe_op op_add_str (pv 5) (pe_join pe_str (pe_lc (own := [("_law_k", 4)]) (g := gName 4) (tt := tYes) rfl sc_law_names.nd (pi_range1 rfl T.n_range (pa_cons pe_int pa_nil)) (blkOk_by (own := [("_law_k", 4)]) (N := N_law_names) (sc := defScope s_law_names) (by decide +kernel)) (fun _ _ _ _ _ => (pg_name (i := 4) sc_law_names.nd rfl (Or.inl rfl))) (fun _ _ _ _ _ => pts_nil) (fun _ _ _ _ _ => (pe_ix ix_str (pv 2) (pe_call (ok_law_draw T) (hr.mono (by decide)) (by rfl) T.g_law_draw T.F_law_draw.kp T.b_law_draw .nil pass0 (pa_cons (pv 0) (pa_cons pe_int pa_nil))) (fun _ _ => rfl)))))))
    (pss_one (ps_ret (pe_lc (own := [("_law_k", 4)]) (g := gName 4) (tt := tYes) rfl sc_law_names.nd (pi_range1 rfl T.n_range (pa_cons (pv 1) pa_nil)) (blkOk_by (own := [("_law_k", 4)]) (N := N_law_names) (sc := defScope s_law_names) (by decide +kernel)) (fun _ _ _ _ _ => (pg_name (i := 4) sc_law_names.nd rfl (Or.inl rfl))) (fun _ _ _ _ _ => pts_nil) (fun _ _ _ _ _ => (pe_slice sl_str (pv 10) po_none (po_some (pe_op op_add (pv 4) pe_int)))))))) pss_nil)
    (pss_cons (ps_set (i := 11) sc_law_names.nd rfl (Or.inl rfl) (pe_lstO pa_nil))
    (pss_stop (ps_for PassesOwn.never rfl (pi_hold (pi_range1 rfl T.n_range (pa_cons (pv 1) pa_nil))) (pg_name (i := 4) sc_law_names.nd rfl (Or.inl rfl))
      (pss_cons (ps_set (i := 12) sc_law_names.nd rfl (Or.inl rfl) (pe_ix ix_str (pv 2) (pe_op op_mod (pe_callTy (T := "int") call_int1 (by rfl) T.n_int (by decide +kernel) (pa_cons (pe_op op_add (pv 6) (pe_op op_mul (pv 7) (pv 4))) pa_nil)) pe_int) (fun _ _ => rfl)))
    (pss_stop (ps_set (i := 13) sc_law_names.nd rfl (Or.inl rfl) (pe_ix (r := rIxL K) ix_list (pe_lstO (pa_cons (pv 3) (pa_cons pe_str pa_nil))) (pe_callTy (T := "int") call_int1 (by rfl) T.n_int (by decide +kernel) (pa_cons (pe_and (pe_cmpR op_gt (pv 8) pe_int (nomark _)) (pe_one (pe_cmpR op_eq (pe_op op_mod (pv 4) pe_int) pe_int (nomark _)))) pa_nil)) (fun _ _ => rfl)))
    (pss_one (ps_expr (pe_bm PySem.F.plainAttrs_list PySem.F.slot_list_append PySem.F.type_list_append mt_append (pv 11) (pa_cons (pe_ix (r := rIxL K) ix_list (pe_lstO (pa_cons (pe_op op_add_str (pe_op op_add_str (pv 5) (pv 13)) (pv 12)) (pa_cons (pe_op op_add_str (pv 12) (pv 13)) pa_nil))) (pe_op op_mod (pe_callTy (T := "int") call_int1 (by rfl) T.n_int (by decide +kernel) (pa_cons (pv 8) pa_nil)) pe_int) (fun _ _ => rfl)) pa_nil)))))))
    (pss_one (ps_ret (pv 11)))))))))))))), ?_⟩
    have z1 := signsN_len
    have z2 : signsN.length ≤ sizeLine := by rw [z1]; decide
    walk_at "rd"
    intro r1 H1 h10 h11 S1 x1
    walk_at "rd"
    intro D hD
    refine lc_dr walk_range (by omega) p _ 1 (fun _ y => ∃ c, y = .str ⟨#[c]⟩ ∧ c ∈ signsN.cps.toList) S1 hD (fun _ _ _ _ _ _ h => h) (fun _ _ => trivial) ?_ ?_
    · intro i m2 x H3 H4 Qk hi S3 hm2 x3 _ hy hk
      obtain ⟨rfl, rfl⟩ := hy
      walk_at "rd"
      intro r3 H5 h30 h31 S5 x5
      obtain ⟨cc, hat, hcc⟩ := sign_pick (z := signsN) h30 (by omega)
      walk_at "rd"
      exact hk _ _ _ ⟨_, rfl, hcc⟩ S5 (Nat.le_refl _) x5
    · intro H3 m3 acc S3 hm3 x3 sD hl hr'
      obtain ⟨cs, rfl, hcs⟩ := acc_signs2 hr'
      have hcl : cs.length ≤ 4 := by
        rw [List.length_map] at hl
        omega
      have xx := x1.trans x3
      have hm3' : m3 ≤ m + 6 := by omega
      clear S1 x1 x3 hD hr' hl hm3 S
      walk_at "rd"
      refine ⟨show SqL _ _ _ ((cs.map fun c => (⟨#[c]⟩ : Str)).map V.str) ∨ _ from .inl (.inl (.inl (by rw [List.map_map]; exact sD.at_))), ?_, ?_⟩
      · rw [signs_len, List.length_map]
        show cs.length + cs.length * 0 ≤ 16777216
        omega
      have hst := joined_len cs
      have hst2 : (Txt.join (Str.ofString "") (cs.map fun c => ⟨#[c]⟩)).cps.toList = cs := by rw [empty_str, join_signs]
      generalize Txt.join (Str.ofString "") (cs.map fun c => ⟨#[c]⟩) = stem at hst hst2 ⊢
      have hstem : stem.length ≤ 4 := by omega
      have hstc : ∀ x ∈ stem.cps.toList, x ∈ signsN.cps.toList := by rw [hst2]; exact hcs
      clear hst hst2 hcs hcl sD cs
      walk_at "rd"
      intro r4 H4 h40 h41 S4 x4
      obtain ⟨lc, hat4, hlc4⟩ := sign_low h40 (by omega)
      have hlc : lc ∈ lowS.cps.toList := low_of (by omega) (by omega)
      walk_at "rd"
      intro r5 H5 h50 h51 S5 x5
      walk_at "rd"
      refine ⟨by show 6 ≤ sizeLine; decide, fun l6 H6 n6 s6 hl6 => ?_⟩
      have S6 := S5.same s6
      have x6 := S5.nx s6
      have hl6' := Sep.of_new S5 s6 n6 hl6
      walk_at "rd"
      intro r7 H7 h70 h71 S7 x7
      have hl7 := x7 _ _ hl6'
      obtain ⟨sv, hat7, hsv⟩ := at_pick (l := [V.int 1, V.int 3, V.int 5, V.int 7, V.int 9, V.int 11]) h70 (by simpa using h71)
      obtain ⟨st, rfl, hst0, hst1, hst6⟩ : ∃ k : Int, sv = .int k ∧ 1 ≤ k ∧ k ≤ 11 ∧ (k = 1 ∨ k = 3 ∨ k = 5 ∨ k = 7 ∨ k = 9 ∨ k = 11) := by
        simp only [List.mem_cons, List.not_mem_nil, or_false] at hsv
        rcases hsv with rfl | rfl | rfl | rfl | rfl | rfl
        all_goals exact ⟨_, rfl, by decide, by decide, by decide⟩
      clear hsv
      walk_at "rd"
      intro r8 H8 h80 h81 S8 x8
      have xx8 : Nx p H H8 := ((((xx.trans x4).trans x5).trans x6).trans x7).trans x8
      have hm8 : m3 + 1 + 1 + 1 + 1 ≤ m + 10 := by omega
      generalize m3 + 1 + 1 + 1 + 1 = m8 at S8 hm8
      clear S3 S4 S5 S6 S7 hl6' hl7 hl6 n6 s6 x4 x5 x6 x7 x8 xx hat4 hlc4 hat7 h40 h41 h70 h71 h10 h11 hm3'
      have fin : ∀ (q9 : Addr) (H9 : Hp) (ns : List Str) (m9 : Nat), Frn p H8 q9 → StAt H9 p m9 → m9 ≤ m8 + 40 → Nx p H8 H9 → Sep H9 p q9 (.lst (ns.map V.str)) → NamesOk ns c → Q (.ref q9) H9 := fun q9 H9 ns m9 n9 S9 hm9 x9 hq9 h1 => q q9 H9 ns m9 (n9.nx xx8) S9 (by omega) (xx8.trans x9) hq9 h1
      refine Stop.cut (fun σ H' => σ = [some (.ref p), some (.int c), some (.str signsN), some (.str stem), none, some (.str ⟨#[lc]⟩), some (.int r5), some (.int st), some (.int r8), none, none, none, none, none] ∧ H8 = H') (fun Qz hz => ?_) ?_
      · have zz := hz _ _ ⟨rfl, rfl⟩
        walk_at "rd"
        refine ite2 (fun e1 => ?_) (fun e1 => ?_)
        · walk_at "rd"
          refine ite2 (fun e2 => ?_) (fun e2 => ?_)
          · walk_at "rd"
            refine ⟨by show 6 ≤ sizeLine; decide, fun l9 H9 n9 s9 hl9 => ?_⟩
            walk_at "rd"
            intro q9 H10 n10 s10 hq10
            have s810 := s9.trans s10
            have e : cutV [V.str "group", V.str "x", V.str "x1", V.str "x10", V.str "turn", V.str "drop"] none (some c) = (([("group" : Str), "x", "x1", "x10", "turn", "drop"] : List Str).take c.toNat).map V.str := by
              obtain ⟨k, rfl⟩ := Int.eq_ofNat_of_zero_le hc0
              unfold cutV
              rw [HT.sIx_none, HT.sIx_nat]
              have hk : k ≤ 6 := by
                have := of_decide_eq_true e2
                omega
              rw [List.map_take]
              show List.take (min k 6 - 0) _ = _
              rw [Nat.min_eq_left hk]
              rfl
            rw [e] at hq10
            refine fin q9 H10 _ m8 (Frn.none (s9.free n10)) (S8.same s810) (by omega) (S8.nx s810) (Sep.of_new S8 s810 (s9.free n10) hq10) ⟨?_, ?_, ?_⟩
            · rw [List.length_take]
              show ((min c.toNat 6 : Nat) : Int) = c
              omega
            · intro z hz'
              have := List.mem_of_mem_take hz'
              simp only [List.mem_cons, List.not_mem_nil, or_false] at this
              rcases this with rfl | rfl | rfl | rfl | rfl | rfl
              all_goals decide +kernel
            · exact (show ([("group" : Str), "x", "x1", "x10", "turn", "drop"] : List Str).Nodup by decide +kernel).sublist (List.take_sublist _ _)
          · exact zz
        · exact zz
      · rintro _ _ ⟨rfl, rfl⟩
        walk_at "rd"
        refine Stop.cut (fun σ H' => σ = [some (.ref p), some (.int c), some (.str signsN), some (.str stem), none, some (.str ⟨#[lc]⟩), some (.int r5), some (.int st), some (.int r8), none, none, none, none, none] ∧ H8 = H') (fun Qz hz => ?_) ?_
        · have zz := hz _ _ ⟨rfl, rfl⟩
          walk_at "rd"
          refine ite2 (fun e1 => ?_) (fun e1 => ?_)
          · refine iteT ?_
            walk_at "rd"
            intro r9 H9 h90 h91 S9 x9
            walk_at "rd"
            intro D hD
            refine lc_all walk_range (xs := List.range c.toNat) (by rw [List.length_range]) (by omega) (fun k : Nat => V.str ((⟨#[lc]⟩ : Str) ++ Str.ofString (toString ((1 + r9) * ((k : Int) + 1))))) hD (fun _ _ => trivial) ?_ ?_
            · intro i k x H3 H4 Qk hik s3 hy hk
              obtain ⟨rfl, rfl⟩ := hy
              obtain ⟨hi, rfl⟩ : i < c.toNat ∧ i = k := by
                by_cases hi : i < c.toNat
                · rw [List.getElem?_range hi] at hik
                  exact ⟨hi, Option.some.inj hik⟩
                · rw [List.getElem?_eq_none (by rw [List.length_range]; omega)] at hik
                  cases hik
              have hv := num_small (1 + r9) (0 + (i : Int) + 1) (by omega) (by omega) (by omega) (by omega)
              have hl := num_len hv.1 hv.2
              have hlg := num_log hv.1 hv.2
              rw [Int.zero_add] at hv hl hlg
              walk_at "rd"
              rw [Int.zero_add]
              refine ⟨.inl ⟨by omega, by omega⟩, ?_⟩
              walk_at "rd"
              refine ⟨by show 1 + _ ≤ sizeLine; exact Nat.le_trans (Nat.add_le_add_left hl 1) (by decide), ?_⟩
              exact hk _ (Same.refl _)
            · intro H3 s3 hD3
              refine fin D H3 ((List.range c.toNat).map fun k : Nat => (⟨#[lc]⟩ : Str) ++ Str.ofString (toString ((1 + r9) * ((k : Int) + 1)))) _ ((Frn.none hD).nx x9) (S9.same s3) (by omega) (x9.trans (S9.nx s3)) (Sep.of_new S9 s3 hD (by rw [List.map_map]; exact hD3)) ?_
              exact NamesOk.nums hlc (by omega) (by omega) hc0 hc1
          · walk_at "rd"
            refine ite2 (fun e2 => ?_) (fun e2 => ?_)
            · walk_at "rd"
              refine ite2 (fun e3 => ?_) (fun e3 => ?_)
              · walk_at "rd"
                intro r9 H9 h90 h91 S9 x9
                walk_at "rd"
                intro D hD
                refine lc_all walk_range (xs := List.range c.toNat) (by rw [List.length_range]) (by omega) (fun k : Nat => V.str ((⟨#[lc]⟩ : Str) ++ Str.ofString (toString ((1 + r9) * ((k : Int) + 1))))) hD (fun _ _ => trivial) ?_ ?_
                · intro i k x H3 H4 Qk hik s3 hy hk
                  obtain ⟨rfl, rfl⟩ := hy
                  obtain ⟨hi, rfl⟩ : i < c.toNat ∧ i = k := by
                    by_cases hi : i < c.toNat
                    · rw [List.getElem?_range hi] at hik
                      exact ⟨hi, Option.some.inj hik⟩
                    · rw [List.getElem?_eq_none (by rw [List.length_range]; omega)] at hik
                      cases hik
                  have hv := num_small (1 + r9) (0 + (i : Int) + 1) (by omega) (by omega) (by omega) (by omega)
                  have hl := num_len hv.1 hv.2
                  have hlg := num_log hv.1 hv.2
                  rw [Int.zero_add] at hv hl hlg
                  walk_at "rd"
                  rw [Int.zero_add]
                  refine ⟨.inl ⟨by omega, by omega⟩, ?_⟩
                  walk_at "rd"
                  refine ⟨by show 1 + _ ≤ sizeLine; exact Nat.le_trans (Nat.add_le_add_left hl 1) (by decide), ?_⟩
                  exact hk _ (Same.refl _)
                · intro H3 s3 hD3
                  refine fin D H3 ((List.range c.toNat).map fun k : Nat => (⟨#[lc]⟩ : Str) ++ Str.ofString (toString ((1 + r9) * ((k : Int) + 1)))) _ ((Frn.none hD).nx x9) (S9.same s3) (by omega) (x9.trans (S9.nx s3)) (Sep.of_new S9 s3 hD (by rw [List.map_map]; exact hD3)) ?_
                  exact NamesOk.nums hlc (by omega) (by omega) hc0 hc1
              · first
                  | exact zz
                  | (refine iteF ?_; exact zz)
            · first
                | exact zz
                | (refine iteF ?_; exact zz)
        · rintro _ _ ⟨rfl, rfl⟩
          walk_at "rd"
          refine ite2 (fun e1 => ?_) (fun e1 => ?_)
          · walk_at "rd"
            intro D hD
            refine lc_dr walk_range (by omega) p _ 1 (fun _ y => ∃ c, y = .str ⟨#[c]⟩ ∧ c ∈ signsN.cps.toList) S8 hD (fun _ _ _ _ _ _ h => h) (fun _ _ => trivial) ?_ ?_
            · intro i m2 x H3 H4 Qk hi S3 hm2 x3 _ hy hk
              obtain ⟨rfl, rfl⟩ := hy
              walk_at "rd"
              intro r3 H5 h30 h31 S5 x5
              obtain ⟨cc, hat, hcc⟩ := sign_pick (z := signsN) h30 (by omega)
              walk_at "rd"
              exact hk _ _ _ ⟨_, rfl, hcc⟩ S5 (Nat.le_refl _) x5
            · intro H9 m9 acc S9 hm9 x9 sD hl hr'
              obtain ⟨cs, rfl, hcs⟩ := acc_signs2 hr'
              have hcl : cs.length = 5 := by
                rw [List.length_map] at hl
                omega
              walk_at "rd"
              refine ⟨show SqL _ _ _ ((cs.map fun c => (⟨#[c]⟩ : Str)).map V.str) ∨ _ from .inl (.inl (.inl (by rw [List.map_map]; exact sD.at_))), ?_, ?_⟩
              · rw [signs_len, List.length_map]
                show cs.length + cs.length * 0 ≤ 16777216
                omega
              have hst := joined_len cs
              have hst2 : (Txt.join (Str.ofString "") (cs.map fun c => ⟨#[c]⟩)).cps.toList = cs := by rw [empty_str, join_signs]
              generalize Txt.join (Str.ofString "") (cs.map fun c => ⟨#[c]⟩) = tail at hst hst2 ⊢
              have hwl : ((⟨#[lc]⟩ : Str) ++ tail).length ≤ 6 := by
                rw [app_len]
                show 1 + tail.length ≤ 6
                omega
              have hw2 : ((⟨#[lc]⟩ : Str) ++ tail).cps.toList = lc :: cs := by
                rw [app_signs, hst2]
                rfl
              walk_at "rd"
              refine ⟨by show 1 + tail.length ≤ sizeLine; exact Nat.le_trans (show 1 + tail.length ≤ 6 by omega) (by decide), ?_⟩
              generalize (⟨#[lc]⟩ : Str) ++ tail = whole at hwl hw2
              have hwl2 : whole.length ≤ sizeLine := Nat.le_trans hwl (by decide)
              walk_at "rd"
              intro D2 hD2
              refine lc_all walk_range (xs := List.range c.toNat) (by rw [List.length_range]) (by omega) (fun k : Nat => V.str (cutS whole none (some ((k : Int) + 1)))) hD2 (fun _ _ => trivial) ?_ ?_
              · intro i k x H3 H4 Qk hik s3 hy hk
                obtain ⟨rfl, rfl⟩ := hy
                obtain ⟨hi, rfl⟩ : i < c.toNat ∧ i = k := by
                  by_cases hi : i < c.toNat
                  · rw [List.getElem?_range hi] at hik
                    exact ⟨hi, Option.some.inj hik⟩
                  · rw [List.getElem?_eq_none (by rw [List.length_range]; omega)] at hik
                    cases hik
                walk_at "rd"
                rw [Int.zero_add]
                exact hk _ (Same.refl _)
              · intro H3 s3 hD3
                refine fin D2 H3 ((List.range c.toNat).map fun k : Nat => cutS whole none (some ((k : Int) + 1))) _ ((Frn.none hD2).nx x9) (S9.same s3) (by omega) (x9.trans (S9.nx s3)) (Sep.of_new S9 s3 hD2 (by rw [List.map_map]; exact hD3)) ?_
                exact NamesOk.cuts hw2 hlc hcs hcl hc0 hc1
          · walk_at "rd"
            refine ⟨by decide, fun l9 H9 n9 s9 hl9 => ?_⟩
            have S9 := S8.same s9
            have x9 := S8.nx s9
            have hl9' := Sep.of_new S8 s9 n9 hl9
            refine Stop.cut (fun σ H' => ∃ (y4 y12 y13 : Option V) (zs : List Str), σ = [some (.ref p), some (.int c), some (.str signsN), some (.str stem), y4, some (.str ⟨#[lc]⟩), some (.int r5), some (.int st), some (.int r8), none, none, some (.ref l9), y12, y13] ∧ StAt H' p m8 ∧ Nx p H8 H' ∧ Sep H' p l9 (.lst (zs.map V.str)) ∧ (zs.length : Int) = c ∧ (∀ z ∈ zs, okN z.cps.toList = true) ∧ ∀ (j : Nat) (z : Str), zs[j]? = some z → keyP r8 z = 97 + (r5 + st * (j : Int)) % 26) (fun Qz hz => ?_) ?_
            · walk_at "rd"
              refine ⟨for_it walk_range (fun i σ H' => ∃ (y4 y12 y13 : Option V) (zs : List Str), σ = [some (.ref p), some (.int c), some (.str signsN), some (.str stem), y4, some (.str ⟨#[lc]⟩), some (.int r5), some (.int st), some (.int r8), none, none, some (.ref l9), y12, y13] ∧ StAt H' p m8 ∧ Nx p H8 H' ∧ Sep H' p l9 (.lst (zs.map V.str)) ∧ zs.length = i ∧ (∀ z ∈ zs, okN z.cps.toList = true) ∧ ∀ (j : Nat) (z : Str), zs[j]? = some z → keyP r8 z = 97 + (r5 + st * (j : Int)) % 26) ⟨none, none, none, [], rfl, S9, x9, hl9', rfl, (fun _ h => nomatch h), fun j z h => by simp at h⟩ (fun _ _ _ _ _ => trivial) ?_ ?_⟩
              · rintro i x _ H3 H4 hi ⟨y4, y12, y13, zs, rfl, S3, x3, sl3, hzl, hz3, hzk⟩ ⟨rfl, rfl⟩
                have hi' : (i : Int) < c := by omega
                have hmul : 0 ≤ st * (0 + (i : Int)) ∧ st * (0 + (i : Int)) ≤ 100 := by
                  refine ⟨Int.mul_nonneg (by omega) (by omega), ?_⟩
                  have := Int.mul_le_mul hst1 (show 0 + (i : Int) ≤ 7 by omega) (by omega) (show (0 : Int) ≤ 11 by decide)
                  omega
                have hx0 : 0 ≤ (r5 + st * (0 + (i : Int))) % 26 := Int.emod_nonneg _ (by decide)
                have hx1 : (r5 + st * (0 + (i : Int))) % 26 < 26 := Int.emod_lt_of_pos _ (by decide)
                obtain ⟨cc, hat, hcc⟩ := sign_low hx0 (by omega)
                have hccl : cc ∈ lowS.cps.toList := low_of (by omega) (by omega)
                walk_at "rd"
                refine ⟨.inl ⟨by omega, by omega⟩, ?_⟩
                walk_at "rd"
                refine .inl ?_
                walk_at "rd"
                refine Stop.cut (fun σ H' => ∃ bk : Str, (bk.length ≤ 4 ∧ ∀ x ∈ bk.cps.toList, x ∈ signsN.cps.toList) ∧ σ = [some (.ref p), some (.int c), some (.str signsN), some (.str stem), some (.int (0 + (i : Int))), some (.str ⟨#[lc]⟩), some (.int r5), some (.int st), some (.int r8), none, none, some (.ref l9), some (.str ⟨#[cc]⟩), some (.str bk)] ∧ StAt H' p m8 ∧ Nx p H4 H') (fun Qz2 hz2 => ?_) ?_
                · walk_at "rd"
                  refine ⟨by show 2 ≤ sizeLine; decide, fun l5 H5 n5 s5 hl5 => ?_⟩
                  have S5 := S3.same s5
                  have x5 := S3.nx s5
                  have at0' : atI [V.str stem, V.str ""] 0 = some (.str stem) := rfl
                  have at1' : atI [V.str stem, V.str ""] 1 = some (.str "") := rfl
                  have hl5' : SqL K H5 l5 [V.str stem, V.str ""] := SqL.of hl5
                  have z0 := hz2 _ _ ⟨stem, ⟨hstem, hstc⟩, rfl, S5, x5⟩
                  have z1 := hz2 _ _ ⟨"", ⟨by decide +kernel, by decide +kernel⟩, rfl, S5, x5⟩
                  walk_at "rd"
                  refine ite2 (fun e1 => ?_) (fun e1 => ?_)
                  · walk_at "rd"
                    refine .inr ⟨_, rfl, ?_⟩
                    by_cases e2 : decide (V.int ((0 + (i : Int)) % 2) = V.int 1) = true
                    · rw [if_pos e2]
                      exact ⟨l5, _, 1, _, rfl, rfl, hl5', at1', z1⟩
                    · rw [if_neg e2]
                      exact ⟨l5, _, 0, _, rfl, rfl, hl5', at0', z0⟩
                  · walk_at "rd"
                    refine .inr ⟨_, rfl, ?_⟩
                    exact ⟨l5, _, 0, _, rfl, rfl, hl5', at0', z0⟩
                · rintro _ H5 ⟨bk, ⟨hbk, hbkc⟩, rfl, S5, x5⟩
                  have sl5 := x5 _ _ sl3
                  have h1 : ((⟨#[lc]⟩ : Str) ++ bk).length ≤ 10 := by
                    rw [app_len]
                    show 1 + bk.length ≤ 10
                    omega
                  have h2 : ((⟨#[lc]⟩ : Str) ++ bk ++ ⟨#[cc]⟩).length ≤ 20 := by
                    rw [app_len]
                    show _ + 1 ≤ 20
                    omega
                  have h3 : ((⟨#[cc]⟩ : Str) ++ bk).length ≤ 20 := by
                    rw [app_len]
                    show 1 + bk.length ≤ 20
                    omega
                  have hp0 : 0 ≤ r8 % 2 := Int.emod_nonneg _ (by decide)
                  have hp1 : r8 % 2 < 2 := Int.emod_lt_of_pos _ (by decide)
                  walk_at "rd"
                  refine ⟨.inl ⟨rfl, _, sl5.sq⟩, ?_⟩
                  walk_at "rd"
                  have le20 : ∀ n : Nat, n ≤ 20 → n ≤ sizeLine := fun n h => Nat.le_trans h (by decide)
                  refine ⟨le20 _ (by show 1 + bk.length ≤ 20; omega), ?_⟩
                  walk_at "rd"
                  refine ⟨le20 _ (by show ((⟨#[lc]⟩ : Str) ++ bk).length + 1 ≤ 20; omega), ?_⟩
                  walk_at "rd"
                  refine ⟨le20 _ (by show 1 + bk.length ≤ 20; omega), ?_⟩
                  walk_at "rd"
                  have hbl : bk.cps.toList.length ≤ 4 := by rw [str_list_len]; exact hbk
                  have w1l : ((⟨#[lc]⟩ : Str) ++ bk ++ ⟨#[cc]⟩).cps.toList = lc :: (bk.cps.toList ++ [cc]) := by rw [app_signs, app_signs]; rfl
                  have w2l : ((⟨#[cc]⟩ : Str) ++ bk).cps.toList = cc :: bk.cps.toList := by rw [app_signs]; rfl
                  generalize (⟨#[lc]⟩ : Str) ++ bk ++ ⟨#[cc]⟩ = w1 at h2 w1l ⊢
                  generalize (⟨#[cc]⟩ : Str) ++ bk = w2 at h3 w2l ⊢
                  refine ⟨by show 2 ≤ sizeLine; decide, fun l6 H6 n6 s6 hl6 => ?_⟩
                  have S6 := S5.same s6
                  have x6 := S5.nx s6
                  have sl6 := x6 _ _ sl5
                  obtain ⟨ww, hwv, hww, hwk⟩ : ∃ z : Str, atI [V.str w1, V.str w2] (r8 % 2) = some (.str z) ∧ okN z.cps.toList = true ∧ keyP r8 z = 97 + (r5 + st * (i : Int)) % 26 := by
                    rw [Int.zero_add] at hcc
                    rcases (show r8 % 2 = 0 ∨ r8 % 2 = 1 by omega) with e | e
                    · refine ⟨w1, by rw [e]; rfl, ok_of w1l hlc (fun x hx => ?_) (by rw [List.length_append]; simp; omega), ?_⟩
                      · rcases List.mem_append.mp hx with hx | hx
                        · exact hbkc x hx
                        · rw [List.mem_singleton.mp hx]
                          exact low_sign hccl
                      · unfold keyP lastK
                        rw [if_pos e, w1l, ← List.cons_append, List.getLastD_concat]
                        exact hcc
                    · refine ⟨w2, by rw [e]; rfl, ok_of w2l hccl hbkc (by omega), ?_⟩
                      unfold keyP firstK
                      rw [if_neg (by omega), w2l]
                      exact hcc
                  walk_at "rd"
                  refine .inl ?_
                  have hl6' : SqL K H6 l6 [V.str w1, V.str w2] := SqL.of hl6
                  walk_at "rd"
                  refine ⟨sl6.at_, by rw [List.length_map]; exact Nat.lt_of_le_of_lt (show zs.length ≤ 7 by omega) (by decide), ?_⟩
                  refine ⟨_, _, _, zs ++ [ww], rfl, S6.put sl6, fun q o h => (((x3.trans x5).trans x6) q o h).put_ne sl6 (ne_of_none h.at_ n9), by rw [List.map_append]; exact sl6.put_same, by simp [hzl], fun z hz => ?_, fun j z hj => ?_⟩
                  · rcases List.mem_append.mp hz with hz | hz
                    · exact hz3 z hz
                    · rw [List.mem_singleton.mp hz]
                      exact hww
                  · by_cases hji : j < i
                    · rw [List.getElem?_append_left (by omega)] at hj
                      exact hzk j z hj
                    · have hji2 : j = i := by
                        have := (List.getElem?_eq_some_iff.mp hj).1
                        rw [List.length_append] at this
                        simp at this
                        omega
                      subst hji2
                      rw [List.getElem?_append_right (by omega), hzl, Nat.sub_self] at hj
                      obtain rfl := Option.some.inj hj
                      exact hwk
              · rintro σ H3 ⟨y4, y12, y13, zs, rfl, S3, x3, sl3, hzl, hz3, hzk⟩
                exact hz _ _ ⟨y4, y12, y13, zs, rfl, S3, x3, sl3, by omega, hz3, hzk⟩
            · rintro _ H3 ⟨y4, y12, y13, zs, rfl, S3, x3, sl3, hzl, hz3, hzk⟩
              walk_at "rd"
              refine fin l9 H3 zs m8 (Frn.none n9) S3 (by omega) x3 sl3 ⟨hzl, hz3, nodup_key (keyP r8) fun i j a b hij ha hb e => ?_⟩
              have hjl := (List.getElem?_eq_some_iff.mp hb).1
              rw [hzk i a ha, hzk j b hb] at e
              rcases hst6 with rfl | rfl | rfl | rfl | rfl | rfl
              all_goals omega
end
end P

set_option Elab.async false
set_option linter.all false
set_option maxRecDepth 100000
set_option maxHeartbeats 4000000
namespace P
open PySem PySem.Spec PyProof.Rows L2 OS
/-! short ways: "rd" opens a reading as far as equations go; "sep" finds what stands apart from the state; "sq" a list that is read; "nx" two heaps -/
local macro_rules | `(tactic| walk_at "sep") => `(tactic| first | assumption | (refine (by assumption : Nx _ _ _) _ _ ?_; walk_at "sep"))
local macro_rules | `(tactic| walk_at "sq") => `(tactic| first | assumption | exact .inl (.inl (by assumption)) | exact Sep.sq (by walk_at "sep") | exact Sep.st (by walk_at "sep") | exact .inl (.inl upd_same))
local macro_rules | `(tactic| walk_at "rd") => `(tactic| repeat (first
  | refine And.intro rfl ?_
  | apply Exists.intro
  | refine And.intro (by assumption) ?_
  | refine And.intro (DrawOk.mk (by omega) (by omega) (by omega)) ?_
  | refine And.intro at0 ?_
  | refine And.intro ⟨_, rfl⟩ ?_
  | refine And.intro (by walk_at "sq") ?_
  | refine And.intro (Or.inl (by walk_at "sq")) ?_
  | refine And.intro (Or.inr (by walk_at "sq")) ?_
  | refine And.intro (by omega) ?_))

section
variable {P : Program} {w : World} {K : PySem.W.Frag} {mg : Str → Option Value} {base : Heap}
theorem sepT_of {H : Hp} {p a : Addr} {n : Nat} {xs : List V} (S : StAt H p n) (h : SqT K H a xs) : (Sep H p a (.tup xs) ∨ ∃ o, Sep H p a (.frz o (.tup xs))) ∨ ∀ H', SqT K H' a xs := by
  rcases h with (h | ⟨o, h⟩) | h
  · exact .inl (.inl (S.sep h fun _ z => nomatch z))
  · exact .inl (.inr ⟨o, S.sep h fun _ z => nomatch z⟩)
  · exact .inr fun H' => .inr h
/-- .. a group, kept where all that stands apart is kept -/
def GrpN (K : PySem.W.Frag) (p : Addr) (H : Hp) (x : V) (g : List Str) : Prop := ∃ a, x = .ref a ∧ ((Sep H p a (.tup (g.map V.str)) ∨ ∃ o, Sep H p a (.frz o (.tup (g.map V.str)))) ∨ ∀ H', SqT K H' a (g.map V.str))
theorem GrpN.of {H : Hp} {p : Addr} {n : Nat} {x : V} {g : List Str} (S : StAt H p n) (h : GrpV K H x g) : GrpN K p H x g := by
  obtain ⟨a, rfl, h⟩ := h
  exact ⟨a, rfl, sepT_of S h⟩
theorem GrpN.grp {H : Hp} {p : Addr} {x : V} {g : List Str} (h : GrpN K p H x g) : GrpV K H x g := by
  obtain ⟨a, rfl, (h | ⟨o, h⟩) | h⟩ := h
  · exact ⟨a, rfl, .inl (.inl h.at_)⟩
  · exact ⟨a, rfl, .inl (.inr ⟨o, h.at_⟩)⟩
  · exact ⟨a, rfl, h H⟩
theorem GrpN.kept {H H' : Hp} {p D : Addr} {x : V} {g : List Str} {acc : List V} (sD : Sep H p D (.lst acc)) (k : ∀ q o, Sep H p q o → q ≠ D → Sep H' p q o) (h : GrpN K p H x g) : GrpN K p H' x g := by
  obtain ⟨a, rfl, (h | ⟨o, h⟩) | h⟩ := h
  · exact ⟨a, rfl, .inl (.inl (k _ _ h (ne_of h.at_ sD.at_ fun z => by cases z)))⟩
  · exact ⟨a, rfl, .inl (.inr ⟨o, k _ _ h (ne_of h.at_ sD.at_ fun z => by cases z)⟩)⟩
  · exact ⟨a, rfl, .inr h⟩
theorem grps_drop {H : Hp} : ∀ (n : Nat) {xs : List V} {gs : List (List Str)}, GrpsV K H xs gs → GrpsV K H (xs.drop n) (gs.drop n)
  | 0, _, _, h => h
  | n + 1, _, _, .nil => .nil
  | n + 1, _, _, .cons _ t => grps_drop n t
/-- all groups but the first are not empty -/
theorem allG_tail {ps : List Str} (hp : ps.Nodup) : ∀ g ∈ (allG ps).drop 1, g ≠ [] := by
  intro g hg e
  subst e
  have hn := nodup_allG hp
  have hs := sorted_allG ps
  cases h : allG ps with
  | nil =>
    rw [h] at hg
    cases hg
  | cons x r =>
    rw [h] at hg hn hs
    have hg' : ([] : List Str) ∈ r := hg
    have h1 := (List.pairwise_cons.mp hs).1 [] hg'
    obtain ⟨h2, _⟩ := (leP_iff x []).mp h1
    have hx : x = [] := List.eq_nil_of_length_eq_zero (by
      have : ([] : List Str).length = 0 := rfl
      omega)
    subst hx
    exact (List.nodup_cons.mp hn).1 hg'
theorem allG_drop_len {ps : List Str} (h1 : 1 ≤ ps.length) (h8 : ps.length ≤ 8) : 1 ≤ ((allG ps).drop 1).length ∧ ((allG ps).drop 1).length ≤ 256 := by
  have e : (allG ps).length = 2 ^ ps.length := by rw [(allG_perm ps).length_eq, setsL_len]
  have e2 : 2 ^ 1 ≤ 2 ^ ps.length := Nat.pow_le_pow_right (by decide) h1
  have e3 : (allG ps).length ≤ 256 := by rw [(allG_perm ps).length_eq]; exact sets_small h8
  rw [List.length_drop]
  omega
theorem mem_drop_sub {ps g : List Str} (h : g ∈ (allG ps).drop 1) : g.Sublist ps := mem_allG.mp (List.mem_of_mem_drop h)
/-- a group of so many among all but the first -/
theorem some_of_len {ps : List Str} {k : Int} (h1 : 1 ≤ k) (h2 : k ≤ ps.length) : ((allG ps).drop 1).filter (fun g => decide ((g.length : Int) = k)) ≠ [] := by
  intro z
  have hm : ps.take k.toNat ∈ allG ps := mem_allG.mpr (List.take_sublist _ _)
  have hl : ((ps.take k.toNat).length : Int) = k := by
    rw [List.length_take]
    omega
  have hs := sorted_allG ps
  cases h : allG ps with
  | nil =>
    rw [h] at hm
    cases hm
  | cons x r =>
    rw [h] at hm hs z
    have hr : ps.take k.toNat ∈ r := by
      rcases List.mem_cons.mp hm with e | hm
      · have hx : ([] : List Str) ∈ x :: r := by rw [← h]; exact mem_allG.mpr (List.nil_sublist _)
        rcases List.mem_cons.mp hx with e2 | hx
        · rw [e, ← e2] at hl
          have : ([] : List Str).length = 0 := rfl
          omega
        · have := (List.pairwise_cons.mp hs).1 [] hx
          obtain ⟨h3, _⟩ := (leP_iff x []).mp this
          rw [e] at hl
          have : ([] : List Str).length = 0 := rfl
          omega
      · exact hm
    have hf : ps.take k.toNat ∈ ((x :: r).drop 1).filter (fun g => decide ((g.length : Int) = k)) := List.mem_filter.mpr ⟨hr, decide_eq_true hl⟩
    rw [z] at hf
    cases hf
/-- _law_drawn(state, pool) -/
def spDrawn (K : PySem.W.Frag) : Sp := fun vs H Q _ => ∃ (p a : Addr) (m : Nat) (ps : List Str), vs = [.ref p, .ref a] ∧ StAt H p m ∧ Sep H p a (.lst (ps.map V.str)) ∧ 1 ≤ ps.length ∧ ps.length ≤ 8 ∧ m ≤ 900000000 ∧
  ∀ q H' xs rows m', Frn p H q → StAt H' p m' → m' ≤ m + 60 → Nx p H H' → Sep H' p q (.lst xs) → GrpsV K H' xs rows → rows.length ≤ 300 → (∀ g ∈ rows, g.Sublist ps) → (ps.Nodup → rows ≠ [] ∧ ∀ g ∈ rows, g ≠ []) → Q (.ref q) H'
theorem ok_law_drawn (T : Txt K mg) : FnOk P w K mg base CX0 3 T.f_law_drawn T.fd_law_drawn ["_law_state", "_law_pool"] (spDrawn K) := by
  refine T.F_law_drawn.ok sc_law_drawn (fun vs H Q E h => ?_) (fun cdv A outer s H vs Q E hr h => ?_)
  · obtain ⟨p, a, m, ps, rfl, _⟩ := h
    rfl
  · obtain ⟨p, a, m, ps, rfl, S, ha, hl1, hl8, hm, q⟩ := h
    refine ⟨_, (pss_cons (ps_set (i := 2) sc_law_drawn.nd rfl (Or.inr rfl) (pe_slice sl_listO (pe_call (ok_law_sets T) (hr.mono (by decide)) (by rfl) T.g_law_sets T.F_law_sets.kp T.b_law_sets .nil pass0 (pa_cons (pv 1) pa_nil)) (po_some pe_int) po_none))
    (pss_cons (ps_set (i := 3) sc_law_drawn.nd rfl (Or.inl rfl) (pe_call (ok_law_draw T) (hr.mono (by decide)) (by rfl) T.g_law_draw T.F_law_draw.kp T.b_law_draw .nil pass0 (pa_cons (pv 0) (pa_cons pe_int pa_nil))))
    (pss_cons (ps_if (pt_cmpR op_eq (pv 3) pe_int (nomark _))
      (pss_cons (ps_set (i := 4) sc_law_drawn.nd rfl (Or.inr rfl) (pe_op op_add pe_int (pe_call (ok_law_draw T) (hr.mono (by decide)) (by rfl) T.g_law_draw T.F_law_draw.kp T.b_law_draw .nil pass0 (pa_cons (pv 0) (pa_cons (pe_callB (id := "len") (r := rLenS K) call_lenS (by rfl) T.n_len PySem.boot_len (pa_cons (pv 1) pa_nil)) pa_nil)))))
    (pss_one (ps_ret (pe_lc (own := [("_law_chosen", 5)]) (g := gName 5) rfl sc_law_drawn.nd (pi_list (pv 2)) (blkOk_by (own := [("_law_chosen", 5)]) (N := N_law_drawn) (sc := defScope s_law_drawn) (by decide +kernel)) (fun _ _ _ _ _ => (pg_name (i := 5) sc_law_drawn.nd rfl (Or.inl rfl))) (fun _ _ _ _ _ => (pts_one (pt_cmpR op_eq (pe_callB (id := "len") (r := rLenS K) call_lenS (by rfl) T.n_len PySem.boot_len (pa_cons (pv 5) pa_nil)) (pv 4) (nomark _)))) (fun _ _ _ _ _ => (pv 5)))))) pss_nil)
    (pss_cons (ps_setLc (i := 6) (own := [("_law_k", 7)]) (g := gName 7) (tt := tYes) rfl sc_law_drawn.nd rfl rfl (sw_true rfl rfl rfl (by decide +kernel)) (pi_range1 rfl T.n_range (pa_cons (pe_op op_add pe_int (pe_call (ok_law_draw T) (hr.mono (by decide)) (by rfl) T.g_law_draw T.F_law_draw.kp T.b_law_draw .nil pass0 (pa_cons (pv 0) (pa_cons (pe_ix (r := rIxL K) ix_list (pe_lstO (pa_cons pe_int (pa_cons pe_int (pa_cons pe_int pa_nil)))) (pe_call (ok_law_draw T) (hr.mono (by decide)) (by rfl) T.g_law_draw T.F_law_draw.kp T.b_law_draw .nil pass0 (pa_cons (pv 0) (pa_cons pe_int pa_nil))) (fun _ _ => rfl)) pa_nil)))) pa_nil)) (blkOk_by (own := [("_law_k", 7)]) (N := N_law_drawn) (sc := defScope s_law_drawn) (by decide +kernel)) (fun _ _ _ _ _ => (pg_name (i := 7) sc_law_drawn.nd rfl (Or.inl rfl))) (fun _ _ _ _ _ => pts_nil) (fun _ _ _ _ _ => (pe_ix (r := rIxL K) ix_list (pv 2) (pe_call (ok_law_draw T) (hr.mono (by decide)) (by rfl) T.g_law_draw T.F_law_draw.kp T.b_law_draw .nil pass0 (pa_cons (pv 0) (pa_cons (pe_callB (id := "len") (r := rLenS K) call_lenS (by rfl) T.n_len PySem.boot_len (pa_cons (pv 2) pa_nil)) pa_nil))) (fun _ _ => rfl))))
    (pss_stop (ps_if (pt_cmpR op_eq (pv 3) pe_int (nomark _))
      (pss_one (ps_setLc (i := 6) (own := [("_law_chosen", 5)]) (g := gName 5) rfl sc_law_drawn.nd rfl rfl (sw_true rfl rfl rfl (by decide +kernel)) (pi_list (pv 6)) (blkOk_by (own := [("_law_chosen", 5)]) (N := N_law_drawn) (sc := defScope s_law_drawn) (by decide +kernel)) (fun _ _ _ _ _ => (pg_name (i := 5) sc_law_drawn.nd rfl (Or.inl rfl))) (fun _ _ _ _ _ => (pts_one (pt_cmpR op_eq (pe_callB (id := "len") (r := rLenS K) call_lenS (by rfl) T.n_len PySem.boot_len (pa_cons (pv 5) pa_nil)) pe_int (nomark _)))) (fun _ _ _ _ _ => (pv 5)))) pss_nil)
    (pss_one (ps_ret (pe_op op_catO (pv 6) (pe_lstO (pa_cons (pe_callTy (T := "tuple") call_tuple_ofL (by rfl) T.n_tuple (by decide +kernel) (pa_cons (pv 1) pa_nil)) pa_nil)))))))))), ?_⟩
    have hor : SqL K H a (ps.map V.str) ∨ SqT K H a (ps.map V.str) := .inl ha.sq
    walk_at "rd"
    intro l H1 xs n1 s1 hl hxs
    walk_at "rd"
    intro l2 H2 n2 s2 hl2
    rw [cutV1] at hl2
    have S2 := (S.same s1).same s2
    have x2 := S.nx (s1.trans s2)
    have hxs2 := grps_drop 1 (hxs.same s2)
    have hl2' := Sep.of_new S (s1.trans s2) (s1.free n2) hl2
    have f2 : Frn p H l2 := Frn.none (s1.free n2)
    obtain ⟨hd1, hd2⟩ := allG_drop_len hl1 hl8
    have hdn := paired_len hxs2
    clear s1 s2 n1 n2 hl hxs hl2
    walk_at "rd"
    intro r3 H3 h30 h31 S3 x3
    have ha3 := (x2.trans x3) _ _ ha
    have hl3 := x3 _ _ hl2'
    have hxs3 := GrpsV.nx S2 x3 hxs2
    have xx3 := x2.trans x3
    clear hl2' hxs2 S2 x2 x3 ha hor
    generalize xs.drop 1 = ys at *
    have hlm : (ps.map V.str).length = ps.length := List.length_map _
    walk_at "rd"
    refine ite2 (fun e1 => ?_) (fun e1 => ?_)
    · walk_at "rd"
      intro r4 H4 h40 h41 S4 x4
      have hl4 := x4 _ _ hl3
      have hys4 := GrpsV.nx S3 x4 hxs3
      have xx4 := xx3.trans x4
      walk_at "rd"
      refine ⟨⟨_, hl4.sq⟩, fun D hD => ?_⟩
      refine lc_rel (walk_list (xs := ys)) (xs := (allG ps).drop 1) hdn.symm (by omega) (fun g => decide ((g.length : Int) = 1 + r4)) (fun H g v => GrpV K H v g) hD (fun H H' g v acc _ hDa k h => h.but hDa k) (fun H s => s.seq hl4.sq) ?_ ?_
      · intro j g v H5 H6 Qk Qn hgj sm hy hkk hn
        obtain ⟨rfl, hv⟩ := hy
        obtain ⟨g', h1, h2⟩ := OS.paired_get hys4 hv
        obtain rfl : g' = g := Option.some.inj (h1.symm.trans hgj)
        have h3 := h2.same sm
        obtain ⟨b, rfl, hb⟩ := id h3
        walk_at "rd"
        refine ite2 (fun e => ?_) (fun e => ?_)
        · have e' : decide ((g'.length : Int) = 1 + r4) = true := by
            have := V.int.inj (of_decide_eq_true e)
            rw [List.length_map] at this
            exact decide_eq_true this
          walk_at "rd"
          exact hkk e' _ _ h3 (Same.refl _)
        · have e' : decide ((g'.length : Int) = 1 + r4) = false := by
            refine decide_eq_false fun z => e (decide_eq_true ?_)
            rw [List.length_map, z]
          exact hn e' _ (Same.refl _)
      · intro H5 acc sm hD5 pr
        have pr' : GrpsV K H5 acc (((allG ps).drop 1).filter fun g => decide ((g.length : Int) = 1 + r4)) := paired_swap pr
        refine q D H5 acc _ (m + 1 + 1) ((Frn.none hD).nx xx4) (S4.same sm) (by omega) (xx4.trans (S4.nx sm)) (Sep.of_new S4 sm hD hD5) pr' (Nat.le_trans (List.length_filter_le _ _) (by omega)) (fun g hg => mem_drop_sub ((List.mem_filter.mp hg).1)) fun hnd => ⟨some_of_len (by omega) (by omega), fun g hg => allG_tail hnd g ((List.mem_filter.mp hg).1)⟩
    · walk_at "rd"
      refine ⟨by show 3 ≤ sizeLine; decide, fun l5 H5 n5 s5 hl5 => ?_⟩
      have S5 := S3.same s5
      have x5 := S3.nx s5
      have hl5' := Sep.of_new S3 s5 n5 hl5
      have xx5 := xx3.trans x5
      have hl25 := x5 _ _ hl3
      have hys5 := hxs3.same s5
      have ha5 := x5 _ _ ha3
      clear S3 x5 hl3 hxs3 ha3 hl5 s5 n5 xx3
      walk_at "rd"
      intro r6 H6 h60 h61 S6 x6
      have hl6' := x6 _ _ hl5'
      have hl26 := x6 _ _ hl25
      have hys6 := GrpsV.nx S5 x6 hys5
      have ha6 := x6 _ _ ha5
      have xx6 := xx5.trans x6
      clear S5 x6 hl5' hl25 hys5 ha5 xx5
      obtain ⟨sv, hat6, hsv⟩ := at_pick (l := [V.int 2, V.int 4, V.int 7]) h60 (by simpa using h61)
      obtain ⟨st, rfl, hst0, hst1⟩ : ∃ k : Int, sv = .int k ∧ 2 ≤ k ∧ k ≤ 7 := by
        simp only [List.mem_cons, List.not_mem_nil, or_false] at hsv
        rcases hsv with rfl | rfl | rfl
        all_goals exact ⟨_, rfl, by decide, by decide⟩
      have hq6 := hl6'.sq (K := K)
      walk_at "rd"
      intro r7 H7 h70 h71 S7 x7
      have hl27 := x7 _ _ hl26
      have hys7 := GrpsV.nx S6 x7 hys6
      have ha7 := x7 _ _ ha6
      have xx7 := xx6.trans x7
      clear S6 x7 hl6' hl26 hys6 ha6 xx6 hq6
      walk_at "rd"
      intro D hD
      have hgn : ∀ i g v, ((allG ps).drop 1)[i]? = some g → ys[i]? = some v → GrpN K p H7 v g := fun i g v h1 h2 => by
        obtain ⟨g', h3, h4⟩ := OS.paired_get hys7 h2
        obtain rfl : g' = g := Option.some.inj (h3.symm.trans h1)
        exact GrpN.of S7 h4
      have hD7 : Sep (upd H7 D (.lst [])) p D (.lst []) := S7.new hD
      refine lc_dr walk_range (by omega) p _ 1 (fun H y => ∃ g, GrpN K p H y g ∧ g ∈ (allG ps).drop 1) S7 hD (fun H H' y acc sD k h => ?_) (fun _ _ => trivial) ?_ ?_
      · obtain ⟨g, h1, h2⟩ := h
        exact ⟨g, h1.kept sD k, h2⟩
      · intro i m2 x H8 H9 Qk hi S8 hm2 x8 hDx hy hk
        obtain ⟨rfl, rfl⟩ := hy
        have hl28 := x8 _ _ hl27
        have hys8 := GrpsV.nx S7 x8 hys7
        have hq8 := hl28.sq (K := K)
        walk_at "rd"
        intro r9 H9 h90 h91 S9 x9
        have hl29 := x9 _ _ hl28
        have hys9 := GrpsV.nx S8 x9 hys8
        have hq9 := hl29.sq (K := K)
        obtain ⟨v, hv, hvm⟩ := at_pick (l := ys) h90 (by omega)
        have hix : ys[r9.toNat]? = some v := by
          obtain ⟨n, rfl⟩ := Int.eq_ofNat_of_zero_le h90
          obtain ⟨u, hu⟩ : ∃ u, ys[n]? = some u := ⟨_, List.getElem?_eq_getElem (by omega)⟩
          have := (atI_nat hu).symm.trans hv
          rw [← this]
          exact hu
        obtain ⟨g, hg1, hg2⟩ := OS.paired_get hys9 hix
        walk_at "rd"
        exact hk v H9 _ ⟨g, GrpN.of S9 hg2, List.mem_of_getElem? hg1⟩ S9 (Nat.le_refl _) x9
      · intro H8 m8 acc S8 hm8 x8 sD hlen hR
        obtain ⟨rows, hrows, hmem⟩ : ∃ rows : List (List Str), GrpsV K H8 acc rows ∧ ∀ g ∈ rows, g ∈ (allG ps).drop 1 := by
          clear hlen sD hm8
          induction acc with
          | nil => exact ⟨[], .nil, fun _ h => nomatch h⟩
          | cons y r ih =>
            obtain ⟨g, h1, h2⟩ := hR y (.head _)
            obtain ⟨rows, h3, h4⟩ := ih fun y hy => hR y (.tail _ hy)
            refine ⟨g :: rows, .cons h1.grp h3, fun g' hg' => ?_⟩
            rcases List.mem_cons.mp hg' with rfl | hg'
            · exact h2
            · exact h4 g' hg'
        have hrl : rows.length ≤ 20 := by
          rw [← paired_len hrows, hlen]
          omega
        have ha8 := x8 _ _ ha7
        have xx8 := xx7.trans x8
        refine Stop.cut (fun σ H' => ∃ (y5 : Option V) (l9 : Addr) (zs : List V) (rs : List (List Str)), σ = [some (.ref p), some (.ref a), some (.ref l2), some (.int r3), none, y5, some (.ref l9), none] ∧ StAt H' p m8 ∧ Nx p H8 H' ∧ Frn p H7 l9 ∧ Sep H' p l9 (.lst zs) ∧ GrpsV K H' zs rs ∧ rs.length ≤ 20 ∧ ∀ g ∈ rs, g ∈ (allG ps).drop 1) (fun Qz hz => ?_) ?_
        · have hq8 := sD.sq (K := K)
          walk_at "rd"
          refine ite2 (fun e2 => ?_) (fun e2 => ?_)
          · walk_at "rd"
            refine ⟨⟨_, hq8⟩, fun D2 hD2 => ?_⟩
            refine lc_rel (walk_list (xs := acc)) (xs := rows) (paired_len hrows).symm (by rw [hlen]; omega) (fun g => decide ((g.length : Int) = 2)) (fun H g v => GrpV K H v g) hD2 (fun H H' g v acc _ hDa k h => h.but hDa k) (fun H s => s.seq hq8) ?_ ?_
            · intro j g v H5 H6 Qk Qn hgj sm hy hkk hn
              obtain ⟨rfl, hv⟩ := hy
              obtain ⟨g', h1, h2⟩ := OS.paired_get hrows hv
              obtain rfl : g' = g := Option.some.inj (h1.symm.trans hgj)
              have h3 := h2.same sm
              obtain ⟨b, rfl, hb⟩ := id h3
              walk_at "rd"
              refine ite2 (fun e => ?_) (fun e => ?_)
              · have e' : decide ((g'.length : Int) = 2) = true := by
                  have := V.int.inj (of_decide_eq_true e)
                  rw [List.length_map] at this
                  exact decide_eq_true this
                walk_at "rd"
                exact hkk e' _ _ h3 (Same.refl _)
              · have e' : decide ((g'.length : Int) = 2) = false := by
                  refine decide_eq_false fun z => e (decide_eq_true ?_)
                  rw [List.length_map, z]
                exact hn e' _ (Same.refl _)
            · intro H5 acc5 sm hD5 pr
              exact hz _ _ ⟨none, D2, acc5, _, rfl, S8.same sm, S8.nx sm, (Frn.none hD2).nx x8, Sep.of_new S8 sm hD2 hD5, paired_swap pr, Nat.le_trans (List.length_filter_le _ _) hrl, fun g hg => hmem g ((List.mem_filter.mp hg).1)⟩
          · exact hz _ _ ⟨none, D, acc, rows, rfl, S8, Nx.refl _ _, Frn.none hD, sD, hrows, hrl, hmem⟩
        · rintro _ H9 ⟨y5, l9, zs, rs, rfl, S9, x9, f9, sl9, hrs, hrsl, hrsm⟩
          have ha9 := x9 _ _ ha8
          have hzl := paired_len hrs
          have hor9 : SqL K H9 a (ps.map V.str) ∨ SqT K H9 a (ps.map V.str) := .inl ha9.sq
          have hqa := ha9.sq (K := K)
          walk_at "rd"
          intro t H10 n10 s10 ht
          walk_at "rd"
          refine ⟨by show 1 ≤ sizeLine; decide, fun u H11 n11 s11 hu => ?_⟩
          have s911 := s10.trans s11
          refine ⟨l9, u, zs, [.ref t], rfl, rfl, s911 _ _ sl9.at_, hu, by show zs.length + 1 ≤ sizeLine; exact Nat.le_trans (show zs.length + 1 ≤ 21 by omega) (by decide), fun w12 H12 n12 s12 hw => ?_⟩
          have s912 := s911.trans s12
          have hgt : GrpV K H12 (.ref t) ps := ⟨t, rfl, (s11.trans s12).tupT (SqT.of ht)⟩
          refine q w12 H12 (zs ++ [.ref t]) (rs ++ [ps]) m8 ((Frn.none (s911.free n12)).nx (xx8.trans x9)) (S9.same s912) (by omega) ((xx8.trans x9).trans (S9.nx s912)) (Sep.of_new S9 s912 (s911.free n12) hw) (paired_snoc (hrs.same s912) hgt) (by simp; omega) (fun g hg => ?_) fun hnd => ⟨by simp, fun g hg => ?_⟩
          · rcases List.mem_append.mp hg with hg | hg
            · exact mem_drop_sub (hrsm g hg)
            · rw [List.mem_singleton.mp hg]
              exact List.Sublist.refl _
          · rcases List.mem_append.mp hg with hg | hg
            · exact allG_tail hnd g (hrsm g hg)
            · rw [List.mem_singleton.mp hg]
              intro z
              rw [z] at hl1
              simp at hl1
end
end P

set_option Elab.async false
set_option linter.all false
set_option maxRecDepth 100000
set_option maxHeartbeats 4000000
namespace P
open PySem PySem.Spec PyProof.Rows L2 OS
/-! short ways: "rd" opens a reading as far as equations go; "sep" finds what stands apart from the state; "sq" a list that is read; "nx" two heaps -/
local macro_rules | `(tactic| walk_at "sep") => `(tactic| first | assumption | (refine (by assumption : Nx _ _ _) _ _ ?_; walk_at "sep"))
local macro_rules | `(tactic| walk_at "sq") => `(tactic| first | assumption | exact .inl (.inl (by assumption)) | exact Sep.sq (by walk_at "sep") | exact Sep.st (by walk_at "sep") | exact .inl (.inl upd_same))
local macro_rules | `(tactic| walk_at "rd") => `(tactic| repeat (first
  | refine And.intro rfl ?_
  | apply Exists.intro
  | refine And.intro (by assumption) ?_
  | refine And.intro (DrawOk.mk (by omega) (by omega) (by omega)) ?_
  | refine And.intro at0 ?_
  | refine And.intro ⟨_, rfl⟩ ?_
  | refine And.intro (by walk_at "sq") ?_
  | refine And.intro (Or.inl (by walk_at "sq")) ?_
  | refine And.intro (Or.inr (by walk_at "sq")) ?_
  | refine And.intro (by omega) ?_))

section
/-! ### the text of a family, read back: pure -/
def spS : Str := Str.ofString " "
def coS : Str := Str.ofString ": "
def baS : Str := Str.ofString " / "
theorem emp_app (x : Str) : Str.empty ++ x = x := by
  cases x with
  | mk c =>
    show Str.mk (#[] ++ c) = Str.mk c
    simp
/-- what stands in a text's rows -/
def rowsT (b : Str) : List (List Str) := (Txt.split b baS).map fun z => Txt.split z spS
/-- what is due for a text: the persons and the groups, or nothing -/
def dueT (t : Str) : Option (List Str × List (List Str)) :=
  match Txt.split t coS with
  | [a, b] => if (Txt.split a spS).length ≤ 5 ∧ (metS (Txt.split a spS)).mergeSort leS = Txt.split a spS ∧ (∀ z ∈ Txt.split a spS, okN z.cps.toList = true) ∧ (∀ g ∈ rowsT b, g = (Txt.split a spS).filter fun n => decide (n ∈ g)) ∧ leastL (rowsT b) = rowsT b
      then some (Txt.split a spS, rowsT b) else none
  | _ => none
theorem ok_free {z : Str} (h : okN z.cps.toList = true) : 32 ∉ TL.tl z ∧ 47 ∉ TL.tl z ∧ 58 ∉ TL.tl z := by
  have all : ∀ c ∈ TL.tl z, c ∈ (lowS ++ digS).cps.toList := fun c hc => by
    unfold okN at h
    simp only [Bool.and_eq_true, List.all_eq_true, decide_eq_true_eq] at h
    exact h.2 c hc
  have no : 32 ∉ (lowS ++ digS).cps.toList ∧ 47 ∉ (lowS ++ digS).cps.toList ∧ 58 ∉ (lowS ++ digS).cps.toList := by decide +kernel
  exact ⟨fun h => no.1 (all _ h), fun h => no.2.1 (all _ h), fun h => no.2.2 (all _ h)⟩
theorem mem_joinL {S : List Nat} {c : Nat} : ∀ {ps : List (List Nat)}, c ∈ TL.joinL S ps → c ∈ S ∨ ∃ p ∈ ps, c ∈ p
  | [], h => by cases h
  | [p], h => .inr ⟨p, List.mem_cons_self .., h⟩
  | p :: q :: r, h => by
    have h : c ∈ p ++ (S ++ TL.joinL S (q :: r)) := h
    rcases List.mem_append.mp h with h | h
    · exact .inr ⟨p, List.mem_cons_self .., h⟩
    · rcases List.mem_append.mp h with h | h
      · exact .inl h
      · rcases mem_joinL h with h | ⟨x, hx, h⟩
        · exact .inl h
        · exact .inr ⟨x, List.mem_cons_of_mem _ hx, h⟩
theorem mem_join {y : Str} {c : Nat} {ps : List Str} (h : c ∈ TL.tl (Txt.join y ps)) : c ∈ TL.tl y ∨ ∃ p ∈ ps, c ∈ TL.tl p := by
  rw [TL.join_eq, TL.tl_join] at h
  rcases mem_joinL h with h | ⟨p, hp, h⟩
  · exact .inl h
  · obtain ⟨q, hq, rfl⟩ := List.mem_map.mp hp
    exact .inr ⟨q, hq, h⟩
theorem set_sub {ws g : List Str} (h : g = ws.filter fun n => decide (n ∈ g)) : g.Sublist ws := by
  rw [h]
  exact List.filter_sublist
theorem sub_set {ws g : List Str} (hn : ws.Nodup) (h : g.Sublist ws) : g = ws.filter fun n => decide (n ∈ g) :=
  same_of hn h List.filter_sublist (fun n hn => List.mem_filter.mpr ⟨h.subset hn, by simpa using hn⟩) fun n hn => by
    have := (List.mem_filter.mp hn).2
    simpa using this
theorem met_srt {ps : List Str} (h : (metS ps).mergeSort leS = ps) : ps.Nodup ∧ srt ps = ps := by
  have hn : ps.Nodup := by
    rw [← h]
    exact (List.mergeSort_perm _ _).nodup_iff.mpr (metS_facts ps).1
  refine ⟨hn, ?_⟩
  have hs := PySem.W.sort_pairwise leS_tot (metS ps)
  rw [h] at hs
  exact sorted_one (PySem.W.sort_pairwise leS_tot ps) hs (List.mergeSort_perm _ _)
theorem srt_met {ps : List Str} (hn : ps.Nodup) (h : srt ps = ps) : (metS ps).mergeSort leS = ps := by
  have p : (metS ps).Perm ps := perm_of hn (fun x hx => ((metS_facts ps).2.1 x).mpr hx) (Nat.le_antisymm (metS_facts ps).2.2 (by
    have : ∀ {l m : List Str}, l.Nodup → (∀ x ∈ l, x ∈ m) → l.length ≤ m.length := by
      intro l
      induction l with
      | nil => intro m _ _; exact Nat.zero_le _
      | cons x l ih =>
        intro m hd hs
        obtain ⟨h1, h2⟩ := List.nodup_cons.mp hd
        have hx := hs x (List.mem_cons_self ..)
        have := ih (m := m.erase x) h2 fun y hy => (List.mem_erase_of_ne (fun e : y = x => h1 (by rw [← e]; exact hy))).mpr (hs y (List.mem_cons_of_mem _ hy))
        rw [List.length_erase_of_mem hx] at this
        have hp : 0 < m.length := List.length_pos_of_mem hx
        rw [List.length_cons]
        omega
    exact this hn fun x hx => ((metS_facts ps).2.1 x).mpr hx))
  rw [sort_perm p]
  exact h
theorem fine_of0 {ps : List Str} (h1 : 1 ≤ ps.length) (h5 : ps.length ≤ 5) (hd : ps.Nodup) (hs : srt ps = ps) (hk : ∀ z ∈ ps, okN z.cps.toList = true) : Fine ps :=
  ⟨h1, h5, badAt_none hd hk (Nat.le_refl _), hs, fun z hz => by
    have := ok_small (hk z hz)
    omega⟩
/-- what is due is read -/
theorem due_read {t : Str} {ws : List Str} {gs : List (List Str)} (h : dueT t = some (ws, gs)) :
    Fine ws ∧ RowsOk ws gs ∧ leastP ws gs = gs ∧ famTxt ws gs = t ∧ ∃ a b, Txt.partition t coS = (a, coS, b) ∧ Txt.split a spS = ws ∧ rowsT b = gs := by
  unfold dueT at h
  split at h
  · rename_i a b hab
    split at h
    · rename_i c
      obtain ⟨c1, c2, c3, c4, c5⟩ := c
      obtain ⟨rfl, rfl⟩ := Prod.mk.inj (Option.some.inj h)
      obtain ⟨hn, hs⟩ := met_srt c2
      have hne : Txt.split a spS ≠ [] := split_ne a (by show TL.tl (Str.ofString " ") ≠ []; rw [tl_sp]; simp) ki_sp
      have F := fine_of0 (List.length_pos_iff.mpr hne) c1 hn hs c3
      have hrn : rowsT b ≠ [] := fun e => split_ne b (y := baS) (by show TL.tl (Str.ofString " / ") ≠ []; rw [tl_ba]; simp) ki_ba (List.map_eq_nil_iff.mp e)
      have R : RowsOk (Txt.split a spS) (rowsT b) := ⟨hrn, fun g hg => set_sub (c4 g hg), fun g hg e => by
        obtain ⟨z, _, hz⟩ := List.mem_map.mp hg
        exact split_ne z (y := spS) (by show TL.tl (Str.ofString " ") ≠ []; rw [tl_sp]; simp) ki_sp (hz.trans e)⟩
      have hl : leastP (Txt.split a spS) (rowsT b) = rowsT b := by rw [← least_same hn R.sub]; exact c5
      obtain ⟨hp, ht⟩ := part_two (x := t) (a := a) (b := b) hab
      refine ⟨F, R, hl, ?_, a, b, hp, rfl, rfl⟩
      have e1 : Txt.join (Str.ofString " ") (Txt.split a spS) = a := join_split a (by rw [tl_sp]; simp) ki_sp
      have e2 : (rowsT b).map (Txt.join (Str.ofString " ")) = Txt.split b baS := by
        unfold rowsT
        rw [List.map_map]
        refine List.map_id'' (fun z => ?_) _
        exact join_split z (by rw [tl_sp]; simp) ki_sp
      have e3 : Txt.join (Str.ofString " / ") (Txt.split b baS) = b := join_split b (by rw [tl_ba]; simp) ki_ba
      unfold famTxt
      rw [emp_app, e1, e2, e3]
      exact ht.symm
    · cases h
  · cases h
/-- what is read is due -/
theorem read_due {t : Str} {ws : List Str} {gs : List (List Str)} (F : Fine ws) (R : RowsOk ws gs) (hl : leastP ws gs = gs) (ht : famTxt ws gs = t) : dueT t = some (ws, gs) := by
  have ok := names_ok F.ok
  have free : ∀ z ∈ ws, 32 ∉ TL.tl z ∧ 47 ∉ TL.tl z ∧ 58 ∉ TL.tl z := fun z hz => ok_free (ok z hz)
  have hw : ws ≠ [] := fun e => by
    have := F.one
    rw [e] at this
    cases this
  have jf : ∀ {g : List Str} {c : Nat}, g.Sublist ws → c ≠ 32 → (∀ z ∈ ws, c ∉ TL.tl z) → c ∉ TL.tl (Txt.join (Str.ofString " ") g) := fun hg hc hz hm => by
    rcases mem_join hm with h | ⟨p, hp, h⟩
    · rw [tl_sp, List.mem_singleton] at h
      exact hc h
    · exact hz p (hg.subset hp) h
  have sp : ∀ {g : List Str}, g.Sublist ws → g ≠ [] → Txt.split (Txt.join (Str.ofString " ") g) spS = g := fun hg hn => split_sp hn fun p hp => (free p (hg.subset hp)).1
  have hb : Txt.split (Txt.join (Str.ofString " / ") (gs.map (Txt.join (Str.ofString " ")))) baS = gs.map (Txt.join (Str.ofString " ")) := split_bar (fun e => R.ne (List.map_eq_nil_iff.mp e)) fun p hp => by
    obtain ⟨g, hg, rfl⟩ := List.mem_map.mp hp
    exact jf (R.sub g hg) (by decide) fun z hz => (free z hz).2.1
  have hr : rowsT (Txt.join (Str.ofString " / ") (gs.map (Txt.join (Str.ofString " ")))) = gs := by
    unfold rowsT
    rw [hb, List.map_map]
    have : ∀ l : List (List Str), (∀ g ∈ l, g ∈ gs) → l.map ((fun z => Txt.split z spS) ∘ Txt.join (Str.ofString " ")) = l := by
      intro l
      induction l with
      | nil => exact fun _ => rfl
      | cons g l ih =>
        intro h
        rw [List.map_cons, ih fun x hx => h x (List.mem_cons_of_mem _ hx)]
        show Txt.split (Txt.join (Str.ofString " ") g) spS :: l = g :: l
        rw [sp (R.sub g (h g (List.mem_cons_self ..))) (R.full g (h g (List.mem_cons_self ..)))]
    exact this gs fun _ h => h
  have hs : Txt.split t coS = [Txt.join (Str.ofString " ") ws, Txt.join (Str.ofString " / ") (gs.map (Txt.join (Str.ofString " ")))] := by
    rw [← ht]
    unfold famTxt
    rw [emp_app]
    refine split_two (jf (List.Sublist.refl _) (by decide) fun z hz => (free z hz).2.2) fun hm => ?_
    rcases mem_join hm with h | ⟨p, hp, h⟩
    · rw [tl_ba] at h
      simp at h
    · obtain ⟨g, hg, rfl⟩ := List.mem_map.mp hp
      exact jf (R.sub g hg) (by decide) (fun z hz => (free z hz).2.2) h
  have hws := sp (List.Sublist.refl ws) hw
  unfold dueT
  rw [hs]
  show (if (Txt.split (Txt.join (Str.ofString " ") ws) spS).length ≤ 5 ∧ _ then _ else _) = _
  rw [hws, hr]
  rw [if_pos ⟨F.five, srt_met F.nd F.srt, ok, fun g hg => sub_set F.nd (R.sub g hg), by rw [least_same F.nd R.sub]; exact hl⟩]
end
end P

set_option Elab.async false
set_option linter.all false
set_option maxRecDepth 100000
set_option maxHeartbeats 4000000
namespace OS
open PySem PySem.Spec PyProof.Rows L2
/-- tuple(xs) of a list -/
def rTupL (K : PySem.W.Frag) : List V → Hp → VK → Prop := fun xs H Q => ∃ p ys, xs = [V.ref p] ∧ SqL K H p ys ∧ NewO H (.tup ys) Q
theorem call_tupL {X : Cx} : CallR X (.type "tuple") (rTupL X.K) := call_tuple_ofL
end OS
namespace P
open PySem PySem.Spec PyProof.Rows L2 OS L2H
/-! short ways: "rd" opens a reading as far as equations go; "sep" finds what stands apart from the state; "sq" a list that is read; "nx" two heaps -/
local macro_rules | `(tactic| walk_at "sep") => `(tactic| first | assumption | (refine (by assumption : Nx _ _ _) _ _ ?_; walk_at "sep"))
local macro_rules | `(tactic| walk_at "sq") => `(tactic| first | assumption | exact .inl (.inl (by assumption)) | exact Sep.sq (by walk_at "sep") | exact Sep.st (by walk_at "sep") | exact .inl (.inl upd_same))
local macro_rules | `(tactic| walk_at "rd") => `(tactic| repeat (first
  | refine And.intro rfl ?_
  | apply Exists.intro
  | refine And.intro (by assumption) ?_
  | refine And.intro (DrawOk.mk (by omega) (by omega) (by omega)) ?_
  | refine And.intro at0 ?_
  | refine And.intro ⟨_, rfl⟩ ?_
  | refine And.intro (by walk_at "sq") ?_
  | refine And.intro (Or.inl (by walk_at "sq")) ?_
  | refine And.intro (Or.inr (by walk_at "sq")) ?_
  | refine And.intro (by omega) ?_))

section
variable {P : Program} {w : World} {K : PySem.W.Frag} {mg : Str → Option Value} {base : Heap}
theorem mem_joinL_len {S : List Nat} : ∀ {ps : List (List Nat)} {p : List Nat}, p ∈ ps → p.length ≤ (TL.joinL S ps).length ∧ ps.length ≤ (TL.joinL S ps).length + 1 ∨ S = []
  | [], _, h => nomatch h
  | [q], p, h => .inl (by
    obtain rfl := List.mem_singleton.mp h
    exact ⟨Nat.le_refl _, Nat.le_add_left _ _⟩)
  | q :: r :: l, p, h => by
    by_cases hS : S = []
    · exact .inr hS
    · have h1 : 1 ≤ S.length := List.length_pos_iff.mpr hS
      have e : (TL.joinL S (q :: r :: l)).length = q.length + (S.length + (TL.joinL S (r :: l)).length) := by
        show (q ++ (S ++ TL.joinL S (r :: l))).length = _
        rw [List.length_append, List.length_append]
      refine .inl ?_
      rw [e]
      rcases mem_joinL_len (S := S) (p := r) (List.mem_cons_self .. : r ∈ r :: l) with ⟨_, h3⟩ | h3
      · refine ⟨?_, by rw [List.length_cons]; omega⟩
        rcases List.mem_cons.mp h with rfl | h
        · omega
        · rcases mem_joinL_len (S := S) h with ⟨h2, _⟩ | h2
          · omega
          · exact absurd h2 hS
      · exact absurd h3 hS
theorem split_len {x y : Str} (hy : TL.tl y ≠ []) (hk : y.cps.all (· < 256) = true) : (∀ z ∈ Txt.split x y, z.length ≤ x.length) ∧ (Txt.split x y).length ≤ x.length + 1 := by
  have hj := join_split x hy hk
  have e : TL.joinL (TL.tl y) ((Txt.split x y).map TL.tl) = TL.tl x := by
    rw [← TL.tl_join, ← TL.join_eq, hj]
  constructor
  · intro z hz
    rcases mem_joinL_len (S := TL.tl y) (List.mem_map.mpr ⟨z, hz, rfl⟩) with ⟨h, _⟩ | h
    · rw [e, ← TL.len_tl, ← TL.len_tl] at h
      exact h
    · exact absurd h hy
  · obtain ⟨z, hz⟩ := List.exists_mem_of_ne_nil _ (split_ne x hy hk)
    rcases mem_joinL_len (S := TL.tl y) (List.mem_map.mpr ⟨z, hz, rfl⟩) with ⟨_, h⟩ | h
    · rw [e, ← TL.len_tl, List.length_map] at h
      exact h
    · exact absurd h hy
theorem ne_sp : TL.tl spS ≠ [] := by
  show TL.tl (Str.ofString " ") ≠ []
  rw [tl_sp]
  simp
theorem ne_co : TL.tl coS ≠ [] := by
  show TL.tl (Str.ofString ": ") ≠ []
  rw [tl_co]
  simp
theorem ne_ba : TL.tl baS ≠ [] := by
  show TL.tl (Str.ofString " / ") ≠ []
  rw [tl_ba]
  simp
theorem part_len (t : Str) : (Txt.partition t coS).1.length ≤ t.length ∧ (Txt.partition t coS).2.2.length ≤ t.length := by
  have hp := par_spl (S := TL.tl coS) ne_co (TL.tl t) []
  rw [TL.partition_par t coS ne_co]
  revert hp
  cases TL.par (TL.tl coS) [] (TL.tl t) with
  | none => exact fun _ => ⟨Nat.le_refl _, Nat.zero_le _⟩
  | some z =>
    obtain ⟨u, v⟩ := z
    intro hp
    have hp : TL.spl (TL.tl coS) 0 [] (TL.tl t) = u :: TL.spl (TL.tl coS) 0 [] v := hp
    have hj := join_spl ne_co _ (TL.tl t) [] (Nat.le_refl _)
    rw [hp, joinL_cons (spl_ne _ _ _), join_spl ne_co _ v [] (Nat.le_refl _), List.nil_append, List.nil_append] at hj
    have hl := congrArg List.length hj
    rw [List.length_append, List.length_append] at hl
    have ht := TL.len_tl t
    have a1 : (⟨u.toArray⟩ : Str).length = u.length := by simp [Str.length]
    have a2 : (⟨v.toArray⟩ : Str).length = v.length := by simp [Str.length]
    show (⟨u.toArray⟩ : Str).length ≤ t.length ∧ (⟨v.toArray⟩ : Str).length ≤ t.length
    rw [a1, a2]
    omega
/-! ### Family.read -/
theorem okH_BadText__init_ (T : Txt K mg) : FnH P w K mg base CX0 1 T.f_BadText__init_ T.fd_BadText__init_ ["self", "text"] (spErr T.C_BadText "text") := by
  refine OS.Fun.okH T.F_BadText__init_ sc_BadText__init_ (fun vs H Q E h => ?_) (fun cdv A outer s H vs Q E p h => ?_)
  · obtain ⟨a, v, rfl, _⟩ := h
    rfl
  · obtain ⟨a, v, rfl, ha, q⟩ := h
    refine ⟨_, (pss_one (ps_ost (pv 0) (pv 1))), ?_⟩
    walk_at "rd"
    refine ⟨T.er_BadText.ox, T.nf_BadText, .inl ⟨ha, fun dx h1 h2 => q dx h1 h2⟩⟩
def spRead (T : Txt K mg) : Sp := fun vs H Q E => ∃ t : Str, vs = [.ref T.C_Family, .str t] ∧ t.length ≤ 50000 ∧ (dueT t = none → ∀ H', Same H H' → Flies E T.C_BadText "text" (.str t) H') ∧
  (∀ ws gs, dueT t = some (ws, gs) → ∀ f H', Same H H' → FamAt K T.C_Family H' f ws gs → Q (.ref f) H')
theorem ok_Family_read (T : Txt K mg) : FnOk P w K mg base (L2.CX P w) 6 T.f_Family_read T.fd_Family_read ["cls", "text"] (spRead T) := by
  refine T.F_Family_read.okX sc_Family_read (fun vs H Q E h => ?_) (fun cdv Ar outer s H vs Q E hr h => ?_)
  · obtain ⟨t, rfl, _⟩ := h
    rfl
  · obtain ⟨t, rfl, hl, qn, q⟩ := h
    refine ⟨_, (pss_cons (ps_asg (pe_partition (pv 1) pe_str) (pg_tup rfl (pgs_cons (pg_name (i := 2) sc_Family_read.nd rfl (Or.inl rfl)) (pgs_cons (pg_name (i := 3) sc_Family_read.nd rfl (Or.inl rfl)) (pgs_cons (pg_name (i := 4) sc_Family_read.nd rfl (Or.inl rfl)) pgs_nil)))))
    (pss_stop (L2H.ps_try_onlyX rfl rfl ⟨rfl, by decide, .inl T.g_ShareError⟩ (L2H.passesAt_of rfl) (takes_of rfl rfl rfl rfl) (fun W pn xe tk _ _ => (pss_one (ps_set (i := 5) sc_Family_read.nd rfl (Or.inl rfl) (pe_makeL (E := WE W) (i := 0) T.mk_Family (ok_Family__init_N T) (hr.mono (by decide)) rfl (.inl rfl) T.b_Family__init_ (fun σ => L2N.passAt tk σ) (pa_cons (pe_split (pv 2) pe_str) (pa_cons (pe_lc (own := [("part", 6)]) (wi := iList K _) (g := gName 6) (tt := tYes) rfl sc_Family_read.nd (pi_list (pe_split (pv 4) pe_str)) (blkOk_by (own := [("part", 6)]) (N := N_Family_read) (sc := defScope s_Family_read) (by decide +kernel)) (fun _ _ _ _ _ => (pg_name (i := 6) sc_Family_read.nd rfl (Or.inl rfl))) (fun _ _ _ _ _ => pts_nil) (fun _ _ _ _ _ => (pe_callTy (T := "tuple") (r := rTupL K) call_tupL (by rfl) T.n_tuple (by decide +kernel) (pa_cons (pe_split (pv 6) pe_str) pa_nil)))) pa_nil))))))
      (fun a oe cls d pn _ _ tk2 hot => (pss_one (L2H.ps_raiseHN hot tk2 (pmk5_err T.er_BadText T.iC_BadText T.tI_BadText (okH_BadText__init_ T) (L2H.roomH_mark (hr.mono (by decide)) _) hot T.b_BadText__init_ (by rfl) T.g_BadText (pv 1))))))
    (pss_cons (ps_if (pt_cmpR op_ne (pe_callTy (T := "str") (cr_strO (ok_Family__str_ T) (hr.mono (by decide)) T.st_at T.st_fn T.b_Family__str_) (by rfl) T.n_str (by decide +kernel) (pa_cons (pv 5) pa_nil)) (pv 1) (nomark _))
      (pss_one (ps_raise rfl (takes_of rfl rfl rfl rfl) (pmk_err T.er_BadText T.iC_BadText T.tI_BadText (ok_BadText__init_ T) (hr.mono (by decide)) T.b_BadText__init_ (by rfl) T.g_BadText (pv 1)))) pss_nil)
    (pss_one (ps_ret (pv 5)))))), ?_⟩
    walk_at "rd"
    have hpl := part_len t
    have dr : ∀ ws gs, dueT t = some (ws, gs) → Fine ws ∧ RowsOk ws gs ∧ leastP ws gs = gs ∧ famTxt ws gs = t ∧ Txt.split (Txt.partition t coS).1 spS = ws ∧ rowsT (Txt.partition t coS).2.2 = gs := fun ws gs h => by
      obtain ⟨F, R, l, f, a, b, hp, h1, h2⟩ := due_read h
      rw [hp]
      exact ⟨F, R, l, f, h1, h2⟩
    refine ⟨Nat.le_trans hl (by decide), fun pt npt => ?_⟩
    unfold coS at hpl dr
    generalize (Txt.partition t (Str.ofString ": ")).1 = p at hpl dr ⊢
    generalize (Txt.partition t (Str.ofString ": ")).2.1 = m at ⊢
    generalize (Txt.partition t (Str.ofString ": ")).2.2 = g at hpl dr ⊢
    obtain ⟨hp8, hg8⟩ := hpl
    have s1 : Same H (upd H pt (.tup [.str p, .str m, .str g])) := same_new npt
    have hpt : SqT K (upd H pt (.tup [.str p, .str m, .str g])) pt [.str p, .str m, .str g] := SqT.of upd_same
    generalize upd H pt (.tup [.str p, .str m, .str g]) = H1 at s1 hpt ⊢
    refine ⟨pt, _, rfl, hpt, rfl, ?_⟩
    walk_at "rd"
    clear hpt npt
    have z1 : ((Str.ofString " ").length == 0) = false := by decide +kernel
    have z2 : ((Str.ofString " / ").length == 0) = false := by decide +kernel
    have zp : p.length + 2 ≤ sizeLine := Nat.le_trans (show p.length + 2 ≤ 50002 by omega) (by decide)
    have zg : g.length + 2 ≤ sizeLine := Nat.le_trans (show g.length + 2 ≤ 50002 by omega) (by decide)
    obtain ⟨lp1, lp2⟩ := split_len (x := p) ne_sp ki_sp
    obtain ⟨lg1, lg2⟩ := split_len (x := g) ne_ba ki_ba
    refine Stop.cut (fun σ H' => ∃ (f : Addr) (ws : List Str) (rows : List (List Str)), σ = [some (.ref T.C_Family), some (.str t), some (.str p), some (.str m), some (.str g), some (.ref f), none] ∧ Same H H' ∧ FamAt K T.C_Family H' f ws (leastP ws rows) ∧ Fine ws ∧ RowsOk ws rows ∧ (∀ w2 g2, dueT t = some (w2, g2) → w2 = ws ∧ g2 = leastP ws rows)) (fun Qz hz => ?_) ?_
    · generalize hW : wOnly _ _ _ _ _ = W
      have bad : dueT t = none → ∀ (C : Addr) d H2, PySem.W.exmOne K (.ref C) (.ref T.C_ShareError) = some true → Same H H2 → W (.ref C) d [some (.ref T.C_Family), some (.str t), some (.str p), some (.str m), some (.str g), none, none] H2 := fun hd C d H2 hC s => by
        subst hW
        refine ⟨true, hC, fun _ a _ => ?_, fun z => nomatch z⟩
        walk_at "rd"
        exact qn hd H2 s
      walk_at "rd"
      intro l2 n2
      have s2 : Same H1 (upd H1 l2 (.lst ((Txt.split p (Str.ofString " ")).map V.str))) := same_new n2
      have hl2 : (upd H1 l2 (.lst ((Txt.split p (Str.ofString " ")).map V.str))) l2 = some (.lst ((Txt.split p (Str.ofString " ")).map V.str)) := upd_same
      generalize upd H1 l2 (.lst ((Txt.split p (Str.ofString " ")).map V.str)) = H2 at s2 hl2 ⊢
      walk_at "rd"
      intro l3 n3
      have s3 : Same H2 (upd H2 l3 (.lst ((Txt.split g (Str.ofString " / ")).map V.str))) := same_new n3
      have hl3 : (upd H2 l3 (.lst ((Txt.split g (Str.ofString " / ")).map V.str))) l3 = some (.lst ((Txt.split g (Str.ofString " / ")).map V.str)) := upd_same
      generalize upd H2 l3 (.lst ((Txt.split g (Str.ofString " / ")).map V.str)) = H3 at s3 hl3 ⊢
      walk_at "rd"
      refine ⟨⟨_, SqL.of hl3⟩, fun D hD => ?_⟩
      refine lc_rel (walk_list (xs := (Txt.split g (Str.ofString " / ")).map V.str)) (xs := Txt.split g (Str.ofString " / ")) (by simp) (by rw [List.length_map]; exact Nat.le_trans lg2 (by omega)) (fun _ => true) (fun H z v => GrpV K H v (Txt.split z (Str.ofString " "))) hD (fun H H' z v acc _ hDa k h => h.but hDa k) (fun H s => s.seq (SqL.of hl3)) ?_ ?_
      · intro i z v H4 H5 Qk Qn hzi sm hy hk _
        obtain ⟨rfl, hv⟩ := hy
        obtain rfl := strs_get hv hzi
        have zl : z.length + 2 ≤ sizeLine := Nat.le_trans (show z.length + 2 ≤ 50002 by have := lg1 z (List.mem_of_getElem? hzi); omega) (by decide)
        walk_at "rd"
        intro l6 n6
        have s6 : Same H5 (upd H5 l6 (.lst ((Txt.split z (Str.ofString " ")).map V.str))) := same_new n6
        refine tNil_i ⟨l6, _, rfl, SqL.of upd_same, fun t7 H7 n7 s7 ht7 => ?_⟩
        exact hk rfl _ _ ⟨t7, rfl, SqT.of ht7⟩ (s6.trans s7)
      · intro H4 acc sm hD4 pr
        have hfl : (Txt.split g (Str.ofString " / ")).filter (fun _ => true) = Txt.split g (Str.ofString " / ") := List.filter_eq_self.mpr fun _ _ => rfl
        rw [hfl] at pr
        have pr' : GrpsV K H4 acc (rowsT g) := paired_swap (paired_map (F := fun (g : List Str) (v : V) => GrpV K H4 v g) (f := fun z => Txt.split z (Str.ofString " ")) pr)
        have hl24 : SqL K H4 l2 ((Txt.split p (Str.ofString " ")).map V.str) := SqL.of ((s3.trans sm) _ _ hl2)
        have s04 := s1.trans (s2.trans (s3.trans sm))
        have hrl : (rowsT g).length ≤ 50001 := by
          unfold rowsT
          rw [List.length_map]
          exact Nat.le_trans lg2 (by omega)
        have lp1 := lp1
        change (∀ z ∈ Txt.split p spS, z.length ≤ p.length) at lp1
        change (Txt.split p spS).length ≤ p.length + 1 at lp2
        change SqL K H4 l2 ((Txt.split p spS).map V.str) at hl24
        generalize Txt.split p spS = ps at lp1 lp2 hl24 dr
        generalize rowsT g = rows at pr' hrl dr
        refine tNil_i ?_
        intro f dx hfn hdn hne
        have sn : Same H4 (upd (upd H4 dx (HO.own f)) f (HO.ins T.C_Family dx [])) := (same_new hdn).trans (same_new (by rw [upd_ne hne.symm]; exact hfn))
        have hfat : (upd (upd H4 dx (HO.own f)) f (HO.ins T.C_Family dx [])) f = some (HO.ins T.C_Family dx []) := upd_same
        generalize upd (upd H4 dx (HO.own f)) f (HO.ins T.C_Family dx []) = H6 at sn hfat ⊢
        have s06 := s04.trans sn
        have none_of : (∀ ws gs, Fine ws → RowsOk ws gs → ps = ws → rows = gs → False) → dueT t = none := fun h => by
          cases e : dueT t with
          | none => rfl
          | some x =>
            obtain ⟨ws, gs⟩ := x
            obtain ⟨F, R, _, _, e1, e2⟩ := dr ws gs e
            exact (h ws gs F R e1 e2).elim
        have nb : badLen ps → dueT t = none := fun hb => none_of fun ws gs F R e1 e2 => by
          subst e1
          have h1 := F.one
          have h5 := F.five
          rcases hb with z | z <;> omega
        have nw : wrongUp ps ps.length ≠ none → dueT t = none := fun hb => none_of fun ws gs F R e1 e2 => by
          subst e1
          exact hb F.ok
        refine ⟨f, l2, D, dx, ps, acc, rows.map asThing, rfl, hfat, .inl (sn.seq hl24), by omega, fun z hz => by have := lp1 z hz; omega, .inl (sn.seq (SqL.of hD4)), things_same (grps_things pr') sn, by rw [List.length_map]; omega,
          ⟨fun hb H' s d2 H2' _ s2' _ => bad (nb hb) _ _ _ T.es_BadCount ((s06.trans s).trans s2'), fun z H' _ hw s d2 H2' _ s2' _ => bad (nw fun e => by rw [e] at hw; cases hw) _ _ _ T.es_BadName ((s06.trans s).trans s2'), fun z H' _ hw s d2 H2' _ s2' _ => bad (nw fun e => by rw [e] at hw; cases hw) _ _ _ T.es_DuplicateName ((s06.trans s).trans s2')⟩,
          fun hb hw => ⟨fun ho H' s => bad (none_of fun ws gs F R e1 e2 => R.ne (by rw [← e2]; exact List.map_eq_nil_iff.mp ho)) _ _ _ T.es_NoGroup (s06.trans s), fun i x o hxi hoi hj hno H' s d2 H2' _ s2' _ => bad (none_of fun ws gs F R e1 e2 => hno ?_) _ _ _ T.es_BadGroup ((s06.trans s).trans s2')⟩,
          fun hb hw rows' er hne' hsub' H' kp hF => ⟨rfl, ?_⟩⟩
        · subst e1 e2
          obtain ⟨g', hg', rfl⟩ := List.mem_map.mp (List.mem_of_getElem? hoi)
          rw [F.srt]
          exact ⟨(isGrp_iff F.nd).mpr ⟨g', R.sub g' hg', rfl⟩, fun z => R.full g' hg' (List.map_eq_nil_iff.mp (Option.some.inj z))⟩
        · have er' : rows = rows' := (List.map_inj_right (fun x y h => List.map_inj_right (fun a b z => V.str.inj z) |>.mp (Option.some.inj h))).mp er
          subst er'
          have h1 : 1 ≤ ps.length := Classical.byContradiction fun z => hb (.inl (by omega))
          have h5 : ps.length ≤ 5 := Classical.byContradiction fun z => hb (.inr (by omega))
          have F2 : Fine (srt ps) := ⟨by rw [srt_len]; exact h1, by rw [srt_len]; exact h5, srt_fine hw, srt_srt ps, fun z hz => by
            have := ok_small (names_ok hw z ((srt_perm ps).mem_iff.mp hz))
            omega⟩
          have R2 : RowsOk (srt ps) rows := ⟨hne', fun g hg => (hsub' g hg).1, fun g hg => (hsub' g hg).2⟩
          have s0 : Same H H' := fun b o e => kp b o (s06 b o e) (ne_of_none e (s04.free hfn))
          refine hz _ _ ⟨f, srt ps, rows, rfl, s0, hF, F2, R2, fun w2 g2 e => ?_⟩
          obtain ⟨F, R, l, _, e1, e2⟩ := dr w2 g2 e
          subst e1 e2
          exact ⟨F.srt.symm, by rw [F.srt]; exact l.symm⟩
    · rintro _ H2 ⟨f, ws, rows, rfl, s2, hF, F, R, hd⟩
      have RL := R.least F.nd
      have LL : leastP ws (leastP ws rows) = leastP ws rows := least_op F.nd RL.sub R.sub fun g _ => least_any F.nd R.sub g
      have hgl : (leastP ws rows).length ≤ 31 := few F.five (least_sub ws rows) RL.full
      have hs := RL.sub
      generalize leastP ws rows = gs at hF hgl hs hd RL LL
      have h5 := F.five
      have hl8 : ws.length ≤ 8 := by omega
      have hsm := F.small
      have hg256 : gs.length ≤ 256 := by omega
      obtain ⟨dx, fa, fb, fc, ys, hfi, _⟩ := id hF
      walk_at "rd"
      intro H3 s3
      refine ⟨_, rfl, ?_⟩
      walk_at "rd"
      refine ite2 (fun e => ?_) (fun e => ?_)
      · have ne : famTxt ws gs ≠ t := fun z => by
          rw [z] at e
          simp at e
        have hn : dueT t = none := by
          cases c : dueT t with
          | none => rfl
          | some x =>
            obtain ⟨w2, g2⟩ := x
            obtain ⟨rfl, rfl⟩ := hd w2 g2 c
            exact absurd (due_read c).2.2.2.1 ne
        walk_at "rd"
        exact qn hn H3 (s2.trans s3)
      · have eq : famTxt ws gs = t := Classical.byContradiction fun z => e (by simpa using z)
        walk_at "rd"
        exact q ws gs (read_due F RL LL eq) f H3 (s2.trans s3) (hF.same s3)
end
end P

set_option Elab.async false
set_option linter.all false
set_option maxRecDepth 100000
set_option maxHeartbeats 4000000
namespace P
open PySem PySem.Spec PyProof.Rows L2 OS
/-! short ways: "rd" opens a reading as far as equations go; "sep" finds what stands apart from the state; "sq" a list that is read; "nx" two heaps -/
local macro_rules | `(tactic| walk_at "sep") => `(tactic| first | assumption | (refine (by assumption : Nx _ _ _) _ _ ?_; walk_at "sep"))
local macro_rules | `(tactic| walk_at "sq") => `(tactic| first | assumption | exact .inl (.inl (by assumption)) | exact Sep.sq (by walk_at "sep") | exact Sep.st (by walk_at "sep") | exact .inl (.inl upd_same))
local macro_rules | `(tactic| walk_at "rd") => `(tactic| repeat (first
  | refine And.intro rfl ?_
  | apply Exists.intro
  | refine And.intro (by assumption) ?_
  | refine And.intro (DrawOk.mk (by omega) (by omega) (by omega)) ?_
  | refine And.intro at0 ?_
  | refine And.intro ⟨_, rfl⟩ ?_
  | refine And.intro (by walk_at "sq") ?_
  | refine And.intro (Or.inl (by walk_at "sq")) ?_
  | refine And.intro (Or.inr (by walk_at "sq")) ?_
  | refine And.intro (by omega) ?_))

section
variable {P : Program} {w : World} {K : PySem.W.Frag} {mg : Str → Option Value} {base : Heap}
theorem ok_law_good (T : Txt K mg) : FnOk P w K mg base CX0 1 T.f_law_good T.fd_law_good ["_law_word"] spName := by
  refine T.F_law_good.ok sc_law_good (fun vs H Q E h => ?_) (fun cdv A outer s H vs Q E hr h => ?_)
  · obtain ⟨z, rfl, _⟩ := h
    rfl
  · obtain ⟨z, rfl, hz, q⟩ := h
    refine ⟨_, (pss_cons (ps_set (i := 1) sc_law_good.nd rfl (Or.inr rfl) pe_str)
    (pss_cons (ps_if (PW.pt (pw_or (pt_cmpR op_lt (pe_callB (id := "len") call_len_str (by rfl) T.n_len PySem.boot_len (pa_cons (pv 0) pa_nil)) pe_int (nomark _)) (pw_or (pt_cmpR op_gt (pe_callB (id := "len") call_len_str (by rfl) T.n_len PySem.boot_len (pa_cons (pv 0) pa_nil)) pe_int (nomark _)) (pw_or1 (pt_cmpR op_notIn_sign (pe_ix ix_str (pv 0) pe_int (fun _ _ => rfl)) (pv 1) (by rfl))))))
      (pss_one (ps_ret pe_bl)) pss_nil)
    (pss_one (ps_ret (pe_cmpR (r := rEqP K) (op_eqP (room65 hr)) (pe_lc (own := [("_law_sign", 2)]) (g := gName 2) rfl sc_law_good.nd (pi_str (pv 0)) (blkOk_by (own := [("_law_sign", 2)]) (N := N_law_good) (sc := defScope s_law_good) (by decide +kernel)) (fun _ _ _ _ _ => (pg_name (i := 2) sc_law_good.nd rfl (Or.inl rfl))) (fun _ _ _ _ _ => (pts_one (pt_cmpR op_notIn_sign (pv 2) (pe_op op_add_str (pv 1) pe_str) (by rfl)))) (fun _ _ _ _ _ => (pv 2))) (pe_lstO pa_nil) (nomark _)))))), ?_⟩
    have hzl : z.length ≤ sizeLine := Nat.le_trans hz (by decide)
    have hl := len_list z
    have bad : okN z.cps.toList = false → Q (.bl false) H := fun e => by
      have := q H (Same.refl H)
      rwa [e] at this
    walk_at "rd"
    refine ite2 (fun e1 => ?_) (fun e1 => ?_)
    · have e1' := of_decide_eq_true e1
      refine iteT (bad ?_)
      unfold okN
      rw [hl, decide_eq_false (show ¬ 1 ≤ z.length by omega)]
      rfl
    · have e1' : 1 ≤ z.length := by
        apply Classical.byContradiction
        intro x
        exact e1 (decide_eq_true (by omega))
      walk_at "rd"
      refine ite2 (fun e2 => ?_) (fun e2 => ?_)
      · have e2' := of_decide_eq_true e2
        refine iteT (bad ?_)
        unfold okN
        rw [hl, decide_eq_false (show ¬ z.length ≤ 6 by omega), Bool.and_false]
        rfl
      · have e2' : z.length ≤ 6 := by
          apply Classical.byContradiction
          intro x
          exact e2 (decide_eq_true (by omega))
        obtain ⟨c, cs, hc⟩ : ∃ c cs, z.cps.toList = c :: cs := by
          cases e : z.cps.toList with
          | nil =>
            rw [e] at hl
            simp at hl
            omega
          | cons c cs => exact ⟨c, cs, rfl⟩
        have hN : okN z.cps.toList = (decide (c ∈ lowS.cps.toList) && z.cps.toList.all fun c => decide (c ∈ (lowS ++ digS).cps.toList)) := by
          unfold okN
          rw [hl, decide_eq_true (show 1 ≤ z.length by omega), decide_eq_true e2', Bool.true_and, Bool.true_and, show z.cps.toList.headD 0 = c by rw [hc]; rfl]
        walk_at "rd"
        refine ⟨show atI z.cps.toList 0 = some c by rw [hc]; exact atI_nat (j := 0) rfl, ?_⟩
        walk_at "rd"
        refine ite2 (fun e3 => ?_) (fun e3 => ?_)
        · refine bad ?_
          rw [hN, show decide (c ∈ lowS.cps.toList) = false from (Bool.not_eq_true' _).mp e3]
          rfl
        · have e3' : decide (c ∈ lowS.cps.toList) = true := (Bool.not_eq_false' _).mp ((Bool.not_eq_true _).mp e3)
          walk_at "rd"
          intro D hD
          refine lc_fn walk_str (xs := z.cps.toList) (by simp) (by show z.length ≤ 100000; exact Nat.le_trans hz (by decide)) (fun c => !decide (c ∈ (lowS ++ digS).cps.toList)) (fun c => V.str ⟨#[c]⟩) hD (fun _ _ => trivial) ?_ ?_
          · intro i a x H1 H2 Qk Qn ha sm hy hk hn
            obtain ⟨rfl, c', hc', rfl⟩ := hy
            have : a = c' := by
              rw [Array.getElem?_toList] at ha
              exact Option.some.inj (ha.symm.trans hc')
            subst this
            walk_at "rd"
            refine ⟨by decide +kernel, ?_⟩
            walk_at "rd"
            refine ite2 (fun e4 => ?_) (fun e4 => ?_)
            · walk_at "rd"
              exact hk e4 _ (Same.refl _)
            · exact hn ((Bool.not_eq_true _).mp e4) _ (Same.refl _)
          · intro H1 sm hD1
            walk_at "rd"
            refine ⟨by decide, fun p H2 np s2 hp => ?_⟩
            have d1 : Dp K H2 (.ref D) (.list (((z.cps.toList.filter fun c => !decide (c ∈ (lowS ++ digS).cps.toList)).map fun c => (⟨#[c]⟩ : Str)).map .str)) := dp_strs (SqL.of (by rw [List.map_map]; exact s2 _ _ hD1))
            refine ⟨_, _, d1, dp_nil (SqL.of hp), ?_, ?_⟩
            · have := depth_strs ((z.cps.toList.filter fun c => !decide (c ∈ (lowS ++ digS).cps.toList)).map fun c => (⟨#[c]⟩ : Str))
              simp only [PyData.depth]
              omega
            · have := q _ (sm.trans s2)
              rw [hN, e3', Bool.true_and] at this
              rw [eqv_nil, List.isEmpty_map, filter_empty]
              exact this
/-- _law_is_set(pool, thing) -/
def spLIsSet (K : PySem.W.Frag) : Sp := fun vs H Q _ => ∃ (a : Addr) (ps : List Str) (x : V) (o : Option (List V)), vs = [.ref a, x] ∧ (SqL K H a (ps.map V.str) ∨ SqT K H a (ps.map V.str)) ∧ Thing K H x o ∧ ps.length ≤ 900 ∧ ∀ H', Same H H' → Q (.bl (isGrp ps o)) H'
theorem ok_law_is_set (T : Txt K mg) : FnOk P w K mg base CX0 1 T.f_law_is_set T.fd_law_is_set ["_law_pool", "_law_thing"] (spLIsSet K) := by
  refine T.F_law_is_set.ok sc_law_is_set (fun vs H Q E h => ?_) (fun cdv A outer s H vs Q E hr h => ?_)
  · obtain ⟨a, ps, x, o, rfl, _⟩ := h
    rfl
  · obtain ⟨a, ps, x, o, rfl, hp, hx, hl, q⟩ := h
    refine ⟨_, (pss_cons (ps_if (pt_not (pt_val (pe_callB (id := "isinstance") (r := rIsi K) call_isi (by rfl) T.n_isinstance (by decide +kernel) (pa_cons (pv 1) (pa_cons (pe_bltn (v := .ty "tuple") (u := .type "tuple") (by rfl) T.n_tuple (by decide +kernel) rfl) pa_nil)))))
      (pss_one (ps_ret pe_bl)) pss_nil)
    (pss_one (ps_ret (pe_cmpR (r := rEqLS K) (op_eqLS (room65 hr)) (pe_callTy (T := "list") (r := rListS K) call_listS (by rfl) T.n_list (by decide +kernel) (pa_cons (pv 1) pa_nil)) (pe_lc (own := [("_law_label", 2)]) (g := gName 2) rfl sc_law_is_set.nd (pi_seq (pv 0)) (blkOk_by (own := [("_law_label", 2)]) (N := N_law_is_set) (sc := defScope s_law_is_set) (by decide +kernel)) (fun _ _ _ _ _ => (pg_name (i := 2) sc_law_is_set.nd rfl (Or.inl rfl))) (fun _ _ _ _ _ => (pts_one (pt_cmpR (r := rInAny K false) (op_inAny (room65 hr)) (pv 2) (pe_callTy (T := "list") (r := rListS K) call_listS (by rfl) T.n_list (by decide +kernel) (pa_cons (pv 1) pa_nil)) (by rfl)))) (fun _ _ _ _ _ => (pv 2))) (nomark _))))), ?_⟩
    obtain ⟨t, ht, hk⟩ := hx.isT
    walk_at "rd"
    refine ⟨.ty _, ht, hk, ?_⟩
    walk_at "rd"
    cases hx with
    | flat f => exact q H (Same.refl H)
    | lst z => exact q H (Same.refl H)
    | dct z => exact q H (Same.refl H)
    | @tup b xs hb hi =>
      walk_at "rd"
      intro l H1 nl s1 hl1
      walk_at "rd"
      rcases hp with hp | hp
      · refine .inl ⟨⟨_, s1.seq hp⟩, fun D hD => ?_⟩
        refine lc_fn (walk_list (xs := ps.map V.str)) (xs := ps) (by simp) (by simp; omega) (fun n => xs.any (isS n)) V.str hD (fun H1 s => (s1.trans s).seq hp) ?_ ?_
        · intro i n x H4 H2 Qk Qn hn sm hy hk hn'
          obtain ⟨rfl, hx⟩ := hy
          obtain rfl := strs_get hx hn
          have hb2 := (s1.trans sm).tupT hb
          walk_at "rd"
          intro c H5 nc s5 hc
          have hi2 : ∀ v ∈ xs, Itm K H5 v := fun v hv => ((hi v hv).same (s1.trans sm)).same s5
          walk_at "rd"
          refine ite2 (fun e => ?_) (fun e => ?_)
          · walk_at "rd"
            exact hk e _ s5
          · exact hn' ((Bool.not_eq_true _).mp e) _ s5
        · intro H4 sm hD1
          have hi2 : ∀ v ∈ xs, Itm K H4 v := fun v hv => ((hi v hv).same s1).same sm
          refine ⟨l, D, xs, _, rfl, rfl, SqL.of (sm _ _ hl1), hi2, SqL.of hD1, ?_⟩
          exact q H4 (s1.trans sm)
      · refine .inr ⟨⟨_, s1.tupT hp⟩, fun D hD => ?_⟩
        refine lc_fn (walk_tup (xs := ps.map V.str)) (xs := ps) (by simp) (by simp; omega) (fun n => xs.any (isS n)) V.str hD (fun H1 s => (s1.trans s).tupT hp) ?_ ?_
        · intro i n x H4 H2 Qk Qn hn sm hy hk hn'
          obtain ⟨rfl, hx⟩ := hy
          obtain rfl := strs_get hx hn
          have hb2 := (s1.trans sm).tupT hb
          walk_at "rd"
          intro c H5 nc s5 hc
          have hi2 : ∀ v ∈ xs, Itm K H5 v := fun v hv => ((hi v hv).same (s1.trans sm)).same s5
          walk_at "rd"
          refine ite2 (fun e => ?_) (fun e => ?_)
          · walk_at "rd"
            exact hk e _ s5
          · exact hn' ((Bool.not_eq_true _).mp e) _ s5
        · intro H4 sm hD1
          have hi2 : ∀ v ∈ xs, Itm K H4 v := fun v hv => ((hi v hv).same s1).same sm
          refine ⟨l, D, xs, _, rfl, rfl, SqL.of (sm _ _ hl1), hi2, SqL.of hD1, ?_⟩
          exact q H4 (s1.trans sm)
end
end P

set_option Elab.async false
set_option linter.all false
set_option maxRecDepth 100000
set_option maxHeartbeats 4000000
namespace P
open PySem PySem.Spec PyProof.Rows L2 OS
/-! short ways: "rd" opens a reading as far as equations go; "sep" finds what stands apart from the state; "sq" a list that is read; "nx" two heaps -/
local macro_rules | `(tactic| walk_at "sep") => `(tactic| first | assumption | (refine (by assumption : Nx _ _ _) _ _ ?_; walk_at "sep"))
local macro_rules | `(tactic| walk_at "sq") => `(tactic| first | assumption | exact .inl (.inl (by assumption)) | exact Sep.sq (by walk_at "sep") | exact Sep.st (by walk_at "sep") | exact .inl (.inl upd_same))
local macro_rules | `(tactic| walk_at "rd") => `(tactic| repeat (first
  | refine And.intro rfl ?_
  | apply Exists.intro
  | refine And.intro (by assumption) ?_
  | refine And.intro (DrawOk.mk (by omega) (by omega) (by omega)) ?_
  | refine And.intro at0 ?_
  | refine And.intro ⟨_, rfl⟩ ?_
  | refine And.intro (by walk_at "sq") ?_
  | refine And.intro (Or.inl (by walk_at "sq")) ?_
  | refine And.intro (Or.inr (by walk_at "sq")) ?_
  | refine And.intro (by omega) ?_))

section
variable {P : Program} {w : World} {K : PySem.W.Frag} {mg : Str → Option Value} {base : Heap}
theorem fam_len {ws : List Str} {gs : List (List Str)} (hl : ws.length ≤ 8) (hz : ∀ z ∈ ws, z.length ≤ 1000) (hgl : gs.length ≤ 256) (hgs : ∀ g ∈ gs, g.Sublist ws) :
    (ws.map (·.length)).sum + ws.length * (Str.ofString " ").length ≤ 8008 ∧ (∀ g ∈ gs, (g.map (·.length)).sum + g.length * (Str.ofString " ").length ≤ 8008) ∧
    ((gs.map (Txt.join (Str.ofString " "))).map (·.length)).sum + (gs.map (Txt.join (Str.ofString " "))).length * (Str.ofString " / ").length ≤ 2051000 := by
  have e1 : (Str.ofString " ").length = 1 := by decide +kernel
  have e3 : (Str.ofString " / ").length = 3 := by decide +kernel
  have small : ∀ g : List Str, g.length ≤ 8 → (∀ z ∈ g, z.length ≤ 1000) → (g.map (·.length)).sum + g.length * (Str.ofString " ").length ≤ 8008 := fun g h1 h2 => by
    have := sum_le_of h2
    rw [e1]
    omega
  have sg : ∀ g ∈ gs, (g.map (·.length)).sum + g.length * (Str.ofString " ").length ≤ 8008 := fun g hg => small g (by have := (hgs g hg).length_le; omega) fun z hz' => hz z ((hgs g hg).subset hz')
  refine ⟨small ws hl hz, sg, ?_⟩
  have hp2 : ∀ z ∈ gs.map (Txt.join (Str.ofString " ")), z.length ≤ 8008 := fun z hz' => by
    obtain ⟨g, hg, rfl⟩ := List.mem_map.mp hz'
    exact Nat.le_trans (tjoin_len _ _) (sg g hg)
  have hs2 := sum_le_of hp2
  have hml : (gs.map (Txt.join (Str.ofString " "))).length = gs.length := List.length_map _
  rw [hml] at hs2 ⊢
  rw [e3]
  omega
/-- _law_text(pool, least_here) -/
def spLText (K : PySem.W.Frag) : Sp := fun vs H Q _ => ∃ (a b : Addr) (ws : List Str) (xs : List V) (gs : List (List Str)), vs = [.ref a, .ref b] ∧ SqL K H a (ws.map V.str) ∧ SqL K H b xs ∧ GrpsV K H xs gs ∧ ws.length ≤ 8 ∧ (∀ z ∈ ws, z.length ≤ 1000) ∧ gs.length ≤ 256 ∧ (∀ g ∈ gs, g.Sublist ws) ∧ ∀ H', Same H H' → Q (.str (famTxt ws gs)) H'
theorem ok_law_text (T : Txt K mg) : FnOk P w K mg base CX0 1 T.f_law_text T.fd_law_text ["_law_pool", "_law_least_here"] (spLText K) := by
  refine T.F_law_text.ok sc_law_text (fun vs H Q E h => ?_) (fun cdv A outer s H vs Q E hr h => ?_)
  · obtain ⟨a, b, ws, xs, gs, rfl, _⟩ := h
    rfl
  · obtain ⟨a, b, ws, xs, gs, rfl, ha, hb, hx, hl, hz, hgl, hgs, q⟩ := h
    obtain ⟨f1, f2, f3⟩ := fam_len hl hz hgl hgs
    have e2 : (Str.ofString ": ").length = 2 := by decide +kernel
    have le24 : ∀ n : Nat, n ≤ 3000000 → n ≤ sizeLine := fun n h => Nat.le_trans h (by decide)
    have hp1 : (Txt.join (Str.ofString " ") ws).length ≤ 8008 := Nat.le_trans (tjoin_len _ _) f1
    have haq : SqL K H a (ws.map V.str) ∨ SqT K H a (ws.map V.str) := .inl ha
    have hxl := paired_len hx
    refine ⟨_, (pss_one (ps_ret (pe_op op_add_str (pe_op op_add_str (pe_joinR (r := rJoin K) mt_joinK pe_str (pv 0)) pe_str) (pe_joinR (r := rJoin K) mt_joinK pe_str (pe_lc (own := [("_law_chosen", 2)]) (g := gName 2) (tt := tYes) rfl sc_law_text.nd (pi_list (pv 1)) (blkOk_by (own := [("_law_chosen", 2)]) (N := N_law_text) (sc := defScope s_law_text) (by decide +kernel)) (fun _ _ _ _ _ => (pg_name (i := 2) sc_law_text.nd rfl (Or.inl rfl))) (fun _ _ _ _ _ => pts_nil) (fun _ _ _ _ _ => (pe_joinR (r := rJoin K) mt_joinK pe_str (pv 2)))))))), ?_⟩
    walk_at "rd"
    unfold famTxt at q
    rw [emp_app] at q
    generalize Txt.join (Str.ofString " ") ws = w1 at hp1 q ⊢
    refine ⟨le24 _ (by rw [e2]; omega), ?_⟩
    have h1 : (w1 ++ Str.ofString ": ").length ≤ 8010 := by
      rw [app_len, e2]
      omega
    generalize w1 ++ Str.ofString ": " = w12 at h1 q ⊢
    walk_at "rd"
    refine ⟨⟨_, hb⟩, fun D hD => ?_⟩
    refine lc_all (walk_list (xs := xs)) (xs := gs) hxl.symm (by omega) (fun g => V.str (Txt.join (Str.ofString " ") g)) hD (fun H s => s.seq hb) ?_ ?_
    · intro j g v Hc Hd Qk hgj sm hy hk
      obtain ⟨rfl, hv⟩ := hy
      obtain ⟨g', h1', h2⟩ := OS.paired_get hx hv
      obtain rfl : g' = g := Option.some.inj (h1'.symm.trans hgj)
      obtain ⟨bb, rfl, hbb⟩ := h2.same sm
      have hbb' : SqL K Hd bb (g'.map V.str) ∨ SqT K Hd bb (g'.map V.str) := .inr hbb
      walk_at "rd"
      refine ⟨Nat.le_trans (f2 g' (List.mem_of_getElem? hgj)) (by decide), ?_⟩
      exact hk _ (Same.refl _)
    · intro H2 s2 hD2
      have hj := Nat.le_trans (tjoin_len (Str.ofString " / ") _) f3
      have hDq : SqL K H2 D ((gs.map (Txt.join (Str.ofString " "))).map V.str) := SqL.of (by rw [List.map_map]; exact hD2)
      refine ⟨_, D, _, rfl, rfl, .inl hDq, Nat.le_trans f3 (by decide), ?_⟩
      generalize Txt.join (Str.ofString " / ") (gs.map (Txt.join (Str.ofString " "))) = w2 at hj q ⊢
      refine ⟨w12, w2, rfl, rfl, le24 _ (by omega), ?_⟩
      exact q H2 s2
end
end P

set_option Elab.async false
set_option linter.all false
set_option maxRecDepth 100000
set_option maxHeartbeats 4000000
namespace P
open PySem PySem.Spec PyProof.Rows L2 OS
/-! short ways: "rd" opens a reading as far as equations go; "sep" finds what stands apart from the state; "sq" a list that is read; "nx" two heaps -/
local macro_rules | `(tactic| walk_at "sep") => `(tactic| first | assumption | (refine (by assumption : Nx _ _ _) _ _ ?_; walk_at "sep"))
local macro_rules | `(tactic| walk_at "sq") => `(tactic| first | assumption | exact .inl (.inl (by assumption)) | exact Sep.sq (by walk_at "sep") | exact Sep.st (by walk_at "sep") | exact .inl (.inl upd_same))
local macro_rules | `(tactic| walk_at "rd") => `(tactic| repeat (first
  | refine And.intro rfl ?_
  | apply Exists.intro
  | refine And.intro (by assumption) ?_
  | refine And.intro (DrawOk.mk (by omega) (by omega) (by omega)) ?_
  | refine And.intro at0 ?_
  | refine And.intro ⟨_, rfl⟩ ?_
  | refine And.intro (by walk_at "sq") ?_
  | refine And.intro (Or.inl (by walk_at "sq")) ?_
  | refine And.intro (Or.inr (by walk_at "sq")) ?_
  | refine And.intro (by omega) ?_))

section
variable {P : Program} {w : World} {K : PySem.W.Frag} {mg : Str → Option Value} {base : Heap}
/-! ### a text with a fault: how long it is -/
/-- what a joined text costs at most -/
def WS (y : Str) (ws : List Str) : Nat := (ws.map (·.length)).sum + ws.length * y.length
theorem WS_cons (y z : Str) (ws : List Str) : WS y (z :: ws) = z.length + y.length + WS y ws := by
  unfold WS
  rw [List.map_cons, List.sum_cons, List.length_cons, Nat.succ_mul]
  omega
theorem WS_app (y : Str) : ∀ a b : List Str, WS y (a ++ b) = WS y a + WS y b
  | [], b => by
    show WS y b = 0 + 0 * y.length + WS y b
    omega
  | z :: a, b => by
    rw [List.cons_append, WS_cons, WS_cons, WS_app y a b]
    omega
theorem WS_rev (y : Str) : ∀ a : List Str, WS y a.reverse = WS y a
  | [] => rfl
  | z :: a => by
    rw [List.reverse_cons, WS_app, WS_rev y a, WS_cons, WS_cons]
    show _ + (_ + (0 + 0 * y.length)) = _
    omega
theorem WS_sub (y : Str) {a b : List Str} (h : a.Sublist b) : WS y a ≤ WS y b := by
  induction h with
  | slnil => exact Nat.le_refl _
  | cons z _ ih =>
    rw [WS_cons]
    omega
  | cons_cons z _ ih =>
    rw [WS_cons, WS_cons]
    omega
theorem WS_set (y z : Str) : ∀ (a : List Str) (k : Nat), WS y (a.set k z) ≤ WS y a + z.length
  | [], _ => Nat.le_add_right _ _
  | x :: a, 0 => by
    rw [List.set_cons_zero, WS_cons, WS_cons]
    omega
  | x :: a, k + 1 => by
    have := WS_set y z a k
    rw [List.set_cons_succ, WS_cons, WS_cons]
    omega
theorem joinL_len {S : List Nat} : ∀ {ps : List (List Nat)}, ps ≠ [] → (TL.joinL S ps).length + S.length = (ps.map (·.length)).sum + ps.length * S.length
  | [], h => absurd rfl h
  | [p], _ => by
    show p.length + S.length = p.length + 0 + 1 * S.length
    omega
  | p :: q :: r, _ => by
    have ih := joinL_len (S := S) (ps := q :: r) (by simp)
    have e : (TL.joinL S (p :: q :: r)).length = p.length + (S.length + (TL.joinL S (q :: r)).length) := by
      show (p ++ (S ++ TL.joinL S (q :: r))).length = _
      rw [List.length_append, List.length_append]
    rw [e, List.map_cons, List.sum_cons, List.length_cons, Nat.succ_mul]
    omega
theorem WS_split {x y : Str} (hy : TL.tl y ≠ []) (hk : y.cps.all (· < 256) = true) : WS y (Txt.split x y) = x.length + y.length := by
  have hj := join_split x hy hk
  have hn := split_ne x hy hk
  generalize Txt.split x y = ws at hj hn ⊢
  have e : TL.joinL (TL.tl y) (ws.map TL.tl) = TL.tl x := by
    rw [← TL.tl_join, ← TL.join_eq, hj]
  have h := joinL_len (S := TL.tl y) (ps := ws.map TL.tl) (fun z => hn (List.map_eq_nil_iff.mp z))
  rw [e, ← TL.len_tl, ← TL.len_tl, List.length_map, List.map_map] at h
  have m : ws.map (List.length ∘ TL.tl) = ws.map (·.length) := List.map_congr_left fun z _ => (TL.len_tl z).symm
  rw [m] at h
  exact h.symm
theorem tjoin_WS (y : Str) (ws : List Str) : (Txt.join y ws).length ≤ WS y ws := tjoin_len y ws
theorem cutV_strs (ws : List Str) (lo hi : Option Int) : ∃ ws' : List Str, cutV (ws.map V.str) lo hi = ws'.map V.str ∧ ws'.Sublist ws := by
  refine ⟨(ws.drop (HT.sIx ws.length 0 lo)).take (HT.sIx ws.length ws.length hi - HT.sIx ws.length 0 lo), ?_, (List.take_sublist _ _).trans (List.drop_sublist _ _)⟩
  unfold cutV
  rw [List.length_map, List.map_take, List.map_drop]
/-- what a fault may be parted by -/
structure MarkOk (y : Str) : Prop where
  ne : TL.tl y ≠ []
  ki : y.cps.all (· < 256) = true
  len : y.length ≤ 3
theorem MarkOk.pos {y : Str} (h : MarkOk y) : (y.length == 0) = false := by
  have h1 : y.length ≠ 0 := fun e => h.ne (by
    have := TL.len_tl y
    rw [e] at this
    exact List.eq_nil_of_length_eq_zero this.symm)
  exact beq_eq_false_iff_ne.mpr h1
theorem mark_ok {v : V} (h : v ∈ [V.str " / ", V.str " ", V.str ": "]) : ∃ y : Str, v = .str y ∧ MarkOk y := by
  simp only [List.mem_cons, List.not_mem_nil, or_false] at h
  rcases h with rfl | rfl | rfl
  · exact ⟨_, rfl, ne_ba, ki_ba, by decide +kernel⟩
  · exact ⟨_, rfl, ne_sp, ki_sp, by decide +kernel⟩
  · exact ⟨_, rfl, ne_co, ki_co, by decide +kernel⟩
theorem fault_ok {v : V} (h : v ∈ [V.str "", V.str "/", V.str "zz9", V.str "X", V.str ":", V.str "a b", V.str "abcdefg", V.str "a\nb", V.str "-"]) : ∃ y : Str, v = .str y ∧ y.length ≤ 7 := by
  simp only [List.mem_cons, List.not_mem_nil, or_false] at h
  rcases h with rfl | rfl | rfl | rfl | rfl | rfl | rfl | rfl | rfl
  all_goals exact ⟨_, rfl, by decide +kernel⟩
/-- _law_spoiled(state, word) -/
def spSpoil : Sp := fun vs H Q _ => ∃ (p : Addr) (m : Nat) (t : Str), vs = [.ref p, .str t] ∧ StAt H p m ∧ m ≤ 900000000 ∧ t.length ≤ 40000 ∧
  ∀ (t' : Str) H' m', StAt H' p m' → m' ≤ m + 10 → Nx p H H' → t'.length ≤ 2 * t.length + 20 → Q (.str t') H'
theorem ok_law_spoiled (T : Txt K mg) : FnOk P w K mg base CX0 2 T.f_law_spoiled T.fd_law_spoiled ["_law_state", "_law_word"] spSpoil := by
  refine T.F_law_spoiled.ok sc_law_spoiled (fun vs H Q E h => ?_) (fun cdv A outer s H vs Q E hr h => ?_)
  · obtain ⟨p, m, t, rfl, _⟩ := h
    rfl
  · obtain ⟨p, m, t, rfl, S, hm, hl, q⟩ := h
    refine ⟨_, (pss_cons (ps_set (i := 2) sc_law_spoiled.nd rfl (Or.inl rfl) (pe_op op_add_str (pe_call0 (ok_law_signs T) (hr.mono (by decide)) (by rfl) T.g_law_signs T.F_law_signs.kp T.b_law_signs .nil pass0) pe_str))
    (pss_cons (ps_set (i := 3) sc_law_spoiled.nd rfl (Or.inl rfl) (pe_ix ix_str (pv 2) (pe_call (ok_law_draw T) (hr.mono (by decide)) (by rfl) T.g_law_draw T.F_law_draw.kp T.b_law_draw .nil pass0 (pa_cons (pv 0) (pa_cons (pe_callB (id := "len") call_len_str (by rfl) T.n_len PySem.boot_len (pa_cons (pv 2) pa_nil)) pa_nil))) (fun _ _ => rfl)))
    (pss_cons (ps_set (i := 4) sc_law_spoiled.nd rfl (Or.inl rfl) (pe_call (ok_law_draw T) (hr.mono (by decide)) (by rfl) T.g_law_draw T.F_law_draw.kp T.b_law_draw .nil pass0 (pa_cons (pv 0) (pa_cons (pe_op op_add (pe_callB (id := "len") call_len_str (by rfl) T.n_len PySem.boot_len (pa_cons (pv 1) pa_nil)) pe_int) pa_nil))))
    (pss_cons (ps_set (i := 5) sc_law_spoiled.nd rfl (Or.inl rfl) (pe_call (ok_law_draw T) (hr.mono (by decide)) (by rfl) T.g_law_draw T.F_law_draw.kp T.b_law_draw .nil pass0 (pa_cons (pv 0) (pa_cons pe_int pa_nil))))
    (pss_cons (ps_if (pt_cmpR op_lt (pv 5) pe_int (nomark _))
      (pss_one (ps_ret (pe_op op_add_str (pe_op op_add_str (pe_slice sl_str (pv 1) po_none (po_some (pv 4))) (pe_ix (r := rIxL K) ix_list (pe_lstO (pa_cons pe_str (pa_cons (pv 3) (pa_cons (pv 3) pa_nil)))) (pv 5) (fun _ _ => rfl))) (pe_slice sl_str (pv 1) (po_some (pe_op op_add (pv 4) (pe_ix (r := rIxL K) ix_list (pe_lstO (pa_cons pe_int (pa_cons pe_int (pa_cons pe_int pa_nil)))) (pv 5) (fun _ _ => rfl)))) po_none)))) pss_nil)
    (pss_cons (ps_set (i := 6) sc_law_spoiled.nd rfl (Or.inl rfl) (pe_ix (r := rIxL K) ix_list (pe_lstO (pa_cons pe_str (pa_cons pe_str (pa_cons pe_str pa_nil)))) (pe_call (ok_law_draw T) (hr.mono (by decide)) (by rfl) T.g_law_draw T.F_law_draw.kp T.b_law_draw .nil pass0 (pa_cons (pv 0) (pa_cons pe_int pa_nil))) (fun _ _ => rfl)))
    (pss_cons (ps_set (i := 7) sc_law_spoiled.nd rfl (Or.inl rfl) (pe_split (pv 1) (pv 6)))
    (pss_cons (ps_set (i := 8) sc_law_spoiled.nd rfl (Or.inl rfl) (pe_call (ok_law_draw T) (hr.mono (by decide)) (by rfl) T.g_law_draw T.F_law_draw.kp T.b_law_draw .nil pass0 (pa_cons (pv 0) (pa_cons (pe_callB (id := "len") (r := rLenS K) call_lenS (by rfl) T.n_len PySem.boot_len (pa_cons (pv 7) pa_nil)) pa_nil))))
    (pss_stop (ps_if (pt_cmpR op_eq (pv 5) pe_int (nomark _))
      (pss_one (ps_asg (pe_ix (r := rIxL K) ix_list (pe_lstO (pa_cons pe_str (pa_cons pe_str (pa_cons pe_str (pa_cons pe_str (pa_cons pe_str (pa_cons pe_str (pa_cons pe_str (pa_cons pe_str (pa_cons pe_str pa_nil)))))))))) (pe_call (ok_law_draw T) (hr.mono (by decide)) (by rfl) T.g_law_draw T.F_law_draw.kp T.b_law_draw .nil pass0 (pa_cons (pv 0) (pa_cons pe_int pa_nil))) (fun _ _ => rfl)) (pg_sub (pv 7) (pv 8) set_list))) pss_nil)
    (pss_stop (ps_if (pt_cmpR op_eq (pv 5) pe_int (nomark _))
      (pss_one (ps_set (i := 7) sc_law_spoiled.nd rfl (Or.inl rfl) (pe_op op_catO (pe_slice sl_listO (pv 7) po_none (po_some (pv 8))) (pe_slice sl_listO (pv 7) (po_some (pe_op op_add (pv 8) pe_int)) po_none)))) pss_nil)
    (pss_stop (ps_if (pt_cmpR op_eq (pv 5) pe_int (nomark _))
      (pss_one (ps_set (i := 7) sc_law_spoiled.nd rfl (Or.inl rfl) (pe_op op_catO (pe_slice sl_listO (pv 7) po_none (po_some (pe_op op_add (pv 8) pe_int))) (pe_slice sl_listO (pv 7) (po_some (pv 8)) po_none)))) pss_nil)
    (pss_stop (ps_if (pt_cmpR op_eq (pv 5) pe_int (nomark _))
      (pss_one (ps_set (i := 7) sc_law_spoiled.nd rfl (Or.inl rfl) (pe_op op_catO (pe_slice sl_listO (pv 7) po_none (po_some (pv 8))) (pe_revL (pe_slice sl_listO (pv 7) (po_some (pv 8)) po_none))))) pss_nil)
    (pss_one (ps_ret (pe_join (pv 6) (pv 7)))))))))))))))), ?_⟩
    have le24 : ∀ n : Nat, n ≤ 3000000 → n ≤ sizeLine := fun n h => Nat.le_trans h (by decide)
    have hlt := le24 t.length (by omega)
    walk_at "rd"
    refine ⟨by decide +kernel, ?_⟩
    have zs : (signs1 ++ signs2 ++ Str.ofString "/: /").length = 99 := by decide +kernel
    generalize signs1 ++ signs2 ++ Str.ofString "/: /" = sg at zs
    have zs2 : sg.length ≤ sizeLine := le24 _ (by omega)
    walk_at "rd"
    intro r1 H1 h10 h11 S1 x1
    obtain ⟨c, hat, _⟩ := sign_pick (z := sg) h10 (by omega)
    walk_at "rd"
    intro r2 H2 h20 h21 S2 x2
    walk_at "rd"
    intro r3 H3 h30 h31 S3 x3
    have xx := (x1.trans x2).trans x3
    walk_at "rd"
    refine ite2 (fun e1 => ?_) (fun e1 => ?_)
    · have e1' := of_decide_eq_true e1
      have hc1 := cutS_len t none (some r2)
      walk_at "rd"
      refine ⟨by show 3 ≤ sizeLine; decide, fun l4 H4 n4 s4 hl4 => ?_⟩
      obtain ⟨v5, hat5, hv5⟩ := at_pick (l := [V.str "", V.str ⟨#[c]⟩, V.str ⟨#[c]⟩]) h30 (by simpa using e1')
      obtain ⟨z5, rfl, hz5⟩ : ∃ z : Str, v5 = .str z ∧ z.length ≤ 1 := by
        simp only [List.mem_cons, List.not_mem_nil, or_false] at hv5
        rcases hv5 with rfl | rfl | rfl
        · exact ⟨_, rfl, by decide +kernel⟩
        · exact ⟨_, rfl, Nat.le_refl 1⟩
        · exact ⟨_, rfl, Nat.le_refl 1⟩
      have hl4' : SqL K H4 l4 [V.str "", V.str ⟨#[c]⟩, V.str ⟨#[c]⟩] := SqL.of hl4
      walk_at "rd"
      refine ⟨le24 _ (by omega), ?_⟩
      have hb1 : (cutS t none (some r2) ++ z5).length ≤ t.length + 1 := by
        rw [app_len]
        omega
      generalize cutS t none (some r2) ++ z5 = b1 at hb1
      walk_at "rd"
      refine ⟨by show 3 ≤ sizeLine; decide, fun l6 H6 n6 s6 hl6 => ?_⟩
      obtain ⟨v7, hat7, hv7⟩ := at_pick (l := [V.int 1, V.int 0, V.int 1]) h30 (by simpa using e1')
      obtain ⟨z7, rfl⟩ : ∃ z : Int, v7 = .int z := by
        simp only [List.mem_cons, List.not_mem_nil, or_false] at hv7
        rcases hv7 with rfl | rfl | rfl <;> exact ⟨_, rfl⟩
      have hl6' : SqL K H6 l6 [V.int 1, V.int 0, V.int 1] := SqL.of hl6
      walk_at "rd"
      have hc2 := cutS_len t (some (r2 + z7)) none
      refine ⟨le24 _ (by omega), ?_⟩
      have hlen : (b1 ++ cutS t (some (r2 + z7)) none).length ≤ 2 * t.length + 20 := by
        rw [app_len]
        omega
      have s46 := s4.trans s6
      exact q _ H6 _ (S3.same s46) (by omega) (xx.trans (S3.nx s46)) hlen
    · walk_at "rd"
      refine ⟨by show 3 ≤ sizeLine; decide, fun l4 H4 n4 s4 hl4 => ?_⟩
      have S4 := S3.same s4
      have x4 := S3.nx s4
      have hl4' := Sep.of_new S3 s4 n4 hl4
      walk_at "rd"
      intro r5 H5 h50 h51 S5 x5
      have hl5 := x5 _ _ hl4'
      obtain ⟨v5, hat5, hv5⟩ := at_pick (l := [V.str " / ", V.str " ", V.str ": "]) h50 (by simpa using h51)
      obtain ⟨y, rfl, Y⟩ := mark_ok hv5
      have hy0 := Y.pos
      have hy3 := Y.len
      have hlt2 : t.length + 2 ≤ sizeLine := le24 _ (by omega)
      walk_at "rd"
      intro l6 n6
      have hW := WS_split (x := t) Y.ne Y.ki
      have hne := split_ne t Y.ne Y.ki
      obtain ⟨_, hcount⟩ := split_len (x := t) Y.ne Y.ki
      have s6 : Same H5 (upd H5 l6 (.lst ((Txt.split t y).map V.str))) := same_new n6
      have hl6 : (upd H5 l6 (.lst ((Txt.split t y).map V.str))) l6 = some (.lst ((Txt.split t y).map V.str)) := upd_same
      generalize upd H5 l6 (.lst ((Txt.split t y).map V.str)) = H6 at s6 hl6 ⊢
      generalize Txt.split t y = ws at hW hne hcount hl6 ⊢
      have S6 := S5.same s6
      have hl6' := Sep.of_new S5 s6 n6 hl6
      have xx6 := ((xx.trans x4).trans x5).trans (S5.nx s6)
      have hw1 : 1 ≤ ws.length := List.length_pos_iff.mpr hne
      have hwl : (ws.map V.str).length = ws.length := List.length_map _
      have hl6q := hl6'.sq (K := K)
      walk_at "rd"
      intro r7 H7 h70 h71 S7 x7
      have xx7 := xx6.trans x7
      have hl7 := x7 _ _ hl6'
      have hf6 : Frn p H l6 := (Frn.none n6).nx ((xx.trans x4).trans x5)
      generalize hm7 : m + 1 + 1 + 1 + 1 + 1 = m7 at S7
      have hm7' : m7 ≤ m + 5 := by omega
      clear hm7 S6 S5 S4 S3 x4 x5 hl4 hl4' hl5 hl6 s4 n4 hl6q xx6 x7 s6 n6 S x1 x2 x3 xx S1 S2 h50 h51 hat5 hv5
      have hix : ixN (ws.map V.str).length r7 = some r7.toNat := by
        unfold ixN
        rw [if_pos h70, if_pos h71]
      refine Stop.cut (fun σ H' => ∃ (l : Addr) (us : List Str) (m' : Nat), σ = [some (.ref p), some (.str t), some (.str sg), some (.str ⟨#[c]⟩), some (.int r2), some (.int r3), some (.str y), some (V.ref l), some (.int r7)] ∧ StAt H' p m' ∧ m' ≤ m + 7 ∧ Nx p H H' ∧ Frn p H l ∧ Sep H' p l (.lst (us.map V.str)) ∧ WS y us ≤ 2 * WS y ws + 7 ∧ (4 ≤ r3 → us = ws)) (fun Qz hz => ?_) ?_
      · walk_at "rd"
        refine ite2 (fun e3 => ?_) (fun e3 => ?_)
        · have e3' : r3 = 3 := V.int.inj (of_decide_eq_true e3)
          walk_at "rd"
          refine ⟨by show 9 ≤ sizeLine; decide, fun l8 H8 n8 s8 hl8 => ?_⟩
          have S8 := S7.same s8
          have x8 := S7.nx s8
          have hl8' := Sep.of_new S7 s8 n8 hl8
          walk_at "rd"
          intro r9 H9 h90 h91 S9 x9
          have hl9 := x9 _ _ hl8'
          have hl79 := x9 _ _ (x8 _ _ hl7)
          obtain ⟨v9, hat9, hv9⟩ := at_pick (l := [V.str "", V.str "/", V.str "zz9", V.str "X", V.str ":", V.str "a b", V.str "abcdefg", V.str "a\nb", V.str "-"]) h90 (by simpa using h91)
          obtain ⟨z9, rfl, hz9⟩ := fault_ok hv9
          walk_at "rd"
          refine ⟨hl79.at_, hix, ?_⟩
          refine hz _ _ ⟨l6, ws.set r7.toNat z9, _, rfl, S9.put hl79, by omega, fun q o h => (((xx7.trans x8).trans x9) q o h).put_ne hl79 (hf6 q o h).symm, hf6, by rw [List.map_set]; exact hl79.put_same, ?_, fun z => absurd z (by omega)⟩
          have := WS_set y z9 ws r7.toNat
          omega
        · exact hz _ _ ⟨l6, ws, m7, rfl, S7, by omega, xx7, hf6, hl7, by omega, fun _ => rfl⟩
      · clear S7 hm7' xx7 hl7 hf6
        rintro _ H7 ⟨l, us, m', rfl, S7, hm', xx7, hf7, hl7, hWu, hu⟩
        refine Stop.cut (fun σ H' => ∃ (l : Addr) (us : List Str) (m' : Nat), σ = [some (.ref p), some (.str t), some (.str sg), some (.str ⟨#[c]⟩), some (.int r2), some (.int r3), some (.str y), some (V.ref l), some (.int r7)] ∧ StAt H' p m' ∧ m' ≤ m + 7 ∧ Nx p H H' ∧ Frn p H l ∧ Sep H' p l (.lst (us.map V.str)) ∧ WS y us ≤ 2 * WS y ws + 7 ∧ (5 ≤ r3 → us = ws)) (fun Qz hz => ?_) ?_
        · walk_at "rd"
          refine ite2 (fun e3 => ?_) (fun e3 => ?_)
          · have e3' : r3 = 4 := V.int.inj (of_decide_eq_true e3)
            obtain rfl := hu (by omega)
            have hq := hl7.sq (K := K)
            obtain ⟨A, hA, hAs⟩ := cutV_strs us none (some r7)
            obtain ⟨B, hB, hBs⟩ := cutV_strs us (some (r7 + 1)) none
            walk_at "rd"
            intro la Ha na sa hla
            rw [hA] at hla
            have hqa := (S7.nx sa _ _ hl7).sq (K := K)
            walk_at "rd"
            intro lb Hb nb sb hlb
            rw [hB] at hlb
            have hlab := sb _ _ hla
            have hlr := hlb
            have hlar := hlab
            have sx := sa.trans sb
            have hWB : WS y B ≤ WS y us := WS_sub y hBs
            have hBl : B.length ≤ us.length := hBs.length_le
            have hWA : WS y A ≤ WS y us := WS_sub y hAs
            have hAl : A.length ≤ us.length := hAs.length_le
            refine ⟨_, _, _, _, rfl, rfl, hlar, hlr, le24 _ (by rw [List.length_map, List.length_map]; omega), fun lz Hz nz sz hlz => ?_⟩
            rw [← List.map_append] at hlz
            have s7z := sx.trans sz
            refine hz _ _ ⟨lz, A ++ B, m', rfl, S7.same s7z, hm', xx7.trans (S7.nx s7z), (Frn.none (sx.free nz)).nx xx7, Sep.of_new S7 s7z (sx.free nz) hlz, ?_, fun z => absurd z (by omega)⟩
            rw [WS_app]
            omega
          · exact hz _ _ ⟨l, us, m', rfl, S7, hm', xx7, hf7, hl7, hWu, fun z => hu (by omega)⟩
        · rintro _ H7 ⟨l, us, m', rfl, S7, hm', xx7, hf7, hl7, hWu, hu⟩
          refine Stop.cut (fun σ H' => ∃ (l : Addr) (us : List Str) (m' : Nat), σ = [some (.ref p), some (.str t), some (.str sg), some (.str ⟨#[c]⟩), some (.int r2), some (.int r3), some (.str y), some (V.ref l), some (.int r7)] ∧ StAt H' p m' ∧ m' ≤ m + 7 ∧ Nx p H H' ∧ Frn p H l ∧ Sep H' p l (.lst (us.map V.str)) ∧ WS y us ≤ 2 * WS y ws + 7 ∧ (6 ≤ r3 → us = ws)) (fun Qz hz => ?_) ?_
          · walk_at "rd"
            refine ite2 (fun e3 => ?_) (fun e3 => ?_)
            · have e3' : r3 = 5 := V.int.inj (of_decide_eq_true e3)
              obtain rfl := hu (by omega)
              have hq := hl7.sq (K := K)
              obtain ⟨A, hA, hAs⟩ := cutV_strs us none (some (r7 + 1))
              obtain ⟨B, hB, hBs⟩ := cutV_strs us (some r7) none
              walk_at "rd"
              intro la Ha na sa hla
              rw [hA] at hla
              have hqa := (S7.nx sa _ _ hl7).sq (K := K)
              walk_at "rd"
              intro lb Hb nb sb hlb
              rw [hB] at hlb
              have hlab := sb _ _ hla
              have hlr := hlb
              have hlar := hlab
              have sx := sa.trans sb
              have hWB : WS y B ≤ WS y us := WS_sub y hBs
              have hBl : B.length ≤ us.length := hBs.length_le
              have hWA : WS y A ≤ WS y us := WS_sub y hAs
              have hAl : A.length ≤ us.length := hAs.length_le
              refine ⟨_, _, _, _, rfl, rfl, hlar, hlr, le24 _ (by rw [List.length_map, List.length_map]; omega), fun lz Hz nz sz hlz => ?_⟩
              rw [← List.map_append] at hlz
              have s7z := sx.trans sz
              refine hz _ _ ⟨lz, A ++ B, m', rfl, S7.same s7z, hm', xx7.trans (S7.nx s7z), (Frn.none (sx.free nz)).nx xx7, Sep.of_new S7 s7z (sx.free nz) hlz, ?_, fun z => absurd z (by omega)⟩
              rw [WS_app]
              omega
            · exact hz _ _ ⟨l, us, m', rfl, S7, hm', xx7, hf7, hl7, hWu, fun z => hu (by omega)⟩
          · rintro _ H7 ⟨l, us, m', rfl, S7, hm', xx7, hf7, hl7, hWu, hu⟩
            refine Stop.cut (fun σ H' => ∃ (l : Addr) (us : List Str) (m' : Nat), σ = [some (.ref p), some (.str t), some (.str sg), some (.str ⟨#[c]⟩), some (.int r2), some (.int r3), some (.str y), some (V.ref l), some (.int r7)] ∧ StAt H' p m' ∧ m' ≤ m + 7 ∧ Nx p H H' ∧ Frn p H l ∧ Sep H' p l (.lst (us.map V.str)) ∧ WS y us ≤ 2 * WS y ws + 7 ∧ (7 ≤ r3 → us = ws)) (fun Qz hz => ?_) ?_
            · walk_at "rd"
              refine ite2 (fun e3 => ?_) (fun e3 => ?_)
              · have e3' : r3 = 6 := V.int.inj (of_decide_eq_true e3)
                obtain rfl := hu (by omega)
                have hq := hl7.sq (K := K)
                obtain ⟨A, hA, hAs⟩ := cutV_strs us none (some r7)
                obtain ⟨B, hB, hBs⟩ := cutV_strs us (some r7) none
                walk_at "rd"
                intro la Ha na sa hla
                rw [hA] at hla
                have hqa := (S7.nx sa _ _ hl7).sq (K := K)
                walk_at "rd"
                intro lb Hb nb sb hlb
                rw [hB] at hlb
                have hlab := sb _ _ hla
                have hlbq : SqL K Hb lb (B.map V.str) := SqL.of hlb
                walk_at "rd"
                intro lr nr
                have hlr : (upd Hb lr (.lst (B.map V.str).reverse)) lr = some (.lst (B.reverse.map V.str)) := by rw [List.map_reverse]; exact upd_same
                have sr : Same Hb (upd Hb lr (.lst (B.map V.str).reverse)) := same_new nr
                generalize upd Hb lr (.lst (B.map V.str).reverse) = Hr at hlr sr ⊢
                have hlar := sr _ _ hlab
                have sx := (sa.trans sb).trans sr
                have hWB : WS y B.reverse ≤ WS y us := by rw [WS_rev]; exact WS_sub y hBs
                have hBl : B.reverse.length ≤ us.length := by rw [List.length_reverse]; exact hBs.length_le
                generalize B.reverse = B at hWB hBl hlr
                have hWA : WS y A ≤ WS y us := WS_sub y hAs
                have hAl : A.length ≤ us.length := hAs.length_le
                refine ⟨_, _, _, _, rfl, rfl, hlar, hlr, le24 _ (by rw [List.length_map, List.length_map]; omega), fun lz Hz nz sz hlz => ?_⟩
                rw [← List.map_append] at hlz
                have s7z := sx.trans sz
                refine hz _ _ ⟨lz, A ++ B, m', rfl, S7.same s7z, hm', xx7.trans (S7.nx s7z), (Frn.none (sx.free nz)).nx xx7, Sep.of_new S7 s7z (sx.free nz) hlz, ?_, fun z => absurd z (by omega)⟩
                rw [WS_app]
                omega
              · exact hz _ _ ⟨l, us, m', rfl, S7, hm', xx7, hf7, hl7, hWu, fun z => hu (by omega)⟩
            · rintro _ H7 ⟨l, us, m', rfl, S7, hm', xx7, hf7, hl7, hWu, hu⟩
              have hq := hl7.sq (K := K)
              walk_at "rd"
              refine ⟨Nat.le_trans (show WS y us ≤ 3000000 by omega) (by decide), ?_⟩
              refine q _ H7 m' S7 (by omega) xx7 ?_
              have := tjoin_WS y us
              omega
end
end P

set_option Elab.async false
set_option linter.all false
set_option maxRecDepth 100000
set_option maxHeartbeats 4000000
namespace P
open PySem PySem.Spec PyProof.Rows L2 OS
/-! short ways: "rd" opens a reading as far as equations go; "sep" finds what stands apart from the state; "sq" a list that is read; "nx" two heaps -/
local macro_rules | `(tactic| walk_at "sep") => `(tactic| first | assumption | (refine (by assumption : Nx _ _ _) _ _ ?_; walk_at "sep"))
local macro_rules | `(tactic| walk_at "sq") => `(tactic| first | assumption | exact .inl (.inl (by assumption)) | exact Sep.sq (by walk_at "sep") | exact Sep.st (by walk_at "sep") | exact .inl (.inl upd_same))
local macro_rules | `(tactic| walk_at "rd") => `(tactic| repeat (first
  | refine And.intro rfl ?_
  | apply Exists.intro
  | refine And.intro (by assumption) ?_
  | refine And.intro (DrawOk.mk (by omega) (by omega) (by omega)) ?_
  | refine And.intro at0 ?_
  | refine And.intro ⟨_, rfl⟩ ?_
  | refine And.intro (by walk_at "sq") ?_
  | refine And.intro (Or.inl (by walk_at "sq")) ?_
  | refine And.intro (Or.inr (by walk_at "sq")) ?_
  | refine And.intro (by omega) ?_))

section
variable {P : Program} {w : World} {K : PySem.W.Frag} {mg : Str → Option Value} {base : Heap}
/-! ### what is due for a text -/
theorem due_two {t : Str} (h : (Txt.split t coS).length ≠ 2) : dueT t = none := by
  unfold dueT
  split
  · rename_i a b e
    rw [e] at h
    exact absurd rfl h
  · rfl
theorem due_at {t a b : Str} (h : Txt.split t coS = [a, b]) : dueT t = if (Txt.split a spS).length ≤ 5 ∧ (metS (Txt.split a spS)).mergeSort leS = Txt.split a spS ∧ (∀ z ∈ Txt.split a spS, okN z.cps.toList = true) ∧ (∀ g ∈ rowsT b, g = (Txt.split a spS).filter fun n => decide (n ∈ g)) ∧ leastL (rowsT b) = rowsT b
      then some (Txt.split a spS, rowsT b) else none := by
  unfold dueT
  rw [h]
/-- _law_due(word) -/
def spLDue (K : PySem.W.Frag) : Sp := fun vs H Q _ => ∃ (t : Str), vs = [.str t] ∧ t.length ≤ 50000 ∧ (dueT t = none → ∀ p H', Same H H' → SqL K H' p [] → Q (.ref p) H') ∧
  (∀ ws gs, dueT t = some (ws, gs) → ∀ p a b xs H', Same H H' → SqL K H' p [.ref a, .ref b] → SqL K H' a (ws.map V.str) → SqL K H' b xs → GrpsV K H' xs gs → Q (.ref p) H')
theorem ok_law_due (T : Txt K mg) : FnOk P w K mg base CX0 3 T.f_law_due T.fd_law_due ["_law_word"] (spLDue K) := by
  refine T.F_law_due.ok sc_law_due (fun vs H Q E h => ?_) (fun cdv Ar outer s H vs Q E hr h => ?_)
  · obtain ⟨t, rfl, _⟩ := h
    rfl
  · obtain ⟨t, rfl, hl, qn, q⟩ := h
    refine ⟨_, (pss_cons (ps_set (i := 1) sc_law_due.nd rfl (Or.inl rfl) (pe_split (pv 0) pe_str))
    (pss_cons (ps_if (pt_cmpR op_ne (pe_callB (id := "len") (r := rLenS K) call_lenS (by rfl) T.n_len PySem.boot_len (pa_cons (pv 1) pa_nil)) pe_int (nomark _))
      (pss_one (ps_ret (pe_lstO pa_nil))) pss_nil)
    (pss_cons (ps_set (i := 2) sc_law_due.nd rfl (Or.inr rfl) (pe_split (pe_ix (r := rIxL K) ix_list (pv 1) pe_int (fun _ _ => rfl)) pe_str))
    (pss_cons (ps_setLc (i := 3) (own := [("_law_part", 4)]) (g := gName 4) (tt := tYes) rfl sc_law_due.nd rfl rfl (sw_true rfl rfl rfl (by decide +kernel)) (pi_list (pe_split (pe_ix (r := rIxL K) ix_list (pv 1) pe_int (fun _ _ => rfl)) pe_str)) (blkOk_by (own := [("_law_part", 4)]) (N := N_law_due) (sc := defScope s_law_due) (by decide +kernel)) (fun _ _ _ _ _ => (pg_name (i := 4) sc_law_due.nd rfl (Or.inl rfl))) (fun _ _ _ _ _ => pts_nil) (fun _ _ _ _ _ => (pe_callTy (T := "tuple") (r := rTupL K) call_tupL (by rfl) T.n_tuple (by decide +kernel) (pa_cons (pe_split (pv 4) pe_str) pa_nil))))
    (pss_cons (ps_if (PW.pt (pw_or (pt_cmpR op_gt (pe_callB (id := "len") (r := rLenS K) call_lenS (by rfl) T.n_len PySem.boot_len (pa_cons (pv 2) pa_nil)) pe_int (nomark _)) (pw_or (pt_cmpR (r := rNeP K) (op_neP (room65 hr)) (pe_callB (id := "sorted") (r := rSortTx P w) (cr_sortTx rfl (room65 hr)) (by rfl) T.n_sorted (by decide +kernel) (pa_cons (pe_callTy (T := "set") (r := rSetTx K P w) (cr_setTx rfl) (by rfl) T.n_set (by decide +kernel) (pa_cons (pv 2) pa_nil)) pa_nil)) (pv 2) (nomark _)) (pw_or1 (pt_cmpR (r := rNeP K) (op_neP (room65 hr)) (pe_lc (own := [("_law_label", 5)]) (g := gName 5) rfl sc_law_due.nd (pi_list (pv 2)) (blkOk_by (own := [("_law_label", 5)]) (N := N_law_due) (sc := defScope s_law_due) (by decide +kernel)) (fun _ _ _ _ _ => (pg_name (i := 5) sc_law_due.nd rfl (Or.inl rfl))) (fun _ _ _ _ _ => (pts_one (pt_not (pt_val (pe_call (ok_law_good T) (hr.mono (by decide)) (by rfl) T.g_law_good T.F_law_good.kp T.b_law_good .nil pass0 (pa_cons (pv 5) pa_nil)))))) (fun _ _ _ _ _ => (pv 5))) (pe_lstO pa_nil) (nomark _))))))
      (pss_one (ps_ret (pe_lstO pa_nil))) pss_nil)
    (pss_cons (ps_if (PW.pt (pw_or (pt_cmpR (r := rNeP K) (op_neP (room65 hr)) (pe_lc (own := [("_law_one", 6)]) (g := gName 6) rfl sc_law_due.nd (pi_list (pv 3)) (blkOk_by (own := [("_law_one", 6)]) (N := N_law_due) (sc := defScope s_law_due) (by decide +kernel)) (fun _ _ _ _ _ => (pg_name (i := 6) sc_law_due.nd rfl (Or.inl rfl))) (fun _ _ _ _ _ => (pts_one (pt_not (pt_val (pe_call (ok_law_is_set T) (hr.mono (by decide)) (by rfl) T.g_law_is_set T.F_law_is_set.kp T.b_law_is_set .nil pass0 (pa_cons (pv 2) (pa_cons (pv 6) pa_nil))))))) (fun _ _ _ _ _ => (pv 6))) (pe_lstO pa_nil) (nomark _)) (pw_or1 (pt_cmpR (r := rNeP K) (op_neP (room65 hr)) (pe_call (ok_law_least T) (hr.mono (by decide)) (by rfl) T.g_law_least T.F_law_least.kp T.b_law_least .nil pass0 (pa_cons (pv 3) pa_nil)) (pv 3) (nomark _)))))
      (pss_one (ps_ret (pe_lstO pa_nil))) pss_nil)
    (pss_one (ps_ret (pe_lstO (pa_cons (pv 2) (pa_cons (pv 3) pa_nil))))))))))), ?_⟩
    have z1 : ((Str.ofString " ").length == 0) = false := by decide +kernel
    have z2 : ((Str.ofString " / ").length == 0) = false := by decide +kernel
    have z3 : ((Str.ofString ": ").length == 0) = false := by decide +kernel
    have le24 : ∀ n : Nat, n ≤ 3000000 → n ≤ sizeLine := fun n h => Nat.le_trans h (by decide)
    have hl2 : t.length + 2 ≤ sizeLine := le24 _ (by omega)
    walk_at "rd"
    intro l1 n1
    obtain ⟨lt1, lt2⟩ := split_len (x := t) ne_co ki_co
    have d2 := @due_two t
    have da := @due_at t
    unfold coS at d2 da lt1 lt2
    have s1 : Same H (upd H l1 (.lst ((Txt.split t (Str.ofString ": ")).map V.str))) := same_new n1
    have hl1 : SqL K (upd H l1 (.lst ((Txt.split t (Str.ofString ": ")).map V.str))) l1 ((Txt.split t (Str.ofString ": ")).map V.str) := SqL.of upd_same
    generalize upd H l1 (.lst ((Txt.split t (Str.ofString ": ")).map V.str)) = H1 at s1 hl1 ⊢
    generalize Txt.split t (Str.ofString ": ") = parts at d2 da lt1 lt2 hl1 ⊢
    have hpl : (parts.map V.str).length = parts.length := List.length_map _
    have nil : dueT t = none → ∀ H2, Same H H2 → ∀ p H', H2 p = none → Same H2 H' → H' p = some (.lst []) → Q (.ref p) H' := fun hn H2 s p H' _ s' hp => qn hn p H' (s.trans s') (SqL.of hp)
    walk_at "rd"
    refine ite2 (fun e1 => ?_) (fun e1 => ?_)
    · have hn : dueT t = none := d2 fun z => by
        rw [hpl, z] at e1
        exact absurd e1 (by decide)
      walk_at "rd"
      exact ⟨by decide, nil hn H1 s1⟩
    · obtain ⟨a, b, rfl⟩ : ∃ a b, parts = [a, b] := by
        match parts, hpl with
        | [a, b], _ => exact ⟨a, b, rfl⟩
        | [], _ => exact absurd rfl e1
        | [_], _ => exact absurd rfl e1
        | _ :: _ :: _ :: r, h => exact absurd (by rw [h]; exact (Bool.not_eq_true' _).mpr (decide_eq_false fun z => by have := V.int.inj z; simp at this; omega)) e1
      have da := da rfl
      have lta := lt1 a (List.mem_cons_self ..)
      have ltb := lt1 b (List.mem_cons_of_mem _ (List.mem_cons_self ..))
      clear d2 lt1 lt2 hpl e1
      change SqL K H1 l1 [V.str a, V.str b] at hl1
      have hat0 : atI [V.str a, V.str b] 0 = some (.str a) := rfl
      have hat1 : atI [V.str a, V.str b] 1 = some (.str b) := rfl
      have za : a.length + 2 ≤ sizeLine := le24 _ (by omega)
      have zb : b.length + 2 ≤ sizeLine := le24 _ (by omega)
      obtain ⟨lp1, lp2⟩ := split_len (x := a) ne_sp ki_sp
      obtain ⟨lg1, lg2⟩ := split_len (x := b) ne_ba ki_ba
      walk_at "rd"
      intro l2 n2
      have s2 : Same H1 (upd H1 l2 (.lst ((Txt.split a (Str.ofString " ")).map V.str))) := same_new n2
      have hl2 : (upd H1 l2 (.lst ((Txt.split a (Str.ofString " ")).map V.str))) l2 = some (.lst ((Txt.split a (Str.ofString " ")).map V.str)) := upd_same
      generalize upd H1 l2 (.lst ((Txt.split a (Str.ofString " ")).map V.str)) = H2 at s2 hl2 ⊢
      have hl12 := s2.seq hl1
      walk_at "rd"
      intro l3 n3
      have s3 : Same H2 (upd H2 l3 (.lst ((Txt.split b (Str.ofString " / ")).map V.str))) := same_new n3
      have hl3 : (upd H2 l3 (.lst ((Txt.split b (Str.ofString " / ")).map V.str))) l3 = some (.lst ((Txt.split b (Str.ofString " / ")).map V.str)) := upd_same
      generalize upd H2 l3 (.lst ((Txt.split b (Str.ofString " / ")).map V.str)) = H3 at s3 hl3 ⊢
      walk_at "rd"
      refine ⟨⟨_, SqL.of hl3⟩, fun D hD => ?_⟩
      refine lc_rel (walk_list (xs := (Txt.split b (Str.ofString " / ")).map V.str)) (xs := Txt.split b (Str.ofString " / ")) (by simp) (by rw [List.length_map]; exact Nat.le_trans lg2 (by omega)) (fun _ => true) (fun H z v => GrpV K H v (Txt.split z (Str.ofString " "))) hD (fun H H' z v acc _ hDa k h => h.but hDa k) (fun H s => s.seq (SqL.of hl3)) ?_ ?_
      · intro i z v H4 H5 Qk Qn hzi sm hy hk _
        obtain ⟨rfl, hv⟩ := hy
        obtain rfl := strs_get hv hzi
        have zl : z.length + 2 ≤ sizeLine := le24 _ (by have := lg1 z (List.mem_of_getElem? hzi); omega)
        walk_at "rd"
        intro l6 n6
        have s6 : Same H5 (upd H5 l6 (.lst ((Txt.split z (Str.ofString " ")).map V.str))) := same_new n6
        refine tNil_i ⟨l6, _, rfl, SqL.of upd_same, fun t7 H7 n7 s7 ht7 => ?_⟩
        exact hk rfl _ _ ⟨t7, rfl, SqT.of ht7⟩ (s6.trans s7)
      · intro H4 acc sm hD4 pr
        have hfl : (Txt.split b (Str.ofString " / ")).filter (fun _ => true) = Txt.split b (Str.ofString " / ") := List.filter_eq_self.mpr fun _ _ => rfl
        rw [hfl] at pr
        have pr' : GrpsV K H4 acc (rowsT b) := paired_swap (paired_map (F := fun (g : List Str) (v : V) => GrpV K H4 v g) (f := fun z => Txt.split z (Str.ofString " ")) pr)
        have hl24 : SqL K H4 l2 ((Txt.split a (Str.ofString " ")).map V.str) := SqL.of ((s3.trans sm) _ _ hl2)
        have s04 := s1.trans (s2.trans (s3.trans sm))
        have hrl : (rowsT b).length ≤ 50001 := by
          unfold rowsT
          rw [List.length_map]
          exact Nat.le_trans lg2 (by omega)
        have lp1 := lp1
        change (∀ z ∈ Txt.split a spS, z.length ≤ a.length) at lp1
        change (Txt.split a spS).length ≤ a.length + 1 at lp2
        change SqL K H4 l2 ((Txt.split a spS).map V.str) at hl24
        clear pr hfl hl12 hl1 hl2 hl3 s2 s3 n2 n3 hD sm lg1 lg2
        generalize Txt.split a spS = ps at lp1 lp2 hl24 da
        generalize rowsT b = rows at pr' hrl da
        have hDq := SqL.of (K := K) hD4
        clear hD4
        have hpsl : (ps.map V.str).length = ps.length := List.length_map _
        have hxl := paired_len pr'
        have fin0 : ¬ ((ps.length ≤ 5 ∧ (metS ps).mergeSort leS = ps ∧ (∀ z ∈ ps, okN z.cps.toList = true) ∧ (∀ g ∈ rows, g = ps.filter fun n => decide (n ∈ g)) ∧ leastL rows = rows)) → dueT t = none := fun h => by rw [da, if_neg h]
        walk_at "rd"
        refine ite2 (fun e1 => ?_) (fun e1 => ?_)
        · have e5 : ¬ ps.length ≤ 5 := by
            have := of_decide_eq_true e1
            omega
          refine iteT ?_
          walk_at "rd"
          exact ⟨by decide, nil (fin0 fun z => e5 z.1) H4 s04⟩
        · have e5 : ps.length ≤ 5 := by
            apply Classical.byContradiction
            intro z
            exact e1 (decide_eq_true (by omega))
          walk_at "rd"
          intro p5 n5
          have s5 : Same H4 (upd H4 p5 (TxO P w p5 (metS ps))) := same_new n5
          have hp5 : (upd H4 p5 (TxO P w p5 (metS ps))) p5 = some (TxO P w p5 (metS ps)) := upd_same
          generalize upd H4 p5 (TxO P w p5 (metS ps)) = H5 at s5 hp5 ⊢
          refine tNil_i ⟨p5, metS ps, rfl, hp5, (metS_facts ps).1, by have := (metS_facts ps).2.2; omega, fun q6 H6 n6 s6 hq6 => ?_⟩
          have s46 := s5.trans s6
          have hp6 := s46.seq hl24
          have d1 : Dp K H6 (.ref q6) (.list (((metS ps).mergeSort leS).map .str)) := dp_strs (SqL.of hq6)
          have d2 := dp_strs hp6
          walk_at "rd"
          refine ⟨by simp only [PyData.depth, depth_strs]; decide, ?_⟩
          rw [show PyData.eqv (.list (((metS ps).mergeSort leS).map .str)) (.list (ps.map .str)) = decide ((metS ps).mergeSort leS = ps) from eqvAll_strs _ _]
          walk_at "rd"
          refine ite2 (fun e2 => ?_) (fun e2 => ?_)
          · refine iteT ?_
            walk_at "rd"
            refine ⟨by decide, nil (fin0 fun z => ?_) H6 (s04.trans s46)⟩
            rw [decide_eq_true z.2.1] at e2
            cases e2
          · have e6 : (metS ps).mergeSort leS = ps := Classical.byContradiction fun z => e2 (by rw [decide_eq_false z]; rfl)
            walk_at "rd"
            refine ⟨⟨_, hp6⟩, fun D7 hD7 => ?_⟩
            refine lc_fn (walk_list (xs := ps.map V.str)) (xs := ps) (by simp) (by simp; omega) (fun z => !okN z.cps.toList) V.str hD7 (fun H s => s.seq hp6) ?_ ?_
            · intro i z v Ha Hb Qk Qn hz sm hy hk hn
              obtain ⟨rfl, hv⟩ := hy
              obtain rfl := strs_get hv hz
              have zl : z.length ≤ 100000 := by
                have := lp1 z (List.mem_of_getElem? hz)
                omega
              walk_at "rd"
              intro Hc sc
              walk_at "rd"
              refine ite2 (fun e => ?_) (fun e => ?_)
              · walk_at "rd"
                exact hk e _ sc
              · exact hn ((Bool.not_eq_true _).mp e) _ sc
            · intro H7 s7 hD7'
              walk_at "rd"
              refine ⟨by decide, fun e8 H8 n8 s8 h8 => ?_⟩
              refine ⟨_, _, dp_strs (SqL.of (s8 _ _ hD7')), dp_nil (SqL.of h8), by simp only [PyData.depth, depth_strs]; decide, ?_⟩
              rw [eqv_nil]
              first
                | rw [List.isEmpty_map, filter_empty]
                | rw [filter_empty]
              have s48 := s46.trans (s7.trans s8)
              walk_at "rd"
              refine ite2 (fun e3 => ?_) (fun e3 => ?_)
              · first
                  | refine iteT ?_
                  | skip
                walk_at "rd"
                refine ⟨by decide, nil (fin0 fun z => ?_) H8 (s04.trans s48)⟩
                rw [List.all_eq_true.mpr z.2.2.1] at e3
                cases e3
              · have e7 : ∀ z ∈ ps, okN z.cps.toList = true := List.all_eq_true.mp (by
                  apply Classical.byContradiction
                  intro z
                  exact e3 (by rw [(Bool.not_eq_true _).mp z]; rfl))
                have hp8 := s48.seq hl24
                have hD8 := s48.seq hDq
                have hr8 := pr'.same s48
                have nd := (met_srt e6).1
                walk_at "rd"
                refine ⟨⟨_, hD8⟩, fun D9 hD9 => ?_⟩
                refine lc_rel (walk_list (xs := acc)) (xs := rows) hxl.symm (by rw [hxl]; omega) (fun g => !isGrp ps (asThing g)) (fun H g v => GrpV K H v g) hD9 (fun H H' g v acc _ hDa k h => h.but hDa k) (fun H s => s.seq hD8) ?_ ?_
                · intro i g v Ha Hb Qk Qn hg sm hy hk hn
                  obtain ⟨rfl, hv⟩ := hy
                  obtain ⟨g', h1', h2⟩ := OS.paired_get hr8 hv
                  obtain rfl : g' = g := Option.some.inj (h1'.symm.trans hg)
                  have h3 := h2.same sm
                  obtain ⟨bb, rfl, hbb⟩ := id h3
                  have hpb : SqL K Hb l2 (ps.map V.str) ∨ SqT K Hb l2 (ps.map V.str) := .inl (sm.seq hp8)
                  have hth : Thing K Hb (.ref bb) (asThing g') := .tup hbb fun v hv => by
                    obtain ⟨z, _, rfl⟩ := List.mem_map.mp hv
                    exact .flat rfl
                  walk_at "rd"
                  intro Hc sc
                  walk_at "rd"
                  refine ite2 (fun e => ?_) (fun e => ?_)
                  · walk_at "rd"
                    exact hk e _ _ (h3.same sc) sc
                  · exact hn ((Bool.not_eq_true _).mp e) _ sc
                · intro H9 ac9 s9 hD9' pr9
                  have pr9' : GrpsV K H9 ac9 (rows.filter fun g => !isGrp ps (asThing g)) := paired_swap pr9
                  walk_at "rd"
                  refine ⟨by decide, fun ea Ha na sa ha => ?_⟩
                  have dd1 : Dp K Ha (.ref D9) (.list ((rows.filter fun g => !isGrp ps (asThing g)).map encG)) := .lst (SqL.of (sa _ _ hD9')) (pr9'.same sa).dps
                  refine ⟨_, _, dd1, dp_nil (SqL.of ha), ?_, ?_⟩
                  · have := depth_Gs (rows.filter fun g => !isGrp ps (asThing g))
                    simp only [PyData.depth]
                    omega
                  · rw [eqv_nil]
                    have s4a := s48.trans (s9.trans sa)
                    have hpa := s4a.seq hl24
                    have hDa := s4a.seq hDq
                    have hra := pr'.same s4a
                    walk_at "rd"
                    refine ite2 (fun e4 => ?_) (fun e4 => ?_)
                    · refine iteT ?_
                      walk_at "rd"
                      refine ⟨by decide, nil (fin0 fun z => ?_) Ha (s04.trans s4a)⟩
                      have hf : rows.filter (fun g => !isGrp ps (asThing g)) = [] := List.filter_eq_nil_iff.mpr fun g hg h => by
                        have : isGrp ps (asThing g) = true := (isGrp_iff nd).mpr ⟨g, set_sub (z.2.2.2.1 g hg), rfl⟩
                        rw [this] at h
                        cases h
                      rw [hf] at e4
                      exact absurd e4 (by decide)
                    · have e8 : ∀ g ∈ rows, g = ps.filter fun n => decide (n ∈ g) := by
                        have hf : rows.filter (fun g => !isGrp ps (asThing g)) = [] := by
                          cases hc : rows.filter (fun g => !isGrp ps (asThing g)) with
                          | nil => rfl
                          | cons x r => exact absurd (by rw [hc]; rfl) e4
                        intro g hg
                        have h1 := List.filter_eq_nil_iff.mp hf g hg
                        have h2 : isGrp ps (asThing g) = true := by simpa using h1
                        obtain ⟨g', hg', e⟩ := (isGrp_iff nd).mp h2
                        obtain rfl : g = g' := List.map_inj_right (fun a b z => V.str.inj z) |>.mp (Option.some.inj e)
                        exact sub_set nd hg'
                      have hr9 : ∀ g ∈ rows, g.length ≤ 900 := fun g hg => by
                        have := (set_sub (e8 g hg)).length_le
                        omega
                      have hr90 : rows.length ≤ 90000 := by omega
                      walk_at "rd"
                      intro lb Hb ysb nb sb hlb hyb
                      have hrb := hra.same sb
                      have s4b := s4a.trans sb
                      have hDb := s4b.seq hDq
                      have dd3 : Dp K Hb (.ref lb) (.list ((leastL rows).map encG)) := .lst (SqL.of hlb) hyb.dps
                      have dd4 : Dp K Hb (.ref D) (.list (rows.map encG)) := .lst hDb hrb.dps
                      walk_at "rd"
                      refine ⟨?_, ?_⟩
                      · have := depth_Gs (leastL rows)
                        simp only [PyData.depth]
                        omega
                      · rw [show PyData.eqv (.list ((leastL rows).map encG)) (.list (rows.map encG)) = decide (leastL rows = rows) from eqv_Gs _ _]
                        walk_at "rd"
                        refine ite2 (fun e9 => ?_) (fun e9 => ?_)
                        · first
                            | refine iteT ?_
                            | skip
                          walk_at "rd"
                          refine ⟨by decide, nil (fin0 fun z => ?_) Hb (s04.trans s4b)⟩
                          rw [decide_eq_true z.2.2.2.2] at e9
                          cases e9
                        · have e10 : leastL rows = rows := Classical.byContradiction fun z => e9 (by rw [decide_eq_false z]; rfl)
                          walk_at "rd"
                          refine ⟨by show 2 ≤ sizeLine; decide, fun lz Hz nz sz hlz => ?_⟩
                          exact q ps rows (by rw [da, if_pos ⟨e5, e6, e7, e8, e10⟩]) lz l2 D acc Hz (s04.trans (s4b.trans sz)) (SqL.of hlz) ((s4b.trans sz).seq hl24) (sz.seq hDb) (hrb.same sz)
end
end P

set_option Elab.async false
set_option linter.all false
set_option maxRecDepth 100000
set_option maxHeartbeats 4000000
namespace OS
open PySem PySem.Spec PyProof.Rows L2
/-- isinstance(e, c), e the caught error that the suite holds -/
def rIsZ (K : PySem.W.Frag) (cls : Value) (d : Option Addr) (a : Addr) : List V → Hp → VK → Prop := fun xs H Q => ∃ (C : Addr) (c : V) (cv : Value) (b : Bool) (dd : Addr) (fs : List (Str × V)), xs = [.ref a, c] ∧ cls = .ref C ∧ d = some dd ∧ H dd = some (.xd fs) ∧ ErrT K C ∧ ClsV c cv ∧ PySem.W.kitOne K (.ref C) cv = some b ∧ Q (.bl b) H
theorem call_isZ {X : Cx} {a : Addr} {cls : Value} {d : Option Addr} {oe : Obj} {pn : List (Addr × Obj)} (hz : Zc cls d oe) (hf : ∃ vs, oe.data = .fields vs) : CallR (X.suite a ((a, oe) :: pn)) (.builtin "isinstance") (rIsZ X.K cls d a) := by
  intro pins s σ H xs us Q I r h
  obtain ⟨C, c, cv, b, dd, fs, rfl, rfl, rfl, ed, T, hc, e, q⟩ := h
  obtain ⟨u1, u2, rfl, r1, r2⟩ := vals2 r
  have e2 := hc.eq r2
  subst e2
  cases (show u1 = Value.ref a from r1)
  obtain ⟨hget, _⟩ := I.pin (a, oe) (List.mem_append.mpr (.inl List.mem_cons_self))
  obtain ⟨vs, hv⟩ := hf
  have hx : ObjOk X.prog X.w H s.heap dd (.xd fs) := I.hok dd _ ed
  obtain ⟨mA, hns, hr⟩ := hx
  obtain ⟨od, ho, hl⟩ := lookIn_ns hns
  have J : PySem.W.InstAt s.heap a oe C (some od) := ⟨hget, hz.1, by unfold PySem.W.notCls; rw [hv] <;> rfl, by rw [hz.2]; exact ho⟩
  have hcl : (PySem.W.clsIn X.K C).isSome = true := by
    obtain ⟨nm, q, N, bs, bm, sn, sub, ab, col, dd, k0, k1, k2, k3, k5, hC, hbm⟩ := T.ox.cls
    unfold PySem.W.clsIn
    rw [hC]
    rfl
  exact PySem.W.kia_one (PySem.W.kitx_exc hcl T.ex.hg T.ex.hk T.ex.hs T.ex.ha T.ex.hn T.ex.ht T.ex.hm) I.kIn J e (fun z => nomatch z) fun tk => ⟨.bl b, H, I.kept (t' := tk) fun _ _ z => z, rfl, q⟩
end OS
namespace P
open PySem PySem.Spec PyProof.Rows L2 OS
/-! short ways: "rd" opens a reading as far as equations go; "sep" finds what stands apart from the state; "sq" a list that is read; "nx" two heaps -/
local macro_rules | `(tactic| walk_at "sep") => `(tactic| first | assumption | (refine (by assumption : Nx _ _ _) _ _ ?_; walk_at "sep"))
local macro_rules | `(tactic| walk_at "sq") => `(tactic| first | assumption | exact .inl (.inl (by assumption)) | exact Sep.sq (by walk_at "sep") | exact Sep.st (by walk_at "sep") | exact .inl (.inl upd_same))
local macro_rules | `(tactic| walk_at "rd") => `(tactic| repeat (first
  | refine And.intro rfl ?_
  | apply Exists.intro
  | refine And.intro (by assumption) ?_
  | refine And.intro (DrawOk.mk (by omega) (by omega) (by omega)) ?_
  | refine And.intro at0 ?_
  | refine And.intro ⟨_, rfl⟩ ?_
  | refine And.intro (by walk_at "sq") ?_
  | refine And.intro (Or.inl (by walk_at "sq")) ?_
  | refine And.intro (Or.inr (by walk_at "sq")) ?_
  | refine And.intro (by omega) ?_))

section
variable {P : Program} {w : World} {K : PySem.W.Frag} {mg : Str → Option Value} {base : Heap}
/-- Family(ps, rows) with the names in any order -/
theorem fam_made0 (T : Txt K mg) {E : XK} {H : Hp} {f dx a g : Addr} {ps : List Str} {xs : List V} {rows : List (List Str)} {Q : VK} (hfn : H f = none) (hdn : H dx = none) (hne : dx ≠ f) (ha : SqL K H a (ps.map V.str) ∨ SqT K H a (ps.map V.str)) (F : Fine (srt ps)) (hw : wrongUp ps ps.length = none)
    (hg : SqL K H g xs ∨ SqT K H g xs) (hgv : GrpsV K H xs rows) (hrl : rows.length ≤ 100000) (hR : RowsOk (srt ps) rows) (R : ∀ H', Same H H' → H f = none → FamAt K T.C_Family H' f (srt ps) (leastP (srt ps) rows) → Q .non H') :
    spFam T [.ref f, .ref a, .ref g] (upd (upd H dx (HO.own f)) f (HO.ins T.C_Family dx [])) Q E := by
  have sn : Same H (upd (upd H dx (HO.own f)) f (HO.ins T.C_Family dx [])) := (same_new hdn).trans (same_new (by rw [upd_ne hne.symm]; exact hfn))
  have hfat : (upd (upd H dx (HO.own f)) f (HO.ins T.C_Family dx [])) f = some (HO.ins T.C_Family dx []) := upd_same
  generalize upd (upd H dx (HO.own f)) f (HO.ins T.C_Family dx []) = H6 at sn hfat ⊢
  have h1 := F.one
  have h5 := F.five
  rw [srt_len] at h1 h5
  have hbs : ¬ badLen ps := by
    rintro (z | z) <;> omega
  have good : ∀ (o : Option (List V)), o ∈ rows.map asThing → isGrp (srt ps) o = true ∧ o ≠ some [] := fun o ho => by
    obtain ⟨g', hg', rfl⟩ := List.mem_map.mp ho
    exact ⟨(isGrp_iff F.nd).mpr ⟨g', hR.sub g' hg', rfl⟩, fun z => hR.full g' hg' (List.map_eq_nil_iff.mp (Option.some.inj z))⟩
  refine ⟨f, a, g, dx, ps, xs, rows.map asThing, rfl, hfat, ha.elim (fun h => .inl (sn.seq h)) (fun h => .inr (sn.tupT h)), by omega, fun z hz => Nat.le_trans (F.small z ((srt_perm ps).mem_iff.mpr hz)) (by decide), hg.elim (fun h => .inl (sn.seq h)) (fun h => .inr (sn.tupT h)), things_same (grps_things hgv) sn, by rw [List.length_map]; exact hrl,
    ⟨fun z => absurd z hbs, fun z H' _ h => (by rw [hw] at h; cases h), fun z H' _ h => (by rw [hw] at h; cases h)⟩, fun _ _ => ⟨fun z => absurd (List.map_eq_nil_iff.mp z) hR.ne, fun i x o _ h2 _ h4 => absurd (good o (List.mem_of_getElem? h2)) h4⟩, fun _ _ rows' er _ _ H' kp hF => ?_⟩
  have er' : rows = rows' := (List.map_inj_right (fun x y h => List.map_inj_right (fun a b z => V.str.inj z) |>.mp (Option.some.inj h))).mp er
  subst er'
  exact R H' (fun b o e => kp b o (sn b o e) (ne_of_none e hfn)) hfn hF
theorem fine_of {ps : List Str} (h1 : 1 ≤ ps.length) (h5 : ps.length ≤ 5) (hd : ps.Nodup) (hk : ∀ z ∈ ps, okN z.cps.toList = true) : Fine (srt ps) ∧ wrongUp ps ps.length = none := by
  have hw : wrongUp ps ps.length = none := badAt_none hd hk (Nat.le_refl _)
  refine ⟨⟨by rw [srt_len]; exact h1, by rw [srt_len]; exact h5, srt_fine hw, srt_srt ps, fun z hz => ?_⟩, hw⟩
  have := ok_small (hk z ((srt_perm ps).mem_iff.mp hz))
  omega
theorem iteF2 {c : Bool} {A B : Prop} (e : c = false) (h : B) : if c = true then A else B := by
  rw [e]
  exact iteF h
theorem sqT_but {H H' : Hp} {D a : Addr} {acc xs : List V} (hD : H D = some (.lst acc)) (k : ∀ b o, H b = some o → b ≠ D → H' b = some o) (h : SqT K H a xs) : SqT K H' a xs := by
  rcases h with (h | ⟨o, h⟩) | h
  · exact .inl (.inl (k _ _ h fun z => by rw [z, hD] at h; cases h))
  · exact .inl (.inr ⟨o, k _ _ h fun z => by rw [z, hD] at h; cases h⟩)
  · exact .inr h
theorem fam_but {C : Addr} {H H' : Hp} {D f : Addr} {acc : List V} {ws : List Str} {gs : List (List Str)} (hD : H D = some (.lst acc)) (k : ∀ b o, H b = some o → b ≠ D → H' b = some o) (h : FamAt K C H f ws gs) : FamAt K C H' f ws gs := by
  obtain ⟨dx, a, b, c, xs, h1, h2, h3, h4, h5⟩ := h
  exact ⟨dx, a, b, c, xs, k _ _ h1 (fun z => by rw [z, hD] at h1; cases h1), sqT_but hD k h2, sqT_but hD k h3, Paired.mapP h4 fun _ _ q => q.but hD k, sqT_but hD k h5⟩
theorem paired_rev {α β : Type} {Rl : α → β → Prop} : ∀ {xs : List α} {ys : List β}, Paired Rl xs ys → Paired Rl xs.reverse ys.reverse
  | _, _, .nil => .nil
  | _, _, .cons r t => by
    rw [List.reverse_cons, List.reverse_cons]
    exact paired_snoc (paired_rev t) r
/-! ### the text that is drawn -/
theorem WS_le {y : Str} {B : Nat} : ∀ {zs : List Str}, (∀ z ∈ zs, z.length ≤ B) → WS y zs ≤ zs.length * (B + y.length)
  | [], _ => by
    show 0 + 0 * y.length ≤ 0 * _
    omega
  | z :: zs, h => by
    have h1 := h z (List.mem_cons_self ..)
    have h2 := WS_le (y := y) (zs := zs) fun x hx => h x (List.mem_cons_of_mem _ hx)
    rw [WS_cons, List.length_cons, Nat.succ_mul]
    omega
theorem fam_short {ws : List Str} {gs : List (List Str)} (h6 : ws.length ≤ 6) (hz : ∀ z ∈ ws, z.length ≤ 6) (hgl : gs.length ≤ 64) (hgs : ∀ g ∈ gs, g.Sublist ws) : (famTxt ws gs).length ≤ 3000 := by
  have e1 : (Str.ofString " ").length = 1 := by decide +kernel
  have e2 : (Str.ofString ": ").length = 2 := by decide +kernel
  have e3 : (Str.ofString " / ").length = 3 := by decide +kernel
  have small : ∀ g : List Str, g.Sublist ws → (Txt.join (Str.ofString " ") g).length ≤ 42 := fun g hg => by
    have h1 := tjoin_WS (Str.ofString " ") g
    have h2 := WS_le (y := Str.ofString " ") (B := 6) (zs := g) fun z h => hz z (hg.subset h)
    have h3 := hg.length_le
    rw [e1] at h2
    omega
  have hj := small ws (List.Sublist.refl _)
  have h1 := tjoin_WS (Str.ofString " / ") (gs.map (Txt.join (Str.ofString " ")))
  have h2 := WS_le (y := Str.ofString " / ") (B := 42) (zs := gs.map (Txt.join (Str.ofString " "))) fun z h => by
    obtain ⟨g, hg, rfl⟩ := List.mem_map.mp h
    exact small g (hgs g hg)
  rw [e3, List.length_map] at h2
  unfold famTxt
  rw [emp_app, app_len, app_len, e2]
  omega
/-- names in order, at most six -/
structure Wk (ws : List Str) : Prop where
  one : 1 ≤ ws.length
  six : ws.length ≤ 6
  nd : ws.Nodup
  srt : srt ws = ws
  ok : ∀ z ∈ ws, okN z.cps.toList = true
theorem Wk.of {ps : List Str} (h1 : 1 ≤ ps.length) (h6 : ps.length ≤ 6) (hd : ps.Nodup) (hk : ∀ z ∈ ps, okN z.cps.toList = true) : Wk (ps.mergeSort leS) :=
  ⟨by rw [srt_len]; exact h1, by rw [srt_len]; exact h6, srt_nodup hd, srt_srt ps, fun z hz => hk z ((srt_perm ps).mem_iff.mp hz)⟩
theorem Wk.fine {ws : List Str} (h : Wk ws) (h5 : ws.length ≤ 5) : Fine ws := fine_of0 h.one h5 h.nd h.srt h.ok
theorem rev_rows {ws : List Str} {gs : List (List Str)} (R : RowsOk ws gs) : RowsOk ws gs.reverse :=
  ⟨fun e => R.ne (List.reverse_eq_nil_iff.mp e), fun g hg => R.sub g (List.mem_reverse.mp hg), fun g hg => R.full g (List.mem_reverse.mp hg)⟩
theorem rev_least {ws : List Str} {gs : List (List Str)} (hn : ws.Nodup) (R : RowsOk ws gs) : leastP ws gs.reverse = leastP ws gs :=
  least_op hn (rev_rows R).sub R.sub fun g _ => by
    unfold opL
    rw [List.any_reverse]
theorem rev_srt {ws : List Str} (h : srt ws = ws) : srt ws.reverse = ws := by
  have p : (srt ws.reverse).Perm ws := (List.mergeSort_perm _ _).trans (List.reverse_perm ws)
  have s2 := PySem.W.sort_pairwise leS_tot ws
  rw [show ws.mergeSort leS = ws from h] at s2
  exact sorted_one (PySem.W.sort_pairwise leS_tot ws.reverse) s2 p
theorem RowsOk.len {ws : List Str} {rows : List (List Str)} (F : Fine ws) (h : RowsOk ws rows) : (leastP ws rows).length ≤ 31 := few F.five (least_sub ws rows) (h.least F.nd).full
theorem turn_least {ws : List Str} {A : List (List Str)} (hp : ws.Nodup) (hA : ∀ g ∈ A, g.Sublist ws) : turnB ws (leastP ws A) = turnB ws A := funext fun g => by
  show (!opL (leastP ws A) _) = !opL A _
  rw [least_any hp hA]
/-- != of equal data -/
theorem eqv_self {H : Hp} {v : V} {d : PyData} (h : Dp K H v d) : PyData.eqv d d = true := SeqAt.eqv_refl_plain d (dp_plain d _ h)
/-- a family of the rows X -/
structure FamX (T : Txt K mg) (H : Hp) (f : Addr) (ws : List Str) (X : List (List Str)) : Prop where
  at_ : FamAt K T.C_Family H f ws (leastP ws X)
  ok : RowsOk ws X
theorem FamX.same {T : Txt K mg} {H H' : Hp} {f : Addr} {ws : List Str} {X : List (List Str)} (h : FamX T H f ws X) (s : Same H H') : FamX T H' f ws X := ⟨h.at_.same s, h.ok⟩
theorem turned_call (T : Txt K mg) {E : XK} {H : Hp} {f : Addr} {ws : List Str} {X : List (List Str)} {Q : VK} (F : Fine ws) (h : FamX T H f ws X) (q : ∀ f' H', Same H H' → FamX T H' f' ws (upG ws (turnB ws X)) → Q (.ref f') H') : spTurned T [.ref f] H Q E :=
  ⟨f, ws, _, rfl, h.at_, F, h.ok.least F.nd, h.ok.len F, fun f' H' _ s hF => q f' H' s ⟨by rw [turn_least F.nd h.ok.sub] at hF; exact hF, turn_rows h.ok⟩⟩
/-- family != family, where both open the same -/
theorem fam_neO (T : Txt K mg) {H : Hp} {f f' : Addr} {ws : List Str} {X Y : List (List Str)} {Q : VK} (F : Fine ws) (h : FamX T H f ws X) (h' : FamX T H f' ws Y) (e : ∀ g, g.Sublist ws → opL X g = opL Y g) (R : ∀ H', Same H H' → Q (.bl false) H') : rNeO T.C_Family (spFEq T) (.ref f) (.ref f') H Q := by
  have e2 := least_op F.nd h.ok.sub h'.ok.sub e
  have hF := h.at_
  have hF' := h'.at_
  rw [← e2] at hF'
  obtain ⟨dx, a, b, c, xs, hf, _⟩ := id hF
  obtain ⟨dx', a', b', c', xs', hf', _⟩ := id hF'
  refine ⟨f, f', dx, dx', _, _, rfl, rfl, hf, hf', f, _, ws, _, rfl, hF, .inl ⟨f', ws, _, rfl, hF', fun H' s => ⟨_, rfl, ?_⟩⟩⟩
  have := R H' s
  rw [decide_eq_true rfl, decide_eq_true rfl]
  exact this
theorem ins_of {T : Txt K mg} {H : Hp} {f : Addr} {ws : List Str} {X : List (List Str)} (h : FamX T H f ws X) : ∃ dx fs, H f = some (.ins T.C_Family dx fs) ∧ fs.lookup ("turned" : Str) = none := by
  obtain ⟨dx, a, b, c, xs, hf, _⟩ := h.at_
  exact ⟨dx, _, hf, flds_no a b c (by decide +kernel) (by decide +kernel) (by decide +kernel)⟩
/-- the same, with what an expression of it asks -/
theorem turned_x (T : Txt K mg) {E : XK} {H : Hp} {f : Addr} {ws : List Str} {X : List (List Str)} {Q : VK} (F : Fine ws) (h : FamX T H f ws X) (q : ∀ f' H', Same H H' → FamX T H' f' ws (upG ws (turnB ws X)) → Q (.ref f') H') :
    ∃ a dx fs, V.ref f = .ref a ∧ H a = some (.ins T.C_Family dx fs) ∧ fs.lookup ("turned" : Str) = none ∧ spTurned T [V.ref f] H Q E := by
  obtain ⟨dx, fs, e1, e2⟩ := ins_of h
  exact ⟨f, dx, fs, rfl, e1, e2, turned_call T F h q⟩
theorem fam_eqO (T : Txt K mg) {H : Hp} {f f' : Addr} {ws ws' : List Str} {gs gs' : List (List Str)} {Q : VK} (h : FamAt K T.C_Family H f ws gs) (h' : FamAt K T.C_Family H f' ws' gs') (R : ∀ H', Same H H' → Q (.bl (decide (ws = ws') && decide (gs = gs'))) H') : rEqO T.C_Family (spFEq T) (.ref f) (.ref f') H Q := by
  obtain ⟨dx, a, b, c, xs, hf, _⟩ := id h
  obtain ⟨dx', a', b', c', xs', hf', _⟩ := id h'
  exact ⟨f, f', dx, dx', _, _, rfl, rfl, hf, hf', f, _, ws, gs, rfl, h, .inl ⟨f', ws', gs', rfl, h', fun H' s => ⟨_, rfl, R H' s⟩⟩⟩
end
end P

set_option Elab.async false
set_option linter.all false
set_option maxRecDepth 100000
set_option maxHeartbeats 4000000
namespace P
open PySem PySem.Spec PyProof.Rows L2 OS
/-! short ways: "rd" opens a reading as far as equations go; "sep" finds what stands apart from the state; "sq" a list that is read; "nx" two heaps -/
local macro_rules | `(tactic| walk_at "sep") => `(tactic| first | assumption | (refine (by assumption : Nx _ _ _) _ _ ?_; walk_at "sep"))
local macro_rules | `(tactic| walk_at "sq") => `(tactic| first | assumption | exact .inl (.inl (by assumption)) | exact Sep.sq (by walk_at "sep") | exact Sep.st (by walk_at "sep") | exact .inl (.inl upd_same))
local macro_rules | `(tactic| walk_at "rd") => `(tactic| repeat (first
  | refine And.intro rfl ?_
  | apply Exists.intro
  | refine And.intro (by assumption) ?_
  | refine And.intro (DrawOk.mk (by omega) (by omega) (by omega)) ?_
  | refine And.intro at0 ?_
  | refine And.intro ⟨_, rfl⟩ ?_
  | refine And.intro (by walk_at "sq") ?_
  | refine And.intro (Or.inl (by walk_at "sq")) ?_
  | refine And.intro (Or.inr (by walk_at "sq")) ?_
  | refine And.intro (by omega) ?_))

section
variable {P : Program} {w : World} {K : PySem.W.Frag} {mg : Str → Option Value} {base : Heap}
def spLaw (K : PySem.W.Frag) : Sp := fun vs H Q _ => ∃ (a : Addr) (ns : List Int), vs = [.ref a] ∧ SqL K H a (ns.map V.int) ∧ ns.length ≤ 63 ∧ ∀ H', Q (.bl true) H'
theorem ok_law (T : Txt K mg) : FnOk P w K mg base CX0 8 T.f_law T.fd_law ["_law_script"] (spLaw K) := by
  refine T.F_law.ok sc_law (fun vs H Q E h => ?_) (fun cdv Ar outer s H vs Q E hr h => ?_)
  · obtain ⟨a, ns, rfl, _⟩ := h
    rfl
  · obtain ⟨c, ns, rfl, hc, hcl, q⟩ := h
    have hu65 := room65 hr
    refine ⟨_, (pss_cons (ps_set (i := 1) sc_law.nd rfl (Or.inl rfl) (pe_call (ok_law_start T) (hr.mono (by decide)) (by rfl) T.g_law_start T.F_law_start.kp T.b_law_start .nil pass0 (pa_cons (pv 0) pa_nil)))
    (pss_cons (ps_set (i := 2) sc_law.nd rfl (Or.inl rfl) (pe_callB (id := "sorted") (cr_sortS (room65 hr)) (by rfl) T.n_sorted (by decide +kernel) (pa_cons (pe_call (ok_law_names T) (hr.mono (by decide)) (by rfl) T.g_law_names T.F_law_names.kp T.b_law_names .nil pass0 (pa_cons (pv 1) (pa_cons (pe_op op_add pe_int (pe_call (ok_law_draw T) (hr.mono (by decide)) (by rfl) T.g_law_draw T.F_law_draw.kp T.b_law_draw .nil pass0 (pa_cons (pv 1) (pa_cons (pe_ix (r := rIxL K) ix_list (pe_lstO (pa_cons pe_int (pa_cons pe_int (pa_cons pe_int pa_nil)))) (pe_call (ok_law_draw T) (hr.mono (by decide)) (by rfl) T.g_law_draw T.F_law_draw.kp T.b_law_draw .nil pass0 (pa_cons (pv 1) (pa_cons pe_int pa_nil))) (fun _ _ => rfl)) pa_nil)))) pa_nil))) pa_nil)))
    (pss_cons (ps_set (i := 3) sc_law.nd rfl (Or.inl rfl) (pe_call (ok_law_least T) (hr.mono (by decide)) (by rfl) T.g_law_least T.F_law_least.kp T.b_law_least .nil pass0 (pa_cons (pe_call (ok_law_drawn T) (hr.mono (by decide)) (by rfl) T.g_law_drawn T.F_law_drawn.kp T.b_law_drawn .nil pass0 (pa_cons (pv 1) (pa_cons (pv 2) pa_nil))) pa_nil)))
    (pss_cons (ps_set (i := 4) sc_law.nd rfl (Or.inl rfl) (pe_call (ok_law_text T) (hr.mono (by decide)) (by rfl) T.g_law_text T.F_law_text.kp T.b_law_text .nil pass0 (pa_cons (pv 2) (pa_cons (pv 3) pa_nil))))
    (pss_stop (ps_if (PW.pt (pw_and (pt_cmpR op_lt (pe_callB (id := "len") (r := rLenS K) call_lenS (by rfl) T.n_len PySem.boot_len (pa_cons (pv 2) pa_nil)) pe_int (nomark _)) (pw_and1 (pt_cmpR op_ne (pe_callTy (T := "str") (cr_strO (ok_Family__str_ T) (hr.mono (by decide)) T.st_at T.st_fn T.b_Family__str_) (by rfl) T.n_str (by decide +kernel) (pa_cons (pe_makeS (E := fun _ => E0) T.mk_Family (ok_Family__init_ T) (hr.mono (by decide)) (by rfl) T.g_Family T.b_Family__init_ (fun σ => at_of pass0x σ) (pa_cons (pe_revL (pv 2)) (pa_cons (pe_revL (pv 3)) pa_nil))) pa_nil)) (pv 4) (nomark _)))))
      (pss_one (ps_ret pe_bl)) pss_nil)
    (pss_stop (ps_for PassesOwn.never rfl (pi_hold (pi_range1 rfl T.n_range (pa_cons (pe_ix (r := rIxL K) ix_list (pe_lstO (pa_cons pe_int (pa_cons pe_int (pa_cons pe_int (pa_cons pe_int pa_nil))))) (pe_call (ok_law_draw T) (hr.mono (by decide)) (by rfl) T.g_law_draw T.F_law_draw.kp T.b_law_draw .nil pass0 (pa_cons (pv 1) (pa_cons pe_int pa_nil))) (fun _ _ => rfl)) pa_nil))) (pg_name (i := 5) sc_law.nd rfl (Or.inl rfl))
      (pss_one (ps_set (i := 4) sc_law.nd rfl (Or.inl rfl) (pe_call (ok_law_spoiled T) (hr.mono (by decide)) (by rfl) T.g_law_spoiled T.F_law_spoiled.kp T.b_law_spoiled .nil pass0 (pa_cons (pv 1) (pa_cons (pv 4) pa_nil))))))
    (pss_cons (ps_set (i := 6) sc_law.nd rfl (Or.inr rfl) (pe_call (ok_law_due T) (hr.mono (by decide)) (by rfl) T.g_law_due T.F_law_due.kp T.b_law_due .nil pass0 (pa_cons (pv 4) pa_nil)))
    (pss_stop (ps_try_mix rfl rfl sc_law.nd takesNo (fun W pn xe tk _ => (pss_one (ps_set (i := 7) sc_law.nd rfl (Or.inl rfl) (pe_cmethS (E := WE W) (pe_glob (v := .ref T.C_Family) rfl T.g_Family rfl) T.cr_Family T.cm_read (ok_Family_read T) (hr.mono (by decide)) T.b_Family_read (fun σ => passAt tk σ) (pa_cons (pv 4) pa_nil))))) (HdsMix.cons ⟨rfl, by decide, .inl T.g_BadText⟩ (.yes (i := 8) rfl rfl)
      (fun a oe cls d pn hz hf => (pss_one (ps_ret (pe_and (pe_cmpR (r := rEqP K) (op_eqP hu65) (pv 6) (pe_lstO pa_nil) (nomark _)) (pe_and (pe_cmpR op_eq (pe_xf T.er_BadText.xf T.nf_BadText hz hf (pv 8)) (pv 4) (nomark _)) (pe_one (pe_callB (id := "isinstance") (r := rIsZ K cls d a) (call_isZ hz hf) (by rfl) T.n_isinstance (by decide +kernel) (pa_cons (pv 8) (pa_cons (pe_glob (v := .ref T.C_ShareError) rfl T.g_ShareError rfl) pa_nil))))))))) HdsMix.nil))
    (pss_stop (ps_if (PW.pt (pw_or (pt_cmpR (r := rEqP K) (op_eqP (room65 hr)) (pv 6) (pe_lstO pa_nil) (nomark _)) (pw_or (pt_cmpR op_ne (pe_callTy (T := "str") (cr_strO (ok_Family__str_ T) (hr.mono (by decide)) T.st_at T.st_fn T.b_Family__str_) (by rfl) T.n_str (by decide +kernel) (pa_cons (pv 7) pa_nil)) (pv 4) (nomark _)) (pw_or1 (pt_cmpR (r := rNeP K) (op_neP (room65 hr)) (pe_lstO (pa_cons (pe_prop (pv 7) T.cl_Family T.pp_persons (ok_Family_persons T) (hr.mono (by decide)) T.b_Family_persons .nil pass0 rfl) (pa_cons (pe_prop (pv 7) T.cl_Family T.pp_groups (ok_Family_groups T) (hr.mono (by decide)) T.b_Family_groups .nil pass0 rfl) pa_nil))) (pe_lstO (pa_cons (pe_callTy (T := "tuple") (r := rTupL K) call_tupL (by rfl) T.n_tuple (by decide +kernel) (pa_cons (pe_ix (r := rIxL K) ix_list (pv 6) pe_int (fun _ _ => rfl)) pa_nil)) (pa_cons (pe_callTy (T := "tuple") (r := rTupL K) call_tupL (by rfl) T.n_tuple (by decide +kernel) (pa_cons (pe_ix (r := rIxL K) ix_list (pv 6) pe_int (fun _ _ => rfl)) pa_nil)) pa_nil))) (nomark _))))))
      (pss_one (ps_ret pe_bl)) pss_nil)
    (pss_cons (ps_setLc (i := 9) (own := [("_law_label", 10)]) (g := gName 10) rfl sc_law.nd rfl rfl (sw_true rfl rfl rfl (by decide +kernel)) (pi_list (pe_ix (r := rIxL K) ix_list (pv 6) pe_int (fun _ _ => rfl))) (blkOk_by (own := [("_law_label", 10)]) (N := N_law) (sc := defScope s_law) (by decide +kernel)) (fun _ _ _ _ _ => (pg_name (i := 10) sc_law.nd rfl (Or.inr rfl))) (fun _ _ _ _ _ => (pts_one (pt_cmpR (r := rNeP K) (op_neP (room65 hr)) (pe_lc (own := [("_law_one", 11)]) (wi := iList K _) (g := gName 11) rfl sc_law.nd (pi_list (pe_ix (r := rIxL K) ix_list (pv 6) pe_int (fun _ _ => rfl))) (blkOk_by (own := [("_law_one", 11)]) (N := N_law) (sc := { kind := ScopeKind.function, names := [(".0", NameKind.local), ("_law_label", NameKind.cell), ("_law_due_here", NameKind.cell)], isGenerator := false, isCoroutine := false }) (by decide +kernel)) (fun _ _ _ _ _ => (pg_name (i := 11) sc_law.nd rfl (Or.inl rfl))) (fun _ _ _ _ _ => (pts_one (pt_cmpR (r := rIn K false) op_in_seq (pv 10) (pv 11) (by rfl)))) (fun _ _ _ _ _ => (pv 11))) (pe_lstO pa_nil) (nomark _)))) (fun _ _ _ _ _ => (pv 10)))
    (pss_stop (ps_if (PW.pt (pw_or (pt_cmpR (r := rNeP K) (op_neP (room65 hr)) (pe_prop (pv 7) T.cl_Family T.pp_needed (ok_Family_needed T) (hr.mono (by decide)) T.b_Family_needed .nil pass0 rfl) (pe_callTy (T := "tuple") (r := rTupL K) call_tupL (by rfl) T.n_tuple (by decide +kernel) (pa_cons (pv 9) pa_nil)) (nomark _)) (pw_or1 (pt_cmpR (op_neO (ok_Family_eq_ T) (hr.mono (by decide)) T.eq_at T.eq_fn T.b_Family__eq_ T.nq_Family T.mro_Family T.ne_at) (pv 7) (pe_makeS (E := fun _ => E0) T.mk_Family (ok_Family__init_ T) (hr.mono (by decide)) (by rfl) T.g_Family T.b_Family__init_ (fun σ => at_of pass0x σ) (pa_cons (pe_ix (r := rIxL K) ix_list (pv 6) pe_int (fun _ _ => rfl)) (pa_cons (pe_ix (r := rIxL K) ix_list (pv 6) pe_int (fun _ _ => rfl)) pa_nil))) (nomark _)))))
      (pss_one (ps_ret pe_bl)) pss_nil)
    (pss_stop (ps_for PassesOwn.never rfl (pi_hold (pi_list (pe_call (ok_law_sets T) (hr.mono (by decide)) (by rfl) T.g_law_sets T.F_law_sets.kp T.b_law_sets .nil pass0 (pa_cons (pe_ix (r := rIxL K) ix_list (pv 6) pe_int (fun _ _ => rfl)) pa_nil)))) (pg_name (i := 12) sc_law.nd rfl (Or.inl rfl))
      (pss_one (ps_if (pt_cmpR op_ne (pe_methSx (E := fun _ => E0) (pv 7) T.cl_Family T.me_opens (ok_Family_opens T) (hr.mono (by decide)) T.b_Family_opens (fun σ => at_of pass0x σ) (pa_cons (pv 12) pa_nil)) (pe_call (ok_law_opens T) (hr.mono (by decide)) (by rfl) T.g_law_opens T.F_law_opens.kp T.b_law_opens .nil pass0 (pa_cons (pe_ix (r := rIxL K) ix_list (pv 6) pe_int (fun _ _ => rfl)) (pa_cons (pv 12) pa_nil))) (nomark _))
      (pss_one (ps_ret pe_bl)) pss_nil)))
    (pss_one (ps_ret (pe_cmpR (op_eqO (ok_Family_eq_ T) (hr.mono (by decide)) T.eq_at T.eq_fn T.b_Family__eq_ T.nq_Family) (pe_methS0 (E := fun _ => E0) (pe_cmethK0 (pe_glob (v := .ref T.C_Family) rfl T.g_Family rfl) T.cr_Family T.cm_read (ok_Family_read T) (hr.mono (by decide)) T.kb_read pass0x (pk_cons (pv 4) pk_nil)) T.cl_Family T.me_turned (ok_Family_turned T) (hr.mono (by decide)) T.b_Family_turned (fun σ => at_of pass0x σ)) (pe_methS0 (E := fun _ => E0) (pe_makeS (E := fun _ => E0) T.mk_Family (ok_Family__init_ T) (hr.mono (by decide)) (by rfl) T.g_Family T.b_Family__init_ (fun σ => at_of pass0x σ) (pa_cons (pe_ix (r := rIxL K) ix_list (pv 6) pe_int (fun _ _ => rfl)) (pa_cons (pe_ix (r := rIxL K) ix_list (pv 6) pe_int (fun _ _ => rfl)) pa_nil))) T.cl_Family T.me_turned (ok_Family_turned T) (hr.mono (by decide)) T.b_Family_turned (fun σ => at_of pass0x σ)) (nomark _)))))))))))))))), ?_⟩
    walk_at "rd"
    intro p H1 s1 n1 S1
    clear hc
    walk_at "rd"
    refine ⟨by show 3 ≤ sizeLine; decide, fun l2 H2 n2 s2 hl2 => ?_⟩
    have S2 := S1.same s2
    have sl2 := Sep.of_new S1 s2 n2 hl2
    walk_at "rd"
    intro r3 H3 h30 h31 S3 x3
    have hq3 := (x3 _ _ sl2).sq (K := K)
    obtain ⟨v3, hat3, hv3⟩ := at_pick (l := [V.int 5, V.int 5, V.int 6]) h30 (by simpa using h31)
    obtain ⟨k3, rfl, hk5, hk6⟩ : ∃ k : Int, v3 = .int k ∧ 5 ≤ k ∧ k ≤ 6 := by
      simp only [List.mem_cons, List.not_mem_nil, or_false] at hv3
      rcases hv3 with rfl | rfl | rfl
      all_goals exact ⟨_, rfl, by decide, by decide⟩
    walk_at "rd"
    intro r4 H4 h40 h41 S4 x4
    walk_at "rd"
    intro q5 H5 nm m5 f5 S5 hm5 x5 sl5 hN
    have hq5 : SqL K H5 q5 (nm.map V.str) ∨ SqT K H5 q5 (nm.map V.str) := .inl sl5.sq
    walk_at "rd"
    intro a H6 n6 s6 ha6
    have S6 := S5.same s6
    have sa6 := Sep.of_new S5 s6 n6 ha6
    change Sep H6 p a (.lst ((srt nm).map V.str)) at sa6
    have W : Wk (srt nm) := Wk.of (ps := nm) (by have := hN.len; omega) (by have := hN.len; omega) hN.nd hN.ok
    generalize srt nm = ws at W sa6
    have hm6 : m5 ≤ 100 := by omega
    clear hN hq5 sl5 x5 S5 f5 S4 x4 S3 x3 S2 sl2 hl2 n2 s2 hq3 hat3 hv3 S1 n1 s1 ha6 n6 s6 hm5 h40 h41 h30 h31
    have h1 := W.one
    have h6 := W.six
    have hl8 : ws.length ≤ 8 := by omega
    walk_at "rd"
    intro r0 H7 xs0 A m7 f7 S7 hm7 x7 sr0 g0 hA3 hAs hAn
    have sa7 := x7 _ _ sa6
    have RA : RowsOk ws A := ⟨(hAn W.nd).1, hAs, (hAn W.nd).2⟩
    have hA9 : A.length ≤ 90000 := by omega
    have hA8 : ∀ g ∈ A, g.length ≤ 900 := fun g hg => by
      have := (hAs g hg).length_le
      omega
    have hq7 := sr0.sq (K := K)
    walk_at "rd"
    intro b H8 ys n8 s8 hb8 hys
    rw [least_same W.nd hAs] at hys
    have R := RA.least W.nd
    have LL : leastP ws (leastP ws A) = leastP ws A := least_op W.nd R.sub RA.sub fun g _ => least_any W.nd RA.sub g
    have hg64 : (leastP ws A).length ≤ 64 := Nat.le_trans (least_sub ws A).length_le (by
      rw [(allG_perm ws).length_eq, setsL_len]
      exact Nat.pow_le_pow_right (by decide : 2 > 0) h6)
    generalize leastP ws A = gs at hys R LL hg64
    have sa8 := S7.nx s8 _ _ sa7
    have sb8 := Sep.of_new S7 s8 n8 hb8
    have S8 := S7.same s8
    have hm8 : m7 ≤ 200 := by omega
    clear hA3 hAs hAn hq7 hA9 hA8 RA g0 sr0 x7 S7 f7 sa6 S6 sa7 hm7 hm6 n8 s8 hb8
    have hzl : ∀ z ∈ ws, z.length ≤ 6 := fun z hz => ok_small (W.ok z hz)
    have hzl2 : ∀ z ∈ ws, z.length ≤ 1000 := fun z hz => Nat.le_trans (hzl z hz) (by decide)
    have hg256 : gs.length ≤ 256 := by omega
    have hgs := R.sub
    have hqa := sa8.sq (K := K)
    have hqb := sb8.sq (K := K)
    walk_at "rd"
    intro H9 s9
    have ht3 := fam_short h6 hzl hg64 hgs
    have sa9 := S8.nx s9 _ _ sa8
    have sb9 := S8.nx s9 _ _ sb8
    have S9 := S8.same s9
    have hys9 := hys.same s9
    clear hqa hqb sa8 sb8 hys S8 s9
    generalize ht : famTxt ws gs = t at ht3 ⊢
    refine Stop.cut (fun σ H' => ∃ m, σ = [some (.ref c), some (.ref p), some (.ref a), some (.ref b), some (.str t), none, none, none, none, none, none, none, none] ∧ StAt H' p m ∧ m ≤ 200) (fun Qz hz => ?_) ?_
    · have hqa := sa9.sq (K := K)
      have hqb := sb9.sq (K := K)
      have hwl : (ws.map V.str).length = ws.length := List.length_map _
      walk_at "rd"
      refine ite2 (fun e1 => ?_) (fun e1 => ?_)
      · have F := W.fine (by have := of_decide_eq_true e1; omega)
        walk_at "rd"
        intro ra nra
        have sra : Same H9 (upd H9 ra (.lst (ws.map V.str).reverse)) := same_new nra
        have hra : (upd H9 ra (.lst (ws.map V.str).reverse)) ra = some (.lst (ws.reverse.map V.str)) := by
          rw [List.map_reverse]
          exact upd_same
        generalize upd H9 ra (.lst (ws.map V.str).reverse) = H10 at sra hra ⊢
        have hqb10 := sra.seq hqb
        walk_at "rd"
        intro rb nrb
        have srb : Same H10 (upd H10 rb (.lst ys.reverse)) := same_new nrb
        have hrb : (upd H10 rb (.lst ys.reverse)) rb = some (.lst ys.reverse) := upd_same
        generalize upd H10 rb (.lst ys.reverse) = H11 at srb hrb ⊢
        have s911 := sra.trans srb
        have hgr : GrpsV K H11 ys.reverse gs.reverse := paired_rev (hys9.same s911)
        obtain ⟨F2, hw2⟩ := fine_of (ps := ws.reverse) (by rw [List.length_reverse]; exact F.one) (by rw [List.length_reverse]; exact F.five) ((List.reverse_perm ws).nodup_iff.mpr W.nd) fun z hz => W.ok z (List.mem_reverse.mp hz)
        have es := rev_srt W.srt
        refine tNil_i ?_
        intro f dx hfn hdn hne
        refine fam_made0 T hfn hdn hne (.inl (SqL.of (srb _ _ hra))) F2 hw2 (.inl (SqL.of hrb)) hgr (by rw [List.length_reverse]; omega) (by rw [es]; exact rev_rows R) fun H12 s12 hn12 hF12 => ⟨rfl, ?_⟩
        rw [es, rev_least W.nd R, LL] at hF12
        obtain ⟨dx2, fa, fb, fc, yy, hfi, _⟩ := id hF12
        refine tNil_i ⟨f, dx2, _, rfl, hfi, ⟨f, ws, gs, rfl, hF12, hl8, hzl2, hg256, hgs, fun H13 s13 => ⟨_, rfl, ?_⟩⟩⟩
        rw [ht]
        walk_at "rd"
        refine ite2 (fun e2 => ?_) (fun e2 => ?_)
        · simp at e2
        · exact hz _ _ ⟨m7, rfl, S9.same ((s911.trans s12).trans s13), hm8⟩
      · first
          | exact hz _ _ ⟨m7, rfl, S9, hm8⟩
          | (refine iteF ?_; exact hz _ _ ⟨m7, rfl, S9, hm8⟩)
    · rintro _ H10 ⟨m10, rfl, S10, hm10⟩
      clear sa9 sb9 S9 hys9 R LL hg64 hg256 hgs hzl hzl2 W
      refine Stop.cut (fun σ H' => ∃ (y : Option V) (u : Str), σ = [some (.ref c), some (.ref p), some (.ref a), some (.ref b), some (.str u), y, none, none, none, none, none, none, none] ∧ u.length ≤ 40000) (fun Qz hz => ?_) ?_
      · walk_at "rd"
        refine ⟨by show 4 ≤ sizeLine; decide, fun l11 H11 n11 s11 hl11 => ?_⟩
        have S11 := S10.same s11
        have sl11 := Sep.of_new S10 s11 n11 hl11
        walk_at "rd"
        intro r12 H12 h120 h121 S12 x12
        have hq12 := (x12 _ _ sl11).sq (K := K)
        obtain ⟨v12, hat12, hv12⟩ := at_pick (l := [V.int 0, V.int 1, V.int 2, V.int 3]) h120 (by simpa using h121)
        obtain ⟨k, rfl, hk0, hk3⟩ : ∃ k : Int, v12 = .int k ∧ 0 ≤ k ∧ k ≤ 3 := by
          simp only [List.mem_cons, List.not_mem_nil, or_false] at hv12
          rcases hv12 with rfl | rfl | rfl | rfl
          all_goals exact ⟨_, rfl, by decide, by decide⟩
        walk_at "rd"
        refine ⟨for_it walk_range (fun i σ H' => ∃ (y : Option V) (u : Str) (m : Nat), σ = [some (.ref c), some (.ref p), some (.ref a), some (.ref b), some (.str u), y, none, none, none, none, none, none, none] ∧ StAt H' p m ∧ m ≤ 300 + 10 * i ∧ i ≤ 3 ∧ u.length + 20 ≤ 2 ^ i * 3020) ⟨none, t, m10 + 1, rfl, S12, by omega, by omega, by omega⟩ (fun _ _ _ _ _ => trivial) ?_ ?_⟩
        · rintro i x _ H3 H4 hi ⟨y, u, m, rfl, S3, hm3, hi3, hu⟩ ⟨rfl, rfl⟩
          have hi2 : i < 3 := by omega
          have hp : 2 ^ i ≤ 4 := Nat.pow_le_pow_right (by decide : 2 > 0) (show i ≤ 2 by omega)
          have hps : 2 ^ (i + 1) = 2 ^ i * 2 := Nat.pow_succ ..
          generalize 2 ^ i = e at hu hp hps
          have hu4 : u.length ≤ 40000 := by omega
          walk_at "rd"
          intro u' H5 m' S5 hm5 x5 hu'
          walk_at "rd"
          show u'.length + 20 ≤ 2 ^ (i + 1) * 3020
          rw [hps]
          omega
        · rintro σ H3 ⟨y, u, m, rfl, S3, hm3, hi3, hu⟩
          have hp := Nat.pow_le_pow_right (by decide : 2 > 0) hi3
          refine hz _ _ ⟨y, u, rfl, ?_⟩
          have : u.length + 20 ≤ 2 ^ 3 * 3020 := Nat.le_trans hu (Nat.mul_le_mul_right _ hp)
          omega
      · rintro _ H11 ⟨y, u, rfl, hu⟩
        clear S10 ht ht3 h1 h6 hl8
        have hu5 : u.length ≤ 50000 := by omega
        walk_at "rd"
        refine ⟨fun hn dl H12 s12 hdl => ?_, fun ws gs hd dl da db xs H12 s12 hdl hda hdb hxs => ?_⟩
        · refine Stop.cut (fun _ _ => False) (fun Qz hz => ?_) (fun _ _ h => h.elim)
          walk_at "rd"
          refine ⟨fun _ H13 s13 dx H14 n14 s14 hdx => ?_, fun ws gs hd => absurd (hn.symm.trans hd) (by simp)⟩
          refine ⟨true, T.ex_BadText_BadText, fun _ ea hea => ?_, fun z => nomatch z⟩
          have hdl14 := (s13.trans s14).seq hdl
          walk_at "rd"
          refine ⟨by decide, fun l15 H15 n15 s15 hl15 => ?_⟩
          have hdl15 := s15.seq hdl14
          have hdx15 := s15 _ _ hdx
          refine ⟨_, _, dp_nil hdl15, dp_nil (SqL.of hl15), by decide, true, rfl, iteT ?_⟩
          refine ⟨.ref ea, rfl, rfl, rfl, dx, _, .str u, rfl, hdx15, by rfl, ?_⟩
          walk_at "rd"
          rw [if_pos (decide_eq_true rfl)]
          walk_at "rd"
          exact ⟨T.er_BadText, .own _, T.ki_BadText, q _⟩
        · obtain ⟨F, R, LL, eT, _⟩ := due_read hd
          refine Stop.cut (fun σ H' => ∃ f, σ = [some (.ref c), some (.ref p), some (.ref a), some (.ref b), some (.str u), y, some (.ref dl), some (.ref f), none, none, none, none, none] ∧ Same H12 H' ∧ FamAt K T.C_Family H' f ws gs) (fun Qz hz => ?_) ?_
          · walk_at "rd"
            refine ⟨fun hn => absurd (hn.symm.trans hd) (by simp), fun ws' gs' hd' f H13 s13 hF => ?_⟩
            obtain ⟨rfl, rfl⟩ := Prod.mk.inj (Option.some.inj (hd.symm.trans hd'))
            exact hz _ _ ⟨f, rfl, s13, hF⟩
          · rintro _ H13 ⟨f, rfl, s13, hF⟩
            have hgl : gs.length ≤ 31 := by
              have := few F.five (least_sub ws gs) (R.least F.nd).full
              rwa [LL] at this
            have hg256 : gs.length ≤ 256 := by omega
            have hl8 : ws.length ≤ 8 := by have := F.five; omega
            have hsm := F.small
            have hgs := R.sub
            have hdl13 := s13.seq hdl
            have hda13 := s13.seq hda
            have hdb13 := s13.seq hdb
            have hxs13 := hxs.same s13
            clear hdl hda hdb hxs s12 s13
            have dd : ∀ H', Same H13 H' → Dp K H' (.ref dl) (.list [.list (ws.map .str), .list (gs.map encG)]) := fun H' s => .lst (s.seq hdl13) (.cons (dp_strs (s.seq hda13)) (.cons (.lst (s.seq hdb13) (hxs13.same s).dps) .nil))
            refine Stop.cut (fun σ H' => σ = [some (.ref c), some (.ref p), some (.ref a), some (.ref b), some (.str u), y, some (.ref dl), some (.ref f), none, none, none, none, none] ∧ Same H13 H') (fun Qz hz => ?_) ?_
            · walk_at "rd"
              refine ⟨by decide, fun l14 H14 n14 s14 hl14 => ?_⟩
              refine ⟨_, _, dd H14 s14, dp_nil (SqL.of hl14), ?_, ?_⟩
              · have := depth_Gs gs
                simp only [PyData.depth, PyData.depthAll, depth_strs]
                omega
              refine ⟨false, rfl, iteF ?_⟩
              have hF14 := hF.same s14
              obtain ⟨dx2, fa, fb, fc, yy, hfi, hfa, hfb, hyy, hfc⟩ := id hF14
              walk_at "rd"
              intro H15 s15
              refine ⟨_, rfl, ?_⟩
              rw [eT]
              walk_at "rd"
              refine ite2 (fun e2 => by simp at e2) (fun e2 => ?_)
              have s1315 := s14.trans s15
              have hF15 := hF.same s1315
              clear hF14 hfi hfa hfb hyy hfc
              obtain ⟨dx2, fa, fb, fc, yy, hfi, hfa, hfb, hyy, hfc⟩ := id hF15
              have l1 := flds_persons fa fb fc
              have l2 := flds_groups fa fb fc
              have cl := T.cl_Family
              walk_at "rd"
              refine tNil_i ⟨by show 2 ≤ sizeLine; decide, fun l16 H16 n16 s16 hl16 => ?_⟩
              have s1316 := s1315.trans s16
              have hdl16 := s1316.seq hdl13
              have hda16 := s1316.seq hda13
              have e0 : atI [V.ref da, V.ref db] 0 = some (.ref da) := rfl
              have e1 : atI [V.ref da, V.ref db] 1 = some (.ref db) := rfl
              walk_at "rd"
              intro t17 H17 n17 s17 ht17
              have hdl17 := s17.seq hdl16
              have hdb17 := s17.seq (s1316.seq hdb13)
              walk_at "rd"
              intro t18 H18 n18 s18 ht18
              refine tNil_i ⟨by show 2 ≤ sizeLine; decide, fun l19 H19 n19 s19 hl19 => ?_⟩
              have s1519 := ((s16.trans s17).trans s18).trans s19
              have dp1 : Dp K H19 (.ref l16) (.list [.tuple (ws.map .str), .tuple (gs.map encG)]) := .lst (SqL.of (((s17.trans s18).trans s19) _ _ hl16)) (.cons (.tup (s1519.tupT hfa) (dp_all (fun z => .str z) ws)) (.cons (.tup (s1519.tupT hfb) (hyy.same s1519).dps) .nil))
              have dp2 : Dp K H19 (.ref l19) (.list [.tuple (ws.map .str), .tuple (gs.map encG)]) := .lst (SqL.of hl19) (.cons (.tup ((s18.trans s19).tupT (SqT.of ht17)) (dp_all (fun z => .str z) ws)) (.cons (.tup (s19.tupT (SqT.of ht18)) (hxs13.same (s1315.trans s1519)).dps) .nil))
              refine ⟨_, _, dp1, dp2, ?_, ?_⟩
              · have := depth_Gs gs
                simp only [PyData.depth, PyData.depthAll, depth_strs]
                omega
              rw [eqv_self dp1]
              walk_at "rd"
              refine ite2 (fun e2 => by cases e2) (fun e2 => ?_)
              exact hz _ _ ⟨rfl, s1315.trans s1519⟩
            · rintro _ H14 ⟨rfl, s14⟩
              have hdl14 := s14.seq hdl13
              have hda14 := s14.seq hda13
              have hdb14 := s14.seq hdb13
              have hxs14 := hxs13.same s14
              have hF14 := hF.same s14
              clear s14 hdl13 hda13 hdb13 hxs13 hF dd
              have e0 : atI [V.ref da, V.ref db] 0 = some (.ref da) := rfl
              have e1 : atI [V.ref da, V.ref db] 1 = some (.ref db) := rfl
              walk_at "rd"
              refine ⟨⟨_, hda14⟩, fun D15 hD15 => ?_⟩
              refine lc_fn (walk_list (xs := ws.map V.str)) (xs := ws) (by simp) (by simp; omega) (fun n => gs.any fun g => decide (n ∈ g)) V.str hD15 (fun H s => s.seq hda14) ?_ ?_
              · intro i n v Ha Hb Qk Qn hn sm hy hk hn'
                obtain ⟨rfl, hv⟩ := hy
                obtain rfl := strs_get hv hn
                have hdlb := sm.seq hdl14
                have hdbb := sm.seq hdb14
                have hxb := hxs14.same sm
                have hxl := paired_len hxb
                walk_at "rd"
                refine ⟨⟨_, hdbb⟩, fun D2 hD2 => ?_⟩
                refine lc_rel (walk_list (xs := xs)) (xs := gs) hxl.symm (by rw [hxl]; omega) (fun g => decide (n ∈ g)) (fun H g v => GrpV K H v g) hD2 (fun H H' g v acc _ hDa k h => h.but hDa k) (fun H s => s.seq hdbb) ?_ ?_
                · intro j g v Hc Hd Qk2 Qn2 hg sm2 hy2 hk2 hn2
                  obtain ⟨rfl, hv2⟩ := hy2
                  obtain ⟨g', h1', h2⟩ := OS.paired_get hxb hv2
                  obtain rfl : g' = g := Option.some.inj (h1'.symm.trans hg)
                  have h3 := h2.same sm2
                  obtain ⟨bb, rfl, hbb⟩ := id h3
                  walk_at "rd"
                  refine ⟨strs_flat g', ?_⟩
                  rw [inV_strs]
                  walk_at "rd"
                  refine ite2 (fun e => ?_) (fun e => ?_)
                  · walk_at "rd"
                    exact hk2 e _ _ h3 (Same.refl _)
                  · exact hn2 ((Bool.not_eq_true _).mp e) _ (Same.refl _)
                · intro Hc acc sm2 hDc pr
                  have pr' : GrpsV K Hc acc (gs.filter fun g => decide (n ∈ g)) := paired_swap pr
                  walk_at "rd"
                  refine ⟨by decide, fun ea Hd nd sd hd => ?_⟩
                  have d1 : Dp K Hd (.ref D2) (.list ((gs.filter fun g => decide (n ∈ g)).map encG)) := .lst (SqL.of (sd _ _ hDc)) (pr'.same sd).dps
                  refine ⟨_, _, d1, dp_nil (SqL.of hd), ?_, ?_⟩
                  · have := depth_Gs (gs.filter fun g => decide (n ∈ g))
                    simp only [PyData.depth]
                    omega
                  · rw [eqv_nil]
                    first
                      | rw [List.isEmpty_map, filter_any]
                      | rw [filter_any]
                    walk_at "rd"
                    refine ite2 (fun e => ?_) (fun e => ?_)
                    · walk_at "rd"
                      exact hk e _ (sm2.trans sd)
                    · exact hn' ((Bool.not_eq_true _).mp e) _ (sm2.trans sd)
              · intro H15 s15 hD15'
                have hneed : SqL K H15 D15 ((needL ws gs).map V.str) := SqL.of hD15'
                clear hD15'
                refine Stop.cut (fun σ H' => σ = [some (.ref c), some (.ref p), some (.ref a), some (.ref b), some (.str u), y, some (.ref dl), some (.ref f), none, some (.ref D15), none, none, none] ∧ Same H15 H') (fun Qz hz => ?_) ?_
                · have hF15 := hF14.same s15
                  obtain ⟨dx2, fa, fb, fc, yy, hfi, hfa, hfb, hyy, hfc⟩ := id hF15
                  have l3 := flds_needed fa fb fc
                  have cl := T.cl_Family
                  walk_at "rd"
                  intro t16 H16 n16 s16 ht16
                  have dp1 : Dp K H16 (.ref fc) (.tuple ((needL ws gs).map .str)) := .tup (s16.tupT hfc) (dp_all (fun z => .str z) _)
                  have dp2 : Dp K H16 (.ref t16) (.tuple ((needL ws gs).map .str)) := .tup (SqT.of ht16) (dp_all (fun z => .str z) _)
                  refine ⟨_, _, dp1, dp2, by simp only [PyData.depth, depth_strs]; decide, ?_⟩
                  rw [eqv_self dp1]
                  have s1416 := s15.trans s16
                  have hdl16 := s1416.seq hdl14
                  have hda16 := s1416.seq hda14
                  have hdb16 := s1416.seq hdb14
                  walk_at "rd"
                  refine tNil_i ?_
                  intro f2 dx hfn hdn hne
                  refine fam_made T hfn hdn hne (.inl hda16) F (.inl hdb16) (hxs14.same s1416) (by omega) R (fun H17 s17 hn17 hF17 => ⟨rfl, ?_⟩)
                  refine fam_neO T F ⟨by rw [LL]; exact (hF14.same s1416).same s17, R⟩ ⟨hF17, R⟩ (fun g hg => rfl) fun H18 s18 => ⟨_, rfl, iteF ?_⟩
                  exact hz _ _ ⟨rfl, (s16.trans s17).trans s18⟩
                · rintro _ H16 ⟨rfl, s16⟩
                  have s1416 := s15.trans s16
                  have hdl16 := s1416.seq hdl14
                  have hda16 := s1416.seq hda14
                  have hdb16 := s1416.seq hdb14
                  have hxs16 := hxs14.same s1416
                  have hF16 := hF14.same s1416
                  clear hdl14 hda14 hdb14 hxs14 hF14 s15 s16 s1416 hneed
                  refine Stop.cut (fun σ H' => ∃ z, σ = [some (.ref c), some (.ref p), some (.ref a), some (.ref b), some (.str u), y, some (.ref dl), some (.ref f), none, some (.ref D15), none, none, z] ∧ Same H16 H') (fun Qz hz => ?_) ?_
                  · walk_at "rd"
                    intro l H17 ls n17 s17 hl17 hls17
                    walk_at "rd"
                    refine ⟨⟨_, SqL.of hl17⟩, ⟨for_it (walk_list (xs := ls)) (fun i σ H' => ∃ z, σ = [some (.ref c), some (.ref p), some (.ref a), some (.ref b), some (.str u), y, some (.ref dl), some (.ref f), none, some (.ref D15), none, none, z] ∧ Same H17 H') ⟨none, rfl, Same.refl _⟩ (fun i σ H' _ ⟨_, _, s⟩ => SqL.of (s _ _ hl17)) ?_ ?_⟩⟩
                    · rintro i x _ H18 H19 hi ⟨z, rfl, s18⟩ ⟨rfl, hx⟩
                      obtain ⟨g, hgi, hg0⟩ := OS.paired_get hls17 hx
                      have hgm : g.Sublist ws := mem_allG.mp (List.mem_of_getElem? hgi)
                      have s1618 := s17.trans s18
                      have hg3 := hg0.same s18
                      obtain ⟨gb, rfl, hgb⟩ := id hg3
                      have hdl18 := s1618.seq hdl16
                      have hdb18 := s1618.seq hdb16
                      have hxs18 := hxs16.same s1618
                      have hF18 := hF16.same s1618
                      obtain ⟨dx2, fa, fb, fc, yy, hfi, hfa, hfb, hyy, hfc⟩ := id hF18
                      have no := flds_no fa fb fc (m := "opens") (by decide +kernel) (by decide +kernel) (by decide +kernel)
                      have hg9 : gs.length ≤ 900 := by omega
                      have hg8 : ∀ o ∈ gs, o.length ≤ 900 := fun o ho => by
                        have := (R.sub o ho).length_le
                        omega
                      walk_at "rd"
                      refine ⟨F.nd, hg9, hg8, show Thing K H19 (V.ref gb) (asThing g) from .tup hgb fun v hv => by
                        obtain ⟨z, _, rfl⟩ := List.mem_map.mp hv
                        exact .flat rfl, fun z => absurd ((isGrp_iff F.nd).mpr ⟨g, hgm, rfl⟩) (by rw [z]; simp), fun g' eg _ H20 s20 => ?_⟩
                      obtain rfl : g = g' := List.map_inj_right (fun a b z => V.str.inj z) |>.mp (Option.some.inj eg)
                      have hdl20 := s20.seq hdl18
                      have hdb20 := s20.seq hdb18
                      have hxs20 := hxs18.same s20
                      have hgb20 : SqL K H20 gb (g.map V.str) ∨ SqT K H20 gb (g.map V.str) := .inr (s20.tupT hgb)
                      walk_at "rd"
                      intro H21 s21
                      walk_at "rd"
                      refine ite2 (fun e => by simp at e) (fun e => ?_)
                      exact ⟨_, rfl, s18.trans (s20.trans s21)⟩
                    · rintro σ H18 ⟨z, rfl, s18⟩
                      exact hz _ _ ⟨z, rfl, s17.trans s18⟩
                  · rintro _ H17 ⟨z, rfl, s17⟩
                    have hdl17 := s17.seq hdl16
                    have hda17 := s17.seq hda16
                    have hdb17 := s17.seq hdb16
                    have hxs17 := hxs16.same s17
                    walk_at "rd"
                    refine ⟨fun hn => absurd (hn.symm.trans hd) (by simp), fun ws' gs' hd' f2 H18 s18 hF2 => ?_⟩
                    obtain ⟨rfl, rfl⟩ := Prod.mk.inj (Option.some.inj (hd.symm.trans hd'))
                    have X2 : FamX T H18 f2 ws gs := ⟨by rw [LL]; exact hF2, R⟩
                    refine turned_x T F X2 fun g1 H19 s19 Y1 => ?_
                    have s1719 := s18.trans s19
                    have hdl19 := s1719.seq hdl17
                    have hda19 := s1719.seq hda17
                    have hdb19 := s1719.seq hdb17
                    walk_at "rd"
                    intro f3 dx hfn hdn hne
                    refine fam_made T hfn hdn hne (.inl hda19) F (.inl hdb19) (hxs17.same s1719) (by omega) R (fun H20 s20 hn20 hF20 => ⟨rfl, ?_⟩)
                    refine turned_x T F ⟨hF20, R⟩ fun g2 H21 s21 Y2 => ?_
                    refine fam_eqO T ((Y1.same s20).same s21).at_ Y2.at_ fun H22 s22 => ?_
                    rw [decide_eq_true rfl, decide_eq_true rfl]
                    exact q _
end
end P

set_option Elab.async false
set_option linter.all false
set_option maxRecDepth 100000
set_option maxHeartbeats 4000000
namespace P
open PySem PySem.Spec PyProof.Rows L2 OS
theorem ve_at (S : Addr) : PySem.HandSPX.refsVE (.ref S :: [.type "ValueError", .type "Exception", .type "BaseException", .type "object"]) = true :=
  (show PySem.HandSPX.refsVE [.type "ValueError", .type "Exception", .type "BaseException", .type "object"] = true by decide +kernel)
theorem all_mk {l : PySem.W.OpenLaw} {w : World} {K : PySem.W.Frag} {h : Heap} {mg : Str → Option Value} {fa f_BadName__init_ f_DuplicateName__init_ f_BadCount__init_ f_BadGroup__init_ f_BadText__init_ f_valid_name f_all_groups f_is_group f_rest f_contains f_merged f_checked_persons f_check_groups f_least_groups f_contains_another f_Family__init_ f_Family_read f_Family_persons f_Family_groups f_Family_needed f_Family__eq_ f_Family__str_ f_Family_opens f_Family_turned f_law_start f_law_draw f_law_names f_law_good f_law_signs f_law_sets f_law_inside f_law_least f_law_drawn f_law_opens f_law_is_set f_law_text f_law_spoiled f_law_due f_law : Addr} (X : K.In h) (G : h.Ns mainGlobals mg) (hfa : mg "law" = some (.ref fa))
    {od0 an0 : Option Addr} {sl0 : Array (Option Value)} {oc0 kV0 dc0 pm0 cd0 ct0 : Value}
    {od1 an1 : Option Addr} {sl1 : Array (Option Value)} {oc1 kV1 dc1 pm1 cd1 ct1 : Value}
    {od2 an2 : Option Addr} {sl2 : Array (Option Value)} {oc2 kV2 dc2 pm2 cd2 ct2 : Value}
    {od3 an3 : Option Addr} {sl3 : Array (Option Value)} {oc3 kV3 dc3 pm3 cd3 ct3 : Value}
    {od4 an4 : Option Addr} {sl4 : Array (Option Value)} {oc4 kV4 dc4 pm4 cd4 ct4 : Value}
    {od5 an5 : Option Addr} {sl5 : Array (Option Value)} {oc5 kV5 dc5 pm5 cd5 ct5 : Value}
    {od6 an6 : Option Addr} {sl6 : Array (Option Value)} {oc6 kV6 dc6 pm6 cd6 ct6 : Value}
    {od7 an7 : Option Addr} {sl7 : Array (Option Value)} {oc7 kV7 dc7 pm7 cd7 ct7 : Value}
    {od8 an8 : Option Addr} {sl8 : Array (Option Value)} {oc8 kV8 dc8 pm8 cd8 ct8 : Value}
    {od9 an9 : Option Addr} {sl9 : Array (Option Value)} {oc9 kV9 dc9 pm9 cd9 ct9 : Value}
    {od10 an10 : Option Addr} {sl10 : Array (Option Value)} {oc10 kV10 dc10 pm10 cd10 ct10 : Value}
    {od11 an11 : Option Addr} {sl11 : Array (Option Value)} {oc11 kV11 dc11 pm11 cd11 ct11 : Value}
    {od12 an12 : Option Addr} {sl12 : Array (Option Value)} {oc12 kV12 dc12 pm12 cd12 ct12 : Value}
    {od13 an13 : Option Addr} {sl13 : Array (Option Value)} {oc13 kV13 dc13 pm13 cd13 ct13 : Value}
    {od14 an14 : Option Addr} {sl14 : Array (Option Value)} {oc14 kV14 dc14 pm14 cd14 ct14 : Value}
    {od15 an15 : Option Addr} {sl15 : Array (Option Value)} {oc15 kV15 dc15 pm15 cd15 ct15 : Value}
    {od16 an16 : Option Addr} {sl16 : Array (Option Value)} {oc16 kV16 dc16 pm16 cd16 ct16 : Value}
    {od17 an17 : Option Addr} {sl17 : Array (Option Value)} {oc17 kV17 dc17 pm17 cd17 ct17 : Value}
    {od18 an18 : Option Addr} {sl18 : Array (Option Value)} {oc18 kV18 dc18 pm18 cd18 ct18 : Value}
    {od19 an19 : Option Addr} {sl19 : Array (Option Value)} {oc19 kV19 dc19 pm19 cd19 ct19 : Value}
    {od20 an20 : Option Addr} {sl20 : Array (Option Value)} {oc20 kV20 dc20 pm20 cd20 ct20 : Value}
    {od21 an21 : Option Addr} {sl21 : Array (Option Value)} {oc21 kV21 dc21 pm21 cd21 ct21 : Value}
    {od22 an22 : Option Addr} {sl22 : Array (Option Value)} {oc22 kV22 dc22 pm22 cd22 ct22 : Value}
    {od23 an23 : Option Addr} {sl23 : Array (Option Value)} {oc23 kV23 dc23 pm23 cd23 ct23 : Value}
    {od24 an24 : Option Addr} {sl24 : Array (Option Value)} {oc24 kV24 dc24 pm24 cd24 ct24 : Value}
    {od25 an25 : Option Addr} {sl25 : Array (Option Value)} {oc25 kV25 dc25 pm25 cd25 ct25 : Value}
    {od26 an26 : Option Addr} {sl26 : Array (Option Value)} {oc26 kV26 dc26 pm26 cd26 ct26 : Value}
    {od27 an27 : Option Addr} {sl27 : Array (Option Value)} {oc27 kV27 dc27 pm27 cd27 ct27 : Value}
    {od28 an28 : Option Addr} {sl28 : Array (Option Value)} {oc28 kV28 dc28 pm28 cd28 ct28 : Value}
    {od29 an29 : Option Addr} {sl29 : Array (Option Value)} {oc29 kV29 dc29 pm29 cd29 ct29 : Value}
    {od30 an30 : Option Addr} {sl30 : Array (Option Value)} {oc30 kV30 dc30 pm30 cd30 ct30 : Value}
    {od31 an31 : Option Addr} {sl31 : Array (Option Value)} {oc31 kV31 dc31 pm31 cd31 ct31 : Value}
    {od32 an32 : Option Addr} {sl32 : Array (Option Value)} {oc32 kV32 dc32 pm32 cd32 ct32 : Value}
    {od33 an33 : Option Addr} {sl33 : Array (Option Value)} {oc33 kV33 dc33 pm33 cd33 ct33 : Value}
    {od34 an34 : Option Addr} {sl34 : Array (Option Value)} {oc34 kV34 dc34 pm34 cd34 ct34 : Value}
    {od35 an35 : Option Addr} {sl35 : Array (Option Value)} {oc35 kV35 dc35 pm35 cd35 ct35 : Value}
    {od36 an36 : Option Addr} {sl36 : Array (Option Value)} {oc36 kV36 dc36 pm36 cd36 ct36 : Value}
    {od37 an37 : Option Addr} {sl37 : Array (Option Value)} {oc37 kV37 dc37 pm37 cd37 ct37 : Value}
    {od38 an38 : Option Addr} {sl38 : Array (Option Value)} {oc38 kV38 dc38 pm38 cd38 ct38 : Value}
    {C_ShareError C_Family C_BadName C_DuplicateName C_BadCount C_BadGroup C_NoGroup C_BadText : Addr} {p_read p_persons p_groups p_needed : Addr} {rest_read rest_persons rest_groups rest_needed : List Value}
    (aSE : PySem.W.nsIn K mainGlobals "ShareError" = some (some (.ref C_ShareError)))
    {nmBadName qBadName : Str} {NBadName : Addr} {bsBadName : List Value} {snBadName : List Str} {subBadName : List Value} {abBadName : Bool} {colBadName : Option Bool} {ddBadName : Option Addr} {x0BadName x1BadName x2BadName x3BadName x5BadName : Option Value}
    (aCBadName : PySem.W.nsIn K mainGlobals "BadName" = some (some (.ref C_BadName)))
    (xCBadName : K.lookup C_BadName = some (excClassObj nmBadName qBadName C_BadName NBadName bsBadName (.ref C_ShareError :: [.type "ValueError", .type "Exception", .type "BaseException", .type "object"]) true snBadName subBadName abBadName colBadName ddBadName x0BadName x1BadName x2BadName x3BadName x5BadName "ValueError.__new__"))
    (eCBadName : errB K C_BadName = true)
    (iCBadName : PySem.W.findIn K (.ref C_BadName) "__init__" = some (some (.ref f_BadName__init_)))
    (tIBadName : PySem.W.typeIn K (.ref f_BadName__init_) = some (.type "function"))
    (nfBadName : PySem.W.findIn K (.ref C_BadName) "name" = some none)
    {nmDuplicateName qDuplicateName : Str} {NDuplicateName : Addr} {bsDuplicateName : List Value} {snDuplicateName : List Str} {subDuplicateName : List Value} {abDuplicateName : Bool} {colDuplicateName : Option Bool} {ddDuplicateName : Option Addr} {x0DuplicateName x1DuplicateName x2DuplicateName x3DuplicateName x5DuplicateName : Option Value}
    (aCDuplicateName : PySem.W.nsIn K mainGlobals "DuplicateName" = some (some (.ref C_DuplicateName)))
    (xCDuplicateName : K.lookup C_DuplicateName = some (excClassObj nmDuplicateName qDuplicateName C_DuplicateName NDuplicateName bsDuplicateName (.ref C_ShareError :: [.type "ValueError", .type "Exception", .type "BaseException", .type "object"]) true snDuplicateName subDuplicateName abDuplicateName colDuplicateName ddDuplicateName x0DuplicateName x1DuplicateName x2DuplicateName x3DuplicateName x5DuplicateName "ValueError.__new__"))
    (eCDuplicateName : errB K C_DuplicateName = true)
    (iCDuplicateName : PySem.W.findIn K (.ref C_DuplicateName) "__init__" = some (some (.ref f_DuplicateName__init_)))
    (tIDuplicateName : PySem.W.typeIn K (.ref f_DuplicateName__init_) = some (.type "function"))
    (nfDuplicateName : PySem.W.findIn K (.ref C_DuplicateName) "name" = some none)
    {nmBadCount qBadCount : Str} {NBadCount : Addr} {bsBadCount : List Value} {snBadCount : List Str} {subBadCount : List Value} {abBadCount : Bool} {colBadCount : Option Bool} {ddBadCount : Option Addr} {x0BadCount x1BadCount x2BadCount x3BadCount x5BadCount : Option Value}
    (aCBadCount : PySem.W.nsIn K mainGlobals "BadCount" = some (some (.ref C_BadCount)))
    (xCBadCount : K.lookup C_BadCount = some (excClassObj nmBadCount qBadCount C_BadCount NBadCount bsBadCount (.ref C_ShareError :: [.type "ValueError", .type "Exception", .type "BaseException", .type "object"]) true snBadCount subBadCount abBadCount colBadCount ddBadCount x0BadCount x1BadCount x2BadCount x3BadCount x5BadCount "ValueError.__new__"))
    (eCBadCount : errB K C_BadCount = true)
    (iCBadCount : PySem.W.findIn K (.ref C_BadCount) "__init__" = some (some (.ref f_BadCount__init_)))
    (tIBadCount : PySem.W.typeIn K (.ref f_BadCount__init_) = some (.type "function"))
    (nfBadCount : PySem.W.findIn K (.ref C_BadCount) "count" = some none)
    {nmBadGroup qBadGroup : Str} {NBadGroup : Addr} {bsBadGroup : List Value} {snBadGroup : List Str} {subBadGroup : List Value} {abBadGroup : Bool} {colBadGroup : Option Bool} {ddBadGroup : Option Addr} {x0BadGroup x1BadGroup x2BadGroup x3BadGroup x5BadGroup : Option Value}
    (aCBadGroup : PySem.W.nsIn K mainGlobals "BadGroup" = some (some (.ref C_BadGroup)))
    (xCBadGroup : K.lookup C_BadGroup = some (excClassObj nmBadGroup qBadGroup C_BadGroup NBadGroup bsBadGroup (.ref C_ShareError :: [.type "ValueError", .type "Exception", .type "BaseException", .type "object"]) true snBadGroup subBadGroup abBadGroup colBadGroup ddBadGroup x0BadGroup x1BadGroup x2BadGroup x3BadGroup x5BadGroup "ValueError.__new__"))
    (eCBadGroup : errB K C_BadGroup = true)
    (iCBadGroup : PySem.W.findIn K (.ref C_BadGroup) "__init__" = some (some (.ref f_BadGroup__init_)))
    (tIBadGroup : PySem.W.typeIn K (.ref f_BadGroup__init_) = some (.type "function"))
    (nfBadGroup : PySem.W.findIn K (.ref C_BadGroup) "value" = some none)
    {nmNoGroup qNoGroup : Str} {NNoGroup : Addr} {bsNoGroup : List Value} {snNoGroup : List Str} {subNoGroup : List Value} {abNoGroup : Bool} {colNoGroup : Option Bool} {ddNoGroup : Option Addr} {x0NoGroup x1NoGroup x2NoGroup x3NoGroup x5NoGroup : Option Value}
    (aCNoGroup : PySem.W.nsIn K mainGlobals "NoGroup" = some (some (.ref C_NoGroup)))
    (xCNoGroup : K.lookup C_NoGroup = some (excClassObj nmNoGroup qNoGroup C_NoGroup NNoGroup bsNoGroup (.ref C_ShareError :: [.type "ValueError", .type "Exception", .type "BaseException", .type "object"]) true snNoGroup subNoGroup abNoGroup colNoGroup ddNoGroup x0NoGroup x1NoGroup x2NoGroup x3NoGroup x5NoGroup "ValueError.__new__"))
    (eCNoGroup : errB K C_NoGroup = true)
    (qCNoGroup : PySem.W.excIn K C_NoGroup [.type "ValueError", .type "Exception", .type "BaseException", .type "object"] "ValueError.__new__" = true)
    (kCNoGroup : PySem.W.keepIn K (.ref C_NoGroup) = true)
    {nmBadText qBadText : Str} {NBadText : Addr} {bsBadText : List Value} {snBadText : List Str} {subBadText : List Value} {abBadText : Bool} {colBadText : Option Bool} {ddBadText : Option Addr} {x0BadText x1BadText x2BadText x3BadText x5BadText : Option Value}
    (aCBadText : PySem.W.nsIn K mainGlobals "BadText" = some (some (.ref C_BadText)))
    (xCBadText : K.lookup C_BadText = some (excClassObj nmBadText qBadText C_BadText NBadText bsBadText (.ref C_ShareError :: [.type "ValueError", .type "Exception", .type "BaseException", .type "object"]) true snBadText subBadText abBadText colBadText ddBadText x0BadText x1BadText x2BadText x3BadText x5BadText "ValueError.__new__"))
    (eCBadText : errB K C_BadText = true)
    (iCBadText : PySem.W.findIn K (.ref C_BadText) "__init__" = some (some (.ref f_BadText__init_)))
    (tIBadText : PySem.W.typeIn K (.ref f_BadText__init_) = some (.type "function"))
    (nfBadText : PySem.W.findIn K (.ref C_BadText) "text" = some none)
    (ex_BadName_BadName : PySem.W.exmOne K (.ref C_BadName) (.ref C_BadName) = some true)
    (ex_BadName_DuplicateName : PySem.W.exmOne K (.ref C_BadName) (.ref C_DuplicateName) = some false)
    (ex_BadName_BadCount : PySem.W.exmOne K (.ref C_BadName) (.ref C_BadCount) = some false)
    (ex_BadName_BadGroup : PySem.W.exmOne K (.ref C_BadName) (.ref C_BadGroup) = some false)
    (ex_BadName_NoGroup : PySem.W.exmOne K (.ref C_BadName) (.ref C_NoGroup) = some false)
    (ex_BadName_BadText : PySem.W.exmOne K (.ref C_BadName) (.ref C_BadText) = some false)
    (ex_DuplicateName_BadName : PySem.W.exmOne K (.ref C_DuplicateName) (.ref C_BadName) = some false)
    (ex_DuplicateName_DuplicateName : PySem.W.exmOne K (.ref C_DuplicateName) (.ref C_DuplicateName) = some true)
    (ex_DuplicateName_BadCount : PySem.W.exmOne K (.ref C_DuplicateName) (.ref C_BadCount) = some false)
    (ex_DuplicateName_BadGroup : PySem.W.exmOne K (.ref C_DuplicateName) (.ref C_BadGroup) = some false)
    (ex_DuplicateName_NoGroup : PySem.W.exmOne K (.ref C_DuplicateName) (.ref C_NoGroup) = some false)
    (ex_DuplicateName_BadText : PySem.W.exmOne K (.ref C_DuplicateName) (.ref C_BadText) = some false)
    (ex_BadCount_BadName : PySem.W.exmOne K (.ref C_BadCount) (.ref C_BadName) = some false)
    (ex_BadCount_DuplicateName : PySem.W.exmOne K (.ref C_BadCount) (.ref C_DuplicateName) = some false)
    (ex_BadCount_BadCount : PySem.W.exmOne K (.ref C_BadCount) (.ref C_BadCount) = some true)
    (ex_BadCount_BadGroup : PySem.W.exmOne K (.ref C_BadCount) (.ref C_BadGroup) = some false)
    (ex_BadCount_NoGroup : PySem.W.exmOne K (.ref C_BadCount) (.ref C_NoGroup) = some false)
    (ex_BadCount_BadText : PySem.W.exmOne K (.ref C_BadCount) (.ref C_BadText) = some false)
    (ex_BadGroup_BadName : PySem.W.exmOne K (.ref C_BadGroup) (.ref C_BadName) = some false)
    (ex_BadGroup_DuplicateName : PySem.W.exmOne K (.ref C_BadGroup) (.ref C_DuplicateName) = some false)
    (ex_BadGroup_BadCount : PySem.W.exmOne K (.ref C_BadGroup) (.ref C_BadCount) = some false)
    (ex_BadGroup_BadGroup : PySem.W.exmOne K (.ref C_BadGroup) (.ref C_BadGroup) = some true)
    (ex_BadGroup_NoGroup : PySem.W.exmOne K (.ref C_BadGroup) (.ref C_NoGroup) = some false)
    (ex_BadGroup_BadText : PySem.W.exmOne K (.ref C_BadGroup) (.ref C_BadText) = some false)
    (ex_NoGroup_BadName : PySem.W.exmOne K (.ref C_NoGroup) (.ref C_BadName) = some false)
    (ex_NoGroup_DuplicateName : PySem.W.exmOne K (.ref C_NoGroup) (.ref C_DuplicateName) = some false)
    (ex_NoGroup_BadCount : PySem.W.exmOne K (.ref C_NoGroup) (.ref C_BadCount) = some false)
    (ex_NoGroup_BadGroup : PySem.W.exmOne K (.ref C_NoGroup) (.ref C_BadGroup) = some false)
    (ex_NoGroup_NoGroup : PySem.W.exmOne K (.ref C_NoGroup) (.ref C_NoGroup) = some true)
    (ex_NoGroup_BadText : PySem.W.exmOne K (.ref C_NoGroup) (.ref C_BadText) = some false)
    (ex_BadText_BadName : PySem.W.exmOne K (.ref C_BadText) (.ref C_BadName) = some false)
    (ex_BadText_DuplicateName : PySem.W.exmOne K (.ref C_BadText) (.ref C_DuplicateName) = some false)
    (ex_BadText_BadCount : PySem.W.exmOne K (.ref C_BadText) (.ref C_BadCount) = some false)
    (ex_BadText_BadGroup : PySem.W.exmOne K (.ref C_BadText) (.ref C_BadGroup) = some false)
    (ex_BadText_NoGroup : PySem.W.exmOne K (.ref C_BadText) (.ref C_NoGroup) = some false)
    (ex_BadText_BadText : PySem.W.exmOne K (.ref C_BadText) (.ref C_BadText) = some true)
    (hn : PySem.W.specialIn K (.builtin "object.__class__") "__get__" = some (some (.builtin "getset_descriptor.__get__")))
    (ht : PySem.W.takesIn K (.builtin "object.__class__") = some true)
    (aFam : PySem.W.nsIn K mainGlobals "Family" = some (some (.ref C_Family)))
    (pg : PySem.W.plainGet K C_Family Str.empty = true)
    (hd : PySem.W.hasDictIn K C_Family = true)
    (po : PySem.W.plainOver K C_Family = true)
    (sa : PySem.W.findIn K (.ref C_Family) "__setattr__" = some (some (.builtin "object.__setattr__")))
    (na_persons : PySem.W.findIn K (.ref C_Family) "_persons" = some none)
    (na_groups : PySem.W.findIn K (.ref C_Family) "_groups" = some none)
    (na_needed : PySem.W.findIn K (.ref C_Family) "_needed" = some none)
    (cr1 : PySem.W.readsIn K C_Family (.type "type") = true)
    (cr2 : PySem.W.specialIn K (.ref C_Family) "__getattribute__" = some (some (.builtin "type.__getattribute__")))
    (cm1 : PySem.W.findCls K (.ref C_Family) (.type "type") "read" = some (.get (.builtin "classmethod.__get__") (.ref p_read) .none (.ref C_Family)))
    (cm2 : PySem.W.recIn K p_read "classmethod" = some (.ref f_Family_read :: rest_read))
    (cm3 : PySem.W.fnIn K f_Family_read = true)
    (kiB : PySem.W.kitOne K (.ref C_BadText) (.ref C_ShareError) = some true)
    (es_BadName : PySem.W.exmOne K (.ref C_BadName) (.ref C_ShareError) = some true)
    (es_DuplicateName : PySem.W.exmOne K (.ref C_DuplicateName) (.ref C_ShareError) = some true)
    (es_BadCount : PySem.W.exmOne K (.ref C_BadCount) (.ref C_ShareError) = some true)
    (es_BadGroup : PySem.W.exmOne K (.ref C_BadGroup) (.ref C_ShareError) = some true)
    (es_NoGroup : PySem.W.exmOne K (.ref C_NoGroup) (.ref C_ShareError) = some true)
    (es_BadText : PySem.W.exmOne K (.ref C_BadText) (.ref C_ShareError) = some true)
    (mk1 : PySem.W.makesIn K C_Family = true)
    (mk2 : PySem.W.findIn K (.ref C_Family) "__init__" = some (some (.ref f_Family__init_)))
    (mk3 : PySem.W.isFn K (.ref f_Family__init_) = true)
    (mk4 : PySem.W.keepIn K (.ref C_Family) = true)
    (pa_persons : PySem.W.findIn K (.ref C_Family) "persons" = some (some (.ref p_persons)))
    (pb_persons : PySem.W.specialIn K (.ref p_persons) "__get__" = some (some (.builtin "property.__get__")))
    (pc_persons : PySem.W.takesIn K (.ref p_persons) = some true)
    (pd_persons : PySem.W.recIn K p_persons "property" = some (.ref f_Family_persons :: rest_persons))
    (pa_groups : PySem.W.findIn K (.ref C_Family) "groups" = some (some (.ref p_groups)))
    (pb_groups : PySem.W.specialIn K (.ref p_groups) "__get__" = some (some (.builtin "property.__get__")))
    (pc_groups : PySem.W.takesIn K (.ref p_groups) = some true)
    (pd_groups : PySem.W.recIn K p_groups "property" = some (.ref f_Family_groups :: rest_groups))
    (pa_needed : PySem.W.findIn K (.ref C_Family) "needed" = some (some (.ref p_needed)))
    (pb_needed : PySem.W.specialIn K (.ref p_needed) "__get__" = some (some (.builtin "property.__get__")))
    (pc_needed : PySem.W.takesIn K (.ref p_needed) = some true)
    (pd_needed : PySem.W.recIn K p_needed "property" = some (.ref f_Family_needed :: rest_needed))
    (moa_opens : PySem.W.findIn K (.ref C_Family) "opens" = some (some (.ref f_Family_opens)))
    (mob_opens : PySem.W.isFn K (.ref f_Family_opens) = true)
    (moc_opens : PySem.W.keepIn K (.ref f_Family_opens) = true)
    (moa_turned : PySem.W.findIn K (.ref C_Family) "turned" = some (some (.ref f_Family_turned)))
    (mob_turned : PySem.W.isFn K (.ref f_Family_turned) = true)
    (moc_turned : PySem.W.keepIn K (.ref f_Family_turned) = true)
    (ne1 : PySem.W.findIn K (.ref C_Family) "__ne__" = some (some (.builtin "object.__ne__")))
    (eq1 : PySem.W.findIn K (.ref C_Family) "__eq__" = some (some (.ref f_Family__eq_)))
    (eq2 : PySem.W.isFn K (.ref f_Family__eq_) = true)
    (st1 : PySem.W.findIn K (.ref C_Family) "__str__" = some (some (.ref f_Family__str_)))
    (st2 : PySem.W.isFn K (.ref f_Family__str_) = true)
    (fc : PySem.W.findIn K (.ref C_Family) "__class__" = some (some (.builtin "object.__class__")))
    (mro : PySem.W.mroIn K C_Family (.type "object") = some true)
    (kiF : PySem.W.kitOne K (.ref C_Family) (.ref C_Family) = some true)
    (nqF : PySem.W.notFirst K C_Family (.ref C_Family) = true)
    (l0 : K.lookup f_BadName__init_ = some ⟨oc0, od0, .func (PySem.W.fnOf "__init__" "BadName.__init__" (defArgs s_BadName__init_) (defBody s_BadName__init_) (defScope s_BadName__init_) .none kV0 dc0 pm0 an0 cd0 ct0), sl0⟩) (c0 : PySem.W.codeIn K cd0 "BadName.__init__" = true) (k0 : PySem.W.keepIn K (.ref f_BadName__init_) = true)
    (l1 : K.lookup f_DuplicateName__init_ = some ⟨oc1, od1, .func (PySem.W.fnOf "__init__" "DuplicateName.__init__" (defArgs s_DuplicateName__init_) (defBody s_DuplicateName__init_) (defScope s_DuplicateName__init_) .none kV1 dc1 pm1 an1 cd1 ct1), sl1⟩) (c1 : PySem.W.codeIn K cd1 "DuplicateName.__init__" = true) (k1 : PySem.W.keepIn K (.ref f_DuplicateName__init_) = true)
    (l2 : K.lookup f_BadCount__init_ = some ⟨oc2, od2, .func (PySem.W.fnOf "__init__" "BadCount.__init__" (defArgs s_BadCount__init_) (defBody s_BadCount__init_) (defScope s_BadCount__init_) .none kV2 dc2 pm2 an2 cd2 ct2), sl2⟩) (c2 : PySem.W.codeIn K cd2 "BadCount.__init__" = true) (k2 : PySem.W.keepIn K (.ref f_BadCount__init_) = true)
    (l3 : K.lookup f_BadGroup__init_ = some ⟨oc3, od3, .func (PySem.W.fnOf "__init__" "BadGroup.__init__" (defArgs s_BadGroup__init_) (defBody s_BadGroup__init_) (defScope s_BadGroup__init_) .none kV3 dc3 pm3 an3 cd3 ct3), sl3⟩) (c3 : PySem.W.codeIn K cd3 "BadGroup.__init__" = true) (k3 : PySem.W.keepIn K (.ref f_BadGroup__init_) = true)
    (l4 : K.lookup f_BadText__init_ = some ⟨oc4, od4, .func (PySem.W.fnOf "__init__" "BadText.__init__" (defArgs s_BadText__init_) (defBody s_BadText__init_) (defScope s_BadText__init_) .none kV4 dc4 pm4 an4 cd4 ct4), sl4⟩) (c4 : PySem.W.codeIn K cd4 "BadText.__init__" = true) (k4 : PySem.W.keepIn K (.ref f_BadText__init_) = true)
    (a5 : PySem.W.nsIn K mainGlobals "valid_name" = some (some (.ref f_valid_name)))
    (l5 : K.lookup f_valid_name = some ⟨oc5, od5, .func (PySem.W.fnOf "valid_name" "valid_name" (defArgs s_valid_name) (defBody s_valid_name) (defScope s_valid_name) .none kV5 dc5 pm5 an5 cd5 ct5), sl5⟩) (c5 : PySem.W.codeIn K cd5 "valid_name" = true) (k5 : PySem.W.keepIn K (.ref f_valid_name) = true)
    (a6 : PySem.W.nsIn K mainGlobals "all_groups" = some (some (.ref f_all_groups)))
    (l6 : K.lookup f_all_groups = some ⟨oc6, od6, .func (PySem.W.fnOf "all_groups" "all_groups" (defArgs s_all_groups) (defBody s_all_groups) (defScope s_all_groups) .none kV6 dc6 pm6 an6 cd6 ct6), sl6⟩) (c6 : PySem.W.codeIn K cd6 "all_groups" = true) (k6 : PySem.W.keepIn K (.ref f_all_groups) = true)
    (a7 : PySem.W.nsIn K mainGlobals "is_group" = some (some (.ref f_is_group)))
    (l7 : K.lookup f_is_group = some ⟨oc7, od7, .func (PySem.W.fnOf "is_group" "is_group" (defArgs s_is_group) (defBody s_is_group) (defScope s_is_group) .none kV7 dc7 pm7 an7 cd7 ct7), sl7⟩) (c7 : PySem.W.codeIn K cd7 "is_group" = true) (k7 : PySem.W.keepIn K (.ref f_is_group) = true)
    (a8 : PySem.W.nsIn K mainGlobals "rest" = some (some (.ref f_rest)))
    (l8 : K.lookup f_rest = some ⟨oc8, od8, .func (PySem.W.fnOf "rest" "rest" (defArgs s_rest) (defBody s_rest) (defScope s_rest) .none kV8 dc8 pm8 an8 cd8 ct8), sl8⟩) (c8 : PySem.W.codeIn K cd8 "rest" = true) (k8 : PySem.W.keepIn K (.ref f_rest) = true)
    (a9 : PySem.W.nsIn K mainGlobals "contains" = some (some (.ref f_contains)))
    (l9 : K.lookup f_contains = some ⟨oc9, od9, .func (PySem.W.fnOf "contains" "contains" (defArgs s_contains) (defBody s_contains) (defScope s_contains) .none kV9 dc9 pm9 an9 cd9 ct9), sl9⟩) (c9 : PySem.W.codeIn K cd9 "contains" = true) (k9 : PySem.W.keepIn K (.ref f_contains) = true)
    (a10 : PySem.W.nsIn K mainGlobals "merged" = some (some (.ref f_merged)))
    (l10 : K.lookup f_merged = some ⟨oc10, od10, .func (PySem.W.fnOf "merged" "merged" (defArgs s_merged) (defBody s_merged) (defScope s_merged) .none kV10 dc10 pm10 an10 cd10 ct10), sl10⟩) (c10 : PySem.W.codeIn K cd10 "merged" = true) (k10 : PySem.W.keepIn K (.ref f_merged) = true)
    (a11 : PySem.W.nsIn K mainGlobals "checked_persons" = some (some (.ref f_checked_persons)))
    (l11 : K.lookup f_checked_persons = some ⟨oc11, od11, .func (PySem.W.fnOf "checked_persons" "checked_persons" (defArgs s_checked_persons) (defBody s_checked_persons) (defScope s_checked_persons) .none kV11 dc11 pm11 an11 cd11 ct11), sl11⟩) (c11 : PySem.W.codeIn K cd11 "checked_persons" = true) (k11 : PySem.W.keepIn K (.ref f_checked_persons) = true)
    (a12 : PySem.W.nsIn K mainGlobals "check_groups" = some (some (.ref f_check_groups)))
    (l12 : K.lookup f_check_groups = some ⟨oc12, od12, .func (PySem.W.fnOf "check_groups" "check_groups" (defArgs s_check_groups) (defBody s_check_groups) (defScope s_check_groups) .none kV12 dc12 pm12 an12 cd12 ct12), sl12⟩) (c12 : PySem.W.codeIn K cd12 "check_groups" = true) (k12 : PySem.W.keepIn K (.ref f_check_groups) = true)
    (a13 : PySem.W.nsIn K mainGlobals "least_groups" = some (some (.ref f_least_groups)))
    (l13 : K.lookup f_least_groups = some ⟨oc13, od13, .func (PySem.W.fnOf "least_groups" "least_groups" (defArgs s_least_groups) (defBody s_least_groups) (defScope s_least_groups) .none kV13 dc13 pm13 an13 cd13 ct13), sl13⟩) (c13 : PySem.W.codeIn K cd13 "least_groups" = true) (k13 : PySem.W.keepIn K (.ref f_least_groups) = true)
    (a14 : PySem.W.nsIn K mainGlobals "contains_another" = some (some (.ref f_contains_another)))
    (l14 : K.lookup f_contains_another = some ⟨oc14, od14, .func (PySem.W.fnOf "contains_another" "contains_another" (defArgs s_contains_another) (defBody s_contains_another) (defScope s_contains_another) .none kV14 dc14 pm14 an14 cd14 ct14), sl14⟩) (c14 : PySem.W.codeIn K cd14 "contains_another" = true) (k14 : PySem.W.keepIn K (.ref f_contains_another) = true)
    (l15 : K.lookup f_Family__init_ = some ⟨oc15, od15, .func (PySem.W.fnOf "__init__" "Family.__init__" (defArgs s_Family__init_) (defBody s_Family__init_) (defScope s_Family__init_) .none kV15 dc15 pm15 an15 cd15 ct15), sl15⟩) (c15 : PySem.W.codeIn K cd15 "Family.__init__" = true) (k15 : PySem.W.keepIn K (.ref f_Family__init_) = true)
    (l16 : K.lookup f_Family_read = some ⟨oc16, od16, .func (PySem.W.fnOf "read" "Family.read" (defArgs s_Family_read) (defBody s_Family_read) (defScope s_Family_read) .none kV16 dc16 pm16 an16 cd16 ct16), sl16⟩) (c16 : PySem.W.codeIn K cd16 "Family.read" = true) (k16 : PySem.W.keepIn K (.ref f_Family_read) = true)
    (l17 : K.lookup f_Family_persons = some ⟨oc17, od17, .func (PySem.W.fnOf "persons" "Family.persons" (defArgs s_Family_persons) (defBody s_Family_persons) (defScope s_Family_persons) .none kV17 dc17 pm17 an17 cd17 ct17), sl17⟩) (c17 : PySem.W.codeIn K cd17 "Family.persons" = true) (k17 : PySem.W.keepIn K (.ref f_Family_persons) = true)
    (l18 : K.lookup f_Family_groups = some ⟨oc18, od18, .func (PySem.W.fnOf "groups" "Family.groups" (defArgs s_Family_groups) (defBody s_Family_groups) (defScope s_Family_groups) .none kV18 dc18 pm18 an18 cd18 ct18), sl18⟩) (c18 : PySem.W.codeIn K cd18 "Family.groups" = true) (k18 : PySem.W.keepIn K (.ref f_Family_groups) = true)
    (l19 : K.lookup f_Family_needed = some ⟨oc19, od19, .func (PySem.W.fnOf "needed" "Family.needed" (defArgs s_Family_needed) (defBody s_Family_needed) (defScope s_Family_needed) .none kV19 dc19 pm19 an19 cd19 ct19), sl19⟩) (c19 : PySem.W.codeIn K cd19 "Family.needed" = true) (k19 : PySem.W.keepIn K (.ref f_Family_needed) = true)
    (l20 : K.lookup f_Family__eq_ = some ⟨oc20, od20, .func (PySem.W.fnOf "__eq__" "Family.__eq__" (defArgs s_Family__eq_) (defBody s_Family__eq_) (defScope s_Family__eq_) .none kV20 dc20 pm20 an20 cd20 ct20), sl20⟩) (c20 : PySem.W.codeIn K cd20 "Family.__eq__" = true) (k20 : PySem.W.keepIn K (.ref f_Family__eq_) = true)
    (l21 : K.lookup f_Family__str_ = some ⟨oc21, od21, .func (PySem.W.fnOf "__str__" "Family.__str__" (defArgs s_Family__str_) (defBody s_Family__str_) (defScope s_Family__str_) .none kV21 dc21 pm21 an21 cd21 ct21), sl21⟩) (c21 : PySem.W.codeIn K cd21 "Family.__str__" = true) (k21 : PySem.W.keepIn K (.ref f_Family__str_) = true)
    (l22 : K.lookup f_Family_opens = some ⟨oc22, od22, .func (PySem.W.fnOf "opens" "Family.opens" (defArgs s_Family_opens) (defBody s_Family_opens) (defScope s_Family_opens) .none kV22 dc22 pm22 an22 cd22 ct22), sl22⟩) (c22 : PySem.W.codeIn K cd22 "Family.opens" = true) (k22 : PySem.W.keepIn K (.ref f_Family_opens) = true)
    (l23 : K.lookup f_Family_turned = some ⟨oc23, od23, .func (PySem.W.fnOf "turned" "Family.turned" (defArgs s_Family_turned) (defBody s_Family_turned) (defScope s_Family_turned) .none kV23 dc23 pm23 an23 cd23 ct23), sl23⟩) (c23 : PySem.W.codeIn K cd23 "Family.turned" = true) (k23 : PySem.W.keepIn K (.ref f_Family_turned) = true)
    (a24 : PySem.W.nsIn K mainGlobals "_law_start" = some (some (.ref f_law_start)))
    (l24 : K.lookup f_law_start = some ⟨oc24, od24, .func (PySem.W.fnOf "_law_start" "_law_start" (defArgs s_law_start) (defBody s_law_start) (defScope s_law_start) .none kV24 dc24 pm24 an24 cd24 ct24), sl24⟩) (c24 : PySem.W.codeIn K cd24 "_law_start" = true) (k24 : PySem.W.keepIn K (.ref f_law_start) = true)
    (a25 : PySem.W.nsIn K mainGlobals "_law_draw" = some (some (.ref f_law_draw)))
    (l25 : K.lookup f_law_draw = some ⟨oc25, od25, .func (PySem.W.fnOf "_law_draw" "_law_draw" (defArgs s_law_draw) (defBody s_law_draw) (defScope s_law_draw) .none kV25 dc25 pm25 an25 cd25 ct25), sl25⟩) (c25 : PySem.W.codeIn K cd25 "_law_draw" = true) (k25 : PySem.W.keepIn K (.ref f_law_draw) = true)
    (a26 : PySem.W.nsIn K mainGlobals "_law_names" = some (some (.ref f_law_names)))
    (l26 : K.lookup f_law_names = some ⟨oc26, od26, .func (PySem.W.fnOf "_law_names" "_law_names" (defArgs s_law_names) (defBody s_law_names) (defScope s_law_names) .none kV26 dc26 pm26 an26 cd26 ct26), sl26⟩) (c26 : PySem.W.codeIn K cd26 "_law_names" = true) (k26 : PySem.W.keepIn K (.ref f_law_names) = true)
    (a27 : PySem.W.nsIn K mainGlobals "_law_good" = some (some (.ref f_law_good)))
    (l27 : K.lookup f_law_good = some ⟨oc27, od27, .func (PySem.W.fnOf "_law_good" "_law_good" (defArgs s_law_good) (defBody s_law_good) (defScope s_law_good) .none kV27 dc27 pm27 an27 cd27 ct27), sl27⟩) (c27 : PySem.W.codeIn K cd27 "_law_good" = true) (k27 : PySem.W.keepIn K (.ref f_law_good) = true)
    (a28 : PySem.W.nsIn K mainGlobals "_law_signs" = some (some (.ref f_law_signs)))
    (l28 : K.lookup f_law_signs = some ⟨oc28, od28, .func (PySem.W.fnOf "_law_signs" "_law_signs" (defArgs s_law_signs) (defBody s_law_signs) (defScope s_law_signs) .none kV28 dc28 pm28 an28 cd28 ct28), sl28⟩) (c28 : PySem.W.codeIn K cd28 "_law_signs" = true) (k28 : PySem.W.keepIn K (.ref f_law_signs) = true)
    (a29 : PySem.W.nsIn K mainGlobals "_law_sets" = some (some (.ref f_law_sets)))
    (l29 : K.lookup f_law_sets = some ⟨oc29, od29, .func (PySem.W.fnOf "_law_sets" "_law_sets" (defArgs s_law_sets) (defBody s_law_sets) (defScope s_law_sets) .none kV29 dc29 pm29 an29 cd29 ct29), sl29⟩) (c29 : PySem.W.codeIn K cd29 "_law_sets" = true) (k29 : PySem.W.keepIn K (.ref f_law_sets) = true)
    (a30 : PySem.W.nsIn K mainGlobals "_law_inside" = some (some (.ref f_law_inside)))
    (l30 : K.lookup f_law_inside = some ⟨oc30, od30, .func (PySem.W.fnOf "_law_inside" "_law_inside" (defArgs s_law_inside) (defBody s_law_inside) (defScope s_law_inside) .none kV30 dc30 pm30 an30 cd30 ct30), sl30⟩) (c30 : PySem.W.codeIn K cd30 "_law_inside" = true) (k30 : PySem.W.keepIn K (.ref f_law_inside) = true)
    (a31 : PySem.W.nsIn K mainGlobals "_law_least" = some (some (.ref f_law_least)))
    (l31 : K.lookup f_law_least = some ⟨oc31, od31, .func (PySem.W.fnOf "_law_least" "_law_least" (defArgs s_law_least) (defBody s_law_least) (defScope s_law_least) .none kV31 dc31 pm31 an31 cd31 ct31), sl31⟩) (c31 : PySem.W.codeIn K cd31 "_law_least" = true) (k31 : PySem.W.keepIn K (.ref f_law_least) = true)
    (a32 : PySem.W.nsIn K mainGlobals "_law_drawn" = some (some (.ref f_law_drawn)))
    (l32 : K.lookup f_law_drawn = some ⟨oc32, od32, .func (PySem.W.fnOf "_law_drawn" "_law_drawn" (defArgs s_law_drawn) (defBody s_law_drawn) (defScope s_law_drawn) .none kV32 dc32 pm32 an32 cd32 ct32), sl32⟩) (c32 : PySem.W.codeIn K cd32 "_law_drawn" = true) (k32 : PySem.W.keepIn K (.ref f_law_drawn) = true)
    (a33 : PySem.W.nsIn K mainGlobals "_law_opens" = some (some (.ref f_law_opens)))
    (l33 : K.lookup f_law_opens = some ⟨oc33, od33, .func (PySem.W.fnOf "_law_opens" "_law_opens" (defArgs s_law_opens) (defBody s_law_opens) (defScope s_law_opens) .none kV33 dc33 pm33 an33 cd33 ct33), sl33⟩) (c33 : PySem.W.codeIn K cd33 "_law_opens" = true) (k33 : PySem.W.keepIn K (.ref f_law_opens) = true)
    (a34 : PySem.W.nsIn K mainGlobals "_law_is_set" = some (some (.ref f_law_is_set)))
    (l34 : K.lookup f_law_is_set = some ⟨oc34, od34, .func (PySem.W.fnOf "_law_is_set" "_law_is_set" (defArgs s_law_is_set) (defBody s_law_is_set) (defScope s_law_is_set) .none kV34 dc34 pm34 an34 cd34 ct34), sl34⟩) (c34 : PySem.W.codeIn K cd34 "_law_is_set" = true) (k34 : PySem.W.keepIn K (.ref f_law_is_set) = true)
    (a35 : PySem.W.nsIn K mainGlobals "_law_text" = some (some (.ref f_law_text)))
    (l35 : K.lookup f_law_text = some ⟨oc35, od35, .func (PySem.W.fnOf "_law_text" "_law_text" (defArgs s_law_text) (defBody s_law_text) (defScope s_law_text) .none kV35 dc35 pm35 an35 cd35 ct35), sl35⟩) (c35 : PySem.W.codeIn K cd35 "_law_text" = true) (k35 : PySem.W.keepIn K (.ref f_law_text) = true)
    (a36 : PySem.W.nsIn K mainGlobals "_law_spoiled" = some (some (.ref f_law_spoiled)))
    (l36 : K.lookup f_law_spoiled = some ⟨oc36, od36, .func (PySem.W.fnOf "_law_spoiled" "_law_spoiled" (defArgs s_law_spoiled) (defBody s_law_spoiled) (defScope s_law_spoiled) .none kV36 dc36 pm36 an36 cd36 ct36), sl36⟩) (c36 : PySem.W.codeIn K cd36 "_law_spoiled" = true) (k36 : PySem.W.keepIn K (.ref f_law_spoiled) = true)
    (a37 : PySem.W.nsIn K mainGlobals "_law_due" = some (some (.ref f_law_due)))
    (l37 : K.lookup f_law_due = some ⟨oc37, od37, .func (PySem.W.fnOf "_law_due" "_law_due" (defArgs s_law_due) (defBody s_law_due) (defScope s_law_due) .none kV37 dc37 pm37 an37 cd37 ct37), sl37⟩) (c37 : PySem.W.codeIn K cd37 "_law_due" = true) (k37 : PySem.W.keepIn K (.ref f_law_due) = true)
    (a38 : PySem.W.nsIn K mainGlobals "law" = some (some (.ref f_law)))
    (l38 : K.lookup f_law = some ⟨oc38, od38, .func (PySem.W.fnOf "law" "law" (defArgs s_law) (defBody s_law) (defScope s_law) .none kV38 dc38 pm38 an38 cd38 ct38), sl38⟩) (c38 : PySem.W.codeIn K cd38 "law" = true) (k38 : PySem.W.keepIn K (.ref f_law) = true)
    {t_LETTERS : Tok}
    (v_LETTERS : PySem.W.nsIn K mainGlobals "LETTERS" = some (some (.str "abcdefghijklmnopqrstuvwxyz" t_LETTERS)))
    {t_DIGITS : Tok}
    (v_DIGITS : PySem.W.nsIn K mainGlobals "DIGITS" = some (some (.str "0123456789" t_DIGITS)))
    {t_LONGEST_NAME : Tok}
    (v_LONGEST_NAME : PySem.W.nsIn K mainGlobals "LONGEST_NAME" = some (some (.int 6 t_LONGEST_NAME)))
    {t_MOST_PERSONS : Tok}
    (v_MOST_PERSONS : PySem.W.nsIn K mainGlobals "MOST_PERSONS" = some (some (.int 5 t_MOST_PERSONS)))
    (z_set : PySem.W.nsIn K mainGlobals "set" = some none)
    (z_len : PySem.W.nsIn K mainGlobals "len" = some none)
    (z_all : PySem.W.nsIn K mainGlobals "all" = some none)
    (z_any : PySem.W.nsIn K mainGlobals "any" = some none)
    (z_abs : PySem.W.nsIn K mainGlobals "abs" = some none)
    (z_list : PySem.W.nsIn K mainGlobals "list" = some none)
    (z_int : PySem.W.nsIn K mainGlobals "int" = some none)
    (z_range : PySem.W.nsIn K mainGlobals "range" = some none)
    (z_isinstance : PySem.W.nsIn K mainGlobals "isinstance" = some none)
    (z_tuple : PySem.W.nsIn K mainGlobals "tuple" = some none)
    (z_sorted : PySem.W.nsIn K mainGlobals "sorted" = some none)
    (z_str : PySem.W.nsIn K mainGlobals "str" = some none)
    (z_enumerate : PySem.W.nsIn K mainGlobals "enumerate" = some none)
    : ∃ fd : FuncData, (∀ (s : Shared) (v : Value), BindsTo s fd ⟨[v], []⟩ [("_law_script", v)]) ∧ ∀ base : Heap, K.In base → base.Ns mainGlobals mg → FnOk l.prog w K mg base CX0 8 fa fd ["_law_script"] (P.spLaw K) := by
  have e := hfa.symm.trans (PySem.W.mg_of X G a38)
  cases e
  have F0 := fun_mk (st := s_BadName__init_) l0 c0 k0
  have b0 := F0.binds (ps := ["self", "name"]) fun _ _ _ _ _ _ us hl => match us, hl with | [_, _], _ => rfl
  have F1 := fun_mk (st := s_DuplicateName__init_) l1 c1 k1
  have b1 := F1.binds (ps := ["self", "name"]) fun _ _ _ _ _ _ us hl => match us, hl with | [_, _], _ => rfl
  have F2 := fun_mk (st := s_BadCount__init_) l2 c2 k2
  have b2 := F2.binds (ps := ["self", "count"]) fun _ _ _ _ _ _ us hl => match us, hl with | [_, _], _ => rfl
  have F3 := fun_mk (st := s_BadGroup__init_) l3 c3 k3
  have b3 := F3.binds (ps := ["self", "value"]) fun _ _ _ _ _ _ us hl => match us, hl with | [_, _], _ => rfl
  have F4 := fun_mk (st := s_BadText__init_) l4 c4 k4
  have b4 := F4.binds (ps := ["self", "text"]) fun _ _ _ _ _ _ us hl => match us, hl with | [_, _], _ => rfl
  have F5 := fun_mk (st := s_valid_name) l5 c5 k5
  have b5 := F5.binds (ps := ["text"]) fun _ _ _ _ _ _ us hl => match us, hl with | [_], _ => rfl
  have F6 := fun_mk (st := s_all_groups) l6 c6 k6
  have b6 := F6.binds (ps := ["persons"]) fun _ _ _ _ _ _ us hl => match us, hl with | [_], _ => rfl
  have F7 := fun_mk (st := s_is_group) l7 c7 k7
  have b7 := F7.binds (ps := ["persons", "value"]) fun _ _ _ _ _ _ us hl => match us, hl with | [_, _], _ => rfl
  have F8 := fun_mk (st := s_rest) l8 c8 k8
  have b8 := F8.binds (ps := ["persons", "group"]) fun _ _ _ _ _ _ us hl => match us, hl with | [_, _], _ => rfl
  have F9 := fun_mk (st := s_contains) l9 c9 k9
  have b9 := F9.binds (ps := ["group", "other"]) fun _ _ _ _ _ _ us hl => match us, hl with | [_, _], _ => rfl
  have F10 := fun_mk (st := s_merged) l10 c10 k10
  have b10 := F10.binds (ps := ["persons", "one", "other"]) fun _ _ _ _ _ _ us hl => match us, hl with | [_, _, _], _ => rfl
  have F11 := fun_mk (st := s_checked_persons) l11 c11 k11
  have b11 := F11.binds (ps := ["persons"]) fun _ _ _ _ _ _ us hl => match us, hl with | [_], _ => rfl
  have F12 := fun_mk (st := s_check_groups) l12 c12 k12
  have b12 := F12.binds (ps := ["persons", "groups"]) fun _ _ _ _ _ _ us hl => match us, hl with | [_, _], _ => rfl
  have F13 := fun_mk (st := s_least_groups) l13 c13 k13
  have b13 := F13.binds (ps := ["persons", "groups"]) fun _ _ _ _ _ _ us hl => match us, hl with | [_, _], _ => rfl
  have F14 := fun_mk (st := s_contains_another) l14 c14 k14
  have b14 := F14.binds (ps := ["group", "groups"]) fun _ _ _ _ _ _ us hl => match us, hl with | [_, _], _ => rfl
  have F15 := fun_mk (st := s_Family__init_) l15 c15 k15
  have b15 := F15.binds (ps := ["self", "persons", "groups"]) fun _ _ _ _ _ _ us hl => match us, hl with | [_, _, _], _ => rfl
  have F16 := fun_mk (st := s_Family_read) l16 c16 k16
  have b16 := F16.binds (ps := ["cls", "text"]) fun _ _ _ _ _ _ us hl => match us, hl with | [_, _], _ => rfl
  have F17 := fun_mk (st := s_Family_persons) l17 c17 k17
  have b17 := F17.binds (ps := ["self"]) fun _ _ _ _ _ _ us hl => match us, hl with | [_], _ => rfl
  have F18 := fun_mk (st := s_Family_groups) l18 c18 k18
  have b18 := F18.binds (ps := ["self"]) fun _ _ _ _ _ _ us hl => match us, hl with | [_], _ => rfl
  have F19 := fun_mk (st := s_Family_needed) l19 c19 k19
  have b19 := F19.binds (ps := ["self"]) fun _ _ _ _ _ _ us hl => match us, hl with | [_], _ => rfl
  have F20 := fun_mk (st := s_Family__eq_) l20 c20 k20
  have b20 := F20.binds (ps := ["self", "other"]) fun _ _ _ _ _ _ us hl => match us, hl with | [_, _], _ => rfl
  have F21 := fun_mk (st := s_Family__str_) l21 c21 k21
  have b21 := F21.binds (ps := ["self"]) fun _ _ _ _ _ _ us hl => match us, hl with | [_], _ => rfl
  have F22 := fun_mk (st := s_Family_opens) l22 c22 k22
  have b22 := F22.binds (ps := ["self", "group"]) fun _ _ _ _ _ _ us hl => match us, hl with | [_, _], _ => rfl
  have F23 := fun_mk (st := s_Family_turned) l23 c23 k23
  have b23 := F23.binds (ps := ["self"]) fun _ _ _ _ _ _ us hl => match us, hl with | [_], _ => rfl
  have F24 := fun_mk (st := s_law_start) l24 c24 k24
  have b24 := F24.binds (ps := ["_law_script"]) fun _ _ _ _ _ _ us hl => match us, hl with | [_], _ => rfl
  have F25 := fun_mk (st := s_law_draw) l25 c25 k25
  have b25 := F25.binds (ps := ["_law_state", "_law_size"]) fun _ _ _ _ _ _ us hl => match us, hl with | [_, _], _ => rfl
  have F26 := fun_mk (st := s_law_names) l26 c26 k26
  have b26 := F26.binds (ps := ["_law_state", "_law_count"]) fun _ _ _ _ _ _ us hl => match us, hl with | [_, _], _ => rfl
  have F27 := fun_mk (st := s_law_good) l27 c27 k27
  have b27 := F27.binds (ps := ["_law_word"]) fun _ _ _ _ _ _ us hl => match us, hl with | [_], _ => rfl
  have F28 := fun_mk (st := s_law_signs) l28 c28 k28
  have b28 := F28.binds (ps := []) fun _ _ _ _ _ _ us hl => match us, hl with | [], _ => rfl
  have F29 := fun_mk (st := s_law_sets) l29 c29 k29
  have b29 := F29.binds (ps := ["_law_pool"]) fun _ _ _ _ _ _ us hl => match us, hl with | [_], _ => rfl
  have F30 := fun_mk (st := s_law_inside) l30 c30 k30
  have b30 := F30.binds (ps := ["_law_small", "_law_large"]) fun _ _ _ _ _ _ us hl => match us, hl with | [_, _], _ => rfl
  have F31 := fun_mk (st := s_law_least) l31 c31 k31
  have b31 := F31.binds (ps := ["_law_rows"]) fun _ _ _ _ _ _ us hl => match us, hl with | [_], _ => rfl
  have F32 := fun_mk (st := s_law_drawn) l32 c32 k32
  have b32 := F32.binds (ps := ["_law_state", "_law_pool"]) fun _ _ _ _ _ _ us hl => match us, hl with | [_, _], _ => rfl
  have F33 := fun_mk (st := s_law_opens) l33 c33 k33
  have b33 := F33.binds (ps := ["_law_groups", "_law_chosen"]) fun _ _ _ _ _ _ us hl => match us, hl with | [_, _], _ => rfl
  have F34 := fun_mk (st := s_law_is_set) l34 c34 k34
  have b34 := F34.binds (ps := ["_law_pool", "_law_thing"]) fun _ _ _ _ _ _ us hl => match us, hl with | [_, _], _ => rfl
  have F35 := fun_mk (st := s_law_text) l35 c35 k35
  have b35 := F35.binds (ps := ["_law_pool", "_law_least_here"]) fun _ _ _ _ _ _ us hl => match us, hl with | [_, _], _ => rfl
  have F36 := fun_mk (st := s_law_spoiled) l36 c36 k36
  have b36 := F36.binds (ps := ["_law_state", "_law_word"]) fun _ _ _ _ _ _ us hl => match us, hl with | [_, _], _ => rfl
  have F37 := fun_mk (st := s_law_due) l37 c37 k37
  have b37 := F37.binds (ps := ["_law_word"]) fun _ _ _ _ _ _ us hl => match us, hl with | [_], _ => rfl
  have F38 := fun_mk (st := s_law) l38 c38 k38
  have b38 := F38.binds (ps := ["_law_script"]) fun _ _ _ _ _ _ us hl => match us, hl with | [_], _ => rfl
  let T : Txt K mg := {
    f_BadName__init_ := f_BadName__init_, fd_BadName__init_ := _, F_BadName__init_ := F0, b_BadName__init_ := b0
    f_DuplicateName__init_ := f_DuplicateName__init_, fd_DuplicateName__init_ := _, F_DuplicateName__init_ := F1, b_DuplicateName__init_ := b1
    f_BadCount__init_ := f_BadCount__init_, fd_BadCount__init_ := _, F_BadCount__init_ := F2, b_BadCount__init_ := b2
    f_BadGroup__init_ := f_BadGroup__init_, fd_BadGroup__init_ := _, F_BadGroup__init_ := F3, b_BadGroup__init_ := b3
    f_BadText__init_ := f_BadText__init_, fd_BadText__init_ := _, F_BadText__init_ := F4, b_BadText__init_ := b4
    f_valid_name := f_valid_name, fd_valid_name := _, F_valid_name := F5, b_valid_name := b5, g_valid_name := PySem.W.mg_of X G a5
    f_all_groups := f_all_groups, fd_all_groups := _, F_all_groups := F6, b_all_groups := b6, g_all_groups := PySem.W.mg_of X G a6
    f_is_group := f_is_group, fd_is_group := _, F_is_group := F7, b_is_group := b7, g_is_group := PySem.W.mg_of X G a7
    f_rest := f_rest, fd_rest := _, F_rest := F8, b_rest := b8, g_rest := PySem.W.mg_of X G a8
    f_contains := f_contains, fd_contains := _, F_contains := F9, b_contains := b9, g_contains := PySem.W.mg_of X G a9
    f_merged := f_merged, fd_merged := _, F_merged := F10, b_merged := b10, g_merged := PySem.W.mg_of X G a10
    f_checked_persons := f_checked_persons, fd_checked_persons := _, F_checked_persons := F11, b_checked_persons := b11, g_checked_persons := PySem.W.mg_of X G a11
    f_check_groups := f_check_groups, fd_check_groups := _, F_check_groups := F12, b_check_groups := b12, g_check_groups := PySem.W.mg_of X G a12
    f_least_groups := f_least_groups, fd_least_groups := _, F_least_groups := F13, b_least_groups := b13, g_least_groups := PySem.W.mg_of X G a13
    f_contains_another := f_contains_another, fd_contains_another := _, F_contains_another := F14, b_contains_another := b14, g_contains_another := PySem.W.mg_of X G a14
    f_Family__init_ := f_Family__init_, fd_Family__init_ := _, F_Family__init_ := F15, b_Family__init_ := b15
    f_Family_read := f_Family_read, fd_Family_read := _, F_Family_read := F16, b_Family_read := b16
    f_Family_persons := f_Family_persons, fd_Family_persons := _, F_Family_persons := F17, b_Family_persons := b17
    f_Family_groups := f_Family_groups, fd_Family_groups := _, F_Family_groups := F18, b_Family_groups := b18
    f_Family_needed := f_Family_needed, fd_Family_needed := _, F_Family_needed := F19, b_Family_needed := b19
    f_Family__eq_ := f_Family__eq_, fd_Family__eq_ := _, F_Family__eq_ := F20, b_Family__eq_ := b20
    f_Family__str_ := f_Family__str_, fd_Family__str_ := _, F_Family__str_ := F21, b_Family__str_ := b21
    f_Family_opens := f_Family_opens, fd_Family_opens := _, F_Family_opens := F22, b_Family_opens := b22
    f_Family_turned := f_Family_turned, fd_Family_turned := _, F_Family_turned := F23, b_Family_turned := b23
    f_law_start := f_law_start, fd_law_start := _, F_law_start := F24, b_law_start := b24, g_law_start := PySem.W.mg_of X G a24
    f_law_draw := f_law_draw, fd_law_draw := _, F_law_draw := F25, b_law_draw := b25, g_law_draw := PySem.W.mg_of X G a25
    f_law_names := f_law_names, fd_law_names := _, F_law_names := F26, b_law_names := b26, g_law_names := PySem.W.mg_of X G a26
    f_law_good := f_law_good, fd_law_good := _, F_law_good := F27, b_law_good := b27, g_law_good := PySem.W.mg_of X G a27
    f_law_signs := f_law_signs, fd_law_signs := _, F_law_signs := F28, b_law_signs := b28, g_law_signs := PySem.W.mg_of X G a28
    f_law_sets := f_law_sets, fd_law_sets := _, F_law_sets := F29, b_law_sets := b29, g_law_sets := PySem.W.mg_of X G a29
    f_law_inside := f_law_inside, fd_law_inside := _, F_law_inside := F30, b_law_inside := b30, g_law_inside := PySem.W.mg_of X G a30
    f_law_least := f_law_least, fd_law_least := _, F_law_least := F31, b_law_least := b31, g_law_least := PySem.W.mg_of X G a31
    f_law_drawn := f_law_drawn, fd_law_drawn := _, F_law_drawn := F32, b_law_drawn := b32, g_law_drawn := PySem.W.mg_of X G a32
    f_law_opens := f_law_opens, fd_law_opens := _, F_law_opens := F33, b_law_opens := b33, g_law_opens := PySem.W.mg_of X G a33
    f_law_is_set := f_law_is_set, fd_law_is_set := _, F_law_is_set := F34, b_law_is_set := b34, g_law_is_set := PySem.W.mg_of X G a34
    f_law_text := f_law_text, fd_law_text := _, F_law_text := F35, b_law_text := b35, g_law_text := PySem.W.mg_of X G a35
    f_law_spoiled := f_law_spoiled, fd_law_spoiled := _, F_law_spoiled := F36, b_law_spoiled := b36, g_law_spoiled := PySem.W.mg_of X G a36
    f_law_due := f_law_due, fd_law_due := _, F_law_due := F37, b_law_due := b37, g_law_due := PySem.W.mg_of X G a37
    f_law := fa, fd_law := _, F_law := F38, b_law := b38, g_law := PySem.W.mg_of X G a38
    t_LETTERS := t_LETTERS, c_LETTERS := PySem.W.mg_of X G v_LETTERS
    t_DIGITS := t_DIGITS, c_DIGITS := PySem.W.mg_of X G v_DIGITS
    t_LONGEST_NAME := t_LONGEST_NAME, c_LONGEST_NAME := PySem.W.mg_of X G v_LONGEST_NAME
    t_MOST_PERSONS := t_MOST_PERSONS, c_MOST_PERSONS := PySem.W.mg_of X G v_MOST_PERSONS
    n_set := PySem.W.mg_none_of X G z_set
    n_len := PySem.W.mg_none_of X G z_len
    n_all := PySem.W.mg_none_of X G z_all
    n_any := PySem.W.mg_none_of X G z_any
    n_abs := PySem.W.mg_none_of X G z_abs
    n_list := PySem.W.mg_none_of X G z_list
    n_int := PySem.W.mg_none_of X G z_int
    n_range := PySem.W.mg_none_of X G z_range
    n_isinstance := PySem.W.mg_none_of X G z_isinstance
    n_tuple := PySem.W.mg_none_of X G z_tuple
    n_sorted := PySem.W.mg_none_of X G z_sorted
    n_str := PySem.W.mg_none_of X G z_str
    n_enumerate := PySem.W.mg_none_of X G z_enumerate
    C_BadName := C_BadName, g_BadName := PySem.W.mg_of X G aCBadName, er_BadName := errT_of eCBadName ⟨_, _, _, _, _, _, _, _, _, _, _, _, _, _, _, xCBadName, ve_at _⟩ hn ht
    iC_BadName := iCBadName, tI_BadName := tIBadName, nf_BadName := nfBadName
    ex_BadName_BadName := ex_BadName_BadName
    ex_BadName_DuplicateName := ex_BadName_DuplicateName
    ex_BadName_BadCount := ex_BadName_BadCount
    ex_BadName_BadGroup := ex_BadName_BadGroup
    ex_BadName_NoGroup := ex_BadName_NoGroup
    ex_BadName_BadText := ex_BadName_BadText
    C_DuplicateName := C_DuplicateName, g_DuplicateName := PySem.W.mg_of X G aCDuplicateName, er_DuplicateName := errT_of eCDuplicateName ⟨_, _, _, _, _, _, _, _, _, _, _, _, _, _, _, xCDuplicateName, ve_at _⟩ hn ht
    iC_DuplicateName := iCDuplicateName, tI_DuplicateName := tIDuplicateName, nf_DuplicateName := nfDuplicateName
    ex_DuplicateName_BadName := ex_DuplicateName_BadName
    ex_DuplicateName_DuplicateName := ex_DuplicateName_DuplicateName
    ex_DuplicateName_BadCount := ex_DuplicateName_BadCount
    ex_DuplicateName_BadGroup := ex_DuplicateName_BadGroup
    ex_DuplicateName_NoGroup := ex_DuplicateName_NoGroup
    ex_DuplicateName_BadText := ex_DuplicateName_BadText
    C_BadCount := C_BadCount, g_BadCount := PySem.W.mg_of X G aCBadCount, er_BadCount := errT_of eCBadCount ⟨_, _, _, _, _, _, _, _, _, _, _, _, _, _, _, xCBadCount, ve_at _⟩ hn ht
    iC_BadCount := iCBadCount, tI_BadCount := tIBadCount, nf_BadCount := nfBadCount
    ex_BadCount_BadName := ex_BadCount_BadName
    ex_BadCount_DuplicateName := ex_BadCount_DuplicateName
    ex_BadCount_BadCount := ex_BadCount_BadCount
    ex_BadCount_BadGroup := ex_BadCount_BadGroup
    ex_BadCount_NoGroup := ex_BadCount_NoGroup
    ex_BadCount_BadText := ex_BadCount_BadText
    C_BadGroup := C_BadGroup, g_BadGroup := PySem.W.mg_of X G aCBadGroup, er_BadGroup := errT_of eCBadGroup ⟨_, _, _, _, _, _, _, _, _, _, _, _, _, _, _, xCBadGroup, ve_at _⟩ hn ht
    iC_BadGroup := iCBadGroup, tI_BadGroup := tIBadGroup, nf_BadGroup := nfBadGroup
    ex_BadGroup_BadName := ex_BadGroup_BadName
    ex_BadGroup_DuplicateName := ex_BadGroup_DuplicateName
    ex_BadGroup_BadCount := ex_BadGroup_BadCount
    ex_BadGroup_BadGroup := ex_BadGroup_BadGroup
    ex_BadGroup_NoGroup := ex_BadGroup_NoGroup
    ex_BadGroup_BadText := ex_BadGroup_BadText
    C_NoGroup := C_NoGroup, g_NoGroup := PySem.W.mg_of X G aCNoGroup, er_NoGroup := errT_of eCNoGroup ⟨_, _, _, _, _, _, _, _, _, _, _, _, _, _, _, xCNoGroup, ve_at _⟩ hn ht
    q_NoGroup := qCNoGroup, k_NoGroup := kCNoGroup
    ex_NoGroup_BadName := ex_NoGroup_BadName
    ex_NoGroup_DuplicateName := ex_NoGroup_DuplicateName
    ex_NoGroup_BadCount := ex_NoGroup_BadCount
    ex_NoGroup_BadGroup := ex_NoGroup_BadGroup
    ex_NoGroup_NoGroup := ex_NoGroup_NoGroup
    ex_NoGroup_BadText := ex_NoGroup_BadText
    C_BadText := C_BadText, g_BadText := PySem.W.mg_of X G aCBadText, er_BadText := errT_of eCBadText ⟨_, _, _, _, _, _, _, _, _, _, _, _, _, _, _, xCBadText, ve_at _⟩ hn ht
    iC_BadText := iCBadText, tI_BadText := tIBadText, nf_BadText := nfBadText
    ex_BadText_BadName := ex_BadText_BadName
    ex_BadText_DuplicateName := ex_BadText_DuplicateName
    ex_BadText_BadCount := ex_BadText_BadCount
    ex_BadText_BadGroup := ex_BadText_BadGroup
    ex_BadText_NoGroup := ex_BadText_NoGroup
    ex_BadText_BadText := ex_BadText_BadText
    C_Family := C_Family, g_Family := PySem.W.mg_of X G aFam, cl_Family := ⟨pg, hd, po, sa⟩
    na_persons := na_persons
    na_groups := na_groups
    na_needed := na_needed
    mk_Family := ⟨mk1, mk2, mk3, mk4⟩
    p_persons := p_persons, pp_persons := ⟨pa_persons, pb_persons, pc_persons, _, pd_persons⟩
    p_groups := p_groups, pp_groups := ⟨pa_groups, pb_groups, pc_groups, _, pd_groups⟩
    p_needed := p_needed, pp_needed := ⟨pa_needed, pb_needed, pc_needed, _, pd_needed⟩
    me_opens := ⟨moa_opens, mob_opens, moc_opens⟩
    me_turned := ⟨moa_turned, mob_turned, moc_turned⟩
    ne_at := ne1
    eq_at := eq1, eq_fn := eq2, st_at := st1, st_fn := st2, fc_Family := fc, sp_cls := hn, tk_cls := ht, mro_Family := mro, ki_Family := kiF
    nq_Family := nqF, mc_Family := .type "type", p_read := p_read, cr_Family := ⟨cr1, cr2⟩, cm_read := ⟨cm1, ⟨_, cm2⟩, cm3⟩
    C_ShareError := C_ShareError, g_ShareError := PySem.W.mg_of X G aSE, ki_BadText := kiB
    es_BadName := es_BadName
    es_DuplicateName := es_DuplicateName
    es_BadCount := es_BadCount
    es_BadGroup := es_BadGroup
    es_NoGroup := es_NoGroup
    es_BadText := es_BadText
    kb_read := ⟨fun s us ws _ h1 h2 => by
      match us, h1 with
      | [a], _ =>
        match ws, h2 with
        | [x0], _ => exact .of_eq rfl,
    fun h1 t0 => by cases h1 with | nil => exact vals_rep _ | cons ra ta => (cases ta with | nil => (cases t0 with | nil => exact vals_rep _ | cons r0 t1 => (cases t1 with | nil => exact (.cons ra (.cons r0 .nil)) | cons _ _ => exact vals_rep _)) | cons _ _ => exact vals_rep _)⟩
  }
  exact ⟨PySem.W.fnOf "law" "law" (defArgs s_law) (defBody s_law) (defScope s_law) .none kV38 dc38 pm38 an38 cd38 ct38, fun s v => .of_eq rfl, fun base _ _ => ok_law T⟩
end P
open PySem PySem.W PyProof.Rows
set_option maxRecDepth 100000 in
set_option maxHeartbeats 0 in
theorem PySem.Challenge.cw_openshares_k11_family_texts_holds : PySem.Challenge.rw_openshares_k11_family_texts.Holds := by
  w_on; o_law; k_head; (case hw => w_witness2)
  k_fill
  refine L2.walk_of (l := PySem.Challenge.rw_openshares_k11_family_texts) (n := 63) (k := 8) (x := "_law_script") (CX := fun _ => L2.CX0) (sp := fun w => P.spLaw _) rfl (by decide) rfl ⟨rfl, by decide, by decide⟩ (fun w h Y => PySem.W.kIn_of Y) ?F (fun _ _ a ns hl _ hS => ⟨a, ns, rfl, hS, hl, fun _ => rfl⟩) (fun _ _ _ _ _ h => h)
  case F =>
    intro w mg fa h KX G hmg
    refine' P.all_mk KX G hmg ?aSE ?aCBadName ?xCBadName ?eCBadName ?iCBadName ?tIBadName ?nfBadName ?aCDuplicateName ?xCDuplicateName ?eCDuplicateName ?iCDuplicateName ?tIDuplicateName ?nfDuplicateName ?aCBadCount ?xCBadCount ?eCBadCount ?iCBadCount ?tIBadCount ?nfBadCount ?aCBadGroup ?xCBadGroup ?eCBadGroup ?iCBadGroup ?tIBadGroup ?nfBadGroup ?aCNoGroup ?xCNoGroup ?eCNoGroup ?qCNoGroup ?kCNoGroup ?aCBadText ?xCBadText ?eCBadText ?iCBadText ?tIBadText ?nfBadText ?ex_BadName_BadName ?ex_BadName_DuplicateName ?ex_BadName_BadCount ?ex_BadName_BadGroup ?ex_BadName_NoGroup ?ex_BadName_BadText ?ex_DuplicateName_BadName ?ex_DuplicateName_DuplicateName ?ex_DuplicateName_BadCount ?ex_DuplicateName_BadGroup ?ex_DuplicateName_NoGroup ?ex_DuplicateName_BadText ?ex_BadCount_BadName ?ex_BadCount_DuplicateName ?ex_BadCount_BadCount ?ex_BadCount_BadGroup ?ex_BadCount_NoGroup ?ex_BadCount_BadText ?ex_BadGroup_BadName ?ex_BadGroup_DuplicateName ?ex_BadGroup_BadCount ?ex_BadGroup_BadGroup ?ex_BadGroup_NoGroup ?ex_BadGroup_BadText ?ex_NoGroup_BadName ?ex_NoGroup_DuplicateName ?ex_NoGroup_BadCount ?ex_NoGroup_BadGroup ?ex_NoGroup_NoGroup ?ex_NoGroup_BadText ?ex_BadText_BadName ?ex_BadText_DuplicateName ?ex_BadText_BadCount ?ex_BadText_BadGroup ?ex_BadText_NoGroup ?ex_BadText_BadText ?hn ?ht ?aFam ?pg ?hd ?po ?sa ?na_persons ?na_groups ?na_needed ?cr1 ?cr2 ?cm1 ?cm2 ?cm3 ?kiB ?es_BadName ?es_DuplicateName ?es_BadCount ?es_BadGroup ?es_NoGroup ?es_BadText ?mk1 ?mk2 ?mk3 ?mk4 ?pa_persons ?pb_persons ?pc_persons ?pd_persons ?pa_groups ?pb_groups ?pc_groups ?pd_groups ?pa_needed ?pb_needed ?pc_needed ?pd_needed ?moa_opens ?mob_opens ?moc_opens ?moa_turned ?mob_turned ?moc_turned ?ne1 ?eq1 ?eq2 ?st1 ?st2 ?fc ?mro ?kiF ?nqF ?l0 ?c0 ?k0 ?l1 ?c1 ?k1 ?l2 ?c2 ?k2 ?l3 ?c3 ?k3 ?l4 ?c4 ?k4 ?a5 ?l5 ?c5 ?k5 ?a6 ?l6 ?c6 ?k6 ?a7 ?l7 ?c7 ?k7 ?a8 ?l8 ?c8 ?k8 ?a9 ?l9 ?c9 ?k9 ?a10 ?l10 ?c10 ?k10 ?a11 ?l11 ?c11 ?k11 ?a12 ?l12 ?c12 ?k12 ?a13 ?l13 ?c13 ?k13 ?a14 ?l14 ?c14 ?k14 ?l15 ?c15 ?k15 ?l16 ?c16 ?k16 ?l17 ?c17 ?k17 ?l18 ?c18 ?k18 ?l19 ?c19 ?k19 ?l20 ?c20 ?k20 ?l21 ?c21 ?k21 ?l22 ?c22 ?k22 ?l23 ?c23 ?k23 ?a24 ?l24 ?c24 ?k24 ?a25 ?l25 ?c25 ?k25 ?a26 ?l26 ?c26 ?k26 ?a27 ?l27 ?c27 ?k27 ?a28 ?l28 ?c28 ?k28 ?a29 ?l29 ?c29 ?k29 ?a30 ?l30 ?c30 ?k30 ?a31 ?l31 ?c31 ?k31 ?a32 ?l32 ?c32 ?k32 ?a33 ?l33 ?c33 ?k33 ?a34 ?l34 ?c34 ?k34 ?a35 ?l35 ?c35 ?k35 ?a36 ?l36 ?c36 ?k36 ?a37 ?l37 ?c37 ?k37 ?a38 ?l38 ?c38 ?k38 ?v_LETTERS ?v_DIGITS ?v_LONGEST_NAME ?v_MOST_PERSONS ?z_set ?z_len ?z_all ?z_any ?z_abs ?z_list ?z_int ?z_range ?z_isinstance ?z_tuple ?z_sorted ?z_str ?z_enumerate
    (case aSE => k_is)
    (case aCBadName => k_is)
    (case xCBadName => k_is)
    (case eCBadName => kernel_rfl)
    (case iCBadName => k_is)
    (case tIBadName => k_is)
    (case nfBadName => k_is)
    (case aCDuplicateName => k_is)
    (case xCDuplicateName => k_is)
    (case eCDuplicateName => kernel_rfl)
    (case iCDuplicateName => k_is)
    (case tIDuplicateName => k_is)
    (case nfDuplicateName => k_is)
    (case aCBadCount => k_is)
    (case xCBadCount => k_is)
    (case eCBadCount => kernel_rfl)
    (case iCBadCount => k_is)
    (case tIBadCount => k_is)
    (case nfBadCount => k_is)
    (case aCBadGroup => k_is)
    (case xCBadGroup => k_is)
    (case eCBadGroup => kernel_rfl)
    (case iCBadGroup => k_is)
    (case tIBadGroup => k_is)
    (case nfBadGroup => k_is)
    (case aCNoGroup => k_is)
    (case xCNoGroup => k_is)
    (case eCNoGroup => kernel_rfl)
    (case qCNoGroup => k_exc)
    (case kCNoGroup => k_is)
    (case aCBadText => k_is)
    (case xCBadText => k_is)
    (case eCBadText => kernel_rfl)
    (case iCBadText => k_is)
    (case tIBadText => k_is)
    (case nfBadText => k_is)
    (case ex_BadName_BadName => kernel_rfl)
    (case ex_BadName_DuplicateName => kernel_rfl)
    (case ex_BadName_BadCount => kernel_rfl)
    (case ex_BadName_BadGroup => kernel_rfl)
    (case ex_BadName_NoGroup => kernel_rfl)
    (case ex_BadName_BadText => kernel_rfl)
    (case ex_DuplicateName_BadName => kernel_rfl)
    (case ex_DuplicateName_DuplicateName => kernel_rfl)
    (case ex_DuplicateName_BadCount => kernel_rfl)
    (case ex_DuplicateName_BadGroup => kernel_rfl)
    (case ex_DuplicateName_NoGroup => kernel_rfl)
    (case ex_DuplicateName_BadText => kernel_rfl)
    (case ex_BadCount_BadName => kernel_rfl)
    (case ex_BadCount_DuplicateName => kernel_rfl)
    (case ex_BadCount_BadCount => kernel_rfl)
    (case ex_BadCount_BadGroup => kernel_rfl)
    (case ex_BadCount_NoGroup => kernel_rfl)
    (case ex_BadCount_BadText => kernel_rfl)
    (case ex_BadGroup_BadName => kernel_rfl)
    (case ex_BadGroup_DuplicateName => kernel_rfl)
    (case ex_BadGroup_BadCount => kernel_rfl)
    (case ex_BadGroup_BadGroup => kernel_rfl)
    (case ex_BadGroup_NoGroup => kernel_rfl)
    (case ex_BadGroup_BadText => kernel_rfl)
    (case ex_NoGroup_BadName => kernel_rfl)
    (case ex_NoGroup_DuplicateName => kernel_rfl)
    (case ex_NoGroup_BadCount => kernel_rfl)
    (case ex_NoGroup_BadGroup => kernel_rfl)
    (case ex_NoGroup_NoGroup => kernel_rfl)
    (case ex_NoGroup_BadText => kernel_rfl)
    (case ex_BadText_BadName => kernel_rfl)
    (case ex_BadText_DuplicateName => kernel_rfl)
    (case ex_BadText_BadCount => kernel_rfl)
    (case ex_BadText_BadGroup => kernel_rfl)
    (case ex_BadText_NoGroup => kernel_rfl)
    (case ex_BadText_BadText => kernel_rfl)
    (case hn => k_is)
    (case ht => k_is)
    (case aFam => k_is)
    (case pg => k_is)
    (case hd => k_is)
    (case po => k_is)
    (case sa => k_is)
    (case na_persons => k_is)
    (case na_groups => k_is)
    (case na_needed => k_is)
    (case cr1 => k_is)
    (case cr2 => k_is)
    (case cm1 => k_is)
    (case cm2 => k_is)
    (case cm3 => k_is)
    (case kiB => kernel_rfl)
    (case es_BadName => kernel_rfl)
    (case es_DuplicateName => kernel_rfl)
    (case es_BadCount => kernel_rfl)
    (case es_BadGroup => kernel_rfl)
    (case es_NoGroup => kernel_rfl)
    (case es_BadText => kernel_rfl)
    (case mk1 => k_is)
    (case mk2 => k_is)
    (case mk3 => k_is)
    (case mk4 => k_is)
    (case pa_persons => k_is)
    (case pb_persons => k_is)
    (case pc_persons => k_is)
    (case pd_persons => k_is)
    (case pa_groups => k_is)
    (case pb_groups => k_is)
    (case pc_groups => k_is)
    (case pd_groups => k_is)
    (case pa_needed => k_is)
    (case pb_needed => k_is)
    (case pc_needed => k_is)
    (case pd_needed => k_is)
    (case moa_opens => k_is)
    (case mob_opens => k_is)
    (case moc_opens => k_is)
    (case moa_turned => k_is)
    (case mob_turned => k_is)
    (case moc_turned => k_is)
    (case ne1 => k_is)
    (case eq1 => k_is)
    (case eq2 => k_is)
    (case st1 => k_is)
    (case st2 => k_is)
    (case fc => k_is)
    (case mro => k_is)
    (case kiF => kernel_rfl)
    (case nqF => k_is)
    (case l0 => k_is)
    (case c0 => k_is)
    (case k0 => k_is)
    (case l1 => k_is)
    (case c1 => k_is)
    (case k1 => k_is)
    (case l2 => k_is)
    (case c2 => k_is)
    (case k2 => k_is)
    (case l3 => k_is)
    (case c3 => k_is)
    (case k3 => k_is)
    (case l4 => k_is)
    (case c4 => k_is)
    (case k4 => k_is)
    (case a5 => k_is)
    (case l5 => k_is)
    (case c5 => k_is)
    (case k5 => k_is)
    (case a6 => k_is)
    (case l6 => k_is)
    (case c6 => k_is)
    (case k6 => k_is)
    (case a7 => k_is)
    (case l7 => k_is)
    (case c7 => k_is)
    (case k7 => k_is)
    (case a8 => k_is)
    (case l8 => k_is)
    (case c8 => k_is)
    (case k8 => k_is)
    (case a9 => k_is)
    (case l9 => k_is)
    (case c9 => k_is)
    (case k9 => k_is)
    (case a10 => k_is)
    (case l10 => k_is)
    (case c10 => k_is)
    (case k10 => k_is)
    (case a11 => k_is)
    (case l11 => k_is)
    (case c11 => k_is)
    (case k11 => k_is)
    (case a12 => k_is)
    (case l12 => k_is)
    (case c12 => k_is)
    (case k12 => k_is)
    (case a13 => k_is)
    (case l13 => k_is)
    (case c13 => k_is)
    (case k13 => k_is)
    (case a14 => k_is)
    (case l14 => k_is)
    (case c14 => k_is)
    (case k14 => k_is)
    (case l15 => k_is)
    (case c15 => k_is)
    (case k15 => k_is)
    (case l16 => k_is)
    (case c16 => k_is)
    (case k16 => k_is)
    (case l17 => k_is)
    (case c17 => k_is)
    (case k17 => k_is)
    (case l18 => k_is)
    (case c18 => k_is)
    (case k18 => k_is)
    (case l19 => k_is)
    (case c19 => k_is)
    (case k19 => k_is)
    (case l20 => k_is)
    (case c20 => k_is)
    (case k20 => k_is)
    (case l21 => k_is)
    (case c21 => k_is)
    (case k21 => k_is)
    (case l22 => k_is)
    (case c22 => k_is)
    (case k22 => k_is)
    (case l23 => k_is)
    (case c23 => k_is)
    (case k23 => k_is)
    (case a24 => k_is)
    (case l24 => k_is)
    (case c24 => k_is)
    (case k24 => k_is)
    (case a25 => k_is)
    (case l25 => k_is)
    (case c25 => k_is)
    (case k25 => k_is)
    (case a26 => k_is)
    (case l26 => k_is)
    (case c26 => k_is)
    (case k26 => k_is)
    (case a27 => k_is)
    (case l27 => k_is)
    (case c27 => k_is)
    (case k27 => k_is)
    (case a28 => k_is)
    (case l28 => k_is)
    (case c28 => k_is)
    (case k28 => k_is)
    (case a29 => k_is)
    (case l29 => k_is)
    (case c29 => k_is)
    (case k29 => k_is)
    (case a30 => k_is)
    (case l30 => k_is)
    (case c30 => k_is)
    (case k30 => k_is)
    (case a31 => k_is)
    (case l31 => k_is)
    (case c31 => k_is)
    (case k31 => k_is)
    (case a32 => k_is)
    (case l32 => k_is)
    (case c32 => k_is)
    (case k32 => k_is)
    (case a33 => k_is)
    (case l33 => k_is)
    (case c33 => k_is)
    (case k33 => k_is)
    (case a34 => k_is)
    (case l34 => k_is)
    (case c34 => k_is)
    (case k34 => k_is)
    (case a35 => k_is)
    (case l35 => k_is)
    (case c35 => k_is)
    (case k35 => k_is)
    (case a36 => k_is)
    (case l36 => k_is)
    (case c36 => k_is)
    (case k36 => k_is)
    (case a37 => k_is)
    (case l37 => k_is)
    (case c37 => k_is)
    (case k37 => k_is)
    (case a38 => k_is)
    (case l38 => k_is)
    (case c38 => k_is)
    (case k38 => k_is)
    (case v_LETTERS => k_is)
    (case v_DIGITS => k_is)
    (case v_LONGEST_NAME => k_is)
    (case v_MOST_PERSONS => k_is)
    (case z_set => k_is)
    (case z_len => k_is)
    (case z_all => k_is)
    (case z_any => k_is)
    (case z_abs => k_is)
    (case z_list => k_is)
    (case z_int => k_is)
    (case z_range => k_is)
    (case z_isinstance => k_is)
    (case z_tuple => k_is)
    (case z_sorted => k_is)
    (case z_str => k_is)
    (case z_enumerate => k_is)
#print axioms PySem.Challenge.cw_openshares_k11_family_texts_holds

