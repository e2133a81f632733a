import PyProof.Rows.All
import Wide.All
import OpenK.AllK
import Wide.FinOn
import HandS.ForMost
import HandS.Walk
import HandS.Wide
import HandS.Deep
import HandS.TupAny
import HandS.Style
import HandS.IsInst
import HandS.Flow
import KE.KRevSl
import HandS.ForExc
import HandS.ExcInit
import HandS.ExcField
import HandS.ExcIs
import HandS.ExcValue
import HandS.DeepEq
import KE.KExcIs
import KE.SortKeyHeap
import HandS.SortKw
import PyProof.FactsAll.dict
import PyProof.FactsAll.subtypes
import KE.DataEq
import HandS.TryMany
import HandS.Iter
import KE.GoesEnum
import HandS.ExcOwn
import HandS.ClsMeth
import HandS.Property
import HandS.OwnEq
import HandS.MakeKwOnly
import HandS.CallLocal
import KE.KEqNest
import HandS.FStr
import KE.KCallOwn
import KE.KFmtOwn
import PyProof.InstEq
import HandS.Star
import HandS.Zip
import HandS.DictComp
import HandS.Finally
import HandS.More
import HandS.SetTxt0
import HandS.SetFor
import HandS.TupSets
import PySem.Challenge.RW_openshares_k30_dealing
set_option Elab.async false
set_option linter.all false
set_option maxRecDepth 100000
set_option maxHeartbeats 4000000
/-! rules of my own: a call by keywords alone, a text turned round, the state of the draws -/
namespace OS
open PySem PySem.Spec PyProof.Rows L2

/-! ### f(k = v, ..) -/
section
variable {X : Cx} {CX : CXT} {k : Nat} {f : Addr} {fd : FuncData} {ps ks : List Str} {sp : Sp} {E : XK} {x : Str} {p pos : Pos} {kws : List Keyword} {tk : TA} {g : List Value → List Value → List Value} {gV : List V → List V → List V}
theorem pe_callK0 (F : FnOk X.prog X.w X.K X.mg X.base CX k f fd ps sp) (hr : Room k X.A) (hg : Gl X x) (hm : X.mg x = some (.ref f)) (hk : PySem.W.keepIn X.K (.ref f) = true) (hb : KBinds X.K fd ps ks g gV) (hx : Passes CX X E)
    (hkw : PK X kws tk) (hall : (backToKw pos (keywordEach kws X.env)).all (·.1.isSome) = true := by rfl) (hks : (backToKw pos (keywordEach kws X.env)).filterMap (·.1) = ks := by rfl)
    (hdb : (x == ("__debug__" : Str)) = false := by decide)
    (hpl : ((backTo pos (starEach [] X.env)).any (·.1) || (backToKw pos (keywordEach kws X.env)).any (·.1.isNone)) = false := by rfl) :
    PE X (.Call (.Name x p) [] kws pos) (tCallK sp gV E tNil tk) := by
  refine ⟨fun pins s σ H Q I h => ?_⟩
  refine wpAny_Call_Name_kw (ld_glob I hg hm ?_ hdb)
  refine PySem.W.callWith_KW0 (h₀ := X.base) I.ok.mod.kin hk hall ?_ hpl
  refine thn (hkw.run pos pins s σ H _ I h) fun ws s2 ⟨zs, H2, I2, rz, q2⟩ => ⟨I2.kIn, ?_⟩
  rw [hks]
  exact run_fnk (us := []) (vs := []) F hr hb hx I2 .nil rz q2
end

/-! ### text[::-1] -/
def revS (z : Str) : Str := ⟨z.cps.toList.reverse.toArray⟩
theorem revS_list (z : Str) : (revS z).cps.toList = z.cps.toList.reverse := by simp [revS]
theorem revS_len (z : Str) : (revS z).length = z.length := by simp [revS, Str.length]
def tRevS (te : TE) : TE := fun σ H Q => te σ H fun x H1 => ∃ z, x = .str z ∧ z.length ≤ sizeLine ∧ Q (.str (revS z)) H1
theorem rev_idx (n : Nat) : Builtin.Str.strSliceIndices none none (-1) n = (List.range n).reverse := by
  show sliceRange ((n : Int) - 1) (-1) (-1) = _
  rw [PySem.W.krv_sliceRange, PySem.W.krv_range]
theorem pe_revS {X : Cx} {e : Expr} {te : TE} {k : Nat} {p1 p2 p3 pos : Pos} (he : PE X e te) : PE X (.Subscript e (.Slice none none (some (.UnaryOp .USub (.Constant (.int 1) k p1) p2)) p3) pos) (tRevS te) := by
  refine ⟨fun pins s σ H Q I h => ?_⟩
  refine Subscript_ (thn (he.run pins s σ H _ I h) fun v s1 ⟨x, H1, I1, r1, q1⟩ => ?_)
  obtain ⟨z, ex, hz, q⟩ := q1
  subst ex
  obtain ⟨t, rfl⟩ := r1
  have hst : PO X (some (.UnaryOp .USub (.Constant (.int 1) k p1) p2)) (tPart (tUn (rU fun i => .int (-i)) (tC (.int 1)))) := po_some (pe_un un_neg pe_int)
  refine wpAny_Slice (thn (po_none.run pins s1 σ H1 (fun o H2 => o = none ∧ H2 = H1) I1 ⟨rfl, rfl⟩) fun vl s2 ⟨l, H2, I2, pl, el, e2⟩ => ?_)
  subst el e2
  refine thn (po_none.run pins s2 σ H2 (fun o H3 => o = none ∧ H3 = H2) I2 ⟨rfl, rfl⟩) fun vu s3 ⟨u, H3, I3, pu, eu, e3⟩ => ?_
  subst eu e3
  refine thn (hst.run pins s3 σ H3 (fun o H4 => o = some (-1) ∧ H4 = H3) I3 ⟨1, rfl, -1, rfl, rfl, rfl⟩) fun vs s4 ⟨o, H4, I4, ps, eo, e4⟩ => ?_
  subst eo e4
  have I5 : Inv X pins σ H4 { s4 with heap := s4.heap.push { cls := .type "slice", data := .fields #[vl, vu, vs] } } := I4.kept (t' := s4.toks) fun b ob q => Heap.get?_push_of_some _ q
  show wpAny (model X.prog X.w) X.A (subscriptTail e (.Slice none none (some (.UnaryOp .USub (.Constant (.int 1) k p1) p2)) p3) (.str z t) (.ref s4.heap.objs.size)) (EP X pins σ Q) X.xe { s4 with heap := s4.heap.push { cls := .type "slice", data := .fields #[vl, vu, vs] } }
  obtain ⟨pl', e1, e1'⟩ := IsPart.raw pl
  obtain ⟨pu', e2, e2'⟩ := IsPart.raw pu
  obtain ⟨ps', e3, e3'⟩ := IsPart.raw ps
  subst e1 e2 e3
  refine tail_any (typeIs_str _ z t) slot_str_getitem.lookup ?_ (by with_unfolding_all rfl)
  refine wpAny_getItem_str_slice (l := pl') (u := pu') (st := ps') ⟨_, Heap.get?_push_size _ rfl, rfl, rfl⟩ (by rw [e3']; rfl) ?_
  have el : (pl'.map (·.1)) = none := e1'
  have eu : (pu'.map (·.1)) = none := e2'
  have es : (ps'.map (·.1)) = some (-1) := e3'
  unfold sliceMade slicePicked
  rw [el, eu, es]
  show Made.post (if ((-1 : Int) == 1 && _) = true then _ else Made.str ⟨((Builtin.Str.strSliceIndices none none (-1) z.length).filterMap (z.cps[·]?)).toArray⟩) (EP X pins σ Q) _
  rw [if_neg (by simp), rev_idx]
  have ez : (List.range z.length).reverse.filterMap (z.cps[·]?) = z.cps.toList.reverse := by
    rw [List.filterMap_reverse]
    show ((List.range z.cps.size).filterMap (z.cps[·]?)).reverse = _
    rw [PySem.W.krv_all]
  rw [ez]
  exact ⟨by
    show (revS z).length ≤ sizeLine
    rw [revS_len]
    exact hz, .str (revS z), H4, I5.tok _, ⟨_, rfl⟩, q⟩
end OS
namespace OS
open PySem PySem.Spec PyProof.Rows L2
/-! ### a[k] for a[k] += e, lists -/
def rGetL (K : PySem.W.Frag) : V → V → Hp → VK → Prop := fun o i H Q => ∃ p xs k v, o = .ref p ∧ i = .int k ∧ SqL K H p xs ∧ 0 ≤ k ∧ xs[k.toNat]? = some v ∧ Q v H
theorem pget_list {X : Cx} : PGet X (rGetL X.K) := by
  intro pins s σ H o i ov iv Q I ro ri h
  obtain ⟨p, xs, k, z, rfl, rfl, hq, h0, he, q⟩ := h
  cases ro
  obtain ⟨t, rfl⟩ := ri
  obtain ⟨its, r, pl, hz⟩ := I.list hq
  obtain ⟨w, ew, rw'⟩ := r.get he
  have hl := r.length
  have hn := line63
  have hlt : k.toNat < xs.length := (List.getElem?_eq_some_iff.mp he).1
  exact wpAny_getItem_list pl.isList h0 (by omega) (by simpa using ew) ⟨z, H, I, rw', q⟩
/-! ### the state of the draws -/
structure StA (H : Hp) (p a b : Addr) (zs ms : List Int) (n : Nat) : Prop where
  hp : H p = some (.lst [.ref a, .ref b, .int (n : Int)])
  ha : H a = some (.lst (zs.map V.int))
  hb : H b = some (.lst (ms.map V.int))
  ab : a ≠ b
  ne : ms ≠ []
  lz : zs.length ≤ 100
  lm : ms.length ≤ 100
def StAt (H : Hp) (p : Addr) (n : Nat) : Prop := ∃ a b zs ms, StA H p a b zs ms n
def Own (H : Hp) (p q : Addr) : Prop := q = p ∨ ∃ xs, H p = some (.lst xs) ∧ V.ref q ∈ xs
/-- o stands at q, and q is no part of the state at p -/
structure Sep (H : Hp) (p q : Addr) (o : HO) : Prop where
  at_ : H q = some o
  no : ¬ Own H p q
/-- what is no part of the state stays -/
def Nx (p : Addr) (H H' : Hp) : Prop := ∀ q o, Sep H p q o → Sep H' p q o
theorem Nx.refl (p : Addr) (H : Hp) : Nx p H H := fun _ _ h => h
theorem Nx.trans {p : Addr} {H H1 H2 : Hp} (a : Nx p H H1) (b : Nx p H1 H2) : Nx p H H2 := fun q o h => b q o (a q o h)
theorem StA.pa {H : Hp} {p a b : Addr} {zs ms : List Int} {n : Nat} (S : StA H p a b zs ms n) : p ≠ a := by
  refine ne_of S.hp S.ha fun z => ?_
  injection z with z
  cases zs <;> simp at z
theorem StA.pb {H : Hp} {p a b : Addr} {zs ms : List Int} {n : Nat} (S : StA H p a b zs ms n) : p ≠ b := by
  refine ne_of S.hp S.hb fun z => ?_
  injection z with z
  cases ms <;> simp at z
theorem own_iff {H : Hp} {p a b : Addr} {n : Int} (h : H p = some (.lst [.ref a, .ref b, .int n])) (q : Addr) : Own H p q ↔ q = p ∨ q = a ∨ q = b := by
  unfold Own
  rw [h]
  constructor
  · rintro (h | ⟨xs, e, m⟩)
    · exact .inl h
    · cases e
      simp at m
      exact .inr m
  · rintro (h | h)
    · exact .inl h
    · refine .inr ⟨_, rfl, ?_⟩
      simpa using h
theorem StA.mk' {H : Hp} {p a b : Addr} {zs ms : List Int} {n : Nat} (S : StA H p a b zs ms n) : StAt H p n := ⟨a, b, zs, ms, S⟩
theorem StAt.same {H H' : Hp} {p : Addr} {n : Nat} (S : StAt H p n) (s : Same H H') : StAt H' p n := by
  obtain ⟨a, b, zs, ms, S⟩ := S
  exact ⟨a, b, zs, ms, s _ _ S.hp, s _ _ S.ha, s _ _ S.hb, S.ab, S.ne, S.lz, S.lm⟩
theorem StAt.nx {H H' : Hp} {p : Addr} {n : Nat} (S : StAt H p n) (s : Same H H') : Nx p H H' := by
  obtain ⟨a, b, zs, ms, S⟩ := S
  intro q o h
  refine ⟨s _ _ h.at_, fun z => h.no ?_⟩
  rw [own_iff S.hp]
  exact (own_iff (s _ _ S.hp) q).mp z
theorem same_new {H : Hp} {p : Addr} {o : HO} (h : H p = none) : Same H (upd H p o) := fun b x e => by
  rw [upd_ne (ne_of_none e h)]
  exact e
theorem StAt.free {H : Hp} {p q : Addr} {n : Nat} (S : StAt H p n) (h : H q = none) : ¬ Own H p q := by
  obtain ⟨a, b, zs, ms, S⟩ := S
  rw [own_iff S.hp]
  rintro (z | z | z)
  · exact ne_of_none S.hp h z.symm
  · exact ne_of_none S.ha h z.symm
  · exact ne_of_none S.hb h z.symm
/-- a new object -/
theorem StAt.new {H : Hp} {p q : Addr} {n : Nat} {o : HO} (S : StAt H p n) (h : H q = none) : Sep (upd H q o) p q o := by
  refine ⟨upd_same, fun z => S.free h ?_⟩
  obtain ⟨a, b, zs, ms, S⟩ := S
  rw [own_iff S.hp]
  exact (own_iff (same_new h _ _ S.hp) q).mp z
theorem Sep.sq {K : PySem.W.Frag} {H : Hp} {p q : Addr} {xs : List V} (h : Sep H p q (.lst xs)) : SqL K H q xs := .inl (.inl h.at_)
theorem Sep.st {K : PySem.W.Frag} {H : Hp} {p q : Addr} {xs : List V} (h : Sep H p q (.tup xs)) : SqT K H q xs := .inl (.inl h.at_)
/-- an object of one's own is written -/
theorem StAt.put {H : Hp} {p q : Addr} {n : Nat} {o u : HO} (S : StAt H p n) (h : Sep H p q o) : StAt (upd H q u) p n := by
  obtain ⟨a, b, zs, ms, S⟩ := S
  have no := h.no
  rw [own_iff S.hp] at no
  refine ⟨a, b, zs, ms, ?_, ?_, ?_, S.ab, S.ne, S.lz, S.lm⟩
  · rw [upd_ne (fun z => no (.inl z.symm))]; exact S.hp
  · rw [upd_ne (fun z => no (.inr (.inl z.symm)))]; exact S.ha
  · rw [upd_ne (fun z => no (.inr (.inr z.symm)))]; exact S.hb
theorem own_put {H : Hp} {p q r : Addr} {u : HO} (h : r ≠ p) : Own (upd H r u) p q ↔ Own H p q := by
  unfold Own
  rw [upd_ne (fun z => h z.symm)]
theorem Sep.ne {H : Hp} {p q : Addr} {o : HO} (h : Sep H p q o) : q ≠ p := fun z => h.no (.inl z)
theorem Sep.put_same {H : Hp} {p q : Addr} {o u : HO} (h : Sep H p q o) : Sep (upd H q u) p q u := ⟨upd_same, fun z => h.no ((own_put h.ne).mp z)⟩
theorem Sep.put_ne {H : Hp} {p q r : Addr} {o o' u : HO} (h : Sep H p q o) (h' : Sep H p r o') (n : q ≠ r) : Sep (upd H r u) p q o := ⟨by rw [upd_ne n]; exact h.at_, fun z => h.no ((own_put h'.ne).mp z)⟩
/-! ### what the draws promise -/
structure DrawOk (n : Nat) (size : Int) : Prop where
  few : n ≤ 1000000000
  pos : 0 < size
  big : size < 1000000000000
def spDraw : Sp := fun vs H Q _ => ∃ (p : Addr) (n : Nat) (size : Int), vs = [.ref p, .int size] ∧ StAt H p n ∧ DrawOk n size ∧
  ∀ (r : Int) (H' : Hp), 0 ≤ r → r < size → StAt H' p (n + 1) → Nx p H H' → Q (.int r) H'
def spStart (K : PySem.W.Frag) : Sp := fun vs H Q _ => ∃ (a : Addr) (ns : List Int), vs = [.ref a] ∧ SqL K H a (ns.map V.int) ∧ ns.length ≤ 63 ∧ ∀ (p : Addr) (H' : Hp), Same H H' → H p = none → StAt H' p 0 → Q (.ref p) H'
end OS
namespace OS
open PySem PySem.Spec PyProof.Rows L2
/-! ### comprehensions whose parts change nothing that is tracked -/
theorem paired_snoc {α β : Type} {R : α → β → Prop} : ∀ {xs : List α} {ys : List β} {x : α} {y : β}, Paired R xs ys → R x y → Paired R (xs ++ [x]) (ys ++ [y])
  | _, _, _, _, .nil, h => .cons h .nil
  | _, _, _, _, .cons r t, h => .cons r (paired_snoc t h)
theorem take_snoc {α : Type} {xs : List α} {i : Nat} {a : α} (h : xs[i]? = some a) : xs.take (i + 1) = xs.take i ++ [a] := by
  rw [List.take_add_one, h]
  rfl
theorem same_put {H1 H : Hp} {D : Addr} {o : HO} (s : Same H1 H) (hD : H1 D = none) : Same H1 (upd H D o) := fun b x e => by
  rw [upd_ne (ne_of_none e hD)]
  exact s b x e
theorem same_put' {H1 H : Hp} {D : Addr} {o : HO} (s : Same H1 H) (hD : H1 D = none) : Same H1 (upd H D o) := same_put s hD
theorem small1e5 {n : Nat} (h : n ≤ 100000) : n < sizeLine := Nat.lt_of_le_of_lt h (by decide)
/-- over xs, where t holds: a value that stands in R to the item -/
theorem lc_rel {α : Type} {J : It} {n : Nat} {G : Hp → Prop} {Y : Nat → Hp → V → Hp → Prop} (w : Walk J n G Y) {xs : List α} (hn : xs.length = n) (hz : n ≤ 100000) (t : α → Bool) (R : Hp → α → V → Prop) {g : TG} {tt : TT} {te : TE} {vs : List Nat} {σ : L2.St} {H1 : Hp} {D : Addr} {Qd : Hp → Prop}
    (hD : H1 D = none) (hR : ∀ H H' a v acc, Same H1 H → H D = some (.lst acc) → (∀ b o, H b = some o → b ≠ D → H' b = some o) → R H a v → R H' a v) (hG : ∀ H, Same H1 H → G H)
    (hs : ∀ i a x H H' (Qk : V → Hp → Prop) (Qn : Hp → Prop), xs[i]? = some a → Same H1 H → Y i H x H' → (t a = true → ∀ y H4, R H4 a y → Same H H4 → Qk y H4) → (t a = false → ∀ H4, Same H H4 → Qn H4) →
      g x (wipe σ vs) H' fun σ2 H2 => wipe σ2 vs = wipe σ vs ∧ tt σ2 H2 fun b H3 => if b = true then te σ2 H3 Qk else Qn H3)
    (hd : ∀ H acc, Same H1 H → H D = some (.lst acc) → Paired (R H) (xs.filter t) acc → Qd H) :
    ∃ W : Nat → Nat → Hp → Prop, (∃ m, W 0 m (upd H1 D (.lst []))) ∧ ∀ i m H, W i m H →
      (J.stop i H ∧ Qd H) ∨ (J.go i H ∧ ∃ Nx : Hp → Prop, (∀ H', Nx H' → ∃ m', m' < m ∧ W (i + 1) m' H') ∧ ∀ x H', J.yld i H x H' → g x (wipe σ vs) H' fun σ2 H2 => wipe σ2 vs = wipe σ vs ∧ tt σ2 H2 fun b H3 =>
        if b = true then te σ2 H3 fun y H4 => ∃ acc, H4 D = some (.lst acc) ∧ acc.length < sizeLine ∧ Nx (upd H4 D (.lst (acc ++ [y]))) else Nx H3) := by
  refine lc_it w (fun i H => Same H1 H ∧ ∃ acc, H D = some (.lst acc) ∧ acc.length ≤ i ∧ Paired (R H) ((xs.take i).filter t) acc) ⟨same_new hD, [], upd_same, Nat.le_refl _, .nil⟩ (fun i H _ h => hG H h.1) ?_ ?_
  · intro i x H H' hi ⟨sm, acc, hacc, hl, pr⟩ hy
    have hx : xs[i]? = some xs[i] := List.getElem?_eq_getElem (by omega)
    have ht := take_snoc hx
    refine hs i xs[i] x H H' _ _ hx sm hy (fun e y H4 hr s4 => ?_) (fun e H4 s4 => ?_)
    · have h4 := s4 _ _ hacc
      refine ⟨acc, h4, Nat.lt_of_le_of_lt hl (small1e5 (by omega)), same_put (sm.trans s4) hD, acc ++ [y], upd_same, by simp; omega, ?_⟩
      rw [ht, List.filter_append, show [xs[i]].filter t = [xs[i]] by simp [e]]
      have kp : ∀ b o, H4 b = some o → b ≠ D → (upd H4 D (.lst (acc ++ [y]))) b = some o := fun b o q z => by rw [upd_ne z]; exact q
      exact paired_snoc (L2.Paired.mapP pr fun a v q => hR _ _ a v acc (sm.trans s4) h4 kp (hR _ _ a v acc sm hacc (fun b o q _ => s4 b o q) q)) (hR _ _ _ _ acc (sm.trans s4) h4 kp hr)
    · refine ⟨sm.trans s4, acc, s4 _ _ hacc, by omega, ?_⟩
      rw [ht, List.filter_append, show [xs[i]].filter t = [] by simp [e], List.append_nil]
      exact L2.Paired.mapP pr fun a v q => hR _ _ a v acc sm hacc (fun b o q _ => s4 b o q) q
  · intro H ⟨sm, acc, hacc, hl, pr⟩
    rw [List.take_of_length_le (by omega)] at pr
    exact hd H acc sm hacc pr
theorem paired_fn {α β : Type} {F : α → β} : ∀ {xs : List α} {ys : List β}, Paired (fun a v => v = F a) xs ys → ys = xs.map F
  | _, _, .nil => rfl
  | _, _, .cons r t => by rw [r, paired_fn t]; rfl
/-- .. a value that is told by the item -/
theorem lc_fn {α : Type} {J : It} {n : Nat} {G : Hp → Prop} {Y : Nat → Hp → V → Hp → Prop} (w : Walk J n G Y) {xs : List α} (hn : xs.length = n) (hz : n ≤ 100000) (t : α → Bool) (F : α → V) {g : TG} {tt : TT} {te : TE} {vs : List Nat} {σ : L2.St} {H1 : Hp} {D : Addr} {Qd : Hp → Prop}
    (hD : H1 D = none) (hG : ∀ H, Same H1 H → G H)
    (hs : ∀ i a x H H' (Qk : V → Hp → Prop) (Qn : Hp → Prop), xs[i]? = some a → Same H1 H → Y i H x H' → (t a = true → ∀ H4, Same H H4 → Qk (F a) H4) → (t a = false → ∀ H4, Same H H4 → Qn H4) →
      g x (wipe σ vs) H' fun σ2 H2 => wipe σ2 vs = wipe σ vs ∧ tt σ2 H2 fun b H3 => if b = true then te σ2 H3 Qk else Qn H3)
    (hd : ∀ H, Same H1 H → H D = some (.lst ((xs.filter t).map F)) → Qd H) :
    ∃ W : Nat → Nat → Hp → Prop, (∃ m, W 0 m (upd H1 D (.lst []))) ∧ ∀ i m H, W i m H →
      (J.stop i H ∧ Qd H) ∨ (J.go i H ∧ ∃ Nx : Hp → Prop, (∀ H', Nx H' → ∃ m', m' < m ∧ W (i + 1) m' H') ∧ ∀ x H', J.yld i H x H' → g x (wipe σ vs) H' fun σ2 H2 => wipe σ2 vs = wipe σ vs ∧ tt σ2 H2 fun b H3 =>
        if b = true then te σ2 H3 fun y H4 => ∃ acc, H4 D = some (.lst acc) ∧ acc.length < sizeLine ∧ Nx (upd H4 D (.lst (acc ++ [y]))) else Nx H3) := by
  refine lc_rel w hn hz t (fun _ a v => v = F a) hD (fun _ _ _ _ _ _ _ _ e => e) hG (fun i a x H H' Qk Qn h1 h2 h3 h4 h5 => hs i a x H H' Qk Qn h1 h2 h3 (fun e H4 s => h4 e _ H4 rfl s) h5) fun H acc s e p => ?_
  rw [paired_fn p] at e
  exact hd H s e
/-- .. all of xs -/
theorem lc_all {α : Type} {J : It} {n : Nat} {G : Hp → Prop} {Y : Nat → Hp → V → Hp → Prop} (w : Walk J n G Y) {xs : List α} (hn : xs.length = n) (hz : n ≤ 100000) (F : α → V) {g : TG} {te : TE} {vs : List Nat} {σ : L2.St} {H1 : Hp} {D : Addr} {Qd : Hp → Prop}
    (hD : H1 D = none) (hG : ∀ H, Same H1 H → G H)
    (hs : ∀ i a x H H' (Qk : V → Hp → Prop), xs[i]? = some a → Same H1 H → Y i H x H' → (∀ H4, Same H H4 → Qk (F a) H4) → g x (wipe σ vs) H' fun σ2 H2 => wipe σ2 vs = wipe σ vs ∧ te σ2 H2 Qk)
    (hd : ∀ H, Same H1 H → H D = some (.lst (xs.map F)) → Qd H) :
    ∃ W : Nat → Nat → Hp → Prop, (∃ m, W 0 m (upd H1 D (.lst []))) ∧ ∀ i m H, W i m H →
      (J.stop i H ∧ Qd H) ∨ (J.go i H ∧ ∃ Nx : Hp → Prop, (∀ H', Nx H' → ∃ m', m' < m ∧ W (i + 1) m' H') ∧ ∀ x H', J.yld i H x H' → g x (wipe σ vs) H' fun σ2 H2 => wipe σ2 vs = wipe σ vs ∧ tYes σ2 H2 fun b H3 =>
        if b = true then te σ2 H3 fun y H4 => ∃ acc, H4 D = some (.lst acc) ∧ acc.length < sizeLine ∧ Nx (upd H4 D (.lst (acc ++ [y]))) else Nx H3) := by
  refine lc_it w (fun i H => Same H1 H ∧ H D = some (.lst ((xs.take i).map F))) ⟨same_new hD, upd_same⟩ (fun i H _ h => hG H h.1) ?_ ?_
  · intro i x H H' hi ⟨sm, hacc⟩ hy
    have hx : xs[i]? = some xs[i] := List.getElem?_eq_getElem (by omega)
    refine hs i xs[i] x H H' _ hx sm hy (fun H4 s4 => ?_)
    refine ⟨_, s4 _ _ hacc, ?_, same_put (sm.trans s4) hD, ?_⟩
    · rw [List.length_map]
      exact small1e5 (Nat.le_trans (List.length_take_le _ _) (by omega))
    · rw [upd_same, take_snoc hx, List.map_append]
      rfl
  · intro H ⟨sm, hacc⟩
    rw [List.take_of_length_le (by omega)] at hacc
    exact hd H sm hacc
end OS
namespace OS
open PySem PySem.Spec PyProof.Rows L2
/-! ### data in lists: == and != -/
def okS (z : Str) : Prop := PyData.canLay0 (.str z) = true
theorem dp_all {α : Type} {K : PySem.W.Frag} {H : Hp} {f : α → V} {g : α → PyData} (h : ∀ a, Dp K H (f a) (g a)) : ∀ xs : List α, DpAll K H (xs.map f) (xs.map g)
  | [] => .nil
  | a :: r => .cons (h a) (dp_all h r)
theorem dp_strs {K : PySem.W.Frag} {H : Hp} {a : Addr} {xs : List Str} (h : SqL K H a (xs.map V.str)) : Dp K H (.ref a) (.list (xs.map .str)) := .lst h (dp_all (fun x => .str x) xs)
theorem dp_ints {K : PySem.W.Frag} {H : Hp} {a : Addr} {xs : List Int} (h : SqL K H a (xs.map V.int)) : Dp K H (.ref a) (.list (xs.map .int)) := .lst h (dp_all (fun x => .int x) xs)
theorem lay_all {α : Type} {g : α → PyData} : ∀ {xs : List α}, (∀ a ∈ xs, (g a).canLay0 = true) → PyData.canLayAll0 (xs.map g) = true
  | [], _ => rfl
  | a :: r, h => by
    show ((g a).canLay0 && PyData.canLayAll0 (r.map g)) = true
    rw [h a (.head _), lay_all fun b hb => h b (.tail _ hb)]
    rfl
theorem depth_all {α : Type} {g : α → PyData} {n : Nat} : ∀ {xs : List α}, (∀ a ∈ xs, (g a).depth ≤ n) → PyData.depthAll (xs.map g) ≤ n
  | [], _ => Nat.zero_le _
  | a :: r, h => by
    show max (g a).depth (PyData.depthAll (r.map g)) ≤ n
    exact Nat.max_le.mpr ⟨h a (.head _), depth_all fun b hb => h b (.tail _ hb)⟩
theorem shaped_of {d : PyData} {n : Nat} (h : d.canLay0 = true) (hd : d.depth ≤ n) (hn : n ≤ 64) : SeqAt.shaped d = true := by
  show (d.canLay0 && decide (d.depth ≤ 64)) = true
  rw [h, decide_eq_true (Nat.le_trans hd hn)]
  rfl
theorem shaped_strs {xs : List Str} (h : ∀ x ∈ xs, okS x) : SeqAt.shaped (.list (xs.map .str)) = true :=
  shaped_of (n := 1) (lay_all (g := .str) h) (Nat.succ_le_succ (depth_all (n := 0) fun _ _ => Nat.le_refl 0)) (by decide)
theorem shaped_ints {xs : List Int} : SeqAt.shaped (.list (xs.map .int)) = true :=
  shaped_of (n := 1) (lay_all (g := .int) fun _ _ => rfl) (Nat.succ_le_succ (depth_all (n := 0) fun _ _ => Nat.le_refl 0)) (by decide)
theorem shaped_nil : SeqAt.shaped (.list []) = true := rfl
theorem dp_nil {K : PySem.W.Frag} {H : Hp} {a : Addr} (h : SqL K H a []) : Dp K H (.ref a) (.list []) := .lst h .nil
theorem eqv_nil (ds : List PyData) : PyData.eqv (.list ds) (.list []) = ds.isEmpty := by
  cases ds <;> rfl
/-- a list of ints against [] -/
theorem ints_ne_nil {K : PySem.W.Frag} {H : Hp} {a p : Addr} {xs : List Int} {Q : VK} (h : SqL K H a (xs.map V.int)) (h0 : SqL K H p []) (q : Q (.bl (!xs.isEmpty)) H) : rNeD K (.ref a) (.ref p) H Q := by
  refine ⟨_, _, dp_ints h, dp_nil h0, shaped_ints, shaped_nil, ?_⟩
  rw [eqv_nil]
  cases xs <;> exact q
theorem strs_ne_nil {K : PySem.W.Frag} {H : Hp} {a p : Addr} {xs : List Str} {Q : VK} (h : SqL K H a (xs.map V.str)) (ho : ∀ x ∈ xs, okS x) (h0 : SqL K H p []) (q : Q (.bl (!xs.isEmpty)) H) : rNeD K (.ref a) (.ref p) H Q := by
  refine ⟨_, _, dp_strs h, dp_nil h0, shaped_strs ho, shaped_nil, ?_⟩
  rw [eqv_nil]
  cases xs <;> exact q
theorem strs_eq_nil {K : PySem.W.Frag} {H : Hp} {a p : Addr} {xs : List Str} {Q : VK} (h : SqL K H a (xs.map V.str)) (ho : ∀ x ∈ xs, okS x) (h0 : SqL K H p []) (q : Q (.bl xs.isEmpty) H) : rEqD K (.ref a) (.ref p) H Q := by
  refine ⟨_, _, dp_strs h, dp_nil h0, shaped_strs ho, shaped_nil, ?_⟩
  rw [eqv_nil]
  cases xs <;> exact q
end OS
namespace OS
open PySem PySem.Spec PyProof.Rows L2
/-! ### the state's own turns -/
theorem filter_empty {α : Type} {t : α → Bool} : ∀ l : List α, (l.filter fun c => !t c).isEmpty = l.all t
  | [] => rfl
  | a :: r => by
    have ih := filter_empty (t := t) r
    cases e : t a
    · simp [e]
    · rw [List.filter_cons_of_neg (by simp [e]), List.all_cons, e, Bool.true_and]
      exact ih
theorem cutV1 (xs : List V) : cutV xs (some 1) none = xs.drop 1 := by
  unfold cutV
  rw [show HT.sIx xs.length 0 (some 1) = min 1 xs.length from HT.sIx_nat xs.length 0 1, HT.sIx_none]
  cases xs with
  | nil => rfl
  | cons x r =>
    rw [show min 1 (x :: r).length = 1 by
      rw [List.length_cons]
      omega]
    show (List.take ((x :: r).length - 1) r) = r
    rw [List.length_cons, Nat.add_sub_cancel]
    exact List.take_length
section
variable {H H' : Hp} {p a b r : Addr} {zs zs' ms : List Int} {n : Nat}
theorem StA.same (S : StA H p a b zs ms n) (s : Same H H') : StA H' p a b zs ms n := ⟨s _ _ S.hp, s _ _ S.ha, s _ _ S.hb, S.ab, S.ne, S.lz, S.lm⟩
theorem StA.nx (S : StA H p a b zs ms n) (s : Same H H') : Nx p H H' := S.mk'.nx s
/-- all but p and a stays -/
theorem StA.nx_put (S : StA H p a b zs ms n) {x : Addr} {k : Int} (s : ∀ q o, H q = some o → q ≠ p → q ≠ a → H' q = some o) (hp : H' p = some (.lst [.ref x, .ref b, .int k])) (hx : x = a ∨ H x = none) : Nx p H H' := by
  intro q o h
  have no := h.no
  rw [own_iff S.hp] at no
  refine ⟨s _ _ h.at_ (fun z => no (.inl z)) (fun z => no (.inr (.inl z))), ?_⟩
  rw [own_iff hp]
  rintro (z | z | z)
  · exact no (.inl z)
  · rcases hx with e | e
    · exact no (.inr (.inl (z.trans e)))
    · exact ne_of_none h.at_ e z
  · exact no (.inr (.inr z))
theorem StA.bump (S : StA H p a b zs ms n) : StA (upd H p (.lst [.ref a, .ref b, .int ((n : Int) + 1)])) p a b zs ms (n + 1) := by
  refine ⟨upd_same, ?_, ?_, S.ab, S.ne, S.lz, S.lm⟩
  · rw [upd_ne S.pa.symm]; exact S.ha
  · rw [upd_ne S.pb.symm]; exact S.hb
theorem StA.bump_nx (S : StA H p a b zs ms n) {k : Int} : Nx p H (upd H p (.lst [.ref a, .ref b, .int k])) :=
  S.nx_put (fun q o e z _ => by rw [upd_ne z]; exact e) upd_same (.inl rfl)
theorem StA.swap (S : StA H p a b zs ms n) (hr : H r = none) (hz : zs'.length ≤ 100) : StA (upd (upd H r (.lst (zs'.map V.int))) p (.lst [.ref r, .ref b, .int (n : Int)])) p r b zs' ms n := by
  have rp : r ≠ p := (ne_of_none S.hp hr).symm
  have rb : r ≠ b := (ne_of_none S.hb hr).symm
  refine ⟨upd_same, ?_, ?_, rb, S.ne, hz, S.lm⟩
  · rw [upd_ne rp, upd_same]
  · rw [upd_ne S.pb.symm, upd_ne rb.symm]; exact S.hb
theorem StA.swap_nx (S : StA H p a b zs ms n) (hr : H r = none) : Nx p H (upd (upd H r (.lst (zs'.map V.int))) p (.lst [.ref r, .ref b, .int (n : Int)])) :=
  S.nx_put (fun q o e z _ => by rw [upd_ne z, upd_ne (ne_of_none e hr)]; exact e) upd_same (.inr hr)
theorem StA.seta (S : StA H p a b zs ms n) (hz : zs'.length ≤ 100) : StA (upd H a (.lst (zs'.map V.int))) p a b zs' ms n := by
  refine ⟨?_, upd_same, ?_, S.ab, S.ne, hz, S.lm⟩
  · rw [upd_ne S.pa]; exact S.hp
  · rw [upd_ne S.ab.symm]; exact S.hb
theorem StA.seta_nx (S : StA H p a b zs ms n) : Nx p H (upd H a (.lst (zs'.map V.int))) :=
  S.nx_put (fun q o e _ z => by rw [upd_ne z]; exact e) (by rw [upd_ne S.pa]; exact S.hp) (.inl rfl)
end
theorem pow5 (x : Int) : 0 ≤ (x ^ 5) % 2147483647 ∧ (x ^ 5) % 2147483647 < 2147483647 := ⟨Int.emod_nonneg _ (by decide), Int.emod_lt_of_pos _ (by decide)⟩
end OS
namespace OS
open PySem PySem.Spec PyProof.Rows L2
theorem at0 {α : Type} {x : α} {l : List α} : atI (x :: l) 0 = some x := atI_nat (j := 0) rfl
theorem ix0 {α : Type} {x : α} {l : List α} : ixN (x :: l).length 0 = some 0 := by
  unfold ixN
  rw [if_pos (by decide), if_pos (by rw [List.length_cons]; omega)]
  rfl
end OS
namespace OS
open PySem PySem.Spec PyProof.Rows L2
/-- a statement, then the rest: Z holds between them, whatever way led there -/
theorem seq_cut {t U : TS} {D : Ends} {σ : L2.St} {H : Hp} (Z : L2.St → Hp → Prop) (h : ∀ Qz : L2.St → Hp → Prop, (∀ σ' H', Z σ' H' → Qz σ' H') → t { D with nx := Qz } σ H) (hz : ∀ σ' H', Z σ' H' → U D σ' H') : tSeq t U D σ H := h (U D) hz
end OS
namespace OS
open PySem PySem.Spec PyProof.Rows L2
/-! ### joined texts -/
theorem glue_fold : ∀ (r : List Str) (acc : Array Nat), (r.foldl (fun acc p => acc ++ Str.empty.cps ++ p.cps) acc).toList = acc.toList ++ (r.map fun p => p.cps.toList).flatten
  | [], acc => by simp
  | p :: r, acc => by
    rw [List.foldl_cons, glue_fold r]
    simp [Str.empty]
theorem join0 (ys : List Str) : (Txt.join Str.empty ys).cps.toList = (ys.map fun p => p.cps.toList).flatten := by
  unfold Txt.join Builtin.Str.glued
  cases ys with
  | nil => simp [Str.empty]
  | cons y r =>
    show (r.foldl _ y.cps).toList = _
    rw [glue_fold r]
    rfl
/-- signs one by one -/
theorem join_signs (cs : List Nat) : (Txt.join Str.empty (cs.map fun c => ⟨#[c]⟩)).cps.toList = cs := by
  rw [join0, List.map_map]
  induction cs with
  | nil => rfl
  | cons c r ih => simpa using ih
theorem signs_len (cs : List Nat) : ((cs.map fun c => (⟨#[c]⟩ : Str)).map (·.length)).sum = cs.length := by
  induction cs with
  | nil => rfl
  | cons c r ih =>
    rw [List.map_cons, List.map_cons, List.sum_cons, ih, List.length_cons]
    show 1 + r.length = _
    omega
theorem str_list_len (z : Str) : z.cps.toList.length = z.length := by simp [Str.length]
theorem app_signs (a b : Str) : (a ++ b).cps.toList = a.cps.toList ++ b.cps.toList := cps_toList_append a b
theorem app_len (a b : Str) : (a ++ b).length = a.length + b.length := by
  rw [← str_list_len, app_signs, List.length_append, str_list_len, str_list_len]
end OS
namespace OS
open PySem PySem.Spec PyProof.Rows L2
/-! ### comprehensions whose parts draw -/
theorem lc_dr {J : It} {n : Nat} {G : Hp → Prop} {Y : Nat → Hp → V → Hp → Prop} (w : Walk J n G Y) (hz : n ≤ 100000) (p : Addr) (m0 c : Nat) (R : Hp → V → Prop) {g : TG} {te : TE} {vs : List Nat} {σ : L2.St} {H1 : Hp} {D : Addr} {Qd : Hp → Prop}
    (S : StAt H1 p m0) (hD : H1 D = none) (hR : ∀ H H' y acc, Sep H p D (.lst acc) → (∀ q o, Sep H p q o → q ≠ D → Sep H' p q o) → R H y → R H' y) (hG : ∀ H, Nx p H1 H → G H)
    (hs : ∀ i m x H H' (Qk : V → Hp → Prop), i < n → StAt H p m → m ≤ m0 + c * i → Nx p H1 H → (∃ acc, Sep H p D (.lst acc)) → Y i H x H' → (∀ y H4 m', R H4 y → StAt H4 p m' → m' ≤ m + c → Nx p H H4 → Qk y H4) → g x (wipe σ vs) H' fun σ2 H2 => wipe σ2 vs = wipe σ vs ∧ te σ2 H2 Qk)
    (hd : ∀ H m acc, StAt H p m → m ≤ m0 + c * n → Nx p H1 H → Sep H p D (.lst acc) → acc.length = n → (∀ y ∈ acc, R H y) → Qd H) :
    ∃ W : Nat → Nat → Hp → Prop, (∃ m, W 0 m (upd H1 D (.lst []))) ∧ ∀ i m H, W i m H →
      (J.stop i H ∧ Qd H) ∨ (J.go i H ∧ ∃ Nx : Hp → Prop, (∀ H', Nx H' → ∃ m', m' < m ∧ W (i + 1) m' H') ∧ ∀ x H', J.yld i H x H' → g x (wipe σ vs) H' fun σ2 H2 => wipe σ2 vs = wipe σ vs ∧ tYes σ2 H2 fun b H3 =>
        if b = true then te σ2 H3 fun y H4 => ∃ acc, H4 D = some (.lst acc) ∧ acc.length < sizeLine ∧ Nx (upd H4 D (.lst (acc ++ [y]))) else Nx H3) := by
  refine lc_it w (fun i H => ∃ m acc, StAt H p m ∧ m ≤ m0 + c * i ∧ Nx p H1 H ∧ Sep H p D (.lst acc) ∧ acc.length = i ∧ ∀ y ∈ acc, R H y) ⟨m0, [], S.same (same_new hD), Nat.le_add_right _ _, S.nx (same_new hD), S.new hD, rfl, fun y h => nomatch h⟩ (fun i H _ ⟨_, _, _, _, x, _⟩ => hG H x) ?_ ?_
  · intro i x H H' hi ⟨m, acc, S', hm, nx, sD, hl, hr⟩ hy
    refine hs i m x H H' _ hi S' hm nx ⟨_, sD⟩ hy fun y H4 m' ry S4 hm' nx4 => ?_
    have sD4 := nx4 _ _ sD
    refine ⟨acc, sD4.at_, by rw [hl]; exact small1e5 (by omega), m', acc ++ [y], S4.put sD4, by rw [Nat.mul_succ]; omega, ?_, sD4.put_same, by simp [hl], ?_⟩
    · intro q o hq
      have hq4 := nx4 _ _ (nx q o hq)
      have : q ≠ D := ne_of_none hq.at_ hD
      exact hq4.put_ne sD4 this
    · have kp : ∀ q o, Sep H4 p q o → q ≠ D → Sep (upd H4 D (.lst (acc ++ [y]))) p q o := fun q o h n => h.put_ne sD4 n
      intro z hz'
      rcases List.mem_append.mp hz' with h | h
      · exact hR _ _ z acc sD4 kp (hR _ _ z acc sD (fun q o h _ => nx4 q o h) (hr z h))
      · rw [List.mem_singleton.mp h]
        exact hR _ _ y acc sD4 kp ry
  · intro H ⟨m, acc, S', hm, nx, sD, hl, hr⟩
    exact hd H m acc S' hm nx sD hl hr
end OS
namespace OS
open PySem PySem.Spec PyProof.Rows L2
/-- a place to stop: a statement whose ways meet behind it -/
structure Stop (t u : TS) (D : Ends) (σ : L2.St) (H : Hp) : Prop where
  go : tSeq t u D σ H
theorem pss_stop {X : Cx} {st : Stmt} {rest : List Stmt} {t u : TS} (h1 : PS X st t) (h2 : PSs X rest u) : PSs X (st :: rest) (Stop t u) := ⟨fun pins s σ H D I h => (pss_cons h1 h2).run pins s σ H D I h.go⟩
theorem Stop.cut {t U : TS} {D : Ends} {σ : L2.St} {H : Hp} (Z : L2.St → Hp → Prop) (h : ∀ Qz : L2.St → Hp → Prop, (∀ σ' H', Z σ' H' → Qz σ' H') → t { D with nx := Qz } σ H) (hz : ∀ σ' H', Z σ' H' → U D σ' H') : Stop t U D σ H := ⟨seq_cut Z h hz⟩
end OS
namespace OS
open PySem PySem.Spec PyProof.Rows L2
theorem at_pick {α : Type} {l : List α} {i : Int} (h0 : 0 ≤ i) (h1 : i < l.length) : ∃ v, atI l i = some v ∧ v ∈ l := by
  obtain ⟨n, rfl⟩ := Int.eq_ofNat_of_zero_le h0
  have hn : n < l.length := by omega
  exact ⟨l[n], atI_nat (List.getElem?_eq_getElem hn), List.getElem_mem hn⟩
/-- a sign of a text -/
theorem sign_pick {z : Str} {i : Int} (h0 : 0 ≤ i) (h1 : i < z.length) : ∃ c, atI z.cps.toList i = some c ∧ c ∈ z.cps.toList := at_pick h0 (by rw [str_list_len]; exact h1)
end OS
namespace OS
open PySem PySem.Spec PyProof.Rows L2
theorem vals_rep : ∀ n : Nat, Vals (List.replicate n V.non) (List.replicate n Value.none)
  | 0 => .nil
  | n + 1 => .cons rfl (vals_rep n)
theorem Vals.len1 {vs : List V} {us : List Value} (h : Vals vs us) : vs.length = us.length := L2.Vals.length h
end OS
namespace OS
open PySem PySem.Spec PyProof.Rows L2
/-- a new object, the heap told by what stands -/
theorem newO {H : Hp} {o : HO} {Q : VK} (h : ∀ (p : Addr) (H' : Hp), H p = none → Same H H' → H' p = some o → Q (.ref p) H') : ∀ p, H p = none → Q (.ref p) (upd H p o) := fun p hp => h p _ hp (same_new hp) upd_same
theorem newS {H : Hp} {o : HO} {Q : VK} {p : Addr} {n : Nat} (S : StAt H p n) (h : ∀ (q : Addr) (H' : Hp), H q = none → StAt H' p n → Nx p H H' → Sep H' p q o → Q (.ref q) H') : ∀ q, H q = none → Q (.ref q) (upd H q o) := fun q hq => h q _ hq (S.same (same_new hq)) (S.nx (same_new hq)) (S.new hq)
theorem Sep.of_new {H H' : Hp} {p q : Addr} {n : Nat} {o : HO} (S : StAt H p n) (s : Same H H') (hq : H q = none) (h : H' q = some o) : Sep H' p q o := by
  obtain ⟨a, b, zs, ms, S⟩ := S
  refine ⟨h, fun z => ?_⟩
  rw [own_iff (s _ _ S.hp)] at z
  rcases z with z | z | z
  · exact ne_of_none S.hp hq z.symm
  · exact ne_of_none S.ha hq z.symm
  · exact ne_of_none S.hb hq z.symm
end OS
namespace OS
open PySem PySem.Spec PyProof.Rows L2
/-! ### rules whose new object comes with what stands, not with the heap's term -/
theorem peImp {X : Cx} {e : Expr} {t t' : TE} (h : PE X e t) (k : ∀ σ H Q, t' σ H Q → t σ H Q) : PE X e t' := ⟨fun pins s σ H Q I q => h.run pins s σ H Q I (k σ H Q q)⟩
def tMonoA (t : TA) : TA := fun σ H Q => ∃ Q0 : List V → Hp → Prop, t σ H Q0 ∧ ∀ xs H1, Q0 xs H1 → Q xs H1
theorem pa_mono {X : Cx} {es : List Expr} {t : TA} (h : PA X es t) : PA X es (tMonoA t) := ⟨fun pos pins s σ H Q I ⟨Q0, q0, k⟩ => thn (h.run pos pins s σ H Q0 I q0) fun us s1 ⟨xs, H1, I1, r, q⟩ => ⟨xs, H1, I1, r, k xs H1 q⟩⟩
/-- what follows a new object o -/
def NewO (H : Hp) (o : HO) (Q : VK) : Prop := ∀ (p : Addr) (H' : Hp), H p = none → Same H H' → H' p = some o → Q (.ref p) H'
theorem NewO.to {H : Hp} {o : HO} {Q : VK} (h : NewO H o Q) : ∀ p, H p = none → Q (.ref p) (upd H p o) := fun p hp => h p _ hp (same_new hp) upd_same
def tLstO (t : TA) : TE := fun σ H Q => t σ H fun xs H1 => xs.length ≤ sizeLine ∧ NewO H1 (.lst xs) Q
def tTupO (t : TA) : TE := fun σ H Q => t σ H fun xs H1 => xs.length ≤ sizeLine ∧ NewO H1 (.tup xs) Q
section
variable {X : Cx} {es : List Expr} {t : TA} {pos : Pos}
theorem pe_lstO (h : PA X es t) : PE X (.List es pos) (tLstO t) := peImp (pe_lst (pa_mono h)) fun _ _ _ q => ⟨_, q, fun _ _ z => ⟨z.1, z.2.to⟩⟩
theorem pe_tupO {x1} (h : PA X es t) : PE X (.Tuple es x1 pos) (tTupO t) := peImp (pe_tup (pa_mono h)) fun _ _ _ q => ⟨_, q, fun _ _ z => ⟨z.1, z.2.to⟩⟩
theorem opImp {f : Value → Value → Sem Value} {r r' : R2} (h : OpR X f r) (k : ∀ x y H Q, r' x y H Q → r x y H Q) : OpR X f r' := fun pins s σ H x y v u Q I rx ry q => h pins s σ H x y v u Q I rx ry (k x y H Q q)
/-- xs + ys, lists -/
def rCatO : R2 := fun x y H Q => ∃ l b xs zs, x = .ref l ∧ y = .ref b ∧ H l = some (.lst xs) ∧ H b = some (.lst zs) ∧ xs.length + zs.length ≤ sizeLine ∧ NewO H (.lst (xs ++ zs)) Q
theorem op_catO : OpR X (binaryOp .Add) rCatO := opImp op_cat fun _ _ _ _ ⟨l, b, xs, zs, h1, h2, h3, h4, h5, q⟩ => ⟨l, b, xs, zs, h1, h2, h3, h4, h5, q.to⟩
end
end OS
namespace OS
open PySem PySem.Spec PyProof.Rows L2
section
variable {X : Cx}
theorem callImp {f : Value} {r r' : List V → Hp → VK → Prop} (h : CallR X f r) (k : ∀ xs H Q, r' xs H Q → r xs H Q) : CallR X f r' := fun pins s σ H xs us Q I rs q => h pins s σ H xs us Q I rs (k xs H Q q)
theorem call_list_ofO : CallR X (.type "list") (fun xs H Q => ∃ p ys, xs = [.ref p] ∧ (SqL X.K H p ys ∨ SqT X.K H p ys) ∧ NewO H (.lst ys) Q) := callImp call_list_of fun _ _ _ ⟨p, ys, h1, h2, q⟩ => ⟨p, ys, h1, h2, q.to⟩
/-- tuple(list) -/
theorem call_tuple_ofL : CallR X (.type "tuple") (fun xs H Q => ∃ p ys, xs = [.ref p] ∧ SqL X.K H p ys ∧ NewO H (.tup ys) Q) := callImp call_tuple_of fun _ _ _ ⟨p, ys, h1, h2, q⟩ => ⟨p, ys, h1, .inl ⟨h2, q.to⟩⟩
theorem slImp {r r' : V → Option Int → Option Int → Hp → VK → Prop} (h : SlR X r) (k : ∀ x lo hi H Q, r' x lo hi H Q → r x lo hi H Q) : SlR X r' := fun pins s σ H x v vl vu lo hi sl Q I rx hs pl pu q => h pins s σ H x v vl vu lo hi sl Q I rx hs pl pu (k x lo hi H Q q)
def rSlLO (K : PySem.W.Frag) : V → Option Int → Option Int → Hp → VK → Prop := fun x lo hi H Q => ∃ a xs, x = .ref a ∧ SqL K H a xs ∧ NewO H (.lst (cutV xs lo hi)) Q
theorem sl_listO : SlR X (rSlLO X.K) := slImp sl_list fun _ _ _ _ _ ⟨a, xs, h1, h2, q⟩ => ⟨a, xs, h1, h2, q.to⟩
end
/-- what the state keeps where a new list takes the place of its digits -/
theorem StA.swapO {H H' : Hp} {p a b r : Addr} {zs zs' ms : List Int} {n : Nat} (S : StA H p a b zs ms n) (hr : H r = none) (s : Same H H') (e : H' r = some (.lst (zs'.map V.int))) (hz : zs'.length ≤ 100) :
    StA (upd H' p (.lst [.ref r, .ref b, .int (n : Int)])) p r b zs' ms n ∧ Nx p H (upd H' p (.lst [.ref r, .ref b, .int (n : Int)])) := by
  have rp : r ≠ p := (ne_of_none S.hp hr).symm
  have rb : r ≠ b := (ne_of_none S.hb hr).symm
  refine ⟨⟨upd_same, by rw [upd_ne rp]; exact e, by rw [upd_ne S.pb.symm]; exact s _ _ S.hb, rb, S.ne, hz, S.lm⟩, S.nx_put (fun q o e z _ => by rw [upd_ne z]; exact s _ _ e) upd_same (.inr hr)⟩
end OS
namespace OS
open PySem PySem.Spec PyProof.Rows L2
theorem dp_bools {K : PySem.W.Frag} {H : Hp} {a : Addr} {xs : List Bool} (h : SqL K H a (xs.map V.bl)) : Dp K H (.ref a) (.list (xs.map .bool)) := .lst h (dp_all (fun x => .bl x) xs)
theorem shaped_bools {xs : List Bool} : SeqAt.shaped (.list (xs.map .bool)) = true :=
  shaped_of (n := 1) (lay_all (g := .bool) fun _ _ => rfl) (Nat.succ_le_succ (depth_all (n := 0) fun _ _ => Nat.le_refl 0)) (by decide)
theorem eqv_bools : ∀ xs : List Bool, PyData.eqvAll (xs.map .bool) (xs.map .bool) = true
  | [] => rfl
  | x :: r => by
    show (PyData.eqv (.bool x) (.bool x) && PyData.eqvAll (r.map .bool) (r.map .bool)) = true
    rw [eqv_bools r, show PyData.eqv (.bool x) (.bool x) = (x == x) from rfl]
    simp
/-- two lists of the same bools -/
theorem bools_ne {K : PySem.W.Frag} {H : Hp} {a b : Addr} {xs : List Bool} {Q : VK} (h : SqL K H a (xs.map V.bl)) (h' : SqL K H b (xs.map V.bl)) (q : Q (.bl false) H) : rNeD K (.ref a) (.ref b) H Q := by
  refine ⟨_, _, dp_bools h, dp_bools h', shaped_bools, shaped_bools, ?_⟩
  rw [show PyData.eqv (.list (xs.map .bool)) (.list (xs.map .bool)) = true from eqv_bools xs]
  exact q
theorem bools_eq {K : PySem.W.Frag} {H : Hp} {a b : Addr} {xs : List Bool} {Q : VK} (h : SqL K H a (xs.map V.bl)) (h' : SqL K H b (xs.map V.bl)) (q : Q (.bl true) H) : rEqD K (.ref a) (.ref b) H Q := by
  refine ⟨_, _, dp_bools h, dp_bools h', shaped_bools, shaped_bools, ?_⟩
  rw [show PyData.eqv (.list (xs.map .bool)) (.list (xs.map .bool)) = true from eqv_bools xs]
  exact q
end OS
namespace OS
open PySem PySem.Spec PyProof.Rows L2
/-- a place to stop: ahead of a loop's turns -/
structure Hold (p : Prop) : Prop where
  go : p
theorem hold_eq (R : It → Hp → Prop) : (fun J H1 => Hold (R J H1)) = R := funext fun J => funext fun H1 => propext ⟨Hold.go, Hold.mk⟩
def iHold (wi : TI) : TI := fun σ H R => wi σ H fun J H1 => Hold (R J H1)
theorem pi_hold {X : Cx} {tg l : Expr} {wi : TI} (h : PI X tg l wi) : PI X tg l (iHold wi) := ⟨fun pins s σ H R I q => by
  have z := h.run pins s σ H (fun J H1 => Hold (R J H1)) I q
  rw [hold_eq] at z
  exact z⟩
end OS

set_option Elab.async false
set_option linter.all false
set_option maxRecDepth 100000
set_option maxHeartbeats 4000000
/-! own errors as values: made by place and by name, their fields read, asked by isinstance -/
namespace PySem
namespace OSX
open Builtin Builtin.ObjectAttr PySem.HandSPX
section
variable {M : Model} {prog : Program} {w : World} {A : Around} {E : Value → Shared → Prop} {R : Result → Shared → Prop} {h : Heap} {g : Array GenState} {d : Drawn} {t : Nat} {os : OsState}
variable {nm q : Str} {C N : Addr} {bs bm bmB : List Value} {hdct : Bool} {sn : List Str} {sub : List Value} {ab : Bool} {col : Option Bool} {dd : Option Addr} {k0 k1 k2 k3 k5 : Option Value} {B newId initId : String} {rest : List Value} {kws : List (Str × Value)}
theorem chk_kw (F : ExcBaseFacts B newId initId bmB) (hT : ∀ X : String, bm.contains (.type X) = bmB.contains (.type X)) {Q : Unit → Shared → Prop}
    (hC : h.get? C = some (excClassObj nm q C N bs bm hdct sn sub ab col dd k0 k1 k2 k3 k5 newId)) (hq : Q () ⟨h, g, d, t, os⟩) : wpAny M A (checkBuiltinCall newId ⟨.ref C :: rest, kws⟩) Q E ⟨h, g, d, t, os⟩ := by
  have hB : (Value.ref C :: bm).contains (.type B) = true := by rw [List.contains_cons, hT, F.hasB, Bool.or_true]
  have hs := F.noStar
  simp only [checkBuiltinCall, F.newKind, F.newSplit, F.newRow]
  repeat (first | refine wpAny_loadPart_at hC ?_ | (refine wpAny_isSubtype_exc hC ?_; rw [hB]) | refine wpAny_staticBase_exc hC ?_ | refine wpAny_madeBy_exc hC ?_ | simp only [bne_self_eq_false, Bool.false_eq_true, if_false] | wp_step)
  exact hq
theorem new_kw (F : ExcBaseFacts B newId initId bmB) (hT : ∀ X : String, bm.contains (.type X) = bmB.contains (.type X))
    (hC : h.get? C = some (excClassObj nm q C N bs bm hdct sn sub ab col dd k0 k1 k2 k3 k5 newId)) (hrest : rest.length ≤ sizeLine)
    (hq : R (.ok (.ret (.ref (h.objs.size + 1)))) ⟨(h.push (W.kdv_tup rest)).push (excO C h.objs.size), g, d, t, os⟩) :
    codeAny (model prog w) A (.builtin newId ⟨.ref C :: rest, kws⟩) R ⟨h, g, d, t, os⟩ := by
  have he := F.ends
  have hB : (Value.ref C :: bm).contains (.type B) = true := by rw [List.contains_cons, hT, F.hasB, Bool.or_true]
  have hA : (Value.ref C :: bm).contains (.type "AttributeError") = false := by rw [List.contains_cons, hT, F.noAttr]; rfl
  have hN : (Value.ref C :: bm).contains (.type "NameError") = false := by rw [List.contains_cons, hT, F.noName]; rfl
  refine codeAny_builtinAt F.entry ?_
  unfold Builtin.«BaseException.__new__»
  refine wpAt_bind ?_
  show wpAt _ _ _ (stack >>= _) _ _ _
  refine wpAt_bind (wpAt_stack fun p below => wpAt_of_wpAny ?_)
  wp_walk
  refine wpAt_of_wpAny ?_
  rw [F.owner]
  repeat (first | with_reducible refine wpAny_madeHere_exc F.canon hC ?_ | with_reducible refine wpAny_loadPart_at hC ?_ | (with_reducible refine wpAny_isSubtype_exc hC ?_; first | rw [hB] | rw [hA] | rw [hN]) | wp_step)
  show R _ _
  rw [Heap.size_push]
  exact hq
theorem tcall_kw (F : ExcBaseFacts B newId initId bmB) (hT : ∀ X : String, bm.contains (.type X) = bmB.contains (.type X)) {fI : Addr} {Q : Fin → Shared → Prop}
    (hC : h.get? C = some (excClassObj nm q C N bs bm hdct sn sub ab col dd k0 k1 k2 k3 k5 newId))
    (hi : W.Looks (model prog w) h (typeLookup (.ref C) "__init__") (some (.ref fI))) (hb : ∀ self, W.Looks (model prog w) h (bindSpecial (.ref fI) self) (.ref fI, [self])) (hrest : rest.length ≤ sizeLine)
    (hq : codeAny (model prog w) A (.call (.ref fI) ⟨.ref (h.objs.size + 1) :: rest, kws⟩)
      (fun r s' => match r with | .ok (.ret v) => v = .none ∧ Q (.done (.ret (.ref (h.objs.size + 1)))) s' | .ok _ => False | .error e => E e s')
      ⟨(h.push (W.kdv_tup rest)).push (excO C h.objs.size), g, d, t, os⟩) :
    wpAny (model prog w) A (Builtin.«type.__call__» ⟨.ref C :: rest, kws⟩) Q E ⟨h, g, d, t, os⟩ := by
  repeat (first | with_reducible refine wpAny_loadPart_at hC ?_ | with_reducible refine wpAny_madeBy_exc hC ?_ | wp_step)
  refine codeAny_call_builtin_code (Code.quiet_builtin _ F.quiet) (chk_kw F hT hC ?_)
  refine new_kw F hT hC hrest ?_
  show wpAny _ _ _ _ _ _
  have k : ∀ b o, h.get? b = some o → ((h.push (W.kdv_tup rest)).push (excO C h.objs.size)).get? b = some o := fun b o e => Heap.get?_push_of_some _ (Heap.get?_push_of_some _ e)
  have hC1 := k _ _ hC
  have hget : ((h.push (W.kdv_tup rest)).push (excO C h.objs.size)).get? (h.objs.size + 1) = some (excO C h.objs.size) := by heap_get
  have hcC : (Value.ref C :: bm).contains (.ref C) = true := by simp
  have i1 := hi.keeps k
  have b1 := (hb (.ref (h.objs.size + 1))).keeps k
  unfold isInstance
  repeat (first | with_reducible refine wpAny_loadPart_at hget ?_ | (with_reducible refine wpAny_isSubtype_exc hC1 ?_; rw [hcC]) | wp_step)
  show wpAny _ _ (typeLookup (.ref C) _) _ _ _
  refine i1.at ?_
  refine wpAny_holding (wpAny_bind (b1.at ?_))
  refine wpAny_bind (wpAny_call (codeAny_mono hq fun r s' z => ?_))
  rcases r with e | (v | _ | _ | _) <;> first | exact z | exact z.elim | skip
  obtain ⟨rfl, z⟩ := z
  first
    | exact wpAny_pure (wpAny_pure z)
    | (wp_walk; exact z)
theorem call_kw (F : ExcBaseFacts B newId initId bmB) (hT : ∀ X : String, bm.contains (.type X) = bmB.contains (.type X)) {fI : Addr}
    (hC : h.get? C = some (excClassObj nm q C N bs bm hdct sn sub ab col dd k0 k1 k2 k3 k5 newId))
    (hi : W.Looks (model prog w) h (typeLookup (.ref C) "__init__") (some (.ref fI))) (hb : ∀ self, W.Looks (model prog w) h (bindSpecial (.ref fI) self) (.ref fI, [self])) (hrest : rest.length ≤ sizeLine)
    (hq : codeAny (model prog w) (A.under (.builtin "type.__call__" ⟨.ref C :: rest, kws⟩)) (.call (.ref fI) ⟨.ref (h.objs.size + 1) :: rest, kws⟩) (W.InitBack (h.objs.size + 1) R)
      ⟨(h.push (W.kdv_tup rest)).push (excO C h.objs.size), g, d, t, os⟩) :
    codeAny (model prog w) A (.call (.ref C) ⟨rest, kws⟩) R ⟨h, g, d, t, os⟩ := by
  have f1 := tc_lookup
  have f2 := tc_bind (.ref C)
  have hTy : (⟨h, g, d, t, os⟩ : Shared).TypeIs (.ref C) "type" := ⟨_, hC, rfl⟩
  refine codeAny_of_tree ?_
  show wpAny _ _ (callAny (.ref C) _) _ _ _
  repeat (any_goals (first | assumption | with_reducible refine wpAny_loadPart_at hC ?_ | wp_step))
  refine ⟨rfl, ?_⟩
  refine codeAny_call_builtin_at (Code.quiet_builtin _ (by decide +kernel)) entry_typeCall (wpAny_check_type_call_sub hC (tcall_kw F hT hC hi hb hrest ?_))
  refine codeAny_mono hq fun r s' z => ?_
  rcases r with e | (v | _ | _ | _) <;> exact z
end
end OSX
end PySem
namespace OS
open PySem PySem.Spec PyProof.Rows L2
/-- what the top's text says of an own error's class -/
structure ErrT (K : PySem.W.Frag) (C : Addr) : Prop where
  ox : OexC K C
  xf : XfC K C
  ex : ExcC K C
def errB (K : PySem.W.Frag) (C : Addr) : Bool :=
  decide (PySem.W.findIn K (.ref C) "__setattr__" = some (some (.builtin "object.__setattr__"))) && (decide (PySem.W.findIn K (.ref C) "__getattribute__" = some (some (.builtin "BaseException.__getattribute__"))) &&
  (decide (PySem.W.findIn K (.ref C) "__getattr__" = some none) && (decide (PySem.W.subIn K (.ref C) (.type "BaseException") = some true) && (decide (PySem.W.typeIn K (.ref C) = some (.type "type")) &&
  (PySem.W.hasDictIn K C && (PySem.W.keepIn K (.ref C) && (decide (PySem.W.findIn K (.ref C) "__class__" = some (some (.builtin "object.__class__"))) && decide (PySem.W.mroIn K C (.type "object") = some true))))))))
theorem errT_of {K : PySem.W.Frag} {C : Addr} (h : errB K C = true)
    (cls : ∃ nm q N bs bm sn sub ab col dd k0 k1 k2 k3 k5, K.lookup C = some (excClassObj nm q C N bs bm true sn sub ab col dd k0 k1 k2 k3 k5 "ValueError.__new__") ∧ PySem.HandSPX.refsVE bm = true)
    (hn : PySem.W.specialIn K (.builtin "object.__class__") "__get__" = some (some (.builtin "getset_descriptor.__get__"))) (ht : PySem.W.takesIn K (.builtin "object.__class__") = some true) : ErrT K C := by
  unfold errB at h
  simp only [Bool.and_eq_true, decide_eq_true_eq] at h
  obtain ⟨h1, h2, h3, h4, h5, h6, h7, h8, h9⟩ := h
  exact ⟨⟨cls, h1, h4, h5, h7⟩, ⟨h2, h3, h4, h6⟩, ⟨h2, h3, h4, h6, h8, hn, ht, h9⟩⟩
/-- __init__(self, f): self.f = f -/
def spErr (C : Addr) (f : Str) : Sp := fun vs H Q _ => ∃ (a : Addr) (v : V), vs = [.ref a, v] ∧ H a = some (exo a C none) ∧ ∀ dx, H dx = none → dx ≠ a → Q .non (upd (upd H dx (exd dx [(f, v)])) a (exo a C (some dx)))
/-- an error at a of the class at C whose field f holds v -/
structure ErrAt (H : Hp) (C : Addr) (f : Str) (a : Addr) (v : V) : Prop where
  ob : ∃ dx, H a = some (exo a C (some dx)) ∧ H dx = some (exd dx [(f, v)])
/-- .. a new one since H0 -/
structure ErrNew (H0 H : Hp) (C : Addr) (f : Str) (a : Addr) (v : V) : Prop where
  ob : ∃ dx, H0 a = none ∧ H0 dx = none ∧ H a = some (exo a C (some dx)) ∧ H dx = some (exd dx [(f, v)])
theorem ErrNew.err {H0 H : Hp} {C : Addr} {f : Str} {a : Addr} {v : V} (h : ErrNew H0 H C f a v) : ErrAt H C f a v := by
  obtain ⟨dx, _, _, h1, h2⟩ := h
  exact ⟨dx, h1, h2⟩
/-- C(e): a new error -/
def tErr (C : Addr) (f : Str) (t : TA) : TE := fun σ H Q => t σ H fun vs H1 => ∃ v, vs = [v] ∧ ∀ (a : Addr) (H2 : Hp), Same H1 H2 → ErrNew H1 H2 C f a v → Q (.ref a) H2
/-- C(): a new error without a field -/
def tErr0 (C : Addr) : TE := fun _ H Q => ∀ (a : Addr) (H2 : Hp), H a = none → Same H H2 → H2 a = some (ExO (.ref C) a) → Q (.ref a) H2
section
variable {X : Cx} {x : Str} {p pos : Pos} {e : Expr} {es : List Expr} {kws : List Keyword} {t tk : TA} {C fI : Addr} {fd : FuncData} {k : Nat} {ps : List Str} {f : Str}
theorem run_err {pins : List (Addr × Obj)} {σ : L2.St} {H : Hp} {s : Shared} {Q : VK} {us : List Value} {kz : List (Str × Value)} {v : V} {u : Value} (T : ErrT X.K C) (iC : PySem.W.findIn X.K (.ref C) "__init__" = some (some (.ref fI))) (tI : PySem.W.typeIn X.K (.ref fI) = some (.type "function"))
    (F1 : FnOk X.prog X.w X.K X.mg X.base CX0 k fI fd ps (spErr C f)) (hr : Room (k + 1) X.A) (hu : us.length ≤ 1000) (hb : ∀ (s : Shared) (z : Value), X.K.In s.heap → BindsTo s fd ⟨z :: us, kz⟩ (ps.zip [z, u])) (I : Inv X pins σ H s) (rv : RelV v u)
    (h : ∀ (a : Addr) (H2 : Hp), Same H H2 → ErrNew H H2 C f a v → Q (.ref a) H2) : wpAny (model X.prog X.w) X.A (call (.ref C) us kz) (EP X pins σ Q) X.xe s := by
  obtain ⟨nm, q, N, bs, bm, sn, sub, ab, col, dd, k0, k1, k2, k3, k5, hC, hbm⟩ := T.ox.cls
  obtain ⟨hp, g, dr, tk, os⟩ := s
  have hsz : hp.objs.size ≤ hp.objs.size + 1 := Nat.le_succ _
  have hn : H (hp.objs.size + 1) = none := I.hok.fresh hsz
  have kk : ∀ b o, hp.get? b = some o → ((hp.push (PySem.W.kdv_tup us)).push (PySem.HandSPX.excO C hp.objs.size)).get? b = some o := fun b o e => Heap.get?_push_of_some _ (Heap.get?_push_of_some _ e)
  have hget : ((hp.push (PySem.W.kdv_tup us)).push (PySem.HandSPX.excO C hp.objs.size)).get? (hp.objs.size + 1) = some (PySem.HandSPX.excO C hp.objs.size) := by heap_get
  have I2 : Inv X pins σ (upd H (hp.objs.size + 1) (exo (hp.objs.size + 1) C none)) ⟨(hp.push (PySem.W.kdv_tup us)).push (PySem.HandSPX.excO C hp.objs.size), g, dr, tk, os⟩ :=
    I.laid (t' := tk) (a := hp.objs.size + 1) (o := exo (hp.objs.size + 1) C none) (h' := (hp.push (PySem.W.kdv_tup us)).push (PySem.HandSPX.excO C hp.objs.size)) kk hsz (exo_ok hget)
  generalize ea : hp.objs.size + 1 = a at hn hget I2
  have r2 : Vals [V.ref a, v] [Value.ref a, u] := .cons rfl (.cons rv .nil)
  have hq : spErr C f [V.ref a, v] (upd H a (exo a C none)) (fun y H2 => y = .non ∧ Q (.ref a) H2) E0 := by
    refine ⟨a, v, rfl, upd_same, fun dx hdx ne => ⟨rfl, ?_⟩⟩
    have hdx' : H dx = none := by rw [upd_ne ne] at hdx; exact hdx
    refine h a _ (fun b o e => ?_) ⟨dx, hn, hdx', upd_same, by rw [upd_ne ne, upd_same]⟩
    rw [upd_ne (ne_of_none e hn), upd_ne (ne_of_none e hdx'), upd_ne (ne_of_none e hn)]
    exact e
  refine wpAny_call (PySem.OSX.call_kw F.excBase_ValueError (fun Y => PySem.HandSPX.refsVE_contains Y bm hbm) (I.kIn _ _ hC) (PySem.W.looks_findIn I.kIn iC) (fun self => PySem.W.bind_fn I.kIn self tI) (Nat.le_of_lt (small1000 hu)) ?_)
  rw [ea]
  refine codeAny_mono (F1.run _ X.stack _ _ ⟨Value.ref a :: us, kz⟩ [Value.ref a, u] _ _ E0 (hr.make C us kz) (I2.env0.make C us kz) (hb _ _ I2.kIn) r2 hq) fun r s' hq' => ?_
  cases r with
  | error er => exact (show False from hq').elim
  | ok fl =>
    cases fl with
    | ret y =>
      obtain ⟨z, H', I3, rz, ez, q3⟩ := I2.after hq'
      subst ez
      exact ⟨rz, ⟨V.ref a, H', I3, rfl, q3⟩⟩
    | next => exact False.elim hq'
    | brk => exact False.elim hq'
    | cont => exact False.elim hq'
theorem pe_err (T : ErrT X.K C) (iC : PySem.W.findIn X.K (.ref C) "__init__" = some (some (.ref fI))) (tI : PySem.W.typeIn X.K (.ref fI) = some (.type "function")) (F1 : FnOk X.prog X.w X.K X.mg X.base CX0 k fI fd ps (spErr C f)) (hr : Room (k + 1) X.A)
    (hb : Binds X.K fd ps []) (hl : ps.length = 2) (hg : Gl X x) (hm : X.mg x = some (.ref C)) (ha : PA X (e :: es) t) (hdb : (x == ("__debug__" : Str)) = false := by decide)
    (he : starEach (e :: es) X.env = (false, eval e X.env) :: starEach es X.env := by rfl) (hpl : (backTo pos (starEach es X.env)).any (·.1) = false := by rfl) : PE X (.Call (.Name x p) (e :: es) [] pos) (tErr C f t) := by
  refine ⟨fun pins s σ H Q I h => wpAny_Call_Name_kw (ld_glob I hg hm ?_ hdb)⟩
  refine PySem.W.callWith_K (h₀ := X.base) I.ok.mod.kin T.ox.kC (thn (ha.run pos pins s σ H _ I h) fun us s1 ⟨vs, H1, I1, r, v, ev, q⟩ => ⟨I1.kIn, ?_⟩) he hpl
  subst ev
  cases r with
  | cons rv rr =>
    cases rr
    exact run_err (us := [_]) (kz := []) T iC tI F1 hr (show 1 ≤ 1000 by decide) (fun s z hK => hb s [z, _] hK hl.symm) I1 rv q
theorem pe_errK {ks : List Str} (T : ErrT X.K C) (iC : PySem.W.findIn X.K (.ref C) "__init__" = some (some (.ref fI))) (tI : PySem.W.typeIn X.K (.ref fI) = some (.type "function")) (F1 : FnOk X.prog X.w X.K X.mg X.base CX0 k fI fd ps (spErr C f)) (hr : Room (k + 1) X.A)
    (hb : ∀ (s : Shared) (z u : Value), BindsTo s fd ⟨[z], ks.zip [u]⟩ (ps.zip [z, u])) (hg : Gl X x) (hm : X.mg x = some (.ref C)) (hkw : PK X kws tk) (hall : (backToKw pos (keywordEach kws X.env)).all (·.1.isSome) = true := by rfl)
    (hks : (backToKw pos (keywordEach kws X.env)).filterMap (·.1) = ks := by rfl) (hdb : (x == ("__debug__" : Str)) = false := by decide)
    (hpl : ((backTo pos (starEach [] X.env)).any (·.1) || (backToKw pos (keywordEach kws X.env)).any (·.1.isNone)) = false := by rfl) : PE X (.Call (.Name x p) [] kws pos) (tErr C f tk) := by
  refine ⟨fun pins s σ H Q I h => wpAny_Call_Name_kw (ld_glob I hg hm ?_ hdb)⟩
  refine PySem.W.callWith_KW0 (h₀ := X.base) I.ok.mod.kin T.ox.kC hall ?_ hpl
  refine thn (hkw.run pos pins s σ H _ I h) fun ws s2 ⟨zs, H2, I2, rz, v, ev, q2⟩ => ⟨I2.kIn, ?_⟩
  subst ev
  rw [hks]
  cases rz with
  | cons rv rr =>
    cases rr
    exact run_err (us := []) T iC tI F1 hr (by decide) (fun s z _ => hb s z _) I2 rv q2
theorem pe_err0 {bmB : List Value} {B newId initId : String} (F : ExcBaseFacts B newId initId bmB) (q : PySem.W.excIn X.K C bmB newId = true) (kC : PySem.W.keepIn X.K (.ref C) = true) (hg : Gl X x) (hm : X.mg x = some (.ref C))
    (hdb : (x == ("__debug__" : Str)) = false := by decide) : PE X (.Call (.Name x p) [] [] pos) (tErr0 C) := by
  refine ⟨fun pins s σ H Q I h => wpAny_Call_Name_kw (ld_glob I hg hm ?_ hdb)⟩
  refine PySem.W.callWith_K0 I.kIn kC ?_
  obtain ⟨bm, N, nm, qn, bs, hdct, sn, sub, ab, col, dd, k0, k1, k2, k3, k5, mN, hC, hN, hni, T⟩ := exc_obj I.kIn q
  refine wpAny_call_exc_subT F T hC hN hni (fun h' a hm => ?_) (Nat.zero_le _)
  have hn : H a = none := I.hok.gone hm.new
  obtain ⟨t, ht, _, _⟩ := hm.there
  exact ⟨.ref a, upd H a (ExO (.ref C) a), I.laidN hm.keeps hm.new hn (exO_ok ht ⟨rfl, rfl⟩ rfl rfl rfl (show 4 < 6 by decide)), rfl, h a _ hn (same_new hn) upd_same⟩
end
end OS
namespace OS
open PySem PySem.Spec PyProof.Rows L2
/-- e.f, e an error -/
def tErrF (K : PySem.W.Frag) (f : Str) (te : TE) : TE := fun σ H Q => te σ H fun x H1 => ∃ (a C : Addr) (v : V), x = .ref a ∧ ErrT K C ∧ PySem.W.findIn K (.ref C) f = some none ∧ ErrAt H1 C f a v ∧ Q v H1
theorem err_inst {X : Cx} {pins : List (Addr × Obj)} {σ : L2.St} {H : Hp} {s : Shared} {C a : Addr} {f : Str} {v : V} (I : Inv X pins σ H s) (h : ErrAt H C f a v) : ∃ oe od u, PySem.W.InstAt s.heap a oe C (some od) ∧ PySem.W.lookIn f od = some (some u) ∧ RelV v u := by
  obtain ⟨dx, ho, hd⟩ := h
  obtain ⟨t1, e1⟩ := exo_at I.hok ho
  obtain ⟨mA, hns, hr⟩ := exd_at I.hok hd
  obtain ⟨od, h1, h2⟩ := lookIn_ns hns
  have hl : ([(f, v)] : List (Str × V)).lookup f = some v := by simp [List.lookup]
  obtain ⟨u, hu, ru⟩ := RelO.some_of (v := v) (o := mA f) (by rw [← hl]; exact hr f)
  refine ⟨_, od, u, ⟨e1, rfl, rfl, h1⟩, ?_, ru⟩
  rw [h2, hu]
theorem pe_errF {X : Cx} {e : Expr} {te : TE} {pos : Pos} {f : Str} (he : PE X e te) (hb : attributeBase e f X.env (eval e X.env) = eval e X.env := by rfl) : PE X (.Attribute e f pos) (tErrF X.K f te) := by
  refine ⟨fun pins s σ H Q I h => attr_of hb (thn (he.run pins s σ H _ I h) fun u s1 hh => ?_)⟩
  obtain ⟨x, H1, I1, rx, a, C, v, ex, T, hno, ea, q⟩ := hh
  subst ex
  obtain rfl : u = Value.ref a := rx
  obtain ⟨oe, od, y, J, hl, ry⟩ := err_inst I1 ea
  exact HandSPX.exc_get I1.kIn J T.xf.ga T.xf.gg T.xf.exC (PySem.W.findObj_own T.xf.hdC hno rfl hl) (handed_of ry) ⟨v, H1, I1.tok _, ry, q⟩
/-- isinstance(e, c), e an error -/
def rIsErr (K : PySem.W.Frag) : List V → Hp → VK → Prop := fun xs H Q => ∃ (a C : Addr) (c : V) (cv : Value) (b : Bool), xs = [.ref a, c] ∧ ((∃ f v, ErrAt H C f a v) ∨ H a = some (ExO (.ref C) a)) ∧ ErrT K C ∧ ClsV c cv ∧ PySem.W.kitOne K (.ref C) cv = some b ∧ Q (.bl b) H
theorem call_isErr {X : Cx} : CallR X (.builtin "isinstance") (rIsErr X.K) := by
  intro pins s σ H xs us Q I r h
  obtain ⟨a, C, c, cv, b, rfl, hat, T, hc, e, q⟩ := h
  obtain ⟨u1, u2, rfl, r1, r2⟩ := vals2 r
  have e2 := hc.eq r2
  subst e2
  cases (show u1 = Value.ref a from r1)
  obtain ⟨oe, od, J⟩ : ∃ oe od, PySem.W.InstAt s.heap a oe C od := by
    rcases hat with ⟨f, v, hat⟩ | hat
    · obtain ⟨oe, od, u, J, _, _⟩ := err_inst I hat
      exact ⟨oe, some od, J⟩
    · have x : ObjOk X.prog X.w H s.heap a (ExO (.ref C) a) := I.hok a _ hat
      obtain ⟨⟨oe, vs, h1, h2, h3, _⟩, _⟩ := x
      obtain ⟨oc, oda, odd, osl⟩ := oe
      obtain ⟨z1, z2⟩ := h2
      dsimp only at z1 z2 h3
      subst z1 z2 h3
      exact ⟨_, none, h1, rfl, rfl, trivial⟩
  have hcl : (PySem.W.clsIn X.K C).isSome = true := by
    obtain ⟨nm, q, N, bs, bm, sn, sub, ab, col, dd, k0, k1, k2, k3, k5, hC, hbm⟩ := T.ox.cls
    unfold PySem.W.clsIn
    rw [hC]
    rfl
  exact PySem.W.kia_one (PySem.W.kitx_exc hcl T.ex.hg T.ex.hk T.ex.hs T.ex.ha T.ex.hn T.ex.ht T.ex.hm) I.kIn J e (fun z => nomatch z) fun tk => ⟨.bl b, H, I.kept (t' := tk) fun _ _ z => z, rfl, q⟩
end OS
namespace OS
open PySem PySem.Spec PyProof.Rows L2
/-- the classes cs: which is which, all under S and ValueError -/
def pairsB (K : PySem.W.Frag) (cs : List Addr) (S : Addr) : Bool :=
  (List.range cs.length).all fun i => decide (PySem.W.kitOne K (.ref (cs.getD i 0)) (.ref S) = some true) && (decide (PySem.W.kitOne K (.ref (cs.getD i 0)) (.type "ValueError") = some true) &&
    (List.range cs.length).all fun j => decide (PySem.W.kitOne K (.ref (cs.getD i 0)) (.ref (cs.getD j 0)) = some (decide (j = i))))
theorem pairs_at {K : PySem.W.Frag} {cs : List Addr} {S : Addr} (h : pairsB K cs S = true) {i : Nat} (hi : i < cs.length) :
    PySem.W.kitOne K (.ref (cs.getD i 0)) (.ref S) = some true ∧ PySem.W.kitOne K (.ref (cs.getD i 0)) (.type "ValueError") = some true ∧ ∀ j, j < cs.length → PySem.W.kitOne K (.ref (cs.getD i 0)) (.ref (cs.getD j 0)) = some (decide (j = i)) := by
  unfold pairsB at h
  have q := List.all_eq_true.mp h i (List.mem_range.mpr hi)
  simp only [Bool.and_eq_true, decide_eq_true_eq] at q
  exact ⟨q.1, q.2.1, fun j hj => of_decide_eq_true (List.all_eq_true.mp q.2.2 j (List.mem_range.mpr hj))⟩
end OS

set_option Elab.async false
set_option linter.all false
set_option maxRecDepth 100000
set_option maxHeartbeats 4000000
/-! sorted of tuples of texts, also of empty ones; by key -/
namespace PySem.OSS
open PySem PySem.Calls PySem.SeqAt PySem.W PyProof.Rows
section
variable {prog : Program} {w : World} {A : Around} {E : Value → Shared → Prop} {s : Shared}
/-- one tuple against another, as sorting compares where all are of one type -/
theorem oneLt_tup {xs ys : List PyData} {a b : Value} {as bs : List Addr} {Q : Bool → Shared → Prop} (ra : Reads s.heap a (.tuple xs) as) (rb : Reads s.heap b (.tuple ys) bs) (h : alike (.tuple xs) (.tuple ys) = true)
    (hu : A.units + min (PyData.tuple xs).depth (PyData.tuple ys).depth < cLine) (hq : Q (dataLt (.tuple xs) (.tuple ys)) s) : wpAny (model prog w) A (oneLt' true a b) Q E s := by
  have hal : alikeAll xs ys = true := by simpa [alike] using h
  cases ra with
  | @tuple l o vs n _ as₁ h1 h2 h3 h4 =>
    cases rb with
    | @tuple l' o' vs' n' _ bs₁ k1 k2 k3 k4 =>
      have n1 : vs.size = xs.length := by simpa using ReadsAll.length _ _ _ h4
      have n2 : vs'.size = ys.length := by simpa using ReadsAll.length _ _ _ k4
      rw [dataLt_tuple, ← firstLt_toks xs ys hal, ← n1, ← n2] at hq
      rw [oneLt'_eq]
      simp only [if_true]
      obtain ⟨cls, dd, data, sl⟩ := o
      obtain ⟨cls2, dd2, data2, sl2⟩ := o'
      simp only at h2 h3 k2 k3
      subst h2 h3 k2 k3
      refine wpAny_bind (wpAny_cRoomFor (room_here hu) ?_)
      refine wpAny_bind (wpAny_callSpecialIfBound?_slot (T := "tuple") ⟨_, h1, rfl⟩ F.slot_tuple_lt (call_meets F.slot_tuple_lt ⟨_, h1, rfl⟩ F.entry_tuple_lt (F.args_tuple_lt_2 _ _) (tuple_ltAt l l' vs vs' n n' dd dd2 sl sl2 (pairEq xs ys) (fun j => dataLt (xs.getD j .none) (ys.getD j .none)))
        ⟨h1, k1, fun j j1 j2 => ?_, fun j j1 j2 hj => ?_, ?_⟩))
      · have := eqAt_alikeAll xs ys A.in1 s vs.toList vs'.toList _ _ h4 k4 hal (room_in hu) j (by simpa using j1) (by simpa using j2)
        simpa using this
      · have := rcLt_alikeAll xs ys A.in1 s vs.toList vs'.toList _ _ h4 k4 hal (room_in hu) j (by simpa using j1) (by simpa using j2) hj
        simpa using this
      · exact wpAny_truthy_bool hq
/-- what the tuples begin with -/
theorem firsts_any {M : Model} {A : Around} {E : Value → Shared → Prop} : ∀ {vs : List Value} {ds : List PyData}, EachIs (fun v d => ∃ as, Reads s.heap v d as) vs ds → (∀ d, d ∈ ds → ∃ r, d = .tuple r) →
    ∃ fs : List (Option Value), fs.length = vs.length ∧ (ds.head? = some (.tuple ([] : List PyData)) → fs.head? = some none) ∧ ∀ {Q : List (Option Value) → Shared → Prop}, Q fs s → wpAny M A (vs.mapM firstOfTuple') Q E s
  | _, _, .nil, _ => ⟨[], rfl, fun h => by simp at h, fun h => by rw [List.mapM_nil]; exact wpAny_pure h⟩
  | _, _, .cons (a := v) (b := d) ⟨as, r⟩ t, ht => by
    obtain ⟨fs, h1, _, h3⟩ := firsts_any t fun d hd => ht d (List.mem_cons_of_mem _ hd)
    obtain ⟨r0, rfl⟩ := ht d (List.mem_cons_self ..)
    cases r with
    | @tuple a o xs n _ _ ho hc hd hr =>
      refine ⟨xs[0]? :: fs, by rw [List.length_cons, List.length_cons, h1], fun e => ?_, fun {Q} hq => ?_⟩
      · have e' : r0 = [] := by simpa using e
        subst e'
        have hx : xs.toList = [] := by
          cases q : xs.toList with
          | nil => rfl
          | cons f fr => rw [q] at hr; cases hr
        have hx' : xs[0]? = none := by rw [← Array.getElem?_toList, hx]; rfl
        rw [hx']
        rfl
      · rw [List.mapM_cons]
        refine wpAny_bind ?_
        rw [kas_first_eq]
        refine wpAny_bind (Looks.here (show Looks M s.heap (typeOf (.ref a)) o.cls from (Looks.ld ho).andThen .now) ?_)
        rw [hc, if_neg (by first | decide | simp)]
        refine wpAny_bind (listItems_at ho hd (wpAny_pure ?_))
        exact wpAny_bind (h3 (wpAny_pure hq))
/-- tuples of which the first is empty: compared as things of one type -/
theorem kind_tup0 {M : Model} {vs : List Value} {ds : List PyData} {Q : SortKind → Shared → Prop} (e : EachIs (fun v d => ∃ as, Reads s.heap v d as) vs (.tuple [] :: ds)) (ht : ∀ d, d ∈ ds → ∃ r, d = .tuple r) (h : Q oneType' s) :
    wpAny M A (keyKind' vs.toArray) Q E s := by
  have ht' : ∀ d, d ∈ PyData.tuple [] :: ds → ∃ r, d = .tuple r := fun d hd => by
    rcases List.mem_cons.mp hd with rfl | hd
    · exact ⟨_, rfl⟩
    · exact ht d hd
  obtain ⟨fs, f1, f2, f3⟩ := firsts_any (M := M) (A := A) (E := E) e ht'
  have f2 := f2 rfl
  obtain ⟨v₁, rest, rfl⟩ : ∃ v₁ rest, vs = v₁ :: rest := by
    cases e with
    | cons _ _ => exact ⟨_, _, rfl⟩
  cases fs with
  | nil => simp at f2
  | cons f fr =>
    have ef : f = none := by simpa using f2
    subst ef
    rw [kat_kind_eq, List.mapM_toArray, map_eq_pure_bind]
    refine wpAny_bind (wpAny_bind (f3 (wpAny_pure ?_)))
    rw [if_neg (by simp), if_neg (by simp)]
    rw [oneTypeOnly'_eq, List.mapM_toArray, map_eq_pure_bind]
    have hT : ∀ v ∈ v₁ :: rest, Looks M s.heap (typeOf v) (Value.type "tuple") := fun v hv => by
      obtain ⟨d, hd, as, r⟩ := e.left v hv
      obtain ⟨r', rfl⟩ := ht' d hd
      exact looks_reads r
    refine wpAny_bind (wpAny_bind (wpAny_bind (kas_mapM (r := Value.type "tuple") _ (fun v hv Q' hq => (hT v hv).here hq) (wpAny_pure ?_))))
    have hall : ((List.map (fun _ => Value.type "tuple") (v₁ :: rest)).toArray.all fun x => x == Value.type "tuple") = true := by
      simp only [List.all_toArray, List.all_map, List.all_eq_true]
      intro _ _
      rfl
    have h0 : (List.map (fun _ => Value.type "tuple") (v₁ :: rest)).toArray[0]? = some (Value.type "tuple") := by simp
    rw [h0]
    simp only [hall, if_true]
    exact wpAny_pure (wpAny_pure h)
/-- tuples of which the first is empty can be sorted -/
theorem sorts_tup0 {vs : List Value} {ds : List PyData} (e : EachIs (fun v d => ∃ as, Reads s.heap v d as) vs (.tuple [] :: ds)) (ht : ∀ d, d ∈ ds → ∃ r, d = .tuple r) (hal : AllAlike (.tuple [] :: ds)) (hu : ∀ d, d ∈ PyData.tuple [] :: ds → A.units + d.depth < cLine) :
    SortsAt prog w A s (dataKind s.heap (.tuple [] :: ds)) vs := by
  have ht' : ∀ d, d ∈ PyData.tuple [] :: ds → ∃ r, d = .tuple r := fun d hd => by
    rcases List.mem_cons.mp hd with rfl | hd
    · exact ⟨_, rfl⟩
    · exact ht d hd
  refine ⟨fun v hv => ?_, oneType', ?_, fun h2 E Q hq => kind_tup0 e ht hq⟩
  · obtain ⟨d, hd, as, r⟩ := e.left v hv
    exact ⟨_, dataKind_some hal hd r⟩
  · intro E x y a b Q ha hb hq
    obtain ⟨d, as, hd, ra, rfl⟩ := dataKind_inv ha
    obtain ⟨d', as', hd', rb, rfl⟩ := dataKind_inv hb
    obtain ⟨r, rfl⟩ := ht' d hd
    obtain ⟨r', rfl⟩ := ht' d' hd'
    rw [keyLt'_oneType]
    exact oneLt_tup ra rb (hal _ hd _ hd') (Nat.lt_of_le_of_lt (Nat.add_le_add_left (Nat.min_le_left _ _) _) (hu _ hd)) hq
/-- can be sorted: as the library has it, or tuples of which the first is empty -/
def SortableX (ds : List PyData) : Prop := Sortable ds ∨ ∃ r, ds = .tuple [] :: r ∧ ∀ d, d ∈ r → ∃ x, d = .tuple x
theorem sorts_dataX {vs : List Value} {ds : List PyData} (e : EachIs (fun v d => ∃ as, Reads s.heap v d as) vs ds) (hal : AllAlike ds) (hk : SortableX ds) (hu : ∀ d, d ∈ ds → A.units + d.depth < cLine) :
    SortsAt prog w A s (dataKind s.heap ds) vs := by
  rcases hk with hk | ⟨r, rfl, ht⟩
  · exact SortsAt.data e hal hk hu
  · exact sorts_tup0 e ht hal hu
theorem sorted_dataX {β : Type} {vs : List Value} {bs : List β} {enc : β → PyData} {R : Value → β → Prop} {l : Addr} {Q : Value → Shared → Prop} (hl : s.heap.IsList l vs.toArray) (e : EachIs R vs bs) (er : EachIs (fun v b => ∃ as, Reads s.heap v (enc b) as) vs bs) (hal : AllAlike (bs.map enc)) (hk : SortableX (bs.map enc)) (hL : bs.length ≤ sizeLine)
    (hu : ∀ b, b ∈ bs → A.units + 2 + (enc b).depth < cLine) (h : ∀ out, out.length = bs.length → EachIs R out (bs.mergeSort (dataLe false enc)) → Q (.ref (s.heap.objs.size + 1)) { s with heap := sortedAll s.heap vs (List.toArray out) }) :
    wpAny (model prog w) A (call (.builtin "sorted") [.ref l]) Q E s := by
  have er' : EachIs (fun v b => ∃ as, Reads (sortingHeap (copyHeap s.heap vs) (s.heap.objs.size + 1) vs) v (enc b) as) vs bs := er.mono fun _ _ ⟨as, r⟩ => ⟨as, PyProof.Rows.Reads.keeps (fun _ _ => sorting_copy_old) r⟩
  exact sorted_vals hl (sorts_dataX (s := { s with heap := sortingHeap (copyHeap s.heap vs) (s.heap.objs.size + 1) vs }) (each_map (R := fun v d => ∃ as, Reads (sortingHeap (copyHeap s.heap vs) (s.heap.objs.size + 1) vs) v d as) enc er') hal hk (bound_map hu)) (by rw [e.length]; exact hL)
    (h _ (by rw [sortVals_length false rfl]; exact e.length) (sortVals_data false e er' hal))
end
end PySem.OSS

set_option Elab.async false
set_option linter.all false
set_option maxRecDepth 100000
set_option maxHeartbeats 4000000
namespace OS
open PySem PySem.Spec PyProof.Rows L2 PySem.OSS
open PySem.W (EachIs AllAlike dataLe)
theorem each_of_vals {β : Type} (fv : β → V) : ∀ {bs : List β} {us : List Value}, Vals (bs.map fv) us → EachIs (fun v b => RelV (fv b) v) us bs
  | [], _, r => by
    have r' : Vals [] _ := r
    cases r'
    exact .nil
  | b :: bs, _, r => by
    have r' : Vals (fv b :: bs.map fv) _ := r
    cases r' with
    | cons h t => exact .cons h (each_of_vals fv t)
theorem vals_of_each {β : Type} (fv : β → V) : ∀ {bs : List β} {us : List Value}, EachIs (fun v b => RelV (fv b) v) us bs → Vals (bs.map fv) us
  | _, _, .nil => .nil
  | _, _, .cons h t => .cons h (vals_of_each fv t)
/-- sorted(xs): xs a list of data, b's value fv b, its data enc b -/
structure SortXAt (K : PySem.W.Frag) (H : Hp) (Q : VK) (a : Addr) : Prop where
  go : ∃ (β : Type) (bs : List β) (fv : β → V) (enc : β → PyData), SqL K H a (bs.map fv) ∧ (∀ b ∈ bs, Dp K H (fv b) (enc b)) ∧ AllAlike (bs.map enc) ∧ SortableX (bs.map enc) ∧ (∀ b ∈ bs, (enc b).depth ≤ 3) ∧ NewO H (.lst ((bs.mergeSort (dataLe false enc)).map fv)) Q
def rSortX (K : PySem.W.Frag) : List V → Hp → VK → Prop := fun vs H Q => ∃ (a : Addr), vs = [V.ref a] ∧ SortXAt K H Q a
section
variable {X : Cx}
theorem cr_sortX (hu : X.A.units + 65 < cLine) : CallR X (.builtin "sorted") (rSortX X.K) := by
  intro pins s σ H vs us Q I r h
  obtain ⟨a, rfl, β, bs, fv, enc, hs, hd, hal, hk, hdp, q⟩ := h
  obtain ⟨its, rv, hl, hz⟩ := I.list hs
  obtain ⟨u, rfl, ru⟩ := vals1 r
  obtain rfl : u = Value.ref a := ru
  have e := each_of_vals fv rv
  rw [List.length_map] at hz
  refine sorted_dataX (R := fun v b => RelV (fv b) v) (enc := enc) hl.isList e ((PySem.W.each_mem e).mono fun v b ⟨r1, hb⟩ => Dp.reads I (enc b) (fv b) v (hd b hb) r1) hal hk hz (fun b hb => ?_) fun out ho eo => ?_
  · have := hdp b hb
    omega
  · obtain ⟨ep, he'⟩ := PyProof.Rows.sortedAll_at s.heap its out.toArray
    refine ⟨.ref _, upd H (s.heap.objs.size + 1) (.lst ((bs.mergeSort (dataLe false enc)).map fv)), I.laid (t' := s.toks) (fun _ _ => PyProof.Rows.sortedAll_old) (Nat.le_succ _) ⟨?_, out, ep, vals_of_each fv eo, he'⟩, rfl, q.to _ (I.hok.fresh (Nat.le_succ _))⟩
    rw [List.length_map, List.length_mergeSort]
    exact hz
variable {e : Expr} {te : TE} {x y kn : Str} {p kp pos kpos : Pos}
/-- sorted(xs, key=len): xs a list of tuples, b's value fv b, its length ln b -/
structure SortLenAt (K : PySem.W.Frag) (Q : VK) (H1 : Hp) (a : Addr) : Prop where
  go : ∃ (β : Type) (bs : List β) (fv : β → V) (ln : β → Nat), SqL K H1 a (bs.map fv) ∧ (∀ b ∈ bs, ∃ t zs, fv b = .ref t ∧ SqT K H1 t zs ∧ zs.length = ln b) ∧
    NewO H1 (.lst ((bs.mergeSort fun b c => decide ((ln b : Int) ≤ (ln c : Int))).map fv)) Q
def sortLenAt (K : PySem.W.Frag) (Q : VK) (v : V) (H1 : Hp) : Prop := ∃ (a : Addr), v = V.ref a ∧ SortLenAt K Q H1 a
def tSortLen (K : PySem.W.Frag) (te : TE) : TE := fun σ H Q => te σ H fun v H1 => sortLenAt K Q v H1
theorem pe_sortLen (hu : X.A.units + 65 < cLine) (hg : Gl X "sorted") (hm : X.mg "sorted" = none) (hgl : Gl X "len") (hml : X.mg "len" = none) (he : PE X e te)
    (hst : starEach [e] X.env = (false, eval e X.env) :: starEach [] X.env := by rfl) (hee : backTo pos (starEach [e] X.env) = (false, eval e X.env) :: backTo pos (starEach [] X.env) := by rfl) (hpl : (backTo pos (starEach [e] X.env)).any (·.1) = false := by rfl) :
    PE X (.Call (.Name "sorted" p) [e] [⟨some "key", .Name "len" kp, kpos⟩] pos) (tSortLen X.K te) := by
  refine ⟨fun pins s σ H Q I h => ?_⟩
  refine wpAny_Call_Name_kw (ld_blt I hg hm (by rfl) ?_ (by decide) (by decide))
  have h' : tCons te tNil σ H (fun vs H1 => match vs with | [x] => sortLenAt X.K Q x H1 | _ => False) := h
  refine PyProof.Rows.callWith_kw (thn ((pa_cons he pa_nil hst).run pos pins s σ H _ I h') fun us s1 ⟨vs, H1, I1, r1, q1⟩ => ?_) hee hpl (by rfl) (by rfl)
  show wpAny _ _ (evalAll [(do let v ← eval (.Name "len" kp) X.env; standAt pos; pure v)]) _ _ s1
  refine wpAny_evalAll_cons (wpAny_bind (ld_blt I1 hgl hml (by rfl) (wpAny_bind (wpAny_standAt (wpAny_pure ?_))) (by decide) (by decide)))
  refine wpAny_evalAll_nil ?_
  match vs, r1, q1 with
  | [v], r1, q1 =>
  obtain ⟨a, rfl, β, bs, fv, ln, hs, ht, q⟩ := q1
  obtain ⟨u, rfl, ru⟩ := vals1 r1
  obtain rfl : u = Value.ref a := ru
  obtain ⟨its, rv, hl, hz⟩ := I1.list hs
  have e := each_of_vals fv rv
  rw [List.length_map] at hz
  refine PySem.W.sorted_key_data (kw := [(Str.ofString "key", .builtin "len")]) (b := false) (R := fun v b => RelV (fv b) v) (fun b => PyData.int (ln b)) hl.isList e (AllAlike.of fun b b' => by simp [PySem.W.alike]) (PySem.W.Sortable.others fun b => ⟨(fun z => nomatch z), fun xs z => nomatch z⟩) hz (fun b hb => ?_) (PyProof.Rows.ksk_s1 _ _) (fun _ => PyProof.Rows.ksk_l1 _ _) (fun x => PyProof.Rows.ksk_t4 _ _) (fun v b hR hb h tk kp => ?_) fun out c h' tk kp hn ho hlen eo => ?_
  · simp only [PyData.depth]
    omega
  · obtain ⟨t, zs, e1, h1, h2⟩ := ht b hb
    have hR' : RelV (V.ref t) v := e1 ▸ hR
    obtain rfl : v = Value.ref t := hR'
    obtain ⟨its2, rv2, ⟨o, g1, g2, n, g3⟩, hz2⟩ := I1.tuple h1
    refine PyProof.Rows.len_tuple (items := its2.toArray) ⟨o, kp _ _ g1, g2, n, g3⟩ ?_ ?_
    · have := rv2.length
      have hsl := sizeLine_eq
      rw [List.size_toArray]
      omega
    · refine ⟨h, tk + 1 + 1, rfl, fun _ _ q => q, ?_⟩
      have e2 : (its2.toArray.size : Int) = (ln b : Int) := by
        rw [List.size_toArray, ← rv2.length, h2]
      rw [e2]
      exact Reads.int _ _
  · have e3 : (bs.mergeSort (dataLe false fun b => PyData.int (ln b))) = bs.mergeSort fun b c => decide ((ln b : Int) ≤ (ln c : Int)) := by
      rw [PySem.W.dataLe_int (fun b => (ln b : Int))]
    rw [e3] at eo
    refine ⟨.ref _, upd H1 (s1.heap.objs.size + 1) (.lst ((bs.mergeSort fun b c => decide ((ln b : Int) ≤ (ln c : Int))).map fv)), I1.laid (t' := tk) kp (Nat.le_succ _) ⟨?_, out, c, vals_of_each fv eo, ho⟩, rfl, q.to _ (I1.hok.fresh (Nat.le_succ _))⟩
    rw [List.length_map, List.length_mergeSort]
    exact hz
end
end OS

set_option Elab.async false
set_option linter.all false
set_option maxRecDepth 100000
set_option maxHeartbeats 4000000
/-! lists of groups, without the heap -/
namespace OS
open PySem PySem.Spec PyProof.Rows L2 PySem.OSS
open PySem.W (EachIs AllAlike dataLe TotalLe sameRank sort_unique sort_stable sort_pairwise sortLe_total)
section
variable {α : Type} {r l p : α → α → Bool}
theorem rank_filter {q : α → α → Bool} (h : TotalLe q) (c : α) (t : α → Bool) (ht : ∀ a, t a = true → sameRank q c a = true) (xs : List α) : (xs.mergeSort q).filter t = xs.filter t := by
  have e : ∀ ys : List α, ys.filter t = (ys.filter (sameRank q c)).filter t := fun ys => by
    rw [List.filter_filter]
    refine List.filter_congr fun a _ => ?_
    cases q1 : t a with
    | false => simp
    | true => rw [ht a q1]; rfl
  rw [e, e xs, sort_stable h]
theorem pairwise_two (hl : TotalLe l) : ∀ {m : List α}, m.Pairwise (fun a b => l a b = true) → (∀ c, (m.filter (sameRank l c)).Pairwise (fun a b => r a b = true)) → m.Pairwise (fun a b => l a b = true ∧ (l b a = true → r a b = true))
  | [], _, _ => .nil
  | x :: m, h1, h2 => by
    obtain ⟨h3, h4⟩ := List.pairwise_cons.mp h1
    refine List.pairwise_cons.mpr ⟨fun y hy => ⟨h3 y hy, fun hyx => ?_⟩, pairwise_two hl h4 fun c => ?_⟩
    · have q := h2 x
      rw [List.filter_cons_of_pos (PySem.W.sameRank_self hl x)] at q
      refine (List.pairwise_cons.mp q).1 y (List.mem_filter.mpr ⟨hy, ?_⟩)
      unfold sameRank
      rw [h3 y hy, hyx]
      rfl
    · exact (h2 c).sublist ((List.sublist_cons_self x m).filter _)
/-- sorted by r, then by l, is sorted by l and among equals by r -/
theorem sort_two (hr : TotalLe r) (hl : TotalLe l) (hp : TotalLe p) (H : ∀ a b, p a b = true ↔ (l a b = true ∧ (l b a = true → r a b = true))) (xs : List α) : (xs.mergeSort r).mergeSort l = xs.mergeSort p := by
  have hrank : ∀ c a, sameRank p c a = true → sameRank l c a = true ∧ sameRank r c a = true := fun c a h => by
    unfold sameRank at h ⊢
    rw [Bool.and_eq_true] at h
    obtain ⟨h1, h2⟩ := h
    obtain ⟨a1, a2⟩ := (H c a).mp h1
    obtain ⟨b1, b2⟩ := (H a c).mp h2
    rw [a1, b1, a2 b1, b2 a1]
    exact ⟨rfl, rfl⟩
  refine sort_unique hp ?_ fun c => ?_
  · refine (pairwise_two (r := r) hl (sort_pairwise hl _) fun c => ?_).imp fun {a b} h => (H a b).mpr h
    rw [sort_stable hl]
    exact (sort_pairwise hr xs).sublist List.filter_sublist
  · rw [rank_filter hl c _ fun a h => (hrank c a h).1, rank_filter hr c _ fun a h => (hrank c a h).2]
end

/-! ### groups: tuples of texts -/
abbrev encG (g : List Str) : PyData := .tuple (g.map .str)
abbrev encP (g : List Str) : PyData := .tuple [.int (g.length : Int), .tuple (g.map .str)]
theorem eqvAll_strs : ∀ xs ys : List Str, PyData.eqvAll (xs.map .str) (ys.map .str) = decide (xs = ys)
  | [], [] => by simp [PyData.eqvAll]
  | [], _ :: _ => by simp [PyData.eqvAll]
  | _ :: _, [] => by simp [PyData.eqvAll]
  | x :: xs, y :: ys => by
    show (PyData.eqv (.str x) (.str y) && PyData.eqvAll (xs.map .str) (ys.map .str)) = _
    rw [eqvAll_strs xs ys]
    show ((x == y) && decide (xs = ys)) = decide (x :: xs = y :: ys)
    by_cases h1 : x = y <;> by_cases h2 : xs = ys <;> simp [h1, h2]
theorem eqv_G (g g' : List Str) : PyData.eqv (encG g) (encG g') = decide (g = g') := by
  show PyData.eqvAll (g.map .str) (g'.map .str) = _
  exact eqvAll_strs g g'
theorem alikeAll_strs : ∀ xs ys : List Str, PySem.W.alikeAll (xs.map .str) (ys.map .str) = true
  | [], _ => by simp [PySem.W.alikeAll]
  | _ :: _, [] => by simp [PySem.W.alikeAll]
  | x :: xs, y :: ys => by
    show PySem.W.alikeAll (.str x :: xs.map .str) (.str y :: ys.map .str) = true
    rw [PySem.W.alikeAll, alikeAll_strs xs ys]
    simp [PySem.W.alike]
theorem alike_G (g g' : List Str) : PySem.W.alike (encG g) (encG g') = true := by
  show PySem.W.alike (.tuple (g.map .str)) (.tuple (g'.map .str)) = true
  rw [PySem.W.alike, alikeAll_strs]
theorem alike_P (g g' : List Str) : PySem.W.alike (encP g) (encP g') = true := by
  show PySem.W.alike (.tuple [.int _, .tuple (g.map .str)]) (.tuple [.int _, .tuple (g'.map .str)]) = true
  rw [PySem.W.alike, PySem.W.alikeAll, PySem.W.alikeAll, alike_G g g']
  simp [PySem.W.alike, PySem.W.alikeAll]
theorem depth_strs : ∀ xs : List Str, PyData.depthAll (xs.map .str) = 0
  | [] => by simp [PyData.depthAll]
  | x :: xs => by
    show PyData.depthAll (.str x :: xs.map .str) = 0
    rw [PyData.depthAll, depth_strs xs]
    simp [PyData.depth]
theorem depth_G (g : List Str) : (encG g).depth = 1 := by
  show PyData.depth (.tuple (g.map .str)) = 1
  simp only [PyData.depth, depth_strs]
theorem depth_P (g : List Str) : (encP g).depth = 2 := by
  show PyData.depth (.tuple [.int _, .tuple (g.map .str)]) = 2
  simp only [PyData.depth, PyData.depthAll, depth_strs]
  rfl
theorem lt_irr (d : PyData) : PySem.W.dataLt d d = false := PyProof.Rows.lex_irrefl _
/-- sorted, then sorted by length, is sorted by (length, group) -/
theorem groups_sort (gs : List (List Str)) : (gs.mergeSort (dataLe false encG)).mergeSort (fun b c => decide ((b.length : Int) ≤ (c.length : Int))) = gs.mergeSort (dataLe false encP) := by
  refine sort_two (sortLe_total _ _ _) ⟨fun a b c h1 h2 => ?_, fun a b => ?_⟩ (sortLe_total _ _ _) (fun a b => ?_) gs
  · simp only [decide_eq_true_eq] at *
    omega
  · simp only [decide_eq_true_eq]
    omega
  · show (!PySem.W.dataLt (encP b) (encP a)) = true ↔ (decide _ = true ∧ (decide _ = true → (!PySem.W.dataLt (encG b) (encG a)) = true))
    rw [PySem.W.dataLt_pair (by simp [PySem.W.alike]) (alike_G b a), PySem.W.dataLt_int, eqv_G]
    simp only [PyData.eqv, beq_iff_eq, decide_eq_true_eq]
    by_cases h : (b.length : Int) = a.length
    · rw [if_pos h]
      by_cases h2 : b = a
      · subst h2
        rw [if_pos rfl, lt_irr]
        simp
      · rw [if_neg h2]
        constructor
        · intro q
          exact ⟨by omega, fun _ => q⟩
        · intro q
          exact q.2 (by omega)
    · rw [if_neg h]
      simp only [Bool.not_eq_true', decide_eq_false_iff_not]
      constructor
      · intro q
        exact ⟨by omega, fun z => by omega⟩
      · intro q
        omega
theorem row_anti : ∀ xs ys : List Str, PySem.W.rowLt (xs.map .str) (ys.map .str) = false → PySem.W.rowLt (ys.map .str) (xs.map .str) = false → xs = ys
  | [], [], _, _ => rfl
  | [], y :: ys, h, _ => by
    have e : PySem.W.rowLt [] (PyData.str y :: ys.map .str) = true := by
      unfold PySem.W.rowLt
      rw [PySem.W.toks_all_cons]
      simp only [PySem.W.keyToksAll]
      rw [PyProof.Rows.lex_diff (O := itemOrd) (by simp)]
      rfl
    exact absurd (e.symm.trans h) (by simp)
  | x :: xs, [], _, h => by
    have e : PySem.W.rowLt [] (PyData.str x :: xs.map .str) = true := by
      unfold PySem.W.rowLt
      rw [PySem.W.toks_all_cons]
      simp only [PySem.W.keyToksAll]
      rw [PyProof.Rows.lex_diff (O := itemOrd) (by simp)]
      rfl
    exact absurd (e.symm.trans h) (by simp)
  | x :: xs, y :: ys, h1, h2 => by
    have e : ∀ (x y : Str) (xs ys : List Str), PySem.W.rowLt (PyData.str x :: xs.map .str) (PyData.str y :: ys.map .str) = if x = y then PySem.W.rowLt (xs.map .str) (ys.map .str) else decide (x.cps.toList < y.cps.toList) := fun x y xs ys => by
      unfold PySem.W.rowLt
      rw [PySem.W.dataLt_cons (by simp [PySem.W.alike]), PySem.W.dataLt_str]
      simp only [PyData.eqv, beq_iff_eq]
    have h1' : PySem.W.rowLt (PyData.str x :: xs.map .str) (PyData.str y :: ys.map .str) = false := h1
    have h2' : PySem.W.rowLt (PyData.str y :: ys.map .str) (PyData.str x :: xs.map .str) = false := h2
    rw [e] at h1' h2'
    by_cases q : x = y
    · subst q
      rw [if_pos rfl] at h1' h2'
      rw [row_anti xs ys h1' h2']
    · rw [if_neg q] at h1'
      rw [if_neg (fun z => q z.symm)] at h2'
      have a1 := List.not_lt.mp (of_decide_eq_false h1')
      have a2 := List.not_lt.mp (of_decide_eq_false h2')
      exact absurd (PySem.W.str_of_cps (List.le_antisymm a2 a1)) q
/-- by (length, group) -/
abbrev leP : List Str → List Str → Bool := dataLe false encP
theorem leP_iff (a b : List Str) : leP a b = true ↔ ((a.length : Int) ≤ b.length ∧ (b.length = a.length → (!PySem.W.dataLt (encG b) (encG a)) = true)) := by
  show (!PySem.W.dataLt (encP b) (encP a)) = true ↔ _
  rw [PySem.W.dataLt_pair (by simp [PySem.W.alike]) (alike_G b a), PySem.W.dataLt_int, eqv_G]
  simp only [PyData.eqv, beq_iff_eq, decide_eq_true_eq]
  by_cases h : (b.length : Int) = a.length
  · rw [if_pos h]
    by_cases h2 : b = a
    · subst h2
      rw [if_pos rfl, lt_irr]
      simp
    · rw [if_neg h2]
      exact ⟨fun q => ⟨by omega, fun _ => q⟩, fun q => q.2 (by omega)⟩
  · rw [if_neg h]
    simp only [Bool.not_eq_true', decide_eq_false_iff_not]
    exact ⟨fun q => ⟨by omega, fun z => by omega⟩, fun q => by omega⟩
theorem leP_total : TotalLe leP := sortLe_total _ _ _
theorem leP_anti {a b : List Str} (h1 : leP a b = true) (h2 : leP b a = true) : a = b := by
  obtain ⟨a1, a2⟩ := (leP_iff a b).mp h1
  obtain ⟨b1, b2⟩ := (leP_iff b a).mp h2
  have e : b.length = a.length := by omega
  have c1 := a2 e
  have c2 := b2 e.symm
  rw [Bool.not_eq_true', PySem.W.dataLt_tuple] at c1 c2
  exact row_anti a b c2 c1
theorem rankP (c a : List Str) : sameRank leP c a = decide (c = a) := by
  by_cases h : c = a
  · subst h
    rw [PySem.W.sameRank_self leP_total]
    simp
  · rw [decide_eq_false h]
    cases q : sameRank leP c a with
    | false => rfl
    | true =>
      unfold sameRank at q
      rw [Bool.and_eq_true] at q
      exact absurd (leP_anti q.1 q.2) h
theorem filter_one {m : List (List Str)} (h : m.Nodup) (c : List Str) : m.filter (fun a => decide (c = a)) = if c ∈ m then [c] else [] := by
  induction m with
  | nil => simp
  | cons x m ih =>
    obtain ⟨h1, h2⟩ := List.nodup_cons.mp h
    by_cases q : c = x
    · subst q
      rw [List.filter_cons_of_pos (by simp), ih h2, if_neg h1, if_pos (List.mem_cons_self ..)]
    · rw [List.filter_cons_of_neg (by simp [q]), ih h2]
      simp [q]
/-- two lists in order, each group once, with the same groups -/
theorem orderly_one {m n : List (List Str)} (hm : m.Pairwise (fun a b => leP a b = true)) (hn : n.Pairwise (fun a b => leP a b = true)) (dm : m.Nodup) (dn : n.Nodup) (h : ∀ g, g ∈ m ↔ g ∈ n) : m = n := by
  refine PySem.W.sort_one leP_total m n hm hn fun c => ?_
  have e : sameRank leP c = fun a => decide (c = a) := funext fun a => rankP c a
  rw [e, filter_one dm, filter_one dn]
  simp only [h]

/-! ### all groups -/
def setsL (ps : List Str) : List (List Str) := ps.foldl (fun gs n => gs ++ gs.map (· ++ [n])) [[]]
def allG (ps : List Str) : List (List Str) := (setsL ps).mergeSort leP
theorem setsL_snoc (ps : List Str) (n : Str) : setsL (ps ++ [n]) = setsL ps ++ (setsL ps).map (· ++ [n]) := by
  unfold setsL
  rw [List.foldl_append]
  rfl
theorem setsL_head : ∀ ps : List Str, ∃ r, setsL ps = [] :: r := fun ps => by
  suffices h : ∀ (ps : List Str) (gs : List (List Str)), (∃ r, gs = [] :: r) → ∃ r, ps.foldl (fun gs n => gs ++ gs.map (· ++ [n])) gs = [] :: r from h ps [[]] ⟨[], rfl⟩
  intro ps
  induction ps with
  | nil => exact fun gs h => h
  | cons n ps ih =>
    intro gs ⟨r, e⟩
    rw [List.foldl_cons]
    exact ih _ ⟨_, by rw [e]; rfl⟩
theorem setsL_len (ps : List Str) : (setsL ps).length = 2 ^ ps.length := by
  suffices h : ∀ (ps : List Str) (gs : List (List Str)), (ps.foldl (fun gs n => gs ++ gs.map (· ++ [n])) gs).length = gs.length * 2 ^ ps.length by
    exact (h ps [[]]).trans (by simp)
  intro ps
  induction ps with
  | nil => intro gs; simp
  | cons n ps ih =>
    intro gs
    rw [List.foldl_cons, ih, List.length_append, List.length_map, List.length_cons, Nat.pow_succ]
    rw [Nat.mul_comm (2 ^ ps.length) 2, ← Nat.mul_assoc]
    congr 1
    omega
theorem mem_sets_from : ∀ (ps : List Str) (gs : List (List Str)) (g : List Str), g ∈ ps.foldl (fun gs n => gs ++ gs.map (· ++ [n])) gs ↔ ∃ g0 ∈ gs, ∃ s : List Str, s.Sublist ps ∧ g = g0 ++ s
  | [], gs, g => by
    rw [List.foldl_nil]
    constructor
    · exact fun h => ⟨g, h, [], .slnil, by simp⟩
    · rintro ⟨g0, h, s, hs, rfl⟩
      rw [List.sublist_nil.mp hs, List.append_nil]
      exact h
  | n :: ps, gs, g => by
    rw [List.foldl_cons, mem_sets_from ps]
    constructor
    · rintro ⟨g0, h, s, hs, rfl⟩
      rcases List.mem_append.mp h with h | h
      · exact ⟨g0, h, s, hs.cons _, rfl⟩
      · obtain ⟨g1, h1, rfl⟩ := List.mem_map.mp h
        exact ⟨g1, h1, n :: s, hs.cons_cons _, by simp⟩
    · rintro ⟨g0, h, s, hs, rfl⟩
      cases hs with
      | cons _ hs => exact ⟨g0, List.mem_append_left _ h, s, hs, rfl⟩
      | cons_cons _ hs => exact ⟨g0 ++ [n], List.mem_append_right _ (List.mem_map.mpr ⟨g0, h, rfl⟩), _, hs, by simp⟩
theorem mem_sets {ps g : List Str} : g ∈ setsL ps ↔ g.Sublist ps := by
  unfold setsL
  rw [mem_sets_from]
  constructor
  · rintro ⟨g0, h, s, hs, rfl⟩
    rw [List.mem_singleton.mp h]
    exact hs
  · exact fun h => ⟨[], List.mem_singleton.mpr rfl, g, h, rfl⟩
theorem nodup_from : ∀ (ps : List Str) (gs : List (List Str)), ps.Nodup → gs.Nodup → (∀ g ∈ gs, ∀ n ∈ ps, n ∉ g) → (ps.foldl (fun gs n => gs ++ gs.map (· ++ [n])) gs).Nodup
  | [], gs, _, h, _ => h
  | n :: ps, gs, hp, hg, hd => by
    obtain ⟨h1, h2⟩ := List.nodup_cons.mp hp
    rw [List.foldl_cons]
    refine nodup_from ps _ h2 ?_ fun g h m hm => ?_
    · refine List.nodup_append.mpr ⟨hg, ?_, fun a ha b hb e => ?_⟩
      · exact List.Pairwise.map _ (fun a b hab e => hab (List.append_cancel_right e)) hg
      · obtain ⟨g1, _, rfl⟩ := List.mem_map.mp hb
        subst e
        exact hd _ ha n (List.mem_cons_self ..) (by simp)
    · rcases List.mem_append.mp h with h | h
      · exact hd g h m (List.mem_cons_of_mem _ hm)
      · obtain ⟨g1, hg1, rfl⟩ := List.mem_map.mp h
        rw [List.mem_append, not_or]
        refine ⟨hd g1 hg1 m (List.mem_cons_of_mem _ hm), fun q => ?_⟩
        rw [List.mem_singleton] at q
        subst q
        exact h1 hm
theorem nodup_sets {ps : List Str} (h : ps.Nodup) : (setsL ps).Nodup := nodup_from ps _ h (by simp) fun g hg n _ => by
  rw [List.mem_singleton.mp hg]
  simp
theorem allG_perm (ps : List Str) : (allG ps).Perm (setsL ps) := List.mergeSort_perm _ _
theorem mem_allG {ps g : List Str} : g ∈ allG ps ↔ g.Sublist ps := ((allG_perm ps).mem_iff).trans mem_sets
theorem nodup_allG {ps : List Str} (h : ps.Nodup) : (allG ps).Nodup := (allG_perm ps).nodup_iff.mpr (nodup_sets h)
theorem sorted_allG (ps : List Str) : (allG ps).Pairwise (fun a b => leP a b = true) := sort_pairwise leP_total _
/-- the names of g among ps, in their order -/
def pick (ps g : List Str) : List Str := ps.filter fun n => decide (n ∈ g)
theorem pick_sub : ∀ {ps g : List Str}, ps.Nodup → g.Sublist ps → pick ps g = g
  | [], g, _, h => by
    rw [List.sublist_nil.mp h]
    rfl
  | n :: ps, g, hp, h => by
    obtain ⟨h1, h2⟩ := List.nodup_cons.mp hp
    cases h with
    | cons _ h =>
      have hn : n ∉ g := fun q => h1 (h.subset q)
      unfold pick
      rw [List.filter_cons_of_neg (by simp [hn])]
      exact pick_sub h2 h
    | @cons_cons g' _ _ h =>
      unfold pick
      rw [List.filter_cons_of_pos (by simp)]
      congr 1
      have e : (ps.filter fun m => decide (m ∈ n :: g')) = ps.filter fun m => decide (m ∈ g') := List.filter_congr fun m hm => by
        have : m ≠ n := fun q => h1 (q ▸ hm)
        simp [this]
      rw [e]
      exact pick_sub h2 h
theorem is_set_iff {ps g : List Str} (hp : ps.Nodup) : g = pick ps g ↔ g.Sublist ps := ⟨fun h => by rw [h]; exact List.filter_sublist, fun h => (pick_sub hp h).symm⟩
end OS

set_option Elab.async false
set_option linter.all false
set_option maxRecDepth 100000
set_option maxHeartbeats 4000000
/-! least groups, two ways -/
namespace OS
open PySem PySem.Spec PyProof.Rows L2 PySem.OSS
/-- all of o's names are in g -/
def inside (o g : List Str) : Bool := o.all fun n => decide (n ∈ g)
theorem inside_iff {o g : List Str} : inside o g = true ↔ ∀ n ∈ o, n ∈ g := by
  unfold inside
  simp
def givenP (ps : List Str) (rows : List (List Str)) : List (List Str) := (allG ps).filter fun g => decide (g ∈ rows)
def leastP (ps : List Str) (rows : List (List Str)) : List (List Str) := (givenP ps rows).filter fun g => !((givenP ps rows).any fun o => decide (o ≠ g) && inside o g)
def leastStep (A : List (List Str)) (g : List Str) : List (List Str) := if (A.filter fun o => inside o g) = [] then A ++ [g] else A
def leastL (rows : List (List Str)) : List (List Str) := (rows.mergeSort leP).foldl leastStep []
theorem sub_of_inside {ps a b : List Str} (hp : ps.Nodup) (ha : a.Sublist ps) (hb : b.Sublist ps) (h : ∀ n ∈ a, n ∈ b) : a.Sublist b := by
  have e : (pick ps b).filter (fun n => decide (n ∈ a)) = pick ps a := by
    unfold pick
    rw [List.filter_filter]
    refine List.filter_congr fun n _ => ?_
    by_cases q : n ∈ a
    · simp [q, h n q]
    · simp [q]
  rw [pick_sub hp ha, pick_sub hp hb] at e
  rw [← e]
  exact List.filter_sublist
structure LeastInv (ps : List Str) (pre A : List (List Str)) : Prop where
  sub : A.Sublist pre
  nd : A.Nodup
  cov : ∀ o ∈ pre, ∃ f ∈ A, ∀ n ∈ f, n ∈ o
  min : ∀ g ∈ A, ∀ o ∈ pre, (∀ n ∈ o, n ∈ g) → o = g
theorem LeastInv.step {ps : List Str} {pre A : List (List Str)} {g : List Str} (hp : ps.Nodup) (I : LeastInv ps pre A) (hs : ∀ o ∈ pre ++ [g], o.Sublist ps) (hle : ∀ o ∈ pre, leP o g = true) : LeastInv ps (pre ++ [g]) (leastStep A g) := by
  have hg := hs g (by simp)
  have old : ∀ g' ∈ A, (∀ n ∈ g, n ∈ g') → g = g' := fun g' h' hin => by
    have h'' := I.sub.subset h'
    have s := sub_of_inside hp hg (hs g' (List.mem_append_left _ h'')) hin
    obtain ⟨l1, _⟩ := (leP_iff g' g).mp (hle g' h'')
    exact s.eq_of_length_le (by omega)
  unfold leastStep
  by_cases q : (A.filter fun o => inside o g) = []
  · rw [if_pos q]
    have no : ∀ f ∈ A, ¬ ∀ n ∈ f, n ∈ g := fun f hf hin => (List.filter_eq_nil_iff.mp q) f hf (inside_iff.mpr hin)
    refine ⟨I.sub.append (List.Sublist.refl _), List.nodup_append.mpr ⟨I.nd, by simp, fun a ha b hb e => ?_⟩, fun o ho => ?_, fun g' h' o ho hin => ?_⟩
    · rw [List.mem_singleton] at hb
      subst e
      subst hb
      exact no _ ha fun n h => h
    · rcases List.mem_append.mp ho with ho | ho
      · obtain ⟨f, hf, h⟩ := I.cov o ho
        exact ⟨f, List.mem_append_left _ hf, h⟩
      · rw [List.mem_singleton] at ho
        subst ho
        exact ⟨o, by simp, fun n h => h⟩
    · rcases List.mem_append.mp h' with h5 | h5
      · rcases List.mem_append.mp ho with ho1 | ho1
        · exact I.min g' h5 o ho1 hin
        · rw [List.mem_singleton] at ho1
          subst ho1
          exact old g' h5 hin
      · rw [List.mem_singleton] at h5
        subst h5
        rcases List.mem_append.mp ho with ho | ho
        · obtain ⟨f, hf, h⟩ := I.cov o ho
          exact absurd (fun n hn => hin n (h n hn)) (no f hf)
        · exact List.mem_singleton.mp ho
  · rw [if_neg q]
    obtain ⟨f, hf⟩ := List.exists_mem_of_ne_nil _ q
    obtain ⟨hfA, hin⟩ := List.mem_filter.mp hf
    refine ⟨I.sub.trans (List.sublist_append_left _ _), I.nd, fun o ho => ?_, fun g' h' o ho hin' => ?_⟩
    · rcases List.mem_append.mp ho with ho | ho
      · exact I.cov o ho
      · rw [List.mem_singleton] at ho
        subst ho
        exact ⟨f, hfA, inside_iff.mp hin⟩
    · rcases List.mem_append.mp ho with ho | ho
      · exact I.min g' h' o ho hin'
      · rw [List.mem_singleton] at ho
        subst ho
        exact old g' h' hin'
theorem LeastInv.run {ps : List Str} (hp : ps.Nodup) : ∀ (suf pre A : List (List Str)), LeastInv ps pre A → (∀ o ∈ pre ++ suf, o.Sublist ps) → (pre ++ suf).Pairwise (fun a b => leP a b = true) → LeastInv ps (pre ++ suf) (suf.foldl leastStep A)
  | [], pre, A, I, _, _ => by
    rw [List.append_nil]
    exact I
  | g :: suf, pre, A, I, hs, hle => by
    have e : pre ++ g :: suf = (pre ++ [g]) ++ suf := by simp
    rw [e] at hs hle ⊢
    rw [List.foldl_cons]
    exact LeastInv.run hp suf _ _ (I.step hp (fun o ho => hs o (List.mem_append_left _ ho)) fun o ho => (List.pairwise_append.mp (List.pairwise_append.mp hle).1).2.2 o ho g (by simp)) hs hle
theorem least_same {ps : List Str} {rows : List (List Str)} (hp : ps.Nodup) (hr : ∀ g ∈ rows, g.Sublist ps) : leastL rows = leastP ps rows := by
  have hm : ∀ g, g ∈ rows.mergeSort leP ↔ g ∈ rows := fun g => (List.mergeSort_perm _ _).mem_iff
  have I : LeastInv ps (rows.mergeSort leP) (leastL rows) := LeastInv.run hp _ [] [] ⟨.slnil, .nil, (fun _ h => by simp at h), fun _ h => by simp at h⟩ (fun o ho => hr o ((hm o).mp ho)) (PySem.W.sort_pairwise leP_total _)
  have hG : ∀ g, g ∈ givenP ps rows ↔ g ∈ rows := fun g => by
    unfold givenP
    rw [List.mem_filter, mem_allG, decide_eq_true_eq]
    exact ⟨fun h => h.2, fun h => ⟨hr g h, h⟩⟩
  have sG : (leastP ps rows).Sublist (allG ps) := List.filter_sublist.trans List.filter_sublist
  refine orderly_one ((PySem.W.sort_pairwise leP_total _).sublist I.sub) ((sorted_allG ps).sublist sG) I.nd ((nodup_allG hp).sublist sG) fun g => ?_
  unfold leastP
  rw [List.mem_filter, hG, Bool.not_eq_true', List.any_eq_false]
  constructor
  · intro h
    refine ⟨(hm g).mp (I.sub.subset h), fun o ho => ?_⟩
    rw [Bool.and_eq_true, decide_eq_true_eq, inside_iff]
    rintro ⟨h1, h2⟩
    exact h1 (I.min g h o ((hm o).mpr ((hG o).mp ho)) h2)
  · rintro ⟨h1, h2⟩
    obtain ⟨f, hf, hin⟩ := I.cov g ((hm g).mpr h1)
    by_cases q : f = g
    · exact q ▸ hf
    · exact absurd (Bool.and_eq_true_iff.mpr ⟨decide_eq_true q, inside_iff.mpr hin⟩) (h2 f ((hG f).mpr ((hm f).mp (I.sub.subset hf))))
end OS

set_option Elab.async false
set_option linter.all false
set_option maxRecDepth 100000
set_option maxHeartbeats 4000000
/-! a text in a list or tuple of anything -/
namespace PySem.OSS
open PySem.SeqAt AutoSeq1 MeetsSeq PySem.Calls
theorem str_declines_dict (b : Str) (u : Tok) (l : Addr) (c : Value) (es : Array DictEntry) (n : Nat) (dd : Option Addr) (sl : Array (Option Value)) :
    Meets (Builtin.«str.__eq__» ⟨[.str b u, .ref l], []⟩) (fun _ R s => s.heap.get? l = some { cls := c, dict := dd, data := .dict es n, slots := sl } ∧ R (.ok (.ret .notImplemented)) s) :=
  .of_wp fun prog w A R s h => by obtain ⟨hp, g, d, tk, os⟩ := s; obtain ⟨hl, h⟩ := h; wp_walk using wpAny_loadPart' hl, wpAny_load hl; exact ⟨_, rfl, h⟩
theorem dict_declines_str (l : Addr) (es : Array DictEntry) (n : Nat) (dd : Option Addr) (sl : Array (Option Value)) (b : Str) (u : Tok) :
    Meets (Builtin.«dict.__eq__» ⟨[.ref l, .str b u], []⟩) (fun _ R s => s.heap.get? l = some { cls := .type "dict", dict := dd, data := .dict es n, slots := sl } ∧ R (.ok (.ret .notImplemented)) s) :=
  .of_wp fun prog w A R s h => by obtain ⟨hp, g, d, tk, os⟩ := s; obtain ⟨hl, h⟩ := h; have f1 := F.sub_str_dict; wp_walk using wpAny_loadPart' hl; exact ⟨_, rfl, h⟩
section
variable {A : Around} {s : Shared}
theorem rcAt_dict_str {l : Addr} {es : Array DictEntry} {n : Nat} {dd : Option Addr} {sl : Array (Option Value)} (b : Str) (u : Tok) (ho : s.heap.get? l = some { cls := .type "dict", dict := dd, data := .dict es n, slots := sl }) (hu : A.units < cLine) : RcAt A s (.ref l) (.str b u) false := fun prog w E Q h => by
  exact rc_eq_decline_or (k := false) ⟨_, ho, rfl⟩ (typeIs_str s b u) (by decide) F.sub_str_dict F.slot_dict_eq F.slot_str_eq_refl
    (fun _ hq => call_meets F.slot_dict_eq ⟨_, ho, rfl⟩ F.entry_dict_eq (F.args_dict_eq_2 _ _) (dict_declines_str l es n dd sl b u) ⟨ho, hq⟩)
    (fun _ hq => call_meets F.slot_str_eq_refl (typeIs_str s b u) F.entry_str_eq (F.args_str_eq_2 _ _) (str_declines_dict b u l (.type "dict") es n dd sl) ⟨ho, hq⟩)
    (fun _ hq => wpAny_of_eq (rfl : isSame (.ref l) (.str b u) = pure false) hq) (.inr hu) h
theorem eqAt_dict_str {l : Addr} {es : Array DictEntry} {n : Nat} {dd : Option Addr} {sl : Array (Option Value)} (b : Str) (u : Tok) (ho : s.heap.get? l = some { cls := .type "dict", dict := dd, data := .dict es n, slots := sl }) (hu : A.units < cLine) : EqAt A s (.ref l) (.str b u) false := fun prog w E Q h => by
  unfold eqBool
  refine wpAny_holding ?_
  refine wpAny_ite_split (fun hab => absurd (eq_of_beq hab) nofun) (fun _ => ?_)
  exact wpAny_bind (rcAt_dict_str b u ho hu prog w E _ (wpAny_truthy_bool h))
end
end PySem.OSS
namespace OS
open PySem PySem.Spec PyProof.Rows L2 PySem.OSS
/-- a thing that a list or tuple may hold -/
inductive Itm (K : PySem.W.Frag) (H : Hp) : V → Prop
  | flat {v : V} : flatV v = true → Itm K H v
  | lst {a : Addr} {zs : List V} : SqL K H a zs → Itm K H (.ref a)
  | tup {a : Addr} {zs : List V} : SqT K H a zs → Itm K H (.ref a)
  | dct {a : Addr} {kvs : List (Key × V)} : H a = some (.dK kvs) → Itm K H (.ref a)
def isS (z : Str) : V → Bool
  | .str t => t == z
  | _ => false
def isU (z : Str) : Value → Bool
  | .str t _ => t == z
  | _ => false
theorem isU_eq {z : Str} {y : V} {u : Value} (r : RelV y u) : isU z u = isS z y := by
  cases y with
  | str t => obtain ⟨k, rfl⟩ := r; rfl
  | int i => obtain ⟨k, rfl⟩ := r; rfl
  | byt i => obtain ⟨k, rfl⟩ := r; rfl
  | flt i => obtain ⟨k, rfl⟩ := r; rfl
  | _ => cases r; rfl
theorem flat_isS {z : Str} {y : V} (f : flatV y = true) : eqV y (.str z) = isS z y := by
  cases y <;> first | rfl | exact absurd (show false = true from f) Bool.false_ne_true
theorem any_isU {z : Str} : ∀ {xs : List V} {us : List Value}, Vals xs us → us.any (isU z) = xs.any (isS z)
  | _, _, .nil => rfl
  | _, _, .cons r t => by rw [List.any_cons, List.any_cons, isU_eq r, any_isU t]
section
variable {X : Cx} {pins : List (Addr × Obj)} {σ : L2.St} {H : Hp} {s : Shared}
theorem itm_eqAt (I : Inv X pins σ H s) {z : Str} {t : Tok} {A : Around} (hu : A.units < cLine) : ∀ {xs : List V} {us : List Value}, Vals xs us → (∀ v ∈ xs, Itm X.K H v) → ∀ u ∈ us, SeqAt.EqAt A s u (.str z t) (isU z u)
  | _, _, .nil, _, u, hm => absurd hm (by simp)
  | _, _, .cons (a := y) r tl, h, u, hm => by
    rcases List.mem_cons.mp hm with rfl | hm
    · have hy := h y (List.mem_cons_self ..)
      rw [isU_eq r]
      cases hy with
      | flat f =>
        have q := eqAt_V (A := A) (s := s) r (show RelV (.str z) (.str z t) from ⟨t, rfl⟩) f rfl
        rw [flat_isS f] at q
        exact q
      | lst hs =>
        cases r
        obtain ⟨its, _, pl, _⟩ := I.list hs
        exact SeqAt.EqAt.list_str z t pl.isList hu
      | tup hs =>
        cases r
        obtain ⟨its, _, pl, _⟩ := I.tuple hs
        exact SeqAt.EqAt.tuple_str z t pl hu
      | dct hd =>
        cases r
        obtain ⟨_, _, vs, _, o, es, ep, ho, ⟨h1, h2, h3⟩, h4, _⟩ := I.hok _ _ hd
        obtain ⟨cls, dd, data, sl⟩ := o
        simp only at h1 h4
        subst h1 h4
        exact eqAt_dict_str z t ho hu
    · exact itm_eqAt I hu tl (fun v hv => h v (List.mem_cons_of_mem _ hv)) u hm
/-- a text in a list or tuple of anything -/
def rInAny (K : PySem.W.Frag) (neg : Bool) : R2 := fun x y H Q => ∃ z p xs, x = .str z ∧ y = .ref p ∧ (SqL K H p xs ∨ SqT K H p xs) ∧ (∀ v ∈ xs, Itm K H v) ∧ Q (.bl (if neg then !xs.any (isS z) else xs.any (isS z))) H
theorem op_inAny (hu : X.A.units + 65 < cLine) : OpR X (compareOp .In) (rInAny X.K false) := by
  intro pins s σ H x y v u Q I rx ry h
  obtain ⟨z, p, xs, rfl, rfl, hq, hi, q⟩ := h
  obtain ⟨t, rfl⟩ := rx
  cases ry
  have hu1 : X.A.in1.units < cLine := by
    show X.A.units + 1 < cLine
    omega
  rcases hq with hq | hq
  · obtain ⟨its, r, pl, hz⟩ := I.list hq
    refine SeqAt.in_listAt (isU z) pl.isList (fun w hw => itm_eqAt I hu1 r hi w (by simpa using hw)) ⟨.bl _, H, I, rfl, ?_⟩
    rw [show its.toArray.any (isU z) = its.any (isU z) by simp, any_isU r]
    exact q
  · obtain ⟨its, r, pl, hz⟩ := I.tuple hq
    refine SeqAt.in_tupleAt (isU z) pl (fun w hw => itm_eqAt I hu1 r hi w (by simpa using hw)) ⟨.bl _, H, I, rfl, ?_⟩
    rw [show its.toArray.any (isU z) = its.any (isU z) by simp, any_isU r]
    exact q
theorem op_notInAny (hu : X.A.units + 65 < cLine) : OpR X (compareOp .NotIn) (rInAny X.K true) := by
  intro pins s σ H x y v u Q I rx ry h
  obtain ⟨z, p, xs, rfl, rfl, hq, hi, q⟩ := h
  obtain ⟨t, rfl⟩ := rx
  cases ry
  have hu1 : X.A.in1.units < cLine := by
    show X.A.units + 1 < cLine
    omega
  rcases hq with hq | hq
  · obtain ⟨its, r, pl, hz⟩ := I.list hq
    refine SeqAt.notIn_listAt (isU z) pl.isList (fun w hw => itm_eqAt I hu1 r hi w (by simpa using hw)) ⟨.bl _, H, I, rfl, ?_⟩
    rw [show its.toArray.any (isU z) = its.any (isU z) by simp, any_isU r]
    exact q
  · obtain ⟨its, r, pl, hz⟩ := I.tuple hq
    refine SeqAt.notIn_tupleAt (isU z) pl (fun w hw => itm_eqAt I hu1 r hi w (by simpa using hw)) ⟨.bl _, H, I, rfl, ?_⟩
    rw [show its.toArray.any (isU z) = its.any (isU z) by simp, any_isU r]
    exact q
end
end OS

set_option Elab.async false
set_option linter.all false
set_option maxRecDepth 100000
set_option maxHeartbeats 4000000
/-! == of anything with tuples and lists of texts -/
namespace PySem.OSS
open PySem.SeqAt AutoSeq1 MeetsSeq PySem.Calls
theorem tuple_declines_dict (l b : Addr) (items : Array Value) (es : Array DictEntry) (n n2 : Nat) (dd dd2 : Option Addr) (sl sl2 : Array (Option Value)) :
    Meets (Builtin.«tuple.__eq__» ⟨[.ref l, .ref b], []⟩) (fun _ R s => s.heap.get? l = some { cls := .type "tuple", dict := dd, data := .seq items n, slots := sl } ∧ s.heap.get? b = some { cls := .type "dict", dict := dd2, data := .dict es n2, slots := sl2 } ∧ R (.ok (.ret .notImplemented)) s) :=
  .of_wp fun prog w A R s h => by obtain ⟨hp, g, d, tk, os⟩ := s; obtain ⟨hl, hb, h⟩ := h; have f1 := F.sub_dict_tuple; wp_walk using wpAny_loadPart' hl, wpAny_loadPart' hb; exact ⟨_, rfl, h⟩
theorem dict_declines_tuple (l b : Addr) (items : Array Value) (es : Array DictEntry) (n n2 : Nat) (dd dd2 : Option Addr) (sl sl2 : Array (Option Value)) :
    Meets (Builtin.«dict.__eq__» ⟨[.ref b, .ref l], []⟩) (fun _ R s => s.heap.get? l = some { cls := .type "tuple", dict := dd, data := .seq items n, slots := sl } ∧ s.heap.get? b = some { cls := .type "dict", dict := dd2, data := .dict es n2, slots := sl2 } ∧ R (.ok (.ret .notImplemented)) s) :=
  .of_wp fun prog w A R s h => by obtain ⟨hp, g, d, tk, os⟩ := s; obtain ⟨hl, hb, h⟩ := h; have f1 := F.sub_tuple_dict; wp_walk using wpAny_loadPart' hl, wpAny_loadPart' hb; exact ⟨_, rfl, h⟩
section
variable {A : Around} {s : Shared}
/-- a dict is no tuple -/
theorem rcAt_dict_tuple {b l : Addr} {items : Array Value} {es : Array DictEntry} {n2 : Nat} {dd2 : Option Addr} {sl2 : Array (Option Value)} (hl : s.heap.IsTuple l items) (ho2 : s.heap.get? b = some { cls := .type "dict", dict := dd2, data := .dict es n2, slots := sl2 }) (hu : A.units < cLine) : RcAt A s (.ref b) (.ref l) false := fun prog w E Q h => by
  obtain ⟨⟨cls, dd, data, sl⟩, ho, hc, n, hd⟩ := id hl
  simp only at hc hd
  subst hc hd
  have hne : b ≠ l := fun e => by
    subst e
    have q := congrArg (fun o : Obj => o.cls) (Option.some.inj (ho.symm.trans ho2))
    exact absurd q (by simp)
  exact (rc_eq_decline_or (k := false) ⟨_, ho2, rfl⟩ ⟨_, ho, rfl⟩ (by decide) F.sub_tuple_dict F.slot_dict_eq F.slot_tuple_eq_refl
    (fun _ hq => call_meets F.slot_dict_eq ⟨_, ho2, rfl⟩ F.entry_dict_eq (F.args_dict_eq_2 _ _) (dict_declines_tuple l b items es n n2 dd dd2 sl sl2) ⟨ho, ho2, hq⟩)
    (fun _ hq => call_meets F.slot_tuple_eq_refl ⟨_, ho, rfl⟩ F.entry_tuple_eq (F.args_tuple_eq_2 _ _) (tuple_declines_dict l b items es n n2 dd dd2 sl sl2) ⟨ho, ho2, hq⟩)
    (fun _ hq => wpAny_isSame_ref_other hne ho2 ho (by simp) hq) (.inr hu) h)
end
end PySem.OSS
namespace OS
open PySem PySem.Spec PyProof.Rows L2 PySem.OSS
/-- the things xs are the texts ys -/
def eqS : List V → List Str → Bool
  | [], [] => true
  | x :: xs, y :: ys => isS y x && eqS xs ys
  | _, _ => false
theorem eqS_range : ∀ (xs : List V) (ys : List Str), ((List.range (min xs.length ys.length)).all (fun j => isS (ys.getD j default) (xs.getD j .non)) && xs.length == ys.length) = eqS xs ys
  | [], [] => rfl
  | [], _ :: _ => by simp [eqS]
  | _ :: _, [] => by simp [eqS]
  | x :: xs, y :: ys => by
    have ih := eqS_range xs ys
    have e1 : min (x :: xs).length (y :: ys).length = min xs.length ys.length + 1 := by simp only [List.length_cons]; omega
    have e2 : ((x :: xs).length == (y :: ys).length) = (xs.length == ys.length) := by simp
    have e3 : (List.range (min xs.length ys.length + 1)).all (fun j => isS ((y :: ys).getD j default) ((x :: xs).getD j .non)) = (isS y x && (List.range (min xs.length ys.length)).all (fun j => isS (ys.getD j default) (xs.getD j .non))) := by
      rw [List.range_succ_eq_map, List.all_cons, List.all_map]
      first | rfl | simp [Function.comp_def]
    rw [e1, e2, e3, eqS, ← ih, Bool.and_assoc]
theorem eqS_len {xs : List V} {ys : List Str} (h : xs.length ≠ ys.length) : eqS xs ys = false := by
  rw [← eqS_range]
  simp [h]
theorem eqS_strs : ∀ xs ys : List Str, eqS (xs.map .str) ys = decide (xs = ys)
  | [], [] => by simp [eqS]
  | [], _ :: _ => by simp [eqS]
  | _ :: _, [] => by simp [eqS]
  | x :: xs, y :: ys => by
    show (isS y (.str x) && eqS (xs.map .str) ys) = _
    rw [eqS_strs xs ys]
    show ((x == y) && decide (xs = ys)) = decide (x :: xs = y :: ys)
    by_cases h1 : x = y <;> by_cases h2 : xs = ys <;> simp [h1, h2]
theorem eqS_true : ∀ {xs : List V} {ys : List Str}, eqS xs ys = true → xs = ys.map .str
  | [], [], _ => rfl
  | [], _ :: _, h => by simp [eqS] at h
  | _ :: _, [], h => by simp [eqS] at h
  | x :: xs, y :: ys, h => by
    rw [eqS, Bool.and_eq_true] at h
    rw [List.map_cons, eqS_true h.2]
    congr 1
    cases x with
    | str t => exact congrArg V.str (eq_of_beq h.1)
    | _ => exact absurd h.1 (by simp [isS])
section
variable {X : Cx} {pins : List (Addr × Obj)} {σ : L2.St} {H : Hp} {s : Shared}
theorem strs_at : ∀ {ys : List Str} {us : List Value} {j : Nat}, Vals (ys.map V.str) us → j < us.length → ∃ t, us[j]? = some (.str (ys.getD j default) t)
  | [], _, j, r, hj => by
    have r' : Vals [] _ := r
    cases r'
    exact absurd hj (by simp)
  | y :: ys, _, j, r, hj => by
    have r' : Vals (V.str y :: ys.map V.str) _ := r
    cases r' with
    | cons h t =>
      cases j with
      | zero =>
        obtain ⟨k, rfl⟩ := h
        exact ⟨k, rfl⟩
      | succ j =>
        obtain ⟨k, hk⟩ := strs_at (ys := ys) (j := j) t (by simpa using hj)
        exact ⟨k, hk⟩
theorem itms_at : ∀ {xs : List V} {us : List Value} {j : Nat} {u : Value}, Vals xs us → us[j]? = some u → RelV (xs.getD j .non) u
  | _, _, j, u, .nil, h => by simp at h
  | _, _, 0, u, .cons r t, h => by
    have e : _ = u := Option.some.inj h
    subst e
    exact r
  | _ :: xs, _ :: us, j + 1, u, .cons r t, h => itms_at (xs := xs) (us := us) (j := j) t h
theorem items_eq (I : Inv X pins σ H s) {A : Around} (hu : A.units < cLine) {xs : List V} {ys : List Str} {us ws : List Value} (rx : Vals xs us) (ry : Vals (ys.map V.str) ws) (hi : ∀ v ∈ xs, Itm X.K H v) :
    ∀ j (h1 : j < us.toArray.size) (h2 : j < ws.toArray.size), SeqAt.EqAt A s us.toArray[j] ws.toArray[j] (isS (ys.getD j default) (xs.getD j .non)) := by
  intro j h1 h2
  have h1' : j < us.length := by simpa using h1
  have h2' : j < ws.length := by simpa using h2
  obtain ⟨t, ht⟩ := strs_at ry h2'
  have e1 : us[j]? = some us[j] := List.getElem?_eq_getElem h1'
  have e2 : ws[j]? = some ws[j] := List.getElem?_eq_getElem h2'
  have e3 : ws[j] = .str (ys.getD j default) t := Option.some.inj (e2.symm.trans ht)
  show SeqAt.EqAt A s us[j] ws[j] _
  rw [e3, ← isU_eq (itms_at rx e1)]
  exact itm_eqAt I hu rx hi _ (List.getElem_mem h1')
/-- a tuple of anything against a tuple of texts -/
def rEqTS (K : PySem.W.Frag) : R2 := fun x y H Q => ∃ a b xs ys, x = .ref a ∧ y = .ref b ∧ SqT K H a xs ∧ (∀ v ∈ xs, Itm K H v) ∧ SqT K H b (ys.map V.str) ∧ Q (.bl (eqS xs ys)) H
/-- a list of anything against a list of texts -/
def rEqLS (K : PySem.W.Frag) : R2 := fun x y H Q => ∃ a b xs ys, x = .ref a ∧ y = .ref b ∧ SqL K H a xs ∧ (∀ v ∈ xs, Itm K H v) ∧ SqL K H b (ys.map V.str) ∧ Q (.bl (eqS xs ys)) H
theorem op_eqTS (hu : X.A.units + 65 < cLine) : OpR X (compareOp .Eq) (rEqTS X.K) := by
  intro pins s σ H x y v u Q I rx ry h
  obtain ⟨a, b, xs, ys, rfl, rfl, hx, hi, hy, q⟩ := h
  cases rx
  cases ry
  obtain ⟨its, r, pl, hz⟩ := I.tuple hx
  obtain ⟨its2, r2, pl2, hz2⟩ := I.tuple hy
  refine SeqAt.eq_tupleAt pl pl2 (by omega) (items_eq I (by show X.A.units + 1 < cLine; omega) r r2 hi) ⟨.bl _, H, I, rfl, ?_⟩
  have e1 : its.toArray.size = xs.length := by simp [r.length]
  have e2 : its2.toArray.size = ys.length := by
    have := r2.length
    simp at this ⊢
    exact this.symm
  rw [e1, e2, eqS_range]
  exact q
theorem op_eqLS (hu : X.A.units + 65 < cLine) : OpR X (compareOp .Eq) (rEqLS X.K) := by
  intro pins s σ H x y v u Q I rx ry h
  obtain ⟨a, b, xs, ys, rfl, rfl, hx, hi, hy, q⟩ := h
  cases rx
  cases ry
  obtain ⟨its, r, pl, hz⟩ := I.list hx
  obtain ⟨its2, r2, pl2, hz2⟩ := I.list hy
  have e1 : its.toArray.size = xs.length := by simp [r.length]
  have e2 : its2.toArray.size = ys.length := by
    have := r2.length
    simp at this ⊢
    exact this.symm
  by_cases hl : xs.length = ys.length
  · refine SeqAt.eq_listAt pl.isList pl2.isList (by rw [e1, e2, hl]) (by omega) (items_eq I (by show X.A.units + 1 < cLine; omega) r r2 hi) ⟨.bl _, H, I, rfl, ?_⟩
    have e3 := eqS_range xs ys
    rw [← hl, Nat.min_self] at e3
    rw [e1]
    simp only [beq_self_eq_true, Bool.and_true] at e3
    rw [e3]
    exact q
  · refine SeqAt.eq_list_lengthsAt pl.isList pl2.isList (by rw [e1, e2]; simp [hl]) (by omega) ⟨.bl _, H, I, rfl, ?_⟩
    rw [eqS_len hl] at q
    exact q
/-- is the thing the empty tuple? -/
inductive EmpIs (K : PySem.W.Frag) (H : Hp) : V → Bool → Prop
  | flat {v : V} : flatV v = true → EmpIs K H v false
  | lst {a : Addr} {zs : List V} : SqL K H a zs → EmpIs K H (.ref a) false
  | tup {a : Addr} {zs : List V} : SqT K H a zs → EmpIs K H (.ref a) zs.isEmpty
  | dct {a : Addr} {kvs : List (Key × V)} : H a = some (.dK kvs) → EmpIs K H (.ref a) false
/-- anything against () -/
def rEqEmp (K : PySem.W.Frag) : R2 := fun x y H Q => ∃ b k, EmpIs K H x k ∧ y = .ref b ∧ SqT K H b [] ∧ Q (.bl k) H
theorem op_eqEmp (hu : X.A.units + 65 < cLine) : OpR X (compareOp .Eq) (rEqEmp X.K) := by
  intro pins s σ H x y v u Q I rx ry h
  obtain ⟨b, k, hx, rfl, hy, q⟩ := h
  cases ry
  obtain ⟨its2, r2, pl2, hz2⟩ := I.tuple hy
  have hu1 : X.A.units < cLine := by omega
  cases hx with
  | flat f =>
    cases x with
    | non =>
      cases rx
      exact SeqAt.RcAt.none_tuple pl2 hu1 X.prog X.w _ _ ⟨.bl _, H, I, rfl, q⟩
    | bl c =>
      cases rx
      exact SeqAt.RcAt.bool_tuple c pl2 hu1 X.prog X.w _ _ ⟨.bl _, H, I, rfl, q⟩
    | int i =>
      obtain ⟨t, rfl⟩ := rx
      exact SeqAt.RcAt.int_tuple i t pl2 hu1 X.prog X.w _ _ ⟨.bl _, H, I, rfl, q⟩
    | str z =>
      obtain ⟨t, rfl⟩ := rx
      exact SeqAt.RcAt.str_tuple z t pl2 hu1 X.prog X.w _ _ ⟨.bl _, H, I, rfl, q⟩
    | _ => exact absurd (show false = true from f) Bool.false_ne_true
  | lst hs =>
    cases rx
    obtain ⟨its, r, pl, hz⟩ := I.list hs
    exact SeqAt.RcAt.list_tuple pl.isList pl2 hu1 X.prog X.w _ _ ⟨.bl _, H, I, rfl, q⟩
  | tup hs =>
    rename_i a zs
    cases rx
    obtain ⟨its, r, pl, hz⟩ := I.tuple hs
    cases r2
    refine SeqAt.eq_tupleAt (e := fun _ => true) pl pl2 hu1 (fun j h1 h2 => absurd h2 (by simp)) ⟨.bl _, H, I, rfl, ?_⟩
    have e1 : its.toArray.size = zs.length := by simp [r.length]
    rw [e1]
    have e2 : ((List.range (min zs.length ([] : List Value).toArray.size)).all (fun _ => true) && zs.length == ([] : List Value).toArray.size) = zs.isEmpty := by
      cases zs <;> simp
    rw [e2]
    exact q
  | dct hd =>
    cases rx
    obtain ⟨_, _, vs, _, o, es, ep, ho, ⟨h1, h2, h3⟩, h4, _⟩ := I.hok _ _ hd
    obtain ⟨cls, dd, data, sl⟩ := o
    simp only at h1 h4
    subst h1 h4
    exact rcAt_dict_tuple pl2 ho hu1 X.prog X.w _ _ ⟨.bl _, H, I, rfl, q⟩
end
end OS

set_option Elab.async false
set_option linter.all false
set_option maxRecDepth 100000
set_option maxHeartbeats 4000000
/-! ==, !=, in, not in of data without dicts: nothing asked of the texts -/
namespace OS
open PySem PySem.Spec PyProof.Rows L2 PySem.OSS
mutual
theorem dp_plain {K : PySem.W.Frag} {H : Hp} : ∀ (d : PyData) (v : V), Dp K H v d → d.plain = true
  | .none, _, _ => rfl
  | .bool _, _, _ => rfl
  | .int _, _, _ => rfl
  | .str _, _, _ => rfl
  | .list ds, _, h => by
    cases h with
    | lst _ ha =>
      simp only [PyData.plain]
      exact dp_plains ds _ ha
  | .tuple ds, _, h => by
    cases h with
    | tup _ ha =>
      simp only [PyData.plain]
      exact dp_plains ds _ ha
  | .dict _, _, h => by cases h
theorem dp_plains {K : PySem.W.Frag} {H : Hp} : ∀ (ds : List PyData) (vs : List V), DpAll K H vs ds → PyData.plainAll ds = true
  | [], _, _ => rfl
  | d :: ds, _, h => by
    cases h with
    | cons h1 h2 =>
      simp only [PyData.plainAll]
      rw [dp_plain d _ h1, dp_plains ds _ h2]
      rfl
end
section
variable {X : Cx}
def rEqP (K : PySem.W.Frag) : R2 := fun x y H Q => ∃ d e, Dp K H x d ∧ Dp K H y e ∧ d.depth ≤ 60 ∧ Q (.bl (PyData.eqv d e)) H
def rNeP (K : PySem.W.Frag) : R2 := fun x y H Q => ∃ d e, Dp K H x d ∧ Dp K H y e ∧ d.depth ≤ 60 ∧ Q (.bl (!PyData.eqv d e)) H
theorem op_eqP (hu : X.A.units + 65 < cLine) : OpR X (compareOp .Eq) (rEqP X.K) := by
  intro pins s σ H x y v u Q I rx ry h
  obtain ⟨d, e, hd, he, hn, q⟩ := h
  obtain ⟨as, r1⟩ := Dp.reads I d x v hd rx
  obtain ⟨bs, r2⟩ := Dp.reads I e y u he ry
  exact SeqAt.eq_plain r1 r2 (dp_plain d _ hd) (dp_plain e _ he) (by omega) ⟨.bl _, H, I, rfl, q⟩
theorem op_neP (hu : X.A.units + 65 < cLine) : OpR X (compareOp .NotEq) (rNeP X.K) := by
  intro pins s σ H x y v u Q I rx ry h
  obtain ⟨d, e, hd, he, hn, q⟩ := h
  obtain ⟨as, r1⟩ := Dp.reads I d x v hd rx
  obtain ⟨bs, r2⟩ := Dp.reads I e y u he ry
  exact SeqAt.ne_plain r1 r2 (dp_plain d _ hd) (dp_plain e _ he) (by omega) ⟨.bl _, H, I, rfl, q⟩
def rInP (K : PySem.W.Frag) (neg : Bool) : R2 := fun x y H Q => ∃ d ds, Dp K H x d ∧ (Dp K H y (.list ds) ∨ Dp K H y (.tuple ds)) ∧ d.depth ≤ 60 ∧ Q (.bl (if neg then !ds.any fun z => PyData.eqv z d else ds.any fun z => PyData.eqv z d)) H
theorem op_inP (hu : X.A.units + 65 < cLine) : OpR X (compareOp .In) (rInP X.K false) := by
  intro pins s σ H x y v u Q I rx ry h
  obtain ⟨d, ds, hd, he, hn, q⟩ := h
  obtain ⟨as, r1⟩ := Dp.reads I d x v hd rx
  rcases he with he | he
  · obtain ⟨bs, r2⟩ := Dp.reads I _ y u he ry
    exact SeqAt.in_list_data r2 r1 (by have := dp_plain _ _ he; simpa only [PyData.plain] using this) (dp_plain d _ hd) (by omega) ⟨.bl _, H, I, rfl, q⟩
  · obtain ⟨bs, r2⟩ := Dp.reads I _ y u he ry
    exact SeqAt.in_tuple_data r2 r1 (by have := dp_plain _ _ he; simpa only [PyData.plain] using this) (dp_plain d _ hd) (by omega) ⟨.bl _, H, I, rfl, q⟩
theorem op_notInP (hu : X.A.units + 65 < cLine) : OpR X (compareOp .NotIn) (rInP X.K true) := by
  intro pins s σ H x y v u Q I rx ry h
  obtain ⟨d, ds, hd, he, hn, q⟩ := h
  obtain ⟨as, r1⟩ := Dp.reads I d x v hd rx
  rcases he with he | he
  · obtain ⟨bs, r2⟩ := Dp.reads I _ y u he ry
    exact SeqAt.notIn_list_data r2 r1 (by have := dp_plain _ _ he; simpa only [PyData.plain] using this) (dp_plain d _ hd) (by omega) ⟨.bl _, H, I, rfl, q⟩
  · obtain ⟨bs, r2⟩ := Dp.reads I _ y u he ry
    exact SeqAt.notIn_tuple_data r2 r1 (by have := dp_plain _ _ he; simpa only [PyData.plain] using this) (dp_plain d _ hd) (by omega) ⟨.bl _, H, I, rfl, q⟩
end
end OS

set_option Elab.async false
set_option linter.all false
set_option maxRecDepth 100000
set_option maxHeartbeats 4000000
/-! tuples told by what they hold; sorted of a tuple -/
namespace PySem.OSS
open PySem PySem.Calls PySem.W PyProof.Rows
section
variable {prog : Program} {w : World} {A : Around} {E : Value → Shared → Prop} {s : Shared}
theorem collect_tup {l : Addr} {vs : List Value} {Q : List Value → Shared → Prop} (hl : IsTup s.heap l vs.toArray)
    (h : Q vs { s with heap := (s.heap.push (seqObj "list" #[] 0)).update s.heap.objs.size (Obj.mapSeq (· ++ vs.toArray)) }) (hsz : vs.length ≤ sizeLine) :
    wpAny (model prog w) A (collect (.ref l)) Q E s := by
  obtain ⟨o, ho, hc, n, hd⟩ := id hl
  unfold collect
  refine wpAny_bind (wpAny_runValue (codeAny_builtin entry_proto_collect' ?_))
  show wpAny _ _ (do again (.builtin "list.__iadd__" ⟨[← newList [], .ref l], []⟩)) _ _ s
  refine wpAny_bind (wpAny_newList (wpAny_pure ⟨Code.quiet_builtin _ (by decide +kernel), codeAny_builtin entry_list_iadd' ?_⟩))
  show wpAny _ _ (Builtin.List.listExtendWith (.ref s.heap.objs.size) (.ref l) (.ref s.heap.objs.size)) _ _ { s with heap := s.heap.push (seqObj "list" #[] 0) }
  unfold Builtin.List.listExtendWith
  have ho' : (s.heap.push (seqObj "list" #[] 0)).get? l = some o := Heap.get?_push_of_some _ ho
  refine wpAny_bind (wpAny_typeOf (T := "tuple") ⟨o, ho', hc⟩ ?_)
  have ht : (Value.type "tuple" == Value.type "tuple") = true := by rfl
  rw [if_pos (by rw [ht]; simp)]
  refine wpAny_bind (listItems_at ho' hd ?_)
  refine wpAny_bind (listItems_at (xs := #[]) (n := 0) (Heap.get?_push_size _ rfl) rfl ?_)
  rw [if_neg (by simp)]
  refine wpAny_bind (listUpdate_at (xs := #[]) (n := 0) (Heap.get?_push_size _ rfl) rfl ?_ (Nat.zero_le _) (by show (#[] ++ vs.toArray).size ≤ sizeLine + 1; simp only [Array.size_append, List.size_toArray, List.length_nil]; omega))
  refine wpAny_pure ?_
  show wpAny (model prog w) A (do
      let o ← load s.heap.objs.size
      match o.data with
      | .seq xs _ => pure xs.toList
      | _ => unsupported "internal:collect") Q E { s with heap := (s.heap.push (seqObj "list" #[] 0)).update s.heap.objs.size (Obj.mapSeq (· ++ vs.toArray)) }
  refine wpAny_bind (wpAny_load (get?_update_seq (Heap.get?_push_size _ rfl) _) ?_)
  show wpAny _ _ (pure ((#[] : Array Value) ++ vs.toArray).toList) Q E _
  rw [show ((#[] : Array Value) ++ vs.toArray).toList = vs by simp]
  exact wpAny_pure h
theorem sorted_of_sortT {l : Addr} {vs : List Value} {kw : List (Str × Value)} {Q : Value → Shared → Prop} (hl : IsTup s.heap l vs.toArray) (hL : vs.length ≤ sizeLine) (ha1 : argsOk "sorted" ⟨[.ref l], kw⟩) (ha2 : ∀ x, argsOk "list.sort" ⟨[.ref x], kw⟩)
    (body : ∀ E' : Value → Shared → Prop, wpAny (model prog w) A.in1.in1 (Builtin.«list.sort» ⟨[.ref (s.heap.objs.size + 1)], kw⟩) (fun f s' => f = .done (.ret .none) ∧ Q (.ref (s.heap.objs.size + 1)) s') E' { s with heap := copyHeap s.heap vs }) :
    wpAny (model prog w) A (call (.builtin "sorted") [.ref l] kw) Q E s := by
  refine call_function_entry_kw kind_sorted plain_sorted entry_sorted ha1 ?_
  unfold Builtin.«sorted»
  refine wpAny_bind (m := checkCount "sorted" 1 1 _) (wpAny_pure ?_)
  refine wpAny_bind (collect_tup hl ?_ hL)
  refine wpAny_bind (wpAny_newList ?_ hL)
  have hsz : ((s.heap.push (seqObj "list" #[] 0)).update s.heap.objs.size (Obj.mapSeq (· ++ vs.toArray))).objs.size = s.heap.objs.size + 1 := by
    rw [Heap.size_update, size_push']
  show wpAny _ _ _ _ _ { s with heap := copyHeap s.heap vs }
  rw [hsz]
  refine wpAny_bind (wpAny_holding (wpAny_call_entry_kw slot_list_sort ⟨_, copyHeap_at s.heap vs, rfl⟩ entry_list_sort ?body (ha2 _)))
  case body =>
    show wpAny (model prog w) A.in1.in1 (Builtin.«list.sort» ⟨[.ref (s.heap.objs.size + 1)], kw⟩) _ _ _
    refine wpAny_mono (body _) (fun f s' hf => ?_) fun _ _ e => e
    obtain ⟨rfl, hq⟩ := hf
    exact ⟨_, rfl, wpAny_pure ⟨_, rfl, hq⟩⟩
theorem sorted_dataT {β : Type} {vs : List Value} {bs : List β} {enc : β → PyData} {R : Value → β → Prop} {l : Addr} {Q : Value → Shared → Prop} (hl : IsTup s.heap l vs.toArray) (e : EachIs R vs bs) (er : EachIs (fun v b => ∃ as, Reads s.heap v (enc b) as) vs bs) (hal : AllAlike (bs.map enc)) (hk : SortableX (bs.map enc)) (hL : bs.length ≤ sizeLine)
    (hu : ∀ b, b ∈ bs → A.units + 2 + (enc b).depth < cLine) (h : ∀ out, out.length = bs.length → EachIs R out (bs.mergeSort (dataLe false enc)) → Q (.ref (s.heap.objs.size + 1)) { s with heap := sortedAll s.heap vs (List.toArray out) }) :
    wpAny (model prog w) A (call (.builtin "sorted") [.ref l]) Q E s := by
  have er' : EachIs (fun v b => ∃ as, Reads (sortingHeap (copyHeap s.heap vs) (s.heap.objs.size + 1) vs) v (enc b) as) vs bs := er.mono fun _ _ ⟨as, r⟩ => ⟨as, PyProof.Rows.Reads.keeps (fun _ _ => sorting_copy_old) r⟩
  have S := sorts_dataX (prog := prog) (w := w) (A := A.in1.in1) (s := { s with heap := sortingHeap (copyHeap s.heap vs) (s.heap.objs.size + 1) vs }) (each_map (R := fun v d => ∃ as, Reads (sortingHeap (copyHeap s.heap vs) (s.heap.objs.size + 1) vs) v d as) enc er') hal hk (bound_map hu)
  have hL' : vs.length ≤ sizeLine := by rw [e.length]; exact hL
  exact sorted_of_sortT hl hL' (args_sorted1 _) (fun _ => args_list_sort _) fun _ => list_sort_vals (s := { s with heap := copyHeap s.heap vs }) (copyHeap_at s.heap vs) S hL' ⟨rfl, h _ (by rw [sortVals_length false rfl]; exact e.length) (sortVals_data false e er' hal)⟩
end
end PySem.OSS
namespace OS
open PySem PySem.Spec PyProof.Rows L2 PySem.OSS
open PySem.W (EachIs AllAlike dataLe)
/-- texts in order -/
abbrev leS : Str → Str → Bool := dataLe false PyData.str
/-- sorted(xs): xs a list or tuple of texts -/
def rSortS (K : PySem.W.Frag) : List V → Hp → VK → Prop := fun vs H Q => ∃ (a : Addr) (ys : List Str), vs = [V.ref a] ∧ (SqL K H a (ys.map V.str) ∨ SqT K H a (ys.map V.str)) ∧ NewO H (.lst ((ys.mergeSort leS).map V.str)) Q
section
variable {X : Cx}
theorem alikes_str (ys : List Str) : AllAlike (ys.map PyData.str) := AllAlike.of fun _ _ => by simp [PySem.W.alike]
theorem cr_sortS (hu : X.A.units + 65 < cLine) : CallR X (.builtin "sorted") (rSortS X.K) := by
  intro pins s σ H vs us Q I r h
  obtain ⟨a, ys, rfl, hs, q⟩ := h
  obtain ⟨u, rfl, ru⟩ := vals1 r
  obtain rfl : u = Value.ref a := ru
  have hk : SortableX (ys.map PyData.str) := .inl (PySem.W.Sortable.others fun b => ⟨(fun z => nomatch z), fun xs z => nomatch z⟩)
  have done : ∀ {its : List Value} {out : List Value}, ys.length ≤ sizeLine → EachIs (fun v b => RelV (V.str b) v) out (ys.mergeSort leS) → EP X pins σ Q (.ref (s.heap.objs.size + 1)) { s with heap := sortedAll s.heap its (List.toArray out) } := fun {its out} hz eo => by
    obtain ⟨ep, he'⟩ := PyProof.Rows.sortedAll_at s.heap its out.toArray
    refine ⟨.ref _, upd H (s.heap.objs.size + 1) (.lst ((ys.mergeSort leS).map V.str)), I.laid (t' := s.toks) (fun _ _ => PyProof.Rows.sortedAll_old) (Nat.le_succ _) ⟨?_, out, ep, vals_of_each _ eo, he'⟩, rfl, q.to _ (I.hok.fresh (Nat.le_succ _))⟩
    rw [List.length_map, List.length_mergeSort]
    exact hz
  have rd : ∀ {its : List Value}, EachIs (fun v b => RelV (V.str b) v) its ys → EachIs (fun v b => ∃ as, Reads s.heap v (PyData.str b) as) its ys := fun e => e.mono fun v b r => by
    obtain ⟨t, rfl⟩ := r
    exact ⟨_, Reads.str b t⟩
  rcases hs with hs | hs
  · obtain ⟨its, rv, hl, hz⟩ := I.list hs
    rw [List.length_map] at hz
    have e := each_of_vals V.str rv
    exact sorted_dataX (R := fun v b => RelV (V.str b) v) (enc := PyData.str) hl.isList e (rd e) (alikes_str ys) hk hz (fun b hb => by simp only [PyData.depth]; omega) fun out _ eo => done hz eo
  · obtain ⟨its, rv, hl, hz⟩ := I.tuple hs
    rw [List.length_map] at hz
    have e := each_of_vals V.str rv
    exact sorted_dataT (R := fun v b => RelV (V.str b) v) (enc := PyData.str) hl e (rd e) (alikes_str ys) hk hz (fun b hb => by simp only [PyData.depth]; omega) fun out _ eo => done hz eo
/-- t + u -/
def rCatTO (K : PySem.W.Frag) : R2 := fun x y H Q => ∃ a b xs ys, x = .ref a ∧ y = .ref b ∧ SqT K H a xs ∧ SqT K H b ys ∧ xs.length + ys.length ≤ sizeLine ∧ ∀ q H', Same H H' → SqT K H' q (xs ++ ys) → Q (.ref q) H'
theorem op_catTO : OpR X (binaryOp .Add) (rCatTO X.K) := opImp op_catA fun x y H Q ⟨a, b, xs, ys, h1, h2, h3, h4, h5, q⟩ => ⟨a, b, xs, ys, h1, h2, h3, h4, h5, (fun e => by
  subst e
  exact q b H (Same.refl H) h4), (fun _ e => by
  subst e
  exact q a H (Same.refl H) (by rw [List.append_nil]; exact h3)), fun _ _ p hp => q p _ (same_new hp) (SqT.of upd_same)⟩
theorem cut_whole {xs : List V} {lo hi : Option Int} (h : HT.sIx xs.length 0 lo = 0 ∧ HT.sIx xs.length xs.length hi = xs.length) : cutV xs lo hi = xs := by
  unfold cutV
  rw [h.1, h.2]
  simp
/-- t[lo:hi] -/
def rSlTO (K : PySem.W.Frag) : V → Option Int → Option Int → Hp → VK → Prop := fun x lo hi H Q => ∃ a xs, x = .ref a ∧ SqT K H a xs ∧ ∀ q H', Same H H' → SqT K H' q (cutV xs lo hi) → Q (.ref q) H'
theorem sl_tupO : SlR X (rSlTO X.K) := slImp sl_tupA fun x lo hi H Q ⟨a, xs, h1, h2, q⟩ => ⟨a, xs, h1, h2, (fun h => q a H (Same.refl H) (by rw [cut_whole h]; exact h2)), fun _ p hp => q p _ (same_new hp) (SqT.of upd_same)⟩
/-- tuple(xs) of a list or a tuple -/
def rTupO (K : PySem.W.Frag) : List V → Hp → VK → Prop := fun xs H Q => ∃ p ys, xs = [.ref p] ∧ (SqL K H p ys ∨ SqT K H p ys) ∧ ∀ q H', Same H H' → SqT K H' q ys → Q (.ref q) H'
end
end OS

set_option Elab.async false
set_option linter.all false
set_option maxRecDepth 100000
set_option maxHeartbeats 4000000
/-! a tuple turned round -/
namespace OS
open PySem PySem.Spec PySem.Calls PyProof.Rows L2 HT
open PySem.W (krv_range krv_all)
section
variable {prog : Program} {w : World} {A : Around} {E : Value → Shared → Prop} {s : Shared}
theorem adjust_rev (n : Nat) : Builtin.Slice.sliceAdjust none none (-1) (n : Int) = ((n : Int) - 1, -1) := by
  unfold Builtin.Slice.sliceAdjust
  rfl
theorem places_rev (n : Nat) : Builtin.Slice.slicePlaces ((n : Int) - 1) (-1) (-1) = n := by
  unfold Builtin.Slice.slicePlaces
  have h1 : ¬ ((-1 : Int) > 0) := by omega
  simp only [h1, if_false, Int.neg_neg, Int.ediv_one]
  split <;> omega
theorem sliceApplied_rev {sl : Addr} {vs : Value} {n : Nat} {Q : Int × Int × Nat → Shared → Prop} (hs : s.heap.IsSliceOf sl .none .none vs) (ps : IsPart vs (some (-1)))
    (h : Q ((n : Int) - 1, -1, n) s) : wpAny (model prog w) A (Builtin.Slice.sliceApplied (.ref sl) (pure (n : Int))) Q E s := by
  obtain ⟨os, hos, hcs, hds⟩ := id hs
  unfold Builtin.Slice.sliceApplied Builtin.Slice.sliceFields
  refine wpAny_bind (wpAny_bind (wpAny_field hos hds (x := .none) rfl (wpAny_bind (wpAny_field hos hds (x := .none) rfl (wpAny_bind (wpAny_field hos hds (x := vs) rfl (wpAny_pure ?_)))))))
  refine wpAny_bind (slicePart_ ps ?_)
  show wpAny _ _ (if ((-1 : Int) == 0) = true then _ else _) _ _ s
  rw [if_neg (by decide)]
  refine wpAny_bind (slicePart_none (wpAny_bind (slicePart_none (wpAny_bind (wpAny_pure ?_)))))
  show wpAny _ _ (match Builtin.Slice.sliceAdjust none none (-1) (n : Int) with | (lo, hi) => pure (lo, (-1 : Int), Builtin.Slice.slicePlaces lo hi (-1))) _ _ s
  rw [adjust_rev]
  show wpAny _ _ (pure ((n : Int) - 1, (-1 : Int), Builtin.Slice.slicePlaces ((n : Int) - 1) (-1) (-1))) _ _ s
  rw [places_rev]
  exact wpAny_pure h
theorem pick_rev (xs : Array Value) : ((List.range xs.size).filterMap fun (m : Nat) => xs[(((xs.size : Int) - 1) + (m : Int) * (-1)).toNat]?).toArray = xs.toList.reverse.toArray := by
  have e : ((List.range xs.size).filterMap fun (m : Nat) => xs[(((xs.size : Int) - 1) + (m : Int) * (-1)).toNat]?) = ((List.range xs.size).map fun k => xs.size - 1 - k).filterMap (xs[·]?) := by
    rw [List.filterMap_map]
    congr 1
    funext m
    have : (((xs.size : Int) - 1) + (m : Int) * (-1)).toNat = xs.size - 1 - m := by omega
    show xs[(((xs.size : Int) - 1) + (m : Int) * (-1)).toNat]? = xs[xs.size - 1 - m]?
    rw [this]
  rw [e, krv_range, List.filterMap_reverse, krv_all]
theorem getItem_tuple_rev {t sl : Addr} {items : Array Value} {vs : Value} {Q : Value → Shared → Prop} (ht : IsTup s.heap t items) (hs : s.heap.IsSliceOf sl .none .none vs) (ps : IsPart vs (some (-1)))
    (h : Q (.ref s.heap.objs.size) { s with heap := s.heap.push { cls := .type "tuple", data := .seq items.toList.reverse.toArray } })
    (hsz : items.size ≤ sizeLine) : wpAny (model prog w) A (getItem (.ref t) (.ref sl)) Q E s := by
  have htake : sizeOk (.seq items.toList.reverse.toArray) := by
    show items.toList.reverse.toArray.size ≤ sizeLine
    rw [List.size_toArray, List.length_reverse, Array.length_toList]
    exact hsz
  obtain ⟨os, hos, hcs, hds⟩ := id hs
  have hTs : s.TypeIs (.ref sl) "slice" := ⟨os, hos, hcs⟩
  unfold getItem
  try with_reducible refine wpAny_holding ?_
  first | refine wpAny_bind (wpAny_pure ?_) | skip
  refine wpAny_bind (wpAny_sequenceKey ht.typeIs (by decide) ?_)
  refine wpAny_bind (wpAny_callSpecial?_slot (name := Str.ofString "__getitem__") ht.typeIs PyProof.Rows.slot_tuple_getitem
    (wpAny_call_entry PyProof.Rows.slot_tuple_getitem ht.typeIs entry_tuple_getitem ?_ (args_tuple_getitem _ _)))
  show wpAny _ _ (Builtin.Tuple.tupleItemsOf (.ref t) >>= _) _ _ s
  refine wpAny_bind (tupleItemsOf_ ht ?_)
  refine wpAny_bind (wpAny_typeOf hTs ?_)
  rw [if_pos (by decide)]
  refine wpAny_bind (sliceApplied_rev hs ps ?_)
  have hno : ¬ ((((items.size : Int) - 1) == 0 && (-1 : Int) == 1 && items.size == items.size) = true) := by simp
  show wpAny _ _ (if (((items.size : Int) - 1) == 0 && (-1 : Int) == 1 && items.size == items.size) = true then _ else _) _ _ s
  rw [if_neg hno, pick_rev]
  first
    | exact wpAny_bind (m := Builtin.Tuple.tupleExact _) (wpAny_newObj_type (wpAny_pure ⟨_, rfl, wpAny_pure h⟩) htake)
    | exact wpAny_bind (m := Builtin.Tuple.tupleExact _) (wpAny_newObj_type (wpAny_bind (wpAny_pure (wpAny_pure ⟨_, rfl, wpAny_pure h⟩))) htake)
    | exact wpAny_bind (wpAny_bind (m := Builtin.Tuple.tupleExact _) (wpAny_newObj_type (wpAny_pure (wpAny_pure ⟨_, rfl, wpAny_pure h⟩)) htake))
    | exact wpAny_bind (wpAny_bind (m := Builtin.Tuple.tupleExact _) (wpAny_newObj_type (wpAny_pure ⟨_, rfl, wpAny_pure h⟩) htake))
end
end OS
namespace OS
open PySem PySem.Spec PyProof.Rows L2 PySem.OSS
/-- t[::-1], t a tuple -/
def tRevT (K : PySem.W.Frag) (te : TE) : TE := fun σ H Q => te σ H fun x H1 => ∃ a xs, x = .ref a ∧ SqT K H1 a xs ∧ NewO H1 (.tup xs.reverse) Q
theorem vals_reverse : ∀ {xs : List V} {us : List Value}, Vals xs us → Vals xs.reverse us.reverse
  | _, _, .nil => .nil
  | _, _, .cons r t => by
    rw [List.reverse_cons, List.reverse_cons]
    exact (vals_reverse t).append (.cons r .nil)
theorem pe_revT {X : Cx} {e : Expr} {te : TE} {k : Nat} {p1 p2 p3 pos : Pos} (he : PE X e te)
    (hbody : ∀ (t l : Addr), subscripted (.Slice none none (some (.UnaryOp .USub (.Constant (.int 1) k p1) p2)) p3) false (.ref t) (.ref l) = operate [.ref t, .ref l] (getItem (.ref t) (.ref l)) := by intro _ _; with_unfolding_all rfl) :
    PE X (.Subscript e (.Slice none none (some (.UnaryOp .USub (.Constant (.int 1) k p1) p2)) p3) pos) (tRevT X.K te) := by
  refine ⟨fun pins s σ H Q I h => ?_⟩
  refine Subscript_ (thn (he.run pins s σ H _ I h) fun v s1 ⟨x, H1, I1, r1, q1⟩ => ?_)
  obtain ⟨a, xs, ex, hx, q⟩ := q1
  subst ex
  obtain rfl : v = Value.ref a := r1
  have hst : PO X (some (.UnaryOp .USub (.Constant (.int 1) k p1) p2)) (tPart (tUn (rU fun i => .int (-i)) (tC (.int 1)))) := po_some (pe_un un_neg pe_int)
  refine wpAny_Slice (thn (po_none.run pins s1 σ H1 (fun o H2 => o = none ∧ H2 = H1) I1 ⟨rfl, rfl⟩) fun vl s2 ⟨l, H2, I2, pl, el, e2⟩ => ?_)
  subst el e2
  refine thn (po_none.run pins s2 σ H2 (fun o H3 => o = none ∧ H3 = H2) I2 ⟨rfl, rfl⟩) fun vu s3 ⟨u, H3, I3, pu, eu, e3⟩ => ?_
  subst eu e3
  refine thn (hst.run pins s3 σ H3 (fun o H4 => o = some (-1) ∧ H4 = H3) I3 ⟨1, rfl, -1, rfl, rfl, rfl⟩) fun vs s4 ⟨o, H4, I4, ps, eo, e4⟩ => ?_
  subst eo e4
  have I5 : Inv X pins σ H4 { s4 with heap := s4.heap.push { cls := .type "slice", data := .fields #[vl, vu, vs] } } := I4.kept (t' := s4.toks) fun b ob q => Heap.get?_push_of_some _ q
  show wpAny (model X.prog X.w) X.A (subscriptTail e (.Slice none none (some (.UnaryOp .USub (.Constant (.int 1) k p1) p2)) p3) (.ref a) (.ref s4.heap.objs.size)) (EP X pins σ Q) X.xe { s4 with heap := s4.heap.push { cls := .type "slice", data := .fields #[vl, vu, vs] } }
  obtain ⟨its, r, ht, hz⟩ := I5.tuple hx
  obtain rfl : vl = Value.none := by cases pl; rfl
  obtain rfl : vu = Value.none := by cases pu; rfl
  refine tail_any ht.typeIs PyProof.Rows.slot_tuple_getitem.lookup ?_ (hbody _ _)
  have hlen : its.toArray.size = xs.length := by rw [List.size_toArray]; exact r.length.symm
  refine getItem_tuple_rev ht ⟨_, Heap.get?_push_size _ rfl, rfl, rfl⟩ ps ?_ (by rw [hlen]; exact hz)
  refine ⟨.ref _, _, I5.laid (t' := s4.toks) (o := .tup xs.reverse) (fun b ob q => Heap.get?_push_of_some _ q) (Nat.le_refl _) ?_, rfl, q.to _ (I5.hok.fresh (Nat.le_refl _))⟩
  exact ⟨by rw [List.length_reverse]; exact hz, _, vals_reverse r, IsTup.new _ _⟩
end OS

set_option Elab.async false
set_option linter.all false
set_option maxRecDepth 100000
set_option maxHeartbeats 4000000
/-! several except clauses, with a name and without. The road is the library's for one clause with a name and for many without; here both meet -/
namespace OS
open PySem PySem.Spec PyProof.Rows L2
abbrev Suite := Addr → Value → Option Addr → TS
/-- behind the suite of a clause with a name its slot is empty -/
def Ends.less (D : Ends) (i : Nat) : Ends := { nx := fun σ H => D.nx (σ.set i none) H, rt := D.rt, bk := fun σ H => D.bk (σ.set i none) H, ct := fun σ H => D.ct (σ.set i none) H }
/-- a clause's suite, with its name's slot or without -/
def runSuite (oi : Option Nat) (ts : Suite) (D : Ends) (cls : Value) (d : Option Addr) (σ : L2.St) (H : Hp) (a : Addr) : Prop :=
  match oi with
  | none => ts a cls d D σ H
  | some i => ts a cls d (Ends.less D i) (σ.set i (some (.ref a))) H
def wMix (K : PySem.W.Frag) (Wout : WX) (D : Ends) : List (Value × Option Nat × Suite) → WX
  | [] => Wout
  | (c, oi, ts) :: r => fun cls d σ H => ∃ b, PySem.W.exmOne K cls c = some b ∧ (b = true → ∀ a, H a = none → runSuite oi ts D cls d σ H a) ∧ (b = false → wMix K Wout D r cls d σ H)
/-- a clause's name -/
inductive NameAt (X : Cx) : Option Str → Option Nat → Prop
  | no : NameAt X none none
  | yes {n : Str} {i : Nat} (hi : X.N[i]? = some n) (hl : X.env.kindOf n = some .local) : NameAt X (some n) (some i)
inductive HdsMix (X : Cx) : List ExceptHandler → List (Value × Option Nat × Suite) → Prop
  | nil : HdsMix X [] []
  | cons {x : Str} {on : Option Str} {oi : Option Nat} {c : Value} {ts : Suite} {b₀ : Stmt} {suite : List Stmt} {np pos' : Pos} {hds : List ExceptHandler} {l : List (Value × Option Nat × Suite)} (hc : Names X x c) (hn : NameAt X on oi)
      (hsu : ∀ (a : Addr) (oe : Obj) (cls : Value) (d : Option Addr) (pn : List (Addr × Obj)), Zc cls d oe → (∃ vs, oe.data = .fields vs) → PSs (X.suite a ((a, oe) :: pn)) (b₀ :: suite) (ts a cls d)) (r : HdsMix X hds l) :
      HdsMix X (.ExceptHandler (some (.Name x np)) on (b₀ :: suite) pos' :: hds) ((c, oi, ts) :: l)
section
variable {X : Cx} {body : List Stmt} {h₀ : ExceptHandler} {hds : List ExceptHandler} {l : List (Value × Option Nat × Suite)} {pos : Pos} {tb : WX → TS} {Wout : WX}
theorem ps_try_mix (hs : X.stack = X.env :: X.outer) (hf : X.env.frame = some X.env.locals) (hN : X.N.Nodup) (tk : Takes X Wout)
    (hb : ∀ (W : WX) (pn : List (Addr × Obj)) (xe : Value → Shared → Prop), Takes (X.tr pn xe) W → PassesOwn (model X.prog X.w) X.A X.env xe → PSs (X.tr pn xe) body (tb W))
    (hh : HdsMix X (h₀ :: hds) l) : PS X (.Try body (h₀ :: hds) [] [] pos) (fun D σ H => tb (wMix X.K Wout D l) D σ H) := by
  constructor
  intro pins s σ H D I h
  have ok := I.ok
  have hfr : X.A.frames = some (X.env :: X.outer) := ok.frames.trans (by rw [hs])
  -- behind the body, where it ends by itself
  have back : ∀ f s1, SP (X.tr (X.pn ++ pins) (fun e s₁ => wpAny (model X.prog X.w) X.A (noteFrame e X.env) (fun _ s₂ => wpAny (model X.prog X.w) X.A (setFlight e none) (fun _ s₃ =>
      wpAny (model X.prog X.w) X.A (handleBy e X.env (h₀ :: hds)) (SP X pins D) X.xe s₃) X.xe s₂) X.xe s₁)) [] D f s1 →
      (match f with | .next => SP X pins D .next s1 | f => SP X pins D f s1) := by
    intro f s1 q
    cases f
    · obtain ⟨σ', H', J, q⟩ := q
      exact ⟨σ', H', J.ofTry ok, q⟩
    · obtain ⟨σ', H', J, q⟩ := q
      exact ⟨σ', H', J.ofTry ok, q⟩
    · obtain ⟨σ', H', J, q⟩ := q
      exact ⟨σ', H', J.ofTry ok, q⟩
    · obtain ⟨v, σ', H', J, r, q⟩ := q
      exact ⟨v, σ', H', J.ofTry ok, r, q⟩
  refine wpAny_Try_except (wpAny_mono ((hb (wMix X.K Wout D l) (X.pn ++ pins) _ ?take PassesOwn.looking).run [] s σ H D (I.toTry _) h) (fun f s1 q => ?_) (fun _ _ he => he))
  case take =>
    intro u s' xx
    obtain ⟨a, B, sI, pins', σ', H', cls, d, rfl, J', nb, up, sky, na, os, ag, wish⟩ := xx
    have J : Inv X pins σ' H' sI := J'.ofTry ok
    refine Sky.land Zc.steady hfr hf (by rw [← hs]; exact sky) fun h3 fl3 up3 => ?_
    have J3 : Inv X pins σ' H' { s' with heap := h3 } := J.landed nb fl3.1 (up.trans up3) os ag
    obtain ⟨oe3, vs3, he3, hz3, hd3⟩ := fl3.there
    have nfr : a ∉ frs (X.env :: X.outer) := fun hm => by
      obtain ⟨_, o', e', hnf⟩ := fl3.2.2.1.mem hm
      cases he3.symm.trans e'
      exact hnf _ hd3
    have nL : a ≠ X.env.locals := fun z => nfr (List.mem_filterMap.mpr ⟨X.env, List.mem_cons_self, by rw [hf, z]⟩)
    have nF : a ∉ X.fs := fun hm => by
      obtain ⟨e, he, q⟩ := List.mem_filterMap.mp hm
      exact nfr (List.mem_filterMap.mpr ⟨e, List.mem_cons_of_mem _ he, q⟩)
    have S3 := J3.suite he3 hd3 na nL nF
    -- clause by clause
    have go : ∀ {hds' : List ExceptHandler} {l' : List (Value × Option Nat × Suite)}, HdsMix X hds' l' → wMix X.K Wout D l' cls d σ' H' →
        wpAny (model X.prog X.w) X.A (handleBy (.ref a) X.env hds') (SP X pins D) X.xe { s' with heap := h3 } := by
      intro hds' l' hk
      induction hk with
      | nil =>
        intro out
        obtain ⟨_, _, _, oe, vs, T, oT, ts', he, hz, hd, h1, hr⟩ := id fl3
        have fin : wpAny (model X.prog X.w) X.A (setFlight (.ref a) X.env.frame) (fun _ s4 => wpAny (model X.prog X.w) X.A (throw (.ref a) : Sem Flow) (SP X pins D) X.xe s4) X.xe { s' with heap := h3 } := by
          rw [hf]
          exact HandSPX.setFlight_upZ fl3 fun h4 hh4 up4 => wpAny_throw (tk _ _ ⟨a, B, sI, pins, σ', H', cls, d, rfl, J, nb, (up.trans up3).trans up4, .inr (.inr (by rw [hs]; exact hh4)), na, os, ag, out⟩)
        refine wpAny_handleBy_nil ?_
        unfold PySem.passOn
        refine wpAny_bind (wpAny_field he hd h1 ?_)
        rw [if_neg (show ¬ ((Value.ref T == Value.none) = true) from by simp)]
        first
          | exact wpAny_bind (wpAny_pure (wpAny_bind fin))
          | exact wpAny_bind fin
      | @cons x on oi c ts b₀ suite np pos' hds2 l2 hc hn hsu r ih =>
        intro wish
        obtain ⟨b, hb1, hyes, hno⟩ := wish
        refine wpAny_handleBy_cons (codeAny_handlers_test ?_) (by intro q; cases q)
        have LT : PySem.W.Looks (model X.prog X.w) h3 (typeOf (.ref a)) cls := fun A Q E s k q => wpAny_typeOf_ref (k _ _ he3) (by rw [hz3.1]; exact q)
        have look : ∀ {Q E}, Q c { s' with heap := h3 } → wpAny (model X.prog X.w) (X.A.mark (some (.ref a))) (eval (.Name x np) X.env) Q E { s' with heap := h3 } := fun {Q E} q => by
          rcases hc with ⟨hg, hdbg, hm | ⟨hm, hv, hnn⟩⟩
          · exact ld_glob (X := X.suite a ((a, oe3) :: (X.pn ++ pins))) S3 hg hm q hdbg
          · exact ld_blt (X := X.suite a ((a, oe3) :: (X.pn ++ pins))) S3 hg hm hv q hnn hdbg
        refine look ((PySem.W.exm_one (M := model X.prog X.w) J3.kIn LT hb1).here ?_)
        cases b with
        | false =>
          show wpAny _ X.A (handleBy (.ref a) X.env hds2) _ _ _
          exact ih (hno rfl)
        | true =>
          have run := hyes rfl a na
          cases hn with
          | no =>
            refine codeAny_handlers_suite (HandSPX.lands_againZ fl3 fun h4 fl4 up4 => ?_)
            obtain ⟨oe4, vs4, he4, hz4, hd4⟩ := fl4.there
            have S4 := (J.landed nb fl4.1 ((up.trans up3).trans up4) os ag : Inv X pins σ' H' { s' with heap := h4 }).suite he4 hd4 na nL nF
            refine wpAny_mono ((hsu a oe4 cls d (X.pn ++ pins) hz4 ⟨_, hd4⟩).run [] _ _ H' _ S4 run) (fun f s6 q6 => ?_) (fun _ _ z => False.elim z)
            cases f
            · exact q6.imp fun _ q => q.imp fun _ z => ⟨z.1.unsuite ok, z.2⟩
            · exact q6.imp fun _ q => q.imp fun _ z => ⟨z.1.unsuite ok, z.2⟩
            · exact q6.imp fun _ q => q.imp fun _ z => ⟨z.1.unsuite ok, z.2⟩
            · exact q6.imp fun _ q => q.imp fun _ q => q.imp fun _ z => ⟨z.1.unsuite ok, z.2⟩
          | @yes n i hi hln =>
            refine codeAny_handlers_suite_as (HandSPX.lands_againZ fl3 fun h4 fl4 up4 => ?_)
            obtain ⟨oe4, vs4, he4, hz4, hd4⟩ := fl4.there
            have S4 := (J.landed nb fl4.1 ((up.trans up3).trans up4) os ag : Inv X pins σ' H' { s' with heap := h4 }).suite he4 hd4 na nL nF
            refine store_ok (X := X.suite a ((a, oe4) :: (X.pn ++ pins))) (v := .ref a) S4 hN hi (.inl hln) rfl (fun s5 S5 => ?_) (.inr hln)
            refine wpAny_mono ((hsu a oe4 cls d (X.pn ++ pins) hz4 ⟨_, hd4⟩).run [] s5 _ H' _ S5 run) (fun f s6 q6 => ?_) (fun _ _ z => False.elim z)
            have gone : ∀ {σ6 : L2.St} {H6 : Hp} {Q : Shared → Prop}, Inv (X.suite a ((a, oe4) :: (X.pn ++ pins))) [] σ6 H6 s6 → (∀ s7, Inv X pins (σ6.set i none) H6 s7 → Q s7) →
                wpAny (model X.prog X.w) X.A (do bindName X.env n .none; unbindBehindTheSuite X.env n pos') (fun _ s7 => Q s7) X.xe s6 := fun {σ6 H6 Q} S6 hq => gone_ok (S6.unsuite ok) hN hi hln hq
            cases f
            · obtain ⟨_, _, S6, q⟩ := q6
              exact gone S6 fun s7 J7 => ⟨_, _, J7, q⟩
            · obtain ⟨_, _, S6, q⟩ := q6
              exact gone S6 fun s7 J7 => ⟨_, _, J7, q⟩
            · obtain ⟨_, _, S6, q⟩ := q6
              exact gone S6 fun s7 J7 => ⟨_, _, J7, q⟩
            · obtain ⟨_, _, _, S6, r6, q⟩ := q6
              exact gone S6 fun s7 J7 => ⟨_, _, _, J7, r6, q⟩
    exact go hh wish
  · have z := back f s1 q
    cases f
    · exact wpAny_execs_nil z
    all_goals exact z
end
end OS

set_option Elab.async false
set_option linter.all false
set_option maxRecDepth 100000
set_option maxHeartbeats 4000000
/-! groups in the heap -/
namespace OS
open PySem PySem.Spec PyProof.Rows L2
theorem room65 {k : Nat} {A : Around} (r : Room k A) : A.units + 65 < cLine := by have := r.un; omega
theorem _root_.L2.Same.tupT {K : PySem.W.Frag} {H H' : Hp} {a : Addr} {xs : List V} (e : Same H H') (h : SqT K H a xs) : SqT K H' a xs := by
  rcases h with (h | ⟨o, h⟩) | h
  · exact .inl (.inl (e _ _ h))
  · exact .inl (.inr ⟨o, e _ _ h⟩)
  · exact .inr h
theorem strs_get {xs : List Str} {i : Nat} {x : V} (h : (xs.map V.str)[i]? = some x) {s : Str} (hs : xs[i]? = some s) : x = .str s := by
  rw [List.getElem?_map, hs] at h
  exact (Option.some.inj h).symm
theorem strs_flat : ∀ xs : List Str, (xs.map V.str).all flatV = true
  | [] => rfl
  | x :: xs => by
    rw [List.map_cons, List.all_cons, strs_flat xs]
    rfl
theorem inV_strs (z : Str) : ∀ xs : List Str, inV (.str z) (xs.map V.str) = decide (z ∈ xs)
  | [] => rfl
  | x :: xs => by
    have ih := inV_strs z xs
    unfold inV at ih ⊢
    rw [List.map_cons, List.any_cons, ih]
    show ((x == z) || decide (z ∈ xs)) = decide (z ∈ x :: xs)
    by_cases h1 : x = z
    · subst h1
      simp
    · have h1' : ¬ z = x := fun q => h1 q.symm
      by_cases h2 : z ∈ xs <;> simp [h1, h1', h2]
/-- a group: a tuple of texts -/
def GrpV (K : PySem.W.Frag) (H : Hp) (x : V) (g : List Str) : Prop := ∃ a, x = .ref a ∧ SqT K H a (g.map V.str)
theorem GrpV.same {K : PySem.W.Frag} {H H' : Hp} {x : V} {g : List Str} (h : GrpV K H x g) (s : Same H H') : GrpV K H' x g := h.imp fun _ q => ⟨q.1, s.tupT q.2⟩
/-- items that are the groups gs -/
abbrev GrpsV (K : PySem.W.Frag) (H : Hp) (xs : List V) (gs : List (List Str)) : Prop := Paired (GrpV K H) xs gs
theorem GrpsV.same {K : PySem.W.Frag} {H H' : Hp} {xs : List V} {gs : List (List Str)} (h : GrpsV K H xs gs) (s : Same H H') : GrpsV K H' xs gs := Paired.mapP h fun _ _ q => q.same s
theorem GrpV.dp {K : PySem.W.Frag} {H : Hp} {x : V} {g : List Str} (h : GrpV K H x g) : Dp K H x (encG g) := by
  obtain ⟨a, rfl, q⟩ := h
  exact .tup q (dp_all (fun z => .str z) g)
theorem GrpsV.dps {K : PySem.W.Frag} {H : Hp} : ∀ {xs : List V} {gs : List (List Str)}, GrpsV K H xs gs → DpAll K H xs (gs.map encG)
  | _, _, .nil => .nil
  | _, _, .cons h t => .cons h.dp (GrpsV.dps t)
theorem any_encG (g : List Str) : ∀ gs : List (List Str), ((gs.map encG).any fun z => PyData.eqv z (encG g)) = decide (g ∈ gs)
  | [] => rfl
  | x :: gs => by
    rw [List.map_cons, List.any_cons, any_encG g gs, eqv_G]
    by_cases h1 : x = g
    · subst h1
      simp
    · have h1' : ¬ g = x := fun q => h1 q.symm
      by_cases h2 : g ∈ gs <;> simp [h1, h1', h2]
theorem eqv_Gs : ∀ gs hs : List (List Str), PyData.eqvAll (gs.map encG) (hs.map encG) = decide (gs = hs)
  | [], [] => by simp [PyData.eqvAll]
  | [], _ :: _ => by simp [PyData.eqvAll]
  | _ :: _, [] => by simp [PyData.eqvAll]
  | x :: xs, y :: ys => by
    show (PyData.eqv (encG x) (encG y) && PyData.eqvAll (xs.map encG) (ys.map encG)) = _
    rw [eqv_Gs xs ys, eqv_G]
    by_cases h1 : x = y <;> by_cases h2 : xs = ys <;> simp [h1, h2]
theorem paired_zip {α β : Type} {F : α → β → Prop} : ∀ {xs : List α} {ys : List β}, Paired F xs ys → (xs.zip ys).map Prod.fst = xs ∧ (xs.zip ys).map Prod.snd = ys ∧ ∀ p ∈ xs.zip ys, F p.1 p.2
  | _, _, .nil => ⟨rfl, rfl, fun _ h => by simp at h⟩
  | _, _, .cons h t => by
    obtain ⟨h1, h2, h3⟩ := paired_zip t
    refine ⟨by rw [List.zip_cons_cons, List.map_cons, h1], by rw [List.zip_cons_cons, List.map_cons, h2], fun p hp => ?_⟩
    rw [List.zip_cons_cons] at hp
    rcases List.mem_cons.mp hp with rfl | hp
    · exact h
    · exact h3 p hp
theorem paired_of {α β γ : Type} {F : α → β → Prop} {f : γ → α} {k : γ → β} : ∀ {l : List γ}, (∀ c ∈ l, F (f c) (k c)) → Paired F (l.map f) (l.map k)
  | [], _ => .nil
  | c :: l, h => .cons (h c (List.mem_cons_self ..)) (paired_of fun c hc => h c (List.mem_cons_of_mem _ hc))
theorem paired_get {α β : Type} {F : α → β → Prop} : ∀ {xs : List α} {ys : List β} {i : Nat} {x : α}, Paired F xs ys → xs[i]? = some x → ∃ y, ys[i]? = some y ∧ F x y
  | _, _, _, _, .nil, h => by simp at h
  | _, _, 0, _, .cons h t, e => ⟨_, rfl, by cases e; exact h⟩
  | _, _, i + 1, _, .cons h t, e => by
    obtain ⟨y, h1, h2⟩ := paired_get (i := i) t e
    exact ⟨y, h1, h2⟩
theorem paired_len {α β : Type} {F : α → β → Prop} {xs : List α} {ys : List β} (h : Paired F xs ys) : xs.length = ys.length := Paired.length h
end OS

set_option Elab.async false
set_option linter.all false
set_option maxRecDepth 100000
set_option maxHeartbeats 4000000
/-! any values, seen as tuples -/
namespace OS
open PySem PySem.Spec PyProof.Rows L2
/-- a value; if it is a tuple, its items -/
inductive Thing (K : PySem.W.Frag) (H : Hp) : V → Option (List V) → Prop
  | flat {v : V} : flatV v = true → Thing K H v none
  | lst {a : Addr} {zs : List V} : SqL K H a zs → Thing K H (.ref a) none
  | dct {a : Addr} {kvs : List (Key × V)} : H a = some (.dK kvs) → Thing K H (.ref a) none
  | tup {a : Addr} {xs : List V} : SqT K H a xs → (∀ v ∈ xs, Itm K H v) → Thing K H (.ref a) (some xs)
theorem Itm.same {K : PySem.W.Frag} {H H' : Hp} {v : V} (h : Itm K H v) (s : Same H H') : Itm K H' v := by
  cases h with
  | flat f => exact .flat f
  | lst q => exact .lst (s.seq q)
  | tup q => exact .tup (s.tupT q)
  | dct q => exact .dct (s _ _ q)
theorem Thing.same {K : PySem.W.Frag} {H H' : Hp} {v : V} {o : Option (List V)} (h : Thing K H v o) (s : Same H H') : Thing K H' v o := by
  cases h with
  | flat f => exact .flat f
  | lst q => exact .lst (s.seq q)
  | dct q => exact .dct (s _ _ q)
  | tup q hi => exact .tup (s.tupT q) fun v hv => (hi v hv).same s
theorem ty_list {K : PySem.W.Frag} {H : Hp} {a : Addr} {xs : List V} (h : SqL K H a xs) : TyX K H (.ref a) (.type "list") := by
  rcases h with (h | ⟨o, h⟩) | ⟨o, its, n, h, c, _⟩
  · exact .base (.lst h)
  · exact .base (.frz h)
  · exact .kList h c
theorem ty_tup {K : PySem.W.Frag} {H : Hp} {a : Addr} {xs : List V} (h : SqT K H a xs) : TyX K H (.ref a) (.type "tuple") := by
  rcases h with (h | ⟨o, h⟩) | ⟨o, its, n, h, c, _⟩
  · exact .base (.tup h)
  · exact .fTuple h
  · exact .kTuple h c
theorem Thing.isT {K : PySem.W.Frag} {H : Hp} {v : V} {o : Option (List V)} (h : Thing K H v o) : ∃ t, TyX K H v t ∧ PySem.W.kitOne K t (.type "tuple") = some o.isSome := by
  cases h with
  | flat f =>
    cases v with
    | non => exact ⟨_, .base .non, by rfl⟩
    | bl b => exact ⟨_, .base (.bl b), by rfl⟩
    | int i => exact ⟨_, .base (.int i), by rfl⟩
    | str z => exact ⟨_, .base (.str z), by rfl⟩
    | _ => exact absurd (show false = true from f) Bool.false_ne_true
  | lst q => exact ⟨_, ty_list q, by rfl⟩
  | dct q => exact ⟨_, .base (.dK q), by rfl⟩
  | tup q _ => exact ⟨_, ty_tup q, by rfl⟩
theorem Thing.emp {K : PySem.W.Frag} {H : Hp} {v : V} {o : Option (List V)} (h : Thing K H v o) : EmpIs K H v (decide (o = some [])) := by
  cases h with
  | flat f =>
    rw [decide_eq_false (fun z => nomatch z)]
    exact .flat f
  | lst q =>
    rw [decide_eq_false (fun z => nomatch z)]
    exact .lst q
  | dct q =>
    rw [decide_eq_false (fun z => nomatch z)]
    exact .dct q
  | @tup a xs q _ =>
    have e : decide (some xs = some ([] : List V)) = xs.isEmpty := by cases xs <;> simp
    rw [e]
    exact .tup q
/-- the value is a group of the persons ps -/
def isGrp (ps : List Str) : Option (List V) → Bool
  | none => false
  | some xs => eqS xs (ps.filter fun n => xs.any (isS n))
theorem any_isS (n : Str) : ∀ g : List Str, (g.map V.str).any (isS n) = decide (n ∈ g)
  | [] => rfl
  | x :: g => by
    rw [List.map_cons, List.any_cons, any_isS n g]
    show ((x == n) || decide (n ∈ g)) = decide (n ∈ x :: g)
    by_cases h1 : x = n
    · subst h1
      simp
    · have h1' : ¬ n = x := fun q => h1 q.symm
      by_cases h2 : n ∈ g <;> simp [h1, h1', h2]
/-- what is a group is a tuple of texts, a part of ps -/
theorem isGrp_iff {ps : List Str} (hp : ps.Nodup) {o : Option (List V)} : isGrp ps o = true ↔ ∃ g : List Str, g.Sublist ps ∧ o = some (g.map V.str) := by
  constructor
  · intro h
    cases o with
    | none => simp [isGrp] at h
    | some xs =>
      have e := eqS_true h
      exact ⟨_, List.filter_sublist, congrArg some e⟩
  · rintro ⟨g, hg, rfl⟩
    show eqS (g.map V.str) (ps.filter fun n => (g.map V.str).any (isS n)) = true
    have e : (ps.filter fun n => (g.map V.str).any (isS n)) = pick ps g := by
      unfold pick
      exact List.filter_congr fun n _ => any_isS n g
    rw [e, eqS_strs, pick_sub hp hg]
    simp
end OS
namespace OS
open PySem PySem.Spec PyProof.Rows L2
/-- what is no list stands apart from one -/
theorem tupT_but {K : PySem.W.Frag} {H H' : Hp} {D a : Addr} {acc xs : List V} (hD : H D = some (.lst acc)) (k : ∀ b o, H b = some o → b ≠ D → H' b = some o) (h : SqT K H a xs) : SqT K H' a xs := by
  rcases h with (h | ⟨o, h⟩) | h
  · exact .inl (.inl (k _ _ h (ne_of h hD fun z => by cases z)))
  · exact .inl (.inr ⟨o, k _ _ h (ne_of h hD fun z => by cases z)⟩)
  · exact .inr h
theorem GrpV.but {K : PySem.W.Frag} {H H' : Hp} {D : Addr} {acc : List V} {x : V} {g : List Str} (hD : H D = some (.lst acc)) (k : ∀ b o, H b = some o → b ≠ D → H' b = some o) (h : GrpV K H x g) : GrpV K H' x g := h.imp fun _ q => ⟨q.1, tupT_but hD k q.2⟩
theorem paired_swap {α β : Type} {F : α → β → Prop} : ∀ {xs : List α} {ys : List β}, Paired F xs ys → Paired (fun y x => F x y) ys xs
  | _, _, .nil => .nil
  | _, _, .cons h t => .cons h (paired_swap t)
theorem paired_map {α β γ : Type} {F : γ → β → Prop} {f : α → γ} : ∀ {xs : List α} {ys : List β}, Paired (fun a b => F (f a) b) xs ys → Paired F (xs.map f) ys
  | _, _, .nil => .nil
  | _, _, .cons h t => .cons h (paired_map t)
theorem paired_app {α β : Type} {F : α → β → Prop} : ∀ {xs xs' : List α} {ys ys' : List β}, Paired F xs ys → Paired F xs' ys' → Paired F (xs ++ xs') (ys ++ ys')
  | _, _, _, _, .nil, h => h
  | _, _, _, _, .cons h t, h' => .cons h (paired_app t h')
end OS
namespace OS
open PySem PySem.Spec PyProof.Rows L2
/-- a walk over a list or a tuple -/
def iSeq (K : PySem.W.Frag) (tl : TE) : TI := fun σ H R => tl σ H fun x H1 => ∃ a, x = .ref a ∧ (((∃ xs, SqL K H1 a xs) ∧ R (Itl K a) H1) ∨ ((∃ xs, SqT K H1 a xs) ∧ R (Itt K a) H1))
theorem pi_seq {X : Cx} {tg l : Expr} {tl : TE} (hl : PE X l tl) : PI X tg l (iSeq X.K tl) := by
  constructor
  intro pins s σ H R I h
  refine thn (hl.run pins s σ H _ I h) fun v s1 q1 => ?_
  obtain ⟨x, H1, I1, r1, a, rfl, q⟩ := q1
  cases r1
  rcases q with ⟨⟨xs, hq⟩, q⟩ | ⟨⟨xs, hq⟩, q⟩
  · obtain ⟨its, rv, p, hz⟩ := I1.list hq
    exact wpAny_pyIter_list p.isList ⟨s1.heap.objs.size, [s1.heap.objs.size], _, _, H1, rfl, I1.kept (t' := s1.toks) fun b o e => Heap.get?_push_of_some _ e, turn_list a _, ⟨_, Heap.get?_push_size _ rfl, rfl, rfl⟩,
      (fun b hb => by rw [List.mem_singleton.mp hb]; exact I1.fpOk (Nat.le_refl _) (I1.hok.fresh (Nat.le_refl _))), q⟩
  · obtain ⟨its, rv, p, hz⟩ := I1.tuple hq
    exact wpAny_pyIter_tuple (show s1.heap.IsTuple a its.toArray from p) ⟨s1.heap.objs.size, [s1.heap.objs.size], _, _, H1, rfl, I1.kept (t' := s1.toks) fun b o e => Heap.get?_push_of_some _ e, turn_tuple a _, ⟨_, Heap.get?_push_size _ rfl, rfl, rfl⟩,
      (fun b hb => by rw [List.mem_singleton.mp hb]; exact I1.fpOk (Nat.le_refl _) (I1.hok.fresh (Nat.le_refl _))), q⟩
end OS

set_option Elab.async false
set_option linter.all false
set_option maxRecDepth 100000
set_option maxHeartbeats 4000000
/-! raise C(e), C an own error that keeps its argument -/
namespace OS
open PySem PySem.Spec PyProof.Rows L2
/-- what follows where an error of the class at C flies whose field f holds v -/
def Flies (Q : XK) (C : Addr) (f : Str) (v : V) (H1 : Hp) : Prop := ∀ (dx : Addr) (H2 : Hp), H1 dx = none → Same H1 H2 → H2 dx = some (.xd [(f, v)]) → Q (.ref C) (some dx) H2
def tRaiseE (C : Addr) (f : Str) (te : TE) : L2.St → Hp → XK → Prop := fun σ H Q => te σ H fun v H1 => Flies Q C f v H1
section
variable {X : Cx} {C fI : Addr} {f x : Str} {fd : FuncData} {ps : List Str} {k : Nat} {e : Expr} {te : TE} {p pos : Pos}
theorem pmk_err (T : ErrT X.K C) (iC : PySem.W.findIn X.K (.ref C) "__init__" = some (some (.ref fI))) (tI : PySem.W.typeIn X.K (.ref fI) = some (.type "function")) (F1 : FnOk X.prog X.w X.K X.mg X.base CX0 k fI fd ps (spErr C f)) (hr : Room (k + 1) X.A)
    (hb : Binds X.K fd ps []) (hg : Gl X x) (hm : X.mg x = some (.ref C)) (he : PE X e te) (hdb : (x == ("__debug__" : Str)) = false := by decide)
    (hst : starEach [e] X.env = (false, eval e X.env) :: starEach [] X.env := by rfl) (hpl : (backTo pos (starEach [] X.env)).any (·.1) = false := by rfl) :
    PMk X (.Call (.Name x p) [e] [] pos) (tRaiseE C f te) := by
  intro pins s σ H Q I h
  refine pmk_oex T.ox iC tI F1 hr hb .nil (fun _ _ _ _ _ _ _ z => z.elim) hg hm (pa_mono (pa_cons he pa_nil hst)) hdb hst hpl pins s σ H Q I ?_
  refine ⟨fun vs H1 => match vs with | [v] => Flies Q C f v H1 | _ => False, h, fun vs H1 q => ?_⟩
  match vs, q with
  | [v], q =>
    refine ⟨by show 1 ≤ 1000; decide, fun a na => ⟨a, v, rfl, upd_same, fun dx h1 h2 => ?_⟩⟩
    have n1 : H1 dx = none := by
      rw [upd_ne h2] at h1
      exact h1
    refine ⟨rfl, dx, [(f, v)], upd_same, by rw [upd_ne h2, upd_same], n1, q dx _ n1 (fun b o hb => ?_) upd_same⟩
    have ba : b ≠ a := ne_of_none hb na
    have bd : b ≠ dx := ne_of_none hb n1
    rw [upd_ne bd, del_ne ba, upd_ne ba, upd_ne bd, upd_ne ba]
    exact hb
/-- C(), C an own error without own __init__ -/
theorem pmk_err0 {bmB : List Value} {B newId initId : String} (F : ExcBaseFacts B newId initId bmB) (q : PySem.W.excIn X.K C bmB newId = true) (kC : PySem.W.keepIn X.K (.ref C) = true) (T : ErrT X.K C) (hg : Gl X x) (hm : X.mg x = some (.ref C))
    (hdb : (x == ("__debug__" : Str)) = false := by decide) : PMk X (.Call (.Name x p) [] [] pos) (fun _ H Q => Q (.ref C) none H) := by
  intro pins s σ H Q I h
  refine wpAny_Call_Name_kw (ld_glob I hg hm (PySem.W.callWith_K0 I.kIn kC ?_) hdb)
  obtain ⟨bm, N, nm, qn, bs, hdct, sn, sub, ab, col, dd, k0, k1, k2, k3, k5, mN, hC, hN, hni, T'⟩ := exc_obj I.kIn q
  exact wpAny_call_exc_subT F T' hC hN hni (fun h' e hm => mk_of I hm (raises_own T.ox.exC T.ox.tyC) h (I.hok.gone hm.new)) (Nat.zero_le _)
end
end OS

set_option Elab.async false
set_option linter.all false
set_option maxRecDepth 100000
set_option maxHeartbeats 4000000
/-! enumerate over a list or a tuple -/
namespace OS
open PySem PySem.Spec PyProof.Rows L2
theorem meets_enum_one {v : Value} {o : Obj} {H : Heap → Prop} (B : Begins v o H) :
    Meets (Builtin.«enumerate.__new__» ⟨[.type "enumerate", v], []⟩) (fun _ R s => H s.heap ∧
      R (.ok (.ret (.ref (s.heap.push o).objs.size))) { s with heap := (s.heap.push o).push { cls := .type "enumerate", data := .fields #[.none, .bool false, .ref s.heap.objs.size, rawInt 0, .none, .none] } }) :=
  .of_wp fun prog w A R s h => by
    obtain ⟨hp, g, d, tk, os⟩ := s; obtain ⟨h1, h⟩ := h
    have hsub := sub_enumerate
    have q1 : ∀ {A' : Around} {E : Value → Shared → Prop} {Q : Value → Shared → Prop}, Q (.ref hp.objs.size) ⟨hp.push o, g, d, tk, os⟩ → wpAny (model prog w) A' (pyIter v) Q E ⟨hp, g, d, tk, os⟩ :=
      fun q => B.iter prog w _ _ ⟨hp, g, d, tk, os⟩ _ h1 q
    wp_walk using q1
    refine wpAny_stack_any fun st => wpAny_pure ?_
    split
    · rename_i c _ _ _ _ _
      cases (c == Value.type "enumerate")
      · wp_walk using q1
        exact ⟨_, rfl, h⟩
      · wp_walk using q1
        exact ⟨_, rfl, h⟩
    · wp_walk using q1
      exact ⟨_, rfl, h⟩
theorem enum_one {prog : Program} {w : World} {A : Around} {E : Value → Shared → Prop} {s : Shared} {v : Value} {o : Obj} {H : Heap → Prop} {Q : Value → Shared → Prop} (B : Begins v o H) (h1 : H s.heap)
    (h : ∀ h', IsEnum h' (s.heap.objs.size + 1) s.heap.objs.size 0 .none → h'.get? s.heap.objs.size = some o → h'.objs.size = s.heap.objs.size + 2 →
      (∀ b o, s.heap.get? b = some o → h'.get? b = some o) → Q (.ref (s.heap.objs.size + 1)) { s with heap := h' }) :
    wpAny (model prog w) A (call (.type "enumerate") [v]) Q E s := by
  refine callType_new F.called_enumerate (by decide) (F.typeCall_enumerate_1 _) (F.newCall_enumerate_1 _) (fun obj => F.args_object_init_2 obj _) F.entry_enumerate_new
    (meets_enum_one B) ⟨h1, ?_⟩
  have hz : (s.heap.push o).objs.size = s.heap.objs.size + 1 := Heap.size_push ..
  show _ ∧ _
  rw [hz]
  have he : IsEnum ((s.heap.push o).push { cls := .type "enumerate", data := .fields #[.none, .bool false, .ref s.heap.objs.size, rawInt 0, .none, .none] }) (s.heap.objs.size + 1) s.heap.objs.size 0 .none := by
    have := Heap.get?_push_size (s.heap.push o) (o := { cls := .type "enumerate", data := .fields #[.none, .bool false, .ref s.heap.objs.size, rawInt 0, .none, .none] }) rfl
    rw [hz] at this; exact this
  refine ⟨⟨_, he, rfl⟩, h _ he (Heap.get?_push_of_some _ (Heap.get?_push_size _ B.free)) (by rw [Heap.size_push, hz]) fun b o x => Heap.get?_push_of_some _ (Heap.get?_push_of_some _ x)⟩
/-- the tuple at a, each item in a new pair -/
def Itet (K : PySem.W.Frag) (a : Addr) : It :=
  ⟨fun i H => ∃ (xs : List V) (x : V), SqT K H a xs ∧ xs[i]? = some x, fun i H v H' => ∃ T x, v = .ref T ∧ H T = none ∧ H' = upd H T (.tup [.int (i : Nat), x]) ∧ ∀ xs, SqT K H a xs → xs[i]? = some x, fun i H => ∃ xs : List V, SqT K H a xs ∧ xs.length ≤ i⟩
theorem walk_enumT {K : PySem.W.Frag} {a : Addr} {xs : List V} : Walk (Itet K a) xs.length (fun H => SqT K H a xs) (YPair (fun i => some (.int (i : Nat))) (fun i => xs[i]?)) :=
  ⟨fun i _ hi q => ⟨xs, xs[i], q, by simp [hi]⟩, fun _ q => ⟨xs, q, Nat.le_refl _⟩, fun i H v H' _ q ⟨T, x, h1, h2, h3, h4⟩ => ⟨T, .int (i : Nat), x, h1, h2, h3, rfl, h4 xs q⟩⟩
theorem tup_ne_enum {s : Shared} {a e it : Addr} {its : Array Value} {i : Int} {old : Value} (p : s.heap.IsTuple a its) (he : IsEnum s.heap e it i old) : e ≠ a := by
  intro z
  subst z
  obtain ⟨o, ho, hc, _⟩ := p
  rw [show s.heap.get? e = _ from he] at ho
  obtain rfl := Option.some.inj ho
  have h2 : (Value.type "enumerate") = Value.type "tuple" := hc
  injection h2 with h3
  exact absurd h3 (by decide)
theorem tup_ne_iter {s : Shared} {a it b : Addr} {its : Array Value} {i : Nat} (p : s.heap.IsTuple a its) (hi : s.heap.IsTupleIter it b i) : a ≠ it := by
  intro z
  subst z
  obtain ⟨o, ho, hc, _⟩ := p
  obtain ⟨o', ho', hc', _⟩ := hi
  obtain rfl := Option.some.inj (ho.symm.trans ho')
  have h2 : (Value.type "tuple") = Value.type "tuple_iterator" := hc.symm.trans hc'
  injection h2 with h3
  exact absurd h3 (by decide)
theorem wpAny_pyNext_enum_endT {prog : Program} {w : World} {A : Around} {E : Value → Shared → Prop} {s : Shared} {e it l : Addr} {i : Nat} {items : Array Value} {old : Value} {Q : Option Value → Shared → Prop} (hh : A.handled = none)
    (he : IsEnum s.heap e it i old) (hit : s.heap.IsTupleIter it l i) (hl : s.heap.IsTuple l items) (hx : items[i]? = none)
    (hQ : ∀ h', Heap.ExtBut it s.heap h' → Q none { s with heap := h' }) : wpAny (model prog w) A (pyNext (.ref e)) Q E s := by
  have hT : s.TypeIs (.ref e) "enumerate" := ⟨_, he, rfl⟩
  unfold pyNext
  refine wpAny_bind (wpAny_attempt (wpAny_callSpecial?_slot (name := Str.ofString "__next__") hT F.slot_enumerate_next
    (wpAny_call_entry F.slot_enumerate_next hT F.entry_enumerate_next ?_ (F.args_enumerate_next_1 _))))
  show wpAny _ _ (field (.ref e) 2 >>= _) _ _ _
  refine wpAny_bind (wpAny_field he rfl (x := .ref it) rfl ?_)
  refine wpAny_bind (wpAny_nextOf_tuple_end hh hit hl hx fun h' x he' hx' => ?_)
  obtain ⟨o, ho, hc⟩ := hx'
  refine wpAny_bind (wpAny_isInstance (T := "StopIteration") (b := true) ⟨o, ho, hc⟩ isSubtype_stop ?_)
  exact wpAny_pure (hQ _ he')
theorem turn_enumT {P : Program} {w : World} {K : PySem.W.Frag} {elts : List Expr} {kk : Nat} {tpos : Pos} (a e it : Addr) :
    Turn P w K (.Tuple elts kk tpos) (Itet K a) [e, it] e (fun i h => (∃ old, IsEnum h e it ((i : Nat) : Int) old) ∧ h.IsTupleIter it a i ∧ e ≠ it) where
  mem := by simp
  obj := fun i h st b hb => by
    obtain ⟨⟨old, he⟩, ⟨o, ho, hc, hd⟩, _⟩ := st
    have e' : b = e ∨ b = it := by simpa using hb
    rcases e' with z | z
    · rw [z]; exact ⟨_, he, fun v q => nomatch q⟩
    · rw [z]; exact ⟨o, ho, fun v q => by rw [hd] at q; cases q⟩
  keep := fun i h h' st k => let ⟨⟨old, he⟩, hi, hne⟩ := st; ⟨⟨old, k e (by simp) _ he⟩, hi.at fun o q => k it (by simp) o q, hne⟩
  item := by
    intro X hP hw hK hc i pins s σ H E I hf st hg
    subst hP hw hK
    obtain ⟨⟨old, he⟩, hit, hne⟩ := st
    obtain ⟨xs, x, hq, hx⟩ := hg
    obtain ⟨its, rv, p, hz⟩ := I.tuple hq
    obtain ⟨u, hu, ru⟩ := rv.get hx
    have pt : s.heap.IsTuple a its.toArray := p
    have hel : e < s.heap.objs.size := Heap.lt_size he
    have hil : it < s.heap.objs.size := by obtain ⟨_, q, _⟩ := hit; exact Heap.lt_size q
    have hi : i < its.toArray.size := by
      have := (List.getElem?_eq_some_iff.mp hu).1
      simpa using this
    have hh : X.A.in1.handled = none := I.ok.hd hc
    refine wpAny_pyNext_enum_itemD (D := Draws.tuple hh it a (tup_ne_iter pt hit) its.toArray) he ⟨hit, pt⟩ hi hne (by simp [hne, tup_ne_enum pt he]) fun u' h' tk hP ho hst' hT hsz hk => ?_
    have hu' : u' = u := by
      have h3 : its.toArray[i]? = some u' := hP
      rw [List.getElem?_toArray, hu] at h3
      exact (Option.some.inj h3).symm
    subst hu'
    obtain ⟨hit', pt'⟩ := hst'
    refine ⟨_, rfl, wpAny_letOwnedTupleGo_enum (s := { s with heap := h', toks := tk + 1 }) ho fun h'' he' sb => ?_⟩
    have hT2 : h''.get? s.heap.objs.size = some { cls := .type "tuple", data := .seq #[.int i tk, u'] } := (sb.2 _ (Nat.ne_of_gt hel)).trans hT
    have new : ObjOk X.prog X.w (upd H s.heap.objs.size (.tup [.int (i : Nat), x])) h'' s.heap.objs.size (.tup [.int (i : Nat), x]) :=
      ⟨by show 2 ≤ sizeLine; decide, [.int i tk, u'], .cons ⟨_, rfl⟩ (.cons ru .nil), ⟨_, hT2, rfl, _, rfl⟩⟩
    have I1 : Inv X pins σ (upd H s.heap.objs.size (.tup [.int (i : Nat), x])) { s with heap := h'', toks := tk + 1 } :=
      I.turnedNew (ch := [e, it]) (fun b ob hb q => (sb.2 b (fun z => hb (by simp [z]))).trans (hk b ob (fun z => hb (by simp [z])) (fun z => hb (by simp [z])) q)) hf (Nat.le_refl _) new
    refine ⟨.ref s.heap.objs.size, _, I1, rfl, ⟨_, x, rfl, I.hok.fresh (Nat.le_refl _), rfl, fun ys hy => by rw [I.tuple_inj hy hq]; exact hx⟩, ⟨⟨u', ?_⟩, hit'.at fun o q => (sb.2 it (Ne.symm hne)).trans q, hne⟩, fun b hb => ?_⟩
    · have e1 : ((i + 1 : Nat) : Int) = (i : Int) + 1 := by omega
      rw [e1]; exact he'
    · have hb' : b < s.heap.objs.size := by
        have e' : b = e ∨ b = it := by simpa using hb
        rcases e' with z | z
        · rw [z]; exact hel
        · rw [z]; exact hil
      rw [upd_ne (Nat.ne_of_lt hb')]
      exact (hf b hb).1
  done := by
    intro X hP hw hK hc i pins s σ H E I hf st hg
    subst hP hw hK
    obtain ⟨⟨old, he⟩, hit, hne⟩ := st
    obtain ⟨xs, hq, hx⟩ := hg
    obtain ⟨its, rv, p, hz⟩ := I.tuple hq
    obtain ⟨f0, f1, f2, f3, f4, f5⟩ := hf it (by simp)
    have hl := rv.length
    have pt : s.heap.IsTuple a its.toArray := p
    refine wpAny_pyNext_enum_endT (I.ok.hd hc) he hit pt (by simp; omega) fun h' eb => ⟨rfl, I.turned (t' := s.toks) (fun b o hb q => eb b o hb q) f0 f1 f3 f4 f5⟩
  self := fun A i s Q E st h => let ⟨⟨_, he⟩, _⟩ := st; wpAny_pyIter_enum he h
/-- enumerate(xs), xs a list or a tuple -/
def iEnumS (K : PySem.W.Frag) (ta : TA) : TI := fun σ H R => ta σ H fun vs H1 => ∃ a, vs = [.ref a] ∧ (((∃ xs, SqL K H1 a xs) ∧ R (Ite K a) H1) ∨ ((∃ xs, SqT K H1 a xs) ∧ R (Itet K a) H1))
theorem pi_enumS {X : Cx} {e : Expr} {ta : TA} {p pos tpos : Pos} {elts : List Expr} {kk : Nat} (hg : Gl X "enumerate") (hm : X.mg "enumerate" = none) (ha : PA X [e] ta) (hs : starEach [e] X.env = [(false, eval e X.env)] := by rfl) :
    PI X (.Tuple elts kk tpos) (.Call (.Name "enumerate" p) [e] [] pos) (iEnumS X.K ta) := by
  refine ⟨fun pins s σ H R I h => ?_⟩
  refine Call_ (ld_blt I hg hm boot_enumerate (PyProof.Rows.callWith_type1 (thn (ha.run pos pins s σ H _ I h) fun us s1 ⟨vs, H1, I1, r1, q1⟩ => ?_) hs rfl))
  obtain ⟨a, ex, q⟩ := q1
  subst ex
  cases r1 with
  | cons r rr =>
    cases rr
    cases r
    have apart : ∀ b ∈ [s1.heap.objs.size + 1, s1.heap.objs.size], s1.heap.objs.size ≤ b := fun b hb => by
      have e' : b = s1.heap.objs.size + 1 ∨ b = s1.heap.objs.size := by simpa using hb
      rcases e' with z | z
      · rw [z]; exact Nat.le_add_right _ _
      · rw [z]; exact Nat.le_refl _
    rcases q with ⟨⟨xs, hq⟩, q⟩ | ⟨⟨xs, hq⟩, q⟩
    · obtain ⟨its, rv, p', hz⟩ := I1.list hq
      refine call_enumerate_list p'.isList fun h' he hit hsz hk => wpAny_pyIter_enum he ?_
      have I2 : Inv X pins σ H1 { s1 with heap := h' } := I1.kept (t' := s1.toks) hk
      exact ⟨s1.heap.objs.size + 1, [s1.heap.objs.size + 1, s1.heap.objs.size], _, _, H1, rfl, I2, turn_enum a (s1.heap.objs.size + 1) s1.heap.objs.size, ⟨⟨.none, he⟩, hit, Nat.succ_ne_self _⟩, fun b hb => I1.fpOk (apart b hb) (I1.hok.fresh (apart b hb)), q⟩
    · obtain ⟨its, rv, p', hz⟩ := I1.tuple hq
      have pt : s1.heap.IsTuple a its.toArray := p'
      refine enum_one (begins_tuple a its.toArray) pt fun h' he hit hsz hk => wpAny_pyIter_enum he ?_
      have I2 : Inv X pins σ H1 { s1 with heap := h' } := I1.kept (t' := s1.toks) hk
      exact ⟨s1.heap.objs.size + 1, [s1.heap.objs.size + 1, s1.heap.objs.size], _, _, H1, rfl, I2, turn_enumT a (s1.heap.objs.size + 1) s1.heap.objs.size, ⟨⟨.none, he⟩, ⟨_, hit, rfl, rfl⟩, Nat.succ_ne_self _⟩, fun b hb => I1.fpOk (apart b hb) (I1.hok.fresh (apart b hb)), q⟩
/-- t[lo:hi], t a list or a tuple -/
theorem sl_seqO {X : Cx} : SlR X (fun x lo hi H Q => rSlLO X.K x lo hi H Q ∨ rSlTO X.K x lo hi H Q) := SlR.or sl_listO sl_tupO
end OS

set_option Elab.async false
set_option linter.all false
set_option maxRecDepth 100000
set_option maxHeartbeats 4000000
/-! groups pass draws: a tuple is no part of the state -/
namespace OS
open PySem PySem.Spec PyProof.Rows L2
theorem StAt.sep {H : Hp} {p q : Addr} {n : Nat} {o : HO} (S : StAt H p n) (h : H q = some o) (nl : ∀ xs, o ≠ .lst xs) : Sep H p q o := by
  obtain ⟨a, b, zs, ms, S⟩ := S
  refine ⟨h, fun z => ?_⟩
  rw [own_iff S.hp] at z
  rcases z with z | z | z
  · subst z
    exact nl _ (Option.some.inj (h.symm.trans S.hp))
  · subst z
    exact nl _ (Option.some.inj (h.symm.trans S.ha))
  · subst z
    exact nl _ (Option.some.inj (h.symm.trans S.hb))
theorem tupT_nx {K : PySem.W.Frag} {H H' : Hp} {p a : Addr} {n : Nat} {xs : List V} (S : StAt H p n) (x : Nx p H H') (h : SqT K H a xs) : SqT K H' a xs := by
  rcases h with (h | ⟨o, h⟩) | h
  · exact .inl (.inl (x _ _ (S.sep h fun _ z => nomatch z)).at_)
  · exact .inl (.inr ⟨o, (x _ _ (S.sep h fun _ z => nomatch z)).at_⟩)
  · exact .inr h
theorem GrpV.nx {K : PySem.W.Frag} {H H' : Hp} {p : Addr} {n : Nat} {v : V} {g : List Str} (S : StAt H p n) (x : Nx p H H') (h : GrpV K H v g) : GrpV K H' v g := h.imp fun _ q => ⟨q.1, tupT_nx S x q.2⟩
theorem GrpsV.nx {K : PySem.W.Frag} {H H' : Hp} {p : Addr} {n : Nat} {xs : List V} {gs : List (List Str)} (S : StAt H p n) (x : Nx p H H') (h : GrpsV K H xs gs) : GrpsV K H' xs gs := Paired.mapP h fun _ _ q => GrpV.nx S x q
end OS

set_option Elab.async false
set_option linter.all false
set_option maxRecDepth 100000
set_option maxHeartbeats 4000000
/-! calls of a class, a classmethod, a method: within a try, by keywords, by a local name -/
namespace OS
open PySem PySem.Spec PyProof.Rows L2 ClX
/-! ### what may fly is told at the slots -/
def tMakeS (C : Addr) (sp : Sp) (E : L2.St → XK) (t : TA) : TE := fun σ H Q => t σ H fun vs H1 => ∀ x dx, H1 x = none → H1 dx = none → dx ≠ x →
  sp (.ref x :: vs) (upd (upd H1 dx (.own x)) x (.ins C dx [])) (fun v H2 => v = .non ∧ Q (.ref x) H2) (E σ)
def tMethSx (C : Addr) (m : Str) (sp : Sp) (E : L2.St → XK) (ta : TE) (t : TA) : TE := fun σ H Q => ta σ H fun x H1 => ∃ a dx fs, x = .ref a ∧ H1 a = some (.ins C dx fs) ∧ fs.lookup m = none ∧ t σ H1 fun vs H2 => sp (x :: vs) H2 Q (E σ)
def tCMethS (C : Addr) (sp : Sp) (E : L2.St → XK) (ta : TE) (t : TA) : TE := fun σ H Q => ta σ H fun x H1 => x = .ref C ∧ t σ H1 fun vs H2 => sp (.ref C :: vs) H2 Q (E σ)
section
variable {X : Cx} {CX : CXT} {k : Nat} {f C p g : Addr} {mc : Value} {fd : FuncData} {ps : List Str} {sp : Sp} {E : L2.St → XK} {E1 : XK} {x m : Str} {q pos apos : Pos} {e o : Expr} {es : List Expr} {ta : TE} {t tk : TA} {pl : Sem Bool} {kws : List Keyword} {ks : List Str}
theorem at_of (hx : Passes CX X E1) (σ : L2.St) : PassesAt CX X σ E1 := fun pins H s e s' I c => hx pins σ H s e s' I c
theorem run_makeS {pins : List (Addr × Obj)} {σ : L2.St} {H : Hp} {s : Shared} {Q : VK} {us : List Value} {vs : List V} (M : Mk X.K C f) (F : FnOk X.prog X.w X.K X.mg X.base CX k f fd ps sp) (hr : Room (k + 1) X.A) (hb : Binds X.K fd ps [])
    (hx : PassesAt CX X σ (E σ)) (I : Inv X pins σ H s) (r : Vals vs us)
    (h : ∀ x dx, H x = none → H dx = none → dx ≠ x → sp (.ref x :: vs) (upd (upd H dx (.own x)) x (.ins C dx [])) (fun v H2 => v = .non ∧ Q (.ref x) H2) (E σ)) :
    wpAny (model X.prog X.w) X.A (call (.ref C) us) (EP X pins σ Q) X.xe s := by
  have hq := h (s.heap.objs.size + 1) s.heap.objs.size (I.hok.fresh (Nat.le_succ _)) (I.hok.fresh (Nat.le_refl _)) (Nat.ne_of_lt (Nat.lt_succ_self _))
  have I2 := Inv.made (C := C) I
  have r2 : Vals (V.ref (s.heap.objs.size + 1) :: vs) (Value.ref (s.heap.objs.size + 1) :: us) := .cons rfl r
  have hl : (Value.ref (s.heap.objs.size + 1) :: us ++ []).length = ps.length := by
    have e := r2.length
    rw [F.len _ _ _ _ hq] at e
    rw [List.append_nil]
    exact e.symm
  have b := hb _ (Value.ref (s.heap.objs.size + 1) :: us) I2.kIn hl
  rw [List.append_nil] at b
  refine wpAny_call (make_map (f := f) I.kIn M.makes M.init (beq_iff_eq.mp M.fn) (codeAny_mono (F.run _ X.stack _ _ ⟨Value.ref (s.heap.objs.size + 1) :: us, []⟩ (Value.ref (s.heap.objs.size + 1) :: us) _ _ (E σ) (hr.make C us [])
    (I2.env0.make C us []) b r2 hq) fun r s' hq' => ?_))
  cases r with
  | error e => exact hx pins _ _ e s' I2 hq'
  | ok fl =>
    cases fl with
    | ret u =>
      obtain ⟨v, H', I3, rv, ev, q3⟩ := I2.after hq'
      subst ev
      exact ⟨rv, ⟨V.ref (s.heap.objs.size + 1), H', I3, rfl, q3⟩⟩
    | next => exact False.elim hq'
    | brk => exact False.elim hq'
    | cont => exact False.elim hq'
theorem pe_makeS (M : Mk X.K C f) (F : FnOk X.prog X.w X.K X.mg X.base CX k f fd ps sp) (hr : Room (k + 1) X.A) (hg : Gl X x) (hm : X.mg x = some (.ref C)) (hb : Binds X.K fd ps []) (hx : ∀ σ, PassesAt CX X σ (E σ))
    (ha : PA X (e :: es) t) (hdb : (x == ("__debug__" : Str)) = false := by decide) (he : starEach (e :: es) X.env = (false, eval e X.env) :: starEach es X.env := by rfl) (hpl : (backTo pos (starEach es X.env)).any (·.1) = false := by rfl) :
    PE X (.Call (.Name x q) (e :: es) [] pos) (tMakeS C sp E t) := by
  refine ⟨fun pins s σ H Q I h => ?_⟩
  refine wpAny_Call_Name_kw (ld_glob I hg hm ?_ hdb)
  refine PySem.W.callWith_K (h₀ := X.base) I.ok.mod.kin M.kp (thn (ha.run pos pins s σ H _ I h) fun us s1 ⟨vs, H1, I1, r, q⟩ => ⟨I1.kIn, ?_⟩) he hpl
  exact run_makeS M F hr hb (hx σ) I1 r q
/-- x(e, ..) where the name x of the def holds the class -/
def tMakeL (C : Addr) (i : Nat) (sp : Sp) (E : L2.St → XK) (t : TA) : TE := fun σ H Q => σ[i]? = some (some (.ref C)) ∧ tMakeS C sp E t σ H Q
theorem pe_makeL {i : Nat} (M : Mk X.K C f) (F : FnOk X.prog X.w X.K X.mg X.base CX k f fd ps sp) (hr : Room (k + 1) X.A) (hN : X.N[i]? = some x) (hv : Vis X.env.scope x) (hb : Binds X.K fd ps []) (hx : ∀ σ, PassesAt CX X σ (E σ))
    (ha : PA X (e :: es) t) (hdb : (x == ("__debug__" : Str)) = false := by decide) (hcd : (x == ("__classdict__" : Str)) = false := by decide) (he : starEach (e :: es) X.env = (false, eval e X.env) :: starEach es X.env := by rfl) (hpl : (backTo pos (starEach es X.env)).any (·.1) = false := by rfl) :
    PE X (.Call (.Name x q) (e :: es) [] pos) (tMakeL C i sp E t) := by
  refine ⟨fun pins s σ H Q I h => ?_⟩
  obtain ⟨hs, ht⟩ := h
  refine wpAny_Call_Name_kw (thn ((pe_var (pos := q) hN hv hdb hcd).run pins s σ H (fun v H1 => v = .ref C ∧ H1 = H) I ⟨.ref C, hs, rfl, rfl⟩) fun u s1 ⟨v, H1, I1, r1, q1⟩ => ?_)
  obtain ⟨rfl, rfl⟩ := q1
  cases r1
  refine PySem.W.callWith_K (h₀ := X.base) I.ok.mod.kin M.kp (thn (ha.run pos pins s1 σ _ _ I1 ht) fun us s2 ⟨vs, H2, I2, r, q⟩ => ⟨I2.kIn, ?_⟩) he hpl
  exact run_makeS M F hr hb (hx σ) I2 r q
theorem pe_methSx (he : PE X o ta) (c : Cls X.K C) (hm : Meth X.K C m f) (F : FnOk X.prog X.w X.K X.mg X.base CX k f fd ps sp) (hr : Room k X.A) (hb : Binds X.K fd ps []) (hx : ∀ σ, PassesAt CX X σ (E σ)) (ha : PA X (e :: es) t)
    (hst : starEach (e :: es) X.env = (false, eval e X.env) :: starEach es X.env := by rfl) (hpl : (backTo pos (starEach es X.env)).any (·.1) = false := by rfl)
    (ht : eval (.Call (.Attribute o m apos) (e :: es) [] pos) X.env = (do
      let ov ← eval o X.env
      standAt apos.atName
      let (f, first) ← holding [ov] (getMethod ov m pl)
      callWith pos f first (backTo pos (starEach (e :: es) X.env)) (backToKw pos (keywordEach [] X.env))) := by rfl) :
    PE X (.Call (.Attribute o m apos) (e :: es) [] pos) (tMethSx C m sp E ta t) := by
  refine ⟨fun pins s σ H Q I h => ?_⟩
  refine PySem.W.methodCall_KW (pl := pl) (thn (he.run pins s σ H _ I h) fun u s1 ⟨x, H1, I1, rx, a, dx, fs, ex, ea, l, q⟩ => ?_) ht
  subst ex
  obtain rfl : u = Value.ref a := rx
  refine getmeth_ok I1 ea c hm l ?_
  refine PySem.W.callWith_K (first := [.ref a]) (h₀ := X.base) I.ok.mod.kin hm.kp (thn (ha.run pos pins s1 σ H1 _ I1 q) fun us s2 ⟨vs, H2, I2, r, q2⟩ => ⟨I2.kIn, ?_⟩) hst hpl
  exact run_fnS (us := .ref a :: us) (vs := .ref a :: vs) F hr hb (hx σ) I2 (.cons rfl r) q2
theorem run_fnRS {pins : List (Addr × Obj)} {σ : L2.St} {H : Hp} {s : Shared} {Q : VK} {us : List Value} {vs : List V} {kz : List (Str × Value)} {zs : List Value} (F : FnOk X.prog X.w X.K X.mg X.base CX k f fd ps sp) (hr : Room k X.A) (hx : PassesAt CX X σ E1) (I : Inv X pins σ H s)
    (b : BindsTo s fd ⟨us, kz⟩ (ps.zip zs)) (r : Vals vs zs) (h : sp vs H Q E1) :
    codeAny (model X.prog X.w) X.A (.call (.ref f) ⟨us, kz⟩) (fun r s' => match r with | .ok (.ret v) => EP X pins σ Q v s' | .ok _ => False | .error e => X.xe e s') s := by
  refine codeAny_mono (F.run X.A X.stack s H ⟨us, kz⟩ zs vs Q E1 hr I.env0 b r h) fun r s' hq => ?_
  cases r with
  | error e => exact hx pins H s e s' I hq
  | ok fl =>
    cases fl with
    | ret u => exact I.after hq
    | next => exact False.elim hq
    | brk => exact False.elim hq
    | cont => exact False.elim hq
theorem pe_cmethS (he : PE X o ta) (r : CRead X.K C mc) (c : CMet X.K C mc m p g) (F : FnOk X.prog X.w X.K X.mg X.base CX k g fd ps sp) (hr : Room k X.A) (hb : Binds X.K fd ps []) (hx : ∀ σ, PassesAt CX X σ (E σ)) (ha : PA X (e :: es) t)
    (hst : starEach (e :: es) X.env = (false, eval e X.env) :: starEach es X.env := by rfl) (hpl : (backTo pos (starEach es X.env)).any (·.1) = false := by rfl)
    (ht : eval (.Call (.Attribute o m apos) (e :: es) [] pos) X.env = (do
      let ov ← eval o X.env
      standAt apos.atName
      let (f, first) ← holding [ov] (getMethod ov m pl)
      callWith pos f first (backTo pos (starEach (e :: es) X.env)) (backToKw pos (keywordEach [] X.env))) := by rfl) :
    PE X (.Call (.Attribute o m apos) (e :: es) [] pos) (tCMethS C sp E ta t) := by
  refine ⟨fun pins s σ H Q I h => ?_⟩
  refine PySem.W.methodCall_KW (pl := pl) (thn (he.run pins s σ H _ I h) fun u s1 ⟨x, H1, I1, rx, ex, q⟩ => ?_) ht
  subst ex
  obtain rfl : u = Value.ref C := rx
  refine getmethcm_ok I1 r c fun s2 I2 => ?_
  refine callwith_cm I2 (base_none I1 (Nat.le_refl _)) c.fi (thn (ha.run pos _ s2 σ H1 _ I2 q) fun us s3 ⟨vs, H2, I3, rv, q2⟩ => ⟨⟨pin_at I3, I3.kIn⟩, ?_⟩) hst hpl
  have hl : (Value.ref C :: us ++ []).length = ps.length := by
    rw [List.append_nil, List.length_cons, ← rv.length]
    exact F.len _ _ _ _ q2
  have b := hb s3 (Value.ref C :: us) I3.kIn hl
  rw [List.append_nil] at b
  have z := wpAny_call (PySem.W.method_call (pin_at I3) (run_fnRS (vs := .ref C :: vs) F hr (hx σ) I3 b (.cons rfl rv) q2))
  exact thn z fun _ _ y => unpinE y
/-! ### by keywords alone -/
/-- o.m(k = v, ..) -/
def tMethK (C : Addr) (m : Str) (n : Nat) (sp : Sp) (gV : List V → List V → List V) (E : XK) (ta : TE) (tk : TA) : TE := fun σ H Q => ta σ H fun x H1 => ∃ a dx fs, x = .ref a ∧ H1 a = some (.ins C dx fs) ∧ fs.lookup m = none ∧ tk σ H1 fun zs H2 => zs.length = n ∧ sp (gV [x] zs) H2 Q E
variable {gg : List Value → List Value → List Value} {gV : List V → List V → List V}
theorem pe_methK0 (he : PE X o ta) (c : Cls X.K C) (hm : Meth X.K C m f) (F : FnOk X.prog X.w X.K X.mg X.base CX k f fd ps sp) (hr : Room k X.A) (hb : KBn X.K fd ps 1 ks gg gV) (hx : Passes CX X E1) (hkw : PK X kws tk)
    (hall : (backToKw pos (keywordEach kws X.env)).all (·.1.isSome) = true := by rfl) (hks : (backToKw pos (keywordEach kws X.env)).filterMap (·.1) = ks := by rfl)
    (hpl : ((backTo pos (starEach [] X.env)).any (·.1) || (backToKw pos (keywordEach kws X.env)).any (·.1.isNone)) = false := by rfl)
    (ht : eval (.Call (.Attribute o m apos) [] kws pos) X.env = (do
      let ov ← eval o X.env
      standAt apos.atName
      let (f, first) ← holding [ov] (getMethod ov m pl)
      callWith pos f first (backTo pos (starEach [] X.env)) (backToKw pos (keywordEach kws X.env))) := by rfl) :
    PE X (.Call (.Attribute o m apos) [] kws pos) (tMethK C m ks.length sp gV E1 ta tk) := by
  refine ⟨fun pins s σ H Q I h => ?_⟩
  refine PySem.W.methodCall_KW (pl := pl) (thn (he.run pins s σ H _ I h) fun u s1 ⟨x, H1, I1, rx, a, dx, fs, ex, ea, l, q⟩ => ?_) ht
  subst ex
  obtain rfl : u = Value.ref a := rx
  refine getmeth_ok I1 ea c hm l ?_
  refine PySem.W.callWith_KW0 (first := [.ref a]) (h₀ := X.base) I.ok.mod.kin hm.kp hall ?_ hpl
  refine thn (hkw.run pos pins s1 σ H1 _ I1 q) fun ws s2 ⟨zs, H2, I2, rz, lz, q2⟩ => ⟨I2.kIn, ?_⟩
  rw [hks]
  have r1 : Vals [V.ref a] [Value.ref a] := .cons rfl .nil
  exact wpAny_call (run_fnRS F hr (at_of hx σ) I2 (hb.to s2 [Value.ref a] ws I2.kIn rfl (rz.length.symm.trans lz)) (hb.rel r1 rz) q2)
/-- C.m(k = v, ..), a classmethod -/
def tCMethK (C : Addr) (n : Nat) (sp : Sp) (gV : List V → List V → List V) (E : XK) (ta : TE) (tk : TA) : TE := fun σ H Q => ta σ H fun x H1 => x = .ref C ∧ tk σ H1 fun zs H2 => zs.length = n ∧ sp (gV [.ref C] zs) H2 Q E
theorem pe_cmethK0 (he : PE X o ta) (r : CRead X.K C mc) (c : CMet X.K C mc m p g) (F : FnOk X.prog X.w X.K X.mg X.base CX k g fd ps sp) (hr : Room k X.A) (hb : KBn X.K fd ps 1 ks gg gV) (hx : Passes CX X E1) (hkw : PK X kws tk)
    (hall : (backToKw pos (keywordEach kws X.env)).all (·.1.isSome) = true := by rfl) (hks : (backToKw pos (keywordEach kws X.env)).filterMap (·.1) = ks := by rfl)
    (hpl : ((backTo pos (starEach [] X.env)).any (·.1) || (backToKw pos (keywordEach kws X.env)).any (·.1.isNone)) = false := by rfl)
    (ht : eval (.Call (.Attribute o m apos) [] kws pos) X.env = (do
      let ov ← eval o X.env
      standAt apos.atName
      let (f, first) ← holding [ov] (getMethod ov m pl)
      callWith pos f first (backTo pos (starEach [] X.env)) (backToKw pos (keywordEach kws X.env))) := by rfl) :
    PE X (.Call (.Attribute o m apos) [] kws pos) (tCMethK C ks.length sp gV E1 ta tk) := by
  refine ⟨fun pins s σ H Q I h => ?_⟩
  refine PySem.W.methodCall_KW (pl := pl) (thn (he.run pins s σ H _ I h) fun u s1 ⟨x, H1, I1, rx, ex, q⟩ => ?_) ht
  subst ex
  obtain rfl : u = Value.ref C := rx
  refine getmethcm_ok I1 r c fun s2 I2 => ?_
  refine PySem.W.callWith_of hpl (PySem.W.keeps_M (self := .ref C) c.fi) (evalArgs_kw2_nil hall ?_)
  refine thn (hkw.run pos _ s2 σ H1 _ I2 q) fun ws s3 ⟨zs, H2, I3, rz, lz, q2⟩ => ⟨⟨pin_at I3, I3.kIn⟩, ?_⟩
  rw [hks]
  have r1 : Vals [V.ref C] [Value.ref C] := .cons rfl .nil
  have b := hb.to s3 [Value.ref C] ws I3.kIn rfl (rz.length.symm.trans lz)
  have z := wpAny_call (PySem.W.method_call (pin_at I3) (run_fnRS F hr (at_of hx σ) I3 b (hb.rel r1 rz) q2))
  exact thn z fun _ _ y => unpinE y
end
end OS

set_option Elab.async false
set_option linter.all false
set_option maxRecDepth 100000
set_option maxHeartbeats 4000000
/-! != of lists whose items are equal: the same object, the same flat value, the same data, lists of such -/
namespace OS
open PySem PySem.Spec PyProof.Rows L2 PySem.OSS
/-- equal, seen without looking at what is the same object -/
def EqI (K : PySem.W.Frag) (H : Hp) (x y : V) : Prop := (x = y ∧ flatV x = true) ∨ (∃ a, x = .ref a ∧ y = .ref a) ∨ ∃ d, Dp K H x d ∧ Dp K H y d ∧ d.depth ≤ 20
def EqN (K : PySem.W.Frag) (H : Hp) : Nat → V → V → Prop
  | 0 => EqI K H
  | n + 1 => fun x y => EqI K H x y ∨ ∃ a b xs ys, x = .ref a ∧ y = .ref b ∧ SqL K H a xs ∧ SqL K H b ys ∧ Paired (EqN K H n) xs ys
theorem flat_self {x : V} (h : flatV x = true) : eqV x x = true := by
  cases x with
  | non => rfl
  | bl b => cases b <;> rfl
  | int i => simp [eqV]
  | str z => simp [eqV]
  | _ => cases h
section
variable {X : Cx} {pins : List (Addr × Obj)} {σ : L2.St} {H : Hp} {s : Shared}
theorem eqI_at (I : Inv X pins σ H s) {A : Around} (hu : A.units + 21 < cLine) {x y : V} {u v : Value} (h : EqI X.K H x y) (rx : RelV x u) (ry : RelV y v) : SeqAt.EqAt A s u v true := by
  rcases h with ⟨rfl, f⟩ | ⟨a, rfl, rfl⟩ | ⟨d, h1, h2, hd⟩
  · have := eqAt_V (A := A) (s := s) rx ry f f
    rwa [flat_self f] at this
  · cases (show u = Value.ref a from rx)
    cases (show v = Value.ref a from ry)
    exact SeqAt.EqAt.same _
  · obtain ⟨as, r1⟩ := Dp.reads I d x u h1 rx
    obtain ⟨bs, r2⟩ := Dp.reads I d y v h2 ry
    have := SeqAt.eqAt_plain d d A s u v as bs r1 r2 (dp_plain d _ h1) (dp_plain d _ h2) (by omega)
    rwa [SeqAt.eqv_refl_plain d (dp_plain d _ h1)] at this
theorem eqN_at (I : Inv X pins σ H s) : ∀ (n : Nat) {A : Around}, A.units + n + 21 < cLine → ∀ {x y : V} {u v : Value}, EqN X.K H n x y → RelV x u → RelV y v → SeqAt.EqAt A s u v true
  | 0, A, hu, x, y, u, v, h, rx, ry => eqI_at I (by omega) h rx ry
  | n + 1, A, hu, x, y, u, v, h, rx, ry => by
    rcases h with h | ⟨a, b, xs, ys, rfl, rfl, ha, hb, hp⟩
    · exact eqI_at I (by omega) h rx ry
    · cases (show u = Value.ref a from rx)
      cases (show v = Value.ref b from ry)
      by_cases e : a = b
      · subst e
        exact SeqAt.EqAt.same _
      obtain ⟨us, r1, p1, _⟩ := I.list ha
      obtain ⟨ws, r2, p2, _⟩ := I.list hb
      have hsz : us.toArray.size = ws.toArray.size := by
        rw [List.size_toArray, List.size_toArray, ← r1.length, ← r2.length]
        exact Paired.length hp
      have rc : SeqAt.RcAt A s (.ref a) (.ref b) ((List.range us.toArray.size).all fun _ => true) := SeqAt.RcAt.lists (e := fun _ => true) p1.isList p2.isList hsz (by omega) fun j h1 h2 => by
        have k1 : j < us.length := by simpa using h1
        have k2 : j < ws.length := by simpa using h2
        have l1 : j < xs.length := by rw [r1.length]; exact k1
        obtain ⟨x0, hx0⟩ : ∃ x0, xs[j]? = some x0 := ⟨_, List.getElem?_eq_getElem l1⟩
        obtain ⟨y0, hy0, hxy⟩ := paired_get hp hx0
        obtain ⟨u0, hu0, ru0⟩ := r1.get hx0
        obtain ⟨v0, hv0, rv0⟩ := r2.get hy0
        rw [List.getElem?_eq_getElem k1] at hu0
        rw [List.getElem?_eq_getElem k2] at hv0
        have := eqN_at I n (A := A.in1) (by show A.units + 1 + n + 21 < cLine; omega) hxy ru0 rv0
        rw [← Option.some.inj hu0, ← Option.some.inj hv0] at this
        simpa using this
      rw [show ((List.range us.toArray.size).all fun _ => true) = true from List.all_eq_true.mpr fun _ _ => rfl] at rc
      exact SeqAt.EqAt.of_refs e rc
end
def rNeI (K : PySem.W.Frag) : R2 := fun x y H Q => ∃ a b xs ys, x = .ref a ∧ y = .ref b ∧ SqL K H a xs ∧ SqL K H b ys ∧ Paired (EqN K H 1) xs ys ∧ Q (.bl false) H
theorem op_neI {X : Cx} (hu : X.A.units + 65 < cLine) : OpR X (compareOp .NotEq) (rNeI X.K) := by
  intro pins s σ H x y v u Q I rx ry h
  obtain ⟨a, b, xs, ys, rfl, rfl, ha, hb, hp, q⟩ := h
  cases rx
  cases ry
  obtain ⟨us, r1, p1, _⟩ := I.list ha
  obtain ⟨ws, r2, p2, _⟩ := I.list hb
  have hsz : us.toArray.size = ws.toArray.size := by
    rw [List.size_toArray, List.size_toArray, ← r1.length, ← r2.length]
    exact Paired.length hp
  have rc : SeqAt.RcNeAt X.A s (.ref a) (.ref b) (!(List.range us.toArray.size).all fun _ => true) := SeqAt.RcNeAt.lists (e := fun _ => true) p1.isList p2.isList hsz (by omega) fun j h1 h2 => by
    have k1 : j < us.length := by simpa using h1
    have k2 : j < ws.length := by simpa using h2
    have l1 : j < xs.length := by rw [r1.length]; exact k1
    obtain ⟨x0, hx0⟩ : ∃ x0, xs[j]? = some x0 := ⟨_, List.getElem?_eq_getElem l1⟩
    obtain ⟨y0, hy0, hxy⟩ := paired_get hp hx0
    obtain ⟨u0, hu0, ru0⟩ := r1.get hx0
    obtain ⟨v0, hv0, rv0⟩ := r2.get hy0
    rw [List.getElem?_eq_getElem k1] at hu0
    rw [List.getElem?_eq_getElem k2] at hv0
    have := eqN_at I 1 (A := X.A.in1) (by show X.A.units + 1 + 1 + 21 < cLine; omega) hxy ru0 rv0
    rw [← Option.some.inj hu0, ← Option.some.inj hv0] at this
    simpa using this
  rw [show ((List.range us.toArray.size).all fun _ => true) = true from List.all_eq_true.mpr fun _ _ => rfl] at rc
  exact rc X.prog X.w X.xe _ ⟨.bl false, H, I, rfl, q⟩
theorem takesNo {X : Cx} : Takes X (fun _ _ _ _ => False) := fun _ _ x => by
  obtain ⟨_, _, _, _, _, _, _, _, _, _, _, _, _, _, _, _, z⟩ := x
  exact z.elim
theorem pass0x {X : Cx} : Passes (L2.CX X.prog X.w) X E0 := fun _ _ _ _ _ _ _ h => by
  obtain ⟨_, _, _, _, _, _, _, _, _, _, _, _, z⟩ := h
  exact z.elim
end OS

set_option Elab.async false
set_option linter.all false
set_option maxRecDepth 100000
set_option maxHeartbeats 4000000
/-! != of two tuples whose items are equal, one by one -/
namespace PySem.SeqAt
open AutoSeq1 (wpAny_loadPart')
open MeetsSeq MeetsSeq2 MeetsSeq3
section
variable {prog : Program} {w : World} {A : Around} {s : Shared}
theorem ne_alikeIn (l b : Addr) (items items2 : Array Value) (n n2 : Nat) (dd dd2 : Option Addr) (sl sl2 : Array (Option Value)) (hsz : items.size = items2.size) :
    MeetsIn prog w (Builtin.«tuple.__ne__» ⟨[.ref l, .ref b], []⟩)
      (fun A R s => s.heap.get? l = some { cls := .type "tuple", dict := dd, data := .seq items n, slots := sl } ∧ s.heap.get? b = some { cls := .type "tuple", dict := dd2, data := .seq items2 n2, slots := sl2 } ∧
        (∀ p ∈ items.toList.zip items2.toList, EqIn prog w A.in1 s p.1 p.2 true) ∧ R (.ok (.ret (.bool false))) s) :=
  .of_wp fun A R s h => by
    obtain ⟨hp, g, d, tk, os⟩ := s
    obtain ⟨hl, hb, he, h⟩ := h
    have f2 := AutoSeq1.sub_tuple_tuple
    wp_walk using wpAny_loadPart' hl, wpAny_loadPart' hb, wpAny_forIn_list _ (fun rest r s' => (r.1 = none ∧ s' = ⟨hp, g, d, tk, os⟩) ∧ ∀ p ∈ rest, EqIn prog w A.in1 ⟨hp, g, d, tk, os⟩ p.1 p.2 true) _
    case turn =>
      rintro ⟨y, x⟩ rest r s' ⟨⟨hr, rfl⟩, hall⟩
      refine wpAny_bind (hall (y, x) (.head _) _ _ ?_)
      wp_walk
      exact ⟨⟨rfl, rfl⟩, fun p hp' => hall p (.tail _ hp')⟩
    case fin =>
      rintro ⟨r1, r2⟩ s' ⟨⟨hr, rfl⟩, _⟩
      simp only at hr
      subst hr
      wp_walk
      exact ⟨_, rfl, by simpa [Builtin.Tuple.tupleCompareSizes, bne, hsz] using h⟩
    case h =>
      exact ⟨⟨rfl, rfl⟩, he⟩
theorem ne_alike {E : Value → Shared → Prop} {l b : Addr} {items items2 : Array Value} {Q : Value → Shared → Prop} (hl : s.heap.IsTuple l items) (hb : s.heap.IsTuple b items2) (hsz : items.size = items2.size) (hu : A.units < cLine)
    (he : ∀ p ∈ items.toList.zip items2.toList, EqIn prog w A.in1 s p.1 p.2 true) (h : Q (.bool false) s) : wpAny (model prog w) A (richCompare .NotEq (.ref l) (.ref b)) Q E s := by
  obtain ⟨⟨c1, d1, dt1, sl1⟩, o1, e1, n1, f1⟩ := id hl
  obtain ⟨⟨c2, d2, dt2, sl2⟩, o2, e2, n2, f2⟩ := id hb
  simp only at e1 f1 e2 f2
  subst e1 f1 e2 f2
  exact wpAny_richCompare_same_room (T := "tuple") (op := .NotEq) ⟨_, o1, rfl⟩ ⟨_, o2, rfl⟩ F.slot_tuple_ne (call_meetsIn F.slot_tuple_ne ⟨_, o1, rfl⟩ F.entry_tuple_ne (F.args_tuple_ne_2 _ _) (ne_alikeIn l b items items2 n1 n2 d1 d2 sl1 sl2 hsz)
    ⟨o1, o2, he, show Value.bool false ≠ Value.notImplemented ∧ Q (.bool false) s from ⟨(fun x => nomatch x), h⟩⟩) hu
end
end PySem.SeqAt
namespace OS
open PySem PySem.Spec PyProof.Rows L2 PySem.OSS
/-- equal items: as EqI says, or two dicts of the same keys with such values -/
def EqX (K : PySem.W.Frag) (H : Hp) (x y : V) : Prop := EqI K H x y ∨ EqR K H (EqI K H) x y
def rNeT (K : PySem.W.Frag) : R2 := fun x y H Q => ∃ a b xs ys, x = .ref a ∧ y = .ref b ∧ SqT K H a xs ∧ SqT K H b ys ∧ Paired (EqX K H) xs ys ∧ Q (.bl false) H
section
variable {X : Cx} {pins : List (Addr × Obj)} {σ : L2.St} {H : Hp} {s : Shared}
theorem eqX_at (I : Inv X pins σ H s) {A : Around} (hu : A.units + 30 < cLine) {x y : V} {u v : Value} (h : EqX X.K H x y) (rx : RelV x u) (ry : RelV y v) : SeqAt.EqP X.prog X.w A s u v true := by
  rcases h with h | h
  · exact (eqI_at I (by omega) h rx ry).eqP
  · have step := eqR_run I (A := A) (by omega) (fun x y v u q r1 r2 => (eqI_at I (A := A.in1) (by show A.units + 1 + 21 < cLine; omega) q r1 r2).eqP) h rx ry
    obtain ⟨a, b, rfl, rfl⟩ : ∃ a b, x = V.ref a ∧ y = V.ref b := by
      rcases h with ⟨a, b, _, _, e1, e2, _⟩ | ⟨a, b, _, _, e1, e2, _⟩
      · exact ⟨a, b, e1, e2⟩
      · exact ⟨a, b, e1, e2⟩
    cases (show u = Value.ref a from rx)
    cases (show v = Value.ref b from ry)
    by_cases e : a = b
    · subst e
      exact (SeqAt.EqAt.same _).eqP
    · exact SeqAt.eqP_refs e step
theorem op_neT (hu : X.A.units + 65 < cLine) : OpR X (compareOp .NotEq) (rNeT X.K) := by
  intro pins s σ H x y v u Q I rx ry h
  obtain ⟨a, b, xs, ys, rfl, rfl, ha, hb, hp, q⟩ := h
  cases (show v = Value.ref a from rx)
  cases (show u = Value.ref b from ry)
  obtain ⟨us, r1, p1, _⟩ := I.tuple ha
  obtain ⟨ws, r2, p2, _⟩ := I.tuple hb
  have hsz : us.toArray.size = ws.toArray.size := by
    rw [List.size_toArray, List.size_toArray, ← r1.length, ← r2.length]
    exact Paired.length hp
  refine SeqAt.ne_alike (E := X.xe) (A := X.A) p1 p2 hsz (by omega) (fun p hp' => ?_) ⟨.bl false, H, I, rfl, q⟩
  obtain ⟨j, hj⟩ := List.getElem?_of_mem hp'
  have hj' : (us.zip ws)[j]? = some p := by simpa using hj
  obtain ⟨h1, h2⟩ := List.getElem?_zip_eq_some.mp hj'
  have l1 : j < us.length := (List.getElem?_eq_some_iff.mp h1).1
  obtain ⟨x0, hx0⟩ : ∃ x0, xs[j]? = some x0 := ⟨_, List.getElem?_eq_getElem (by rw [r1.length]; exact l1)⟩
  obtain ⟨y0, hy0, hxy⟩ := paired_get hp hx0
  obtain ⟨u0, hu0, ru0⟩ := r1.get hx0
  obtain ⟨v0, hv0, rv0⟩ := r2.get hy0
  rw [h1] at hu0
  rw [h2] at hv0
  obtain rfl := Option.some.inj hu0
  obtain rfl := Option.some.inj hv0
  exact eqX_at I (A := X.A.in1) (by show X.A.units + 1 + 30 < cLine; omega) hxy ru0 rv0
end
end OS

set_option Elab.async false
set_option linter.all false
set_option maxRecDepth 100000
set_option maxHeartbeats 4000000
/-! any values that stand beside the state of the draws; comprehensions whose test draws -/
namespace OS
open PySem PySem.Spec PyProof.Rows L2
/-- an address that is none of what stands beside the state -/
def Frn (p : Addr) (H : Hp) (q : Addr) : Prop := ∀ D o, Sep H p D o → q ≠ D
theorem Frn.none {p q : Addr} {H : Hp} (h : H q = none) : Frn p H q := fun D o s z => by
  have := s.at_
  rw [← z, h] at this
  cases this
theorem Frn.nx {p q : Addr} {H H1 : Hp} (x : Nx p H H1) (h : Frn p H1 q) : Frn p H q := fun D o s => h D o (x _ _ s)
/-- a tuple beside the state -/
def TupN (K : PySem.W.Frag) (p : Addr) (H : Hp) (a : Addr) (xs : List V) : Prop := (Sep H p a (.tup xs) ∨ ∃ o, Sep H p a (.frz o (.tup xs))) ∨ ∀ H', SqT K H' a xs
theorem TupN.of {K : PySem.W.Frag} {H : Hp} {p a : Addr} {n : Nat} {xs : List V} (S : StAt H p n) (h : SqT K H a xs) : TupN K p H a xs := by
  rcases h with (h | ⟨o, h⟩) | h
  · exact .inl (.inl (S.sep h fun _ z => nomatch z))
  · exact .inl (.inr ⟨o, S.sep h fun _ z => nomatch z⟩)
  · exact .inr fun H' => .inr h
theorem TupN.sq {K : PySem.W.Frag} {H : Hp} {p a : Addr} {xs : List V} (h : TupN K p H a xs) : SqT K H a xs := by
  rcases h with (h | ⟨o, h⟩) | h
  · exact .inl (.inl h.at_)
  · exact .inl (.inr ⟨o, h.at_⟩)
  · exact h H
theorem TupN.kept {K : PySem.W.Frag} {H H' : Hp} {p D a : Addr} {xs acc : List V} (sD : Sep H p D (.lst acc)) (k : ∀ q o, Sep H p q o → q ≠ D → Sep H' p q o) (h : TupN K p H a xs) : TupN K p H' a xs := by
  rcases h with (h | ⟨o, h⟩) | h
  · exact .inl (.inl (k _ _ h (ne_of h.at_ sD.at_ fun z => by cases z)))
  · exact .inl (.inr ⟨o, k _ _ h (ne_of h.at_ sD.at_ fun z => by cases z)⟩)
  · exact .inr h
theorem TupN.nx {K : PySem.W.Frag} {H H' : Hp} {p a : Addr} {xs : List V} (x : Nx p H H') (h : TupN K p H a xs) : TupN K p H' a xs := by
  rcases h with (h | ⟨o, h⟩) | h
  · exact .inl (.inl (x _ _ h))
  · exact .inl (.inr ⟨o, x _ _ h⟩)
  · exact .inr h
/-- an item beside the state; its lists and dicts are at addresses in B -/
inductive ItmX (K : PySem.W.Frag) (p : Addr) (H : Hp) (B : Addr → Prop) : V → Prop
  | flat {v : V} : flatV v = true → ItmX K p H B v
  | lst {a : Addr} {zs : List V} : Sep H p a (.lst zs) → B a → ItmX K p H B (.ref a)
  | dct {a : Addr} {kvs : List (Key × V)} : Sep H p a (.dK kvs) → B a → ItmX K p H B (.ref a)
  | tup {a : Addr} {zs : List V} : TupN K p H a zs → ItmX K p H B (.ref a)
/-- a value beside the state; if it is a tuple, its items -/
inductive ThgX (K : PySem.W.Frag) (p : Addr) (H : Hp) (B : Addr → Prop) : V → Option (List V) → Prop
  | flat {v : V} : flatV v = true → ThgX K p H B v none
  | lst {a : Addr} {zs : List V} : Sep H p a (.lst zs) → B a → ThgX K p H B (.ref a) none
  | dct {a : Addr} {kvs : List (Key × V)} : Sep H p a (.dK kvs) → B a → ThgX K p H B (.ref a) none
  | tup {a : Addr} {xs : List V} : TupN K p H a xs → (∀ v ∈ xs, ItmX K p H B v) → ThgX K p H B (.ref a) (some xs)
section
variable {K : PySem.W.Frag} {H H' : Hp} {p : Addr} {B B' : Addr → Prop} {v : V} {o : Option (List V)}
theorem ItmX.nx (x : Nx p H H') (h : ItmX K p H B v) : ItmX K p H' B v := by
  cases h with
  | flat f => exact .flat f
  | lst s b => exact .lst (x _ _ s) b
  | dct s b => exact .dct (x _ _ s) b
  | tup s => exact .tup (s.nx x)
theorem ThgX.nx (x : Nx p H H') (h : ThgX K p H B v o) : ThgX K p H' B v o := by
  cases h with
  | flat f => exact .flat f
  | lst s b => exact .lst (x _ _ s) b
  | dct s b => exact .dct (x _ _ s) b
  | tup s hi => exact .tup (s.nx x) fun w hw => (hi w hw).nx x
theorem ItmX.mono (b : ∀ a, B a → B' a) (h : ItmX K p H B v) : ItmX K p H B' v := by
  cases h with
  | flat f => exact .flat f
  | lst s c => exact .lst s (b _ c)
  | dct s c => exact .dct s (b _ c)
  | tup s => exact .tup s
theorem ThgX.mono (b : ∀ a, B a → B' a) (h : ThgX K p H B v o) : ThgX K p H B' v o := by
  cases h with
  | flat f => exact .flat f
  | lst s c => exact .lst s (b _ c)
  | dct s c => exact .dct s (b _ c)
  | tup s hi => exact .tup s fun w hw => (hi w hw).mono b
theorem ItmX.itm (h : ItmX K p H B v) : Itm K H v := by
  cases h with
  | flat f => exact .flat f
  | lst s b => exact .lst s.sq
  | dct s b => exact .dct s.at_
  | tup s => exact .tup s.sq
theorem ThgX.thing (h : ThgX K p H B v o) : Thing K H v o := by
  cases h with
  | flat f => exact .flat f
  | lst s b => exact .lst s.sq
  | dct s b => exact .dct s.at_
  | tup s hi => exact .tup s.sq fun w hw => (hi w hw).itm
/-- where all but the list at P is kept -/
theorem ItmX.but {P : Addr} {u : HO} (h : ItmX K p H (fun a => a ≠ P) v) {acc : List V} (sP : Sep H p P (.lst acc)) : ItmX K p (upd H P u) (fun a => a ≠ P) v := by
  have k : ∀ q o, Sep H p q o → q ≠ P → Sep (upd H P u) p q o := fun q o h n => h.put_ne sP n
  cases h with
  | flat f => exact .flat f
  | lst s b => exact .lst (k _ _ s b) b
  | dct s b => exact .dct (k _ _ s b) b
  | tup s => exact .tup (s.kept sP k)
theorem ThgX.but {P : Addr} {u : HO} (h : ThgX K p H (fun a => a ≠ P) v o) {acc : List V} (sP : Sep H p P (.lst acc)) : ThgX K p (upd H P u) (fun a => a ≠ P) v o := by
  have k : ∀ q o, Sep H p q o → q ≠ P → Sep (upd H P u) p q o := fun q o h n => h.put_ne sP n
  cases h with
  | flat f => exact .flat f
  | lst s b => exact .lst (k _ _ s b) b
  | dct s b => exact .dct (k _ _ s b) b
  | tup s hi => exact .tup (s.kept sP k) fun w hw => (hi w hw).but sP
end
/-- over n turns: tests and items may draw -/
theorem lc_drt {J : It} {n : Nat} {G : Hp → Prop} {Y : Nat → Hp → V → Hp → Prop} (w : Walk J n G Y) (hz : n ≤ 100000) (p : Addr) (m0 c : Nat) (R : Hp → V → Prop) {g : TG} {tt : TT} {te : TE} {vs : List Nat} {σ : L2.St} {H1 : Hp} {D : Addr} {Qd : Hp → Prop}
    (S : StAt H1 p m0) (hD : H1 D = none) (hR : ∀ H H' y acc, Sep H p D (.lst acc) → (∀ q o, Sep H p q o → q ≠ D → Sep H' p q o) → R H y → R H' y) (hG : ∀ H, Nx p H1 H → G H)
    (hs : ∀ i m x H H' (Qk : V → Hp → Prop) (Qn : Hp → Prop), i < n → StAt H p m → m ≤ m0 + c * i → Nx p H1 H → Y i H x H' → (∀ y H4 m', R H4 y → StAt H4 p m' → m' ≤ m + c → Nx p H H4 → Qk y H4) → (∀ H4 m', StAt H4 p m' → m' ≤ m + c → Nx p H H4 → Qn H4) →
      g x (wipe σ vs) H' fun σ2 H2 => wipe σ2 vs = wipe σ vs ∧ tt σ2 H2 fun b H3 => if b = true then te σ2 H3 Qk else Qn H3)
    (hd : ∀ H m acc, StAt H p m → m ≤ m0 + c * n → Nx p H1 H → Sep H p D (.lst acc) → acc.length ≤ n → (∀ y ∈ acc, R H y) → Qd H) :
    ∃ W : Nat → Nat → Hp → Prop, (∃ m, W 0 m (upd H1 D (.lst []))) ∧ ∀ i m H, W i m H →
      (J.stop i H ∧ Qd H) ∨ (J.go i H ∧ ∃ Nx : Hp → Prop, (∀ H', Nx H' → ∃ m', m' < m ∧ W (i + 1) m' H') ∧ ∀ x H', J.yld i H x H' → g x (wipe σ vs) H' fun σ2 H2 => wipe σ2 vs = wipe σ vs ∧ tt σ2 H2 fun b H3 =>
        if b = true then te σ2 H3 fun y H4 => ∃ acc, H4 D = some (.lst acc) ∧ acc.length < sizeLine ∧ Nx (upd H4 D (.lst (acc ++ [y]))) else Nx H3) := by
  refine lc_it w (fun i H => ∃ m acc, StAt H p m ∧ m ≤ m0 + c * i ∧ Nx p H1 H ∧ Sep H p D (.lst acc) ∧ acc.length ≤ i ∧ ∀ y ∈ acc, R H y) ⟨m0, [], S.same (same_new hD), Nat.le_add_right _ _, S.nx (same_new hD), S.new hD, Nat.le_refl _, fun y h => nomatch h⟩ (fun i H _ ⟨_, _, _, _, x, _⟩ => hG H x) ?_ ?_
  · intro i x H H' hi ⟨m, acc, S', hm, nx, sD, hl, hr⟩ hy
    refine hs i m x H H' _ _ hi S' hm nx hy (fun y H4 m' ry S4 hm' nx4 => ?_) (fun H4 m' S4 hm' nx4 => ?_)
    · have sD4 := nx4 _ _ sD
      refine ⟨acc, sD4.at_, small1e5 (by omega), m', acc ++ [y], S4.put sD4, by rw [Nat.mul_succ]; omega, ?_, sD4.put_same, by rw [List.length_append]; simp; omega, ?_⟩
      · intro q o hq
        have hq4 := nx4 _ _ (nx q o hq)
        have : q ≠ D := ne_of_none hq.at_ hD
        exact hq4.put_ne sD4 this
      · have kp : ∀ q o, Sep H4 p q o → q ≠ D → Sep (upd H4 D (.lst (acc ++ [y]))) p q o := fun q o h n => h.put_ne sD4 n
        intro z hz'
        rcases List.mem_append.mp hz' with h | h
        · exact hR _ _ z acc sD4 kp (hR _ _ z acc sD (fun q o h _ => nx4 q o h) (hr z h))
        · rw [List.mem_singleton.mp h]
          exact hR _ _ y acc sD4 kp ry
    · have sD4 := nx4 _ _ sD
      exact ⟨m', acc, S4, by rw [Nat.mul_succ]; omega, nx.trans nx4, sD4, by omega, fun y hy => hR _ _ y acc sD (fun q o h _ => nx4 q o h) (hr y hy)⟩
  · intro H ⟨m, acc, S', hm, nx, sD, hl, hr⟩
    exact hd H m acc S' hm nx sD hl hr
end OS

set_option Elab.async false
set_option linter.all false
set_option maxRecDepth 100000
set_option maxHeartbeats 4000000
/-! the state of the takes: a list of a list of ints, a place, a count -/
namespace OS
open PySem PySem.Spec PyProof.Rows L2
structure StT (H : Hp) (p c : Addr) (zs : List Int) (k n : Nat) : Prop where
  hp : H p = some (.lst [.ref c, .int (k : Int), .int (n : Int)])
  hc : H c = some (.lst (zs.map V.int))
  kn : k ≤ n
  lz : zs.length ≤ 100
def StU (H : Hp) (p : Addr) (n : Nat) : Prop := ∃ c zs k, StT H p c zs k n
theorem StT.pc {H : Hp} {p c : Addr} {zs : List Int} {k n : Nat} (S : StT H p c zs k n) : p ≠ c := by
  refine ne_of S.hp S.hc fun z => ?_
  injection z with z
  cases zs <;> simp at z
theorem own_iffT {H : Hp} {p c : Addr} {k n : Int} (h : H p = some (.lst [.ref c, .int k, .int n])) (q : Addr) : Own H p q ↔ q = p ∨ q = c := by
  unfold Own
  rw [h]
  constructor
  · rintro (h | ⟨xs, e, m⟩)
    · exact .inl h
    · cases e
      simp at m
      exact .inr m
  · rintro (h | h)
    · exact .inl h
    · refine .inr ⟨_, rfl, ?_⟩
      simpa using h
theorem StT.mk' {H : Hp} {p c : Addr} {zs : List Int} {k n : Nat} (S : StT H p c zs k n) : StU H p n := ⟨c, zs, k, S⟩
theorem StT.same {H H' : Hp} {p c : Addr} {zs : List Int} {k n : Nat} (S : StT H p c zs k n) (s : Same H H') : StT H' p c zs k n := ⟨s _ _ S.hp, s _ _ S.hc, S.kn, S.lz⟩
theorem StU.same {H H' : Hp} {p : Addr} {n : Nat} (S : StU H p n) (s : Same H H') : StU H' p n := by
  obtain ⟨c, zs, k, S⟩ := S
  exact ⟨c, zs, k, S.same s⟩
theorem StU.nx {H H' : Hp} {p : Addr} {n : Nat} (S : StU H p n) (s : Same H H') : Nx p H H' := by
  obtain ⟨c, zs, k, S⟩ := S
  intro q o h
  refine ⟨s _ _ h.at_, fun z => h.no ?_⟩
  rw [own_iffT S.hp]
  exact (own_iffT (s _ _ S.hp) q).mp z
theorem StT.nx {H H' : Hp} {p c : Addr} {zs : List Int} {k n : Nat} (S : StT H p c zs k n) (s : Same H H') : Nx p H H' := S.mk'.nx s
theorem StU.free {H : Hp} {p q : Addr} {n : Nat} (S : StU H p n) (h : H q = none) : ¬ Own H p q := by
  obtain ⟨c, zs, k, S⟩ := S
  rw [own_iffT S.hp]
  rintro (z | z)
  · exact ne_of_none S.hp h z.symm
  · exact ne_of_none S.hc h z.symm
/-- a new object -/
theorem StU.new {H : Hp} {p q : Addr} {n : Nat} {o : HO} (S : StU H p n) (h : H q = none) : Sep (upd H q o) p q o := by
  refine ⟨upd_same, fun z => S.free h ?_⟩
  obtain ⟨c, zs, k, S⟩ := S
  rw [own_iffT S.hp]
  exact (own_iffT (same_new h _ _ S.hp) q).mp z
/-- an object of one's own is written -/
theorem StU.put {H : Hp} {p q : Addr} {n : Nat} {o u : HO} (S : StU H p n) (h : Sep H p q o) : StU (upd H q u) p n := by
  obtain ⟨c, zs, k, S⟩ := S
  have no := h.no
  rw [own_iffT S.hp] at no
  refine ⟨c, zs, k, ?_, ?_, S.kn, S.lz⟩
  · rw [upd_ne (fun z => no (.inl z.symm))]; exact S.hp
  · rw [upd_ne (fun z => no (.inr z.symm))]; exact S.hc
theorem Sep.of_newU {H H' : Hp} {p q : Addr} {n : Nat} {o : HO} (S : StU H p n) (s : Same H H') (hq : H q = none) (h : H' q = some o) : Sep H' p q o := by
  obtain ⟨c, zs, k, S⟩ := S
  refine ⟨h, fun z => ?_⟩
  rw [own_iffT (s _ _ S.hp)] at z
  rcases z with z | z
  · exact ne_of_none S.hp hq z.symm
  · exact ne_of_none S.hc hq z.symm
theorem StU.sep {H : Hp} {p q : Addr} {n : Nat} {o : HO} (S : StU H p n) (h : H q = some o) (nl : ∀ xs, o ≠ .lst xs) : Sep H p q o := by
  obtain ⟨c, zs, k, S⟩ := S
  refine ⟨h, fun z => ?_⟩
  rw [own_iffT S.hp] at z
  rcases z with z | z
  · subst z
    exact nl _ (Option.some.inj (h.symm.trans S.hp))
  · subst z
    exact nl _ (Option.some.inj (h.symm.trans S.hc))
/-- all but p and c stays -/
theorem StT.nx_put {H H' : Hp} {p c : Addr} {zs : List Int} {k n : Nat} (S : StT H p c zs k n) {i j : Int} (s : ∀ q o, H q = some o → q ≠ p → q ≠ c → H' q = some o) (hp : H' p = some (.lst [.ref c, .int i, .int j])) : Nx p H H' := by
  intro q o h
  have no := h.no
  rw [own_iffT S.hp] at no
  refine ⟨s _ _ h.at_ (fun z => no (.inl z)) (fun z => no (.inr z)), ?_⟩
  rw [own_iffT hp]
  exact no
theorem StT.put_p {H : Hp} {p c : Addr} {zs : List Int} {k n k' n' : Nat} (S : StT H p c zs k n) (h : k' ≤ n') : StT (upd H p (.lst [.ref c, .int (k' : Int), .int (n' : Int)])) p c zs k' n' ∧ Nx p H (upd H p (.lst [.ref c, .int (k' : Int), .int (n' : Int)])) :=
  ⟨⟨upd_same, by rw [upd_ne S.pc.symm]; exact S.hc, h, S.lz⟩, S.nx_put (fun q o e z _ => by rw [upd_ne z]; exact e) upd_same⟩
theorem StT.put_c {H : Hp} {p c : Addr} {zs zs' : List Int} {k n : Nat} (S : StT H p c zs k n) (h : zs'.length ≤ 100) : StT (upd H c (.lst (zs'.map V.int))) p c zs' k n ∧ Nx p H (upd H c (.lst (zs'.map V.int))) :=
  ⟨⟨by rw [upd_ne S.pc]; exact S.hp, upd_same, S.kn, h⟩, S.nx_put (fun q o e _ z => by rw [upd_ne z]; exact e) (by rw [upd_ne S.pc]; exact S.hp)⟩
theorem lc_dru {J : It} {n : Nat} {G : Hp → Prop} {Y : Nat → Hp → V → Hp → Prop} (w : Walk J n G Y) (hz : n ≤ 100000) (p : Addr) (m0 c : Nat) (R : Hp → V → Prop) {g : TG} {te : TE} {vs : List Nat} {σ : L2.St} {H1 : Hp} {D : Addr} {Qd : Hp → Prop}
    (S : StU H1 p m0) (hD : H1 D = none) (hR : ∀ H H' y acc, Sep H p D (.lst acc) → (∀ q o, Sep H p q o → q ≠ D → Sep H' p q o) → R H y → R H' y) (hG : ∀ H, Nx p H1 H → G H)
    (hs : ∀ i m x H H' (Qk : V → Hp → Prop), i < n → StU H p m → m ≤ m0 + c * i → Nx p H1 H → (∃ acc, Sep H p D (.lst acc)) → Y i H x H' → (∀ y H4 m', R H4 y → StU H4 p m' → m' ≤ m + c → Nx p H H4 → Qk y H4) → g x (wipe σ vs) H' fun σ2 H2 => wipe σ2 vs = wipe σ vs ∧ te σ2 H2 Qk)
    (hd : ∀ H m acc, StU H p m → m ≤ m0 + c * n → Nx p H1 H → Sep H p D (.lst acc) → acc.length = n → (∀ y ∈ acc, R H y) → Qd H) :
    ∃ W : Nat → Nat → Hp → Prop, (∃ m, W 0 m (upd H1 D (.lst []))) ∧ ∀ i m H, W i m H →
      (J.stop i H ∧ Qd H) ∨ (J.go i H ∧ ∃ Nx : Hp → Prop, (∀ H', Nx H' → ∃ m', m' < m ∧ W (i + 1) m' H') ∧ ∀ x H', J.yld i H x H' → g x (wipe σ vs) H' fun σ2 H2 => wipe σ2 vs = wipe σ vs ∧ tYes σ2 H2 fun b H3 =>
        if b = true then te σ2 H3 fun y H4 => ∃ acc, H4 D = some (.lst acc) ∧ acc.length < sizeLine ∧ Nx (upd H4 D (.lst (acc ++ [y]))) else Nx H3) := by
  refine lc_it w (fun i H => ∃ m acc, StU H p m ∧ m ≤ m0 + c * i ∧ Nx p H1 H ∧ Sep H p D (.lst acc) ∧ acc.length = i ∧ ∀ y ∈ acc, R H y) ⟨m0, [], S.same (same_new hD), Nat.le_add_right _ _, S.nx (same_new hD), S.new hD, rfl, fun y h => nomatch h⟩ (fun i H _ ⟨_, _, _, _, x, _⟩ => hG H x) ?_ ?_
  · intro i x H H' hi ⟨m, acc, S', hm, nx, sD, hl, hr⟩ hy
    refine hs i m x H H' _ hi S' hm nx ⟨_, sD⟩ hy fun y H4 m' ry S4 hm' nx4 => ?_
    have sD4 := nx4 _ _ sD
    refine ⟨acc, sD4.at_, by rw [hl]; exact small1e5 (by omega), m', acc ++ [y], S4.put sD4, by rw [Nat.mul_succ]; omega, ?_, sD4.put_same, by simp [hl], ?_⟩
    · intro q o hq
      have hq4 := nx4 _ _ (nx q o hq)
      have : q ≠ D := ne_of_none hq.at_ hD
      exact hq4.put_ne sD4 this
    · have kp : ∀ q o, Sep H4 p q o → q ≠ D → Sep (upd H4 D (.lst (acc ++ [y]))) p q o := fun q o h n => h.put_ne sD4 n
      intro z hz'
      rcases List.mem_append.mp hz' with h | h
      · exact hR _ _ z acc sD4 kp (hR _ _ z acc sD (fun q o h _ => nx4 q o h) (hr z h))
      · rw [List.mem_singleton.mp h]
        exact hR _ _ y acc sD4 kp ry
  · intro H ⟨m, acc, S', hm, nx, sD, hl, hr⟩
    exact hd H m acc S' hm nx sD hl hr
/-- over n turns: tests and items may draw -/
theorem lc_drtu {J : It} {n : Nat} {G : Hp → Prop} {Y : Nat → Hp → V → Hp → Prop} (w : Walk J n G Y) (hz : n ≤ 100000) (p : Addr) (m0 c : Nat) (R : Hp → V → Prop) {g : TG} {tt : TT} {te : TE} {vs : List Nat} {σ : L2.St} {H1 : Hp} {D : Addr} {Qd : Hp → Prop}
    (S : StU H1 p m0) (hD : H1 D = none) (hR : ∀ H H' y acc, Sep H p D (.lst acc) → (∀ q o, Sep H p q o → q ≠ D → Sep H' p q o) → R H y → R H' y) (hG : ∀ H, Nx p H1 H → G H)
    (hs : ∀ i m x H H' (Qk : V → Hp → Prop) (Qn : Hp → Prop), i < n → StU H p m → m ≤ m0 + c * i → Nx p H1 H → Y i H x H' → (∀ y H4 m', R H4 y → StU H4 p m' → m' ≤ m + c → Nx p H H4 → Qk y H4) → (∀ H4 m', StU H4 p m' → m' ≤ m + c → Nx p H H4 → Qn H4) →
      g x (wipe σ vs) H' fun σ2 H2 => wipe σ2 vs = wipe σ vs ∧ tt σ2 H2 fun b H3 => if b = true then te σ2 H3 Qk else Qn H3)
    (hd : ∀ H m acc, StU H p m → m ≤ m0 + c * n → Nx p H1 H → Sep H p D (.lst acc) → acc.length ≤ n → (∀ y ∈ acc, R H y) → Qd H) :
    ∃ W : Nat → Nat → Hp → Prop, (∃ m, W 0 m (upd H1 D (.lst []))) ∧ ∀ i m H, W i m H →
      (J.stop i H ∧ Qd H) ∨ (J.go i H ∧ ∃ Nx : Hp → Prop, (∀ H', Nx H' → ∃ m', m' < m ∧ W (i + 1) m' H') ∧ ∀ x H', J.yld i H x H' → g x (wipe σ vs) H' fun σ2 H2 => wipe σ2 vs = wipe σ vs ∧ tt σ2 H2 fun b H3 =>
        if b = true then te σ2 H3 fun y H4 => ∃ acc, H4 D = some (.lst acc) ∧ acc.length < sizeLine ∧ Nx (upd H4 D (.lst (acc ++ [y]))) else Nx H3) := by
  refine lc_it w (fun i H => ∃ m acc, StU H p m ∧ m ≤ m0 + c * i ∧ Nx p H1 H ∧ Sep H p D (.lst acc) ∧ acc.length ≤ i ∧ ∀ y ∈ acc, R H y) ⟨m0, [], S.same (same_new hD), Nat.le_add_right _ _, S.nx (same_new hD), S.new hD, Nat.le_refl _, fun y h => nomatch h⟩ (fun i H _ ⟨_, _, _, _, x, _⟩ => hG H x) ?_ ?_
  · intro i x H H' hi ⟨m, acc, S', hm, nx, sD, hl, hr⟩ hy
    refine hs i m x H H' _ _ hi S' hm nx hy (fun y H4 m' ry S4 hm' nx4 => ?_) (fun H4 m' S4 hm' nx4 => ?_)
    · have sD4 := nx4 _ _ sD
      refine ⟨acc, sD4.at_, small1e5 (by omega), m', acc ++ [y], S4.put sD4, by rw [Nat.mul_succ]; omega, ?_, sD4.put_same, by rw [List.length_append]; simp; omega, ?_⟩
      · intro q o hq
        have hq4 := nx4 _ _ (nx q o hq)
        have : q ≠ D := ne_of_none hq.at_ hD
        exact hq4.put_ne sD4 this
      · have kp : ∀ q o, Sep H4 p q o → q ≠ D → Sep (upd H4 D (.lst (acc ++ [y]))) p q o := fun q o h n => h.put_ne sD4 n
        intro z hz'
        rcases List.mem_append.mp hz' with h | h
        · exact hR _ _ z acc sD4 kp (hR _ _ z acc sD (fun q o h _ => nx4 q o h) (hr z h))
        · rw [List.mem_singleton.mp h]
          exact hR _ _ y acc sD4 kp ry
    · have sD4 := nx4 _ _ sD
      exact ⟨m', acc, S4, by rw [Nat.mul_succ]; omega, nx.trans nx4, sD4, by omega, fun y hy => hR _ _ y acc sD (fun q o h _ => nx4 q o h) (hr y hy)⟩
  · intro H ⟨m, acc, S', hm, nx, sD, hl, hr⟩
    exact hd H m acc S' hm nx sD hl hr
theorem TupN.ofU {K : PySem.W.Frag} {H : Hp} {p a : Addr} {n : Nat} {xs : List V} (S : StU H p n) (h : SqT K H a xs) : TupN K p H a xs := by
  rcases h with (h | ⟨o, h⟩) | h
  · exact .inl (.inl (S.sep h fun _ z => nomatch z))
  · exact .inl (.inr ⟨o, S.sep h fun _ z => nomatch z⟩)
  · exact .inr fun H' => .inr h
theorem tupT_nxU {K : PySem.W.Frag} {H H' : Hp} {p a : Addr} {n : Nat} {xs : List V} (S : StU H p n) (x : Nx p H H') (h : SqT K H a xs) : SqT K H' a xs := by
  rcases h with (h | ⟨o, h⟩) | h
  · exact .inl (.inl (x _ _ (S.sep h fun _ z => nomatch z)).at_)
  · exact .inl (.inr ⟨o, (x _ _ (S.sep h fun _ z => nomatch z)).at_⟩)
  · exact .inr h
theorem GrpV.nxU {K : PySem.W.Frag} {H H' : Hp} {p : Addr} {n : Nat} {v : V} {g : List Str} (S : StU H p n) (x : Nx p H H') (h : GrpV K H v g) : GrpV K H' v g := h.imp fun _ q => ⟨q.1, tupT_nxU S x q.2⟩
theorem GrpsV.nxU {K : PySem.W.Frag} {H H' : Hp} {p : Addr} {n : Nat} {xs : List V} {gs : List (List Str)} (S : StU H p n) (x : Nx p H H') (h : GrpsV K H xs gs) : GrpsV K H' xs gs := Paired.mapP h fun _ _ q => GrpV.nxU S x q
def spTake : Sp := fun vs H Q _ => ∃ (p : Addr) (n : Nat) (size : Int), vs = [.ref p, .int size] ∧ StU H p n ∧ DrawOk n size ∧
  ∀ (r : Int) (H' : Hp), 0 ≤ r → r < size → StU H' p (n + 1) → Nx p H H' → Q (.int r) H'
def spStartU (K : PySem.W.Frag) : Sp := fun vs H Q _ => ∃ (a : Addr) (ns : List Int), vs = [.ref a] ∧ SqL K H a (ns.map V.int) ∧ ns.length ≤ 63 ∧ ∀ (p : Addr) (H' : Hp), Same H H' → H p = none → StU H' p 0 → Q (.ref p) H'
end OS

set_option Elab.async false
set_option linter.all false
set_option maxRecDepth 100000
set_option maxHeartbeats 4000000
/-! == of two instances by their own __eq__, both answers -/
namespace OS
open PySem PySem.Spec PyProof.Rows L2
def rEqO (C : Addr) (sp : Sp) : R2 := fun x y H Q => ∃ a b dx dy fs gs, x = .ref a ∧ y = .ref b ∧ H a = some (.ins C dx fs) ∧ H b = some (.ins C dy gs) ∧ sp [x, y] H (fun v H' => ∃ k, v = .bl k ∧ Q (.bl k) H') E0
section
variable {X : Cx} {k : Nat} {f C : Addr} {fd : FuncData} {ps : List Str} {sp : Sp}
/-- .. as a rich comparison; y of any type that is not asked first -/
theorem rc_own {A : Around} {pins : List (Addr × Obj)} {σ : L2.St} {H : Hp} {s : Shared} {a : Addr} {y : V} {u tb : Value} {P : Bool → Hp → Prop} (F : FnOk X.prog X.w X.K X.mg X.base CX0 k f fd ps sp) (sb : Sub X k A) (hs : PySem.W.findIn X.K (.ref C) "__eq__" = some (some (.ref f)))
    (hf : PySem.W.isFn X.K (.ref f) = true) (hb : Binds X.K fd ps []) (I : Inv X pins σ H s) {dx : Addr} {fs : List (Str × V)} (ha : H a = some (.ins C dx fs)) (ry : RelV y u) (ht : PySem.W.Looks (model X.prog X.w) s.heap (typeOf u) tb) (hn : PySem.W.notFirst X.K C tb = true)
    (h : sp [.ref a, y] H (fun v H' => ∃ k, v = .bl k ∧ P k H') E0) {E : Value → Shared → Prop} : wpAny (model X.prog X.w) A (richCompare .Eq (.ref a) u) (fun r s' => ∃ k H', r = .bool k ∧ Inv X pins σ H' s' ∧ P k H') E s := by
  obtain ⟨mA, J, _⟩ := ins_get I.hok ha
  obtain ⟨od, J, _⟩ := J.look
  obtain ⟨m, hF⟩ := I.fr
  refine PySem.W.cmp_K (op := .Eq) (tb := tb) sb.room.units0 hF I.ok.mod.kin J ht hn hs hf ?_
  have e0 : Env0 X.prog X.w X.K X.mg X.base A X.stack s H := by
    have e := I.env0
    exact ⟨by rw [sb.fr]; exact e.frames, e.mod, e.bs, e.bsz, e.funs, e.frf, e.hok, e.bare⟩
  have hl := F.len _ _ _ _ h
  have r2 : Vals [V.ref a, y] [Value.ref a, u] := .cons rfl (.cons ry .nil)
  refine wpAny_call (codeAny_mono (F.run A X.stack s H ⟨[.ref a, u], []⟩ [.ref a, u] [.ref a, y] _ E0 sb.room e0 (by
    have := hb s [.ref a, u] I.kIn (by simpa using hl)
    simpa using this) r2 h) fun r s' hq => ?_)
  cases r with
  | error e => exact (show False from hq).elim
  | ok fl =>
    cases fl with
    | ret w =>
      obtain ⟨z, H', I', rz, k, ez, q⟩ := I.after hq
      subst ez
      cases rz
      exact ⟨k, H', rfl, I', q⟩
    | next => exact False.elim hq
    | brk => exact False.elim hq
    | cont => exact False.elim hq
theorem op_eqO (F : FnOk X.prog X.w X.K X.mg X.base CX0 k f fd ps sp) (hr : Room k X.A) (hs : PySem.W.findIn X.K (.ref C) "__eq__" = some (some (.ref f))) (hf : PySem.W.isFn X.K (.ref f) = true) (hb : Binds X.K fd ps []) (hn : PySem.W.notFirst X.K C (.ref C) = true) :
    OpR X (compareOp .Eq) (rEqO C sp) := by
  intro pins s σ H x y v u Q I rx ry h
  obtain ⟨a, b, dx, dy, fs, gs, rfl, rfl, ha, hb', h⟩ := h
  have ry' : RelV (V.ref b) (Value.ref b) := rfl
  cases rx
  cases ry
  obtain ⟨mB, J', _⟩ := ins_get I.hok hb'
  obtain ⟨od', J', _⟩ := J'.look
  show wpAny (model X.prog X.w) X.A (richCompare .Eq (.ref a) (.ref b)) (EP X pins σ Q) X.xe s
  refine wpAny_mono (rc_own (P := fun k H' => Q (.bl k) H') F ⟨hr, rfl⟩ hs hf hb I ha ry' J'.type hn ?_) (fun r s' z => ?_) fun _ _ x => x
  · exact h
  · obtain ⟨k, H', rfl, I', q⟩ := z
    exact ⟨.bl k, H', I', rfl, q⟩
end
end OS

set_option Elab.async false
set_option linter.all false
set_option maxRecDepth 100000
set_option maxHeartbeats 4000000
/-! an instance with an own __eq__ in a list of values of builtin types: each declines, the own one is asked -/
namespace OSO
open PySem PySem.SeqAt
open AutoSeq1 (wpAny_loadPart')
open MeetsSeq MeetsSeq2 MeetsSeq3 SeqRoads2
section
variable {prog : Program} {w : World} {A : Around} {E : Value → Shared → Prop} {s : Shared} {R : Result → Shared → Prop} {K : PySem.W.Frag} {x C dx : Addr} {od : Option Obj}
theorem isInst_no {M : Model} {T : String} {Q : Bool → Shared → Prop} (I : PySem.W.InstAt s.heap x (PySem.W.instObj C dx) C od) (X : K.In s.heap) (e : PySem.W.subIn K (.ref C) (.type T) = some false) (h : Q false s) :
    wpAny M A (isInstance (.ref x) (.type T)) Q E s := by
  unfold isInstance
  exact wpAny_bind (I.type.here ((PySem.W.looks_subIn X e).here h))
theorem int_dec (a : Int) (t : Tok) : Meets (Builtin.«int.__eq__» ⟨[.int a t, .ref x], []⟩) (fun _ R s => s.heap.get? x = some (PySem.W.instObj C dx) ∧ R (.ok (.ret .notImplemented)) s) :=
  .of_wp fun prog w A R s h => by
    obtain ⟨hp, g, d, tk, os⟩ := s
    obtain ⟨hl, h⟩ := h
    wp_walk using wpAny_loadPart' hl, wpAny_load hl
    exact ⟨_, rfl, h⟩
theorem str_dec (a : Str) (t : Tok) : Meets (Builtin.«str.__eq__» ⟨[.str a t, .ref x], []⟩) (fun _ R s => s.heap.get? x = some (PySem.W.instObj C dx) ∧ R (.ok (.ret .notImplemented)) s) :=
  .of_wp fun prog w A R s h => by
    obtain ⟨hp, g, d, tk, os⟩ := s
    obtain ⟨hl, h⟩ := h
    wp_walk using wpAny_loadPart' hl, wpAny_load hl
    exact ⟨_, rfl, h⟩
theorem tup_dec (l : Addr) (e : PySem.W.subIn K (.ref C) (.type "tuple") = some false) : Meets (Builtin.«tuple.__eq__» ⟨[.ref l, .ref x], []⟩) (fun _ R s => (K.In s.heap ∧ PySem.W.InstAt s.heap x (PySem.W.instObj C dx) C od) ∧ R (.ok (.ret .notImplemented)) s) :=
  .of_wp fun prog w A R s h => by
    obtain ⟨hp, g, d, tk, os⟩ := s
    obtain ⟨⟨X, I⟩, h⟩ := h
    wp_walk using isInst_no I X e
    exact ⟨_, rfl, h⟩
theorem list_dec (l : Addr) (e : PySem.W.subIn K (.ref C) (.type "list") = some false) : Meets (Builtin.«list.__eq__» ⟨[.ref l, .ref x], []⟩) (fun _ R s => (K.In s.heap ∧ PySem.W.InstAt s.heap x (PySem.W.instObj C dx) C od) ∧ R (.ok (.ret .notImplemented)) s) :=
  .of_wp fun prog w A R s h => by
    obtain ⟨hp, g, d, tk, os⟩ := s
    obtain ⟨⟨X, I⟩, h⟩ := h
    wp_walk using isInst_no I X e
    exact ⟨_, rfl, h⟩
theorem dict_dec (l : Addr) (e : PySem.W.subIn K (.ref C) (.type "dict") = some false) {Q : Fin → Shared → Prop} {E' : Value → Shared → Prop} (hd : s.TypeIs (.ref l) "dict") (X : K.In s.heap) (I : PySem.W.InstAt s.heap x (PySem.W.instObj C dx) C od) (h : Q (.done (.ret .notImplemented)) s) : wpAny (model prog w) A (Builtin.«dict.__eq__» ⟨[.ref l, .ref x], []⟩) Q E' s := by
  show wpAny _ _ (Builtin.Dict.dictSlotArgs "__eq__" ⟨[.ref l, .ref x], []⟩ >>= _) _ _ s
  refine wpAny_bind ?_
  unfold Builtin.Dict.dictSlotArgs
  refine wpAny_bind (wpAny_notOrdered_dict hd ?_)
  show wpAny _ _ (pure (Value.ref l, Value.ref x)) _ _ s
  refine wpAny_pure ?_
  refine wpAny_bind (isInst_no I X e ?_)
  simp only [Bool.not_false, if_true]
  exact wpAny_bind (wpAny_rule (wpAny_bind (wpAny_pure (wpAny_pure h))))
/-- `in` over a list: none of its items is equal -/
def TurnG (prog : Program) (w : World) (A : Around) (E : Value → Shared → Prop) (l : Addr) (x : Value) (N : Nat) (I : Shared → Prop) : Prop :=
  ∀ (i : Nat) s, I s → ∃ (items : Array Value) (n : Nat), s.heap.get? l = some { cls := .type "list", data := .seq items n } ∧ items.size = N ∧ ∀ h : i < items.size, wpAny (model prog w) A.in1 (eqBool items[i] x) (fun r s' => r = false ∧ I s') E s
theorem contains_loopG (l : Addr) (x : Value) (N : Nat) (I : Shared → Prop) (hI : TurnG prog w A (fun e s' => R (.error e) s') l x N I) (fin : ∀ s, I s → R (.ok (.ret (.bool false))) s) (k : Nat) :
    ∀ i : Nat, N - i = k → ∀ s, I s → wpAny (model prog w) A.in1 (Builtin.«list.__contains__.loop» ⟨[.ref l, x, rawInt i], []⟩) (GQ.FinOf prog w A R) (fun e s' => R (.error e) s') s := by
  induction k with
  | zero =>
    intro i hk s h
    obtain ⟨items, n, hl, hz, _⟩ := hI i _ h
    have hR := fin s h
    obtain ⟨hp, g, d, tk, os⟩ := s
    wp_walk using wpAny_loadPart' hl
    have hi : items[((i : Nat) : Int).toNat]? = none := by simp; omega
    rw [hi]
    wp_walk
    exact hR
  | succ k ih =>
    intro i hk s h
    obtain ⟨items, n, hl, hz, turn⟩ := hI i _ h
    have hlt : i < items.size := by omega
    have ht := turn hlt
    obtain ⟨hp, g, d, tk, os⟩ := s
    wp_walk using wpAny_loadPart' hl
    have hi : items[((i : Nat) : Int).toNat]? = some items[i] := by simp [hlt]
    have hc : ((i : Int) + 1) = ((i + 1 : Nat) : Int) := by omega
    rw [hi]
    refine wpAny_bind (wpAny_mono ht (fun r s2 h2 => ?_) fun _ _ x => x)
    obtain ⟨hr, h2⟩ := h2
    subst hr
    have hrec := ih (i + 1) (by omega) s2 h2
    obtain ⟨hp2, g2, d2, tk2, os2⟩ := s2
    wp_walk
    rw [hc]
    exact ⟨plainId_quiet plain_contains_loop _, codeAny_builtin entry_contains_loop (by
      rw [Around.under_plainId plain_contains_loop _]
      exact hrec)⟩
theorem notIn_own {l : Addr} {x : Value} {N : Nat} {Q : Value → Shared → Prop} (I : Shared → Prop) (hI : TurnG prog w A E l x N I) (fin : ∀ s, I s → Q (.bool true) s) (h : I s) :
    wpAny (model prog w) A (compareOp .NotIn x (.ref l)) Q E s := by
  obtain ⟨items, n, hl, hz, _⟩ := hI 0 _ h
  refine PyProof.Rows.NotIn_slot ⟨_, hl, rfl⟩ F.slot_list_contains (GQ.call_here F.slot_list_contains ⟨_, hl, rfl⟩ F.entry_list_contains (F.args_list_contains_2 _ _) ?_)
  have hrec := contains_loopG (prog := prog) (w := w) (A := A) (R := wants (fun r s' => wpAny (model prog w) A (truthy r) (fun b s'' => Q (.bool (!b)) s'') E s') E) l x N I hI (fun s' q => wpAny_truthy_bool (fin s' q)) _ 0 rfl s h
  obtain ⟨hp, g, d, tk, os⟩ := s
  wp_walk using wpAny_loadPart' hl
  exact ⟨plainId_quiet plain_contains_loop _, codeAny_builtin entry_contains_loop (by
    rw [Around.under_plainId plain_contains_loop _]
    exact hrec)⟩
theorem rc_right {T id : String} {u : Value} {f : Addr} {ox : Obj} {Q : Value → Shared → Prop} (hu : A.units < cLine) (hT : s.TypeIs u T) (slot : Slot T (cmpInfo .Eq).2.1 id) (X : K.In s.heap) (I : PySem.W.InstAt s.heap x ox C od) (hsub : PySem.W.subIn K (.ref C) (.type T) = some false)
    (hs : PySem.W.findIn K (.ref C) "__eq__" = some (some (.ref f))) (hf : PySem.W.isFn K (.ref f) = true) (dec : ∀ Q' : Value → Shared → Prop, Q' .notImplemented s → wpAny (model prog w) A (call (.builtin id) [u, .ref x]) Q' E s)
    (h : wpAny (model prog w) A (call (.ref f) [.ref x, u]) (PySem.W.CmpBack Q) E s) : wpAny (model prog w) A (richCompare .Eq u (.ref x)) Q E s := by
  have one : wpAny (model prog w) A (tryCompare (.ref x) "__eq__" u) (fun r s' => ∃ v, r = some v ∧ Q v s') E s := by
    unfold tryCompare
    refine wpAny_bind (PySem.W.ifBound_K X I hs hf (wpAny_mono h (fun v s' hv => ?_) fun _ _ e => e))
    cases v <;> first | exact hv.elim | exact wpAny_pure ⟨_, rfl, hv⟩
  have two : wpAny (model prog w) A (tryCompare u "__eq__" (.ref x)) (fun r s' => r = none ∧ s' = s) E s := wpAny_tryCompare_declines hT slot (dec _ ⟨rfl, rfl, rfl⟩)
  simp only [richCompare, cmpInfo_Eq, hT.oneThing_none]
  refine wpAny_holding (wpAny_bind (wpAny_cRoomFor hu ?_))
  refine wpAny_bind (wpAny_typeOf hT ?_)
  refine wpAny_bind (I.type.here ?_)
  split
  · refine wpAny_bind ((PySem.W.looks_subIn X hsub).here ?_)
    simp only [Bool.false_eq_true, if_false, Bool.not_false, if_true]
    refine wpAny_bind (m := tryCompare u _ (.ref x)) (wpAny_mono two (fun r s1 z => ?_) fun _ _ e => e)
    obtain ⟨z1, z2⟩ := z
    subst z1
    subst z2
    refine wpAny_bind (m := tryCompare (.ref x) _ u) (wpAny_mono one (fun r s2 z => ?_) fun _ _ e => e)
    obtain ⟨v, rfl, hq⟩ := z
    exact wpAny_pure hq
  · rename_i q
    exact absurd (by simp) q
end
end OSO
namespace OS
open PySem PySem.Spec PyProof.Rows L2
/-- values whose own == declines -/
inductive DecV (K : PySem.W.Frag) (H : Hp) : V → Prop
  | non : DecV K H .non
  | int (i : Int) : DecV K H (.int i)
  | str (z : Str) : DecV K H (.str z)
  | tup {a : Addr} {xs : List V} : SqT K H a xs → DecV K H (.ref a)
  | lst {a : Addr} {xs : List V} : SqL K H a xs → DecV K H (.ref a)
  | dct {a : Addr} {kvs : List (Key × V)} : H a = some (.dK kvs) → DecV K H (.ref a)
theorem DecV.same {K : PySem.W.Frag} {H H' : Hp} {v : V} (h : DecV K H v) (s : Same H H') : DecV K H' v := by
  cases h with
  | non => exact .non
  | int i => exact .int i
  | str z => exact .str z
  | tup h => exact .tup (s.tupT h)
  | lst h => exact .lst (s.seq h)
  | dct h => exact .dct (s _ _ h)
structure DecK (K : PySem.W.Frag) (C : Addr) : Prop where
  n : PySem.W.subIn K (.ref C) (.type "NoneType") = some false
  i : PySem.W.subIn K (.ref C) (.type "int") = some false
  s : PySem.W.subIn K (.ref C) (.type "str") = some false
  t : PySem.W.subIn K (.ref C) (.type "tuple") = some false
  l : PySem.W.subIn K (.ref C) (.type "list") = some false
  d : PySem.W.subIn K (.ref C) (.type "dict") = some false
section
variable {X : Cx} {k : Nat} {f C : Addr} {fd : FuncData} {ps : List Str} {sp : Sp}
/-- an item == the instance, inside a builtin: False by the own __eq__ -/
theorem eq_right {A : Around} {pins : List (Addr × Obj)} {σ : L2.St} {H : Hp} {s : Shared} {a : Addr} {y : V} {u : Value} (F : FnOk X.prog X.w X.K X.mg X.base CX0 k f fd ps sp) (sb : Sub X k A) (hs : PySem.W.findIn X.K (.ref C) "__eq__" = some (some (.ref f)))
    (hf : PySem.W.isFn X.K (.ref f) = true) (hb : Binds X.K fd ps []) (dk : DecK X.K C) (I : Inv X pins σ H s) {dx : Addr} {fs : List (Str × V)} (ha : H a = some (.ins C dx fs)) (ry : RelV y u) (dy : DecV X.K H y)
    (h : sp [.ref a, y] H (fun v H' => v = .bl false ∧ Same H H') E0) {E : Value → Shared → Prop} : wpAny (model X.prog X.w) A (eqBool u (.ref a)) (fun r s' => r = false ∧ ∃ H', Inv X pins σ H' s' ∧ Same H H') E s := by
  obtain ⟨mA, J0, _⟩ := ins_get I.hok ha
  have hobj := J0.obj
  obtain ⟨od, J, _⟩ := J0.look
  obtain ⟨m, hF⟩ := I.fr
  have XK := I.kIn
  have e0 : Env0 X.prog X.w X.K X.mg X.base A X.stack s H := by
    have e := I.env0
    exact ⟨by rw [sb.fr]; exact e.frames, e.mod, e.bs, e.bsz, e.funs, e.frf, e.hok, e.bare⟩
  have hl := F.len _ _ _ _ h
  have r2 : Vals [V.ref a, y] [Value.ref a, u] := .cons rfl (.cons ry .nil)
  have body : wpAny (model X.prog X.w) A (call (.ref f) [.ref a, u]) (PySem.W.CmpBack fun r s' => r = .bool false ∧ ∃ H', Inv X pins σ H' s' ∧ Same H H') E s := by
    refine wpAny_call (codeAny_mono (F.run A X.stack s H ⟨[.ref a, u], []⟩ [.ref a, u] [.ref a, y] _ E0 sb.room e0 (by
      have := hb s [.ref a, u] I.kIn (by simpa using hl)
      simpa using this) r2 h) fun r s' hq => ?_)
    cases r with
    | error e => exact (show False from hq).elim
    | ok fl =>
      cases fl with
      | ret w =>
        obtain ⟨z, H', I', rz, ez, q⟩ := I.after hq
        subst ez
        cases rz
        exact ⟨rfl, H', I', q⟩
      | next => exact False.elim hq
      | brk => exact False.elim hq
      | cont => exact False.elim hq
  have rc : ∀ {T id : String} (hT : s.TypeIs u T) (slot : Slot T (cmpInfo .Eq).2.1 id) (hsub : PySem.W.subIn X.K (.ref C) (.type T) = some false) (dec : ∀ Q' : Value → Shared → Prop, Q' .notImplemented s → wpAny (model X.prog X.w) A (call (.builtin id) [u, .ref a]) Q' E s),
      wpAny (model X.prog X.w) A (richCompare .Eq u (.ref a)) (fun v s' => wpAny (model X.prog X.w) A (truthOfDropped v) (fun r s' => r = false ∧ ∃ H', Inv X pins σ H' s' ∧ Same H H') E s') E s := fun hT slot hsub dec => by
    refine wpAny_mono (OSO.rc_right sb.room.units0 hT slot XK J hsub hs hf dec body) (fun v s' hv => ?_) fun _ _ x => x
    obtain ⟨rfl, q⟩ := hv
    exact wpAny_truthy_bool ⟨rfl, q⟩
  cases dy with
  | non =>
    cases ry
    unfold eqBool
    refine wpAny_holding ?_
    refine wpAny_ite_split (fun hab => absurd (eq_of_beq hab) nofun) (fun _ => ?_)
    exact wpAny_bind (rc (T := "NoneType") rfl PySem.F.slot_NoneType_eq dk.n (fun _ hq => call_gives PySem.F.slot_NoneType_eq rfl PySem.F.entry_NoneType_eq (PySem.F.args_NoneType_eq_2 _ _) (SeqAt.NoneType___eq___none_ref_0 a) hq))
  | int i =>
    obtain ⟨t, rfl⟩ := ry
    unfold eqBool
    refine wpAny_holding ?_
    refine wpAny_ite_split (fun hab => absurd (eq_of_beq hab) nofun) (fun _ => ?_)
    exact wpAny_bind (rc (typeIs_int s i t) PySem.F.slot_int_eq dk.i (fun _ hq => call_meets PySem.F.slot_int_eq (typeIs_int s i t) PySem.F.entry_int_eq (PySem.F.args_int_eq_2 _ _) (OSO.int_dec i t) ⟨hobj, hq⟩))
  | str z =>
    obtain ⟨t, rfl⟩ := ry
    unfold eqBool
    refine wpAny_holding ?_
    refine wpAny_ite_split (fun hab => absurd (eq_of_beq hab) nofun) (fun _ => ?_)
    exact wpAny_bind (rc (typeIs_str s z t) PySem.F.slot_str_eq dk.s (fun _ hq => call_meets PySem.F.slot_str_eq (typeIs_str s z t) PySem.F.entry_str_eq (PySem.F.args_str_eq_2 _ _) (OSO.str_dec z t) ⟨hobj, hq⟩))
  | @tup b xs ht =>
    cases ry
    obtain ⟨its, r, pl, hz⟩ := I.tuple ht
    obtain ⟨⟨cls, dd, data, sl⟩, ho, hc, n, hd⟩ := id pl
    simp only at hc hd
    subst hc hd
    have ne : b ≠ a := fun z => by
      rw [z, hobj] at ho
      cases ho
    have hT : s.TypeIs (.ref b) "tuple" := ⟨_, ho, rfl⟩
    unfold eqBool
    refine wpAny_holding ?_
    refine wpAny_ite_split (fun hab => absurd (by have := eq_of_beq hab; injection this) ne) (fun _ => ?_)
    exact wpAny_bind (rc hT PySem.F.slot_tuple_eq dk.t (fun _ hq => call_meets PySem.F.slot_tuple_eq hT PySem.F.entry_tuple_eq (PySem.F.args_tuple_eq_2 _ _) (OSO.tup_dec b dk.t) ⟨⟨XK, J⟩, hq⟩))
  | @lst b xs ht =>
    cases ry
    obtain ⟨its, r, pl, hz⟩ := I.list ht
    obtain ⟨⟨cls, dd, data, sl⟩, ho, hc, n, hd⟩ := id pl.isList
    simp only at hc hd
    subst hc hd
    have ne : b ≠ a := fun z => by
      rw [z, hobj] at ho
      cases ho
    have hT : s.TypeIs (.ref b) "list" := ⟨_, ho, rfl⟩
    unfold eqBool
    refine wpAny_holding ?_
    refine wpAny_ite_split (fun hab => absurd (by have := eq_of_beq hab; injection this) ne) (fun _ => ?_)
    exact wpAny_bind (rc hT PySem.F.slot_list_eq dk.l (fun _ hq => call_meets PySem.F.slot_list_eq hT PySem.F.entry_list_eq (PySem.F.args_list_eq_2 _ _) (OSO.list_dec b dk.l) ⟨⟨XK, J⟩, hq⟩))
  | @dct b kvs hd =>
    cases ry
    have ne : b ≠ a := fun z => by
      rw [z, ha] at hd
      cases hd
    obtain ⟨_, _, vs, _, da⟩ := I.hok b _ hd
    have hT : s.TypeIs (.ref b) "dict" := da.typeIs
    unfold eqBool
    refine wpAny_holding ?_
    refine wpAny_ite_split (fun hab => absurd (by have := eq_of_beq hab; injection this) ne) (fun _ => ?_)
    exact wpAny_bind (rc hT PySem.F.slot_dict_eq dk.d (fun _ hq => wpAny_call_entry PySem.F.slot_dict_eq hT PySem.F.entry_dict_eq (OSO.dict_dec b dk.d hT XK J ⟨_, rfl, hq⟩) (PySem.F.args_dict_eq_2 _ _)))
def rNotInO (K : PySem.W.Frag) (C : Addr) (sp : Sp) : R2 := fun x y H Q => ∃ a p dx fs xs, x = .ref a ∧ y = .ref p ∧ H a = some (.ins C dx fs) ∧ H p = some (.lst xs) ∧ (∀ v ∈ xs, DecV K H v) ∧ (∀ v ∈ xs, ∀ H', Same H H' → sp [.ref a, v] H' (fun b H'' => b = .bl false ∧ Same H' H'') E0) ∧ ∀ H', Same H H' → Q (.bl true) H'
theorem op_notInO (F : FnOk X.prog X.w X.K X.mg X.base CX0 k f fd ps sp) (hr : Room (k + 1) X.A) (hs : PySem.W.findIn X.K (.ref C) "__eq__" = some (some (.ref f))) (hf : PySem.W.isFn X.K (.ref f) = true) (hb : Binds X.K fd ps []) (dk : DecK X.K C) :
    OpR X (compareOp .NotIn) (rNotInO X.K C sp) := by
  intro pins s σ H x y v u Q I rx ry h
  obtain ⟨a, p, dx, fs, xs, rfl, rfl, ha, hp, hd, hsp, q⟩ := h
  cases rx
  cases ry
  have sb : Sub X k X.A.in1 := (Sub.in1 (X := X) (n := k) ⟨hr, rfl⟩)
  refine OSO.notIn_own (N := xs.length) (fun s' => ∃ H', Inv X pins σ H' s' ∧ Same H H') (fun i s' z => ?_) (fun s' z => ?_) ⟨H, I, Same.refl H⟩
  · obtain ⟨H1, I1, e1⟩ := z
    obtain ⟨z, its, n, r, e⟩ := I1.hok p _ (e1 _ _ hp)
    refine ⟨its.toArray, n, e, by rw [List.size_toArray, ← r.length], fun h1 => ?_⟩
    have k1 : i < xs.length := by rw [r.length]; simpa using h1
    obtain ⟨u0, hu0, ru⟩ := r.get (List.getElem?_eq_getElem k1)
    have g1 : its[i]? = some its.toArray[i] := by
      have h1' : i < its.length := by simpa using h1
      rw [List.getElem?_eq_getElem h1'] <;> simp
    rw [g1] at hu0
    rw [Option.some.inj hu0]
    refine wpAny_mono (eq_right F sb hs hf hb dk I1 (e1 _ _ ha) ru ((hd _ (List.getElem_mem k1)).same e1) (hsp _ (List.getElem_mem k1) H1 e1)) (fun r2 s2 z => ?_) fun _ _ x => x
    obtain ⟨h2, H2, I2, e2⟩ := z
    exact ⟨h2, H2, I2, e1.trans e2⟩
  · obtain ⟨H1, I1, e1⟩ := z
    exact ⟨.bl true, H1, I1, rfl, q H1 e1⟩
end
end OS

set_option Elab.async false
set_option linter.all false
set_option maxRecDepth 100000
set_option maxHeartbeats 4000000
/-! str(x) by an own __str__ -/
namespace OS
open PySem PySem.Spec PyProof.Rows L2
def rStrO (C : Addr) (sp : Sp) : List V → Hp → VK → Prop := fun xs H Q => ∃ a dx fs, xs = [.ref a] ∧ H a = some (.ins C dx fs) ∧ sp [.ref a] H (fun v H' => ∃ z, v = .str z ∧ Q (.str z) H') E0
section
variable {X : Cx} {k : Nat} {f C : Addr} {fd : FuncData} {ps : List Str} {sp : Sp}
theorem cr_strO (F : FnOk X.prog X.w X.K X.mg X.base CX0 k f fd ps sp) (hr : Room (k + 2) X.A) (hs : PySem.W.findIn X.K (.ref C) "__str__" = some (some (.ref f))) (hf : PySem.W.isFn X.K (.ref f) = true) (hb : Binds X.K fd ps []) :
    CallR X (.type "str") (rStrO C sp) := by
  intro pins s σ H xs us Q I r h
  obtain ⟨a, dx, fs, rfl, ha, h⟩ := h
  obtain ⟨u, rfl, rx⟩ := vals1 r
  cases rx
  have sb : Sub X k X.A.in1.in1 := (Sub.in1 (X := X) (n := k) (Sub.in1 (X := X) (n := k + 1) ⟨hr, rfl⟩))
  obtain ⟨mA, J0, _⟩ := ins_get I.hok ha
  obtain ⟨od, J, _⟩ := J0.look
  have e0 : Env0 X.prog X.w X.K X.mg X.base X.A.in1.in1 X.stack s H := by
    have e := I.env0
    exact ⟨by rw [sb.fr]; exact e.frames, e.mod, e.bs, e.bsz, e.funs, e.frf, e.hok, e.bare⟩
  have hl := F.len _ _ _ _ h
  have r2 : Vals [V.ref a] [Value.ref a] := .cons rfl .nil
  refine PySem.W.kso_call sb.room.units0 I.kIn J hs hf ?_
  refine wpAny_call (codeAny_mono (F.run X.A.in1.in1 X.stack s H ⟨[.ref a], []⟩ [.ref a] [.ref a] _ E0 sb.room e0 (by
    have := hb s [.ref a] I.kIn (by simpa using hl)
    simpa using this) r2 h) fun r s' hq => ?_)
  cases r with
  | error e => exact (show False from hq).elim
  | ok fl =>
    cases fl with
    | ret w =>
      obtain ⟨z, H', I', rz, y, ez, q⟩ := I.after hq
      subst ez
      obtain ⟨t, rfl⟩ := rz
      exact ⟨.str y, H', I', ⟨t, rfl⟩, q⟩
    | next => exact False.elim hq
    | brk => exact False.elim hq
    | cont => exact False.elim hq
def rJoin (K : PySem.W.Frag) : V → List V → Hp → VK → Prop := fun x xs H Q => ∃ a p, ∃ ys : List Str, x = .str a ∧ xs = [.ref p] ∧ (SqL K H p (ys.map V.str) ∨ SqT K H p (ys.map V.str)) ∧ (ys.map (·.length)).sum + ys.length * a.length ≤ 16777216 ∧ Q (.str (Txt.join a ys)) H
theorem mt_joinK : MtR X "str.join" (rJoin X.K) := mt_join
theorem pe_joinR {o e : Expr} {to te : TE} {r : V → List V → Hp → VK → Prop} {apos pos : Pos} (rule : MtR X "str.join" r) (ho : PE X o to) (he : PE X e te) (hs : starEach [e] X.env = [(false, eval e X.env)] := by rfl) (hbase : attributeBase o "join" X.env (eval o X.env) = eval o X.env := by rfl) (hline : (apos.endLine == pos.line) = true := by rfl) :
    PE X (.Call (.Attribute o "join" apos) [e] [] pos) (tM1 r to te) := pe_m1 PySem.F.slot_str_join PySem.F.type_str_join rule ho he hs hbase hline
end
end OS

set_option Elab.async false
set_option linter.all false
set_option maxRecDepth 100000
set_option maxHeartbeats 4000000
/-! != of two instances by their own __eq__; own | and &; methods without arguments and by keywords within a try; two for clauses; unpacking of a list -/
namespace PySem.OSNeO
open PySem PySem.Spec PySem.Calls PyProof.Rows PySem.W
section
variable {prog : Program} {w : World} {M : Model} {A : Around} {E : Value → Shared → Prop} {s : Shared} {K : Frag} {x C f : Addr} {ox : Obj} {od : Option Obj} {b tb : Value} {name : Str}
theorem slot_ne : Slot "object" "__ne__" "object.__ne__" := .of (owner := "object") (n := "__ne__") (by rw [typeLookup_type, builtinLookup_eq_fast]; kernel_rfl) (by decide +kernel) (by decide +kernel) (by decide +kernel) (.inl (by decide +kernel)) (by kernel_rfl)
theorem ifBound_blt {id : String} {args : List Value} {Q : Option Value → Shared → Prop} (X : K.In s.heap) (I : InstAt s.heap x ox C od) (hs : findIn K (.ref C) name = some (some (.builtin id)))
    (hb : ∀ self, bindSpecial (.builtin id) self = pure (.builtin id, [self])) (h : wpAny M A (call (.builtin id) (.ref x :: args)) (fun v => Q (some v)) E s) : wpAny M A (callSpecialIfBound? (.ref x) name args) Q E s := by
  simp only [callSpecialIfBound?, bindSpecialIfBound?]
  refine wpAny_holding (wpAny_bind (wpAny_bind (wpAny_bind (I.type.here ((looks_findIn X hs).here ?_)))))
  refine wpAny_bind (wpAny_askSetting (wpAny_ite ?_))
  have fin : wpAny M A (call (.builtin id) ([.ref x] ++ args) >>= fun v => pure (some v)) Q E s := wpAny_bind (wpAny_mono h (fun v s' h' => wpAny_pure h') fun _ _ h' => h')
  split
  · exact wpAny_bind ((Looks.of_pure (hb _)).here (wpAny_pure (by exact fin)))
  · exact wpAny_tryCatch (wpAny_bind ((Looks.of_pure (hb _)).here (wpAny_pure (by exact fin))))
/-- object.__ne__ by an own __eq__ that tells a bool -/
theorem call_ne {Q : Value → Shared → Prop} (hu : A.in1.units < cLine) (X : K.In s.heap) (I : InstAt s.heap x ox C od) (hm : mroIn K C (.type "object") = some true) (hs : findIn K (.ref C) "__eq__" = some (some (.ref f))) (hf : isFn K (.ref f) = true)
    (h : wpAny (model prog w) A.in1 (call (.ref f) [.ref x, b]) (fun v s' => ∃ k, v = .bool k ∧ Q (.bool (!k)) s') E s) : wpAny (model prog w) A (call (.builtin "object.__ne__") [.ref x, b]) Q E s := by
  refine wpAny_call (codeAny_call_builtin slot_ne.plain PySem.F.cmpEntry_ne (check_slot (i := "object.__ne__") (owner := "object") (n := "__ne__") (by decide +kernel) (by decide +kernel) (I.type.andThen (looks_mroIn X hm)) (PySem.F.cmpArgs_ne _ _) ?_))
  unfold Builtin.«object.__ne__»
  refine wpAny_bind (m := slotArgs "__ne__" 1 _) (wpAny_pure ?_)
  refine wpAny_bind (m := cRoomFor _ _) (wpAny_cRoomFor hu ?_)
  refine wpAny_bind (m := callSpecialIfBound? (.ref x) (Str.ofString "__eq__") _) (ifBound_K X I hs hf (wpAny_mono h (fun r s' hq => ?_) fun _ _ y => y))
  obtain ⟨k, rfl, q⟩ := hq
  refine wpAny_bind (wpAny_of_eq (a := k) (by cases k <;> rfl) ?_)
  exact wpAny_pure q
theorem cmp_ne {h₀ : Heap} {L : Addr} {m : Str → Option Value} {Q : Value → Shared → Prop} (hu : A.units + 3 < cLine) (F : Fr h₀ L s.heap m) (X₀ : K.In h₀) (I : InstAt s.heap x ox C od) (hb : Looks (model prog w) s.heap (typeOf b) tb) (hn : notFirst K C tb = true)
    (hm : mroIn K C (.type "object") = some true) (hne : findIn K (.ref C) "__ne__" = some (some (.builtin "object.__ne__"))) (hs : findIn K (.ref C) "__eq__" = some (some (.ref f))) (hf : isFn K (.ref f) = true)
    (h : wpAny (model prog w) A.in1 (call (.ref f) [.ref x, b]) (fun v s' => ∃ k, v = .bool k ∧ Q (.bool (!k)) s') E s) : wpAny (model prog w) A (richCompare .NotEq (.ref x) b) Q E s := by
  have X := X₀.keeps F.keep
  have one : wpAny (model prog w) A (tryCompare (.ref x) (cmpInfo .NotEq).2.1 b) (fun r s' => ∃ v, r = some v ∧ Q v s') E s := by
    unfold tryCompare
    refine wpAny_bind (ifBound_blt X I hne slot_ne.bind (call_ne (by show A.units + 1 < cLine; omega) X I hm hs hf (wpAny_mono h (fun v s' hv => ?_) fun _ _ e => e)))
    obtain ⟨k, rfl, q⟩ := hv
    exact ⟨k, rfl, wpAny_pure ⟨_, rfl, q⟩⟩
  unfold richCompare
  simp only [oneThing_ref]
  refine wpAny_holding (wpAny_bind (wpAny_cRoomFor (by omega) ?_))
  refine wpAny_bind (I.type.here (wpAny_bind (hb.here ?_)))
  split
  · rename_i q
    have e : subIn K tb (.ref C) = some false := by
      rcases Bool.or_eq_true_iff.mp hn with e | e
      · rw [beq_iff_eq.mp e] at q; simp at q
      · exact beq_iff_eq.mp e
    refine wpAny_bind ((looks_subIn X e).here ?_)
    simp only [Bool.false_eq_true, if_false]
    refine wpAny_bind (wpAny_mono one (fun r s' z => ?_) fun _ _ e => e)
    obtain ⟨v, rfl, hq⟩ := z
    exact wpAny_pure hq
  · refine wpAny_bind (wpAny_pure ?_)
    simp only [Bool.false_eq_true, if_false]
    refine wpAny_bind (wpAny_mono one (fun r s' z => ?_) fun _ _ e => e)
    obtain ⟨v, rfl, hq⟩ := z
    exact wpAny_pure hq
end
end PySem.OSNeO
namespace OS
open PySem PySem.Spec PyProof.Rows L2 ClX
def rNeO (C : Addr) (sp : Sp) : R2 := fun x y H Q => ∃ a b dx dy fs gs, x = .ref a ∧ y = .ref b ∧ H a = some (.ins C dx fs) ∧ H b = some (.ins C dy gs) ∧ sp [x, y] H (fun v H' => ∃ k, v = .bl k ∧ Q (.bl (!k)) H') E0
section
variable {X : Cx} {k : Nat} {f C : Addr} {fd : FuncData} {ps : List Str} {sp : Sp}
theorem op_neO (F : FnOk X.prog X.w X.K X.mg X.base CX0 k f fd ps sp) (hr : Room (k + 2) X.A) (hs : PySem.W.findIn X.K (.ref C) "__eq__" = some (some (.ref f))) (hf : PySem.W.isFn X.K (.ref f) = true) (hb : Binds X.K fd ps []) (hn : PySem.W.notFirst X.K C (.ref C) = true)
    (hm : PySem.W.mroIn X.K C (.type "object") = some true) (hne : PySem.W.findIn X.K (.ref C) "__ne__" = some (some (.builtin "object.__ne__"))) :
    OpR X (compareOp .NotEq) (rNeO C sp) := by
  intro pins s σ H x y v u Q I rx ry h
  obtain ⟨a, b, dx, dy, fs, gs, rfl, rfl, ha, hb', h⟩ := h
  cases rx
  cases ry
  obtain ⟨mB, J', _⟩ := ins_get I.hok hb'
  obtain ⟨od', J', _⟩ := J'.look
  obtain ⟨mA, J, _⟩ := ins_get I.hok ha
  obtain ⟨od, J, _⟩ := J.look
  obtain ⟨m, hF⟩ := I.fr
  show wpAny (model X.prog X.w) X.A (richCompare .NotEq (.ref a) (.ref b)) (EP X pins σ Q) X.xe s
  have sb : Sub X k X.A.in1 := (Sub.in1 (X := X) (n := k) (⟨hr.mono (Nat.le_succ _), rfl⟩))
  have sb0 : Sub X (k + 1) X.A := ⟨hr.mono (Nat.le_succ _), rfl⟩
  refine PySem.OSNeO.cmp_ne (by have := hr.un; omega) hF I.ok.mod.kin J J'.type hn hm hne hs hf ?_
  have e0 : Env0 X.prog X.w X.K X.mg X.base X.A.in1 X.stack s H := by
    have e := I.env0
    exact ⟨by rw [sb.fr]; exact e.frames, e.mod, e.bs, e.bsz, e.funs, e.frf, e.hok, e.bare⟩
  have hl := F.len _ _ _ _ h
  have r2 : Vals [V.ref a, V.ref b] [Value.ref a, Value.ref b] := .cons rfl (.cons rfl .nil)
  refine wpAny_call (codeAny_mono (F.run X.A.in1 X.stack s H ⟨[.ref a, .ref b], []⟩ [.ref a, .ref b] [.ref a, .ref b] _ E0 sb.room e0 (by
    have := hb s [.ref a, .ref b] I.kIn (by simpa using hl)
    simpa using this) r2 h) fun r s' hq => ?_)
  cases r with
  | error e => exact (show False from hq).elim
  | ok fl =>
    cases fl with
    | ret w =>
      obtain ⟨z, H', I', rz, k, ez, q⟩ := I.after hq
      subst ez
      cases rz
      exact ⟨k, rfl, .bl (!k), H', I', rfl, q⟩
    | next => exact False.elim hq
    | brk => exact False.elim hq
    | cont => exact False.elim hq
end
/-! ### own | and & -/
def tOwnOp (C : Addr) (sp : Sp) (E : L2.St → XK) (ta tb : TE) : TE := fun σ H Q => ta σ H fun x H1 => tb σ H1 fun y H2 => ∃ a b dx dy fs gs, x = .ref a ∧ y = .ref b ∧ H2 a = some (.ins C dx fs) ∧ H2 b = some (.ins C dy gs) ∧ sp [x, y] H2 (fun v H' => ∃ r, v = .ref r ∧ Q v H') (E σ)
section
variable {X : Cx} {CX : CXT} {k : Nat} {f C p g : Addr} {mc : Value} {fd : FuncData} {ps : List Str} {sp : Sp} {E : L2.St → XK} {x m : Str} {q pos apos : Pos} {e o a b : Expr} {es : List Expr} {ta tb : TE} {t tk : TA} {pl : Sem Bool} {kws : List Keyword} {ks : List Str} {op : Operator}
theorem pe_ownOp (F : FnOk X.prog X.w X.K X.mg X.base CX k f fd ps sp) (hr : Room k X.A) (hs : PySem.W.findIn X.K (.ref C) (PySem.dunder op.info.2) = some (some (.ref f))) (hf : PySem.W.isFn X.K (.ref f) = true) (hb : Binds X.K fd ps []) (hc : PySem.W.selfFirst X.K C = true)
    (hx : ∀ σ, PassesAt CX X σ (E σ)) (ha : PE X a ta) (hbe : PE X b tb) : PE X (.BinOp a op b pos) (tOwnOp C sp E ta tb) := by
  refine ⟨fun pins s σ H Q I h => ?_⟩
  refine wpAny_BinOp (binT ha hbe I h fun v u s2 x y H2 I2 rx ry hq => ?_)
  obtain ⟨a, b, dx, dy, fs, gs, rfl, rfl, ea, eb, h⟩ := hq
  cases rx
  cases ry
  obtain ⟨mB, J', _⟩ := ins_get I2.hok eb
  obtain ⟨od', J', _⟩ := J'.look
  obtain ⟨mA, J, _⟩ := ins_get I2.hok ea
  obtain ⟨od, J, _⟩ := J.look
  obtain ⟨m, hF⟩ := I2.fr
  have r2 : Vals [V.ref a, V.ref b] [Value.ref a, Value.ref b] := .cons rfl (.cons rfl .nil)
  refine PySem.W.binop_K hF I2.ok.mod.kin J J'.type hc hs hf ?_
  have z := run_fnS (us := [.ref a, .ref b]) (vs := [.ref a, .ref b]) F hr hb (hx σ) I2 r2 h
  refine wpAny_mono z (fun v s' hv => ?_) fun _ _ e => e
  obtain ⟨w', H', I', rw', r, e1, q'⟩ := hv
  subst e1
  obtain rfl : v = Value.ref r := rw'
  show EP X pins σ Q (.ref r) s'
  exact ⟨V.ref r, H', I', rfl, q'⟩
/-! ### a method without arguments, in a try -/
def tMethS0 (C : Addr) (m : Str) (sp : Sp) (E : L2.St → XK) (ta : TE) : TE := fun σ H Q => ta σ H fun x H1 => ∃ a dx fs, x = .ref a ∧ H1 a = some (.ins C dx fs) ∧ fs.lookup m = none ∧ sp [x] H1 Q (E σ)
theorem pe_methS0 (he : PE X o ta) (c : Cls X.K C) (hm : Meth X.K C m f) (F : FnOk X.prog X.w X.K X.mg X.base CX k f fd ps sp) (hr : Room k X.A) (hb : Binds X.K fd ps []) (hx : ∀ σ, PassesAt CX X σ (E σ))
    (ht : eval (.Call (.Attribute o m apos) [] [] pos) X.env = (do
      let ov ← eval o X.env
      standAt apos.atName
      let (f, first) ← holding [ov] (getMethod ov m pl)
      callWith pos f first (backTo pos (starEach [] X.env)) (backToKw pos (keywordEach [] X.env))) := by rfl) :
    PE X (.Call (.Attribute o m apos) [] [] pos) (tMethS0 C m sp E ta) := by
  refine ⟨fun pins s σ H Q I h => ?_⟩
  refine PySem.W.methodCall_KW (pl := pl) (thn (he.run pins s σ H _ I h) fun u s1 ⟨x, H1, I1, rx, a, dx, fs, ex, ea, l, q⟩ => ?_) ht
  subst ex
  obtain rfl : u = Value.ref a := rx
  refine getmeth_ok I1 ea c hm l ?_
  exact PySem.W.callWith_K0 (first := [.ref a]) I1.kIn hm.kp (run_fnS (us := [.ref a]) (vs := [.ref a]) F hr hb (hx σ) I1 (.cons rfl .nil) q)
/-! ### .. by keywords alone, in a try -/
def tMethKS (C : Addr) (m : Str) (n : Nat) (sp : Sp) (gV : List V → List V → List V) (E : L2.St → XK) (ta : TE) (tk : TA) : TE := fun σ H Q => ta σ H fun x H1 => ∃ a dx fs, x = .ref a ∧ H1 a = some (.ins C dx fs) ∧ fs.lookup m = none ∧ tk σ H1 fun zs H2 => zs.length = n ∧ sp (gV [x] zs) H2 Q (E σ)
variable {gg : List Value → List Value → List Value} {gV : List V → List V → List V}
theorem pe_methKS0 (he : PE X o ta) (c : Cls X.K C) (hm : Meth X.K C m f) (F : FnOk X.prog X.w X.K X.mg X.base CX k f fd ps sp) (hr : Room k X.A) (hb : KBn X.K fd ps 1 ks gg gV) (hx : ∀ σ, PassesAt CX X σ (E σ)) (hkw : PK X kws tk)
    (hall : (backToKw pos (keywordEach kws X.env)).all (·.1.isSome) = true := by rfl) (hks : (backToKw pos (keywordEach kws X.env)).filterMap (·.1) = ks := by rfl)
    (hpl : ((backTo pos (starEach [] X.env)).any (·.1) || (backToKw pos (keywordEach kws X.env)).any (·.1.isNone)) = false := by rfl)
    (ht : eval (.Call (.Attribute o m apos) [] kws pos) X.env = (do
      let ov ← eval o X.env
      standAt apos.atName
      let (f, first) ← holding [ov] (getMethod ov m pl)
      callWith pos f first (backTo pos (starEach [] X.env)) (backToKw pos (keywordEach kws X.env))) := by rfl) :
    PE X (.Call (.Attribute o m apos) [] kws pos) (tMethKS C m ks.length sp gV E ta tk) := by
  refine ⟨fun pins s σ H Q I h => ?_⟩
  refine PySem.W.methodCall_KW (pl := pl) (thn (he.run pins s σ H _ I h) fun u s1 ⟨x, H1, I1, rx, a, dx, fs, ex, ea, l, q⟩ => ?_) ht
  subst ex
  obtain rfl : u = Value.ref a := rx
  refine getmeth_ok I1 ea c hm l ?_
  refine PySem.W.callWith_KW0 (first := [.ref a]) (h₀ := X.base) I.ok.mod.kin hm.kp hall ?_ hpl
  refine thn (hkw.run pos pins s1 σ H1 _ I1 q) fun ws s2 ⟨zs, H2, I2, rz, lz, q2⟩ => ⟨I2.kIn, ?_⟩
  rw [hks]
  have r1 : Vals [V.ref a] [Value.ref a] := .cons rfl .nil
  exact wpAny_call (run_fnRS F hr (hx σ) I2 (hb.to s2 [Value.ref a] ws I2.kIn rfl (rz.length.symm.trans lz)) (hb.rel r1 rz) q2)
end
/-! ### two for clauses: for a in xs for b in ys -/
section
variable {J : It} {n : Nat} {G : Hp → Prop} {Y : Nat → Hp → V → Hp → Prop}
theorem in_it (w : Walk J n G Y) {g : TG} {tt : TT} {te : TE} {vs : List Nat} {σ : L2.St} {H1 : Hp} {D : Addr} {Qd : Hp → Prop} (Pv : Nat → Hp → Prop) (h0 : Pv 0 H1) (hG : ∀ i H, i ≤ n → Pv i H → G H)
    (hs : ∀ i x H H', i < n → Pv i H → Y i H x H' → g x (wipe σ vs) H' fun σ2 H2 => wipe σ2 vs = wipe σ vs ∧ tt σ2 H2 fun b H3 =>
      if b = true then te σ2 H3 fun y H4 => ∃ acc, H4 D = some (.lst acc) ∧ acc.length < sizeLine ∧ Pv (i + 1) (upd H4 D (.lst (acc ++ [y]))) else Pv (i + 1) H3) (hd : ∀ H, Pv n H → Qd H) :
    ∃ W : Nat → Nat → Hp → Prop, (∃ m, W 0 m H1) ∧ ∀ i m H, W i m H →
      (J.stop i H ∧ Qd H) ∨ (J.go i H ∧ ∃ Nx : Hp → Prop, (∀ H', Nx H' → ∃ m', m' < m ∧ W (i + 1) m' H') ∧ ∀ x H', J.yld i H x H' → g x (wipe σ vs) H' fun σ2 H2 => wipe σ2 vs = wipe σ vs ∧ tt σ2 H2 fun b H3 =>
        if b = true then te σ2 H3 fun y H4 => ∃ acc, H4 D = some (.lst acc) ∧ acc.length < sizeLine ∧ Nx (upd H4 D (.lst (acc ++ [y]))) else Nx H3) := by
  refine ⟨fun i m H => m = n - i ∧ i ≤ n ∧ Pv i H, ⟨n, by simp, Nat.zero_le _, h0⟩, ?_⟩
  rintro i m H ⟨rfl, hi, p⟩
  have q := hG i H hi p
  by_cases hlt : i < n
  · refine .inr ⟨w.goes i H hlt q, Pv (i + 1), fun H' p' => ⟨n - (i + 1), by omega, rfl, hlt, p'⟩, fun x H' y => hs i x H H' hlt p (w.yields i H x H' hlt q y)⟩
  · have e : i = n := by omega
    subst e
    exact .inl ⟨w.stops H q, hd H p⟩
theorem lc2_it (w : Walk J n G Y) {g : TG} {tt : TT} {tb : L2.St → Hp → (Hp → Prop) → Prop} {vs : List Nat} {σ : L2.St} {H1 : Hp} {D : Addr} {Qd : Hp → Prop} (Pv : Nat → Hp → Prop) (h0 : Pv 0 (upd H1 D (.lst []))) (hG : ∀ i H, i ≤ n → Pv i H → G H)
    (hs : ∀ i x H H', i < n → Pv i H → Y i H x H' → g x (wipe σ vs) H' fun σ2 H2 => wipe σ2 vs = wipe σ vs ∧ tt σ2 H2 fun b H3 =>
      if b = true then tb σ2 H3 (Pv (i + 1)) else Pv (i + 1) H3) (hd : ∀ H, Pv n H → Qd H) :
    ∃ W : Nat → Nat → Hp → Prop, (∃ m, W 0 m (upd H1 D (.lst []))) ∧ ∀ i m H, W i m H →
      (J.stop i H ∧ Qd H) ∨ (J.go i H ∧ ∃ Nx : Hp → Prop, (∀ H', Nx H' → ∃ m', m' < m ∧ W (i + 1) m' H') ∧ ∀ x H', J.yld i H x H' → g x (wipe σ vs) H' fun σ2 H2 => wipe σ2 vs = wipe σ vs ∧ tt σ2 H2 fun b H3 =>
        if b = true then tb σ2 H3 Nx else Nx H3) := by
  refine ⟨fun i m H => m = n - i ∧ i ≤ n ∧ Pv i H, ⟨n, by simp, Nat.zero_le _, h0⟩, ?_⟩
  rintro i m H ⟨rfl, hi, p⟩
  have q := hG i H hi p
  by_cases hlt : i < n
  · refine .inr ⟨w.goes i H hlt q, Pv (i + 1), fun H' p' => ⟨n - (i + 1), by omega, rfl, hlt, p'⟩, fun x H' y => hs i x H H' hlt p (w.yields i H x H' hlt q y)⟩
  · have e : i = n := by omega
    subst e
    exact .inl ⟨w.stops H q, hd H p⟩
end
/-! ### (a, b, ..) = a list of that length -/
def gTupL (K : PySem.W.Frag) (n : Nat) (t : TGs) : TG := fun v σ H Q => ∃ a xs, v = .ref a ∧ SqL K H a xs ∧ xs.length = n ∧ t xs σ H Q
theorem pg_tupL {X : Cx} {es : List Expr} {k : Nat} {pos : Pos} {t : TGs} {n : Nat} (hc : X.calm = true) (h : PGs X es t)
    (hn : (assignEach es X.env).length = n := by rfl) (hst : (assignEach es X.env).findIdx? (·.1) = none := by rfl) : PG X (.Tuple es k pos) (gTupL X.K n t) := by
  refine ⟨fun pins s σ H v u Q I r hw => ?_⟩
  obtain ⟨a, xs, e1, hq, hl, hw⟩ := hw
  subst e1
  cases r
  obtain ⟨its, rv, ht, hz⟩ := I.list hq
  rw [assign_Tuple]
  refine wpAny_bind (wpAny_standAt ?_)
  have e2 : its.toArray.size = n := by simp [← hl, rv.length]
  unfold unpack
  rw [hn, hst, ← e2]
  refine wpAny_bind (wpAny_holding (PySem.W.kun_itemsOf (I.ok.hd hc) ht.isList fun h' hx => ?_))
  have I1 : Inv X pins σ H { s with heap := h' } := I.kept (t' := s.toks) fun b o e => hx b o (Nat.ne_of_lt (Heap.lt_size e)) e
  exact h.run pins _ σ H xs _ Q I1 (by simpa using rv) hw
end OS

set_option Elab.async false
set_option linter.all false
set_option maxRecDepth 100000
set_option maxHeartbeats 4000000
namespace OS
open PySem PySem.Spec PyProof.Rows L2
/-! ### f(k = v, ..) in a try -/
def tCallKS (sp : Sp) (gV : List V → List V → List V) (E : L2.St → XK) (tk : TA) : TE := fun σ H Q => tk σ H fun zs H1 => sp (gV [] zs) H1 Q (E σ)
section
variable {X : Cx} {CX : CXT} {k : Nat} {f : Addr} {fd : FuncData} {ps ks : List Str} {sp : Sp} {E : L2.St → XK} {x : Str} {p pos : Pos} {kws : List Keyword} {tk : TA} {g : List Value → List Value → List Value} {gV : List V → List V → List V}
theorem pe_callKS0 (F : FnOk X.prog X.w X.K X.mg X.base CX k f fd ps sp) (hr : Room k X.A) (hg : Gl X x) (hm : X.mg x = some (.ref f)) (hk : PySem.W.keepIn X.K (.ref f) = true) (hb : KBinds X.K fd ps ks g gV) (hx : ∀ σ, PassesAt CX X σ (E σ))
    (hkw : PK X kws tk) (hall : (backToKw pos (keywordEach kws X.env)).all (·.1.isSome) = true := by rfl) (hks : (backToKw pos (keywordEach kws X.env)).filterMap (·.1) = ks := by rfl)
    (hdb : (x == ("__debug__" : Str)) = false := by decide)
    (hpl : ((backTo pos (starEach [] X.env)).any (·.1) || (backToKw pos (keywordEach kws X.env)).any (·.1.isNone)) = false := by rfl) :
    PE X (.Call (.Name x p) [] kws pos) (tCallKS sp gV E tk) := by
  refine ⟨fun pins s σ H Q I h => ?_⟩
  refine wpAny_Call_Name_kw (ld_glob I hg hm ?_ hdb)
  refine PySem.W.callWith_KW0 (h₀ := X.base) I.ok.mod.kin hk hall ?_ hpl
  refine thn (hkw.run pos pins s σ H _ I h) fun ws s2 ⟨zs, H2, I2, rz, q2⟩ => ⟨I2.kIn, ?_⟩
  rw [hks]
  have r2 := hb.rel (vs := []) (us := []) .nil rz
  have hl : (g [] ws).length = ps.length := by rw [← r2.length]; exact F.len _ _ _ _ q2
  refine wpAny_call (codeAny_mono (F.run X.A X.stack s2 H2 ⟨[], ks.zip ws⟩ (g [] ws) (gV [] zs) Q (E σ) hr I2.env0 (hb.to s2 [] ws I2.kIn hl) r2 q2) fun r s' hq => ?_)
  cases r with
  | error e => exact hx σ pins H2 s2 e s' I2 hq
  | ok fl =>
    cases fl with
    | ret u => exact I2.after hq
    | next => exact False.elim hq
    | brk => exact False.elim hq
    | cont => exact False.elim hq
end
end OS

set_option Elab.async false
set_option linter.all false
set_option maxRecDepth 100000
set_option maxHeartbeats 4000000
/-! rules for the laws of the takes -/
namespace OS
open PySem PySem.Spec PyProof.Rows L2
/-- tuple(xs) of a list -/
def rTupL (K : PySem.W.Frag) : List V → Hp → VK → Prop := fun xs H Q => ∃ p ys, xs = [V.ref p] ∧ SqL K H p ys ∧ NewO H (.tup ys) Q
theorem call_tupL {X : Cx} : CallR X (.type "tuple") (rTupL X.K) := call_tuple_ofL
/-- [..] * n -/
def rRepO : R2 := fun x y H Q => ∃ l k xs, x = .ref l ∧ y = .int k ∧ H l = some (.lst xs) ∧ -(2 ^ 63) ≤ k ∧ k < 2 ^ 63 ∧ xs.length * k.toNat ≤ sizeLine ∧ NewO H (.lst (List.replicate k.toNat xs).flatten) Q
theorem op_mulL {X : Cx} : OpR X (binaryOp .Mult) rRepO := opImp op_rep fun _ _ _ _ ⟨l, k, xs, h1, h2, h3, h4, h5, h6, q⟩ => ⟨l, k, xs, h1, h2, h3, h4, h5, h6, q.to⟩
/-- sorted(d), keys that are texts -/
def rSortD : List V → Hp → VK → Prop := fun xs H Q => ∃ (a : Addr) (kvs : List (Key × V)) (ks : List Str), xs = [.ref a] ∧ Rd H a (.dK kvs) ∧ kvs.map (·.1) = ks.map Sum.inr ∧ ks.length < 64 ∧
  ∀ ys, ys.Perm ks → sortedS ys = true → NewO H (.lst (ys.map V.str)) Q
theorem cr_sortD {X : Cx} (hc : X.calm = true) : CallR X (.builtin "sorted") rSortD := callImp (call_sortedD hc) fun _ _ _ ⟨a, kvs, ks, h1, h2, h3, h4, q⟩ => ⟨a, kvs, ks, h1, h2, h3, h4, fun ys p h5 h6 => (q ys h5 h6).to p⟩
/-- len(xs), a list or a tuple -/
def rLenS (K : PySem.W.Frag) : List V → Hp → VK → Prop := fun xs H Q => ∃ p ys, xs = [V.ref p] ∧ (SqL K H p ys ∨ SqT K H p ys) ∧ Q (.int ys.length) H
theorem call_lenS {X : Cx} : CallR X (.builtin "len") (rLenS X.K) := call_len_seq
/-- list(xs) of a list or a tuple -/
def rListS (K : PySem.W.Frag) : List V → Hp → VK → Prop := fun xs H Q => ∃ p ys, xs = [V.ref p] ∧ (SqL K H p ys ∨ SqT K H p ys) ∧ NewO H (.lst ys) Q
theorem call_listS {X : Cx} : CallR X (.type "list") (rListS X.K) := call_list_ofO
/-- a pair (length, group) -/
def PairV (K : PySem.W.Frag) (H : Hp) (x : V) (g : List Str) : Prop := ∃ t b, x = .ref t ∧ SqT K H t [.int (g.length : Int), .ref b] ∧ SqT K H b (g.map V.str)
theorem PairV.same {K : PySem.W.Frag} {H H' : Hp} {x : V} {g : List Str} (h : PairV K H x g) (s : Same H H') : PairV K H' x g := by
  obtain ⟨t, b, h1, h2, h3⟩ := h
  exact ⟨t, b, h1, s.tupT h2, s.tupT h3⟩
theorem PairV.but {K : PySem.W.Frag} {H H' : Hp} {D : Addr} {acc : List V} {x : V} {g : List Str} (hD : H D = some (.lst acc)) (k : ∀ b o, H b = some o → b ≠ D → H' b = some o) (h : PairV K H x g) : PairV K H' x g := by
  obtain ⟨t, b, h1, h2, h3⟩ := h
  exact ⟨t, b, h1, tupT_but hD k h2, tupT_but hD k h3⟩
theorem PairV.dp {K : PySem.W.Frag} {H : Hp} {x : V} {g : List Str} (h : PairV K H x g) : Dp K H x (encP g) := by
  obtain ⟨t, b, rfl, h2, h3⟩ := h
  exact .tup h2 (.cons (.int _) (.cons (.tup h3 (dp_all (fun z => .str z) g)) .nil))
/-- what sorted makes of such pairs -/
theorem pairs_sorted {K : PySem.W.Frag} {H : Hp} {D : Addr} {acc : List V} {gs : List (List Str)} {Q : VK} (hD : H D = some (.lst acc)) (pr : Paired (PairV K H) acc gs)
    (q : ∀ p H' ys, H p = none → Same H H' → H' p = some (.lst ys) → Paired (PairV K H') ys (gs.mergeSort leP) → Q (.ref p) H') : SortXAt K H Q D := by
  obtain ⟨z1, z2, z3⟩ := paired_zip pr
  have sm1 : ((acc.zip gs).mergeSort (PySem.W.dataLe false fun b => encP b.2)).map Prod.snd = gs.mergeSort leP := by
    have h := PySem.W.sort_maps (r := PySem.W.dataLe false fun b : V × List Str => encP b.2) (s := PySem.W.dataLe false encP) (Prod.snd : V × List Str → List Str) (l := acc.zip gs) (fun _ _ _ _ => rfl)
    rw [z2] at h
    exact h
  refine ⟨V × List Str, acc.zip gs, Prod.fst, fun b => encP b.2, by rw [z1]; exact SqL.of hD, fun b hb => (z3 b hb).dp, PySem.W.AllAlike.of fun b b' => alike_P _ _, .inl (PySem.W.Sortable.tuples fun b => ⟨_, _, rfl⟩), fun b _ => by rw [depth_P]; decide, fun q1 H4 n4 s4 hq1 => ?_⟩
  refine q q1 H4 _ n4 s4 hq1 ?_
  rw [← sm1]
  exact paired_of fun c hc => (z3 c ((List.mergeSort_perm _ _).mem_iff.mp hc)).same s4
end OS

set_option Elab.async false
set_option linter.all false
set_option maxRecDepth 100000
set_option maxHeartbeats 4000000
namespace P
open PySem PySem.Spec PyProof.Rows L2 OS
def top (i : Nat) : Stmt := PySem.Challenge.pw_openshares_k30_dealing.main.body.getD i (.Pass ⟨0, 0, 0, 0⟩)
abbrev s_BadName__init_ : Stmt := inClass (top 3) 0
abbrev N_BadName__init_ : List Str := ["self", "name"]
theorem sc_BadName__init_ : FnScope N_BadName__init_ ["self", "name"] (defScope s_BadName__init_) := ⟨rfl, rfl, rfl, by decide +kernel, rfl, by decide +kernel, by decide +kernel⟩
abbrev s_DuplicateName__init_ : Stmt := inClass (top 4) 0
abbrev N_DuplicateName__init_ : List Str := ["self", "name"]
theorem sc_DuplicateName__init_ : FnScope N_DuplicateName__init_ ["self", "name"] (defScope s_DuplicateName__init_) := ⟨rfl, rfl, rfl, by decide +kernel, rfl, by decide +kernel, by decide +kernel⟩
abbrev s_UnknownName__init_ : Stmt := inClass (top 5) 0
abbrev N_UnknownName__init_ : List Str := ["self", "name"]
theorem sc_UnknownName__init_ : FnScope N_UnknownName__init_ ["self", "name"] (defScope s_UnknownName__init_) := ⟨rfl, rfl, rfl, by decide +kernel, rfl, by decide +kernel, by decide +kernel⟩
abbrev s_BadCount__init_ : Stmt := inClass (top 6) 0
abbrev N_BadCount__init_ : List Str := ["self", "count"]
theorem sc_BadCount__init_ : FnScope N_BadCount__init_ ["self", "count"] (defScope s_BadCount__init_) := ⟨rfl, rfl, rfl, by decide +kernel, rfl, by decide +kernel, by decide +kernel⟩
abbrev s_BadPrime__init_ : Stmt := inClass (top 7) 0
abbrev N_BadPrime__init_ : List Str := ["self", "number"]
theorem sc_BadPrime__init_ : FnScope N_BadPrime__init_ ["self", "number"] (defScope s_BadPrime__init_) := ⟨rfl, rfl, rfl, by decide +kernel, rfl, by decide +kernel, by decide +kernel⟩
abbrev s_BadNumber__init_ : Stmt := inClass (top 8) 0
abbrev N_BadNumber__init_ : List Str := ["self", "value"]
theorem sc_BadNumber__init_ : FnScope N_BadNumber__init_ ["self", "value"] (defScope s_BadNumber__init_) := ⟨rfl, rfl, rfl, by decide +kernel, rfl, by decide +kernel, by decide +kernel⟩
abbrev s_BadRow__init_ : Stmt := inClass (top 9) 0
abbrev N_BadRow__init_ : List Str := ["self", "value"]
theorem sc_BadRow__init_ : FnScope N_BadRow__init_ ["self", "value"] (defScope s_BadRow__init_) := ⟨rfl, rfl, rfl, by decide +kernel, rfl, by decide +kernel, by decide +kernel⟩
abbrev s_valid_name : Stmt := top 14
abbrev N_valid_name : List Str := ["text", "char"]
theorem sc_valid_name : FnScope N_valid_name ["text"] (defScope s_valid_name) := ⟨rfl, rfl, rfl, by decide +kernel, rfl, by decide +kernel, by decide +kernel⟩
abbrev s_checked_persons : Stmt := top 17
abbrev N_checked_persons : List Str := ["persons", "at", "name"]
theorem sc_checked_persons : FnScope N_checked_persons ["persons"] (defScope s_checked_persons) := ⟨rfl, rfl, rfl, by decide +kernel, rfl, by decide +kernel, by decide +kernel⟩
abbrev s_check_prime : Stmt := top 21
abbrev N_check_prime : List Str := ["prime"]
theorem sc_check_prime : FnScope N_check_prime ["prime"] (defScope s_check_prime) := ⟨rfl, rfl, rfl, by decide +kernel, rfl, by decide +kernel, by decide +kernel⟩
abbrev s_is_whole : Stmt := top 22
abbrev N_is_whole : List Str := ["value"]
theorem sc_is_whole : FnScope N_is_whole ["value"] (defScope s_is_whole) := ⟨rfl, rfl, rfl, by decide +kernel, rfl, by decide +kernel, by decide +kernel⟩
abbrev s_is_number : Stmt := top 23
abbrev N_is_number : List Str := ["prime", "value"]
theorem sc_is_number : FnScope N_is_number ["prime", "value"] (defScope s_is_number) := ⟨rfl, rfl, rfl, by decide +kernel, rfl, by decide +kernel, by decide +kernel⟩
abbrev s_has_numbers : Stmt := top 24
abbrev N_has_numbers : List Str := ["prime", "value", "many", "item"]
theorem sc_has_numbers : FnScope N_has_numbers ["prime", "value", "many"] (defScope s_has_numbers) := ⟨rfl, rfl, rfl, by decide +kernel, rfl, by decide +kernel, by decide +kernel⟩
abbrev s_check_number : Stmt := top 25
abbrev N_check_number : List Str := ["prime", "value"]
theorem sc_check_number : FnScope N_check_number ["prime", "value"] (defScope s_check_number) := ⟨rfl, rfl, rfl, by decide +kernel, rfl, by decide +kernel, by decide +kernel⟩
abbrev s_check_numbers : Stmt := top 26
abbrev N_check_numbers : List Str := ["prime", "values", "value"]
theorem sc_check_numbers : FnScope N_check_numbers ["prime", "values"] (defScope s_check_numbers) := ⟨rfl, rfl, rfl, by decide +kernel, rfl, by decide +kernel, by decide +kernel⟩
abbrev s_check_rows : Stmt := top 27
abbrev N_check_rows : List Str := ["prime", "values", "width", "value"]
theorem sc_check_rows : FnScope N_check_rows ["prime", "values"] (defScope s_check_rows) := ⟨rfl, rfl, rfl, by decide +kernel, rfl, by decide +kernel, by decide +kernel⟩
abbrev s_check_width : Stmt := top 28
abbrev N_check_width : List Str := ["width", "rows", "row"]
theorem sc_check_width : FnScope N_check_width ["width", "rows"] (defScope s_check_width) := ⟨rfl, rfl, rfl, by decide +kernel, rfl, by decide +kernel, by decide +kernel⟩
abbrev s_product : Stmt := top 29
abbrev N_product : List Str := ["prime", "one", "other", "number", "factor"]
theorem sc_product : FnScope N_product ["prime", "one", "other"] (defScope s_product) := ⟨rfl, rfl, rfl, by decide +kernel, rfl, by decide +kernel, by decide +kernel⟩
abbrev s_Scheme__init_ : Stmt := inClass (top 32) 0
abbrev N_Scheme__init_ : List Str := ["self", "prime", "width", "rows", "persons", "name"]
theorem sc_Scheme__init_ : FnScope N_Scheme__init_ ["self", "prime", "width", "rows"] (defScope s_Scheme__init_) := ⟨rfl, rfl, rfl, by decide +kernel, rfl, by decide +kernel, by decide +kernel⟩
abbrev s_Scheme_prime : Stmt := inClass (top 32) 1
abbrev N_Scheme_prime : List Str := ["self"]
theorem sc_Scheme_prime : FnScope N_Scheme_prime ["self"] (defScope s_Scheme_prime) := ⟨rfl, rfl, rfl, by decide +kernel, rfl, by decide +kernel, by decide +kernel⟩
abbrev s_Scheme_width : Stmt := inClass (top 32) 2
abbrev N_Scheme_width : List Str := ["self"]
theorem sc_Scheme_width : FnScope N_Scheme_width ["self"] (defScope s_Scheme_width) := ⟨rfl, rfl, rfl, by decide +kernel, rfl, by decide +kernel, by decide +kernel⟩
abbrev s_Scheme_persons : Stmt := inClass (top 32) 3
abbrev N_Scheme_persons : List Str := ["self"]
theorem sc_Scheme_persons : FnScope N_Scheme_persons ["self"] (defScope s_Scheme_persons) := ⟨rfl, rfl, rfl, by decide +kernel, rfl, by decide +kernel, by decide +kernel⟩
abbrev s_Scheme_rows : Stmt := inClass (top 32) 5
abbrev N_Scheme_rows : List Str := ["self", "name"]
theorem sc_Scheme_rows : FnScope N_Scheme_rows ["self", "name"] (defScope s_Scheme_rows) := ⟨rfl, rfl, rfl, by decide +kernel, rfl, by decide +kernel, by decide +kernel⟩
abbrev s_check_rows_of_person : Stmt := top 33
abbrev N_check_rows_of_person : List Str := ["prime", "width", "rows", "value"]
theorem sc_check_rows_of_person : FnScope N_check_rows_of_person ["prime", "width", "rows"] (defScope s_check_rows_of_person) := ⟨rfl, rfl, rfl, by decide +kernel, rfl, by decide +kernel, by decide +kernel⟩
abbrev s_deal : Stmt := top 35
abbrev N_deal : List Str := ["scheme", "secret", "numbers", "dealt", "row", "name"]
theorem sc_deal : FnScope N_deal ["scheme", "secret", "numbers"] (defScope s_deal) := ⟨rfl, rfl, rfl, by decide +kernel, rfl, by decide +kernel, by decide +kernel⟩
abbrev s_law_start : Stmt := top 37
abbrev N_law_start : List Str := ["_law_script", "_law_cell"]
theorem sc_law_start : FnScope N_law_start ["_law_script"] (defScope s_law_start) := ⟨rfl, rfl, rfl, by decide +kernel, rfl, by decide +kernel, by decide +kernel⟩
abbrev s_law_take : Stmt := top 38
abbrev N_law_take : List Str := ["_law_state", "_law_limit", "_law_cells", "_law_at", "_law_cell", "_law_figure1"]
theorem sc_law_take : FnScope N_law_take ["_law_state", "_law_limit"] (defScope s_law_take) := ⟨rfl, rfl, rfl, by decide +kernel, rfl, by decide +kernel, by decide +kernel⟩
abbrev s_law_shuffled : Stmt := top 39
abbrev N_law_shuffled : List Str := ["_law_state", "_law_items", "_law_left", "_law_told_here", "_law_k"]
theorem sc_law_shuffled : FnScope N_law_shuffled ["_law_state", "_law_items"] (defScope s_law_shuffled) := ⟨rfl, rfl, rfl, by decide +kernel, rfl, by decide +kernel, by decide +kernel⟩
abbrev s_law_persons : Stmt := top 40
abbrev N_law_persons : List Str := ["_law_state", "_law_most", "_law_lists_here", "_law_words"]
theorem sc_law_persons : FnScope N_law_persons ["_law_state", "_law_most"] (defScope s_law_persons) := ⟨rfl, rfl, rfl, by decide +kernel, rfl, by decide +kernel, by decide +kernel⟩
abbrev s_law_groups : Stmt := top 41
abbrev N_law_groups : List Str := ["_law_names", "_law_rows", "_law_name", "_law_row", "_law_size"]
theorem sc_law_groups : FnScope N_law_groups ["_law_names"] (defScope s_law_groups) := ⟨rfl, rfl, rfl, by decide +kernel, rfl, by decide +kernel, by decide +kernel⟩
abbrev s_law_has : Stmt := top 42
abbrev N_law_has : List Str := ["_law_group", "_law_inner", "_law_name"]
theorem sc_law_has : FnScope N_law_has ["_law_group", "_law_inner"] (defScope s_law_has) := ⟨rfl, rfl, rfl, by decide +kernel, rfl, by decide +kernel, by decide +kernel⟩
abbrev s_law_least : Stmt := top 43
abbrev N_law_least : List Str := ["_law_groups_here", "_law_told_here", "_law_group", "_law_other", "_law_size"]
theorem sc_law_least : FnScope N_law_least ["_law_groups_here"] (defScope s_law_least) := ⟨rfl, rfl, rfl, by decide +kernel, rfl, by decide +kernel, by decide +kernel⟩
abbrev s_law_opens : Stmt := top 44
abbrev N_law_opens : List Str := ["_law_least_here", "_law_group", "_law_inner"]
theorem sc_law_opens : FnScope N_law_opens ["_law_least_here", "_law_group"] (defScope s_law_opens) := ⟨rfl, rfl, rfl, by decide +kernel, rfl, by decide +kernel, by decide +kernel⟩
abbrev s_law_family : Stmt := top 45
abbrev N_law_family : List Str := ["_law_state", "_law_names", "_law_groups_here", "_law_plan", "_law_many", "_law_group", "_law_pairs", "_law_drawn", "_law_turn"]
theorem sc_law_family : FnScope N_law_family ["_law_state", "_law_names"] (defScope s_law_family) := ⟨rfl, rfl, rfl, by decide +kernel, rfl, by decide +kernel, by decide +kernel⟩
abbrev s_law_turned : Stmt := top 46
abbrev N_law_turned : List Str := ["_law_names", "_law_least_here", "_law_told_here", "_law_group", "_law_others", "_law_name"]
theorem sc_law_turned : FnScope N_law_turned ["_law_names", "_law_least_here"] (defScope s_law_turned) := ⟨rfl, rfl, rfl, by decide +kernel, rfl, by decide +kernel, by decide +kernel⟩
abbrev s_law_goal : Stmt := top 47
abbrev N_law_goal : List Str := ["_law_width"]
theorem sc_law_goal : FnScope N_law_goal ["_law_width"] (defScope s_law_goal) := ⟨rfl, rfl, rfl, by decide +kernel, rfl, by decide +kernel, by decide +kernel⟩
abbrev s_law_dot : Stmt := top 48
abbrev N_law_dot : List Str := ["_law_prime", "_law_one", "_law_other", "_law_k"]
theorem sc_law_dot : FnScope N_law_dot ["_law_prime", "_law_one", "_law_other"] (defScope s_law_dot) := ⟨rfl, rfl, rfl, by decide +kernel, rfl, by decide +kernel, by decide +kernel⟩
abbrev s_law_lists : Stmt := top 49
abbrev N_law_lists : List Str := ["_law_state", "_law_names", "_law_prime", "_law_width", "_law_lists_here", "_law_name", "_law_turn", "_law_row", "_law_place"]
theorem sc_law_lists : FnScope N_law_lists ["_law_state", "_law_names"] (defScope s_law_lists) := ⟨rfl, rfl, rfl, by decide +kernel, rfl, by decide +kernel, by decide +kernel⟩
abbrev s_law_plain_lists : Stmt := top 50
abbrev N_law_plain_lists : List Str := ["_law_state", "_law_names", "_law_least_here", "_law_prime", "_law_width", "_law_group", "_law_lists_here", "_law_name", "_law_used", "_law_order", "_law_last", "_law_row"]
theorem sc_law_plain_lists : FnScope N_law_plain_lists ["_law_state", "_law_names", "_law_least_here"] (defScope s_law_plain_lists) := ⟨rfl, rfl, rfl, by decide +kernel, rfl, by decide +kernel, by decide +kernel⟩
abbrev s_law_model : Stmt := top 51
abbrev N_law_model : List Str := ["_law_state", "_law_names", "_law_plan", "_law_prime", "_law_many", "_law_lists_here", "_law_k"]
theorem sc_law_model : FnScope N_law_model ["_law_state", "_law_names"] (defScope s_law_model) := ⟨rfl, rfl, rfl, by decide +kernel, rfl, by decide +kernel, by decide +kernel⟩
abbrev s_law_powers : Stmt := top 52
abbrev N_law_powers : List Str := ["_law_prime", "_law_figure1", "_law_many", "_law_told_here", "_law_power", "_law_turn"]
theorem sc_law_powers : FnScope N_law_powers ["_law_prime", "_law_figure1", "_law_many"] (defScope s_law_powers) := ⟨rfl, rfl, rfl, by decide +kernel, rfl, by decide +kernel, by decide +kernel⟩
abbrev s_law_scheme : Stmt := top 53
abbrev N_law_scheme : List Str := ["_law_state", "_law_model_here", "_law_lists_here", "_law_name"]
theorem sc_law_scheme : FnScope N_law_scheme ["_law_state", "_law_model_here"] (defScope s_law_scheme) := ⟨rfl, rfl, rfl, by decide +kernel, rfl, by decide +kernel, by decide +kernel⟩
abbrev s_law_dealt : Stmt := top 54
abbrev N_law_dealt : List Str := ["_law_model_here", "_law_dealt_here", "_law_told_here", "_law_name", "_law_row"]
theorem sc_law_dealt : FnScope N_law_dealt ["_law_model_here", "_law_dealt_here"] (defScope s_law_dealt) := ⟨rfl, rfl, rfl, by decide +kernel, rfl, by decide +kernel, by decide +kernel⟩
abbrev s_law_is_number : Stmt := top 55
abbrev N_law_is_number : List Str := ["_law_prime", "_law_value"]
theorem sc_law_is_number : FnScope N_law_is_number ["_law_prime", "_law_value"] (defScope s_law_is_number) := ⟨rfl, rfl, rfl, by decide +kernel, rfl, by decide +kernel, by decide +kernel⟩
abbrev s_law_due : Stmt := top 56
abbrev N_law_due : List Str := ["_law_model_here", "_law_hidden", "_law_free", "_law_figure1"]
theorem sc_law_due : FnScope N_law_due ["_law_model_here", "_law_hidden", "_law_free"] (defScope s_law_due) := ⟨rfl, rfl, rfl, by decide +kernel, rfl, by decide +kernel, by decide +kernel⟩
abbrev s_law_told : Stmt := top 57
abbrev N_law_told : List Str := ["_law_way", "_law_desk", "_law_hidden", "_law_free", "e"]
theorem sc_law_told : FnScope N_law_told ["_law_way", "_law_desk", "_law_hidden", "_law_free"] (defScope s_law_told) := ⟨rfl, rfl, rfl, by decide +kernel, rfl, by decide +kernel, by decide +kernel⟩
abbrev s_law : Stmt := top 58
abbrev N_law : List Str := ["_law_script", "_law_state", "_law_names", "_law_models", "_law_desks", "_law_model_here", "_law_turn", "_law_hidden", "_law_free", "_law_place", "_law_odd", "_law_step", "_law_k", "_law_passed", "_law_way", "_law_told_here"]
theorem sc_law : FnScope N_law ["_law_script"] (defScope s_law) := ⟨rfl, rfl, rfl, by decide +kernel, rfl, by decide +kernel, by decide +kernel⟩

structure Txt (K : PySem.W.Frag) (mg : Str → Option Value) where
  f_BadName__init_ : Addr
  fd_BadName__init_ : FuncData
  F_BadName__init_ : Fun K "__init__" "BadName.__init__" s_BadName__init_ f_BadName__init_ fd_BadName__init_
  b_BadName__init_ : Binds K fd_BadName__init_ ["self", "name"] []
  f_DuplicateName__init_ : Addr
  fd_DuplicateName__init_ : FuncData
  F_DuplicateName__init_ : Fun K "__init__" "DuplicateName.__init__" s_DuplicateName__init_ f_DuplicateName__init_ fd_DuplicateName__init_
  b_DuplicateName__init_ : Binds K fd_DuplicateName__init_ ["self", "name"] []
  f_UnknownName__init_ : Addr
  fd_UnknownName__init_ : FuncData
  F_UnknownName__init_ : Fun K "__init__" "UnknownName.__init__" s_UnknownName__init_ f_UnknownName__init_ fd_UnknownName__init_
  b_UnknownName__init_ : Binds K fd_UnknownName__init_ ["self", "name"] []
  f_BadCount__init_ : Addr
  fd_BadCount__init_ : FuncData
  F_BadCount__init_ : Fun K "__init__" "BadCount.__init__" s_BadCount__init_ f_BadCount__init_ fd_BadCount__init_
  b_BadCount__init_ : Binds K fd_BadCount__init_ ["self", "count"] []
  f_BadPrime__init_ : Addr
  fd_BadPrime__init_ : FuncData
  F_BadPrime__init_ : Fun K "__init__" "BadPrime.__init__" s_BadPrime__init_ f_BadPrime__init_ fd_BadPrime__init_
  b_BadPrime__init_ : Binds K fd_BadPrime__init_ ["self", "number"] []
  f_BadNumber__init_ : Addr
  fd_BadNumber__init_ : FuncData
  F_BadNumber__init_ : Fun K "__init__" "BadNumber.__init__" s_BadNumber__init_ f_BadNumber__init_ fd_BadNumber__init_
  b_BadNumber__init_ : Binds K fd_BadNumber__init_ ["self", "value"] []
  f_BadRow__init_ : Addr
  fd_BadRow__init_ : FuncData
  F_BadRow__init_ : Fun K "__init__" "BadRow.__init__" s_BadRow__init_ f_BadRow__init_ fd_BadRow__init_
  b_BadRow__init_ : Binds K fd_BadRow__init_ ["self", "value"] []
  f_valid_name : Addr
  fd_valid_name : FuncData
  F_valid_name : Fun K "valid_name" "valid_name" s_valid_name f_valid_name fd_valid_name
  b_valid_name : Binds K fd_valid_name ["text"] []
  g_valid_name : mg "valid_name" = some (.ref f_valid_name)
  f_checked_persons : Addr
  fd_checked_persons : FuncData
  F_checked_persons : Fun K "checked_persons" "checked_persons" s_checked_persons f_checked_persons fd_checked_persons
  b_checked_persons : Binds K fd_checked_persons ["persons"] []
  g_checked_persons : mg "checked_persons" = some (.ref f_checked_persons)
  f_check_prime : Addr
  fd_check_prime : FuncData
  F_check_prime : Fun K "check_prime" "check_prime" s_check_prime f_check_prime fd_check_prime
  b_check_prime : Binds K fd_check_prime ["prime"] []
  g_check_prime : mg "check_prime" = some (.ref f_check_prime)
  f_is_whole : Addr
  fd_is_whole : FuncData
  F_is_whole : Fun K "is_whole" "is_whole" s_is_whole f_is_whole fd_is_whole
  b_is_whole : Binds K fd_is_whole ["value"] []
  g_is_whole : mg "is_whole" = some (.ref f_is_whole)
  f_is_number : Addr
  fd_is_number : FuncData
  F_is_number : Fun K "is_number" "is_number" s_is_number f_is_number fd_is_number
  b_is_number : Binds K fd_is_number ["prime", "value"] []
  g_is_number : mg "is_number" = some (.ref f_is_number)
  f_has_numbers : Addr
  fd_has_numbers : FuncData
  F_has_numbers : Fun K "has_numbers" "has_numbers" s_has_numbers f_has_numbers fd_has_numbers
  b_has_numbers : Binds K fd_has_numbers ["prime", "value", "many"] []
  g_has_numbers : mg "has_numbers" = some (.ref f_has_numbers)
  f_check_number : Addr
  fd_check_number : FuncData
  F_check_number : Fun K "check_number" "check_number" s_check_number f_check_number fd_check_number
  b_check_number : Binds K fd_check_number ["prime", "value"] []
  g_check_number : mg "check_number" = some (.ref f_check_number)
  f_check_numbers : Addr
  fd_check_numbers : FuncData
  F_check_numbers : Fun K "check_numbers" "check_numbers" s_check_numbers f_check_numbers fd_check_numbers
  b_check_numbers : Binds K fd_check_numbers ["prime", "values"] []
  g_check_numbers : mg "check_numbers" = some (.ref f_check_numbers)
  f_check_rows : Addr
  fd_check_rows : FuncData
  F_check_rows : Fun K "check_rows" "check_rows" s_check_rows f_check_rows fd_check_rows
  b_check_rows : Binds K fd_check_rows ["prime", "values"] []
  g_check_rows : mg "check_rows" = some (.ref f_check_rows)
  f_check_width : Addr
  fd_check_width : FuncData
  F_check_width : Fun K "check_width" "check_width" s_check_width f_check_width fd_check_width
  b_check_width : Binds K fd_check_width ["width", "rows"] []
  g_check_width : mg "check_width" = some (.ref f_check_width)
  f_product : Addr
  fd_product : FuncData
  F_product : Fun K "product" "product" s_product f_product fd_product
  b_product : Binds K fd_product ["prime", "one", "other"] []
  g_product : mg "product" = some (.ref f_product)
  f_Scheme__init_ : Addr
  fd_Scheme__init_ : FuncData
  F_Scheme__init_ : Fun K "__init__" "Scheme.__init__" s_Scheme__init_ f_Scheme__init_ fd_Scheme__init_
  b_Scheme__init_ : Binds K fd_Scheme__init_ ["self", "prime", "width", "rows"] []
  f_Scheme_prime : Addr
  fd_Scheme_prime : FuncData
  F_Scheme_prime : Fun K "prime" "Scheme.prime" s_Scheme_prime f_Scheme_prime fd_Scheme_prime
  b_Scheme_prime : Binds K fd_Scheme_prime ["self"] []
  f_Scheme_width : Addr
  fd_Scheme_width : FuncData
  F_Scheme_width : Fun K "width" "Scheme.width" s_Scheme_width f_Scheme_width fd_Scheme_width
  b_Scheme_width : Binds K fd_Scheme_width ["self"] []
  f_Scheme_persons : Addr
  fd_Scheme_persons : FuncData
  F_Scheme_persons : Fun K "persons" "Scheme.persons" s_Scheme_persons f_Scheme_persons fd_Scheme_persons
  b_Scheme_persons : Binds K fd_Scheme_persons ["self"] []
  f_Scheme_rows : Addr
  fd_Scheme_rows : FuncData
  F_Scheme_rows : Fun K "rows" "Scheme.rows" s_Scheme_rows f_Scheme_rows fd_Scheme_rows
  b_Scheme_rows : Binds K fd_Scheme_rows ["self", "name"] []
  f_check_rows_of_person : Addr
  fd_check_rows_of_person : FuncData
  F_check_rows_of_person : Fun K "check_rows_of_person" "check_rows_of_person" s_check_rows_of_person f_check_rows_of_person fd_check_rows_of_person
  b_check_rows_of_person : Binds K fd_check_rows_of_person ["prime", "width", "rows"] []
  g_check_rows_of_person : mg "check_rows_of_person" = some (.ref f_check_rows_of_person)
  f_deal : Addr
  fd_deal : FuncData
  F_deal : Fun K "deal" "deal" s_deal f_deal fd_deal
  b_deal : Binds K fd_deal ["scheme", "secret", "numbers"] []
  g_deal : mg "deal" = some (.ref f_deal)
  f_law_start : Addr
  fd_law_start : FuncData
  F_law_start : Fun K "_law_start" "_law_start" s_law_start f_law_start fd_law_start
  b_law_start : Binds K fd_law_start ["_law_script"] []
  g_law_start : mg "_law_start" = some (.ref f_law_start)
  f_law_take : Addr
  fd_law_take : FuncData
  F_law_take : Fun K "_law_take" "_law_take" s_law_take f_law_take fd_law_take
  b_law_take : Binds K fd_law_take ["_law_state", "_law_limit"] []
  g_law_take : mg "_law_take" = some (.ref f_law_take)
  f_law_shuffled : Addr
  fd_law_shuffled : FuncData
  F_law_shuffled : Fun K "_law_shuffled" "_law_shuffled" s_law_shuffled f_law_shuffled fd_law_shuffled
  b_law_shuffled : Binds K fd_law_shuffled ["_law_state", "_law_items"] []
  g_law_shuffled : mg "_law_shuffled" = some (.ref f_law_shuffled)
  f_law_persons : Addr
  fd_law_persons : FuncData
  F_law_persons : Fun K "_law_persons" "_law_persons" s_law_persons f_law_persons fd_law_persons
  b_law_persons : Binds K fd_law_persons ["_law_state", "_law_most"] []
  g_law_persons : mg "_law_persons" = some (.ref f_law_persons)
  f_law_groups : Addr
  fd_law_groups : FuncData
  F_law_groups : Fun K "_law_groups" "_law_groups" s_law_groups f_law_groups fd_law_groups
  b_law_groups : Binds K fd_law_groups ["_law_names"] []
  g_law_groups : mg "_law_groups" = some (.ref f_law_groups)
  f_law_has : Addr
  fd_law_has : FuncData
  F_law_has : Fun K "_law_has" "_law_has" s_law_has f_law_has fd_law_has
  b_law_has : Binds K fd_law_has ["_law_group", "_law_inner"] []
  g_law_has : mg "_law_has" = some (.ref f_law_has)
  f_law_least : Addr
  fd_law_least : FuncData
  F_law_least : Fun K "_law_least" "_law_least" s_law_least f_law_least fd_law_least
  b_law_least : Binds K fd_law_least ["_law_groups_here"] []
  g_law_least : mg "_law_least" = some (.ref f_law_least)
  f_law_opens : Addr
  fd_law_opens : FuncData
  F_law_opens : Fun K "_law_opens" "_law_opens" s_law_opens f_law_opens fd_law_opens
  b_law_opens : Binds K fd_law_opens ["_law_least_here", "_law_group"] []
  g_law_opens : mg "_law_opens" = some (.ref f_law_opens)
  f_law_family : Addr
  fd_law_family : FuncData
  F_law_family : Fun K "_law_family" "_law_family" s_law_family f_law_family fd_law_family
  b_law_family : Binds K fd_law_family ["_law_state", "_law_names"] []
  g_law_family : mg "_law_family" = some (.ref f_law_family)
  f_law_turned : Addr
  fd_law_turned : FuncData
  F_law_turned : Fun K "_law_turned" "_law_turned" s_law_turned f_law_turned fd_law_turned
  b_law_turned : Binds K fd_law_turned ["_law_names", "_law_least_here"] []
  g_law_turned : mg "_law_turned" = some (.ref f_law_turned)
  f_law_goal : Addr
  fd_law_goal : FuncData
  F_law_goal : Fun K "_law_goal" "_law_goal" s_law_goal f_law_goal fd_law_goal
  b_law_goal : Binds K fd_law_goal ["_law_width"] []
  g_law_goal : mg "_law_goal" = some (.ref f_law_goal)
  f_law_dot : Addr
  fd_law_dot : FuncData
  F_law_dot : Fun K "_law_dot" "_law_dot" s_law_dot f_law_dot fd_law_dot
  b_law_dot : Binds K fd_law_dot ["_law_prime", "_law_one", "_law_other"] []
  g_law_dot : mg "_law_dot" = some (.ref f_law_dot)
  f_law_lists : Addr
  fd_law_lists : FuncData
  F_law_lists : Fun K "_law_lists" "_law_lists" s_law_lists f_law_lists fd_law_lists
  b_law_lists : Binds K fd_law_lists ["_law_state", "_law_names"] []
  g_law_lists : mg "_law_lists" = some (.ref f_law_lists)
  f_law_plain_lists : Addr
  fd_law_plain_lists : FuncData
  F_law_plain_lists : Fun K "_law_plain_lists" "_law_plain_lists" s_law_plain_lists f_law_plain_lists fd_law_plain_lists
  b_law_plain_lists : Binds K fd_law_plain_lists ["_law_state", "_law_names", "_law_least_here"] []
  g_law_plain_lists : mg "_law_plain_lists" = some (.ref f_law_plain_lists)
  f_law_model : Addr
  fd_law_model : FuncData
  F_law_model : Fun K "_law_model" "_law_model" s_law_model f_law_model fd_law_model
  b_law_model : Binds K fd_law_model ["_law_state", "_law_names"] []
  g_law_model : mg "_law_model" = some (.ref f_law_model)
  f_law_powers : Addr
  fd_law_powers : FuncData
  F_law_powers : Fun K "_law_powers" "_law_powers" s_law_powers f_law_powers fd_law_powers
  b_law_powers : Binds K fd_law_powers ["_law_prime", "_law_figure1", "_law_many"] []
  g_law_powers : mg "_law_powers" = some (.ref f_law_powers)
  f_law_scheme : Addr
  fd_law_scheme : FuncData
  F_law_scheme : Fun K "_law_scheme" "_law_scheme" s_law_scheme f_law_scheme fd_law_scheme
  b_law_scheme : Binds K fd_law_scheme ["_law_state", "_law_model_here"] []
  g_law_scheme : mg "_law_scheme" = some (.ref f_law_scheme)
  f_law_dealt : Addr
  fd_law_dealt : FuncData
  F_law_dealt : Fun K "_law_dealt" "_law_dealt" s_law_dealt f_law_dealt fd_law_dealt
  b_law_dealt : Binds K fd_law_dealt ["_law_model_here", "_law_dealt_here"] []
  g_law_dealt : mg "_law_dealt" = some (.ref f_law_dealt)
  f_law_is_number : Addr
  fd_law_is_number : FuncData
  F_law_is_number : Fun K "_law_is_number" "_law_is_number" s_law_is_number f_law_is_number fd_law_is_number
  b_law_is_number : Binds K fd_law_is_number ["_law_prime", "_law_value"] []
  g_law_is_number : mg "_law_is_number" = some (.ref f_law_is_number)
  f_law_due : Addr
  fd_law_due : FuncData
  F_law_due : Fun K "_law_due" "_law_due" s_law_due f_law_due fd_law_due
  b_law_due : Binds K fd_law_due ["_law_model_here", "_law_hidden", "_law_free"] []
  g_law_due : mg "_law_due" = some (.ref f_law_due)
  f_law_told : Addr
  fd_law_told : FuncData
  F_law_told : Fun K "_law_told" "_law_told" s_law_told f_law_told fd_law_told
  b_law_told : Binds K fd_law_told ["_law_way", "_law_desk", "_law_hidden", "_law_free"] []
  g_law_told : mg "_law_told" = some (.ref f_law_told)
  f_law : Addr
  fd_law : FuncData
  F_law : Fun K "law" "law" s_law f_law fd_law
  b_law : Binds K fd_law ["_law_script"] []
  g_law : mg "law" = some (.ref f_law)
  t_LETTERS : Tok
  c_LETTERS : mg "LETTERS" = some (.str "abcdefghijklmnopqrstuvwxyz" t_LETTERS)
  t_DIGITS : Tok
  c_DIGITS : mg "DIGITS" = some (.str "0123456789" t_DIGITS)
  t_LONGEST_NAME : Tok
  c_LONGEST_NAME : mg "LONGEST_NAME" = some (.int 6 t_LONGEST_NAME)
  t_MOST_PERSONS : Tok
  c_MOST_PERSONS : mg "MOST_PERSONS" = some (.int 5 t_MOST_PERSONS)
  t_MOST_WIDTH : Tok
  c_MOST_WIDTH : mg "MOST_WIDTH" = some (.int 40 t_MOST_WIDTH)
  t_MOST_ROWS : Tok
  c_MOST_ROWS : mg "MOST_ROWS" = some (.int 16 t_MOST_ROWS)
  n_set : mg "set" = none
  n_len : mg "len" = none
  n_all : mg "all" = none
  n_any : mg "any" = none
  n_abs : mg "abs" = none
  n_list : mg "list" = none
  n_int : mg "int" = none
  n_range : mg "range" = none
  n_isinstance : mg "isinstance" = none
  n_tuple : mg "tuple" = none
  n_sorted : mg "sorted" = none
  n_enumerate : mg "enumerate" = none
  n_zip : mg "zip" = none
  n_sum : mg "sum" = none
  n_max : mg "max" = none
  n_bool : mg "bool" = none
  kb_deal_numbers_secret_scheme : KBinds K fd_deal ["scheme", "secret", "numbers"] ["numbers", "secret", "scheme"] (fun us ws => match us, ws with | [], [x0, x1, x2] => [x2, x1, x0] | _, _ => List.replicate 4 Value.none) (fun us ws => match us, ws with | [], [x0, x1, x2] => [x2, x1, x0] | _, _ => List.replicate 4 V.non)
  C_BadName : Addr
  g_BadName : mg "BadName" = some (.ref C_BadName)
  er_BadName : ErrT K C_BadName
  iC_BadName : PySem.W.findIn K (.ref C_BadName) "__init__" = some (some (.ref f_BadName__init_))
  tI_BadName : PySem.W.typeIn K (.ref f_BadName__init_) = some (.type "function")
  nf_BadName : PySem.W.findIn K (.ref C_BadName) "name" = some none
  C_DuplicateName : Addr
  g_DuplicateName : mg "DuplicateName" = some (.ref C_DuplicateName)
  er_DuplicateName : ErrT K C_DuplicateName
  iC_DuplicateName : PySem.W.findIn K (.ref C_DuplicateName) "__init__" = some (some (.ref f_DuplicateName__init_))
  tI_DuplicateName : PySem.W.typeIn K (.ref f_DuplicateName__init_) = some (.type "function")
  nf_DuplicateName : PySem.W.findIn K (.ref C_DuplicateName) "name" = some none
  C_UnknownName : Addr
  g_UnknownName : mg "UnknownName" = some (.ref C_UnknownName)
  er_UnknownName : ErrT K C_UnknownName
  iC_UnknownName : PySem.W.findIn K (.ref C_UnknownName) "__init__" = some (some (.ref f_UnknownName__init_))
  tI_UnknownName : PySem.W.typeIn K (.ref f_UnknownName__init_) = some (.type "function")
  nf_UnknownName : PySem.W.findIn K (.ref C_UnknownName) "name" = some none
  C_BadCount : Addr
  g_BadCount : mg "BadCount" = some (.ref C_BadCount)
  er_BadCount : ErrT K C_BadCount
  iC_BadCount : PySem.W.findIn K (.ref C_BadCount) "__init__" = some (some (.ref f_BadCount__init_))
  tI_BadCount : PySem.W.typeIn K (.ref f_BadCount__init_) = some (.type "function")
  nf_BadCount : PySem.W.findIn K (.ref C_BadCount) "count" = some none
  C_BadPrime : Addr
  g_BadPrime : mg "BadPrime" = some (.ref C_BadPrime)
  er_BadPrime : ErrT K C_BadPrime
  iC_BadPrime : PySem.W.findIn K (.ref C_BadPrime) "__init__" = some (some (.ref f_BadPrime__init_))
  tI_BadPrime : PySem.W.typeIn K (.ref f_BadPrime__init_) = some (.type "function")
  nf_BadPrime : PySem.W.findIn K (.ref C_BadPrime) "number" = some none
  C_BadNumber : Addr
  g_BadNumber : mg "BadNumber" = some (.ref C_BadNumber)
  er_BadNumber : ErrT K C_BadNumber
  iC_BadNumber : PySem.W.findIn K (.ref C_BadNumber) "__init__" = some (some (.ref f_BadNumber__init_))
  tI_BadNumber : PySem.W.typeIn K (.ref f_BadNumber__init_) = some (.type "function")
  nf_BadNumber : PySem.W.findIn K (.ref C_BadNumber) "value" = some none
  C_BadRow : Addr
  g_BadRow : mg "BadRow" = some (.ref C_BadRow)
  er_BadRow : ErrT K C_BadRow
  iC_BadRow : PySem.W.findIn K (.ref C_BadRow) "__init__" = some (some (.ref f_BadRow__init_))
  tI_BadRow : PySem.W.typeIn K (.ref f_BadRow__init_) = some (.type "function")
  nf_BadRow : PySem.W.findIn K (.ref C_BadRow) "value" = some none
  ex_BadName_BadName : PySem.W.exmOne K (.ref C_BadName) (.ref C_BadName) = some true
  ex_BadName_DuplicateName : PySem.W.exmOne K (.ref C_BadName) (.ref C_DuplicateName) = some false
  ex_BadName_UnknownName : PySem.W.exmOne K (.ref C_BadName) (.ref C_UnknownName) = some false
  ex_BadName_BadCount : PySem.W.exmOne K (.ref C_BadName) (.ref C_BadCount) = some false
  ex_BadName_BadPrime : PySem.W.exmOne K (.ref C_BadName) (.ref C_BadPrime) = some false
  ex_BadName_BadNumber : PySem.W.exmOne K (.ref C_BadName) (.ref C_BadNumber) = some false
  ex_BadName_BadRow : PySem.W.exmOne K (.ref C_BadName) (.ref C_BadRow) = some false
  ex_DuplicateName_BadName : PySem.W.exmOne K (.ref C_DuplicateName) (.ref C_BadName) = some false
  ex_DuplicateName_DuplicateName : PySem.W.exmOne K (.ref C_DuplicateName) (.ref C_DuplicateName) = some true
  ex_DuplicateName_UnknownName : PySem.W.exmOne K (.ref C_DuplicateName) (.ref C_UnknownName) = some false
  ex_DuplicateName_BadCount : PySem.W.exmOne K (.ref C_DuplicateName) (.ref C_BadCount) = some false
  ex_DuplicateName_BadPrime : PySem.W.exmOne K (.ref C_DuplicateName) (.ref C_BadPrime) = some false
  ex_DuplicateName_BadNumber : PySem.W.exmOne K (.ref C_DuplicateName) (.ref C_BadNumber) = some false
  ex_DuplicateName_BadRow : PySem.W.exmOne K (.ref C_DuplicateName) (.ref C_BadRow) = some false
  ex_UnknownName_BadName : PySem.W.exmOne K (.ref C_UnknownName) (.ref C_BadName) = some false
  ex_UnknownName_DuplicateName : PySem.W.exmOne K (.ref C_UnknownName) (.ref C_DuplicateName) = some false
  ex_UnknownName_UnknownName : PySem.W.exmOne K (.ref C_UnknownName) (.ref C_UnknownName) = some true
  ex_UnknownName_BadCount : PySem.W.exmOne K (.ref C_UnknownName) (.ref C_BadCount) = some false
  ex_UnknownName_BadPrime : PySem.W.exmOne K (.ref C_UnknownName) (.ref C_BadPrime) = some false
  ex_UnknownName_BadNumber : PySem.W.exmOne K (.ref C_UnknownName) (.ref C_BadNumber) = some false
  ex_UnknownName_BadRow : PySem.W.exmOne K (.ref C_UnknownName) (.ref C_BadRow) = some false
  ex_BadCount_BadName : PySem.W.exmOne K (.ref C_BadCount) (.ref C_BadName) = some false
  ex_BadCount_DuplicateName : PySem.W.exmOne K (.ref C_BadCount) (.ref C_DuplicateName) = some false
  ex_BadCount_UnknownName : PySem.W.exmOne K (.ref C_BadCount) (.ref C_UnknownName) = some false
  ex_BadCount_BadCount : PySem.W.exmOne K (.ref C_BadCount) (.ref C_BadCount) = some true
  ex_BadCount_BadPrime : PySem.W.exmOne K (.ref C_BadCount) (.ref C_BadPrime) = some false
  ex_BadCount_BadNumber : PySem.W.exmOne K (.ref C_BadCount) (.ref C_BadNumber) = some false
  ex_BadCount_BadRow : PySem.W.exmOne K (.ref C_BadCount) (.ref C_BadRow) = some false
  ex_BadPrime_BadName : PySem.W.exmOne K (.ref C_BadPrime) (.ref C_BadName) = some false
  ex_BadPrime_DuplicateName : PySem.W.exmOne K (.ref C_BadPrime) (.ref C_DuplicateName) = some false
  ex_BadPrime_UnknownName : PySem.W.exmOne K (.ref C_BadPrime) (.ref C_UnknownName) = some false
  ex_BadPrime_BadCount : PySem.W.exmOne K (.ref C_BadPrime) (.ref C_BadCount) = some false
  ex_BadPrime_BadPrime : PySem.W.exmOne K (.ref C_BadPrime) (.ref C_BadPrime) = some true
  ex_BadPrime_BadNumber : PySem.W.exmOne K (.ref C_BadPrime) (.ref C_BadNumber) = some false
  ex_BadPrime_BadRow : PySem.W.exmOne K (.ref C_BadPrime) (.ref C_BadRow) = some false
  ex_BadNumber_BadName : PySem.W.exmOne K (.ref C_BadNumber) (.ref C_BadName) = some false
  ex_BadNumber_DuplicateName : PySem.W.exmOne K (.ref C_BadNumber) (.ref C_DuplicateName) = some false
  ex_BadNumber_UnknownName : PySem.W.exmOne K (.ref C_BadNumber) (.ref C_UnknownName) = some false
  ex_BadNumber_BadCount : PySem.W.exmOne K (.ref C_BadNumber) (.ref C_BadCount) = some false
  ex_BadNumber_BadPrime : PySem.W.exmOne K (.ref C_BadNumber) (.ref C_BadPrime) = some false
  ex_BadNumber_BadNumber : PySem.W.exmOne K (.ref C_BadNumber) (.ref C_BadNumber) = some true
  ex_BadNumber_BadRow : PySem.W.exmOne K (.ref C_BadNumber) (.ref C_BadRow) = some false
  ex_BadRow_BadName : PySem.W.exmOne K (.ref C_BadRow) (.ref C_BadName) = some false
  ex_BadRow_DuplicateName : PySem.W.exmOne K (.ref C_BadRow) (.ref C_DuplicateName) = some false
  ex_BadRow_UnknownName : PySem.W.exmOne K (.ref C_BadRow) (.ref C_UnknownName) = some false
  ex_BadRow_BadCount : PySem.W.exmOne K (.ref C_BadRow) (.ref C_BadCount) = some false
  ex_BadRow_BadPrime : PySem.W.exmOne K (.ref C_BadRow) (.ref C_BadPrime) = some false
  ex_BadRow_BadNumber : PySem.W.exmOne K (.ref C_BadRow) (.ref C_BadNumber) = some false
  ex_BadRow_BadRow : PySem.W.exmOne K (.ref C_BadRow) (.ref C_BadRow) = some true
  C_Scheme : Addr
  g_Scheme : mg "Scheme" = some (.ref C_Scheme)
  cl_Scheme : Cls K C_Scheme
  mk_Scheme : Mk K C_Scheme f_Scheme__init_
  na_prime : NoAttr K C_Scheme "_prime"
  na_width : NoAttr K C_Scheme "_width"
  na_persons : NoAttr K C_Scheme "_persons"
  na_rows : NoAttr K C_Scheme "_rows"
  p_prime : Addr
  pp_prime : PropOf K C_Scheme "prime" p_prime f_Scheme_prime
  p_width : Addr
  pp_width : PropOf K C_Scheme "width" p_width f_Scheme_width
  p_persons : Addr
  pp_persons : PropOf K C_Scheme "persons" p_persons f_Scheme_persons
  me_rows : Meth K C_Scheme "rows" f_Scheme_rows
  a_PRIMES : Addr
  g_PRIMES : mg "PRIMES" = some (.ref a_PRIMES)
  t_PRIMES : ∀ H : Hp, SqT K H a_PRIMES [.int 2, .int 3, .int 5, .int 7, .int 11]

end P

set_option Elab.async false
set_option linter.all false
set_option maxRecDepth 100000
set_option maxHeartbeats 4000000
namespace P
open PySem PySem.Spec PyProof.Rows L2 OS
/-! short ways: "rd" opens a reading as far as equations go; "sep" finds what stands apart from the state; "sq" a list that is read; "nx" two heaps -/
local macro_rules | `(tactic| walk_at "sep") => `(tactic| first | assumption | (refine (by assumption : Nx _ _ _) _ _ ?_; walk_at "sep"))
local macro_rules | `(tactic| walk_at "sq") => `(tactic| first | assumption | exact .inl (.inl (by assumption)) | exact Sep.sq (by walk_at "sep") | exact Sep.st (by walk_at "sep") | exact .inl (.inl upd_same))
local macro_rules | `(tactic| walk_at "rd") => `(tactic| repeat (first
  | refine And.intro rfl ?_
  | apply Exists.intro
  | refine And.intro (by assumption) ?_
  | refine And.intro (DrawOk.mk (by omega) (by omega) (by omega)) ?_
  | refine And.intro at0 ?_
  | refine And.intro ⟨_, rfl⟩ ?_
  | refine And.intro (by walk_at "sq") ?_
  | refine And.intro (Or.inl (by walk_at "sq")) ?_
  | refine And.intro (Or.inr (by walk_at "sq")) ?_
  | refine And.intro (by omega) ?_))

section
variable {P : Program} {w : World} {K : PySem.W.Frag} {mg : Str → Option Value} {base : Heap}
theorem tNil_i {σ : L2.St} {H : Hp} {Q : List V → Hp → Prop} (h : Q [] H) : tNil σ H Q := h
theorem ok_law_start (T : Txt K mg) : FnOk P w K mg base CX0 1 T.f_law_start T.fd_law_start ["_law_script"] (spStartU K) := by
  refine T.F_law_start.ok sc_law_start (fun vs H Q E h => ?_) (fun cdv A outer s H vs Q E hr h => ?_)
  · obtain ⟨a, ns, rfl, _⟩ := h
    rfl
  · obtain ⟨a, ns, rfl, hS, hn, q⟩ := h
    refine ⟨_, (pss_one (ps_ret (pe_lstO (pa_cons (pe_lc (own := [("_law_cell", 1)]) (g := gName 1) (tt := tYes) rfl sc_law_start.nd (pi_list (pv 0)) (blkOk_by (own := [("_law_cell", 1)]) (N := N_law_start) (sc := defScope s_law_start) (by decide +kernel)) (fun _ _ _ _ _ => (pg_name (i := 1) sc_law_start.nd rfl (Or.inl rfl))) (fun _ _ _ _ _ => pts_nil) (fun _ _ _ _ _ => (pe_callTy (T := "int") call_int1 (by rfl) T.n_int (by decide +kernel) (pa_cons (pv 1) pa_nil)))) (pa_cons pe_int (pa_cons pe_int pa_nil)))))), ?_⟩
    walk_at "rd"
    refine ⟨⟨_, hS⟩, fun D hD => ?_⟩
    refine lc_fn (walk_list (xs := ns.map V.int)) (xs := ns) (by simp) (by simp; omega) (fun _ => true) V.int hD (fun H1 s => s.seq hS) ?_ ?_
    · intro i z x H1 H2 Qk Qn hz sm hy hk _
      obtain ⟨rfl, hx⟩ := hy
      have ex : x = V.int z := by
        rw [List.getElem?_map, hz] at hx
        exact (Option.some.inj hx).symm
      subst ex
      walk_at "rd"
      refine tNil_i (.inl ⟨_, rfl, ?_⟩)
      exact hk rfl _ (Same.refl _)
    · intro H1 sm hD1
      have hfl : ns.filter (fun _ => true) = ns := List.filter_eq_self.mpr fun _ _ => rfl
      rw [hfl] at hD1
      walk_at "rd"
      refine ⟨by show 3 ≤ sizeLine; decide, fun p H2 np s2 hp => ?_⟩
      exact q p _ (sm.trans s2) (sm.free np) ⟨D, ns, 0, hp, s2 _ _ hD1, Nat.le_refl _, by omega⟩
theorem ok_law_take (T : Txt K mg) : FnOk P w K mg base CX0 1 T.f_law_take T.fd_law_take ["_law_state", "_law_limit"] spTake := by
  refine T.F_law_take.ok sc_law_take (fun vs H Q E h => ?_) (fun cdv A outer s H vs Q E hr h => ?_)
  · obtain ⟨p, n, size, rfl, _⟩ := h
    rfl
  · obtain ⟨p, n, size, rfl, ⟨c, zs, k, S⟩, ⟨hn, h0, h1⟩, q⟩ := h
    refine ⟨_, (pss_cons (ps_set (i := 2) sc_law_take.nd rfl (Or.inl rfl) (pe_ix ix_list (pv 0) pe_int (fun _ _ => rfl)))
    (pss_cons (ps_asg (pe_op op_add (pe_ix ix_list (pv 0) pe_int (fun _ _ => rfl)) pe_int) (pg_sub (pv 0) pe_int set_list))
    (pss_cons (ps_set (i := 3) sc_law_take.nd rfl (Or.inl rfl) (pe_op op_mod (pe_callTy (T := "int") call_int1 (by rfl) T.n_int (by decide +kernel) (pa_cons (pe_ix ix_list (pv 0) pe_int (fun _ _ => rfl)) pa_nil)) (pe_callB (id := "max") (call_max2 rfl) (by rfl) T.n_max (by decide +kernel) (pa_cons pe_int (pa_cons (pe_callB (id := "len") call_len_seq (by rfl) T.n_len PySem.boot_len (pa_cons (pv 2) pa_nil)) pa_nil)))))
    (pss_cons (ps_set (i := 4) sc_law_take.nd rfl (Or.inl rfl) pe_int)
    (pss_stop (ps_if (pt_truth (pv 2) (fun _ => rfl))
      (pss_one (ps_set (i := 4) sc_law_take.nd rfl (Or.inl rfl) (pe_ix ix_list (pv 2) (pv 3) (fun _ _ => rfl)))) pss_nil)
    (pss_cons (ps_if (pt_cmpR op_ge (pe_callB (id := "abs") call_abs (by rfl) T.n_abs (by decide +kernel) (pa_cons (pv 4) pa_nil)) (pe_op op_pow pe_int pe_int) (nomark _))
      (pss_cons (ps_asg (pe_op op_fdivW (pe_callB (id := "abs") call_abs (by rfl) T.n_abs (by decide +kernel) (pa_cons (pv 4) pa_nil)) (pv 1)) (pg_sub (pv 2) (pv 3) set_list))
    (pss_one (ps_ret (pe_op op_mod (pe_callB (id := "abs") call_abs (by rfl) T.n_abs (by decide +kernel) (pa_cons (pv 4) pa_nil)) (pv 1))))) pss_nil)
    (pss_cons (ps_asg (pe_op op_add (pe_ix ix_list (pv 0) pe_int (fun _ _ => rfl)) pe_int) (pg_sub (pv 0) pe_int set_list))
    (pss_cons (ps_set (i := 5) sc_law_take.nd rfl (Or.inl rfl) (pe_op op_mod (pe_op op_pow (pe_callTy (T := "int") call_int1 (by rfl) T.n_int (by decide +kernel) (pa_cons (pe_op op_add (pe_op op_add (pe_op op_mul (pe_op op_mod (pe_callTy (T := "int") call_int1 (by rfl) T.n_int (by decide +kernel) (pa_cons (pv 4) pa_nil)) pe_int) pe_int) (pe_op op_mul (pe_ix ix_list (pv 0) pe_int (fun _ _ => rfl)) pe_int)) pe_int) pa_nil)) pe_int) pe_int))
    (pss_cons (ps_set (i := 5) sc_law_take.nd rfl (Or.inl rfl) (pe_op op_mod (pe_op op_pow (pe_callTy (T := "int") call_int1 (by rfl) T.n_int (by decide +kernel) (pa_cons (pe_op op_add (pe_op op_add (pe_op op_mul (pv 5) pe_int) (pe_op op_mul (pe_ix ix_list (pv 0) pe_int (fun _ _ => rfl)) pe_int)) pe_int) pa_nil)) pe_int) pe_int))
    (pss_one (ps_ret (pe_op op_mod (pe_op op_fdivW (pv 5) pe_int) (pv 1))))))))))))), ?_⟩
    have hq : SqL K H p [V.ref c, V.int (k : Int), V.int (n : Int)] := SqL.of S.hp
    have a0 : atI [V.ref c, V.int (k : Int), V.int (n : Int)] 0 = some (.ref c) := rfl
    have a2 : atI [V.ref c, V.int (k : Int), V.int (n : Int)] 2 = some (.int (n : Int)) := rfl
    walk_at "rd"
    refine ⟨S.hp, rfl, ?_⟩
    obtain ⟨S1, x1⟩ := S.put_p (k' := k) (n' := n + 1) (Nat.le_succ_of_le S.kn)
    have hcast : ((n : Int) + 1) = ((n + 1 : Nat) : Int) := by omega
    change StT (upd H p (.lst ([V.ref c, V.int (k : Int), V.int (n : Int)].set (Int.toNat 2) (V.int ((n + 1 : Nat) : Int))))) p c zs k (n + 1) at S1
    change Nx p H (upd H p (.lst ([V.ref c, V.int (k : Int), V.int (n : Int)].set (Int.toNat 2) (V.int ((n + 1 : Nat) : Int))))) at x1
    rw [← hcast] at S1 x1
    dsimp only
    generalize upd H p (.lst ([V.ref c, V.int (k : Int), V.int (n : Int)].set (Int.toNat 2) (V.int ((n : Int) + 1)))) = H1 at S1 x1 ⊢
    have hkn := S.kn
    clear hq a0 a2 S
    have hq : SqL K H1 p [V.ref c, V.int (k : Int), V.int ((n + 1 : Nat) : Int)] := SqL.of S1.hp
    have a0 : atI [V.ref c, V.int (k : Int), V.int ((n + 1 : Nat) : Int)] 0 = some (.ref c) := rfl
    have a1 : atI [V.ref c, V.int (k : Int), V.int ((n + 1 : Nat) : Int)] 1 = some (.int (k : Int)) := rfl
    have a2 : atI [V.ref c, V.int (k : Int), V.int ((n + 1 : Nat) : Int)] 2 = some (.int ((n + 1 : Nat) : Int)) := rfl
    have hcq : SqL K H1 c (zs.map V.int) := SqL.of S1.hc
    have hzl : (zs.map V.int).length = zs.length := List.length_map _
    walk_at "rd"
    refine tNil_i (.inl ⟨_, rfl, ?_⟩)
    have hmx : (0 : Int) < (if (((zs.map V.int).length : Nat) : Int) > 1 then (((zs.map V.int).length : Nat) : Int) else 1) := by
      split <;> omega
    have h0k : (0 : Int) ≤ (k : Int) := by omega
    have hat : ∃ j : Nat, (k : Int) % (if (((zs.map V.int).length : Nat) : Int) > 1 then (((zs.map V.int).length : Nat) : Int) else 1) = (j : Int) ∧ (zs ≠ [] → j < zs.length) := by
      have e1 := Int.emod_nonneg (k : Int) (show (if (((zs.map V.int).length : Nat) : Int) > 1 then (((zs.map V.int).length : Nat) : Int) else 1) ≠ 0 by omega)
      have e2 := Int.emod_lt_of_pos (k : Int) hmx
      obtain ⟨j, hj⟩ := Int.eq_ofNat_of_zero_le e1
      refine ⟨j, hj, fun hn => ?_⟩
      have h1 : 1 ≤ zs.length := List.length_pos_iff.mpr hn
      rw [hj] at e2
      split at e2 <;> omega
    walk_at "rd"
    obtain ⟨j, hj, hjl⟩ := hat
    dsimp only
    rw [hj]
    walk_at "rd"
    refine Stop.cut (fun σ H' => ∃ z : Int, σ = [some (.ref p), some (.int size), some (.ref c), some (.int (j : Int)), some (.int z), none] ∧ H1 = H' ∧ (zs ≠ [] ∨ z = 0)) (fun Qz hz => ?_) ?_
    · refine ⟨_, rfl, !(zs.map V.int).isEmpty, .inl ⟨_, hcq, rfl⟩, ?_⟩
      refine ite2 (fun e => ?_) (fun e => ?_)
      · have hne : zs ≠ [] := fun z => by
          rw [z] at e
          cases e
        have hcat : atI (zs.map V.int) (j : Int) = some (.int (zs[j]'(hjl hne))) := atI_nat (by rw [List.getElem?_map, List.getElem?_eq_getElem (hjl hne)]; rfl)
        walk_at "rd"
        exact hz _ _ ⟨_, rfl, rfl, .inl hne⟩
      · exact hz _ _ ⟨0, rfl, rfl, .inr rfl⟩
    · rintro _ _ ⟨z, rfl, rfl, hzz⟩
      walk_at "rd"
      refine ⟨⟨by decide, by decide, by decide⟩, ?_⟩
      walk_at "rd"
      refine ite2 (fun e => ?_) (fun e => ?_)
      · have hne : zs ≠ [] := hzz.elim id fun z0 => by
          have e2 := of_decide_eq_true e
          rw [z0] at e2
          exact absurd e2 (by decide)
        have hix : ixN (zs.map V.int).length (j : Int) = some j := by
          unfold ixN
          have := hjl hne
          rw [if_pos (by omega), if_pos (by omega)]
          rfl
        walk_at "rd"
        refine ⟨wide_div h0 (b := 64) (by omega) (by decide) (by decide), ?_⟩
        walk_at "rd"
        refine ⟨S1.hc, hix, ?_⟩
        have hl' : (zs.set j ((if z < 0 then -z else z) / size)).length ≤ 100 := by
          rw [List.length_set]
          exact S1.lz
        obtain ⟨S2, x2⟩ := S1.put_c hl'
        rw [List.map_set] at S2 x2
        walk_at "rd"
        exact q _ _ (Int.emod_nonneg _ (by omega)) (Int.emod_lt_of_pos _ h0) S2.mk' (x1.trans x2)
      · walk_at "rd"
        refine ⟨S1.hp, rfl, ?_⟩
        obtain ⟨S2, x2⟩ := S1.put_p (k' := k + 1) (n' := n + 1) (by omega)
        have hcast1 : ((k : Int) + 1) = ((k + 1 : Nat) : Int) := by omega
        change StT (upd H1 p (.lst ([V.ref c, V.int (k : Int), V.int ((n + 1 : Nat) : Int)].set (Int.toNat 1) (V.int ((k + 1 : Nat) : Int))))) p c zs (k + 1) (n + 1) at S2
        change Nx p H1 (upd H1 p (.lst ([V.ref c, V.int (k : Int), V.int ((n + 1 : Nat) : Int)].set (Int.toNat 1) (V.int ((k + 1 : Nat) : Int))))) at x2
        rw [← hcast1] at S2 x2
        dsimp only
        generalize upd H1 p (.lst ([V.ref c, V.int (k : Int), V.int ((n + 1 : Nat) : Int)].set (Int.toNat 1) (V.int ((k : Int) + 1)))) = H2 at S2 x2 ⊢
        have hq2 : SqL K H2 p [V.ref c, V.int ((k + 1 : Nat) : Int), V.int ((n + 1 : Nat) : Int)] := SqL.of S2.hp
        have a22 : atI [V.ref c, V.int ((k + 1 : Nat) : Int), V.int ((n + 1 : Nat) : Int)] 2 = some (.int ((n + 1 : Nat) : Int)) := rfl
        have hc0 := Int.emod_nonneg z (show (2147483647 : Int) ≠ 0 by decide)
        have hc1 := Int.emod_lt_of_pos z (show (0 : Int) < 2147483647 by decide)
        walk_at "rd"
        refine tNil_i (.inl ⟨_, rfl, ?_⟩)
        walk_at "rd"
        refine ⟨.inr ⟨by decide, by decide⟩, ?_⟩
        walk_at "rd"
        refine ⟨.inr ⟨by decide, by decide⟩, ?_⟩
        walk_at "rd"
        refine tNil_i (.inl ⟨_, rfl, ?_⟩)
        walk_at "rd"
        refine ⟨⟨by decide, by decide, ?_⟩, ?_⟩
        · show (z % 2147483647 * 48271 + ((n + 1 : Nat) : Int) * 69621 + 11).natAbs < 18446744073709551616
          generalize z % 2147483647 = c1 at hc0 hc1 ⊢
          omega
        walk_at "rd"
        have hd : 0 ≤ (z % 2147483647 * 48271 + (((n + 1 : Nat)) : Int) * 69621 + 11) ^ Int.toNat 5 % 2147483647 ∧ (z % 2147483647 * 48271 + (((n + 1 : Nat)) : Int) * 69621 + 11) ^ Int.toNat 5 % 2147483647 < 2147483647 := pow5 _
        walk_at "rd"
        refine ⟨.inr ⟨by decide, by decide⟩, ?_⟩
        walk_at "rd"
        refine ⟨.inr ⟨by decide, by decide⟩, ?_⟩
        walk_at "rd"
        refine tNil_i (.inl ⟨_, rfl, ?_⟩)
        walk_at "rd"
        refine ⟨⟨by decide, by decide, ?_⟩, ?_⟩
        · show ((z % 2147483647 * 48271 + ((n + 1 : Nat) : Int) * 69621 + 11) ^ Int.toNat 5 % 2147483647 * 16807 + ((n + 1 : Nat) : Int) * 40692 + 7).natAbs < 18446744073709551616
          generalize (z % 2147483647 * 48271 + ((n + 1 : Nat) : Int) * 69621 + 11) ^ Int.toNat 5 % 2147483647 = d1 at hd ⊢
          omega
        walk_at "rd"
        refine ⟨wide_div (by decide) (b := 64) (by decide) (by decide) (by decide), ?_⟩
        walk_at "rd"
        exact q _ _ (Int.emod_nonneg _ (by omega)) (Int.emod_lt_of_pos _ h0) S2.mk' (x1.trans x2)

theorem ok_BadName__init_ (T : Txt K mg) : FnOk P w K mg base CX0 1 T.f_BadName__init_ T.fd_BadName__init_ ["self", "name"] (spErr T.C_BadName "name") := by
  refine T.F_BadName__init_.ok sc_BadName__init_ (fun vs H Q E h => ?_) (fun cdv A outer s H vs Q E hr h => ?_)
  · obtain ⟨a, v, rfl, _⟩ := h
    rfl
  · obtain ⟨a, v, rfl, ha, q⟩ := h
    refine ⟨_, (pss_one (ps_ost (pv 0) (pv 1))), ?_⟩
    walk_at "rd"
    refine ⟨T.er_BadName.ox, T.nf_BadName, .inl ⟨ha, fun dx h1 h2 => q dx h1 h2⟩⟩
theorem ok_DuplicateName__init_ (T : Txt K mg) : FnOk P w K mg base CX0 1 T.f_DuplicateName__init_ T.fd_DuplicateName__init_ ["self", "name"] (spErr T.C_DuplicateName "name") := by
  refine T.F_DuplicateName__init_.ok sc_DuplicateName__init_ (fun vs H Q E h => ?_) (fun cdv A outer s H vs Q E hr h => ?_)
  · obtain ⟨a, v, rfl, _⟩ := h
    rfl
  · obtain ⟨a, v, rfl, ha, q⟩ := h
    refine ⟨_, (pss_one (ps_ost (pv 0) (pv 1))), ?_⟩
    walk_at "rd"
    refine ⟨T.er_DuplicateName.ox, T.nf_DuplicateName, .inl ⟨ha, fun dx h1 h2 => q dx h1 h2⟩⟩
theorem ok_UnknownName__init_ (T : Txt K mg) : FnOk P w K mg base CX0 1 T.f_UnknownName__init_ T.fd_UnknownName__init_ ["self", "name"] (spErr T.C_UnknownName "name") := by
  refine T.F_UnknownName__init_.ok sc_UnknownName__init_ (fun vs H Q E h => ?_) (fun cdv A outer s H vs Q E hr h => ?_)
  · obtain ⟨a, v, rfl, _⟩ := h
    rfl
  · obtain ⟨a, v, rfl, ha, q⟩ := h
    refine ⟨_, (pss_one (ps_ost (pv 0) (pv 1))), ?_⟩
    walk_at "rd"
    refine ⟨T.er_UnknownName.ox, T.nf_UnknownName, .inl ⟨ha, fun dx h1 h2 => q dx h1 h2⟩⟩
theorem ok_BadCount__init_ (T : Txt K mg) : FnOk P w K mg base CX0 1 T.f_BadCount__init_ T.fd_BadCount__init_ ["self", "count"] (spErr T.C_BadCount "count") := by
  refine T.F_BadCount__init_.ok sc_BadCount__init_ (fun vs H Q E h => ?_) (fun cdv A outer s H vs Q E hr h => ?_)
  · obtain ⟨a, v, rfl, _⟩ := h
    rfl
  · obtain ⟨a, v, rfl, ha, q⟩ := h
    refine ⟨_, (pss_one (ps_ost (pv 0) (pv 1))), ?_⟩
    walk_at "rd"
    refine ⟨T.er_BadCount.ox, T.nf_BadCount, .inl ⟨ha, fun dx h1 h2 => q dx h1 h2⟩⟩
theorem ok_BadPrime__init_ (T : Txt K mg) : FnOk P w K mg base CX0 1 T.f_BadPrime__init_ T.fd_BadPrime__init_ ["self", "number"] (spErr T.C_BadPrime "number") := by
  refine T.F_BadPrime__init_.ok sc_BadPrime__init_ (fun vs H Q E h => ?_) (fun cdv A outer s H vs Q E hr h => ?_)
  · obtain ⟨a, v, rfl, _⟩ := h
    rfl
  · obtain ⟨a, v, rfl, ha, q⟩ := h
    refine ⟨_, (pss_one (ps_ost (pv 0) (pv 1))), ?_⟩
    walk_at "rd"
    refine ⟨T.er_BadPrime.ox, T.nf_BadPrime, .inl ⟨ha, fun dx h1 h2 => q dx h1 h2⟩⟩
theorem ok_BadNumber__init_ (T : Txt K mg) : FnOk P w K mg base CX0 1 T.f_BadNumber__init_ T.fd_BadNumber__init_ ["self", "value"] (spErr T.C_BadNumber "value") := by
  refine T.F_BadNumber__init_.ok sc_BadNumber__init_ (fun vs H Q E h => ?_) (fun cdv A outer s H vs Q E hr h => ?_)
  · obtain ⟨a, v, rfl, _⟩ := h
    rfl
  · obtain ⟨a, v, rfl, ha, q⟩ := h
    refine ⟨_, (pss_one (ps_ost (pv 0) (pv 1))), ?_⟩
    walk_at "rd"
    refine ⟨T.er_BadNumber.ox, T.nf_BadNumber, .inl ⟨ha, fun dx h1 h2 => q dx h1 h2⟩⟩
theorem ok_BadRow__init_ (T : Txt K mg) : FnOk P w K mg base CX0 1 T.f_BadRow__init_ T.fd_BadRow__init_ ["self", "value"] (spErr T.C_BadRow "value") := by
  refine T.F_BadRow__init_.ok sc_BadRow__init_ (fun vs H Q E h => ?_) (fun cdv A outer s H vs Q E hr h => ?_)
  · obtain ⟨a, v, rfl, _⟩ := h
    rfl
  · obtain ⟨a, v, rfl, ha, q⟩ := h
    refine ⟨_, (pss_one (ps_ost (pv 0) (pv 1))), ?_⟩
    walk_at "rd"
    refine ⟨T.er_BadRow.ox, T.nf_BadRow, .inl ⟨ha, fun dx h1 h2 => q dx h1 h2⟩⟩

end
end P

set_option Elab.async false
set_option linter.all false
set_option maxRecDepth 100000
set_option maxHeartbeats 4000000
namespace P
open PySem PySem.Spec PyProof.Rows L2 OS
/-! short ways: "rd" opens a reading as far as equations go; "sep" finds what stands apart from the state; "sq" a list that is read; "nx" two heaps -/
local macro_rules | `(tactic| walk_at "sep") => `(tactic| first | assumption | (refine (by assumption : Nx _ _ _) _ _ ?_; walk_at "sep"))
local macro_rules | `(tactic| walk_at "sq") => `(tactic| first | assumption | exact .inl (.inl (by assumption)) | exact Sep.sq (by walk_at "sep") | exact Sep.st (by walk_at "sep") | exact .inl (.inl upd_same))
local macro_rules | `(tactic| walk_at "rd") => `(tactic| repeat (first
  | refine And.intro rfl ?_
  | apply Exists.intro
  | refine And.intro (by assumption) ?_
  | refine And.intro (DrawOk.mk (by omega) (by omega) (by omega)) ?_
  | refine And.intro at0 ?_
  | refine And.intro ⟨_, rfl⟩ ?_
  | refine And.intro (by walk_at "sq") ?_
  | refine And.intro (Or.inl (by walk_at "sq")) ?_
  | refine And.intro (Or.inr (by walk_at "sq")) ?_
  | refine And.intro (by omega) ?_))

section
variable {P : Program} {w : World} {K : PySem.W.Frag} {mg : Str → Option Value} {base : Heap}
theorem filter_any {α : Type} (t : α → Bool) : ∀ l : List α, (!(l.filter t).isEmpty) = l.any t
  | [] => rfl
  | x :: l => by
    by_cases h : t x = true
    · rw [List.filter_cons_of_pos h, List.any_cons, h]
      rfl
    · rw [List.filter_cons_of_neg h, List.any_cons, filter_any t l, (Bool.not_eq_true _).mp h, Bool.false_or]
/-- what a name is -/
def lowS : Str := "abcdefghijklmnopqrstuvwxyz"
def digS : Str := "0123456789"
def okN (l : List Nat) : Bool := decide (1 ≤ l.length) && decide (l.length ≤ 6) && decide (l.headD 0 ∈ lowS.cps.toList) && l.all fun c => decide (c ∈ (lowS ++ digS).cps.toList)
def spName : Sp := fun vs H Q _ => ∃ z : Str, vs = [.str z] ∧ z.length ≤ 100000 ∧ ∀ H', Same H H' → Q (.bl (okN z.cps.toList)) H'
theorem len_list (z : Str) : z.cps.toList.length = z.length := by simp [Str.length]
theorem ok_valid_name (T : Txt K mg) : FnOk P w K mg base CX0 1 T.f_valid_name T.fd_valid_name ["text"] spName := by
  refine T.F_valid_name.ok sc_valid_name (fun vs H Q E h => ?_) (fun cdv A outer s H vs Q E hr h => ?_)
  · obtain ⟨z, rfl, _⟩ := h
    rfl
  · obtain ⟨z, rfl, hz, q⟩ := h
    refine ⟨_, (pss_cons (ps_if (pt_not (pt_chain op_le op_le pe_int (pe_callB (id := "len") call_len_str (by rfl) T.n_len PySem.boot_len (pa_cons (pv 0) pa_nil)) (pe_glob (v := .int 6) rfl T.c_LONGEST_NAME ⟨_, rfl⟩)))
      (pss_one (ps_ret pe_bl)) pss_nil)
    (pss_one (ps_ret (pe_and (pe_cmpR op_in_sign (pe_ix ix_str (pv 0) pe_int (fun _ _ => rfl)) (pe_glob (v := .str "abcdefghijklmnopqrstuvwxyz") rfl T.c_LETTERS ⟨_, rfl⟩) (by rfl)) (pe_one (pe_callB (id := "all") (r := rAll K) (cr_all rfl) (by rfl) T.n_all (by decide +kernel) (pa_cons (pe_lc (own := [("char", 1)]) (g := gName 1) (tt := tYes) rfl sc_valid_name.nd (pi_str (pv 0)) (blkOk_by (own := [("char", 1)]) (N := N_valid_name) (sc := defScope s_valid_name) (by decide +kernel)) (fun _ _ _ _ _ => (pg_name (i := 1) sc_valid_name.nd rfl (Or.inl rfl))) (fun _ _ _ _ _ => pts_nil) (fun _ _ _ _ _ => (pe_cmpR op_in_sign (pv 1) (pe_op op_add_str (pe_glob (v := .str "abcdefghijklmnopqrstuvwxyz") rfl T.c_LETTERS ⟨_, rfl⟩) (pe_glob (v := .str "0123456789") rfl T.c_DIGITS ⟨_, rfl⟩)) (by rfl)))) pa_nil))))))), ?_⟩
    have hzl : z.length ≤ sizeLine := Nat.le_trans hz (by decide)
    have hl := len_list z
    have hz2 : (z.cps.toList.length : Int) = (z.length : Int) := by rw [hl]
    have bad : okN z.cps.toList = false → Q (.bl false) H := fun e => by
      have := q H (Same.refl H)
      rwa [e] at this
    walk_at "rd"
    refine ite2 (fun e1 => ?_) (fun e1 => ?_)
    · have e1' := of_decide_eq_true e1
      walk_at "rd"
      refine ite2 (fun e2 => ?_) (fun e2 => ?_)
      · refine bad ?_
        have e2' : ¬ (z.length ≤ 6) := fun x => by simp [decide_eq_true (show ((z.length : Nat) : Int) ≤ 6 by omega)] at e2
        unfold okN
        rw [hl, decide_eq_false e2', Bool.and_false]
        rfl
      · have e2' : z.length ≤ 6 := by
          apply Classical.byContradiction
          intro x
          exact e2 (by simp; omega)
        obtain ⟨c, cs, hc⟩ : ∃ c cs, z.cps.toList = c :: cs := by
          cases e : z.cps.toList with
          | nil =>
            rw [e] at hl
            simp at hl
            omega
          | cons c cs => exact ⟨c, cs, rfl⟩
        walk_at "rd"
        refine ⟨show atI z.cps.toList 0 = some c by rw [hc]; exact atI_nat (j := 0) rfl, ?_⟩
        walk_at "rd"
        have hN : okN z.cps.toList = (decide (c ∈ lowS.cps.toList) && z.cps.toList.all fun c => decide (c ∈ (lowS ++ digS).cps.toList)) := by
          unfold okN
          rw [hl, decide_eq_true (show 1 ≤ z.length by omega), decide_eq_true e2', Bool.true_and, Bool.true_and, show z.cps.toList.headD 0 = c by rw [hc]; rfl]
        refine ite2 (fun e3 => ?_) (fun e3 => ?_)
        · walk_at "rd"
          intro D hD
          refine lc_all walk_str (xs := z.cps.toList) (by simp) (by show z.length ≤ 100000; exact Nat.le_trans hz (by decide)) (fun c => V.bl (decide (c ∈ (lowS ++ digS).cps.toList))) hD (fun _ _ => trivial) ?_ ?_
          · intro i a x H1 H2 Qk ha sm hy hk
            obtain ⟨rfl, c', hc', rfl⟩ := hy
            have : a = c' := by
              rw [Array.getElem?_toList] at ha
              exact Option.some.inj (ha.symm.trans hc')
            subst this
            walk_at "rd"
            refine ⟨by decide +kernel, ?_⟩
            walk_at "rd"
            exact hk _ (Same.refl _)
          · intro H1 sm hD1
            walk_at "rd"
            refine ⟨show SqL _ H1 D ((z.cps.toList.map fun c => decide (c ∈ (lowS ++ digS).cps.toList)).map V.bl) from .inl (.inl (by rw [List.map_map]; exact hD1)), ?_⟩
            have := q H1 sm
            rw [hN, show decide (c ∈ lowS.cps.toList) = true from e3, Bool.true_and] at this
            rw [List.all_map]
            exact this
        · refine bad ?_
          rw [hN, show decide (c ∈ lowS.cps.toList) = false from (Bool.not_eq_true _).mp e3]
          rfl
    · have e1' : ¬ (1 ≤ z.length) := fun x => e1 (decide_eq_true (by omega))
      walk_at "rd"
      refine iteT ?_
      refine bad ?_
      unfold okN
      rw [hl, decide_eq_false e1']
      rfl

/-- what is wrong with the k-th name -/
def badAt (ps : List Str) (k : Nat) : Option (Str × Str) := if okN (ps.getD k default).cps.toList then (if ps.getD k default ∈ ps.take k then some ("twice", ps.getD k default) else none) else some ("name", ps.getD k default)
/-- the first that is wrong with the first k names -/
def wrongUp (ps : List Str) : Nat → Option (Str × Str)
  | 0 => none
  | k + 1 => match wrongUp ps k with
    | some r => some r
    | none => badAt ps k
theorem wrongUp_stay {ps : List Str} {r : Str × Str} : ∀ {i n : Nat}, wrongUp ps i = some r → i ≤ n → wrongUp ps n = some r := by
  intro i n h hle
  induction n with
  | zero =>
    have : i = 0 := by omega
    subst this
    exact h
  | succ n ih =>
    by_cases q : i ≤ n
    · show (match wrongUp ps n with | some r => some r | none => badAt ps n) = some r
      rw [ih q]
    · have : i = n + 1 := by omega
      subst this
      exact h
/-- what is wrong with the names -/
def wrV (ps : List Str) : List V := if ps.length < 1 ∨ 5 < ps.length then [.str "count", .int (ps.length : Int)] else match wrongUp ps ps.length with
  | none => []
  | some (t, z) => [.str t, .str z]
theorem wrV_count {ps : List Str} (h : ps.length < 1 ∨ 5 < ps.length) : wrV ps = [.str "count", .int (ps.length : Int)] := if_pos h
theorem wrV_some {ps : List Str} {t z : Str} (h : ¬ (ps.length < 1 ∨ 5 < ps.length)) {i : Nat} (hi : i ≤ ps.length) (e : wrongUp ps i = some (t, z)) : wrV ps = [.str t, .str z] := by
  unfold wrV
  rw [if_neg h, wrongUp_stay e hi]
theorem wrV_none {ps : List Str} (h : ¬ (ps.length < 1 ∨ 5 < ps.length)) (e : wrongUp ps ps.length = none) : wrV ps = [] := by
  unfold wrV
  rw [if_neg h, e]
theorem erase_perm {α : Type} : ∀ {l : List α} {k : Nat} (h : k < l.length), (l[k] :: l.eraseIdx k).Perm l
  | [], _, h => absurd h (by simp)
  | x :: l, 0, _ => List.Perm.refl _
  | x :: l, k + 1, h => (List.Perm.swap _ _ _).trans ((erase_perm (l := l) (k := k) (by simpa using h)).cons x)
theorem wrongUp_none {ps : List Str} : ∀ {n : Nat}, wrongUp ps n = none → n ≤ ps.length → (ps.take n).Nodup ∧ ∀ z ∈ ps.take n, okN z.cps.toList = true := by
  intro n
  induction n with
  | zero => intro _ _; simp
  | succ n ih =>
    intro h hn
    have h0 : wrongUp ps n = none := by
      cases e : wrongUp ps n with
      | none => rfl
      | some r =>
        have : wrongUp ps (n + 1) = some r := wrongUp_stay e (Nat.le_succ n)
        rw [h] at this
        cases this
    obtain ⟨h1, h2⟩ := ih h0 (by omega)
    have hgi : ps[n]? = some ps[n] := List.getElem?_eq_getElem hn
    have hgd : ps.getD n default = ps[n] := by rw [List.getD_eq_getElem?_getD, hgi]; rfl
    have hb : badAt ps n = none := by
      have : wrongUp ps (n + 1) = badAt ps n := by
        show (match wrongUp ps n with | some r => some r | none => badAt ps n) = _
        rw [h0]
      rw [← this]
      exact h
    unfold badAt at hb
    rw [hgd] at hb
    have e1 : okN ps[n].cps.toList = true := by
      cases e : okN ps[n].cps.toList with
      | true => rfl
      | false =>
        rw [e] at hb
        cases hb
    rw [if_pos e1] at hb
    have e2 : ps[n] ∉ ps.take n := fun z => by
      rw [if_pos z] at hb
      cases hb
    rw [take_snoc hgi]
    refine ⟨List.nodup_append.mpr ⟨h1, by simp, fun a ha b hb e => ?_⟩, fun z hz => ?_⟩
    · rw [List.mem_singleton] at hb
      subst hb
      subst e
      exact e2 ha
    · rcases List.mem_append.mp hz with hz | hz
      · exact h2 z hz
      · rw [List.mem_singleton.mp hz]
        exact e1
theorem names_nodup {ps : List Str} (h : wrongUp ps ps.length = none) : ps.Nodup := by
  have := (wrongUp_none h (Nat.le_refl _)).1
  rwa [List.take_length] at this
theorem names_ok {ps : List Str} (h : wrongUp ps ps.length = none) : ∀ z ∈ ps, okN z.cps.toList = true := by
  have := (wrongUp_none h (Nat.le_refl _)).2
  rwa [List.take_length] at this
/-- the names in order -/
abbrev srt (ps : List Str) : List Str := ps.mergeSort leS
theorem srt_perm (ps : List Str) : (srt ps).Perm ps := List.mergeSort_perm _ _
theorem srt_len (ps : List Str) : (srt ps).length = ps.length := (srt_perm ps).length_eq
theorem srt_nodup {ps : List Str} (h : ps.Nodup) : (srt ps).Nodup := (srt_perm ps).nodup_iff.mpr h
end
end P

set_option Elab.async false
set_option linter.all false
set_option maxRecDepth 100000
set_option maxHeartbeats 4000000
namespace P
open PySem PySem.Spec PyProof.Rows L2 OS
/-! short ways: "rd" opens a reading as far as equations go; "sep" finds what stands apart from the state; "sq" a list that is read; "nx" two heaps -/
local macro_rules | `(tactic| walk_at "sep") => `(tactic| first | assumption | (refine (by assumption : Nx _ _ _) _ _ ?_; walk_at "sep"))
local macro_rules | `(tactic| walk_at "sq") => `(tactic| first | assumption | exact .inl (.inl (by assumption)) | exact Sep.sq (by walk_at "sep") | exact Sep.st (by walk_at "sep") | exact .inl (.inl upd_same))
local macro_rules | `(tactic| walk_at "rd") => `(tactic| repeat (first
  | refine And.intro rfl ?_
  | apply Exists.intro
  | refine And.intro (by assumption) ?_
  | refine And.intro (DrawOk.mk (by omega) (by omega) (by omega)) ?_
  | refine And.intro at0 ?_
  | refine And.intro ⟨_, rfl⟩ ?_
  | refine And.intro (by walk_at "sq") ?_
  | refine And.intro (Or.inl (by walk_at "sq")) ?_
  | refine And.intro (Or.inr (by walk_at "sq")) ?_
  | refine And.intro (by omega) ?_))

section
variable {P : Program} {w : World} {K : PySem.W.Frag} {mg : Str → Option Value} {base : Heap}
/-- a number of names that is no family's -/
abbrev badLen (ps : List Str) : Prop := ps.length < 1 ∨ 5 < ps.length
/-- checked_persons(persons) -/
def spPersons (T : Txt K mg) : Sp := fun vs H Q E => ∃ (p : Addr) (ps : List Str), vs = [.ref p] ∧ (SqL K H p (ps.map V.str) ∨ SqT K H p (ps.map V.str)) ∧ ps.length ≤ 90000 ∧ (∀ z ∈ ps, z.length ≤ 100000) ∧
  (badLen ps → ∀ H', Same H H' → Flies E T.C_BadCount "count" (.int (ps.length : Int)) H') ∧
  (∀ z H', ¬ badLen ps → wrongUp ps ps.length = some (("name" : Str), z) → Same H H' → Flies E T.C_BadName "name" (.str z) H') ∧
  (∀ z H', ¬ badLen ps → wrongUp ps ps.length = some (("twice" : Str), z) → Same H H' → Flies E T.C_DuplicateName "name" (.str z) H') ∧
  (¬ badLen ps → wrongUp ps ps.length = none → ∀ q H', Same H H' → SqT K H' q ((ps.mergeSort leS).map V.str) → Q (.ref q) H')
theorem ok_checked_persons (T : Txt K mg) : FnOk P w K mg base (L2.CX P w) 3 T.f_checked_persons T.fd_checked_persons ["persons"] (spPersons T) := by
  refine T.F_checked_persons.okX sc_checked_persons (fun vs H Q E h => ?_) (fun cdv A outer s H vs Q E hr h => ?_)
  · obtain ⟨p, ps, rfl, _⟩ := h
    rfl
  · obtain ⟨p, ps, rfl, hp, hl, hzl, qc, qN, qT, q⟩ := h
    refine ⟨_, (pss_cons (ps_if (pt_not (pt_chain op_le op_le pe_int (pe_callB (id := "len") (r := rLenS K) call_lenS (by rfl) T.n_len PySem.boot_len (pa_cons (pv 0) pa_nil)) (pe_glob (v := .int 5) rfl T.c_MOST_PERSONS ⟨_, rfl⟩)))
      (pss_one (ps_raise rfl (takes_of rfl rfl rfl rfl) (pmk_err T.er_BadCount T.iC_BadCount T.tI_BadCount (ok_BadCount__init_ T) (hr.mono (by decide)) T.b_BadCount__init_ (by rfl) T.g_BadCount (pe_callB (id := "len") (r := rLenS K) call_lenS (by rfl) T.n_len PySem.boot_len (pa_cons (pv 0) pa_nil))))) pss_nil)
    (pss_stop (ps_for (passes_of rfl) rfl (pi_hold (pi_enumS (by rfl) T.n_enumerate (pa_cons (pv 0) pa_nil))) (pg_tup rfl (pgs_cons (pg_name (i := 1) sc_checked_persons.nd rfl (Or.inl rfl)) (pgs_cons (pg_name (i := 2) sc_checked_persons.nd rfl (Or.inl rfl)) pgs_nil)))
      (pss_cons (ps_if (pt_not (pt_val (pe_call (ok_valid_name T) (hr.mono (by decide)) (by rfl) T.g_valid_name T.F_valid_name.kp T.b_valid_name .nil pass0 (pa_cons (pv 2) pa_nil))))
      (pss_one (ps_raise rfl (takes_of rfl rfl rfl rfl) (pmk_err T.er_BadName T.iC_BadName T.tI_BadName (ok_BadName__init_ T) (hr.mono (by decide)) T.b_BadName__init_ (by rfl) T.g_BadName (pv 2)))) pss_nil)
    (pss_one (ps_if (pt_cmpR (r := rIn K false) op_in_seq (pv 2) (pe_slice sl_seqO (pv 0) po_none (po_some (pv 1))) (by rfl))
      (pss_one (ps_raise rfl (takes_of rfl rfl rfl rfl) (pmk_err T.er_DuplicateName T.iC_DuplicateName T.tI_DuplicateName (ok_DuplicateName__init_ T) (hr.mono (by decide)) T.b_DuplicateName__init_ (by rfl) T.g_DuplicateName (pv 2)))) pss_nil))))
    (pss_one (ps_ret (pe_callTy (T := "tuple") (r := rTupL K) call_tupL (by rfl) T.n_tuple (by decide +kernel) (pa_cons (pe_callB (id := "sorted") (cr_sortS (room65 hr)) (by rfl) T.n_sorted (by decide +kernel) (pa_cons (pv 0) pa_nil)) pa_nil)))))), ?_⟩
    have hlm : (ps.map V.str).length = ps.length := List.length_map _
    walk_at "rd"
    refine ite2 (fun e1 => ?_) (fun e1 => ?_)
    · have e1' := of_decide_eq_true e1
      walk_at "rd"
      refine ite2 (fun e2 => ?_) (fun e2 => ?_)
      · have hb : badLen ps := .inr (by
          have : ¬ (((ps.map V.str).length : Nat) : Int) ≤ 5 := fun z => by rw [decide_eq_true z] at e2; cases e2
          omega)
        walk_at "rd"
        rw [hlm]
        exact qc hb H (Same.refl H)
      · have e2' : (((ps.map V.str).length : Nat) : Int) ≤ 5 := by
          apply Classical.byContradiction
          intro z
          exact e2 (by simp only [decide_eq_false z]; rfl)
        have hb : ¬ badLen ps := by
          rintro (z | z) <;> omega
        walk_at "rd"
        refine Stop.cut (fun σ H' => ∃ (y z : Option V), σ = [some (.ref p), y, z] ∧ Same H H' ∧ wrongUp ps ps.length = none) (fun Qz hz => ?_) ?_
        · walk_at "rd"
          rcases hp with hp | hp
          · refine .inl ⟨⟨_, hp⟩, ⟨for_it (walk_enum (K := K) (a := p) (xs := ps.map V.str)) (fun i σ H' => ∃ (y z : Option V), σ = [some (.ref p), y, z] ∧ Same H H' ∧ wrongUp ps i = none) ⟨none, none, rfl, Same.refl H, rfl⟩ (fun i σ H' _ ⟨_, _, _, s, _⟩ => s.seq hp) ?_ ?_⟩⟩
            · rintro i x _ H1 H2 hi ⟨y, z, rfl, s1, e3⟩ ⟨t, xi, xn, rfl, nt, rfl, hxi, hxn⟩
              have hi' : i < ps.length := by simpa using hi
              have hgi : ps[i]? = some ps[i] := List.getElem?_eq_getElem hi'
              obtain rfl := Option.some.inj hxi
              obtain rfl := strs_get hxn hgi
              have hgd : ps.getD i default = ps[i] := by rw [List.getD_eq_getElem?_getD, hgi]; rfl
              have hz1 := hzl _ (List.getElem_mem hi')
              have s2 : Same H (upd H1 t (.tup [.int (i : Nat), .str ps[i]])) := s1.trans (same_new nt)
              have ht2 : SqT K (upd H1 t (.tup [.int (i : Nat), .str ps[i]])) t [.int (i : Nat), .str ps[i]] := SqT.of upd_same
              generalize upd H1 t (.tup [.int (i : Nat), .str ps[i]]) = H2 at s2 ht2 ⊢
              refine ⟨t, _, rfl, ht2, rfl, ?_⟩
              walk_at "rd"
              intro H3 s3
              have s03 : Same H H3 := s2.trans s3
              have hp3 := s03.seq hp
              have hup : wrongUp ps (i + 1) = badAt ps i := by
                show (match wrongUp ps i with | some r => some r | none => badAt ps i) = _
                rw [e3]
              walk_at "rd"
              refine ite2 (fun e4 => ?_) (fun e4 => ?_)
              · have e5 : okN ps[i].cps.toList = false := (Bool.not_eq_true' _).mp e4
                have hw : wrongUp ps (i + 1) = some (("name" : Str), ps[i]) := by
                  rw [hup]
                  unfold badAt
                  rw [hgd, e5]
                  rfl
                walk_at "rd"
                exact qN _ H3 hb (wrongUp_stay hw hi') s03
              · have e5 : okN ps[i].cps.toList = true := by simpa using e4
                have hcut : cutV (ps.map V.str) none (some (i : Int)) = (ps.take i).map V.str := by
                  unfold cutV
                  rw [HT.sIx_none, HT.sIx_nat]
                  simp [Nat.min_eq_left (Nat.le_of_lt hi')]
                walk_at "rd"
                refine .inl ⟨p, _, rfl, hp3, ?_⟩
                rw [hcut]
                first
                  | intro c H4 s4 hc
                    have s04 := s03.trans s4
                    have hc' : SqL K H4 c ((ps.take i).map V.str) ∨ SqT K H4 c ((ps.take i).map V.str) := .inr hc
                    skip
                  | intro c H4 n4 s4 hc
                    have s04 := s03.trans s4
                    have hc' : SqL K H4 c ((ps.take i).map V.str) ∨ SqT K H4 c ((ps.take i).map V.str) := .inl (SqL.of hc)
                walk_at "rd"
                refine ⟨strs_flat _, ?_⟩
                rw [inV_strs]
                walk_at "rd"
                refine ite2 (fun e6 => ?_) (fun e6 => ?_)
                · have hw : wrongUp ps (i + 1) = some (("twice" : Str), ps[i]) := by
                    rw [hup]
                    unfold badAt
                    rw [hgd, if_pos e5, if_pos (of_decide_eq_true e6)]
                  walk_at "rd"
                  exact qT _ H4 hb (wrongUp_stay hw hi') s04
                · refine ⟨_, _, rfl, s04, ?_⟩
                  rw [hup]
                  unfold badAt
                  rw [hgd, if_pos e5, if_neg (fun z => e6 (decide_eq_true z))]
            · rintro σ H1 ⟨y, z, rfl, s1, e3⟩
              exact hz _ _ ⟨y, z, rfl, s1, by simpa using e3⟩
          · refine .inr ⟨⟨_, hp⟩, ⟨for_it (walk_enumT (K := K) (a := p) (xs := ps.map V.str)) (fun i σ H' => ∃ (y z : Option V), σ = [some (.ref p), y, z] ∧ Same H H' ∧ wrongUp ps i = none) ⟨none, none, rfl, Same.refl H, rfl⟩ (fun i σ H' _ ⟨_, _, _, s, _⟩ => s.tupT hp) ?_ ?_⟩⟩
            · rintro i x _ H1 H2 hi ⟨y, z, rfl, s1, e3⟩ ⟨t, xi, xn, rfl, nt, rfl, hxi, hxn⟩
              have hi' : i < ps.length := by simpa using hi
              have hgi : ps[i]? = some ps[i] := List.getElem?_eq_getElem hi'
              obtain rfl := Option.some.inj hxi
              obtain rfl := strs_get hxn hgi
              have hgd : ps.getD i default = ps[i] := by rw [List.getD_eq_getElem?_getD, hgi]; rfl
              have hz1 := hzl _ (List.getElem_mem hi')
              have s2 : Same H (upd H1 t (.tup [.int (i : Nat), .str ps[i]])) := s1.trans (same_new nt)
              have ht2 : SqT K (upd H1 t (.tup [.int (i : Nat), .str ps[i]])) t [.int (i : Nat), .str ps[i]] := SqT.of upd_same
              generalize upd H1 t (.tup [.int (i : Nat), .str ps[i]]) = H2 at s2 ht2 ⊢
              refine ⟨t, _, rfl, ht2, rfl, ?_⟩
              walk_at "rd"
              intro H3 s3
              have s03 : Same H H3 := s2.trans s3
              have hp3 := s03.tupT hp
              have hup : wrongUp ps (i + 1) = badAt ps i := by
                show (match wrongUp ps i with | some r => some r | none => badAt ps i) = _
                rw [e3]
              walk_at "rd"
              refine ite2 (fun e4 => ?_) (fun e4 => ?_)
              · have e5 : okN ps[i].cps.toList = false := (Bool.not_eq_true' _).mp e4
                have hw : wrongUp ps (i + 1) = some (("name" : Str), ps[i]) := by
                  rw [hup]
                  unfold badAt
                  rw [hgd, e5]
                  rfl
                walk_at "rd"
                exact qN _ H3 hb (wrongUp_stay hw hi') s03
              · have e5 : okN ps[i].cps.toList = true := by simpa using e4
                have hcut : cutV (ps.map V.str) none (some (i : Int)) = (ps.take i).map V.str := by
                  unfold cutV
                  rw [HT.sIx_none, HT.sIx_nat]
                  simp [Nat.min_eq_left (Nat.le_of_lt hi')]
                walk_at "rd"
                refine .inr ⟨p, _, rfl, hp3, ?_⟩
                rw [hcut]
                first
                  | intro c H4 s4 hc
                    have s04 := s03.trans s4
                    have hc' : SqL K H4 c ((ps.take i).map V.str) ∨ SqT K H4 c ((ps.take i).map V.str) := .inr hc
                    skip
                  | intro c H4 n4 s4 hc
                    have s04 := s03.trans s4
                    have hc' : SqL K H4 c ((ps.take i).map V.str) ∨ SqT K H4 c ((ps.take i).map V.str) := .inl (SqL.of hc)
                walk_at "rd"
                refine ⟨strs_flat _, ?_⟩
                rw [inV_strs]
                walk_at "rd"
                refine ite2 (fun e6 => ?_) (fun e6 => ?_)
                · have hw : wrongUp ps (i + 1) = some (("twice" : Str), ps[i]) := by
                    rw [hup]
                    unfold badAt
                    rw [hgd, if_pos e5, if_pos (of_decide_eq_true e6)]
                  walk_at "rd"
                  exact qT _ H4 hb (wrongUp_stay hw hi') s04
                · refine ⟨_, _, rfl, s04, ?_⟩
                  rw [hup]
                  unfold badAt
                  rw [hgd, if_pos e5, if_neg (fun z => e6 (decide_eq_true z))]
            · rintro σ H1 ⟨y, z, rfl, s1, e3⟩
              exact hz _ _ ⟨y, z, rfl, s1, by simpa using e3⟩
        · rintro _ H3 ⟨y, z, rfl, s3, e3⟩
          have hp3 : SqL K H3 p (ps.map V.str) ∨ SqT K H3 p (ps.map V.str) := hp.elim (fun h => .inl (s3.seq h)) fun h => .inr (s3.tupT h)
          walk_at "rd"
          intro a H4 n4 s4 h4
          walk_at "rd"
          intro b H5 n5 s5 h5
          exact q hb e3 b H5 ((s3.trans s4).trans s5) (SqT.of h5)
    · have hb : badLen ps := .inl (by
        have : ¬ (1 : Int) ≤ (((ps.map V.str).length : Nat) : Int) := fun z => e1 (decide_eq_true z)
        omega)
      refine ⟨_, rfl, ?_⟩
      refine iteT ?_
      walk_at "rd"
      rw [hlm]
      exact qc hb H (Same.refl H)
end
end P

set_option Elab.async false
set_option linter.all false
set_option maxRecDepth 100000
set_option maxHeartbeats 4000000
namespace P
open PySem PySem.Spec PyProof.Rows L2 OS
/-! short ways: "rd" opens a reading as far as equations go; "sep" finds what stands apart from the state; "sq" a list that is read; "nx" two heaps -/
local macro_rules | `(tactic| walk_at "sep") => `(tactic| first | assumption | (refine (by assumption : Nx _ _ _) _ _ ?_; walk_at "sep"))
local macro_rules | `(tactic| walk_at "sq") => `(tactic| first | assumption | exact .inl (.inl (by assumption)) | exact Sep.sq (by walk_at "sep") | exact Sep.st (by walk_at "sep") | exact .inl (.inl upd_same))
local macro_rules | `(tactic| walk_at "rd") => `(tactic| repeat (first
  | refine And.intro rfl ?_
  | apply Exists.intro
  | refine And.intro (by assumption) ?_
  | refine And.intro (DrawOk.mk (by omega) (by omega) (by omega)) ?_
  | refine And.intro at0 ?_
  | refine And.intro ⟨_, rfl⟩ ?_
  | refine And.intro (by walk_at "sq") ?_
  | refine And.intro (Or.inl (by walk_at "sq")) ?_
  | refine And.intro (Or.inr (by walk_at "sq")) ?_
  | refine And.intro (by omega) ?_))

section
variable {P : Program} {w : World} {K : PySem.W.Frag} {mg : Str → Option Value} {base : Heap}
/-! ### numbers -/
def isIB : V → Bool | .int _ => true | .bl _ => true | _ => false
def isB : V → Bool | .bl _ => true | _ => false
def isI : V → Bool | .int _ => true | _ => false
/-- a number modulo p -/
def isN (p : Int) : V → Bool | .int i => decide (0 ≤ i) && decide (i < p) | _ => false
/-- what is known of a value's type -/
def Num2 (K : PySem.W.Frag) (H : Hp) (v : V) : Prop := ∃ t, TyX K H v t ∧ PySem.W.kitOne K t (.type "int") = some (isIB v) ∧ PySem.W.kitOne K t (.type "bool") = some (isB v)
theorem num_flat {H : Hp} {v : V} (f : flatV v = true) : Num2 K H v := by
  cases v with
  | non => exact ⟨_, .base .non, by rfl, by rfl⟩
  | bl b => exact ⟨_, .base (.bl b), by rfl, by rfl⟩
  | int i => exact ⟨_, .base (.int i), by rfl, by rfl⟩
  | str z => exact ⟨_, .base (.str z), by rfl, by rfl⟩
  | _ => exact absurd (show false = true from f) Bool.false_ne_true
theorem itm_num {H : Hp} {v : V} (h : Itm K H v) : Num2 K H v := by
  cases h with
  | flat f => exact num_flat f
  | lst q => exact ⟨_, ty_list q, by rfl, by rfl⟩
  | dct q => exact ⟨_, .base (.dK q), by rfl, by rfl⟩
  | tup q => exact ⟨_, ty_tup q, by rfl, by rfl⟩
theorem thing_num {H : Hp} {v : V} {o : Option (List V)} (h : Thing K H v o) : Num2 K H v := by
  cases h with
  | flat f => exact num_flat f
  | lst q => exact ⟨_, ty_list q, by rfl, by rfl⟩
  | dct q => exact ⟨_, .base (.dK q), by rfl, by rfl⟩
  | tup q _ => exact ⟨_, ty_tup q, by rfl, by rfl⟩
theorem num_int {H : Hp} {i : Int} : Num2 K H (.int i) := num_flat rfl
/-- is_whole(value) -/
def spWhole (K : PySem.W.Frag) : Sp := fun vs H Q _ => ∃ v : V, vs = [v] ∧ Num2 K H v ∧ Q (.bl (isI v)) H
theorem ok_is_whole (T : Txt K mg) : FnOk P w K mg base CX0 1 T.f_is_whole T.fd_is_whole ["value"] (spWhole K) := by
  refine T.F_is_whole.ok sc_is_whole (fun vs H Q E h => ?_) (fun cdv A outer s H vs Q E hr h => ?_)
  · obtain ⟨v, rfl, _⟩ := h
    rfl
  · obtain ⟨v, rfl, ⟨t, ht, h1, h2⟩, q⟩ := h
    refine ⟨_, (pss_one (ps_ret (pe_and (pe_callB (id := "isinstance") (r := rIsi K) call_isi (by rfl) T.n_isinstance (by decide +kernel) (pa_cons (pv 0) (pa_cons (pe_bltn (v := .ty "int") (u := .type "int") (by rfl) T.n_int (by decide +kernel) rfl) pa_nil))) (pe_one (pe_not (pe_callB (id := "isinstance") (r := rIsi K) call_isi (by rfl) T.n_isinstance (by decide +kernel) (pa_cons (pv 0) (pa_cons (pe_bltn (v := .ty "bool") (u := .type "bool") (by rfl) T.n_bool (by decide +kernel) rfl) pa_nil)))))))), ?_⟩
    walk_at "rd"
    refine ⟨.ty _, ht, h1, ?_⟩
    walk_at "rd"
    refine ite2 (fun e => ?_) (fun e => ?_)
    · walk_at "rd"
      refine ⟨.ty _, ht, h2, ?_⟩
      have ev : (!isB v) = isI v := by
        cases v <;> first | rfl | exact absurd e Bool.false_ne_true
      walk_at "rd"
      rw [ev]
      exact q
    · have ev : isI v = false := by
        cases v <;> first | rfl | exact absurd rfl e
      rw [ev] at q
      exact q
/-- is_number(prime, value) -/
def spNumber (K : PySem.W.Frag) : Sp := fun vs H Q _ => ∃ (p : Int) (v : V), vs = [.int p, v] ∧ Num2 K H v ∧ Q (.bl (isN p v)) H
theorem ok_is_number (T : Txt K mg) : FnOk P w K mg base CX0 2 T.f_is_number T.fd_is_number ["prime", "value"] (spNumber K) := by
  refine T.F_is_number.ok sc_is_number (fun vs H Q E h => ?_) (fun cdv A outer s H vs Q E hr h => ?_)
  · obtain ⟨p, v, rfl, _⟩ := h
    rfl
  · obtain ⟨p, v, rfl, hv, q⟩ := h
    refine ⟨_, (pss_one (ps_ret (pe_and (pe_call (ok_is_whole T) (hr.mono (by decide)) (by rfl) T.g_is_whole T.F_is_whole.kp T.b_is_whole .nil pass0 (pa_cons (pv 1) pa_nil)) (pe_one (pe_chain op_le op_lt pe_int (pv 1) (pv 0)))))), ?_⟩
    walk_at "rd"
    refine ite2 (fun e => ?_) (fun e => ?_)
    · obtain ⟨i, rfl⟩ : ∃ i, v = .int i := by
        cases v <;> first | exact ⟨_, rfl⟩ | exact absurd e Bool.false_ne_true
      walk_at "rd"
      refine ite2 (fun e1 => ?_) (fun e1 => ?_)
      · walk_at "rd"
        have : isN p (.int i) = decide (i < p) := by
          show (decide (0 ≤ i) && decide (i < p)) = _
          rw [e1, Bool.true_and]
        rw [this] at q
        exact q
      · walk_at "rd"
        have : isN p (.int i) = false := by
          show (decide (0 ≤ i) && decide (i < p)) = _
          rw [(Bool.not_eq_true _).mp e1, Bool.false_and]
        rw [this] at q
        first
          | exact q
          | (rw [(Bool.not_eq_true _).mp e1]; exact q)
    · have ev : isN p v = false := by
        cases v <;> first | rfl | exact absurd rfl e
      rw [ev] at q
      exact q
/-- has_numbers(prime, value, many) -/
def numsB (p m : Int) : Option (List V) → Bool | some xs => decide ((xs.length : Int) = m) && xs.all (isN p) | none => false
def spNums (K : PySem.W.Frag) : Sp := fun vs H Q _ => ∃ (p m : Int) (v : V) (o : Option (List V)), vs = [.int p, v, .int m] ∧ Thing K H v o ∧ (∀ xs, o = some xs → xs.length ≤ 1000) ∧ ∀ H', Same H H' → Q (.bl (numsB p m o)) H'
theorem ok_has_numbers (T : Txt K mg) : FnOk P w K mg base CX0 3 T.f_has_numbers T.fd_has_numbers ["prime", "value", "many"] (spNums K) := by
  refine T.F_has_numbers.ok sc_has_numbers (fun vs H Q E h => ?_) (fun cdv A outer s H vs Q E hr h => ?_)
  · obtain ⟨p, m, v, o, rfl, _⟩ := h
    rfl
  · obtain ⟨p, m, v, o, rfl, hv, hl, q⟩ := h
    refine ⟨_, (pss_cons (ps_if (PW.pt (pw_or (pt_not (pt_val (pe_callB (id := "isinstance") (r := rIsi K) call_isi (by rfl) T.n_isinstance (by decide +kernel) (pa_cons (pv 1) (pa_cons (pe_bltn (v := .ty "tuple") (u := .type "tuple") (by rfl) T.n_tuple (by decide +kernel) rfl) pa_nil))))) (pw_or1 (pt_cmpR op_ne (pe_callB (id := "len") (r := rLenS K) call_lenS (by rfl) T.n_len PySem.boot_len (pa_cons (pv 1) pa_nil)) (pv 2) (nomark _)))))
      (pss_one (ps_ret pe_bl)) pss_nil)
    (pss_one (ps_ret (pe_callB (id := "all") (r := rAll K) (cr_all rfl) (by rfl) T.n_all (by decide +kernel) (pa_cons (pe_lc (own := [("item", 3)]) (g := gName 3) (tt := tYes) rfl sc_has_numbers.nd (pi_tup (pv 1)) (blkOk_by (own := [("item", 3)]) (N := N_has_numbers) (sc := defScope s_has_numbers) (by decide +kernel)) (fun _ _ _ _ _ => (pg_name (i := 3) sc_has_numbers.nd rfl (Or.inl rfl))) (fun _ _ _ _ _ => pts_nil) (fun _ _ _ _ _ => (pe_call (ok_is_number T) (hr.mono (by decide)) (by rfl) T.g_is_number T.F_is_number.kp T.b_is_number .nil pass0 (pa_cons (pv 0) (pa_cons (pv 3) pa_nil))))) pa_nil))))), ?_⟩
    obtain ⟨t, ht, hk⟩ := hv.isT
    walk_at "rd"
    refine ⟨.ty _, ht, hk, ?_⟩
    walk_at "rd"
    cases hv with
    | flat f => exact q H (Same.refl H)
    | lst z => exact q H (Same.refl H)
    | dct z => exact q H (Same.refl H)
    | @tup b xs hb hi =>
      have hx := hl xs rfl
      walk_at "rd"
      refine ite2 (fun e => ?_) (fun e => ?_)
      · have hne : ¬ ((xs.length : Int) = m) := fun z => by
          rw [z] at e
          simp at e
        have := q H (Same.refl H)
        rw [show numsB p m (some xs) = false by
          show (decide ((xs.length : Int) = m) && _) = false
          rw [decide_eq_false hne, Bool.false_and]] at this
        walk_at "rd"
        first
          | exact this
          | exact iteT this
      · have hm : (xs.length : Int) = m := Classical.byContradiction fun z => e (by simp [z])
        walk_at "rd"
        refine ⟨⟨_, hb⟩, fun D hD => ?_⟩
        refine lc_all (walk_tup (xs := xs)) (xs := xs) rfl (by omega) (fun v => V.bl (isN p v)) hD (fun H1 s => s.tupT hb) ?_ ?_
        · intro i v x H1 H2 Qk hv sm hy hk
          obtain ⟨rfl, hx'⟩ := hy
          obtain rfl : x = v := Option.some.inj (hx'.symm.trans hv)
          have hn : Num2 K H2 x := itm_num ((hi x (List.mem_of_getElem? hv)).same sm)
          walk_at "rd"
          exact hk _ (Same.refl _)
        · intro H1 sm hD1
          have hq : SqL K H1 D ((xs.map (isN p)).map V.bl) := SqL.of (by rw [List.map_map]; exact hD1)
          walk_at "rd"
          have := q H1 sm
          rw [show numsB p m (some xs) = (xs.map (isN p)).all id by
            show (decide ((xs.length : Int) = m) && _) = _
            rw [decide_eq_true hm, Bool.true_and, List.all_map]
            rfl] at this
          exact this
end
end P

set_option Elab.async false
set_option linter.all false
set_option maxRecDepth 100000
set_option maxHeartbeats 4000000
/-! more rules for the laws of the takes -/
namespace OS
open PySem PySem.Spec PyProof.Rows L2 RZ
theorem walk_zipT {K : PySem.W.Frag} {a b : Addr} {xs ys : List V} {n : Nat} (hn : n = min xs.length ys.length) : Walk (ItzT K a b) n (fun H => SqT K H a xs ∧ SqT K H b ys) (YPair (fun i => xs[i]?) (fun i => ys[i]?)) :=
  ⟨fun i _ hi q => ⟨xs, ys, xs[i]'(by omega), ys[i]'(by omega), q.1, q.2, List.getElem?_eq_getElem _, List.getElem?_eq_getElem _⟩, fun _ q => ⟨xs, ys, q.1, q.2, by omega⟩, fun i H v H' _ q ⟨T, x, y, h1, h2, h3, h4, h5⟩ => ⟨T, x, y, h1, h2, h3, h4 xs q.1, h5 ys q.2⟩⟩
/-- a tuple against () -/
def rNeEmp (K : PySem.W.Frag) : R2 := fun x y H Q => ∃ a b zs, x = .ref a ∧ y = .ref b ∧ SqT K H a zs ∧ SqT K H b [] ∧ Q (.bl (!zs.isEmpty)) H
theorem op_neEmp {X : Cx} (hu : X.A.units + 65 < cLine) : OpR X (compareOp .NotEq) (rNeEmp X.K) := by
  intro pins s σ H x y v u Q I rx ry h
  obtain ⟨a, b, zs, rfl, rfl, ha, hb, q⟩ := h
  cases rx
  cases ry
  obtain ⟨us, r1, p1, _⟩ := I.tuple ha
  obtain ⟨ws, r2, p2, _⟩ := I.tuple hb
  cases r2
  refine SeqAt.RcNeAt.tuples (e := fun _ => true) p1 p2 (by omega) (fun j h1 h2 => absurd h2 (by simp)) X.prog X.w X.xe _ ⟨.bl _, H, I, ?_, q⟩
  cases zs with
  | nil =>
    cases r1
    rfl
  | cons z zs =>
    cases r1
    rfl
end OS

set_option Elab.async false
set_option linter.all false
set_option maxRecDepth 100000
set_option maxHeartbeats 4000000
namespace P
open PySem PySem.Spec PyProof.Rows L2 OS
/-! short ways: "rd" opens a reading as far as equations go; "sep" finds what stands apart from the state; "sq" a list that is read; "nx" two heaps -/
local macro_rules | `(tactic| walk_at "sep") => `(tactic| first | assumption | (refine (by assumption : Nx _ _ _) _ _ ?_; walk_at "sep"))
local macro_rules | `(tactic| walk_at "sq") => `(tactic| first | assumption | exact .inl (.inl (by assumption)) | exact Sep.sq (by walk_at "sep") | exact Sep.st (by walk_at "sep") | exact .inl (.inl upd_same))
local macro_rules | `(tactic| walk_at "rd") => `(tactic| repeat (first
  | refine And.intro rfl ?_
  | apply Exists.intro
  | refine And.intro (by assumption) ?_
  | refine And.intro (DrawOk.mk (by omega) (by omega) (by omega)) ?_
  | refine And.intro at0 ?_
  | refine And.intro ⟨_, rfl⟩ ?_
  | refine And.intro (by walk_at "sq") ?_
  | refine And.intro (Or.inl (by walk_at "sq")) ?_
  | refine And.intro (Or.inr (by walk_at "sq")) ?_
  | refine And.intro (by omega) ?_))

section
variable {P : Program} {w : World} {K : PySem.W.Frag} {mg : Str → Option Value} {base : Heap}
/-! ### checks of numbers and rows -/
def primesD : List PyData := [.int 2, .int 3, .int 5, .int 7, .int 11]
def isPr (d : PyData) : Bool := primesD.any fun z => PyData.eqv z d
/-- check_prime(prime) -/
def spPrime (T : Txt K mg) : Sp := fun vs H Q E => ∃ (v : V) (d : PyData), vs = [v] ∧ Dp K H v d ∧ d.depth ≤ 60 ∧ (isPr d = false → ∀ H', Same H H' → Flies E T.C_BadPrime "number" v H') ∧ (isPr d = true → Q .non H)
theorem ok_check_prime (T : Txt K mg) : FnOk P w K mg base (L2.CX P w) 3 T.f_check_prime T.fd_check_prime ["prime"] (spPrime T) := by
  refine T.F_check_prime.okX sc_check_prime (fun vs H Q E h => ?_) (fun cdv A outer s H vs Q E hr h => ?_)
  · obtain ⟨v, d, rfl, _⟩ := h
    rfl
  · obtain ⟨v, d, rfl, hv, hd, qb, q⟩ := h
    refine ⟨_, (pss_one (ps_if (pt_cmpR (r := rInP K true) (op_notInP (room65 hr)) (pv 0) (pe_glob (v := .ref T.a_PRIMES) rfl T.g_PRIMES rfl) (by rfl))
      (pss_one (ps_raise rfl (takes_of rfl rfl rfl rfl) (pmk_err T.er_BadPrime T.iC_BadPrime T.tI_BadPrime (ok_BadPrime__init_ T) (hr.mono (by decide)) T.b_BadPrime__init_ (by rfl) T.g_BadPrime (pv 0)))) pss_nil)), ?_⟩
    have hT : Dp K H (.ref T.a_PRIMES) (.list primesD) ∨ Dp K H (.ref T.a_PRIMES) (.tuple primesD) := .inr (.tup (T.t_PRIMES H) (.cons (.int _) (.cons (.int _) (.cons (.int _) (.cons (.int _) (.cons (.int _) .nil))))))
    walk_at "rd"
    refine ite2 (fun e => ?_) (fun e => ?_)
    · walk_at "rd"
      have e' : isPr d = false := (Bool.not_eq_true' _).mp e
      first
        | exact qb e' H (Same.refl H)
        | trace_state
    · have e' : isPr d = true := by simpa [isPr] using e
      exact q e'
/-- check_number(prime, value) -/
def spCheckN (T : Txt K mg) : Sp := fun vs H Q E => ∃ (p : Int) (v : V), vs = [.int p, v] ∧ Num2 K H v ∧ (isN p v = false → ∀ H', Same H H' → Flies E T.C_BadNumber "value" v H') ∧ (isN p v = true → Q .non H)
theorem ok_check_number (T : Txt K mg) : FnOk P w K mg base (L2.CX P w) 3 T.f_check_number T.fd_check_number ["prime", "value"] (spCheckN T) := by
  refine T.F_check_number.okX sc_check_number (fun vs H Q E h => ?_) (fun cdv A outer s H vs Q E hr h => ?_)
  · obtain ⟨p, v, rfl, _⟩ := h
    rfl
  · obtain ⟨p, v, rfl, hv, qb, q⟩ := h
    refine ⟨_, (pss_one (ps_if (pt_not (pt_val (pe_call (ok_is_number T) (hr.mono (by decide)) (by rfl) T.g_is_number T.F_is_number.kp T.b_is_number .nil pass0 (pa_cons (pv 0) (pa_cons (pv 1) pa_nil)))))
      (pss_one (ps_raise rfl (takes_of rfl rfl rfl rfl) (pmk_err T.er_BadNumber T.iC_BadNumber T.tI_BadNumber (ok_BadNumber__init_ T) (hr.mono (by decide)) T.b_BadNumber__init_ (by rfl) T.g_BadNumber (pv 1)))) pss_nil)), ?_⟩
    walk_at "rd"
    refine ite2 (fun e => ?_) (fun e => ?_)
    · walk_at "rd"
      exact qb ((Bool.not_eq_true' _).mp e) H (Same.refl H)
    · exact q (by simpa using e)
/-- check_numbers(prime, values) -/
def spCheckNs (T : Txt K mg) : Sp := fun vs H Q E => ∃ (p : Int) (a : Addr) (xs : List V), vs = [.int p, .ref a] ∧ (SqL K H a xs ∨ SqT K H a xs) ∧ (∀ v ∈ xs, Itm K H v) ∧
  (∀ (i : Nat) (v : V), xs[i]? = some v → (∀ j u, j < i → xs[j]? = some u → isN p u = true) → isN p v = false → ∀ H', Same H H' → Flies E T.C_BadNumber "value" v H') ∧ ((∀ v ∈ xs, isN p v = true) → ∀ H', Same H H' → Q .non H')
theorem ok_check_numbers (T : Txt K mg) : FnOk P w K mg base (L2.CX P w) 4 T.f_check_numbers T.fd_check_numbers ["prime", "values"] (spCheckNs T) := by
  refine T.F_check_numbers.okX sc_check_numbers (fun vs H Q E h => ?_) (fun cdv A outer s H vs Q E hr h => ?_)
  · obtain ⟨p, a, xs, rfl, _⟩ := h
    rfl
  · obtain ⟨p, a, xs, rfl, ha, hi, qb, q⟩ := h
    refine ⟨_, (pss_one (ps_for (passes_of rfl) rfl (pi_hold (pi_seq (pv 1))) (pg_name (i := 2) sc_check_numbers.nd rfl (Or.inl rfl))
      (pss_one (ps_expr (pe_call (ok_check_number T) (hr.mono (by decide)) (by rfl) T.g_check_number T.F_check_number.kp T.b_check_number .nil (passes_call (takes_of rfl rfl rfl rfl) (fun _ _ _ _ h => h)) (pa_cons (pv 0) (pa_cons (pv 2) pa_nil))))))), ?_⟩
    walk_at "rd"
    rcases ha with ha | ha
    · refine .inl ⟨⟨_, ha⟩, ⟨for_it (walk_list (xs := xs)) (fun i σ H' => ∃ (y : Option V), σ = [some (.int p), some (.ref a), y] ∧ Same H H' ∧ ∀ j u, j < i → xs[j]? = some u → isN p u = true) ⟨none, rfl, Same.refl H, fun j _ h => absurd h (by omega)⟩ (fun i σ H' _ ⟨_, _, s, _⟩ => s.seq ha) ?_ ?_⟩⟩
      · rintro i x _ H1 H2 hil ⟨y, rfl, s1, hgood⟩ ⟨rfl, hxi⟩
        have hn : Num2 K H2 x := itm_num ((hi x (List.mem_of_getElem? hxi)).same s1)
        walk_at "rd"
        refine ⟨fun e H' s' => qb i x hxi hgood e H' (s1.trans s'), fun e => ?_⟩
        refine ⟨_, rfl, s1, fun j u hj hju => ?_⟩
        by_cases q2 : j < i
        · exact hgood j u q2 hju
        · obtain rfl : j = i := by omega
          obtain rfl : x = u := Option.some.inj (hxi.symm.trans hju)
          exact e
      · rintro σ H1 ⟨y, rfl, s1, hgood⟩
        refine q (fun v hv => ?_) H1 s1
        obtain ⟨j, hj⟩ := List.getElem?_of_mem hv
        exact hgood j v (List.getElem?_eq_some_iff.mp hj).1 hj
    · refine .inr ⟨⟨_, ha⟩, ⟨for_it (walk_tup (xs := xs)) (fun i σ H' => ∃ (y : Option V), σ = [some (.int p), some (.ref a), y] ∧ Same H H' ∧ ∀ j u, j < i → xs[j]? = some u → isN p u = true) ⟨none, rfl, Same.refl H, fun j _ h => absurd h (by omega)⟩ (fun i σ H' _ ⟨_, _, s, _⟩ => s.tupT ha) ?_ ?_⟩⟩
      · rintro i x _ H1 H2 hil ⟨y, rfl, s1, hgood⟩ ⟨rfl, hxi⟩
        have hn : Num2 K H2 x := itm_num ((hi x (List.mem_of_getElem? hxi)).same s1)
        walk_at "rd"
        refine ⟨fun e H' s' => qb i x hxi hgood e H' (s1.trans s'), fun e => ?_⟩
        refine ⟨_, rfl, s1, fun j u hj hju => ?_⟩
        by_cases q2 : j < i
        · exact hgood j u q2 hju
        · obtain rfl : j = i := by omega
          obtain rfl : x = u := Option.some.inj (hxi.symm.trans hju)
          exact e
      · rintro σ H1 ⟨y, rfl, s1, hgood⟩
        refine q (fun v hv => ?_) H1 s1
        obtain ⟨j, hj⟩ := List.getElem?_of_mem hv
        exact hgood j v (List.getElem?_eq_some_iff.mp hj).1 hj
/-- rows of numbers modulo p, of width n -/
def RowV (K : PySem.W.Frag) (H : Hp) (v : V) (ns : List Int) : Prop := ∃ b, v = .ref b ∧ SqT K H b (ns.map V.int)
theorem RowV.same {H H' : Hp} {v : V} {ns : List Int} (h : RowV K H v ns) (s : Same H H') : RowV K H' v ns := by
  obtain ⟨b, e, h⟩ := h
  exact ⟨b, e, s.tupT h⟩
structure RowOk (p : Int) (n : Nat) (ns : List Int) : Prop where
  len : ns.length = n
  rng : ∀ i ∈ ns, 0 ≤ i ∧ i < p
theorem RowV.thing {H : Hp} {v : V} {ns : List Int} (h : RowV K H v ns) : Thing K H v (some (ns.map V.int)) := by
  obtain ⟨b, rfl, h⟩ := h
  exact .tup h fun v hv => by
    obtain ⟨z, _, rfl⟩ := List.mem_map.mp hv
    exact .flat rfl
theorem RowOk.nums {p : Int} {n : Nat} {ns : List Int} (h : RowOk p n ns) : numsB p n (some (ns.map V.int)) = true := by
  show (decide ((((ns.map V.int).length : Nat) : Int) = n) && (ns.map V.int).all (isN p)) = true
  rw [decide_eq_true (by rw [List.length_map, h.len]), Bool.true_and, List.all_eq_true]
  intro v hv
  obtain ⟨i, hi, rfl⟩ := List.mem_map.mp hv
  obtain ⟨h1, h2⟩ := h.rng i hi
  show (decide (0 ≤ i) && decide (i < p)) = true
  rw [decide_eq_true h1, decide_eq_true h2]
  rfl
/-- check_rows(prime, values) of good rows -/
def spRowsOk (K : PySem.W.Frag) : Sp := fun vs H Q _ => ∃ (p : Int) (n : Nat) (a : Addr) (xs : List V) (rows : List (List Int)), vs = [.int p, .ref a] ∧ (SqL K H a xs ∨ SqT K H a xs) ∧ Paired (RowV K H) xs rows ∧ (∀ r ∈ rows, RowOk p n r) ∧ 1 ≤ n ∧ n ≤ 1000 ∧ ∀ H', Same H H' → Q .non H'
theorem ok_check_rows (T : Txt K mg) : FnOk P w K mg base (L2.CX P w) 4 T.f_check_rows T.fd_check_rows ["prime", "values"] (spRowsOk K) := by
  refine T.F_check_rows.okX sc_check_rows (fun vs H Q E h => ?_) (fun cdv A outer s H vs Q E hr h => ?_)
  · obtain ⟨p, n, a, xs, rows, rfl, _⟩ := h
    rfl
  · obtain ⟨p, n, a, xs, rows, rfl, ha, hx, hr', hn1, hn2, q⟩ := h
    refine ⟨_, (pss_cons (ps_set (i := 2) sc_check_rows.nd rfl (Or.inl rfl) pe_non)
    (pss_one (ps_for (passes_of rfl) rfl (pi_hold (pi_seq (pv 1))) (pg_name (i := 3) sc_check_rows.nd rfl (Or.inl rfl))
      (pss_stop (ps_if (PW.pt (pw_and (pt_cmpR op_isN (pv 2) pe_non (nomark _)) (pw_and (pt_val (pe_callB (id := "isinstance") (r := rIsi K) call_isi (by rfl) T.n_isinstance (by decide +kernel) (pa_cons (pv 3) (pa_cons (pe_bltn (v := .ty "tuple") (u := .type "tuple") (by rfl) T.n_tuple (by decide +kernel) rfl) pa_nil)))) (pw_and1 (pt_cmpR (r := rNeEmp K) (op_neEmp (room65 hr)) (pv 3) (pe_tupO pa_nil) (nomark _))))))
      (pss_one (ps_set (i := 2) sc_check_rows.nd rfl (Or.inl rfl) (pe_callB (id := "len") (r := rLenS K) call_lenS (by rfl) T.n_len PySem.boot_len (pa_cons (pv 3) pa_nil)))) pss_nil)
    (pss_one (ps_if (PW.pt (pw_or (pt_cmpR op_isN (pv 2) pe_non (nomark _)) (pw_or1 (pt_not (pt_val (pe_call (ok_has_numbers T) (hr.mono (by decide)) (by rfl) T.g_has_numbers T.F_has_numbers.kp T.b_has_numbers .nil pass0 (pa_cons (pv 0) (pa_cons (pv 3) (pa_cons (pv 2) pa_nil)))))))))
      (pss_one (ps_raise rfl (takes_of rfl rfl rfl rfl) (pmk_err T.er_BadRow T.iC_BadRow T.tI_BadRow (ok_BadRow__init_ T) (hr.mono (by decide)) T.b_BadRow__init_ (by rfl) T.g_BadRow (pv 3)))) pss_nil)))))), ?_⟩
    walk_at "rd"
    rcases ha with ha | ha
    · refine .inl ⟨⟨_, ha⟩, ⟨for_it (walk_list (xs := xs)) (fun i σ H' => ∃ (wv : V) (y : Option V), σ = [some (.int p), some (.ref a), some wv, y] ∧ Same H H' ∧ (i = 0 → wv = .non) ∧ (0 < i → wv = .int (n : Int))) ⟨.non, none, rfl, Same.refl H, fun _ => rfl, fun h => absurd h (by omega)⟩ (fun i σ H' _ ⟨_, _, _, s, _⟩ => s.seq ha) ?_ ?_⟩⟩
      · rintro i x _ H1 H2 hil ⟨wv, y, rfl, s1, hw0, hw1⟩ ⟨rfl, hxi⟩
        obtain ⟨ns, hnsi, hrv⟩ := OS.paired_get hx hxi
        have hok := hr' ns (List.mem_of_getElem? hnsi)
        have hrv2 := hrv.same s1
        obtain ⟨b, rfl, hb⟩ := id hrv2
        have hlen : (ns.map V.int).length = n := by rw [List.length_map, hok.len]
        refine Stop.cut (fun σ H' => σ = [some (.int p), some (.ref a), some (.int (n : Int)), some (.ref b)] ∧ Same H2 H') (fun Qz hz => ?_) ?_
        · walk_at "rd"
          refine ite2 (fun e => ?_) (fun e => ?_)
          · walk_at "rd"
            refine ⟨.ty _, ty_tup hb, by rfl, ?_⟩
            walk_at "rd"
            refine ⟨by decide, fun t H3 nt s3 ht => ?_⟩
            have hb3 := s3.tupT hb
            have ht3 : SqT K H3 t [] := SqT.of ht
            walk_at "rd"
            have hne : (!(ns.map V.int).isEmpty) = true := by
              cases ns with
              | nil =>
                have := hok.len
                simp at this
                omega
              | cons _ _ => rfl
            rw [hne]
            refine iteT ?_
            walk_at "rd"
            refine hz _ _ ⟨?_, s3⟩
            rw [hlen]
            rfl
          · have hi0 : 0 < i := Nat.pos_of_ne_zero fun z => e (decide_eq_true (hw0 z))
            obtain rfl := hw1 hi0
            exact hz _ _ ⟨rfl, Same.refl _⟩
        · rintro _ H3 ⟨rfl, s3⟩
          have hth := (hrv2.same s3).thing
          have hl1 : ∀ zs, (some (ns.map V.int)) = some zs → zs.length ≤ 1000 := fun zs e => by
            obtain rfl := Option.some.inj e
            rw [hlen]
            exact hn2
          walk_at "rd"
          intro H4 s4
          rw [hok.nums]
          walk_at "rd"
          first
            | exact ⟨_, _, rfl, (s1.trans s3).trans s4, fun z => absurd z (by omega), fun _ => rfl⟩
            | exact ⟨(s1.trans s3).trans s4, fun z => absurd z (by omega), fun _ => rfl⟩
            | exact fun _ => rfl
      · rintro σ H1 ⟨wv, y, rfl, s1, _⟩
        exact q H1 s1
    · refine .inr ⟨⟨_, ha⟩, ⟨for_it (walk_tup (xs := xs)) (fun i σ H' => ∃ (wv : V) (y : Option V), σ = [some (.int p), some (.ref a), some wv, y] ∧ Same H H' ∧ (i = 0 → wv = .non) ∧ (0 < i → wv = .int (n : Int))) ⟨.non, none, rfl, Same.refl H, fun _ => rfl, fun h => absurd h (by omega)⟩ (fun i σ H' _ ⟨_, _, _, s, _⟩ => s.tupT ha) ?_ ?_⟩⟩
      · rintro i x _ H1 H2 hil ⟨wv, y, rfl, s1, hw0, hw1⟩ ⟨rfl, hxi⟩
        obtain ⟨ns, hnsi, hrv⟩ := OS.paired_get hx hxi
        have hok := hr' ns (List.mem_of_getElem? hnsi)
        have hrv2 := hrv.same s1
        obtain ⟨b, rfl, hb⟩ := id hrv2
        have hlen : (ns.map V.int).length = n := by rw [List.length_map, hok.len]
        refine Stop.cut (fun σ H' => σ = [some (.int p), some (.ref a), some (.int (n : Int)), some (.ref b)] ∧ Same H2 H') (fun Qz hz => ?_) ?_
        · walk_at "rd"
          refine ite2 (fun e => ?_) (fun e => ?_)
          · walk_at "rd"
            refine ⟨.ty _, ty_tup hb, by rfl, ?_⟩
            walk_at "rd"
            refine ⟨by decide, fun t H3 nt s3 ht => ?_⟩
            have hb3 := s3.tupT hb
            have ht3 : SqT K H3 t [] := SqT.of ht
            walk_at "rd"
            have hne : (!(ns.map V.int).isEmpty) = true := by
              cases ns with
              | nil =>
                have := hok.len
                simp at this
                omega
              | cons _ _ => rfl
            rw [hne]
            refine iteT ?_
            walk_at "rd"
            refine hz _ _ ⟨?_, s3⟩
            rw [hlen]
            rfl
          · have hi0 : 0 < i := Nat.pos_of_ne_zero fun z => e (decide_eq_true (hw0 z))
            obtain rfl := hw1 hi0
            exact hz _ _ ⟨rfl, Same.refl _⟩
        · rintro _ H3 ⟨rfl, s3⟩
          have hth := (hrv2.same s3).thing
          have hl1 : ∀ zs, (some (ns.map V.int)) = some zs → zs.length ≤ 1000 := fun zs e => by
            obtain rfl := Option.some.inj e
            rw [hlen]
            exact hn2
          walk_at "rd"
          intro H4 s4
          rw [hok.nums]
          walk_at "rd"
          first
            | exact ⟨_, _, rfl, (s1.trans s3).trans s4, fun z => absurd z (by omega), fun _ => rfl⟩
            | exact ⟨(s1.trans s3).trans s4, fun z => absurd z (by omega), fun _ => rfl⟩
            | exact fun _ => rfl
      · rintro σ H1 ⟨wv, y, rfl, s1, _⟩
        exact q H1 s1
/-- rows of so many numbers, lists or tuples -/
def LenV (K : PySem.W.Frag) (H : Hp) (v : V) (n : Nat) : Prop := ∃ b zs, v = .ref b ∧ (SqL K H b zs ∨ SqT K H b zs) ∧ zs.length = n
theorem LenV.same {H H' : Hp} {v : V} {n : Nat} (h : LenV K H v n) (s : Same H H') : LenV K H' v n := by
  obtain ⟨b, zs, e, h, hl⟩ := h
  exact ⟨b, zs, e, h.imp (fun z => s.seq z) (fun z => s.tupT z), hl⟩
/-- check_width(width, rows) -/
def spWidth (T : Txt K mg) : Sp := fun vs H Q E => ∃ (m : Int) (a : Addr) (xs : List V) (ls : List Nat), vs = [.int m, .ref a] ∧ SqL K H a xs ∧ Paired (LenV K H) xs ls ∧ ls.length ≤ 1000 ∧
  (¬ (1 ≤ m ∧ m ≤ 40 ∧ ∀ l ∈ ls, (l : Int) = m) → ∀ H', Same H H' → Flies E T.C_BadCount "count" (.int m) H') ∧ ((1 ≤ m ∧ m ≤ 40 ∧ ∀ l ∈ ls, (l : Int) = m) → ∀ H', Same H H' → Q .non H')
theorem ok_check_width (T : Txt K mg) : FnOk P w K mg base (L2.CX P w) 3 T.f_check_width T.fd_check_width ["width", "rows"] (spWidth T) := by
  refine T.F_check_width.okX sc_check_width (fun vs H Q E h => ?_) (fun cdv A outer s H vs Q E hr h => ?_)
  · obtain ⟨m, a, xs, ls, rfl, _⟩ := h
    rfl
  · obtain ⟨m, a, xs, ls, rfl, ha, hx, hl, qb, q⟩ := h
    refine ⟨_, (pss_one (ps_if (PW.pt (pw_or (pt_not (pt_chain op_le op_le pe_int (pv 0) (pe_glob (v := .int 40) rfl T.c_MOST_WIDTH ⟨_, rfl⟩))) (pw_or1 (pt_val (pe_callB (id := "any") (r := rAny K) (cr_any rfl) (by rfl) T.n_any (by decide +kernel) (pa_cons (pe_lc (own := [("row", 2)]) (g := gName 2) (tt := tYes) rfl sc_check_width.nd (pi_list (pv 1)) (blkOk_by (own := [("row", 2)]) (N := N_check_width) (sc := defScope s_check_width) (by decide +kernel)) (fun _ _ _ _ _ => (pg_name (i := 2) sc_check_width.nd rfl (Or.inl rfl))) (fun _ _ _ _ _ => pts_nil) (fun _ _ _ _ _ => (pe_cmpR op_ne (pe_callB (id := "len") (r := rLenS K) call_lenS (by rfl) T.n_len PySem.boot_len (pa_cons (pv 2) pa_nil)) (pv 0) (nomark _)))) pa_nil))))))
      (pss_one (ps_raise rfl (takes_of rfl rfl rfl rfl) (pmk_err T.er_BadCount T.iC_BadCount T.tI_BadCount (ok_BadCount__init_ T) (hr.mono (by decide)) T.b_BadCount__init_ (by rfl) T.g_BadCount (pv 0)))) pss_nil)), ?_⟩
    have hxl := paired_len hx
    walk_at "rd"
    refine ite2 (fun e1 => ?_) (fun e1 => ?_)
    · have e1' : 1 ≤ m := of_decide_eq_true e1
      walk_at "rd"
      refine ite2 (fun e2 => ?_) (fun e2 => ?_)
      · have e2' : ¬ m ≤ 40 := fun z => by rw [decide_eq_true z] at e2; cases e2
        first
          | refine iteT ?_
          | skip
        walk_at "rd"
        exact qb (fun z => e2' z.2.1) H (Same.refl H)
      · have e2' : m ≤ 40 := Classical.byContradiction fun z => e2 (by rw [decide_eq_false z]; rfl)
        walk_at "rd"
        refine ⟨⟨_, ha⟩, fun D hD => ?_⟩
        refine lc_all (walk_list (xs := xs)) (xs := ls) hxl.symm (by omega) (fun l : Nat => V.bl (!decide (V.int (l : Int) = V.int m))) hD (fun H1 s => s.seq ha) ?_ ?_
        · intro i l x H1 H2 Qk hli sm hy hk
          obtain ⟨rfl, hx'⟩ := hy
          obtain ⟨l', h1, h2⟩ := OS.paired_get hx hx'
          obtain rfl : l' = l := Option.some.inj (h1.symm.trans hli)
          obtain ⟨b, zs, rfl, hb, rfl⟩ := h2.same sm
          walk_at "rd"
          exact hk _ (Same.refl _)
        · intro H1 sm hD1
          have hq : SqL K H1 D ((ls.map fun l : Nat => !decide (V.int (l : Int) = V.int m)).map V.bl) := SqL.of (by rw [List.map_map]; exact hD1)
          walk_at "rd"
          rw [List.any_map]
          refine ite2 (fun e3 => ?_) (fun e3 => ?_)
          · walk_at "rd"
            refine qb (fun z => ?_) H1 sm
            obtain ⟨l, h1, h2⟩ := List.any_eq_true.mp e3
            have := z.2.2 l h1
            simp [this] at h2
          · refine q ⟨e1', e2', fun l hl' => Classical.byContradiction fun z => e3 (List.any_eq_true.mpr ⟨l, hl', ?_⟩)⟩ H1 sm
            simp [z]
    · have e1' : ¬ 1 ≤ m := fun z => e1 (decide_eq_true z)
      walk_at "rd"
      exact qb (fun z => e1' z.1) H (Same.refl H)
/-- the product of two rows -/
def dotL (ns ms : List Int) : Int := (List.zipWith (fun a b => a * b) ns ms).sum
theorem rng_small {p : Int} {ns : List Int} (hp : p ≤ 11) (h : ∀ i ∈ ns, 0 ≤ i ∧ i < p) : ∀ i ∈ ns, -(2 ^ 64) < i ∧ i < 2 ^ 64 := fun i hi => by
  have := h i hi
  omega
theorem pr_le {p : Int} (h : isPr (.int p) = true) : 2 ≤ p ∧ p ≤ 11 := by
  have : p = 2 ∨ p = 3 ∨ p = 5 ∨ p = 7 ∨ p = 11 := by
    change ((2 : Int) == p || ((3 : Int) == p || ((5 : Int) == p || ((7 : Int) == p || ((11 : Int) == p || false))))) = true at h
    rw [Bool.or_false] at h
    simp only [Bool.or_eq_true, beq_iff_eq] at h
    omega
  omega
/-- product(prime, one, other) of good rows -/
def spProduct (K : PySem.W.Frag) : Sp := fun vs H Q _ => ∃ (p : Int) (n : Nat) (a b : Addr) (ns ms : List Int), vs = [.int p, .ref a, .ref b] ∧ isPr (.int p) = true ∧ SqT K H a (ns.map V.int) ∧ SqT K H b (ms.map V.int) ∧ RowOk p n ns ∧ RowOk p n ms ∧ 1 ≤ n ∧ n ≤ 1000 ∧ ∀ H', Same H H' → Q (.int (dotL ns ms % p)) H'
theorem ok_product (T : Txt K mg) : FnOk P w K mg base (L2.CX P w) 5 T.f_product T.fd_product ["prime", "one", "other"] (spProduct K) := by
  refine T.F_product.okX sc_product (fun vs H Q E h => ?_) (fun cdv A outer s H vs Q E hr h => ?_)
  · obtain ⟨p, n, a, b, ns, ms, rfl, _⟩ := h
    rfl
  · obtain ⟨p, n, a, b, ns, ms, rfl, hpr, ha, hb, hna, hmb, hn1, hn2, q⟩ := h
    refine ⟨_, (pss_cons (ps_expr (pe_call (ok_check_prime T) (hr.mono (by decide)) (by rfl) T.g_check_prime T.F_check_prime.kp T.b_check_prime .nil (passes_call (takes_of rfl rfl rfl rfl) (fun _ _ _ _ h => h)) (pa_cons (pv 0) pa_nil)))
    (pss_cons (ps_expr (pe_call (ok_check_rows T) (hr.mono (by decide)) (by rfl) T.g_check_rows T.F_check_rows.kp T.b_check_rows .nil (passes_call (takes_of rfl rfl rfl rfl) (fun _ _ _ _ h => h)) (pa_cons (pv 0) (pa_cons (pe_lstO (pa_cons (pv 1) (pa_cons (pv 2) pa_nil))) pa_nil))))
    (pss_one (ps_ret (pe_op op_mod (pe_callB (id := "sum") (r := rSum K) (cr_sum rfl) (by rfl) T.n_sum (by decide +kernel) (pa_cons (pe_lc (own := [("number", 3), ("factor", 4)]) (g := gTup K 2 (gCons (gName 3) (gCons (gName 4) gNil))) (tt := tYes) rfl sc_product.nd (RZ.pi_zipA (by rfl) T.n_zip (pa_cons (pv 1) (pa_cons (pv 2) pa_nil))) (blkOk_by (own := [("number", 3), ("factor", 4)]) (N := N_product) (sc := defScope s_product) (by decide +kernel)) (fun _ _ _ _ _ => (pg_tup rfl (pgs_cons (pg_name (i := 3) sc_product.nd rfl (Or.inl rfl)) (pgs_cons (pg_name (i := 4) sc_product.nd rfl (Or.inl rfl)) pgs_nil)))) (fun _ _ _ _ _ => pts_nil) (fun _ _ _ _ _ => (pe_op op_mul (pv 3) (pv 4)))) pa_nil)) (pv 0)))))), ?_⟩
    have hd : Dp K H (.int p) (.int p) := .int p
    have hpl := pr_le hpr
    walk_at "rd"
    refine ⟨Nat.zero_le _, fun e => absurd (e.symm.trans hpr) (by simp), fun _ => ?_⟩
    walk_at "rd"
    refine ⟨by show 2 ≤ sizeLine; decide, fun l H1 n1 s1 hl => ?_⟩
    have hrows : Paired (RowV K H1) [V.ref a, V.ref b] [ns, ms] := .cons ⟨a, rfl, s1.tupT ha⟩ (.cons ⟨b, rfl, s1.tupT hb⟩ .nil)
    have hq : SqL K H1 l [V.ref a, V.ref b] ∨ SqT K H1 l [V.ref a, V.ref b] := .inl (SqL.of hl)
    have hro : ∀ r ∈ [ns, ms], RowOk p n r := fun r hr => by
      rcases List.mem_cons.mp hr with rfl | hr
      · exact hna
      · rw [List.mem_singleton.mp hr]
        exact hmb
    walk_at "rd"
    intro H2 s2
    have ha2 := s2.tupT (s1.tupT ha)
    have hb2 := s2.tupT (s1.tupT hb)
    walk_at "rd"
    refine .inr ⟨ha2, hb2, fun D hD => ?_⟩
    have hlz : (ns.zip ms).length = min (ns.map V.int).length (ms.map V.int).length := by simp
    refine lc_all (walk_zipT (xs := ns.map V.int) (ys := ms.map V.int) rfl) (xs := ns.zip ms) hlz (by rw [List.length_map, hna.len]; omega) (fun z => V.int (z.1 * z.2)) hD (fun H s => ⟨s.tupT ha2, s.tupT hb2⟩) ?_ ?_
    · intro i z v H3 H4 Qk hz sm hy hk
      obtain ⟨t, x, y, rfl, nt, rfl, hx, hy'⟩ := hy
      obtain ⟨z1, z2⟩ := z
      obtain ⟨hz1, hz2⟩ := List.getElem?_zip_eq_some.mp hz
      replace hx : (ns.map V.int)[i]? = some x := hx
      replace hy' : (ms.map V.int)[i]? = some y := hy'
      rw [List.getElem?_map, hz1] at hx
      rw [List.getElem?_map, hz2] at hy'
      obtain rfl := Option.some.inj hx
      obtain rfl := Option.some.inj hy'
      have ht : SqT K (upd H3 t (.tup [V.int z1, V.int z2])) t [V.int z1, V.int z2] := SqT.of upd_same
      have b1 := rng_small hpl.2 hna.rng z1 (List.mem_of_getElem? hz1)
      refine ⟨t, _, rfl, ht, rfl, ?_⟩
      walk_at "rd"
      exact hk _ (same_new nt)
    · intro H3 s3 hD3
      have hDq : SqL K H3 D ((List.zipWith (fun a b => a * b) ns ms).map V.int) := SqL.of (by rw [hD3, List.zip, List.map_zipWith, List.map_zipWith])
      have hp0 : 0 < p := by omega
      walk_at "rd"
      exact q H3 ((s1.trans s2).trans s3)
end
end P

set_option Elab.async false
set_option linter.all false
set_option maxRecDepth 100000
set_option maxHeartbeats 4000000
/-! dicts by names: what they hold, comprehensions -/
namespace OS
open PySem PySem.Spec PyProof.Rows L2
/-- the dict kvs has just the keys ks, once each, in this order; R of each key and its value -/
structure DHas (R : Str → V → Prop) (kvs : List (Key × V)) (ks : List Str) : Prop where
  keys : kvs.map (·.1) = ks.map Sum.inr
  nd : ks.Nodup
  vals : ∀ k ∈ ks, ∃ v, valV kvs (.inr k) = some v ∧ R k v
theorem DHas.mono {R R' : Str → V → Prop} {kvs : List (Key × V)} {ks : List Str} (h : DHas R kvs ks) (m : ∀ k v, R k v → R' k v) : DHas R' kvs ks :=
  ⟨h.keys, h.nd, fun k hk => (h.vals k hk).imp fun v q => ⟨q.1, m k v q.2⟩⟩
theorem DHas.len {R : Str → V → Prop} {kvs : List (Key × V)} {ks : List Str} (h : DHas R kvs ks) : kvs.length = ks.length := by
  have := congrArg List.length h.keys
  rwa [List.length_map, List.length_map] at this
theorem DHas.none {R : Str → V → Prop} {kvs : List (Key × V)} {ks : List Str} (h : DHas R kvs ks) {k : Str} (hk : k ∉ ks) : valV kvs (.inr k) = none := by
  unfold valV
  rw [Option.map_eq_none_iff, List.find?_eq_none]
  intro kv hm e
  have h1 : kv.1 ∈ kvs.map (·.1) := List.mem_map.mpr ⟨kv, hm, rfl⟩
  rw [h.keys, of_decide_eq_true e] at h1
  obtain ⟨x, hx, e2⟩ := List.mem_map.mp h1
  exact hk (Sum.inr.inj e2 ▸ hx)
theorem DHas.nil {R : Str → V → Prop} : DHas R [] [] := ⟨rfl, List.nodup_nil, fun _ h => nomatch h⟩
/-- a new key -/
theorem DHas.add {R : Str → V → Prop} {kvs : List (Key × V)} {ks : List Str} (h : DHas R kvs ks) {k : Str} {v : V} (hk : k ∉ ks) (hv : R k v) : DHas R (putK kvs (.inr k) v) (ks ++ [k]) := by
  have hn := h.none hk
  refine ⟨?_, List.nodup_append.mpr ⟨h.nd, by simp, fun a ha b hb e => ?_⟩, fun j hj => ?_⟩
  · rw [putK_new v hn, List.map_append, List.map_append, h.keys]
    rfl
  · rw [List.mem_singleton] at hb
    exact hk (hb ▸ e ▸ ha)
  · rw [valV_put]
    by_cases e : (Sum.inr j : Key) = Sum.inr k
    · rw [if_pos e]
      exact ⟨v, rfl, Sum.inr.inj e ▸ hv⟩
    · rw [if_neg e]
      rcases List.mem_append.mp hj with hj | hj
      · exact h.vals j hj
      · exact absurd (congrArg Sum.inr (List.mem_singleton.mp hj)) e
/-- a key that stands there already, another value -/
theorem DHas.put {R : Str → V → Prop} {kvs : List (Key × V)} {ks : List Str} (h : DHas R kvs ks) {k : Str} {v : V} (hk : k ∈ ks) (hv : R k v) : DHas R (putK kvs (.inr k) v) ks := by
  refine ⟨?_, h.nd, fun j hj => ?_⟩
  · have hany : (kvs.any fun kv => decide (kv.1 = Sum.inr k)) = true := by
      have : (Sum.inr k : Key) ∈ kvs.map (·.1) := by
        rw [h.keys]
        exact List.mem_map.mpr ⟨k, hk, rfl⟩
      obtain ⟨kv, hm, e⟩ := List.mem_map.mp this
      exact List.any_eq_true.mpr ⟨kv, hm, decide_eq_true e⟩
    unfold putK
    rw [if_pos hany, List.map_map, ← h.keys]
    refine List.map_congr_left fun kv _ => ?_
    show (if kv.1 = Sum.inr k then (kv.1, v) else kv).1 = kv.1
    split <;> rfl
  · rw [valV_put]
    by_cases e : (Sum.inr j : Key) = Sum.inr k
    · rw [if_pos e]
      exact ⟨v, rfl, Sum.inr.inj e ▸ hv⟩
    · rw [if_neg e]
      exact h.vals j hj
/-- {k: .. for k in ks} -/
theorem dc_names {J : It} {n : Nat} {G : Hp → Prop} {Y : Nat → Hp → V → Hp → Prop} (w : Walk J n G Y) {ks : List Str} (hn : ks.length = n) (hz : n ≤ 100000) (hnd : ks.Nodup) (R : Hp → Str → V → Prop) {g : TG} {tk tv : TE} {vs : List Nat} {σ : L2.St} {H1 : Hp} {D : Addr} {Qd : Hp → Prop}
    (hD : H1 D = none) (hR : ∀ H H' k v kvs, Same H1 H → H D = some (.dK kvs) → (∀ b o, H b = some o → b ≠ D → H' b = some o) → R H k v → R H' k v) (hG : ∀ H, Same H1 H → G H)
    (hs : ∀ i k x H H' (Qk : V → V → Hp → Prop), ks[i]? = some k → Same H1 H → Y i H x H' → (∀ v H4, R H4 k v → Same H H4 → Qk (.str k) v H4) → g x (wipe σ vs) H' fun σ2 H2 => wipe σ2 vs = wipe σ vs ∧ tk σ2 H2 fun y H4 => tv σ2 H4 fun z H5 => Qk y z H5)
    (hd : ∀ H kvs, Same H1 H → H D = some (.dK kvs) → DHas (R H) kvs ks → Qd H) :
    ∃ W : Nat → Nat → Hp → Prop, (∃ m, W 0 m (upd H1 D (.dK []))) ∧ ∀ i m H, W i m H →
      (J.stop i H ∧ Qd H) ∨ (J.go i H ∧ ∃ Nx : Hp → Prop, (∀ H', Nx H' → ∃ m', m' < m ∧ W (i + 1) m' H') ∧ ∀ x H', J.yld i H x H' → g x (wipe σ vs) H' fun σ2 H2 => wipe σ2 vs = wipe σ vs ∧ tYes σ2 H2 fun b H3 =>
        if b = true then tk σ2 H3 fun y H4 => tv σ2 H4 fun z H5 => ∃ kvs k, y = kV k ∧ H5 D = some (.dK kvs) ∧ kvs.length < sizeLine ∧ Nx (upd H5 D (.dK (putK kvs k z))) else Nx H3) := by
  refine ⟨fun i m H => m = n - i ∧ i ≤ n ∧ Same H1 H ∧ ∃ kvs, H D = some (.dK kvs) ∧ DHas (R H) kvs (ks.take i), ⟨n, by simp, Nat.zero_le _, same_new hD, [], upd_same, .nil⟩, ?_⟩
  rintro i m H ⟨rfl, hi, sm, kvs, hkv, hh⟩
  by_cases hlt : i < n
  · refine .inr ⟨w.goes i H hlt (hG H sm), fun H' => i + 1 ≤ n ∧ Same H1 H' ∧ ∃ kvs, H' D = some (.dK kvs) ∧ DHas (R H') kvs (ks.take (i + 1)), fun H' q => ⟨n - (i + 1), by omega, rfl, q⟩, fun x H' y => ?_⟩
    have hki : ks[i]? = some (ks[i]'(by omega)) := List.getElem?_eq_getElem _
    have tks := take_snoc hki
    refine hs i _ x H H' _ hki sm (w.yields i H x H' hlt (hG H sm) y) fun v H4 hv s4 => ?_
    have h4 := s4 _ _ hkv
    have kp : ∀ b o, H4 b = some o → b ≠ D → (upd H4 D (.dK (putK kvs (.inr (ks[i]'(by omega))) v))) b = some o := fun b o q z => by rw [upd_ne z]; exact q
    have hnew : ks[i]'(by omega) ∉ ks.take i := fun hm => by
      have := hnd.sublist (List.take_sublist (i + 1) ks)
      rw [tks] at this
      exact (List.nodup_append.mp this).2.2 _ hm _ (List.mem_singleton.mpr rfl) rfl
    refine ⟨kvs, .inr (ks[i]'(by omega)), rfl, h4, ?_, hlt, fun b o q => ?_, _, upd_same, ?_⟩
    · rw [hh.len]
      exact Nat.lt_of_le_of_lt (List.length_take_le _ _) (Nat.lt_of_lt_of_le hlt (Nat.le_trans hz (by decide)))
    · rw [upd_ne (ne_of_none q hD)]
      exact s4 _ _ (sm _ _ q)
    · rw [tks]
      refine DHas.add ((hh.mono fun k v q => hR _ _ k v kvs sm hkv (fun b o q _ => s4 b o q) q).mono fun k v q => hR _ _ k v kvs (sm.trans s4) h4 kp q) hnew ?_
      exact hR _ _ _ _ kvs (sm.trans s4) h4 kp hv
  · have e : i = n := by omega
    subst e
    rw [List.take_of_length_le (by omega)] at hh
    exact .inl ⟨w.stops H (hG H sm), hd H kvs sm hkv hh⟩
end OS

set_option Elab.async false
set_option linter.all false
set_option maxRecDepth 100000
set_option maxHeartbeats 4000000
namespace P
open PySem PySem.Spec PyProof.Rows L2 OS
/-! short ways: "rd" opens a reading as far as equations go; "sep" finds what stands apart from the state; "sq" a list that is read; "nx" two heaps -/
local macro_rules | `(tactic| walk_at "sep") => `(tactic| first | assumption | (refine (by assumption : Nx _ _ _) _ _ ?_; walk_at "sep"))
local macro_rules | `(tactic| walk_at "sq") => `(tactic| first | assumption | exact .inl (.inl (by assumption)) | exact Sep.sq (by walk_at "sep") | exact Sep.st (by walk_at "sep") | exact .inl (.inl upd_same))
local macro_rules | `(tactic| walk_at "rd") => `(tactic| repeat (first
  | refine And.intro rfl ?_
  | apply Exists.intro
  | refine And.intro (by assumption) ?_
  | refine And.intro (DrawOk.mk (by omega) (by omega) (by omega)) ?_
  | refine And.intro at0 ?_
  | refine And.intro ⟨_, rfl⟩ ?_
  | refine And.intro (by walk_at "sq") ?_
  | refine And.intro (Or.inl (by walk_at "sq")) ?_
  | refine And.intro (Or.inr (by walk_at "sq")) ?_
  | refine And.intro (by omega) ?_))

section
variable {P : Program} {w : World} {K : PySem.W.Frag} {mg : Str → Option Value} {base : Heap}
/-! ### schemes -/
/-- the rows rs stand in xs -/
def RowsV (K : PySem.W.Frag) (H : Hp) (xs : List V) (rs : List (List Int)) : Prop := Paired (RowV K H) xs rs
theorem RowsV.same {H H' : Hp} {xs : List V} {rs : List (List Int)} (h : RowsV K H xs rs) (s : Same H H') : RowsV K H' xs rs := Paired.mapP h fun _ _ q => q.same s
theorem RowV.but {H H' : Hp} {D : Addr} {u : HO} (hD : H D = some u) (hu : ∀ xs, u ≠ .tup xs ∧ ∀ o, u ≠ .frz o (.tup xs)) (k : ∀ b o, H b = some o → b ≠ D → H' b = some o) {v : V} {ns : List Int} (h : RowV K H v ns) : RowV K H' v ns := by
  obtain ⟨b, e, h⟩ := h
  refine ⟨b, e, ?_⟩
  rcases h with (h | ⟨o, h⟩) | h
  · exact .inl (.inl (k _ _ h fun z => by rw [z, hD] at h; exact (hu _).1 (Option.some.inj h)))
  · exact .inl (.inr ⟨o, k _ _ h fun z => by rw [z, hD] at h; exact (hu _).2 o (Option.some.inj h)⟩)
  · exact .inr h
/-- a list, a tuple of rows -/
def RowsL (K : PySem.W.Frag) (H : Hp) (v : V) (rs : List (List Int)) : Prop := ∃ b xs, v = .ref b ∧ SqL K H b xs ∧ RowsV K H xs rs
def RowsT (K : PySem.W.Frag) (H : Hp) (v : V) (rs : List (List Int)) : Prop := ∃ b xs, v = .ref b ∧ SqT K H b xs ∧ RowsV K H xs rs
theorem RowsL.same {H H' : Hp} {v : V} {rs : List (List Int)} (h : RowsL K H v rs) (s : Same H H') : RowsL K H' v rs := by
  obtain ⟨b, xs, e, h1, h2⟩ := h
  exact ⟨b, xs, e, s.seq h1, h2.same s⟩
theorem RowsT.same {H H' : Hp} {v : V} {rs : List (List Int)} (h : RowsT K H v rs) (s : Same H H') : RowsT K H' v rs := by
  obtain ⟨b, xs, e, h1, h2⟩ := h
  exact ⟨b, xs, e, s.tupT h1, h2.same s⟩
theorem RowsT.but {H H' : Hp} {D : Addr} {u : HO} (hD : H D = some u) (hu : ∀ xs, u ≠ .tup xs ∧ ∀ o, u ≠ .frz o (.tup xs)) (k : ∀ b o, H b = some o → b ≠ D → H' b = some o) {v : V} {rs : List (List Int)} (h : RowsT K H v rs) : RowsT K H' v rs := by
  obtain ⟨b, xs, e, h1, h2⟩ := h
  refine ⟨b, xs, e, ?_, Paired.mapP h2 fun _ _ q => q.but hD hu k⟩
  rcases h1 with (h | ⟨o, h⟩) | h
  · exact .inl (.inl (k _ _ h fun z => by rw [z, hD] at h; exact (hu _).1 (Option.some.inj h)))
  · exact .inl (.inr ⟨o, k _ _ h fun z => by rw [z, hD] at h; exact (hu _).2 o (Option.some.inj h)⟩)
  · exact .inr h
theorem no_dict {kvs : List (Key × V)} : ∀ xs, (HO.dK kvs) ≠ .tup xs ∧ ∀ o, (HO.dK kvs) ≠ .frz o (.tup xs) := fun xs => ⟨fun z => (by cases z), fun o z => (by cases z)⟩
theorem no_ins {C dx : Addr} {fs : List (Str × V)} : ∀ xs, (HO.ins C dx fs) ≠ .tup xs ∧ ∀ o, (HO.ins C dx fs) ≠ .frz o (.tup xs) := fun xs => ⟨fun z => (by cases z), fun o z => (by cases z)⟩
/-- rows that are right -/
def RowsOk (p : Int) (n : Nat) (rs : List (List Int)) : Prop := rs.length ≤ 16 ∧ ∀ r ∈ rs, RowOk p n r
/-- check_rows_of_person(prime, width, rows) of good rows -/
def spPersonOk (K : PySem.W.Frag) : Sp := fun vs H Q _ => ∃ (p : Int) (n : Nat) (a : Addr) (xs : List V) (rs : List (List Int)), vs = [.int p, .int (n : Int), .ref a] ∧ SqL K H a xs ∧ RowsV K H xs rs ∧ RowsOk p n rs ∧ n ≤ 1000 ∧ ∀ H', Same H H' → Q .non H'
theorem ok_check_rows_of_person (T : Txt K mg) : FnOk P w K mg base (L2.CX P w) 4 T.f_check_rows_of_person T.fd_check_rows_of_person ["prime", "width", "rows"] (spPersonOk K) := by
  refine T.F_check_rows_of_person.okX sc_check_rows_of_person (fun vs H Q E h => ?_) (fun cdv A outer s H vs Q E hr h => ?_)
  · obtain ⟨p, n, a, xs, rs, rfl, _⟩ := h
    rfl
  · obtain ⟨p, n, a, xs, rs, rfl, ha, hx, ⟨hl, hro⟩, hn, q⟩ := h
    refine ⟨_, (pss_cons (ps_if (pt_cmpR op_gt (pe_callB (id := "len") (r := rLenS K) call_lenS (by rfl) T.n_len PySem.boot_len (pa_cons (pv 2) pa_nil)) (pe_glob (v := .int 16) rfl T.c_MOST_ROWS ⟨_, rfl⟩) (nomark _))
      (pss_one (ps_raise rfl (takes_of rfl rfl rfl rfl) (pmk_err T.er_BadCount T.iC_BadCount T.tI_BadCount (ok_BadCount__init_ T) (hr.mono (by decide)) T.b_BadCount__init_ (by rfl) T.g_BadCount (pe_callB (id := "len") (r := rLenS K) call_lenS (by rfl) T.n_len PySem.boot_len (pa_cons (pv 2) pa_nil))))) pss_nil)
    (pss_one (ps_for (passes_of rfl) rfl (pi_hold (pi_list (pv 2))) (pg_name (i := 3) sc_check_rows_of_person.nd rfl (Or.inl rfl))
      (pss_one (ps_if (pt_not (pt_val (pe_call (ok_has_numbers T) (hr.mono (by decide)) (by rfl) T.g_has_numbers T.F_has_numbers.kp T.b_has_numbers .nil pass0 (pa_cons (pv 0) (pa_cons (pv 3) (pa_cons (pv 1) pa_nil))))))
      (pss_one (ps_raise rfl (takes_of rfl rfl rfl rfl) (pmk_err T.er_BadRow T.iC_BadRow T.tI_BadRow (ok_BadRow__init_ T) (hr.mono (by decide)) T.b_BadRow__init_ (by rfl) T.g_BadRow (pv 3)))) pss_nil))))), ?_⟩
    have hxl := paired_len hx
    walk_at "rd"
    refine ite2 (fun e => ?_) (fun e => ?_)
    · have := of_decide_eq_true e
      omega
    · walk_at "rd"
      refine ⟨⟨_, ha⟩, ⟨for_it (walk_list (xs := xs)) (fun i σ H' => ∃ (y : Option V), σ = [some (.int p), some (.int (n : Int)), some (.ref a), y] ∧ Same H H') ⟨none, rfl, Same.refl H⟩ (fun i σ H' _ ⟨_, _, s⟩ => s.seq ha) ?_ ?_⟩⟩
      · rintro i x _ H1 H2 hil ⟨y, rfl, s1⟩ ⟨rfl, hxi⟩
        obtain ⟨ns, hnsi, hrv⟩ := OS.paired_get hx hxi
        have hok := hro ns (List.mem_of_getElem? hnsi)
        have hth := (hrv.same s1).thing
        have hl1 : ∀ zs, (some (ns.map V.int)) = some zs → zs.length ≤ 1000 := fun zs e => by
          obtain rfl := Option.some.inj e
          rw [List.length_map, hok.len]
          exact hn
        walk_at "rd"
        intro H3 s3
        rw [hok.nums]
        walk_at "rd"
        exact s1.trans s3
      · rintro σ H1 ⟨y, rfl, s1⟩
        exact q H1 s1
theorem ok_Scheme_prime (T : Txt K mg) : FnOk P w K mg base CX0 1 T.f_Scheme_prime T.fd_Scheme_prime ["self"] (getSp T.C_Scheme "_prime") := by
  refine T.F_Scheme_prime.ok sc_Scheme_prime (fun vs H Q E h => ?_) (fun cdv A outer s H vs Q E hr h => ?_)
  · obtain ⟨a, dx, fs, v, e, _⟩ := h
    rw [e]
    rfl
  · obtain ⟨a, dx, fs, v, e, ea, l, q⟩ := h
    subst e
    refine ⟨_, (pss_one (ps_ret (pe_fld (pv 0) rfl))), ?_⟩
    exact ⟨_, rfl, a, T.C_Scheme, dx, fs, v, rfl, ea, T.cl_Scheme, T.na_prime, l, q⟩
theorem ok_Scheme_width (T : Txt K mg) : FnOk P w K mg base CX0 1 T.f_Scheme_width T.fd_Scheme_width ["self"] (getSp T.C_Scheme "_width") := by
  refine T.F_Scheme_width.ok sc_Scheme_width (fun vs H Q E h => ?_) (fun cdv A outer s H vs Q E hr h => ?_)
  · obtain ⟨a, dx, fs, v, e, _⟩ := h
    rw [e]
    rfl
  · obtain ⟨a, dx, fs, v, e, ea, l, q⟩ := h
    subst e
    refine ⟨_, (pss_one (ps_ret (pe_fld (pv 0) rfl))), ?_⟩
    exact ⟨_, rfl, a, T.C_Scheme, dx, fs, v, rfl, ea, T.cl_Scheme, T.na_width, l, q⟩
theorem ok_Scheme_persons (T : Txt K mg) : FnOk P w K mg base CX0 1 T.f_Scheme_persons T.fd_Scheme_persons ["self"] (getSp T.C_Scheme "_persons") := by
  refine T.F_Scheme_persons.ok sc_Scheme_persons (fun vs H Q E h => ?_) (fun cdv A outer s H vs Q E hr h => ?_)
  · obtain ⟨a, dx, fs, v, e, _⟩ := h
    rw [e]
    rfl
  · obtain ⟨a, dx, fs, v, e, ea, l, q⟩ := h
    subst e
    refine ⟨_, (pss_one (ps_ret (pe_fld (pv 0) rfl))), ?_⟩
    exact ⟨_, rfl, a, T.C_Scheme, dx, fs, v, rfl, ea, T.cl_Scheme, T.na_persons, l, q⟩
def schF (p : Int) (n : Nat) (a d : Addr) : List (Str × V) := putF "_rows" (.ref d) (putF "_persons" (.ref a) (putF "_width" (.int (n : Int)) (putF "_prime" (.int p) [])))
/-- a Scheme stands at f -/
def SchAt (K : PySem.W.Frag) (C : Addr) (H : Hp) (f : Addr) (p : Int) (n : Nat) (ws : List Str) (ro : Str → List (List Int)) : Prop :=
  ∃ (dx a d : Addr) (kvs : List (Key × V)), H f = some (.ins C dx (schF p n a d)) ∧ SqT K H a (ws.map V.str) ∧ H d = some (.dK kvs) ∧ DHas (fun k v => RowsT K H v (ro k)) kvs ws
theorem SchAt.same {C : Addr} {H H' : Hp} {f : Addr} {p : Int} {n : Nat} {ws : List Str} {ro : Str → List (List Int)} (h : SchAt K C H f p n ws ro) (s : Same H H') : SchAt K C H' f p n ws ro := by
  obtain ⟨dx, a, d, kvs, h1, h2, h3, h4⟩ := h
  exact ⟨dx, a, d, kvs, s _ _ h1, s.tupT h2, s _ _ h3, h4.mono fun _ _ q => q.same s⟩
theorem k_pw : ¬ (("_prime" : Str) = "_width") := by decide +kernel
theorem k_pp : ¬ (("_prime" : Str) = "_persons") := by decide +kernel
theorem k_pr : ¬ (("_prime" : Str) = "_rows") := by decide +kernel
theorem k_wp : ¬ (("_width" : Str) = "_persons") := by decide +kernel
theorem k_wr : ¬ (("_width" : Str) = "_rows") := by decide +kernel
theorem k_sr : ¬ (("_persons" : Str) = "_rows") := by decide +kernel
theorem sch_prime (p : Int) (n : Nat) (a d : Addr) : (schF p n a d).lookup ("_prime" : Str) = some (.int p) := by
  unfold schF
  rw [lookup_putF, if_neg k_pr, lookup_putF, if_neg k_pp, lookup_putF, if_neg k_pw, lookup_putF, if_pos rfl]
theorem sch_width (p : Int) (n : Nat) (a d : Addr) : (schF p n a d).lookup ("_width" : Str) = some (.int (n : Int)) := by
  unfold schF
  rw [lookup_putF, if_neg k_wr, lookup_putF, if_neg k_wp, lookup_putF, if_pos rfl]
theorem sch_persons (p : Int) (n : Nat) (a d : Addr) : (schF p n a d).lookup ("_persons" : Str) = some (.ref a) := by
  unfold schF
  rw [lookup_putF, if_neg k_sr, lookup_putF, if_pos rfl]
theorem sch_rows (p : Int) (n : Nat) (a d : Addr) : (schF p n a d).lookup ("_rows" : Str) = some (.ref d) := by
  unfold schF
  rw [lookup_putF, if_pos rfl]
theorem sch_no (p : Int) (n : Nat) (a d : Addr) {m : Str} (h1 : ¬ m = "_prime") (h2 : ¬ m = "_width") (h3 : ¬ m = "_persons") (h4 : ¬ m = "_rows") : (schF p n a d).lookup m = none := by
  unfold schF
  rw [lookup_putF, if_neg h4, lookup_putF, if_neg h3, lookup_putF, if_neg h2, lookup_putF, if_neg h1]
  rfl
/-- names of persons -/
structure NamesOk (ks : List Str) : Prop where
  one : 1 ≤ ks.length
  five : ks.length ≤ 5
  nd : ks.Nodup
  ok : ∀ z ∈ ks, okN z.cps.toList = true
end
end P

set_option Elab.async false
set_option linter.all false
set_option maxRecDepth 100000
set_option maxHeartbeats 4000000
/-! sets of texts: set(list), set(tuple), sorted(set) -/
namespace OS
open PySem PySem.Spec PyProof.Rows L2 PySem.Froz

/-- the texts met, the last one first -/
def metS (xs : List Str) : List Str := xs.foldl (fun l k => if k ∈ l then l else k :: l) []
theorem metS_snoc (xs : List Str) (k : Str) : metS (xs ++ [k]) = if k ∈ metS xs then metS xs else k :: metS xs := by
  unfold metS
  rw [List.foldl_append]
  rfl
theorem metS_facts (xs : List Str) : (metS xs).Nodup ∧ (∀ k, k ∈ metS xs ↔ k ∈ xs) ∧ (metS xs).length ≤ xs.length := by
  suffices h : ∀ ys : List Str, (metS ys.reverse).Nodup ∧ (∀ k, k ∈ metS ys.reverse ↔ k ∈ ys.reverse) ∧ (metS ys.reverse).length ≤ ys.reverse.length by
    have := h xs.reverse
    rwa [List.reverse_reverse] at this
  intro ys
  induction ys with
  | nil => exact ⟨List.Pairwise.nil, fun k => Iff.rfl, Nat.le_refl _⟩
  | cons y ys ih =>
    obtain ⟨h1, h2, h3⟩ := ih
    rw [List.reverse_cons, metS_snoc]
    by_cases e : y ∈ metS ys.reverse
    · rw [if_pos e]
      refine ⟨h1, fun k => ?_, by rw [List.length_append]; omega⟩
      rw [h2, List.mem_append, List.mem_singleton]
      exact ⟨.inl, fun z => z.elim id fun z => z ▸ (h2 y).mp e⟩
    · rw [if_neg e]
      refine ⟨List.nodup_cons.mpr ⟨e, h1⟩, fun k => ?_, by rw [List.length_cons, List.length_append]; exact Nat.succ_le_succ h3⟩
      rw [List.mem_cons, h2, List.mem_append, List.mem_singleton]
      exact Or.comm
/-- a set's payload of texts that can be walked -/
structure TxR (P : Program) (w : World) (D : SD) (l : List Str) : Prop where
  ok : TxOk P w D l
  ris : Ris D.2.2.place.toList
  led : w.params.followText "set-order" = true ∨ D.2.2.led = true
section
variable {P : Program} {w : World} {A : Around} {E : Value → Shared → Prop} {s : Shared}
theorem TxR.add {D : SD} {l : List Str} {k : Str} (u : Tok) (F : TxR P w D l) : TxR P w (addTx (hashStr w k) (.str k u) D) (k :: l) := by
  have hr := layNew_ris D.2.2 D.1 (hashStr w k) (.str k u) F.ris
  have hl := layNew_led D.2.2 D.1 (hashStr w k) (.str k u)
  have tailR : ∀ (ep : Nat) (es : Array (Int × Value)) (t : SetTable) (b : Bool), Ris t.place.toList → Ris (tailTx ep es t b).2.2.place.toList := fun ep es t b h => by
    unfold tailTx
    by_cases c : (!b && t.tooFull) = true
    · rw [if_pos c]
      exact relayAll_ris _ _ _
    · rw [if_neg c]
      exact h
  have tailL : ∀ (ep : Nat) (es : Array (Int × Value)) (t : SetTable) (b : Bool), t.led = true → (tailTx ep es t b).2.2.led = true := fun ep es t b h => by
    unfold tailTx
    by_cases c : (!b && t.tooFull) = true
    · rw [if_pos c]
      exact (relayAll_led _ _ _).trans h
    · rw [if_neg c]
      exact h
  refine ⟨add_ok u F.ok, ?_, F.led.imp id fun z => ?_⟩
  · unfold addTx
    refine tailR _ _ _ _ ?_
    by_cases c : (layNew D.2.2 D.1 (hashStr w k) (.str k u)).2.1.plain = true
    · rw [if_pos c]
      exact hr
    · rw [if_neg c]
      exact hr
  · unfold addTx
    refine tailL _ _ _ _ ?_
    by_cases c : (layNew D.2.2 D.1 (hashStr w k) (.str k u)).2.1.plain = true
    · rw [if_pos c]
      exact hl.trans z
    · rw [if_neg c]
      exact hl.trans z
/-- the add of a text that is in -/
theorem dup_x {a : Addr} {T : String} {D : SD} {l : List Str} {k : Str} {u : Tok} {Q : Bool → Shared → Prop} (ho : s.heap.get? a = some (sObj T D)) (F : TxOk P w D l) (hk : k ∈ l) (hb : l.length < scanBound) (h : Q false s) :
    wpAny (model P w) A (setAddHashed a (.str k u) (hashStr w k)) Q E s := by
  obtain ⟨es, ep, t⟩ := D
  have hb' : es.size < scanBound := by
    have : es.size = l.length := F.sz
    omega
  unfold setAddHashed setAddHashedIn
  refine wpAny_holding (wpAny_bind (wpAny_setState_of ho rfl F.fit ?_))
  dsimp only
  rw [byScan_of rfl hb' F.el]
  simp only [↓reduceIte]
  unfold setAddByScan
  refine wpAny_bind ?_
  refine wpAny_bind (wpAny_rule ?_)
  refine wpAny_bind (wpAny_setScan_of (is_str (P := P) (w := w) k u) ho rfl F.fit F.el ?_)
  obtain ⟨e, he, q⟩ := (F.mem k).mp hk
  cases hf : List.findIdx? (fun e => (strKind P w).is k e.2) es.toList with
  | none =>
    have := List.findIdx?_eq_none_iff.mp hf e he
    rw [q] at this
    cases this
  | some j =>
    dsimp only
    exact wpAny_pure (wpAny_pure h)
end
section
variable {P : Program} {w : World} {A : Around} {R : Result → Shared → Prop} {I : Addr} {fp wr : List Addr} {G : Array GenState → Array GenState → Prop} {n : Nat} {Pv : Nat → Value → Prop} {St : Nat → Shared → Prop}
/-- what set.update's loop comes to, over texts -/
theorem upd_txt (W : WalksS P w A.in1 I fp wr G n Pv St) (S : Addr) (hS : S ∉ fp) (xs : List Str) (hn : xs.length = n) (hv : ∀ i v, Pv i v → ∃ u x, xs[i]? = some x ∧ v = .str x u) (hb : n + 1 < scanBound) :
    ∀ (k i : Nat) (s : Shared), n - i = k → i ≤ n → St i s → (∃ D, s.heap.get? S = some (sObj "set" D) ∧ TxR P w D (metS (xs.take i))) →
      (∀ s', Moved (S :: wr) G s s' → (∃ D, s'.heap.get? S = some (sObj "set" D) ∧ TxR P w D (metS xs)) → R (.ok (.ret .none)) s') →
      codeAny (model P w) A (.builtin "set.update.loop" ⟨[.ref S, .ref I], []⟩) R s := by
  have hw : S ∉ wr := fun h => hS (W.sub _ h)
  have wide : ∀ b ∈ wr, b ∈ S :: wr := fun b h => List.mem_cons_of_mem _ h
  intro k
  induction k with
  | zero =>
    intro i s hk hi hst ⟨D, hD, T⟩ hR
    obtain rfl : i = n := by omega
    refine codeAny_builtin PyProof.Rows.F.entry_set_update_loop ?_
    rw [Around.under_plainId PyProof.Rows.F.plain_set_update_loop _]
    show wpAny _ A.in1 (pyNext (.ref I) >>= _) _ _ s
    refine wpAny_bind (W.done s _ _ hst fun s' hm => ?_)
    show wpAny _ A.in1 (ret Value.none) _ _ s'
    rw [← hn, List.take_length] at T
    exact wpAny_pure (hR s' (hm.mono wide) ⟨D, hm.heap S _ hw hD, T⟩)
  | succ k ih =>
    intro i s hk hi hst ⟨D, hD, T⟩ hR
    have hlt : i < n := by omega
    refine codeAny_builtin PyProof.Rows.F.entry_set_update_loop ?_
    rw [Around.under_plainId PyProof.Rows.F.plain_set_update_loop _]
    show wpAny _ A.in1 (pyNext (.ref I) >>= _) _ _ s
    refine wpAny_bind (W.item i s _ _ hlt hst fun v s' hP hst' hm => ?_)
    obtain ⟨u, x, hx, rfl⟩ := hv i v hP
    have hD' := hm.heap S _ hw hD
    have hlen : (metS (xs.take i)).length ≤ i := Nat.le_trans (metS_facts _).2.2 (by rw [List.length_take]; omega)
    have tk : xs.take (i + 1) = xs.take i ++ [x] := by
      rw [List.take_succ, hx]
      rfl
    show wpAny _ A.in1 (holding [Value.str x u] (setAdd S (.str x u)) >>= _) _ _ s'
    refine wpAny_bind (wpAny_holding ?_)
    unfold setAdd
    refine wpAny_holding ?_
    refine wpAny_bind ((strKind P w).pyHash (k := x) (is_str _ _) ?_)
    by_cases e : x ∈ metS (xs.take i)
    · refine dup_x (l := metS (xs.take i)) (D := D) (s := { s' with toks := s'.toks + 1 }) hD' T.ok e (by omega) ?_
      refine wpAny_pure ⟨plainId_quiet PyProof.Rows.F.plain_set_update_loop _, ih (i + 1) _ (by omega) hlt (W.frame _ s' s'.heap _ hst' (Nat.le_succ _) fun b _ o q => q) ⟨D, hD', by rw [tk, metS_snoc, if_pos e]; exact T⟩ fun s2 hm2 h2 => ?_⟩
      exact hR s2 (Moved.trans W.gtrans ((hm.mono wide).then_heap (Nat.le_succ _) fun b o _ q => q) hm2) h2
    · have ha2 : (s'.heap.update S (fun _ => sObj "set" (addTx (hashStr w x) (.str x u) D))).get? S = some (sObj "set" (addTx (hashStr w x) (.str x u) D)) := get_upd _ hD' rfl
      refine add_x (l := metS (xs.take i)) (D := D) (s := { s' with toks := s'.toks + 1 }) hD' T.ok e (by omega) ?_
      refine wpAny_pure ⟨plainId_quiet PyProof.Rows.F.plain_set_update_loop _, ih (i + 1) _ (by omega) hlt (W.frame _ s' _ _ hst' (Nat.le_succ _) fun b hb' o q => ?_) ⟨_, ha2, by rw [tk, metS_snoc, if_neg e]; exact T.add u⟩ fun s2 hm2 h2 => ?_⟩
      · exact Heap.get?_update_of_ne _ (fun z => hS (z ▸ hb')) q
      · refine hR s2 (Moved.trans W.gtrans ((hm.mono wide).then_heap (Nat.le_succ _) fun b o hb' q => ?_) hm2) h2
        exact Heap.get?_update_of_ne _ (fun z => hb' (by rw [← z]; exact List.mem_cons_self ..)) q
end
section
variable {P : Program} {w : World} {A : Around} {E : Value → Shared → Prop} {s : Shared}

set_option maxRecDepth 100000 in
set_option maxHeartbeats 3200000 in
/-- set(xs) of a list of texts -/
theorem set_of_list {l : Addr} {items : Array Value} {xs : List Str} {Q : Value → Shared → Prop} (hh : A.handled = none) (hl : s.heap.IsList l items) (hit : Vals (xs.map V.str) items.toList) (hb : xs.length + 1 < scanBound)
    (h : ∀ (h' : Heap) (tk : Nat), (∃ D, h'.get? s.heap.objs.size = some (sObj "set" D) ∧ TxR P w D (metS xs)) → (∀ b o, s.heap.get? b = some o → h'.get? b = some o) → Q (.ref s.heap.objs.size) { s with heap := h', toks := tk }) :
    wpAny (model P w) A (call (.type "set") [.ref l]) Q E s := by
  have hsz : items.size = xs.length := by
    have q := hit.length
    rw [List.length_map, Array.length_toList] at q
    exact q.symm
  obtain ⟨c, tl, hmro⟩ := F.called_set.mro
  have hmade := F.called_set.made
  have hsub := F.called_set.sub
  refine wpAny_call (codeAny_of_tree ?_)
  show wpAny _ _ (callAny (.type "set") _) _ _ _
  refine wpAny_pure ⟨Code.quiet_builtin _ (by decide +kernel), codeAny_builtin F.entry_type_call ?_⟩
  rw [Around.under_plain (weight_type_call_type "set" [.ref l] []) rfl]
  have h1 := F.called_set.notType
  have h2 := F.called_set.canCreate
  have hct := F.typeCall_set_1 (.ref l)
  repeat (any_goals (first | assumption | wp_step))
  generalize he0 : (!w.params.followText "set-order") = ld
  refine codeAny_mono (code_set_led1 (.ref l) (E := E) (Q₁ := fun obj s1 => obj = .ref s.heap.objs.size ∧ s1 = { s with heap := s.heap.push ({ cls := .type "set", dict := none, data := .set #[] 0 (.fresh 0 0 ld) } : Obj) }) ⟨rfl, by rw [he0]⟩) fun r s1 hr => ?_
  cases r with
  | error e => exact hr
  | ok fl =>
    cases fl with
    | ret obj =>
      obtain ⟨rfl, rfl⟩ := hr
      have hS : (s.heap.push ({ cls := .type "set", dict := none, data := .set #[] 0 (.fresh 0 0 ld) } : Obj)).get? s.heap.objs.size = some ({ cls := .type "set", dict := none, data := .set #[] 0 (.fresh 0 0 ld) } : Obj) := Heap.get?_push_size _ rfl
      have hT : Shared.TypeIs { s with heap := s.heap.push ({ cls := .type "set", dict := none, data := .set #[] 0 (.fresh 0 0 ld) } : Obj) } (.ref s.heap.objs.size) "set" := ⟨_, hS, rfl⟩
      have hli := F.called_set.init.lookup
      have hbi := F.called_set.init.bind (.ref s.heap.objs.size)
      repeat (any_goals (first | assumption | wp_step))
      refine codeAny_mono (codeAny_call_builtin (R := wants (fun r s2 => r = .none ∧ ∃ h' tk, s2 = { s with heap := h', toks := tk } ∧ (∃ D, h'.get? s.heap.objs.size = some (sObj "set" D) ∧ TxR P w D (metS xs)) ∧ (∀ b o, s.heap.get? b = some o → h'.get? b = some o)) E) F.called_set.init.plain F.entry_set_init (check_set_init_1 hT ?_)) fun r2 s2 hr2 => ?_
      · obtain ⟨ol, hol, hcl, nl, hdl⟩ := hl
        obtain ⟨ocls, odict, odata, oslots⟩ := ol
        simp only at hcl hdl
        subst hcl hdl
        have hol' : (s.heap.push ({ cls := .type "set", dict := none, data := .set #[] 0 (.fresh 0 0 ld) } : Obj)).get? l = some { cls := .type "list", dict := odict, data := .seq items nl, slots := oslots } := Heap.get?_push_of_some _ hol
        have hsls := F.sub_list_set
        have hslf := F.sub_list_frozenset
        have hne : (Value.type "list" == Value.type "dict") = false := by decide
        have hl1 : (s.heap.push ({ cls := .type "set", dict := none, data := .set #[] 0 (.fresh 0 0 ld) } : Obj)).IsList l items := ⟨_, hol', rfl, nl, rfl⟩
        unfold Builtin.«set.__init__» noKeywords Builtin.Frozenset.updateFrom
        generalize hPI : pyIter = PI
        wp_walk
        subst hPI
        refine wpAny_pyIter_list (s := { s with heap := s.heap.push ({ cls := .type "set", dict := none, data := .set #[] 0 (.fresh 0 0 ld) } : Obj) }) hl1 ?_
        refine wpAny_bind (wpAny_runValue ?_)
        have hlS : l < s.heap.objs.size := Heap.lt_size hol
        have hh3 : A.in1.in1.in1.handled = none := by simp [hh]
        have hneI : l ≠ (s.heap.push ({ cls := .type "set", dict := none, data := .set #[] 0 (.fresh 0 0 ld) } : Obj)).objs.size := by
          rw [Heap.size_push]
          exact Nat.ne_of_lt (Nat.lt_succ_of_lt hlS)
        have hSf : s.heap.objs.size ∉ [(s.heap.push ({ cls := .type "set", dict := none, data := .set #[] 0 (.fresh 0 0 ld) } : Obj)).objs.size, l] := by
          rw [Heap.size_push]
          simp only [List.mem_cons, List.mem_singleton, List.not_mem_nil, or_false, not_or]
          exact ⟨Nat.ne_of_lt (Nat.lt_succ_self _), Nat.ne_of_gt hlS⟩
        have hv : ∀ (i : Nat) (v : Value), items[i]? = some v → ∃ u x, xs[i]? = some x ∧ v = .str x u := fun i v hv => by
          have hi : i < xs.length := by
            rw [← hsz]
            exact (Array.getElem?_eq_some_iff.mp hv).1
          have e : (xs.map V.str)[i]? = some (V.str xs[i]) := by rw [List.getElem?_map, List.getElem?_eq_getElem hi]; rfl
          obtain ⟨u, hu, ru⟩ := hit.get e
          rw [Array.getElem?_toList, hv] at hu
          obtain rfl := Option.some.inj hu
          obtain ⟨t, rfl⟩ := ru
          exact ⟨t, _, List.getElem?_eq_getElem hi, rfl⟩
        refine upd_txt ((Walks.list hh3 _ l hneI items).toS) s.heap.objs.size hSf xs hsz.symm hv (by rw [hsz]; exact hb) (items.size - 0) 0 _ (by omega) (Nat.zero_le _) ⟨⟨_, Heap.get?_push_size _ rfl, rfl, rfl⟩, (hl1.push _)⟩ ?h0 ?hR
        case h0 =>
          refine ⟨(#[], 0, .fresh 0 0 ld), ?_, ⟨.nil (by rfl), List.Pairwise.nil, ?_⟩⟩
          · exact Heap.get?_push_of_some _ hS
          · rw [← he0]
            show _ ∨ (!w.params.followText "set-order") = true
            cases w.params.followText "set-order"
            · exact .inr rfl
            · exact .inl rfl
        case hR =>
          intro s' hm hD
          obtain ⟨h', g', d', tk', os'⟩ := s'
          have eg : g' = s.gens := hm.gens
          have ed : d' = s.drawn := hm.drawn
          have eo : os' = s.os := hm.os
          subst eg ed eo
          show wpAny _ _ _ _ _ _
          refine wpAny_pure ?_
          show wpAny _ _ (ret Value.none) _ _ _
          refine wpAny_pure ⟨rfl, h', tk', rfl, hD, fun b o e => ?_⟩
          have hb0 : b < s.heap.objs.size := Heap.lt_size e
          refine hm.heap b o ?_ (Heap.get?_push_of_some _ (Heap.get?_push_of_some _ e))
          rw [Heap.size_push]
          simp only [List.mem_cons, List.mem_singleton, List.not_mem_nil, or_false, not_or]
          exact ⟨Nat.ne_of_lt hb0, Nat.ne_of_lt (Nat.lt_succ_of_lt hb0)⟩
      · cases r2 with
        | error e => exact hr2
        | ok fl2 =>
          cases fl2 with
          | ret r =>
            obtain ⟨rfl, h', tk, rfl, hD, hk⟩ := hr2
            repeat (any_goals (first | assumption | wp_step))
            exact h _ _ hD hk
          | _ => exact hr2.elim
    | _ => exact hr.elim

set_option maxRecDepth 100000 in
set_option maxHeartbeats 3200000 in
/-- set(xs) of a tuple of texts -/
theorem set_of_tuple {l : Addr} {items : Array Value} {xs : List Str} {Q : Value → Shared → Prop} (hh : A.handled = none) (hl : s.heap.IsTuple l items) (hit : Vals (xs.map V.str) items.toList) (hb : xs.length + 1 < scanBound)
    (h : ∀ (h' : Heap) (tk : Nat), (∃ D, h'.get? s.heap.objs.size = some (sObj "set" D) ∧ TxR P w D (metS xs)) → (∀ b o, s.heap.get? b = some o → h'.get? b = some o) → Q (.ref s.heap.objs.size) { s with heap := h', toks := tk }) :
    wpAny (model P w) A (call (.type "set") [.ref l]) Q E s := by
  have hsz : items.size = xs.length := by
    have q := hit.length
    rw [List.length_map, Array.length_toList] at q
    exact q.symm
  obtain ⟨c, tl, hmro⟩ := F.called_set.mro
  have hmade := F.called_set.made
  have hsub := F.called_set.sub
  refine wpAny_call (codeAny_of_tree ?_)
  show wpAny _ _ (callAny (.type "set") _) _ _ _
  refine wpAny_pure ⟨Code.quiet_builtin _ (by decide +kernel), codeAny_builtin F.entry_type_call ?_⟩
  rw [Around.under_plain (weight_type_call_type "set" [.ref l] []) rfl]
  have h1 := F.called_set.notType
  have h2 := F.called_set.canCreate
  have hct := F.typeCall_set_1 (.ref l)
  repeat (any_goals (first | assumption | wp_step))
  generalize he0 : (!w.params.followText "set-order") = ld
  refine codeAny_mono (code_set_led1 (.ref l) (E := E) (Q₁ := fun obj s1 => obj = .ref s.heap.objs.size ∧ s1 = { s with heap := s.heap.push ({ cls := .type "set", dict := none, data := .set #[] 0 (.fresh 0 0 ld) } : Obj) }) ⟨rfl, by rw [he0]⟩) fun r s1 hr => ?_
  cases r with
  | error e => exact hr
  | ok fl =>
    cases fl with
    | ret obj =>
      obtain ⟨rfl, rfl⟩ := hr
      have hS : (s.heap.push ({ cls := .type "set", dict := none, data := .set #[] 0 (.fresh 0 0 ld) } : Obj)).get? s.heap.objs.size = some ({ cls := .type "set", dict := none, data := .set #[] 0 (.fresh 0 0 ld) } : Obj) := Heap.get?_push_size _ rfl
      have hT : Shared.TypeIs { s with heap := s.heap.push ({ cls := .type "set", dict := none, data := .set #[] 0 (.fresh 0 0 ld) } : Obj) } (.ref s.heap.objs.size) "set" := ⟨_, hS, rfl⟩
      have hli := F.called_set.init.lookup
      have hbi := F.called_set.init.bind (.ref s.heap.objs.size)
      repeat (any_goals (first | assumption | wp_step))
      refine codeAny_mono (codeAny_call_builtin (R := wants (fun r s2 => r = .none ∧ ∃ h' tk, s2 = { s with heap := h', toks := tk } ∧ (∃ D, h'.get? s.heap.objs.size = some (sObj "set" D) ∧ TxR P w D (metS xs)) ∧ (∀ b o, s.heap.get? b = some o → h'.get? b = some o)) E) F.called_set.init.plain F.entry_set_init (check_set_init_1 hT ?_)) fun r2 s2 hr2 => ?_
      · obtain ⟨ol, hol, hcl, nl, hdl⟩ := hl
        obtain ⟨ocls, odict, odata, oslots⟩ := ol
        simp only at hcl hdl
        subst hcl hdl
        have hol' : (s.heap.push ({ cls := .type "set", dict := none, data := .set #[] 0 (.fresh 0 0 ld) } : Obj)).get? l = some { cls := .type "tuple", dict := odict, data := .seq items nl, slots := oslots } := Heap.get?_push_of_some _ hol
        have hsls := F.sub_tuple_set
        have hslf := F.sub_tuple_frozenset
        have hne : (Value.type "tuple" == Value.type "dict") = false := by decide
        have hl1 : (s.heap.push ({ cls := .type "set", dict := none, data := .set #[] 0 (.fresh 0 0 ld) } : Obj)).IsTuple l items := ⟨_, hol', rfl, nl, rfl⟩
        unfold Builtin.«set.__init__» noKeywords Builtin.Frozenset.updateFrom
        generalize hPI : pyIter = PI
        wp_walk
        subst hPI
        refine wpAny_pyIter_tuple (s := { s with heap := s.heap.push ({ cls := .type "set", dict := none, data := .set #[] 0 (.fresh 0 0 ld) } : Obj) }) hl1 ?_
        refine wpAny_bind (wpAny_runValue ?_)
        have hlS : l < s.heap.objs.size := Heap.lt_size hol
        have hh3 : A.in1.in1.in1.handled = none := by simp [hh]
        have hneI : l ≠ (s.heap.push ({ cls := .type "set", dict := none, data := .set #[] 0 (.fresh 0 0 ld) } : Obj)).objs.size := by
          rw [Heap.size_push]
          exact Nat.ne_of_lt (Nat.lt_succ_of_lt hlS)
        have hSf : s.heap.objs.size ∉ [(s.heap.push ({ cls := .type "set", dict := none, data := .set #[] 0 (.fresh 0 0 ld) } : Obj)).objs.size, l] := by
          rw [Heap.size_push]
          simp only [List.mem_cons, List.mem_singleton, List.not_mem_nil, or_false, not_or]
          exact ⟨Nat.ne_of_lt (Nat.lt_succ_self _), Nat.ne_of_gt hlS⟩
        have hv : ∀ (i : Nat) (v : Value), items[i]? = some v → ∃ u x, xs[i]? = some x ∧ v = .str x u := fun i v hv => by
          have hi : i < xs.length := by
            rw [← hsz]
            exact (Array.getElem?_eq_some_iff.mp hv).1
          have e : (xs.map V.str)[i]? = some (V.str xs[i]) := by rw [List.getElem?_map, List.getElem?_eq_getElem hi]; rfl
          obtain ⟨u, hu, ru⟩ := hit.get e
          rw [Array.getElem?_toList, hv] at hu
          obtain rfl := Option.some.inj hu
          obtain ⟨t, rfl⟩ := ru
          exact ⟨t, _, List.getElem?_eq_getElem hi, rfl⟩
        refine upd_txt ((Walks.tuple hh3 _ l hneI items).toS) s.heap.objs.size hSf xs hsz.symm hv (by rw [hsz]; exact hb) (items.size - 0) 0 _ (by omega) (Nat.zero_le _) ⟨⟨_, Heap.get?_push_size _ rfl, rfl, rfl⟩, (hl1.push _)⟩ ?h0 ?hR
        case h0 =>
          refine ⟨(#[], 0, .fresh 0 0 ld), ?_, ⟨.nil (by rfl), List.Pairwise.nil, ?_⟩⟩
          · exact Heap.get?_push_of_some _ hS
          · rw [← he0]
            show _ ∨ (!w.params.followText "set-order") = true
            cases w.params.followText "set-order"
            · exact .inr rfl
            · exact .inl rfl
        case hR =>
          intro s' hm hD
          obtain ⟨h', g', d', tk', os'⟩ := s'
          have eg : g' = s.gens := hm.gens
          have ed : d' = s.drawn := hm.drawn
          have eo : os' = s.os := hm.os
          subst eg ed eo
          show wpAny _ _ _ _ _ _
          refine wpAny_pure ?_
          show wpAny _ _ (ret Value.none) _ _ _
          refine wpAny_pure ⟨rfl, h', tk', rfl, hD, fun b o e => ?_⟩
          have hb0 : b < s.heap.objs.size := Heap.lt_size e
          refine hm.heap b o ?_ (Heap.get?_push_of_some _ (Heap.get?_push_of_some _ e))
          rw [Heap.size_push]
          simp only [List.mem_cons, List.mem_singleton, List.not_mem_nil, or_false, not_or]
          exact ⟨Nat.ne_of_lt hb0, Nat.ne_of_lt (Nat.lt_succ_of_lt hb0)⟩
      · cases r2 with
        | error e => exact hr2
        | ok fl2 =>
          cases fl2 with
          | ret r =>
            obtain ⟨rfl, h', tk, rfl, hD, hk⟩ := hr2
            repeat (any_goals (first | assumption | wp_step))
            exact h _ _ hD hk
          | _ => exact hr2.elim
    | _ => exact hr.elim
end
end OS

set_option Elab.async false
set_option linter.all false
set_option maxRecDepth 100000
set_option maxHeartbeats 4000000
/-! set(texts) and sorted(set) as calls -/
namespace OS
open PySem PySem.Spec PyProof.Rows L2 PySem.Froz
open PySem.W (EachIs Sortable list_sort_data)

theorem leS_anti0 {a b : Str} (h1 : leS a b = true) (h2 : leS b a = true) : a = b := by
  have h1 : (!PySem.W.dataLt (.str b) (.str a)) = true := h1
  have h2 : (!PySem.W.dataLt (.str a) (.str b)) = true := h2
  rw [Bool.not_eq_true', PySem.W.dataLt_str] at h1 h2
  exact PySem.W.str_of_cps (List.le_antisymm (List.not_lt.mp (of_decide_eq_false h1)) (List.not_lt.mp (of_decide_eq_false h2)))
theorem sorted_one : ∀ {l m : List Str}, l.Pairwise (fun a b => leS a b = true) → m.Pairwise (fun a b => leS a b = true) → l.Perm m → l = m
  | [], m, _, _, p => (List.nil_perm.mp p).symm
  | x :: l, [], _, _, p => absurd (List.perm_nil.mp p) (by simp)
  | x :: l, y :: m, hl, hm, p => by
    obtain ⟨l1, l2⟩ := List.pairwise_cons.mp hl
    obtain ⟨m1, m2⟩ := List.pairwise_cons.mp hm
    have e : x = y := by
      rcases List.mem_cons.mp (p.mem_iff.mp (List.mem_cons_self ..)) with h | h
      · exact h
      · rcases List.mem_cons.mp (p.mem_iff.mpr (List.mem_cons_self ..)) with h' | h'
        · exact h'.symm
        · exact leS_anti0 (l1 _ h') (m1 _ h)
    subst e
    rw [sorted_one l2 m2 (List.Perm.cons_inv p)]
theorem leS_tot : PySem.W.TotalLe leS := PySem.W.sortLe_total _ _ _
theorem sort_perm {l m : List Str} (p : l.Perm m) : l.mergeSort leS = m.mergeSort leS :=
  sorted_one (PySem.W.sort_pairwise leS_tot l) (PySem.W.sort_pairwise leS_tot m) (((List.mergeSort_perm l leS).trans p).trans (List.mergeSort_perm m leS).symm)
theorem perm_of {l m : List Str} : l.Nodup → (∀ x ∈ l, x ∈ m) → m.length = l.length → m.Perm l := by
  intro hd
  induction l generalizing m with
  | nil =>
    intro _ hn
    rw [List.length_eq_zero_iff.mp hn]
  | cons x l ih =>
    intro hs hn
    obtain ⟨h1, h2⟩ := List.nodup_cons.mp hd
    have hx := hs x (List.mem_cons_self ..)
    refine (List.perm_cons_erase hx).trans (List.Perm.cons x (ih h2 (fun y hy => ?_) ?_))
    · exact (List.mem_erase_of_ne (fun e : y = x => h1 (by rw [← e]; exact hy))).mpr (hs y (List.mem_cons_of_mem _ hy))
    · rw [List.length_erase_of_mem hx, hn]
      rfl
def strOf (v : Value) : Str := match v with | .str x _ => x | _ => default
theorem is_strOf {P : Program} {w : World} {k : Str} {v : Value} (h : (strKind P w).is k v = true) : ∃ u, v = .str k u := by
  change Value.isStrOf k v = true at h
  cases v with
  | str x u =>
    refine ⟨u, ?_⟩
    have : x = k := by simpa [Value.isStrOf] using h
    rw [this]
  | _ => simp [Value.isStrOf] at h
/-- the values of a payload of texts, in any order -/
theorem TxR.vals {P : Program} {w : World} {D : SD} {l : List Str} {vs : List Value} (T : TxR P w D l) (hn : l.Nodup) (p : vs.Perm (D.1.toList.map (·.2))) : (vs.map strOf).Perm l ∧ ∀ v ∈ vs, ∃ u, v = .str (strOf v) u := by
  have all : ∀ v ∈ vs, ∃ k u, v = .str k u := fun v hv => by
    obtain ⟨e, he, rfl⟩ := List.mem_map.mp (p.mem_iff.mp hv)
    obtain ⟨⟨k, hk, _⟩, _⟩ := T.ok.el e he
    obtain ⟨u, q⟩ := is_strOf hk
    exact ⟨k, u, q⟩
  refine ⟨perm_of hn (fun x hx => ?_) ?_, fun v hv => ?_⟩
  · obtain ⟨e, he, q⟩ := (T.ok.mem x).mp hx
    obtain ⟨u, q⟩ := is_strOf q
    exact List.mem_map.mpr ⟨e.2, p.mem_iff.mpr (List.mem_map.mpr ⟨e, he, rfl⟩), by rw [q]; rfl⟩
  · rw [List.length_map, p.length_eq, List.length_map, Array.length_toList]
    exact T.ok.sz
  · obtain ⟨k, u, rfl⟩ := all v hv
    exact ⟨u, rfl⟩
/-- the set of texts at a -/
def TxO (P : Program) (w : World) (a : Addr) (l : List Str) : HO := .ext fun h => ∃ D, h.get? a = some (sObj "set" D) ∧ TxR P w D l
section
variable {X : Cx}
theorem txO_new {P : Program} {w : World} {H : Hp} {h : Heap} {a : Addr} {l : List Str} (R : ∃ D, h.get? a = some (sObj "set" D) ∧ TxR P w D l) : ObjOk P w H h a (TxO P w a l) := by
  obtain ⟨D, hD, T⟩ := id R
  exact ⟨R, ⟨_, hD⟩, fun h1 h2 p k => by
    obtain ⟨D, hD, T⟩ := p
    exact ⟨D, k _ hD, T⟩⟩
/-- set(xs) of a list or a tuple of texts -/
def rSetTx (K : PySem.W.Frag) (P : Program) (w : World) : List V → Hp → VK → Prop := fun xs H Q => ∃ (l : Addr) (ys : List Str), xs = [V.ref l] ∧ (SqL K H l (ys.map V.str) ∨ SqT K H l (ys.map V.str)) ∧ ys.length ≤ 1000 ∧ ∀ p, H p = none → Q (.ref p) (upd H p (TxO P w p (metS ys)))
theorem cr_setTx (hc : X.calm = true) : CallR X (.type "set") (rSetTx X.K X.prog X.w) := by
  intro pins s σ H xs us Q I r h
  obtain ⟨l, ys, rfl, hs, hn, q⟩ := h
  rw [Vals.ref1 r]
  have hb : ys.length + 1 < scanBound := by
    unfold scanBound
    omega
  have fin : ∀ (h' : Heap) (tk : Nat), (∃ D, h'.get? s.heap.objs.size = some (sObj "set" D) ∧ TxR X.prog X.w D (metS ys)) → (∀ b o, s.heap.get? b = some o → h'.get? b = some o) → EP X pins σ Q (.ref s.heap.objs.size) { s with heap := h', toks := tk } := fun h' tk new k =>
    ⟨.ref _, upd H s.heap.objs.size (TxO X.prog X.w s.heap.objs.size (metS ys)), I.laid (t' := tk) k (Nat.le_refl _) (txO_new new), rfl, q _ (I.hok.fresh (Nat.le_refl _))⟩
  rcases hs with hs | hs
  · obtain ⟨its, rv, hl, _⟩ := I.list hs
    exact set_of_list (I.ok.hd hc) hl.isList (by simpa using rv) hb fin
  · obtain ⟨its, rv, hl, _⟩ := I.tuple hs
    exact set_of_tuple (I.ok.hd hc) hl (by simpa using rv) hb fin
/-- sorted(set) -/
def rSortTx (P : Program) (w : World) : List V → Hp → VK → Prop := fun xs H Q => ∃ (a : Addr) (l : List Str), xs = [V.ref a] ∧ H a = some (TxO P w a l) ∧ l.Nodup ∧ l.length ≤ 1000 ∧ NewO H (.lst ((l.mergeSort leS).map V.str)) Q
theorem cr_sortTx (hc : X.calm = true) (hu : X.A.units + 65 < cLine) : CallR X (.builtin "sorted") (rSortTx X.prog X.w) := by
  intro pins s σ H xs us Q I r h
  obtain ⟨a, l, rfl, ha, hd, hn, q⟩ := h
  rw [Vals.ref1 r]
  obtain ⟨D, hD, T⟩ := (I.hok a _ ha).1
  have hsz : D.1.size < scanBound := by
    have : D.1.size = l.length := T.ok.sz
    unfold scanBound
    omega
  refine Calls.call_function_entry kind_sorted plain_sorted entry_sorted (args_sorted1 _) ?_
  unfold Builtin.«sorted»
  refine wpAny_bind (m := checkCount "sorted" 1 1 _) (wpAny_pure ?_)
  refine wpAny_bind (collect_set (A := X.A.in1) (I.ok.hd hc) ⟨_, hD, rfl, rfl⟩ T.ok.fit hsz T.ris T.led fun s1 vs k1 hz g1 o1 pm => ?_)
  obtain ⟨pv, sv⟩ := T.vals hd pm
  have hvl : vs.length = l.length := by
    have := pv.length_eq
    rwa [List.length_map] at this
  have hL : vs.length ≤ sizeLine := by
    rw [hvl]
    exact Nat.le_trans hn (by decide)
  refine wpAny_bind (wpAny_newList ?_ hL)
  have hoL : (s1.heap.push (seqObj "list" vs.toArray 0)).get? s1.heap.objs.size = some (seqObj "list" vs.toArray 0) := Heap.get?_push_size _ rfl
  have ea : ∀ {us : List Value}, (∀ v ∈ us, ∃ u, v = .str (strOf v) u) → EachIs (fun v b => RelV (V.str b) v) us (us.map strOf) := by
    intro us
    induction us with
    | nil => exact fun _ => .nil
    | cons v us ih => exact fun h => .cons (h v (.head _)) (ih fun y hy => h y (.tail _ hy))
  have e1 := ea sv
  have e2 : EachIs (fun v b => ∃ as, Reads (s1.heap.push (seqObj "list" vs.toArray 0)) v (PyData.str b) as ∧ s1.heap.objs.size ∉ as) vs (vs.map strOf) := e1.mono fun v b r => by
    obtain ⟨t, rfl⟩ := r
    exact ⟨_, Reads.str b t, by simp⟩
  have hk : Sortable ((vs.map strOf).map PyData.str) := PySem.W.Sortable.others fun b => ⟨(fun z => nomatch z), fun xs z => nomatch z⟩
  refine wpAny_bind (wpAny_holding (list_sort_data (R := fun v b => RelV (V.str b) v) (enc := PyData.str) (s := { s1 with heap := s1.heap.push (seqObj "list" vs.toArray 0) }) hoL e1 e2 (alikes_str _) hk (by rw [List.length_map]; exact hL) (fun b _ => by simp only [PyData.depth, Around.in1_units]; omega) fun out hl eo => ?_))
  obtain ⟨c, hg⟩ := sortedHeap_at (vs := vs) (out := out.toArray) hoL
  refine wpAny_pure ⟨_, rfl, ?_⟩
  have hs : (vs.map strOf).mergeSort (PySem.W.dataLe false PyData.str) = l.mergeSort leS := sort_perm pv
  rw [hs] at eo
  have hlen : ((l.mergeSort leS).map V.str).length ≤ sizeLine := by
    rw [List.length_map, List.length_mergeSort]
    exact Nat.le_trans hn (by decide)
  have k2 : ∀ b o, s.heap.get? b = some o → (sortedHeap (s1.heap.push (seqObj "list" vs.toArray 0)) s1.heap.objs.size vs out.toArray).get? b = some o := fun b o e => by
    have q := k1 b o e
    have hlt := Heap.lt_size q
    rw [sortedHeap_old (Nat.ne_of_lt hlt) (by rw [Heap.size_push]; exact Nat.lt_succ_of_lt hlt)]
    exact Heap.get?_push_of_some _ q
  have hnp : H s1.heap.objs.size = none := I.hok.fresh hz
  have J : Inv X pins σ (upd H s1.heap.objs.size (.lst ((l.mergeSort leS).map V.str))) { s with heap := sortedHeap (s1.heap.push (seqObj "list" vs.toArray 0)) s1.heap.objs.size vs out.toArray, gens := s1.gens, drawn := s1.drawn, toks := s1.toks } :=
    I.call (ch := []) (Un.laid k2 hz hnp) (I.hok.laid k2 hz ⟨hlen, out, c, vals_of_each V.str eo, hg⟩) (by rw [g1]; exact I.bare) (fun _ z => nomatch z)
  have e : ({ s1 with heap := sortedHeap (s1.heap.push (seqObj "list" vs.toArray 0)) s1.heap.objs.size vs out.toArray } : Shared) = { s with heap := sortedHeap (s1.heap.push (seqObj "list" vs.toArray 0)) s1.heap.objs.size vs out.toArray, gens := s1.gens, drawn := s1.drawn, toks := s1.toks } := by
    cases s1
    cases s
    cases o1
    rfl
  rw [e]
  exact ⟨.ref _, _, J, rfl, q.to _ hnp⟩
end
end OS

set_option Elab.async false
set_option linter.all false
set_option maxRecDepth 100000
set_option maxHeartbeats 4000000
namespace P
open PySem PySem.Spec PyProof.Rows L2 OS
/-! short ways: "rd" opens a reading as far as equations go; "sep" finds what stands apart from the state; "sq" a list that is read; "nx" two heaps -/
local macro_rules | `(tactic| walk_at "sep") => `(tactic| first | assumption | (refine (by assumption : Nx _ _ _) _ _ ?_; walk_at "sep"))
local macro_rules | `(tactic| walk_at "sq") => `(tactic| first | assumption | exact .inl (.inl (by assumption)) | exact Sep.sq (by walk_at "sep") | exact Sep.st (by walk_at "sep") | exact .inl (.inl upd_same))
local macro_rules | `(tactic| walk_at "rd") => `(tactic| repeat (first
  | refine And.intro rfl ?_
  | apply Exists.intro
  | refine And.intro (by assumption) ?_
  | refine And.intro (DrawOk.mk (by omega) (by omega) (by omega)) ?_
  | refine And.intro at0 ?_
  | refine And.intro ⟨_, rfl⟩ ?_
  | refine And.intro (by walk_at "sq") ?_
  | refine And.intro (Or.inl (by walk_at "sq")) ?_
  | refine And.intro (Or.inr (by walk_at "sq")) ?_
  | refine And.intro (by omega) ?_))

section
variable {P : Program} {w : World} {K : PySem.W.Frag} {mg : Str → Option Value} {base : Heap}
theorem badAt_none {ps : List Str} (h1 : ps.Nodup) (h2 : ∀ z ∈ ps, okN z.cps.toList = true) : ∀ {n : Nat}, n ≤ ps.length → wrongUp ps n = none := by
  intro n
  induction n with
  | zero => intro _; rfl
  | succ n ih =>
    intro hn
    show (match wrongUp ps n with | some r => some r | none => badAt ps n) = none
    rw [ih (by omega)]
    have hgi : ps[n]? = some ps[n] := List.getElem?_eq_getElem hn
    have hgd : ps.getD n default = ps[n] := by rw [List.getD_eq_getElem?_getD, hgi]; rfl
    show badAt ps n = none
    unfold badAt
    rw [hgd, if_pos (h2 _ (List.getElem_mem hn)), if_neg]
    intro hm
    obtain ⟨j, hj, e⟩ := List.getElem_of_mem hm
    rw [List.getElem_take] at e
    have hj' : j < n := by
      rw [List.length_take] at hj
      omega
    exact (List.pairwise_iff_getElem.mp h1) j n (by omega) hn hj' e
theorem leS_total : PySem.W.TotalLe leS := PySem.W.sortLe_total _ _ _
theorem srt_srt (ps : List Str) : srt (srt ps) = srt ps := List.mergeSort_of_pairwise (PySem.W.sort_pairwise leS_total ps)
theorem lenP {f : Str} {y : V} {fs : List (Str × V)} {n : Nat} (h : fs.length < n) : (putF f y fs).length < n + 1 := by
  have := length_putF f y fs
  omega
theorem tupT_ins {H H' : Hp} {f a C dx : Addr} {fs : List (Str × V)} {xs : List V} (hf : H f = some (.ins C dx fs)) (k : ∀ b o, H b = some o → b ≠ f → H' b = some o) (h : SqT K H a xs) : SqT K H' a xs := by
  rcases h with (h | ⟨o, h⟩) | h
  · exact .inl (.inl (k _ _ h (ne_of h hf fun z => by cases z)))
  · exact .inl (.inr ⟨o, k _ _ h (ne_of h hf fun z => by cases z)⟩)
  · exact .inr h
theorem seqL_ins {H H' : Hp} {f a C dx : Addr} {fs : List (Str × V)} {xs : List V} (hf : H f = some (.ins C dx fs)) (k : ∀ b o, H b = some o → b ≠ f → H' b = some o) (h : SqL K H a xs) : SqL K H' a xs := by
  rcases h with (h | ⟨o, h⟩) | h
  · exact .inl (.inl (k _ _ h (ne_of h hf fun z => by cases z)))
  · exact .inl (.inr ⟨o, k _ _ h (ne_of h hf fun z => by cases z)⟩)
  · exact .inr h
theorem RowsL.ins {H H' : Hp} {f C dx : Addr} {fs : List (Str × V)} {v : V} {rs : List (List Int)} (hf : H f = some (.ins C dx fs)) (k : ∀ b o, H b = some o → b ≠ f → H' b = some o) (h : RowsL K H v rs) : RowsL K H' v rs := by
  obtain ⟨b, xs, e, h1, h2⟩ := h
  exact ⟨b, xs, e, seqL_ins hf k h1, Paired.mapP h2 fun _ _ q => q.imp fun _ q => ⟨q.1, tupT_ins hf k q.2⟩⟩
theorem names_wrong {ks : List Str} (h : NamesOk ks) : ¬ badLen ks ∧ wrongUp ks ks.length = none := by
  refine ⟨?_, badAt_none h.nd h.ok (Nat.le_refl _)⟩
  have h1 := h.one
  have h5 := h.five
  rintro (z | z) <;> omega
theorem NamesOk.perm {ks ys : List Str} (h : NamesOk ks) (p : ys.Perm ks) : NamesOk ys :=
  ⟨by rw [p.length_eq]; exact h.one, by rw [p.length_eq]; exact h.five, p.nodup_iff.mpr h.nd, fun z hz => h.ok z (p.mem_iff.mp hz)⟩
theorem ok_small {z : Str} (h : okN z.cps.toList = true) : z.length ≤ 6 := by
  unfold okN at h
  simp only [Bool.and_eq_true, decide_eq_true_eq] at h
  rw [← str_list_len]
  exact h.1.1.2
/-- Scheme(prime, width, rows) of what is right -/
def spSch (T : Txt K mg) : Sp := fun vs H Q E => ∃ (f d dx : Addr) (p : Int) (n : Nat) (kvs : List (Key × V)) (ks : List Str) (ro : Str → List (List Int)), vs = [.ref f, .int p, .int (n : Int), .ref d] ∧ H f = some (.ins T.C_Scheme dx []) ∧ isPr (.int p) = true ∧ 1 ≤ n ∧ n ≤ 40 ∧
  H d = some (.dK kvs) ∧ DHas (fun k v => RowsL K H v (ro k)) kvs ks ∧ NamesOk ks ∧ (∀ k ∈ ks, RowsOk p n (ro k)) ∧ ∀ H', (∀ b o, H b = some o → b ≠ f → H' b = some o) → SchAt K T.C_Scheme H' f p n (srt ks) ro → Q .non H'
theorem ok_Scheme__init_ (T : Txt K mg) : FnOk P w K mg base (L2.CX P w) 5 T.f_Scheme__init_ T.fd_Scheme__init_ ["self", "prime", "width", "rows"] (spSch T) := by
  refine T.F_Scheme__init_.okX sc_Scheme__init_ (fun vs H Q E h => ?_) (fun cdv A outer s H vs Q E hr h => ?_)
  · obtain ⟨f, d, dx, p, n, kvs, ks, ro, rfl, _⟩ := h
    rfl
  · obtain ⟨f, d, dx, p, n, kvs, ks, ro, rfl, hf, hpr, hn1, hn2, hd, hh, hk, hro, q⟩ := h
    refine ⟨_, (pss_cons (ps_expr (pe_call (ok_check_prime T) (hr.mono (by decide)) (by rfl) T.g_check_prime T.F_check_prime.kp T.b_check_prime .nil (passes_call (takes_of rfl rfl rfl rfl) (fun _ _ _ _ h => h)) (pa_cons (pv 1) pa_nil)))
    (pss_cons (ps_expr (pe_call (ok_check_width T) (hr.mono (by decide)) (by rfl) T.g_check_width T.F_check_width.kp T.b_check_width .nil (passes_call (takes_of rfl rfl rfl rfl) (fun _ _ _ _ h => h)) (pa_cons (pv 2) (pa_cons (pe_lstO pa_nil) pa_nil))))
    (pss_cons (ps_set (i := 4) sc_Scheme__init_.nd rfl (Or.inl rfl) (pe_call (ok_checked_persons T) (hr.mono (by decide)) (by rfl) T.g_checked_persons T.F_checked_persons.kp T.b_checked_persons .nil (passes_call (takes_of rfl rfl rfl rfl) (fun _ _ _ _ h => h)) (pa_cons (pe_callB (id := "sorted") (r := rSortD) (cr_sortD rfl) (by rfl) T.n_sorted (by decide +kernel) (pa_cons (pv 3) pa_nil)) pa_nil)))
    (pss_stop (ps_for (passes_of rfl) rfl (pi_hold (pi_tup (pv 4))) (pg_name (i := 5) sc_Scheme__init_.nd rfl (Or.inl rfl))
      (pss_one (ps_expr (pe_call (ok_check_rows_of_person T) (hr.mono (by decide)) (by rfl) T.g_check_rows_of_person T.F_check_rows_of_person.kp T.b_check_rows_of_person .nil (passes_call (takes_of rfl rfl rfl rfl) (fun _ _ _ _ h => h)) (pa_cons (pv 1) (pa_cons (pv 2) (pa_cons (pe_dget (hu_of hr) (pv 3) (pv 5) (fun _ _ => rfl)) pa_nil)))))))
    (pss_cons (ps_fld (pv 0) (pv 1) rfl)
    (pss_cons (ps_fld (pv 0) (pv 2) rfl)
    (pss_cons (ps_fld (pv 0) (pv 4) rfl)
    (pss_one (ps_fld (pv 0) (pe_dc (own := [("name", 5)]) (g := gName 5) (tt := tYes) rfl sc_Scheme__init_.nd (pi_tup (pv 4)) (blkOk_by (own := [("name", 5)]) (N := N_Scheme__init_) (sc := defScope s_Scheme__init_) (by decide +kernel)) (fun _ _ _ _ _ => (pg_name (i := 5) sc_Scheme__init_.nd rfl (Or.inl rfl))) (fun _ _ _ _ _ => pts_nil) (fun _ _ _ _ _ => (pv 5)) (fun _ _ _ _ _ => (pe_callTy (T := "tuple") (r := rTupL K) call_tupL (by rfl) T.n_tuple (by decide +kernel) (pa_cons (pe_dget (hu_of hr) (pv 3) (pv 5) (fun _ _ => rfl)) pa_nil)))) rfl))))))))), ?_⟩
    have hpd : Dp K H (.int p) (.int p) := .int p
    walk_at "rd"
    refine ⟨Nat.zero_le _, fun e => absurd (e.symm.trans hpr) (by simp), fun _ => ?_⟩
    walk_at "rd"
    refine ⟨by decide, fun l H1 n1 s1 hl => ?_⟩
    have hq : SqL K H1 l [] := SqL.of hl
    have hp0 : Paired (LenV K H1) [] [] := .nil
    walk_at "rd"
    refine ⟨by decide, fun h => absurd ⟨by omega, by omega, fun _ z => nomatch z⟩ h, fun _ H2 s2 => ?_⟩
    have s02 := s1.trans s2
    have k5 := hk.five
    have hrd : Rd H2 d (.dK kvs) := .of (s02 _ _ hd)
    have hky := hh.keys
    have h64 : ks.length < 64 := by omega
    walk_at "rd"
    intro ys pm st l3 H3 n3 s3 hl3
    have hkk := hk.perm pm
    obtain ⟨nb, nw⟩ := names_wrong hkk
    have hyq : SqL K H3 l3 (ys.map V.str) ∨ SqT K H3 l3 (ys.map V.str) := .inl (SqL.of hl3)
    have hy5 := hkk.five
    have hyz : ∀ z ∈ ys, z.length ≤ 100000 := fun z hz => by
      have := ok_small (hkk.ok z hz)
      omega
    walk_at "rd"
    refine ⟨fun z H' _ hw => (by rw [nw] at hw; cases hw), fun z H' _ hw => (by rw [nw] at hw; cases hw), fun _ _ a H4 s4 ha4 => ?_⟩
    have es : ys.mergeSort leS = srt ks := sort_perm pm
    rw [es] at ha4
    have s04 := s02.trans (s3.trans s4)
    have hd4 := s04 _ _ hd
    have hh4 : DHas (fun k v => RowsL K H4 v (ro k)) kvs ks := hh.mono fun _ _ q => q.same s04
    have hws : ∀ k ∈ srt ks, k ∈ ks := fun k hk' => (srt_perm ks).mem_iff.mp hk'
    have hl8 : (srt ks).length ≤ 8 := by rw [srt_len]; omega
    have hwn := srt_nodup hk.nd
    have hn40 : n ≤ 1000 := by omega
    clear hyq hyz hrd hq hp0 hl3 hl
    generalize srt ks = ws at ha4 hws hl8 hwn q
    refine Stop.cut (fun σ H' => ∃ y, σ = [some (.ref f), some (.int p), some (.int (n : Int)), some (.ref d), some (.ref a), y] ∧ Same H4 H') (fun Qz hz => ?_) ?_
    · walk_at "rd"
      refine ⟨⟨_, ha4⟩, ⟨for_it (walk_tup (xs := ws.map V.str)) (fun i σ H' => ∃ y, σ = [some (.ref f), some (.int p), some (.int (n : Int)), some (.ref d), some (.ref a), y] ∧ Same H4 H') ⟨none, rfl, Same.refl _⟩ (fun i σ H' _ ⟨_, _, s⟩ => s.tupT ha4) ?_ ?_⟩⟩
      · rintro i x _ H5 H6 hi ⟨y, rfl, s5⟩ ⟨rfl, hx⟩
        have hi' : i < ws.length := by simpa using hi
        obtain rfl := strs_get hx (List.getElem?_eq_getElem hi')
        have hmk := hws _ (List.getElem_mem hi')
        obtain ⟨v, hv, hrv⟩ := hh4.vals _ hmk
        obtain ⟨b, xs, rfl, hb, hxs⟩ := hrv.same s5
        have hdg : DGet H6 d (.str ws[i]) (some (.ref b)) := by
          have := DGet.k (k := (Sum.inr ws[i] : Key)) (s5 _ _ hd4)
          rwa [hv] at this
        have hrok := hro _ hmk
        walk_at "rd"
        intro H7 s7
        exact ⟨_, rfl, s5.trans s7⟩
      · rintro σ H5 ⟨y, rfl, s5⟩
        exact hz _ _ ⟨y, rfl, s5⟩
    · rintro _ H5 ⟨y, rfl, s5⟩
      have s05 := s04.trans s5
      have hf5 := s05 _ _ hf
      have cl := T.cl_Scheme
      have n1 := T.na_prime
      have n2 := T.na_width
      have n3 := T.na_persons
      have n4 := T.na_rows
      walk_at "rd"
      refine ⟨by decide, ?_⟩
      refine ⟨_, rfl, _, rfl, f, T.C_Scheme, dx, _, rfl, upd_same, T.cl_Scheme, T.na_width, Nat.lt_of_lt_of_le (lenP (show ([] : List (Str × V)).length < 1 by decide)) (by decide), ?_⟩
      refine ⟨_, rfl, _, rfl, f, T.C_Scheme, dx, _, rfl, upd_same, T.cl_Scheme, T.na_persons, Nat.lt_of_lt_of_le (lenP (lenP (show ([] : List (Str × V)).length < 1 by decide))) (by decide), ?_⟩
      generalize hF : (upd (upd (upd H5 f (HO.ins T.C_Scheme dx (putF "_prime" (V.int p) []))) f (HO.ins T.C_Scheme dx (putF "_width" (V.int (n : Int)) (putF "_prime" (V.int p) [])))) f (HO.ins T.C_Scheme dx (putF "_persons" (V.ref a) (putF "_width" (V.int (n : Int)) (putF "_prime" (V.int p) []))))) = H6
      have kp : ∀ b o, H5 b = some o → b ≠ f → H6 b = some o := fun b o e h => by
        rw [← hF, upd_ne h, upd_ne h, upd_ne h]
        exact e
      have hf6 : H6 f = some (HO.ins T.C_Scheme dx (putF "_persons" (V.ref a) (putF "_width" (V.int (n : Int)) (putF "_prime" (V.int p) [])))) := by
        rw [← hF]
        exact upd_same
      clear hF
      have ha6 := tupT_ins hf5 kp (s5.tupT ha4)
      have hd6 : H6 d = some (.dK kvs) := kp _ _ (s5 _ _ hd4) (ne_of (s5 _ _ hd4) hf5 fun z => by cases z)
      have hh6 : DHas (fun k v => RowsL K H6 v (ro k)) kvs ks := (hh4.mono fun _ _ q => q.same s5).mono fun _ _ q => q.ins hf5 kp
      walk_at "rd"
      refine ⟨⟨_, ha6⟩, fun D hD => ?_⟩
      refine dc_names (walk_tup (xs := ws.map V.str)) (ks := ws) (by simp) (by simp; omega) hwn (fun H k v => RowsT K H v (ro k)) hD (fun H H' k v kvs' _ hDk kp h => h.but hDk no_dict kp) (fun H s => s.tupT ha6) ?_ ?_
      · intro i k x H7 H8 Qk hki sm hy hk'
        obtain ⟨rfl, hx⟩ := hy
        obtain rfl := strs_get hx hki
        obtain ⟨v, hv, hrv⟩ := hh6.vals _ (hws _ (List.mem_of_getElem? hki))
        obtain ⟨b, xs, rfl, hb, hxs⟩ := hrv.same sm
        have hdg : DGet H8 d (.str k) (some (.ref b)) := by
          have := DGet.k (k := (Sum.inr k : Key)) (sm _ _ hd6)
          rwa [hv] at this
        walk_at "rd"
        intro t H9 n9 s9 ht9
        exact hk' _ _ ⟨t, xs, rfl, SqT.of ht9, hxs.same s9⟩ s9
      · intro H7 kvs2 s7 hD7 hh7
        have hf7 := s7 _ _ hf6
        refine ⟨_, rfl, f, T.C_Scheme, dx, _, rfl, hf7, T.cl_Scheme, T.na_rows, Nat.lt_of_lt_of_le (lenP (lenP (lenP (show ([] : List (Str × V)).length < 1 by decide)))) (by decide), ?_⟩
        have kp8 : ∀ b o, H7 b = some o → b ≠ f → (upd H7 f (HO.ins T.C_Scheme dx (schF p n a D))) b = some o := fun b o e h => by
          rw [upd_ne h]
          exact e
        have hfD : D ≠ f := ne_of hD7 hf7 fun z => by cases z
        refine q _ (fun b o e h => kp8 b o (s7 _ _ (kp b o (s05 b o e) h)) h) ⟨dx, a, D, kvs2, upd_same, tupT_ins hf7 kp8 (s7.tupT ha6), kp8 _ _ hD7 hfD, hh7.mono fun _ _ z => z.but hf7 no_ins kp8⟩
end
end P

set_option Elab.async false
set_option linter.all false
set_option maxRecDepth 100000
set_option maxHeartbeats 4000000
namespace P
open PySem PySem.Spec PyProof.Rows L2 OS
/-! short ways: "rd" opens a reading as far as equations go; "sep" finds what stands apart from the state; "sq" a list that is read; "nx" two heaps -/
local macro_rules | `(tactic| walk_at "sep") => `(tactic| first | assumption | (refine (by assumption : Nx _ _ _) _ _ ?_; walk_at "sep"))
local macro_rules | `(tactic| walk_at "sq") => `(tactic| first | assumption | exact .inl (.inl (by assumption)) | exact Sep.sq (by walk_at "sep") | exact Sep.st (by walk_at "sep") | exact .inl (.inl upd_same))
local macro_rules | `(tactic| walk_at "rd") => `(tactic| repeat (first
  | refine And.intro rfl ?_
  | apply Exists.intro
  | refine And.intro (by assumption) ?_
  | refine And.intro (DrawOk.mk (by omega) (by omega) (by omega)) ?_
  | refine And.intro at0 ?_
  | refine And.intro ⟨_, rfl⟩ ?_
  | refine And.intro (by walk_at "sq") ?_
  | refine And.intro (Or.inl (by walk_at "sq")) ?_
  | refine And.intro (Or.inr (by walk_at "sq")) ?_
  | refine And.intro (by omega) ?_))

section
variable {P : Program} {w : World} {K : PySem.W.Frag} {mg : Str → Option Value} {base : Heap}
/-- scheme.rows(name) -/
def spSRows (T : Txt K mg) : Sp := fun vs H Q E => ∃ (f : Addr) (p : Int) (n : Nat) (ws : List Str) (ro : Str → List (List Int)) (z : Str), vs = [.ref f, .str z] ∧ SchAt K T.C_Scheme H f p n ws ro ∧ (z ∉ ws → ∀ H', Same H H' → Flies E T.C_UnknownName "name" (.str z) H') ∧
  (z ∈ ws → ∀ q H' xs, H q = none → Same H H' → H' q = some (.lst xs) → RowsV K H' xs (ro z) → Q (.ref q) H')
theorem ok_Scheme_rows (T : Txt K mg) : FnOk P w K mg base (L2.CX P w) 3 T.f_Scheme_rows T.fd_Scheme_rows ["self", "name"] (spSRows T) := by
  refine T.F_Scheme_rows.okX sc_Scheme_rows (fun vs H Q E h => ?_) (fun cdv A outer s H vs Q E hr h => ?_)
  · obtain ⟨f, p, n, ws, ro, z, rfl, _⟩ := h
    rfl
  · obtain ⟨f, p, n, ws, ro, z, rfl, hs, qb, q⟩ := h
    refine ⟨_, (pss_cons (ps_if (pt_cmpR (r := rIn K true) op_notIn_seq (pv 1) (pe_fld (pv 0) rfl) (by rfl))
      (pss_one (ps_raise rfl (takes_of rfl rfl rfl rfl) (pmk_err T.er_UnknownName T.iC_UnknownName T.tI_UnknownName (ok_UnknownName__init_ T) (hr.mono (by decide)) T.b_UnknownName__init_ (by rfl) T.g_UnknownName (pv 1)))) pss_nil)
    (pss_one (ps_ret (pe_callTy (T := "list") (r := rListS K) call_listS (by rfl) T.n_list (by decide +kernel) (pa_cons (pe_dget (hu_of hr) (pe_fld (pv 0) rfl) (pv 1) (fun _ _ => rfl)) pa_nil))))), ?_⟩
    obtain ⟨dx, a, d, kvs, hf, ha, hd, hh⟩ := hs
    have cl := T.cl_Scheme
    have n3 := T.na_persons
    have n4 := T.na_rows
    have l3 := sch_persons p n a d
    have l4 := sch_rows p n a d
    walk_at "rd"
    refine ⟨strs_flat ws, ?_⟩
    rw [inV_strs]
    walk_at "rd"
    refine ite2 (fun e => ?_) (fun e => ?_)
    · have hz : z ∉ ws := fun h => by
        rw [decide_eq_true h] at e
        cases e
      walk_at "rd"
      exact qb hz H (Same.refl H)
    · have hz : z ∈ ws := Classical.byContradiction fun h => e (by rw [decide_eq_false h]; rfl)
      obtain ⟨v, hv, b, xs, rfl, hb, hxs⟩ := hh.vals _ hz
      have hdg : DGet H d (.str z) (some (.ref b)) := by
        have := DGet.k (k := (Sum.inr z : Key)) hd
        rwa [hv] at this
      walk_at "rd"
      intro l H1 n1 s1 hl
      exact q hz l H1 xs n1 s1 hl (hxs.same s1)
/-- deal(scheme, secret, numbers) -/
def dealV (K : PySem.W.Frag) (H : Hp) (p : Int) (ds : List Int) (rs : List (List Int)) (v : V) : Prop := ∃ b, v = .ref b ∧ SqT K H b ((rs.map fun r => dotL ds r % p).map V.int)
def spDeal (T : Txt K mg) : Sp := fun vs H Q E => ∃ (f a : Addr) (p : Int) (n : Nat) (ws : List Str) (ro : Str → List (List Int)) (sec : V) (xs : List V), vs = [.ref f, sec, .ref a] ∧ SchAt K T.C_Scheme H f p n ws ro ∧ isPr (.int p) = true ∧ 1 ≤ n ∧ n ≤ 40 ∧ NamesOk ws ∧ (∀ k ∈ ws, RowsOk p n (ro k)) ∧ Itm K H sec ∧
  (SqL K H a xs ∨ SqT K H a xs) ∧ (∀ v ∈ xs, Itm K H v) ∧ xs.length ≤ 1000 ∧ (isN p sec = false → ∀ H', Same H H' → Flies E T.C_BadNumber "value" sec H') ∧ (isN p sec = true → (xs.length : Int) ≠ n - 1 → ∀ H', Same H H' → Flies E T.C_BadCount "count" (.int (xs.length : Int)) H') ∧
  (isN p sec = true → (xs.length : Int) = n - 1 → ∀ (i : Nat) (v : V), xs[i]? = some v → (∀ j u, j < i → xs[j]? = some u → isN p u = true) → isN p v = false → ∀ H', Same H H' → Flies E T.C_BadNumber "value" v H') ∧
  (∀ s ns, sec = .int s → xs = ns.map V.int → RowOk p n (s :: ns) → ∀ q kvs H', H q = none → Same H H' → H' q = some (.dK kvs) → DHas (fun k v => dealV K H' p (s :: ns) (ro k) v) kvs ws → Q (.ref q) H')
theorem nums_ints {p : Int} : ∀ {xs : List V}, (∀ v ∈ xs, isN p v = true) → ∃ ns : List Int, xs = ns.map V.int ∧ ∀ i ∈ ns, 0 ≤ i ∧ i < p
  | [], _ => ⟨[], rfl, fun _ h => nomatch h⟩
  | v :: xs, h => by
    obtain ⟨ns, rfl, hn⟩ := nums_ints (xs := xs) fun u hu => h u (List.mem_cons_of_mem _ hu)
    have hv := h v (List.mem_cons_self ..)
    obtain ⟨i, rfl⟩ : ∃ i, v = .int i := by
      cases v <;> first | exact ⟨_, rfl⟩ | exact absurd hv Bool.false_ne_true
    have hi : 0 ≤ i ∧ i < p := by
      have : (decide (0 ≤ i) && decide (i < p)) = true := hv
      simpa using this
    exact ⟨i :: ns, rfl, fun j hj => (List.mem_cons.mp hj).elim (fun e => e ▸ hi) (hn j)⟩
theorem ok_deal (T : Txt K mg) : FnOk P w K mg base (L2.CX P w) 6 T.f_deal T.fd_deal ["scheme", "secret", "numbers"] (spDeal T) := by
  refine T.F_deal.okX sc_deal (fun vs H Q E h => ?_) (fun cdv A outer s H vs Q E hr h => ?_)
  · obtain ⟨f, a, p, n, ws, ro, sec, xs, rfl, _⟩ := h
    rfl
  · obtain ⟨f, a, p, n, ws, ro, sec, xs, rfl, hs, hpr, hn1, hn2, hws, hro, hsec, ha, hi, hxl, q1, q2, q3, q⟩ := h
    refine ⟨_, (pss_cons (ps_expr (pe_call (ok_check_number T) (hr.mono (by decide)) (by rfl) T.g_check_number T.F_check_number.kp T.b_check_number .nil (passes_call (takes_of rfl rfl rfl rfl) (fun _ _ _ _ h => h)) (pa_cons (pe_prop (pv 0) T.cl_Scheme T.pp_prime (ok_Scheme_prime T) (hr.mono (by decide)) T.b_Scheme_prime .nil pass0 rfl) (pa_cons (pv 1) pa_nil))))
    (pss_cons (ps_if (pt_cmpR op_ne (pe_callB (id := "len") (r := rLenS K) call_lenS (by rfl) T.n_len PySem.boot_len (pa_cons (pv 2) pa_nil)) (pe_op op_sub (pe_prop (pv 0) T.cl_Scheme T.pp_width (ok_Scheme_width T) (hr.mono (by decide)) T.b_Scheme_width .nil pass0 rfl) pe_int) (nomark _))
      (pss_one (ps_raise rfl (takes_of rfl rfl rfl rfl) (pmk_err T.er_BadCount T.iC_BadCount T.tI_BadCount (ok_BadCount__init_ T) (hr.mono (by decide)) T.b_BadCount__init_ (by rfl) T.g_BadCount (pe_callB (id := "len") (r := rLenS K) call_lenS (by rfl) T.n_len PySem.boot_len (pa_cons (pv 2) pa_nil))))) pss_nil)
    (pss_cons (ps_expr (pe_call (ok_check_numbers T) (hr.mono (by decide)) (by rfl) T.g_check_numbers T.F_check_numbers.kp T.b_check_numbers .nil (passes_call (takes_of rfl rfl rfl rfl) (fun _ _ _ _ h => h)) (pa_cons (pe_prop (pv 0) T.cl_Scheme T.pp_prime (ok_Scheme_prime T) (hr.mono (by decide)) T.b_Scheme_prime .nil pass0 rfl) (pa_cons (pv 2) pa_nil))))
    (pss_cons (ps_set (i := 3) sc_deal.nd rfl (Or.inr rfl) (pe_tupO (pa_cons (pv 1) (StX.pa_star (pv 2) pa_nil))))
    (pss_one (ps_ret (pe_dc (own := [("name", 5)]) (g := gName 5) (tt := tYes) rfl sc_deal.nd (pi_tup (pe_prop (pv 0) T.cl_Scheme T.pp_persons (ok_Scheme_persons T) (hr.mono (by decide)) T.b_Scheme_persons .nil pass0 rfl)) (blkOk_by (own := [("name", 5)]) (N := N_deal) (sc := defScope s_deal) (by decide +kernel)) (fun _ _ _ _ _ => (pg_name (i := 5) sc_deal.nd rfl (Or.inl rfl))) (fun _ _ _ _ _ => pts_nil) (fun _ _ _ _ _ => (pv 5)) (fun _ _ _ _ _ => (pe_callTy (T := "tuple") (r := rTupL K) call_tupL (by rfl) T.n_tuple (by decide +kernel) (pa_cons (pe_lc (own := [("row", 4)]) (wi := iList K _) (g := gName 4) (tt := tYes) rfl sc_deal.nd (pi_list (pe_methSx (E := fun _ => E0) (pv 0) T.cl_Scheme T.me_rows (ok_Scheme_rows T) (hr.mono (by decide)) T.b_Scheme_rows (fun σ => at_of pass0x σ) (pa_cons (pv 5) pa_nil))) (blkOk_by (own := [("row", 4)]) (N := N_deal) (sc := { kind := ScopeKind.function, names := [(".0", NameKind.local), ("name", NameKind.local), ("tuple", NameKind.globalImplicit), ("dealt", NameKind.cell), ("scheme", NameKind.cell)], isGenerator := false, isCoroutine := false }) (by decide +kernel)) (fun _ _ _ _ _ => (pg_name (i := 4) sc_deal.nd rfl (Or.inl rfl))) (fun _ _ _ _ _ => pts_nil) (fun _ _ _ _ _ => (pe_call (ok_product T) (hr.mono (by decide)) (by rfl) T.g_product T.F_product.kp T.b_product .nil pass0x (pa_cons (pe_prop (pv 0) T.cl_Scheme T.pp_prime (ok_Scheme_prime T) (hr.mono (by decide)) T.b_Scheme_prime .nil pass0 rfl) (pa_cons (pv 3) (pa_cons (pv 4) pa_nil)))))) pa_nil)))))))))), ?_⟩
    obtain ⟨dx, pa, d, kvs, hf, hpa, hd, hh⟩ := id hs
    have cl := T.cl_Scheme
    have n1 := T.na_prime
    have n2 := T.na_width
    have n3 := T.na_persons
    have l1 := sch_prime p n pa d
    have l2 := sch_width p n pa d
    have l3 := sch_persons p n pa d
    have hnum := itm_num hsec
    walk_at "rd"
    intro es
    walk_at "rd"
    refine ite2 (fun e => ?_) (fun e => ?_)
    · have hne : (xs.length : Int) ≠ n - 1 := fun z => by
        rw [z] at e
        simp at e
      walk_at "rd"
      exact q2 es hne H (Same.refl H)
    · have hle : (xs.length : Int) = n - 1 := Classical.byContradiction fun z => e (by simp [z])
      walk_at "rd"
      refine ⟨fun i v h1 h2 h3 H' s' => q3 es hle i v h1 h2 h3 H' s', fun hall H1 s1 => ?_⟩
      obtain ⟨ns, rfl, hns⟩ := nums_ints hall
      obtain ⟨s0, rfl, hs0⟩ : ∃ i, sec = .int i ∧ 0 ≤ i ∧ i < p := by
        obtain ⟨l, h1, h2⟩ := nums_ints (p := p) (xs := [sec]) fun v hv => by
          rw [List.mem_singleton.mp hv]
          exact es
        cases l with
        | nil => cases h1
        | cons i l => exact ⟨i, (List.cons.inj h1).1, h2 i (List.mem_cons_self ..)⟩
      have hrow : RowOk p n (s0 :: ns) := ⟨by
        rw [List.length_map] at hle
        rw [List.length_cons]
        omega, fun i hi => (List.mem_cons.mp hi).elim (fun e => e ▸ hs0) (hns i)⟩
      have hst : SqT K H1 a (ns.map V.int) ∨ SqL K H1 a (ns.map V.int) := ha.elim (fun h => .inr (s1.seq h)) fun h => .inl (s1.tupT h)
      walk_at "rd"
      refine ⟨by
        simp only [List.length_cons, List.length_append, List.length_map, List.length_nil]
        rw [List.length_map] at hxl
        exact Nat.le_trans (show ns.length + 0 + 1 ≤ 1001 by omega) (by decide), fun t H2 n2 s2 ht => ?_⟩
      rw [List.append_nil] at ht
      have s02 := s1.trans s2
      have ht2 : SqT K H2 t ((s0 :: ns).map V.int) := SqT.of ht
      have hs2 := hs.same s02
      have hf2 := s02 _ _ hf
      have hpa2 := s02.tupT hpa
      have k5 := hws.five
      walk_at "rd"
      refine ⟨⟨_, hpa2⟩, fun D hD => ?_⟩
      refine dc_names (walk_tup (xs := ws.map V.str)) (ks := ws) (by simp) (by simp; omega) hws.nd (fun H k v => dealV K H p (s0 :: ns) (ro k) v) hD (fun H H' k v kvs' _ hDk kp h => ?_) (fun H s => s.tupT hpa2) ?_ ?_
      · obtain ⟨b, e, hb⟩ := h
        refine ⟨b, e, ?_⟩
        rcases hb with (h | ⟨o, h⟩) | h
        · exact .inl (.inl (kp _ _ h fun z => by rw [z, hDk] at h; cases h))
        · exact .inl (.inr ⟨o, kp _ _ h fun z => by rw [z, hDk] at h; cases h⟩)
        · exact .inr h
      · intro i k x H7 H8 Qk hki sm hy hk'
        obtain ⟨rfl, hx⟩ := hy
        obtain rfl := strs_get hx hki
        have hkm := List.mem_of_getElem? hki
        have hs8 := hs2.same sm
        have hf8 := sm _ _ hf2
        have no := sch_no p n pa d (m := "rows") (by decide +kernel) (by decide +kernel) (by decide +kernel) (by decide +kernel)
        walk_at "rd"
        refine ⟨fun h => absurd hkm h, fun _ l H9 ys n9 s9 hl9 hx9 => ?_⟩
        have hf9 := s9 _ _ hf8
        have ht9 := (sm.trans s9).tupT ht2
        have hxl9 := paired_len hx9
        have hrk := hro k hkm
        walk_at "rd"
        refine ⟨⟨_, SqL.of hl9⟩, fun D2 hD2 => ?_⟩
        refine lc_all (walk_list (xs := ys)) (xs := ro k) hxl9.symm (by rw [hxl9]; have := hrk.1; omega) (fun r => V.int (dotL (s0 :: ns) r % p)) hD2 (fun H s => s.seq (SqL.of hl9)) ?_ ?_
        · intro j r v H10 H11 Qk2 hrj sm2 hy2 hk2
          obtain ⟨rfl, hv⟩ := hy2
          obtain ⟨r', h1, h2⟩ := OS.paired_get hx9 hv
          obtain rfl : r' = r := Option.some.inj (h1.symm.trans hrj)
          obtain ⟨b, rfl, hb⟩ := h2.same sm2
          have hf11 := sm2 _ _ hf9
          have ht11 := sm2.tupT ht9
          have hr2 := hrk.2 r' (List.mem_of_getElem? hrj)
          have hn1000 : n ≤ 1000 := by omega
          walk_at "rd"
          intro H12 s12
          exact hk2 _ s12
        · intro H10 s10 hD10
          have hDq : SqL K H10 D2 (((ro k).map fun r => dotL (s0 :: ns) r % p).map V.int) := SqL.of (by rw [List.map_map]; exact hD10)
          walk_at "rd"
          intro t11 H11 n11 s11 ht11
          exact hk' _ _ ⟨t11, rfl, SqT.of ht11⟩ ((s9.trans s10).trans s11)
      · intro H7 kvs2 s7 hD7 hh7
        exact q s0 ns rfl rfl hrow D kvs2 H7 (s02.free hD) (s02.trans s7) hD7 hh7
end
end P

set_option Elab.async false
set_option linter.all false
set_option maxRecDepth 100000
set_option maxHeartbeats 4000000
namespace P
open PySem PySem.Spec PyProof.Rows L2 OS
/-! short ways: "rd" opens a reading as far as equations go; "sep" finds what stands apart from the state; "sq" a list that is read; "nx" two heaps -/
local macro_rules | `(tactic| walk_at "sep") => `(tactic| first | assumption | (refine (by assumption : Nx _ _ _) _ _ ?_; walk_at "sep"))
local macro_rules | `(tactic| walk_at "sq") => `(tactic| first | assumption | exact .inl (.inl (by assumption)) | exact Sep.sq (by walk_at "sep") | exact Sep.st (by walk_at "sep") | exact .inl (.inl upd_same))
local macro_rules | `(tactic| walk_at "rd") => `(tactic| repeat (first
  | refine And.intro rfl ?_
  | apply Exists.intro
  | refine And.intro (by assumption) ?_
  | refine And.intro (DrawOk.mk (by omega) (by omega) (by omega)) ?_
  | refine And.intro at0 ?_
  | refine And.intro ⟨_, rfl⟩ ?_
  | refine And.intro (by walk_at "sq") ?_
  | refine And.intro (Or.inl (by walk_at "sq")) ?_
  | refine And.intro (Or.inr (by walk_at "sq")) ?_
  | refine And.intro (by omega) ?_))

section
variable {P : Program} {w : World} {K : PySem.W.Frag} {mg : Str → Option Value} {base : Heap}
/-- _law_shuffled(state, items) -/
def spShuf (K : PySem.W.Frag) : Sp := fun vs H Q _ => ∃ (p a : Addr) (m : Nat) (xs : List V), vs = [.ref p, .ref a] ∧ StU H p m ∧ SqL K H a xs ∧ xs.length ≤ 400 ∧ m ≤ 900000000 ∧
  ∀ q H' ys m', H q = none → StU H' p m' → m' ≤ m + 400 → Nx p H H' → Sep H' p q (.lst ys) → ys.Perm xs → Q (.ref q) H'
theorem ok_law_shuffled (T : Txt K mg) : FnOk P w K mg base CX0 2 T.f_law_shuffled T.fd_law_shuffled ["_law_state", "_law_items"] (spShuf K) := by
  refine T.F_law_shuffled.ok sc_law_shuffled (fun vs H Q E h => ?_) (fun cdv A outer s H vs Q E hr h => ?_)
  · obtain ⟨p, a, m, xs, rfl, _⟩ := h
    rfl
  · obtain ⟨p, a, m, xs, rfl, S, ha, hl, hm, q⟩ := h
    refine ⟨_, (pss_cons (ps_set (i := 2) sc_law_shuffled.nd rfl (Or.inl rfl) (pe_callTy (T := "list") (r := rListS K) call_listS (by rfl) T.n_list (by decide +kernel) (pa_cons (pv 1) pa_nil)))
    (pss_cons (ps_set (i := 3) sc_law_shuffled.nd rfl (Or.inl rfl) (pe_lstO pa_nil))
    (pss_stop (ps_for PassesOwn.never rfl (pi_hold (pi_range1 rfl T.n_range (pa_cons (pe_callB (id := "len") (r := rLenS K) call_lenS (by rfl) T.n_len PySem.boot_len (pa_cons (pv 1) pa_nil)) pa_nil))) (pg_name (i := 4) sc_law_shuffled.nd rfl (Or.inl rfl))
      (pss_one (ps_expr (pe_bm PySem.F.plainAttrs_list PySem.F.slot_list_append PySem.F.type_list_append mt_append (pv 3) (pa_cons (pe_bm PySem.F.plainAttrs_list PySem.F.slot_list_pop PySem.F.type_list_pop mt_popAt (pv 2) (pa_cons (pe_call (ok_law_take T) (hr.mono (by decide)) (by rfl) T.g_law_take T.F_law_take.kp T.b_law_take .nil pass0 (pa_cons (pv 0) (pa_cons (pe_callB (id := "len") (r := rLenS K) call_lenS (by rfl) T.n_len PySem.boot_len (pa_cons (pv 2) pa_nil)) pa_nil))) pa_nil)) pa_nil)))))
    (pss_one (ps_ret (pv 3)))))), ?_⟩
    walk_at "rd"
    intro l H1 nl s1 hl1
    walk_at "rd"
    refine ⟨by decide, fun t H2 nt s2 ht2 => ?_⟩
    have hl2 : Sep H2 p l (.lst xs) := Sep.of_newU S (s1.trans s2) nl (s2 _ _ hl1)
    have ht : Sep H2 p t (.lst []) := Sep.of_newU S (s1.trans s2) (s1.free nt) ht2
    have hlt : l ≠ t := ne_of_none hl1 nt
    have S2 := S.same (s1.trans s2)
    have x2 : Nx p H H2 := S.nx (s1.trans s2)
    have ntH := s1.free nt
    have nlH := nl
    have haq2 : SqL K H2 a xs ∨ SqT K H2 a xs := .inl ((s1.trans s2).seq ha)
    clear s1 s2 hl1 nt ht2 nl ha
    have hl2' := hl2.at_
    refine Stop.cut (fun σ H' => ∃ (y : Option V) (ts : List V) (m' : Nat), σ = [some (.ref p), some (.ref a), some (.ref l), some (.ref t), y] ∧ StU H' p m' ∧ m' ≤ m + 400 ∧ Nx p H H' ∧ Sep H' p t (.lst ts) ∧ ts.Perm xs) (fun Qz hz => ?_) ?_
    · walk_at "rd"
      refine ⟨for_it walk_range (fun i σ H' => ∃ (y : Option V) (ls ts : List V) (m' : Nat), σ = [some (.ref p), some (.ref a), some (.ref l), some (.ref t), y] ∧ StU H' p m' ∧ m' ≤ m + i ∧ Nx p H H' ∧ Sep H' p l (.lst ls) ∧ Sep H' p t (.lst ts) ∧ ls.length = xs.length - i ∧ (ts ++ ls).Perm xs) ⟨none, xs, [], m, rfl, S2, by omega, x2, hl2, ht, by omega, List.Perm.refl _⟩ (fun _ _ _ _ _ => trivial) ?_ ?_⟩
      · rintro i x _ H3 H4 hi ⟨y, ls, ts, m', rfl, S3, hm3, x3, hl3, ht3, hls, pm⟩ ⟨rfl, rfl⟩
        have hi' : i < xs.length := by simpa using hi
        have hl3' := hl3.at_
        have ht3' := ht3.at_
        walk_at "rd"
        have hlsp : ((ls.length : Nat) : Int) = (xs.length : Int) - i := by omega
        refine ⟨.inl ⟨rfl, _, ht3.sq⟩, ?_⟩
        walk_at "rd"
        refine ⟨.inl ⟨rfl, _, hl3.sq⟩, ?_⟩
        walk_at "rd"
        intro r H5 h0 h1 S5 x5
        have hl5 := x5 _ _ hl3
        have ht5 := x5 _ _ ht3
        have hr1 : r.toNat < ls.length := by omega
        have hix : seqIndex? r ls.length = some r.toNat := by
          unfold seqIndex?
          simp
          omega
        refine ⟨l, ls, r, r.toNat, ls[r.toNat], rfl, rfl, hl5.at_, by omega, by omega, hix, List.getElem?_eq_getElem hr1, ?_⟩
        have ht6 := ht5.put_ne (u := .lst (ls.eraseIdx r.toNat)) hl5 hlt.symm
        have hl6 := hl5.put_same (u := .lst (ls.eraseIdx r.toNat))
        have hpm : (ts ++ [ls[r.toNat]] ++ ls.eraseIdx r.toNat).Perm xs := by
          refine List.Perm.trans ?_ pm
          rw [List.append_assoc]
          exact (erase_perm hr1).append_left ts
        have htl : ts.length ≤ 400 := by
          have := pm.length_eq
          rw [List.length_append] at this
          omega
        refine ⟨t, ts, ls[r.toNat], rfl, rfl, ht6.at_, Nat.lt_of_le_of_lt htl (by decide), ?_⟩
        refine ⟨_, ls.eraseIdx r.toNat, ts ++ [ls[r.toNat]], m' + 1, rfl, (S5.put hl5).put ht6, by omega, fun q o h => (((x3.trans x5) q o h).put_ne hl5 (ne_of_none h.at_ nlH)).put_ne ht6 (ne_of_none h.at_ ntH), hl6.put_ne ht6 hlt, ht6.put_same, ?_, hpm⟩
        rw [List.length_eraseIdx_of_lt hr1]
        omega
      · rintro σ H3 ⟨y, ls, ts, m', rfl, S3, hm3, x3, hl3, ht3, hls, pm⟩
        have hn : ls = [] := List.eq_nil_of_length_eq_zero (by rw [hls]; simp)
        subst hn
        rw [List.append_nil] at pm
        refine hz _ _ ⟨y, ts, m', rfl, S3, ?_, x3, ht3, pm⟩
        have : (0 + (xs.length : Int) - 0).toNat = xs.length := by omega
        omega
    · rintro _ H3 ⟨y, ts, m', rfl, S3, hm3, x3, ht3, pm⟩
      walk_at "rd"
      exact q t H3 ts m' ntH S3 hm3 x3 ht3 pm
end
end P

set_option Elab.async false
set_option linter.all false
set_option maxRecDepth 100000
set_option maxHeartbeats 4000000
/-! sets of groups (tuples of texts): the search and the add -/
namespace OS
open PySem PySem.Spec PyProof.Rows L2 PySem.Froz
/-- an address and the texts of the tuple there -/
abbrev AG := Addr × List Str
abbrev TxT (P : Program) (w : World) (h : Heap) (q : AG) : Prop := IsTupleKey (strKind P w) h q.2 q.1
abbrev hsG (P : Program) (w : World) (g : List Str) : Int := tupleKeyHash (strKind P w) g
def rowG (P : Program) (w : World) (q : AG) : Int × Value := (hsG P w q.2, .ref q.1)
def rowsG (P : Program) (w : World) (L : List AG) : Array (Int × Value) := (L.map (rowG P w)).toArray
theorem rowsG_get {P : Program} {w : World} {L : List AG} {i : Nat} {q : AG} (e : L[i]? = some q) : (rowsG P w L)[i]? = some (rowG P w q) := by
  unfold rowsG
  rw [List.getElem?_toArray, List.getElem?_map, e]
  rfl
theorem rowsG_size (P : Program) (w : World) (L : List AG) : (rowsG P w L).size = L.length := by
  unfold rowsG
  rw [List.size_toArray, List.length_map]
/-- no class statement's, and hashed in one way or the other -/
def Mute (v : Value) : Prop := (∀ n, ofAClassStatement n v = pure false) ∧ ∀ n, ∃ b, hashByValue n v = pure b
theorem mute_str (x : Str) (u : Tok) : Mute (.str x u) := ⟨fun n => by cases n <;> rfl, fun n => ⟨false, by cases n <;> rfl⟩⟩
theorem mutes {P : Program} {w : World} : ∀ {g : List Str} {vs : List Value}, ItemsAre (strKind P w) g vs → ∀ v ∈ vs, Mute v
  | _, _, .nil, v, h => nomatch h
  | _, _, .cons a t, v, h => by
    rcases List.mem_cons.mp h with rfl | h
    · obtain ⟨u, rfl⟩ := is_strOf a
      exact mute_str _ _
    · exact mutes t v h
section
variable {P : Program} {w : World} {A : Around} {E : Value → Shared → Prop} {s : Shared}
theorem stmt_grp {q : AG} (T : TxT P w s.heap q) {Q : Bool → Shared → Prop} (h : Q false s) : wpAny (model P w) A (ofAClassStatement 8 (.ref q.1)) Q E s := by
  have ty := T.typeIs
  obtain ⟨o, its, n, e1, _, e3, e4⟩ := T
  unfold ofAClassStatement
  refine wpAny_bind (wpAny_typeOf ty ?_)
  dsimp only
  simp only [beq_self_eq_true, ite_true, Bool.not_true, Bool.false_eq_true, ite_false]
  try refine wpAny_bind (wpAny_pure ?_)
  try simp only [Bool.not_true, Bool.false_eq_true, ite_false]
  change wpAny _ _ (seqItems? (.ref q.1) >>= _) _ _ s
  refine wpAny_bind (wpAny_seqItems e1 e3 (wpAny_bind ?_))
  change wpAny _ _ (forIn its _ _) _ _ s
  rw [← Array.forIn_toList]
  refine wpAny_forIn_list _ (fun l r z => (r.1 = none ∧ z = s) ∧ ∀ v ∈ l, Mute v) _ (fun v l r z hz => ?_) (fun r z hz => ?_) _ _ ⟨⟨rfl, rfl⟩, mutes e4⟩
  · obtain ⟨⟨_, rfl⟩, hm⟩ := hz
    rw [(hm v (.head _)).1]
    refine wpAny_bind (wpAny_pure ?_)
    simp only [Bool.false_eq_true, ite_false]
    exact wpAny_pure ⟨⟨rfl, rfl⟩, fun u hu => hm u (.tail _ hu)⟩
  · obtain ⟨r1, r2⟩ := r
    obtain ⟨⟨hr, rfl⟩, _⟩ := hz
    cases hr
    exact wpAny_pure h
theorem byval_grp {q : AG} (T : TxT P w s.heap q) {Q : Bool → Shared → Prop} (h : ∀ b, Q b s) : wpAny (model P w) A (hashByValue 8 (.ref q.1)) Q E s := by
  have ty := T.typeIs
  obtain ⟨o, its, n, e1, _, e3, e4⟩ := T
  unfold hashByValue
  refine wpAny_bind (wpAny_specialOf ty F.slot_tuple_hash.lookup ?_)
  change wpAny _ _ (seqItems? (.ref q.1) >>= _) _ _ s
  refine wpAny_bind (wpAny_seqItems e1 e3 (wpAny_bind ?_))
  change wpAny _ _ (forIn its _ _) _ _ s
  rw [← Array.forIn_toList]
  refine wpAny_forIn_list _ (fun l r z => (r.1 = none ∧ z = s) ∧ ∀ v ∈ l, Mute v) _ (fun v l r z hz => ?_) (fun r z hz => ?_) _ _ ⟨⟨rfl, rfl⟩, mutes e4⟩
  · obtain ⟨⟨_, rfl⟩, hm⟩ := hz
    obtain ⟨b, hb⟩ := (hm v (.head _)).2 7
    rw [hb]
    refine wpAny_bind (wpAny_pure ?_)
    cases b
    · simp only [Bool.not_false, ite_true]
      exact wpAny_pure (wpAny_pure (h false))
    · simp only [Bool.not_true, Bool.false_eq_true, ite_false]
      exact wpAny_pure ⟨⟨rfl, rfl⟩, fun u hu => hm u (.tail _ hu)⟩
  · obtain ⟨r1, r2⟩ := r
    obtain ⟨⟨hr, rfl⟩, _⟩ := hz
    cases hr
    exact wpAny_pure (h true)
/-- groups show no search -/
theorem mute_search {q : AG} (T : TxT P w s.heap q) {ys : List Value} (hy : ∀ y ∈ ys, ∃ r : AG, y = .ref r.1 ∧ TxT P w s.heap r) {Q : Bool → Shared → Prop} (h : Q false s) :
    wpAny (model P w) A (searchCouldBeSeen (.ref q.1) ys) Q E s := by
  unfold searchCouldBeSeen
  refine wpAny_bind (wpAny_forIn_list _ (fun l r z => (r.1 = none ∧ z = s) ∧ ∀ y ∈ l, ∃ r : AG, y = .ref r.1 ∧ TxT P w z.heap r) _ (fun v l r z hz => ?_) (fun r z hz => ?_) _ _ ⟨⟨rfl, rfl⟩, hy⟩)
  · obtain ⟨⟨_, rfl⟩, hm⟩ := hz
    have tl : ∀ y ∈ l, ∃ r : AG, y = .ref r.1 ∧ TxT P w z.heap r := fun y hy => hm y (.tail _ hy)
    obtain ⟨c, rfl, C⟩ := hm v (.head _)
    dsimp only
    by_cases hc : (q.1 == c.1 || (carriedByValue (.ref q.1) && carriedByValue (.ref c.1))) = true
    · exact wp_if_pos hc (wpAny_pure ⟨⟨rfl, rfl⟩, tl⟩)
    · refine wp_if_neg hc (wpAny_bind (wpAny_eqIsQuiet_tuple T ?_))
      simp only [Bool.not_true, Bool.false_eq_true, ite_false]
      refine wpAny_bind (wpAny_eqIsQuiet_tuple C ?_)
      simp only [Bool.not_true, Bool.false_eq_true, ite_false]
      refine wpAny_bind (stmt_grp T ?_)
      simp only [Bool.false_eq_true, ite_false]
      refine wpAny_bind (stmt_grp C ?_)
      simp only [Bool.false_eq_true, ite_false]
      exact wpAny_pure ⟨⟨rfl, rfl⟩, tl⟩
  · obtain ⟨r1, r2⟩ := r
    obtain ⟨⟨hr, rfl⟩, _⟩ := hz
    cases hr
    exact wpAny_pure h
/-- the set at a holds the groups L, in the order of its slots -/
structure GSet (P : Program) (w : World) (h : Heap) (a : Addr) (L : List AG) (D : Nat × SetTable) : Prop where
  ob : h.get? a = some (sObj "set" (rowsG P w L, D.1, D.2))
  tab : TabOk D.2 (L.map fun q => hsG P w q.2)
  one : (L.map Prod.snd).Nodup
  txt : ∀ q ∈ L, TxT P w h q
  led : w.params.followText "set-order" = true ∨ D.2.led = true
  few : L.length < 64
  spare : 5 * L.length < 3 * D.2.mask
theorem GSet.fit {h : Heap} {a : Addr} {L : List AG} {D : Nat × SetTable} (G : GSet P w h a L D) : D.2.fits (rowsG P w L).size = true := by
  have h1 := G.tab.sz
  have h2 := G.spare
  rw [List.length_map] at h1
  rw [rowsG_size]
  unfold SetTable.fits SetTable.fill
  rw [G.tab.dm]
  simp only [Bool.and_eq_true, beq_iff_eq, decide_eq_true_eq]
  refine ⟨h1, ?_⟩
  change D.2.place.size + 0 ≤ D.2.mask
  omega
theorem GSet.gone {h : Heap} {a : Addr} {L : List AG} {D : Nat × SetTable} (G : GSet P w h a L D) : ¬ D.2.gaveWay = true := by
  unfold SetTable.gaveWay
  rw [mask_odd G.tab.mok]
  decide
theorem GSet.rd {a : Addr} {L : List AG} {D : Nat × SetTable} (G : GSet P w s.heap a L D) {Q : (Array (Int × Value) × Nat × SetTable) → Shared → Prop} (q : Q (rowsG P w L, D.1, D.2) s) : wpAny (model P w) A (setState a) Q E s :=
  wpAny_setState_of G.ob rfl G.fit q
end
/-- the probe's way from its start -/
abbrev wayP (m : Nat) (h : Int) (k : Nat) : SetTable.Probe := nth m (runAt m (SetTable.bits h % (m + 1)) (SetTable.bits h)) k
theorem wayP_go (m : Nat) (h : Int) (k j : Nat) : nth m (wayP m h k) j = wayP m h (k + j) := (nth_add m k _ j).symm
theorem adv_dummy (m : Nat) (p : SetTable.Probe) : (adv m p).dummy = p.dummy := by
  unfold adv
  split <;> rfl
theorem nth_dummy (m : Nat) : ∀ (k : Nat) (p : SetTable.Probe), (nth m p k).dummy = p.dummy
  | 0, _ => rfl
  | k + 1, p => (nth_dummy m k (adv m p)).trans (adv_dummy m p)
section
variable {P : Program} {w : World} {A : Around} {E : Value → Shared → Prop} {s : Shared} {a : Addr} {L : List AG} {D : Nat × SetTable}
/-- the search for q's texts, from its c-th step on: K is the first free place on the way -/
theorem GSet.search (G : GSet P w s.heap a L D) {q : AG} (hq : TxT P w s.heap q) (hu : A.units < cLine) {K : Nat} (hf : K < 10 * SetTable.turns D.2.mask)
    (free : way D.2.mask (hsG P w q.2) K ∉ D.2.place.toList) (held : ∀ c, c < K → way D.2.mask (hsG P w q.2) c ∈ D.2.place.toList) {Q : SetFound → Shared → Prop}
    (yes : q.2 ∈ L.map Prod.snd → Q (.there none) s) (no : q.2 ∉ L.map Prod.snd → Q (.free (way D.2.mask (hsG P w q.2) K) false) s) :
    ∀ (f c : Nat) (at_ : Option SetTable.Probe), at_.getD (D.2.probeStart (hsG P w q.2)) = wayP D.2.mask (hsG P w q.2) c → c ≤ K → K < c + f →
      (∀ (i : Nat) (r : AG), L[i]? = some r → r.2 = q.2 → ∃ d, c ≤ d ∧ d < K ∧ D.2.place.toList[i]? = some (way D.2.mask (hsG P w q.2) d)) →
      wpAny (model P w) A (setSearchFrom a (.ref q.1) (hsG P w q.2) true f at_) Q E s := by
  obtain ⟨hz, eh⟩ : ∃ z, z = hsG P w q.2 := ⟨_, rfl⟩
  rw [← eh] at free held no ⊢
  intro f
  induction f with
  | zero => intro c at_ _ h1 h2; omega
  | succ f ih =>
    intro c at_ hat hc hcf hleft
    rw [setSearchFrom_succ]
    refine wpAny_bind (G.rd ?_)
    dsimp only
    refine wp_if_neg G.gone ?_
    try refine wpAny_bind (wpAny_pure ?_)
    have ent : ∀ {i : Nat} {r : AG}, L[i]? = some r → ((rowsG P w L)[i]?.map Prod.fst).getD 0 = hsG P w r.2 := fun e => by
      rw [rowsG_get e]
      rfl
    have jj : ∀ d, (nth D.2.mask (wayP D.2.mask hz c) d).j = way D.2.mask hz (c + d) := fun d => by rw [wayP_go]
    -- no place before the K-th step but after the c-th holds q's texts without being met
    have clash : ∀ n, (∀ d (i : Nat), d < n → D.2.place.toList[i]? = some (nth D.2.mask (wayP D.2.mask hz c) d).j → ((rowsG P w L)[i]?.map Prod.fst).getD 0 ≠ hz) → ∀ (i : Nat) (r : AG) (d : Nat), L[i]? = some r → r.2 = q.2 → c ≤ d → D.2.place.toList[i]? = some (way D.2.mask hz d) → c + n ≤ d := by
      intro n hn i r d hi hr hd hp
      refine Nat.le_of_not_lt fun z => hn (d - c) i (by omega) (by rw [jj, Nat.add_sub_cancel' hd]; exact hp) ?_
      rw [ent hi, hr, eh]
    have all := go_spec D.2 G.tab.ris G.tab.dm (fun i => ((rowsG P w L)[i]?.map Prod.fst).getD 0) hz (10 * SetTable.turns D.2.mask) (K - c) (wayP D.2.mask hz c) (nth_dummy _ _ _) (by omega)
      (fun d hd => by rw [jj]; exact held _ (by omega)) (by rw [jj, Nat.add_sub_cancel' hc]; exact free)
    rw [hat]
    rcases all with ⟨d, i, hd, hi, hh, before, go⟩ | ⟨before, go⟩
    · change D.2.probe (fun i => ((rowsG P w L)[i]?.map Prod.fst).getD 0) hz (wayP D.2.mask hz c) = _ at go
      rw [go]
      dsimp only
      rw [jj] at hi ⊢
      have il : i < L.length := by
        have h1 := (List.getElem?_eq_some_iff.mp hi).1
        have h2 := G.tab.sz
        rw [List.length_map] at h2
        rw [Array.length_toList] at h1
        omega
      obtain ⟨r, hr⟩ : ∃ r, L[i]? = some r := ⟨_, List.getElem?_eq_getElem il⟩
      have hrL := List.mem_of_getElem? hr
      have slot : D.2.slot (way D.2.mask hz (c + d)) = .live i := slot_live G.tab.ris hi
      have rest : wpAny (model P w) A (searchRest a (.ref q.1) hz true f (rowsG P w L) D.2 (way D.2.mask hz (c + d)) i (nth D.2.mask (wayP D.2.mask hz c) (d + 1))) Q E s := by
        unfold searchRest
        rw [rowsG_get hr]
        unfold rowG
        dsimp only
        refine wpAny_bind (wpAny_holding (wpAny_eqBool_tuple hu (G.txt r hrL) hq (wpAny_bind (G.rd ?_))))
        dsimp only
        by_cases e : r.2 = q.2
        · rw [decide_eq_true e]
          exact wp_if_pos rfl (wpAny_pure (yes (List.mem_map.mpr ⟨r, hrL, e⟩)))
        · rw [decide_eq_false e]
          refine wp_if_neg (by decide) ?_
          try refine wpAny_bind (wpAny_pure ?_)
          rw [sameMem]
          dsimp only
          simp only [ite_true, slot, rowsG_get hr]
          unfold rowG
          dsimp only
          refine wpAny_bind (wpAny_isSame_ref_self (wpAny_bind (wpAny_pure ?_)))
          simp only [ite_true]
          refine wp_if_neg (by decide) (ih (c + (d + 1)) _ ?_ (by omega) (by omega) fun i' r' hi' hr' => ?_)
          · rw [Option.getD_some, wayP_go]
          · obtain ⟨d', l1, l2, l3⟩ := hleft i' r' hi' hr'
            have l4 := clash d before i' r' d' hi' hr' l1 l3
            refine ⟨d', ?_, l2, l3⟩
            rcases Nat.lt_or_ge (c + d) d' with z | z
            · exact z
            · exfalso
              obtain rfl : d' = c + d := Nat.le_antisymm z l4
              have := slot_live G.tab.ris l3
              rw [slot] at this
              injection this with this
              rw [← this, hr] at hi'
              injection hi' with hi'
              exact e (hi' ▸ hr')
      by_cases led : D.2.led = true
      · refine wp_if_neg (by simp [led]) ?_
        try refine wpAny_bind (wpAny_pure ?_)
        exact rest
      · refine wp_if_pos (by simp [led]) (wpAny_bind (mute_search hq (fun y hy => ?_) ?_))
        · obtain ⟨x, hx, rfl⟩ := List.mem_map.mp hy
          rw [Array.mem_toList_iff, Array.mem_filter] at hx
          have hx := hx.1
          unfold rowsG at hx
          rw [List.mem_toArray] at hx
          obtain ⟨r, hr, rfl⟩ := List.mem_map.mp hx
          exact ⟨r, rfl, G.txt r hr⟩
        · refine wp_if_neg (by decide) ?_
          try refine wpAny_bind (wpAny_pure ?_)
          exact rest
    · change D.2.probe (fun i => ((rowsG P w L)[i]?.map Prod.fst).getD 0) hz (wayP D.2.mask hz c) = _ at go
      rw [go]
      dsimp only
      rw [jj, Nat.add_sub_cancel' hc]
      refine wpAny_pure (no fun m => ?_)
      obtain ⟨r, hr, e⟩ := List.mem_map.mp m
      obtain ⟨i, hi, hir⟩ := List.getElem_of_mem hr
      have hir' : L[i]? = some r := by rw [List.getElem?_eq_getElem hi, hir]
      obtain ⟨d, l1, l2, l3⟩ := hleft i r hir' e
      have := clash (K - c) before i r d hir' e l1 l3
      omega
theorem GSet.find (G : GSet P w s.heap a L D) {q : AG} (hq : TxT P w s.heap q) (hu : A.units < cLine) {Q : SetFound → Shared → Prop} (yes : q.2 ∈ L.map Prod.snd → Q (.there none) s)
    (no : ∀ K, q.2 ∉ L.map Prod.snd → way D.2.mask (hsG P w q.2) K ∉ D.2.place.toList → (∀ c, c < K → way D.2.mask (hsG P w q.2) c ∈ D.2.place.toList) → Q (.free (way D.2.mask (hsG P w q.2) K) false) s) :
    wpAny (model P w) A (setSearch a (.ref q.1) (hsG P w q.2) true) Q E s := by
  have sp := G.spare
  have sz := G.tab.sz
  rw [List.length_map] at sz
  obtain ⟨K, k1, k2, k3⟩ := G.tab.first (by rw [List.length_map]; omega) (hsG P w q.2)
  have tr : 10 * SetTable.turns D.2.mask ≤ 1420 := by
    unfold SetTable.turns
    rcases G.tab.mok with e | e | e <;> omega
  refine G.search hq hu k1 k2 k3 yes (fun z => no K z k2 k3) 100000 0 none rfl (Nat.zero_le _) (by omega) fun i r hi hr => ?_
  have il : i < D.2.place.toList.length := by
    have := (List.getElem?_eq_some_iff.mp hi).1
    rw [Array.length_toList]
    omega
  have hp := List.getElem?_eq_getElem il
  obtain ⟨d, d1, d2⟩ := G.tab.before k2 (i := i) (by rw [List.getElem?_map, hi, ← hr]; rfl) hp
  exact ⟨d, Nat.zero_le _, d1, by rw [hp, d2]⟩
end
theorem take_put {α : Type} (l : List α) (n : Nat) (x : α) : (l.take n ++ x :: l.drop n).Perm (x :: l) := by
  have := (List.perm_middle (a := x) (l₁ := l.take n) (l₂ := l.drop n))
  rwa [List.take_append_drop] at this
theorem rowsG_put (P : Program) (w : World) (L : List AG) (n : Nat) (q : AG) : SetTable.insertAt (rowsG P w L) n (rowG P w q) = rowsG P w (L.take n ++ q :: L.drop n) := by
  apply Array.ext'
  rw [SetTable.toList_insertAt]
  unfold rowsG
  rw [List.map_append, List.map_cons, List.map_take, List.map_drop]
theorem pick_perm {α : Type} (L : List α) (d : α) {o : List Nat} (p : o.Perm (List.range L.length)) : (o.map fun i => L.getD i d).Perm L := by
  refine (p.map _).trans ?_
  have e : (List.range L.length).map (fun i => L.getD i d) = L := by
    apply List.ext_getElem
    · simp
    · intro i h1 h2
      simp [List.getD_eq_getElem?_getD, List.getElem?_eq_getElem h2]
  rw [e]
theorem rowsG_pick (P : Program) (w : World) (L : List AG) (d : AG) (o : Array Nat) (p : o.toList.Perm (List.range L.length)) :
    o.filterMap (fun i => (rowsG P w L)[i]?) = rowsG P w (o.toList.map fun i => L.getD i d) ∧ (o.toList.map fun i => ((rowsG P w L).map (·.1)).getD i 0) = (o.toList.map fun i => L.getD i d).map fun q => hsG P w q.2 := by
  have inb : ∀ i ∈ o.toList, i < L.length := fun i hi => List.mem_range.mp (p.mem_iff.mp hi)
  have get : ∀ i, i < L.length → L[i]? = some (L.getD i d) := fun i hi => by
    rw [List.getD_eq_getElem?_getD, List.getElem?_eq_getElem hi]
    rfl
  constructor
  · apply Array.ext'
    rw [Array.toList_filterMap]
    unfold rowsG
    rw [List.map_map]
    generalize o.toList = l at inb
    induction l with
    | nil => rfl
    | cons i l ih =>
      have := rowsG_get (P := P) (w := w) (get i (inb i (.head _)))
      unfold rowsG at this
      rw [List.filterMap_cons_some this, ih fun j hj => inb j (.tail _ hj)]
      rfl
  · rw [List.map_map]
    refine List.map_congr_left fun i hi => ?_
    have := rowsG_get (P := P) (w := w) (get i (inb i hi))
    rw [Array.getD_eq_getD_getElem?, Array.getElem?_map, this]
    rfl
section
variable {P : Program} {w : World} {A : Around} {E : Value → Shared → Prop} {s : Shared} {a : Addr} {L : List AG} {D : Nat × SetTable}
theorem TxT.apart {h h' : Heap} {a : Addr} {X : SD} {q : AG} (T : TxT P w h q) (ho : h.get? a = some (sObj "set" X)) (k : Heap.SameBut a h h') : TxT P w h' q := by
  obtain ⟨o, its, n, e1, e2, e3, e4⟩ := T
  refine ⟨o, its, n, ?_, e2, e3, e4⟩
  rw [k.2 q.1 fun z => ?_]
  · exact e1
  · rw [z, ho] at e1
    rw [← Option.some.inj e1] at e3
    cases e3
/-- the table laid anew -/
theorem relay_grp (ho : s.heap.get? a = some (sObj "set" (rowsG P w L, D.1, D.2))) (tab : TabOk D.2 (L.map fun q => hsG P w q.2)) (one : (L.map Prod.snd).Nodup) (txt : ∀ q ∈ L, TxT P w s.heap q) (led : w.params.followText "set-order" = true ∨ D.2.led = true) (few : L.length < 64) (fit : L.length ≤ D.2.mask)
    {n M : Nat} (e1 : SetTable.sizeAbove n = M + 1) (e2 : MaskOk M) (e3 : M < 128) (e4 : 5 * L.length < 3 * M) {Q : Unit → Shared → Prop}
    (q : ∀ h' L' D', Heap.SameBut a s.heap h' → GSet P w h' a L' D' → L'.Perm L → Q () { s with heap := h' }) : wpAny (model P w) A (setRelay a n) Q E s := by
  have sz := tab.sz
  rw [List.length_map] at sz
  have fits : D.2.fits (rowsG P w L).size = true := by
    rw [rowsG_size]
    unfold SetTable.fits SetTable.fill
    rw [tab.dm]
    simp only [Bool.and_eq_true, beq_iff_eq, decide_eq_true_eq]
    exact ⟨sz, by change D.2.place.size + 0 ≤ D.2.mask; omega⟩
  obtain ⟨t', o, r1, r2, r3, r4, r5, r6, r7⟩ := relaid_ok D.2 (hs := (rowsG P w L).map (·.1)) (wanted := n) (M := M) (by omega) e2 (by rw [Array.size_map, rowsG_size]; omega)
  rw [Array.size_map, rowsG_size] at r2
  obtain ⟨p1, p2⟩ := rowsG_pick P w L (0, []) o r2
  rw [p2] at r3
  have pm := pick_perm L (0, []) r2
  generalize (o.toList.map fun i => L.getD i (0, [])) = L' at p1 r3 pm
  rw [setRelay_eq]
  refine wpAny_bind (wpAny_setState_of ho rfl fits ?_)
  dsimp only
  refine wp_if_neg (by rw [sizeLine_eq]; omega) ?_
  try refine wpAny_bind (wpAny_pure ?_)
  rw [r1]
  dsimp only
  refine wpAny_bind (wp_if_neg (by rw [p1, rowsG_size, rowsG_size, pm.length_eq]; simp) ?_)
  try refine wpAny_bind (wpAny_pure ?_)
  refine wpAny_pure ?_
  dsimp only
  rw [p1]
  have k : Heap.SameBut a s.heap (s.heap.update a (Obj.putSet (rowsG P w L') t')) := Heap.SameBut.update ..
  refine wpAny_storeSet_of ho rfl (q _ L' (D.1 + 1, t') k ⟨store_at ho rfl, r3, (pm.map _).nodup_iff.mpr one, fun x hx => (txt x (pm.mem_iff.mp hx)).apart ho k, by rw [r5]; exact led, by rw [pm.length_eq]; exact few, by rw [pm.length_eq, r4]; exact e4⟩ pm) ?_
  rw [rowsG_size, pm.length_eq, sizeLine_eq]
  omega
theorem big5 : SetTable.sizeAbove (SetTable.grown 5) = 31 + 1 := by decide +kernel
theorem big19 : SetTable.sizeAbove (SetTable.grown 19) = 127 + 1 := by decide +kernel
/-- a group is added -/
theorem GSet.add (G : GSet P w s.heap a L D) {q : AG} (hq : TxT P w s.heap q) (hu : A.units < cLine) (hl : L.length < 63) {Q : Bool → Shared → Prop}
    (k : ∀ b h' L' D', Heap.SameBut a s.heap h' → GSet P w h' a L' D' → (if q.2 ∈ L.map Prod.snd then L' = L else L'.Perm (q :: L)) → Q b { s with heap := h' }) :
    wpAny (model P w) A (setAddHashed a (.ref q.1) (hsG P w q.2)) Q E s := by
  have sz := G.tab.sz
  have sp := G.spare
  have few := G.few
  have tab := G.tab
  have led := G.led
  have one := G.one
  have txt := G.txt
  have ob := G.ob
  rw [List.length_map] at sz
  unfold setAddHashed
  refine wpAny_holding ?_
  change wpAny _ _ (setAddHashedIn a (.ref q.1) (hsG P w q.2) (99999 + 1)) _ _ _
  rw [setAddHashedIn_succ]
  refine wpAny_bind (G.rd ?_)
  dsimp only
  refine wp_if_neg (by simp [byScan, Value.scannable]) ?_
  try refine wpAny_bind (wpAny_pure ?_)
  refine wpAny_bind (G.find hq hu (fun m => wpAny_pure (k false s.heap L D (Heap.SameBut.refl _ _) G (by rw [if_pos m]))) fun K m free held => ?_)
  dsimp only
  refine wpAny_bind (G.rd ?_)
  dsimp only
  obtain ⟨u1, u2, u3, u4, u5, u6, u7, u8, u9⟩ := tab.put free held
  obtain ⟨ep, t⟩ := D
  dsimp only at *
  generalize SetTable.below t.place (way t.mask (hsG P w q.2) K) = n at u1 u2 u3
  obtain ⟨⟨t1, n1⟩, hp⟩ : ∃ z, t.put (way t.mask (hsG P w q.2) K) = z := ⟨_, rfl⟩
  rw [hp] at u1 u3 u4 u5 u6 u7 u8 u9 ⊢
  dsimp only at *
  subst u1
  have pm := take_put L n1 q
  have hs1 : (L.map fun q => hsG P w q.2).take n1 ++ hsG P w q.2 :: (L.map fun q => hsG P w q.2).drop n1 = (L.take n1 ++ q :: L.drop n1).map fun q => hsG P w q.2 := by rw [List.map_append, List.map_cons, List.map_take, List.map_drop]
  rw [hs1] at u3
  have ins := rowsG_put P w L n1 q
  unfold rowG at ins
  generalize L.take n1 ++ q :: L.drop n1 = L1 at u3 pm ins
  have ln := pm.length_eq
  rw [List.length_cons] at ln
  have one1 : (L1.map Prod.snd).Nodup := by
    refine (pm.map Prod.snd).nodup_iff.mpr ?_
    rw [List.map_cons]
    exact List.nodup_cons.mpr ⟨m, one⟩
  -- whatever the mark of the hashes, the rest is the same
  have rest : ∀ t2 : SetTable, TabOk t2 (L1.map fun q => hsG P w q.2) → t2.mask = t.mask → t2.led = t.led → t2.tooFull = t1.tooFull →
      wpAny (model P w) A (storeSet a (SetTable.insertAt (rowsG P w L) n1 (hsG P w q.2, Value.ref q.1)) t2 >>= fun _ =>
        if (!false && t2.tooFull) = true then (setRelay a (SetTable.grown ((rowsG P w L).size + 1)) >>= fun _ => pure true) else pure true) Q E s := by
    intro t2 tab2 m2 l2 f2
    rw [ins]
    have kp : Heap.SameBut a s.heap (s.heap.update a (Obj.putSet (rowsG P w L1) t2)) := Heap.SameBut.update ..
    refine wpAny_bind (wpAny_storeSet_of ob rfl ?_ (by rw [rowsG_size, sizeLine_eq]; omega))
    have ob1 : (s.heap.update a (Obj.putSet (rowsG P w L1) t2)).get? a = some (sObj "set" (rowsG P w L1, ep + 1, t2)) := store_at ob rfl
    generalize s.heap.update a (Obj.putSet (rowsG P w L1) t2) = h1 at kp ob1
    have txt1 : ∀ r ∈ L1, TxT P w h1 r := fun r hr => by
      rcases List.mem_cons.mp (pm.mem_iff.mp hr) with rfl | hr
      · exact hq.apart ob kp
      · exact (txt r hr).apart ob kp
    have led1 : w.params.followText "set-order" = true ∨ t2.led = true := by rw [l2]; exact led
    have full : t1.tooFull = decide (5 * (L.length + 1) ≥ 3 * t.mask) := by
      unfold SetTable.tooFull
      rw [u9, u4, List.length_map, Nat.mul_comm, Nat.mul_comm t.mask]
    by_cases f : t2.tooFull = true
    · rw [f2, full, decide_eq_true_eq] at f
      have go : ∀ M, SetTable.sizeAbove (SetTable.grown (L.length + 1)) = M + 1 → MaskOk M → M < 128 → 5 * (L.length + 1) < 3 * M → wpAny (model P w) A (setRelay a (SetTable.grown (L.length + 1))) (fun _ s' => wpAny (model P w) A (pure true) Q E s') E { s with heap := h1 } := fun M v1 v2 v3 v4 => by
        refine relay_grp (s := { s with heap := h1 }) (D := (ep + 1, t2)) ob1 tab2 one1 txt1 led1 (by omega) (by rw [ln]; show L.length + 1 ≤ t2.mask; rcases tab.mok with z | z | z <;> omega) v1 v2 v3 (by omega) fun h' L' D' k' G' p' => ?_
        exact wpAny_pure (k true h' L' D' (kp.trans k') G' (by rw [if_neg m]; exact p'.trans pm))
      have go2 : wpAny (model P w) A (setRelay a (SetTable.grown (L.length + 1))) (fun _ s' => wpAny (model P w) A (pure true) Q E s') E { s with heap := h1 } := by
        rcases tab.mok with z | z | z
        · obtain e : L.length + 1 = 5 := by omega
          exact go 31 (by rw [e]; exact big5) (.inr (.inl rfl)) (by decide) (by omega)
        · obtain e : L.length + 1 = 19 := by omega
          exact go 127 (by rw [e]; exact big19) (.inr (.inr rfl)) (by decide) (by omega)
        · omega
      have f' : t2.tooFull = true := by rw [f2, full]; exact decide_eq_true f
      rw [rowsG_size]
      simp only [Bool.not_false, Bool.true_and, f', ite_true]
      first
        | exact wpAny_bind go2
        | (refine wp_if_pos rfl (wpAny_bind go2))
    · simp only [Bool.not_false, Bool.true_and, f, ite_false]
      rw [f2, full, decide_eq_true_eq] at f
      have last := k true h1 L1 (ep + 1, t2) kp ⟨ob1, tab2, one1, txt1, led1, by omega, by show 5 * L1.length < 3 * t2.mask; omega⟩ (by rw [if_neg m]; exact pm)
      first
        | exact wpAny_pure last
        | exact wpAny_bind (wpAny_pure (wpAny_pure last))
  have other : TabOk { t1 with plain := false } (L1.map fun q => hsG P w q.2) := ⟨u3.ris, u3.dm, u3.sz, u3.mok, u3.bd, u3.reach⟩
  by_cases pl : t1.plain = true
  · refine wp_if_pos pl ?_
    refine wpAny_bind (byval_grp hq fun b => ?_)
    cases b
    · simp only [Bool.false_eq_true, ite_false]
      exact rest _ other u4 u5 rfl
    · simp only [ite_true]
      exact rest _ u3 u4 u5 rfl
  · refine wp_if_neg pl ?_
    refine wpAny_bind (wpAny_pure ?_)
    simp only [ite_true]
    exact rest _ u3 u4 u5 rfl
end
end OS

set_option Elab.async false
set_option linter.all false
set_option maxRecDepth 100000
set_option maxHeartbeats 4000000
/-! set(groups) and sorted(set) -/
namespace OS
open PySem PySem.Spec PyProof.Rows L2 PySem.Froz
open PySem.W (EachIs Sortable list_sort_data dataLe)
/-- what the set has of the groups so far -/
structure HasG (L ks : List AG) : Prop where
  sub : ∀ q ∈ L, q ∈ ks
  all : ∀ q ∈ ks, q.2 ∈ L.map Prod.snd
  len : L.length ≤ ks.length
theorem HasG.step {L L' ks : List AG} {q : AG} (h : HasG L ks) (k : if q.2 ∈ L.map Prod.snd then L' = L else L'.Perm (q :: L)) : HasG L' (ks ++ [q]) := by
  split at k
  · next m =>
    subst k
    refine ⟨fun x hx => List.mem_append_left _ (h.sub x hx), fun x hx => ?_, ?_⟩
    · rcases List.mem_append.mp hx with z | z
      · exact h.all x z
      · rw [List.mem_singleton.mp z]
        exact m
    · have := h.len
      rw [List.length_append]
      omega
  · next m =>
    refine ⟨fun x hx => ?_, fun x hx => ?_, ?_⟩
    · rcases List.mem_cons.mp (k.mem_iff.mp hx) with z | z
      · rw [z]
        exact List.mem_append_right _ (.head _)
      · exact List.mem_append_left _ (h.sub x z)
    · refine (k.map Prod.snd).mem_iff.mpr ?_
      rw [List.map_cons]
      rcases List.mem_append.mp hx with z | z
      · exact .tail _ (h.all x z)
      · rw [List.mem_singleton.mp z]
        exact .head _
    · have := h.len
      rw [k.length_eq, List.length_append, List.length_cons]
      simp
      omega
section
variable {P : Program} {w : World} {A : Around} {R : Result → Shared → Prop} {I : Addr} {fp wr : List Addr} {G : Array GenState → Array GenState → Prop} {n : Nat} {Pv : Nat → Value → Prop} {St : Nat → Shared → Prop}
theorem TxT.kept {h h' : Heap} {q : AG} (T : TxT P w h q) (k : ∀ b o, h.get? b = some o → h'.get? b = some o) : TxT P w h' q := by
  obtain ⟨o, its, n, e1, r⟩ := T
  exact ⟨o, its, n, k _ _ e1, r⟩
/-- set.update's loop over groups that stood before (k0: what stood before, stands) -/
theorem upd_grp (W : WalksS P w A.in1 I fp wr G n Pv St) (S : Addr) (hS : S ∉ fp) (ks : List AG) (hn : ks.length = n) (hv : ∀ i v, Pv i v → ∃ q : AG, ks[i]? = some q ∧ v = .ref q.1) (hb : n < 64) (hu : A.in1.units < cLine)
    (h0 : Heap) (hk : ∀ q ∈ ks, TxT P w h0 q) (n0 : h0.get? S = none) (nw : ∀ b ∈ wr, h0.get? b = none) :
    ∀ (k i : Nat) (s : Shared), n - i = k → i ≤ n → St i s → (∀ b o, h0.get? b = some o → s.heap.get? b = some o) → (∃ L D, GSet P w s.heap S L D ∧ HasG L (ks.take i)) →
      (∀ s', Moved (S :: wr) G s s' → (∀ b o, h0.get? b = some o → s'.heap.get? b = some o) → (∃ L D, GSet P w s'.heap S L D ∧ HasG L ks) → R (.ok (.ret .none)) s') →
      codeAny (model P w) A (.builtin "set.update.loop" ⟨[.ref S, .ref I], []⟩) R s := by
  have hw : S ∉ wr := fun h => hS (W.sub _ h)
  have wide : ∀ b ∈ wr, b ∈ S :: wr := fun b h => List.mem_cons_of_mem _ h
  have on : ∀ {s s' : Shared}, Moved wr G s s' → (∀ b o, h0.get? b = some o → s.heap.get? b = some o) → ∀ b o, h0.get? b = some o → s'.heap.get? b = some o := fun hm kp b o e =>
    hm.heap b o (fun z => by rw [nw b z] at e; cases e) (kp b o e)
  have still : ∀ {s s' : Shared} {L : List AG} {D i}, Moved wr G s s' → (∀ b o, h0.get? b = some o → s'.heap.get? b = some o) → HasG L (ks.take i) → GSet P w s.heap S L D → GSet P w s'.heap S L D := fun hm kp hg g =>
    ⟨hm.heap S _ hw g.ob, g.tab, g.one, fun q hq => (hk q (List.mem_of_mem_take (hg.sub q hq))).kept kp, g.led, g.few, g.spare⟩
  intro k
  induction k with
  | zero =>
    intro i s hk' hi hst kp ⟨L, D, g, hg⟩ hR
    obtain rfl : i = n := by omega
    refine codeAny_builtin PyProof.Rows.F.entry_set_update_loop ?_
    rw [Around.under_plainId PyProof.Rows.F.plain_set_update_loop _]
    change wpAny _ A.in1 (pyNext (.ref I) >>= _) _ _ s
    refine wpAny_bind (W.done s _ _ hst fun s' hm => ?_)
    change wpAny _ A.in1 (ret Value.none) _ _ s'
    have kp' := on hm kp
    have g' := still hm kp' hg g
    rw [← hn, List.take_length] at hg
    exact wpAny_pure (hR s' (hm.mono wide) kp' ⟨L, D, g', hg⟩)
  | succ k ih =>
    intro i s hk' hi hst kp ⟨L, D, g, hg⟩ hR
    have hlt : i < n := by omega
    refine codeAny_builtin PyProof.Rows.F.entry_set_update_loop ?_
    rw [Around.under_plainId PyProof.Rows.F.plain_set_update_loop _]
    change wpAny _ A.in1 (pyNext (.ref I) >>= _) _ _ s
    refine wpAny_bind (W.item i s _ _ hlt hst fun v s' hP hst' hm => ?_)
    obtain ⟨q, hq, rfl⟩ := hv i v hP
    have kp' := on hm kp
    have g' := still hm kp' hg g
    have tq : TxT P w s'.heap q := (hk q (List.mem_of_getElem? hq)).kept kp'
    have tk : ks.take (i + 1) = ks.take i ++ [q] := by
      rw [List.take_succ, hq]
      rfl
    have hlen : L.length ≤ i := Nat.le_trans hg.len (by rw [List.length_take]; omega)
    change wpAny _ A.in1 (holding [Value.ref q.1] (setAdd S (.ref q.1)) >>= _) _ _ s'
    refine wpAny_bind (wpAny_holding ?_)
    unfold setAdd
    refine wpAny_holding (wpAny_bind (wpAny_pyHash_tuple hu tq ?_))
    refine GSet.add (s := { s' with toks := s'.toks + (q.2.length + 1) }) g' tq hu (by omega) fun b h' L' D' sb g2 pl => ?_
    have kp2 : ∀ b o, h0.get? b = some o → h'.get? b = some o := fun b o e => (sb.2 b (fun z => by rw [z, n0] at e; cases e)).trans (kp' b o e)
    refine wpAny_pure ⟨plainId_quiet PyProof.Rows.F.plain_set_update_loop _, ih (i + 1) _ (by omega) hlt (W.frame _ s' _ _ hst' (Nat.le_add_right _ _) fun b hb' o e => ?_) kp2 ⟨L', D', g2, by rw [tk]; exact hg.step pl⟩ fun s2 hm2 kp3 h2 => ?_⟩
    · exact (sb.2 b fun z => hS (z ▸ hb')).trans e
    · refine hR s2 (Moved.trans W.gtrans ((hm.mono wide).then_heap (Nat.le_add_right _ _) fun b o hb' e => ?_) hm2) kp3 h2
      exact (sb.2 b fun z => hb' (by rw [z]; exact .head _)).trans e
end
section
variable {P : Program} {w : World} {A : Around} {E : Value → Shared → Prop} {s : Shared}

set_option maxRecDepth 100000 in
set_option maxHeartbeats 3200000 in
/-- set(xs) of a list of groups -/
theorem set_of_grps {l : Addr} {items : Array Value} {ks : List AG} {Q : Value → Shared → Prop} (hh : A.handled = none) (hl : s.heap.IsList l items) (hit : items.toList = ks.map fun q => Value.ref q.1) (hk : ∀ q ∈ ks, TxT P w s.heap q) (hb : ks.length < 64) (hu : A.units + 3 < cLine)
    (h : ∀ (h' : Heap) (tk : Nat), (∃ L D, GSet P w h' s.heap.objs.size L D ∧ HasG L ks) → (∀ b o, s.heap.get? b = some o → h'.get? b = some o) → Q (.ref s.heap.objs.size) { s with heap := h', toks := tk }) :
    wpAny (model P w) A (call (.type "set") [.ref l]) Q E s := by
  have hsz : items.size = ks.length := by
    have q := congrArg List.length hit
    rw [List.length_map, Array.length_toList] at q
    exact q
  obtain ⟨c, tl, hmro⟩ := F.called_set.mro
  have hmade := F.called_set.made
  have hsub := F.called_set.sub
  refine wpAny_call (codeAny_of_tree ?_)
  show wpAny _ _ (callAny (.type "set") _) _ _ _
  refine wpAny_pure ⟨Code.quiet_builtin _ (by decide +kernel), codeAny_builtin F.entry_type_call ?_⟩
  rw [Around.under_plain (weight_type_call_type "set" [.ref l] []) rfl]
  have h1 := F.called_set.notType
  have h2 := F.called_set.canCreate
  have hct := F.typeCall_set_1 (.ref l)
  repeat (any_goals (first | assumption | wp_step))
  generalize he0 : (!w.params.followText "set-order") = ld
  refine codeAny_mono (code_set_led1 (.ref l) (E := E) (Q₁ := fun obj s1 => obj = .ref s.heap.objs.size ∧ s1 = { s with heap := s.heap.push ({ cls := .type "set", dict := none, data := .set #[] 0 (.fresh 0 0 ld) } : Obj) }) ⟨rfl, by rw [he0]⟩) fun r s1 hr => ?_
  cases r with
  | error e => exact hr
  | ok fl =>
    cases fl with
    | ret obj =>
      obtain ⟨rfl, rfl⟩ := hr
      have hS : (s.heap.push ({ cls := .type "set", dict := none, data := .set #[] 0 (.fresh 0 0 ld) } : Obj)).get? s.heap.objs.size = some ({ cls := .type "set", dict := none, data := .set #[] 0 (.fresh 0 0 ld) } : Obj) := Heap.get?_push_size _ rfl
      have hT : Shared.TypeIs { s with heap := s.heap.push ({ cls := .type "set", dict := none, data := .set #[] 0 (.fresh 0 0 ld) } : Obj) } (.ref s.heap.objs.size) "set" := ⟨_, hS, rfl⟩
      have hli := F.called_set.init.lookup
      have hbi := F.called_set.init.bind (.ref s.heap.objs.size)
      repeat (any_goals (first | assumption | wp_step))
      refine codeAny_mono (codeAny_call_builtin (R := wants (fun r s2 => r = .none ∧ ∃ h' tk, s2 = { s with heap := h', toks := tk } ∧ (∃ L D, GSet P w h' s.heap.objs.size L D ∧ HasG L ks) ∧ (∀ b o, s.heap.get? b = some o → h'.get? b = some o)) E) F.called_set.init.plain F.entry_set_init (check_set_init_1 hT ?_)) fun r2 s2 hr2 => ?_
      · obtain ⟨ol, hol, hcl, nl, hdl⟩ := hl
        obtain ⟨ocls, odict, odata, oslots⟩ := ol
        simp only at hcl hdl
        subst hcl hdl
        have hol' : (s.heap.push ({ cls := .type "set", dict := none, data := .set #[] 0 (.fresh 0 0 ld) } : Obj)).get? l = some { cls := .type "list", dict := odict, data := .seq items nl, slots := oslots } := Heap.get?_push_of_some _ hol
        have hsls := F.sub_list_set
        have hslf := F.sub_list_frozenset
        have hne : (Value.type "list" == Value.type "dict") = false := by decide
        have hl1 : (s.heap.push ({ cls := .type "set", dict := none, data := .set #[] 0 (.fresh 0 0 ld) } : Obj)).IsList l items := ⟨_, hol', rfl, nl, rfl⟩
        unfold Builtin.«set.__init__» noKeywords Builtin.Frozenset.updateFrom
        generalize hPI : pyIter = PI
        wp_walk
        subst hPI
        refine wpAny_pyIter_list (s := { s with heap := s.heap.push ({ cls := .type "set", dict := none, data := .set #[] 0 (.fresh 0 0 ld) } : Obj) }) hl1 ?_
        refine wpAny_bind (wpAny_runValue ?_)
        have hlS : l < s.heap.objs.size := Heap.lt_size hol
        have hh3 : A.in1.in1.in1.handled = none := by simp [hh]
        have hneI : l ≠ (s.heap.push ({ cls := .type "set", dict := none, data := .set #[] 0 (.fresh 0 0 ld) } : Obj)).objs.size := by
          rw [Heap.size_push]
          exact Nat.ne_of_lt (Nat.lt_succ_of_lt hlS)
        have hSf : s.heap.objs.size ∉ [(s.heap.push ({ cls := .type "set", dict := none, data := .set #[] 0 (.fresh 0 0 ld) } : Obj)).objs.size, l] := by
          rw [Heap.size_push]
          simp only [List.mem_cons, List.mem_singleton, List.not_mem_nil, or_false, not_or]
          exact ⟨Nat.ne_of_lt (Nat.lt_succ_self _), Nat.ne_of_gt hlS⟩
        have hv : ∀ (i : Nat) (v : Value), items[i]? = some v → ∃ q : AG, ks[i]? = some q ∧ v = .ref q.1 := fun i v hv => by
          have hi : i < ks.length := by
            rw [← hsz]
            exact (Array.getElem?_eq_some_iff.mp hv).1
          refine ⟨ks[i], List.getElem?_eq_getElem hi, ?_⟩
          have e : items.toList[i]? = some (Value.ref ks[i].1) := by rw [hit, List.getElem?_map, List.getElem?_eq_getElem hi]; rfl
          rw [Array.getElem?_toList, hv] at e
          exact Option.some.inj e
        have none_of : ∀ b, s.heap.objs.size ≤ b → s.heap.get? b = none := fun b hb => by
          cases q : s.heap.get? b with
          | none => rfl
          | some o => exact absurd (Nat.lt_of_lt_of_le (Heap.lt_size q) hb) (Nat.lt_irrefl _)
        refine upd_grp ((Walks.list hh3 _ l hneI items).toS) s.heap.objs.size hSf ks hsz.symm hv (by rw [hsz]; exact hb) hu s.heap hk (none_of _ (Nat.le_refl _)) (fun b hb => none_of b (by rw [List.mem_singleton.mp hb, Heap.size_push]; exact Nat.le_succ _)) (items.size - 0) 0 _ (by omega) (Nat.zero_le _) ⟨⟨_, Heap.get?_push_size _ rfl, rfl, rfl⟩, (hl1.push _)⟩ (fun b o e => Heap.get?_push_of_some _ (Heap.get?_push_of_some _ e)) ?h0 ?hR
        case h0 =>
          refine ⟨[], (0, .fresh 0 0 ld), ⟨?_, ⟨List.Pairwise.nil, rfl, rfl, .inl rfl, fun x hx => (by cases hx), fun i h j hi => by simp at hi⟩, List.nodup_nil, fun q hq => (by cases hq), ?_, by decide, by show 5 * 0 < 3 * 7; decide⟩, ⟨fun q hq => (by cases hq), fun q hq => (by simp at hq), Nat.zero_le _⟩⟩
          · exact Heap.get?_push_of_some _ hS
          · rw [← he0]
            show _ ∨ (!w.params.followText "set-order") = true
            cases w.params.followText "set-order"
            · exact .inr rfl
            · exact .inl rfl
        case hR =>
          intro s' hm _ hD
          obtain ⟨h', g', d', tk', os'⟩ := s'
          have eg : g' = s.gens := hm.gens
          have ed : d' = s.drawn := hm.drawn
          have eo : os' = s.os := hm.os
          subst eg ed eo
          show wpAny _ _ _ _ _ _
          refine wpAny_pure ?_
          show wpAny _ _ (ret Value.none) _ _ _
          refine wpAny_pure ⟨rfl, h', tk', rfl, hD, fun b o e => ?_⟩
          have hb0 : b < s.heap.objs.size := Heap.lt_size e
          refine hm.heap b o ?_ (Heap.get?_push_of_some _ (Heap.get?_push_of_some _ e))
          rw [Heap.size_push]
          simp only [List.mem_cons, List.mem_singleton, List.not_mem_nil, or_false, not_or]
          exact ⟨Nat.ne_of_lt hb0, Nat.ne_of_lt (Nat.lt_succ_of_lt hb0)⟩
      · cases r2 with
        | error e => exact hr2
        | ok fl2 =>
          cases fl2 with
          | ret r =>
            obtain ⟨rfl, h', tk, rfl, hD, hk⟩ := hr2
            repeat (any_goals (first | assumption | wp_step))
            exact h _ _ hD hk
          | _ => exact hr2.elim
    | _ => exact hr.elim
end
end OS

set_option Elab.async false
set_option linter.all false
set_option maxRecDepth 100000
set_option maxHeartbeats 4000000
/-! set(groups) and sorted(set) as calls -/
namespace OS
open PySem PySem.Spec PyProof.Rows L2 PySem.Froz
open PySem.W (EachIs Sortable list_sort_data dataLe)
theorem map_perm {α β : Type} {f : α → β} {vs ws : List β} (p : vs.Perm ws) : ∀ L : List α, ws = L.map f → ∃ M : List α, M.Perm L ∧ vs = M.map f := by
  induction p with
  | nil =>
    intro L e
    exact ⟨L, .refl _, e⟩
  | @cons x l1 l2 _ ih =>
    intro L e
    cases L with
    | nil => cases e
    | cons y L =>
      rw [List.map_cons] at e
      injection e with e1 e2
      obtain ⟨M, m1, m2⟩ := ih L e2
      exact ⟨y :: M, m1.cons y, by rw [List.map_cons, ← e1, ← m2]⟩
  | @swap x y l =>
    intro L e
    match L, e with
    | a :: b :: L, e =>
      rw [List.map_cons, List.map_cons] at e
      injection e with e1 e2
      injection e2 with e2 e3
      exact ⟨b :: a :: L, .swap .., by rw [List.map_cons, List.map_cons, ← e1, ← e2, ← e3]⟩
    | [], e => cases e
    | [_], e => cases e
  | trans _ _ ih1 ih2 =>
    intro L e
    obtain ⟨M, m1, m2⟩ := ih2 L e
    obtain ⟨N, n1, n2⟩ := ih1 M m2
    exact ⟨N, n1.trans m1, n2⟩
theorem reads_txts {P : Program} {w : World} {h : Heap} : ∀ {g : List Str} {vs : List Value}, ItemsAre (strKind P w) g vs → ReadsAll h vs (g.map .str) []
  | _, _, .nil => .nil
  | _, _, .cons a t => by
    obtain ⟨u, rfl⟩ := is_strOf a
    exact ReadsAll.cons (as := []) (.str _ u) (reads_txts t)
theorem TxT.reads {P : Program} {w : World} {h : Heap} {q : AG} (T : TxT P w h q) : Reads h (.ref q.1) (encG q.2) [] := by
  obtain ⟨o, its, n, e1, e2, e3, e4⟩ := T
  exact .tuple e1 e2 e3 (reads_txts e4)
theorem items_txts {P : Program} {w : World} : ∀ {g : List Str} {us : List Value}, Vals (g.map V.str) us → ItemsAre (strKind P w) g us
  | [], _, .nil => .nil
  | k :: g, _, .cons r t => by
    obtain ⟨u, rfl⟩ := r
    exact .cons (is_str (P := P) (w := w) k u) (items_txts t)
def G0 (P : Program) (w : World) (h : Heap) (a : Addr) (ks : List AG) : Prop := ∃ (L : List AG) (D : Nat × SetTable), (h.get? a = some (sObj "set" (rowsG P w L, D.1, D.2)) ∧ TabOk D.2 (L.map fun q => hsG P w q.2) ∧ (L.map Prod.snd).Nodup ∧
  (w.params.followText "set-order" = true ∨ D.2.led = true) ∧ L.length < 64 ∧ 5 * L.length < 3 * D.2.mask) ∧ HasG L ks
/-- the set of groups at a -/
def GsO (P : Program) (w : World) (a : Addr) (ks : List AG) : HO := .ext fun h => G0 P w h a ks
theorem gsO_new {P : Program} {w : World} {H : Hp} {h : Heap} {a : Addr} {ks : List AG} (R : ∃ L D, GSet P w h a L D ∧ HasG L ks) : ObjOk P w H h a (GsO P w a ks) := by
  obtain ⟨L, D, g, hg⟩ := R
  refine ⟨⟨L, D, ⟨g.ob, g.tab, g.one, g.led, g.few, g.spare⟩, hg⟩, ⟨_, g.ob⟩, fun h1 h2 p k => ?_⟩
  obtain ⟨L, D, ⟨p1, p2⟩, hg⟩ := p
  exact ⟨L, D, ⟨k _ p1, p2⟩, hg⟩
section
variable {X : Cx}
theorem L2.Inv.txT {pins : List (Addr × Obj)} {σ : L2.St} {H : Hp} {s : Shared} {q : AG} (I : Inv X pins σ H s) (h : SqT X.K H q.1 (q.2.map V.str)) : TxT X.prog X.w s.heap q := by
  obtain ⟨its, r, ⟨o, ho, hc, n, hd⟩, _⟩ := I.tuple h
  exact ⟨o, its.toArray, n, ho, hc, hd, by simpa using items_txts r⟩
theorem refs_grps : ∀ {ks : List AG} {us : List Value}, Vals (ks.map fun q => V.ref q.1) us → us = ks.map fun q => Value.ref q.1
  | [], _, .nil => rfl
  | q :: ks, _, .cons r t => by
    rw [refs_grps t]
    cases r
    rfl
theorem vals_grps : ∀ ks : List AG, Vals (ks.map fun q => V.ref q.1) (ks.map fun q => Value.ref q.1)
  | [] => .nil
  | _ :: ks => .cons rfl (vals_grps ks)
/-- set(xs) of a list of groups -/
structure SetGAt (K : PySem.W.Frag) (P : Program) (w : World) (H : Hp) (Q : VK) (l : Addr) : Prop where
  go : ∃ (ks : List AG), SqL K H l (ks.map fun q => V.ref q.1) ∧ (∀ q ∈ ks, SqT K H q.1 (q.2.map V.str)) ∧ ks.length < 64 ∧ ∀ a, H a = none → Q (.ref a) (upd H a (GsO P w a ks))
def rSetGx (K : PySem.W.Frag) (P : Program) (w : World) : List V → Hp → VK → Prop := fun xs H Q => ∃ l, xs = [V.ref l] ∧ SetGAt K P w H Q l
theorem cr_setGx (hc : X.calm = true) (hu : X.A.units + 65 < cLine) : CallR X (.type "set") (rSetGx X.K X.prog X.w) := by
  intro pins s σ H xs us Q I r h
  obtain ⟨l, rfl, ks, hl, hk, hf, q⟩ := h
  rw [Vals.ref1 r]
  obtain ⟨its, rv, pl, hz⟩ := I.list hl
  have hn : H s.heap.objs.size = none := I.hok.fresh (Nat.le_refl _)
  refine set_of_grps (P := X.prog) (w := X.w) (ks := ks) (I.ok.hd hc) pl.isList (by simpa using refs_grps rv) (fun q hq => L2.Inv.txT I (hk q hq)) hf (by omega) fun h' tk R k => ?_
  exact ⟨.ref _, upd H s.heap.objs.size (GsO X.prog X.w s.heap.objs.size ks), I.laid (t' := tk) k (Nat.le_refl _) (gsO_new R), rfl, q _ hn⟩
/-- sorted(set) of groups, none of them empty -/
structure SortGAt (K : PySem.W.Frag) (P : Program) (w : World) (H : Hp) (Q : VK) (a : Addr) : Prop where
  go : ∃ (ks : List AG), H a = some (GsO P w a ks) ∧ (∀ q ∈ ks, SqT K H q.1 (q.2.map V.str)) ∧ (∀ q ∈ ks, q.2 ≠ []) ∧
    ∀ (L : List AG) (p : Addr), HasG L ks → (L.map Prod.snd).Nodup → H p = none → Q (.ref p) (upd H p (.lst (L.map fun q => V.ref q.1)))
def rSortGx (K : PySem.W.Frag) (P : Program) (w : World) : List V → Hp → VK → Prop := fun xs H Q => ∃ a, xs = [V.ref a] ∧ SortGAt K P w H Q a
theorem cr_sortGx (hc : X.calm = true) (hu : X.A.units + 65 < cLine) : CallR X (.builtin "sorted") (rSortGx X.K X.prog X.w) := by
  intro pins s σ H xs us Q I r h
  obtain ⟨a, rfl, ks, ha, hk, hne, q⟩ := h
  rw [Vals.ref1 r]
  obtain ⟨L, D, ⟨g1, g2, g3, g4, g5, g6⟩, hg⟩ := (I.hok a _ ha).1
  have G : GSet X.prog X.w s.heap a L D := ⟨g1, g2, g3, fun q hq => L2.Inv.txT I (hk q (hg.sub q hq)), g4, g5, g6⟩
  refine Calls.call_function_entry kind_sorted plain_sorted entry_sorted (args_sorted1 _) ?_
  unfold Builtin.«sorted»
  refine wpAny_bind (m := checkCount "sorted" 1 1 _) (wpAny_pure ?_)
  refine wpAny_bind (collect_set (A := X.A.in1) (I.ok.hd hc) ⟨_, g1, rfl, rfl⟩ G.fit (by show (rowsG _ _ L).size < _; rw [rowsG_size]; unfold scanBound; omega) g2.ris g4 fun s1 vs k1 hz g1' o1 pm => ?_)
  obtain ⟨M, m1, m2⟩ := map_perm pm L (f := fun q : AG => Value.ref q.1) (by
    show (rowsG _ _ L).toList.map (·.2) = _
    unfold rowsG
    rw [List.map_map]
    rfl)
  have hvl : vs.length = L.length := by rw [m2, List.length_map, m1.length_eq]
  have hL : vs.length ≤ sizeLine := by
    rw [hvl, sizeLine_eq]
    omega
  refine wpAny_bind (wpAny_newList ?_ hL)
  have hoL : (s1.heap.push (seqObj "list" vs.toArray 0)).get? s1.heap.objs.size = some (seqObj "list" vs.toArray 0) := Heap.get?_push_size _ rfl
  have mk : ∀ q ∈ M, q ∈ ks := fun q hq => hg.sub q (m1.mem_iff.mp hq)
  have tx : ∀ q ∈ M, TxT X.prog X.w (s1.heap.push (seqObj "list" vs.toArray 0)) q := fun q hq => (G.txt q (m1.mem_iff.mp hq)).kept fun b o e => Heap.get?_push_of_some _ (k1 b o e)
  have ea : ∀ {N : List AG}, (∀ q ∈ N, TxT X.prog X.w (s1.heap.push (seqObj "list" vs.toArray 0)) q) → EachIs (fun v (b : AG) => v = Value.ref b.1) (N.map fun q => Value.ref q.1) N ∧ EachIs (fun v (b : AG) => ∃ as, Reads (s1.heap.push (seqObj "list" vs.toArray 0)) v (encG b.2) as ∧ s1.heap.objs.size ∉ as) (N.map fun q => Value.ref q.1) N := by
    intro N
    induction N with
    | nil => exact fun _ => ⟨.nil, .nil⟩
    | cons b N ih =>
      intro hN
      obtain ⟨i1, i2⟩ := ih fun q hq => hN q (.tail _ hq)
      exact ⟨.cons rfl i1, .cons ⟨[], (hN b (.head _)).reads, by simp⟩ i2⟩
  obtain ⟨e1, e2⟩ := ea tx
  rw [← m2] at e1 e2
  have hk2 : Sortable (M.map fun q => encG q.2) := .inl fun d hd => by
    obtain ⟨q, hq, rfl⟩ := List.mem_map.mp hd
    have := hne q (mk q hq)
    match q.2, this with
    | x :: g, _ => exact ⟨.str x, g.map .str, rfl⟩
  refine wpAny_bind (wpAny_holding (list_sort_data (R := fun v (b : AG) => v = Value.ref b.1) (enc := fun b : AG => encG b.2) (s := { s1 with heap := s1.heap.push (seqObj "list" vs.toArray 0) }) hoL e1 e2 (PySem.W.AllAlike.of fun b b' => alike_G _ _) hk2 (by rw [m1.length_eq, sizeLine_eq]; omega) (fun b _ => by rw [depth_G]; simp only [Around.in1_units]; omega) fun out hl eo => ?_))
  obtain ⟨c, hg'⟩ := sortedHeap_at (vs := vs) (out := out.toArray) hoL
  refine wpAny_pure ⟨_, rfl, ?_⟩
  have mp := (List.mergeSort_perm M (dataLe false fun b : AG => encG b.2))
  generalize M.mergeSort (dataLe false fun b : AG => encG b.2) = N at eo mp
  have np : N.Perm L := mp.trans m1
  have oe : out = N.map fun q => Value.ref q.1 := by
    clear hl hg' mp np
    induction eo with
    | nil => rfl
    | cons h t ih => rw [h, ih]; rfl
  have k2 : ∀ b o, s.heap.get? b = some o → (sortedHeap (s1.heap.push (seqObj "list" vs.toArray 0)) s1.heap.objs.size vs out.toArray).get? b = some o := fun b o e => by
    have q := k1 b o e
    have hlt := Heap.lt_size q
    rw [sortedHeap_old (Nat.ne_of_lt hlt) (by rw [Heap.size_push]; exact Nat.lt_succ_of_lt hlt)]
    exact Heap.get?_push_of_some _ q
  have hnp : H s1.heap.objs.size = none := I.hok.fresh hz
  have hlen : (N.map fun q => V.ref q.1).length ≤ sizeLine := by
    rw [List.length_map, np.length_eq, sizeLine_eq]
    omega
  have J : Inv X pins σ (upd H s1.heap.objs.size (.lst (N.map fun q => V.ref q.1))) { s with heap := sortedHeap (s1.heap.push (seqObj "list" vs.toArray 0)) s1.heap.objs.size vs out.toArray, gens := s1.gens, drawn := s1.drawn, toks := s1.toks } :=
    I.call (ch := []) (Un.laid k2 hz hnp) (I.hok.laid k2 hz ⟨hlen, out, c, by rw [oe]; exact vals_grps N, hg'⟩) (by rw [g1']; exact I.bare) (fun _ z => nomatch z)
  have e : ({ s1 with heap := sortedHeap (s1.heap.push (seqObj "list" vs.toArray 0)) s1.heap.objs.size vs out.toArray } : Shared) = { s with heap := sortedHeap (s1.heap.push (seqObj "list" vs.toArray 0)) s1.heap.objs.size vs out.toArray, gens := s1.gens, drawn := s1.drawn, toks := s1.toks } := by
    cases s1
    cases s
    cases o1
    rfl
  rw [e]
  exact ⟨.ref _, _, J, rfl, q N _ ⟨fun x hx => hg.sub x (np.mem_iff.mp hx), fun x hx => (np.map Prod.snd).mem_iff.mpr (hg.all x hx), by rw [np.length_eq]; exact hg.len⟩ ((np.map Prod.snd).nodup_iff.mpr g3) hnp⟩
end
theorem grps_ag {K : PySem.W.Frag} {H : Hp} : ∀ {xs : List V} {gs : List (List Str)}, GrpsV K H xs gs → ∃ ks : List AG, xs = ks.map (fun q => V.ref q.1) ∧ gs = ks.map Prod.snd ∧ ∀ q ∈ ks, SqT K H q.1 (q.2.map V.str)
  | _, _, .nil => ⟨[], rfl, rfl, fun q h => nomatch h⟩
  | _, _, .cons (b := g) h t => by
    obtain ⟨a, rfl, ha⟩ := h
    obtain ⟨ks, e1, e2, e3⟩ := grps_ag t
    refine ⟨(a, g) :: ks, by rw [List.map_cons, ← e1], by rw [List.map_cons, ← e2], fun q hq => ?_⟩
    rcases List.mem_cons.mp hq with rfl | hq
    · exact ha
    · exact e3 q hq
/-- set(groups) -/
theorem grps_set {K : PySem.W.Frag} {P : Program} {w : World} {H : Hp} {l : Addr} {xs : List V} {gs : List (List Str)} {Q : VK} (hl : SqL K H l xs) (hg : GrpsV K H xs gs) (hn : gs.length < 64)
    (q : ∀ a ks H', H a = none → Same H H' → H' a = some (GsO P w a ks) → (∀ q ∈ ks, SqT K H' q.1 (q.2.map V.str)) → ks.map Prod.snd = gs → Q (.ref a) H') : SetGAt K P w H Q l := by
  obtain ⟨ks, rfl, rfl, e3⟩ := grps_ag hg
  rw [List.length_map] at hn
  exact ⟨ks, hl, e3, hn, fun a ha => q a ks _ ha (same_new ha) upd_same (fun q hq => (same_new ha).tupT (e3 q hq)) rfl⟩
/-- sorted(set): the same groups, each once -/
theorem grps_sort {K : PySem.W.Frag} {P : Program} {w : World} {H : Hp} {a : Addr} {ks : List AG} {gs : List (List Str)} {Q : VK} (ha : H a = some (GsO P w a ks)) (hk : ∀ q ∈ ks, SqT K H q.1 (q.2.map V.str)) (e : ks.map Prod.snd = gs) (ne : ∀ g ∈ gs, g ≠ [])
    (q : ∀ p H' ys hs, H p = none → Same H H' → H' p = some (.lst ys) → GrpsV K H' ys hs → hs.Nodup → (∀ g, g ∈ hs ↔ g ∈ gs) → hs.length ≤ gs.length → Q (.ref p) H') : SortGAt K P w H Q a := by
  subst e
  refine ⟨ks, ha, hk, fun q hq => ne _ (List.mem_map.mpr ⟨q, hq, rfl⟩), fun L p hL nd hp => ?_⟩
  have s2 := same_new (o := .lst (L.map fun q => V.ref q.1)) hp
  refine q p _ _ (L.map Prod.snd) hp s2 upd_same (paired_of fun c hc => ⟨c.1, rfl, s2.tupT (hk c (hL.sub c hc))⟩) nd (fun g => ⟨fun hgm => ?_, fun hgm => ?_⟩) (by rw [List.length_map, List.length_map]; exact hL.len)
  · obtain ⟨c, hc, rfl⟩ := List.mem_map.mp hgm
    exact List.mem_map.mpr ⟨c, hL.sub c hc, rfl⟩
  · obtain ⟨c, hc, rfl⟩ := List.mem_map.mp hgm
    exact hL.all c hc
end OS

set_option Elab.async false
set_option linter.all false
set_option maxRecDepth 100000
set_option maxHeartbeats 4000000
namespace P
open PySem PySem.Spec PyProof.Rows L2 OS
/-! short ways: "rd" opens a reading as far as equations go; "sep" finds what stands apart from the state; "sq" a list that is read; "nx" two heaps -/
local macro_rules | `(tactic| walk_at "sep") => `(tactic| first | assumption | (refine (by assumption : Nx _ _ _) _ _ ?_; walk_at "sep"))
local macro_rules | `(tactic| walk_at "sq") => `(tactic| first | assumption | exact .inl (.inl (by assumption)) | exact Sep.sq (by walk_at "sep") | exact Sep.st (by walk_at "sep") | exact .inl (.inl upd_same))
local macro_rules | `(tactic| walk_at "rd") => `(tactic| repeat (first
  | refine And.intro rfl ?_
  | apply Exists.intro
  | refine And.intro (by assumption) ?_
  | refine And.intro (DrawOk.mk (by omega) (by omega) (by omega)) ?_
  | refine And.intro at0 ?_
  | refine And.intro ⟨_, rfl⟩ ?_
  | refine And.intro (by walk_at "sq") ?_
  | refine And.intro (Or.inl (by walk_at "sq")) ?_
  | refine And.intro (Or.inr (by walk_at "sq")) ?_
  | refine And.intro (by omega) ?_))

section
variable {P : Program} {w : World} {K : PySem.W.Frag} {mg : Str → Option Value} {base : Heap}
theorem notIn_nil (os gs : List Str) : (os.filter fun n => !decide (n ∈ gs)).isEmpty = inside os gs := by
  unfold inside
  rw [Bool.eq_iff_iff, List.isEmpty_iff, List.filter_eq_nil_iff, List.all_eq_true]
  simp
/-- _law_has(group, inner) -/
def spHas (K : PySem.W.Frag) : Sp := fun vs H Q _ => ∃ (a b : Addr) (os gs : List Str), vs = [.ref b, .ref a] ∧ SqT K H a (os.map V.str) ∧ SqT K H b (gs.map V.str) ∧ os.length ≤ 1000 ∧ ∀ H', Same H H' → Q (.bl (inside os gs)) H'
theorem ok_law_has (T : Txt K mg) : FnOk P w K mg base CX0 1 T.f_law_has T.fd_law_has ["_law_group", "_law_inner"] (spHas K) := by
  refine T.F_law_has.ok sc_law_has (fun vs H Q E h => ?_) (fun cdv A outer s H vs Q E hr h => ?_)
  · obtain ⟨a, b, gs, os, rfl, _⟩ := h
    rfl
  · obtain ⟨a, b, os, gs, rfl, ho, hg, hl, q⟩ := h
    refine ⟨_, (pss_one (ps_ret (pe_cmpR (r := rEqP K) (op_eqP (room65 hr)) (pe_lc (own := [("_law_name", 2)]) (g := gName 2) rfl sc_law_has.nd (pi_tup (pv 1)) (blkOk_by (own := [("_law_name", 2)]) (N := N_law_has) (sc := defScope s_law_has) (by decide +kernel)) (fun _ _ _ _ _ => (pg_name (i := 2) sc_law_has.nd rfl (Or.inl rfl))) (fun _ _ _ _ _ => (pts_one (pt_cmpR (r := rIn K true) op_notIn_seq (pv 2) (pv 0) (by rfl)))) (fun _ _ _ _ _ => (pv 2))) (pe_lstO pa_nil) (nomark _)))), ?_⟩
    walk_at "rd"
    refine ⟨⟨_, ho⟩, fun D hD => ?_⟩
    refine lc_fn (walk_tup (xs := os.map V.str)) (xs := os) (by simp) (by simp; omega) (fun n => !decide (n ∈ gs)) V.str hD (fun H1 s => s.tupT ho) ?_ ?_
    · intro i n x H1 H2 Qk Qn hn sm hy hk hn'
      obtain ⟨rfl, hx⟩ := hy
      obtain rfl := strs_get hx hn
      have hg2 := sm.tupT hg
      walk_at "rd"
      refine ⟨strs_flat gs, ?_⟩
      rw [inV_strs]
      walk_at "rd"
      refine ite2 (fun e => ?_) (fun e => ?_)
      · walk_at "rd"
        exact hk e _ (Same.refl _)
      · exact hn' ((Bool.not_eq_true _).mp e) _ (Same.refl _)
    · intro H1 sm hD1
      walk_at "rd"
      refine ⟨by decide, fun e H2 ne s2 he => ?_⟩
      have d1 : Dp K H2 (.ref D) (.list ((os.filter fun n => !decide (n ∈ gs)).map .str)) := dp_strs (SqL.of (s2 _ _ hD1))
      refine ⟨_, _, d1, dp_nil (SqL.of he), ?_, ?_⟩
      · have := depth_strs (os.filter fun n => !decide (n ∈ gs))
        simp only [PyData.depth]
        omega
      · rw [eqv_nil, List.isEmpty_map, notIn_nil]
        exact q _ (sm.trans s2)
theorem depth_Gs : ∀ gs : List (List Str), PyData.depthAll (gs.map encG) ≤ 1
  | [] => by simp [PyData.depthAll]
  | g :: gs => by
    have h1 := depth_Gs gs
    have h2 := depth_G g
    simp only [List.map_cons, PyData.depthAll]
    omega
/-- _law_opens(least, group) -/
def spLOpens (K : PySem.W.Frag) : Sp := fun vs H Q _ => ∃ (p b : Addr) (xs : List V) (rows : List (List Str)) (gs : List Str), vs = [.ref p, .ref b] ∧ SqL K H p xs ∧ GrpsV K H xs rows ∧ rows.length ≤ 900 ∧ (∀ g ∈ rows, g.length ≤ 900) ∧ SqT K H b (gs.map V.str) ∧
  ∀ H', Same H H' → Q (.bl (rows.any fun o => inside o gs)) H'
theorem ok_law_opens (T : Txt K mg) : FnOk P w K mg base CX0 2 T.f_law_opens T.fd_law_opens ["_law_least_here", "_law_group"] (spLOpens K) := by
  refine T.F_law_opens.ok sc_law_opens (fun vs H Q E h => ?_) (fun cdv A outer s H vs Q E hr h => ?_)
  · obtain ⟨p, b, xs, rows, gs, rfl, _⟩ := h
    rfl
  · obtain ⟨p, b, xs, rows, gs, rfl, hp, hg, hl, hll, hb, q⟩ := h
    refine ⟨_, (pss_one (ps_ret (pe_cmpR (r := rNeP K) (op_neP (room65 hr)) (pe_lc (own := [("_law_inner", 2)]) (g := gName 2) rfl sc_law_opens.nd (pi_list (pv 0)) (blkOk_by (own := [("_law_inner", 2)]) (N := N_law_opens) (sc := defScope s_law_opens) (by decide +kernel)) (fun _ _ _ _ _ => (pg_name (i := 2) sc_law_opens.nd rfl (Or.inl rfl))) (fun _ _ _ _ _ => (pts_one (pt_val (pe_call (ok_law_has T) (hr.mono (by decide)) (by rfl) T.g_law_has T.F_law_has.kp T.b_law_has .nil pass0 (pa_cons (pv 1) (pa_cons (pv 2) pa_nil)))))) (fun _ _ _ _ _ => (pv 2))) (pe_lstO pa_nil) (nomark _)))), ?_⟩
    have hxl := paired_len hg
    walk_at "rd"
    refine ⟨⟨_, hp⟩, fun D hD => ?_⟩
    refine lc_rel (walk_list (xs := xs)) (xs := rows) hxl.symm (by rw [hxl]; omega) (fun o => inside o gs) (fun H g v => GrpV K H v g) hD (fun H H' g v acc _ hDa k h => h.but hDa k) (fun H s => s.seq hp) ?_ ?_
    · intro j o v H9 H10 Qk Qn ho sm9 hy hk hn
      obtain ⟨rfl, hv⟩ := hy
      obtain ⟨o', h1, h2⟩ := OS.paired_get hg hv
      obtain rfl : o' = o := Option.some.inj (h1.symm.trans ho)
      have hol := hll _ (List.mem_of_getElem? ho)
      have hol2 : o'.length ≤ 1000 := by omega
      have h3 := h2.same sm9
      obtain ⟨c, rfl, hc⟩ := id h3
      have hb9 := sm9.tupT hb
      walk_at "rd"
      intro H11 s11
      walk_at "rd"
      refine ite2 (fun e1 => ?_) (fun e1 => ?_)
      · walk_at "rd"
        exact hk e1 _ _ (h3.same s11) s11
      · exact hn ((Bool.not_eq_true _).mp e1) _ s11
    · intro H9 acc2 sm9 hD9 pr9
      have pr9' : GrpsV K H9 acc2 (rows.filter fun o => inside o gs) := paired_swap pr9
      walk_at "rd"
      refine ⟨by decide, fun e H10 ne10 s10 he10 => ?_⟩
      have d1 : Dp K H10 (.ref D) (.list ((rows.filter fun o => inside o gs).map encG)) := .lst (SqL.of (s10 _ _ hD9)) (pr9'.same s10).dps
      refine ⟨_, _, d1, dp_nil (SqL.of he10), ?_, ?_⟩
      · have := depth_Gs (rows.filter fun o => inside o gs)
        simp only [PyData.depth]
        omega
      · rw [eqv_nil, List.isEmpty_map, filter_any]
        exact q _ (sm9.trans s10)
theorem sets_small {ps : List Str} (h : ps.length ≤ 8) : (setsL ps).length ≤ 256 := by
  rw [setsL_len]
  exact Nat.pow_le_pow_right (by decide : 2 > 0) h
/-- _law_groups(names) -/
def spGroups (K : PySem.W.Frag) : Sp := fun vs H Q _ => ∃ (a : Addr) (ps : List Str), vs = [.ref a] ∧ SqT K H a (ps.map V.str) ∧ ps.length ≤ 8 ∧ ∀ p H' xs, H p = none → Same H H' → H' p = some (.lst xs) → GrpsV K H' xs (allG ps) → Q (.ref p) H'
theorem ok_law_groups (T : Txt K mg) : FnOk P w K mg base CX0 1 T.f_law_groups T.fd_law_groups ["_law_names"] (spGroups K) := by
  refine T.F_law_groups.ok sc_law_groups (fun vs H Q E h => ?_) (fun cdv A outer s H vs Q E hr h => ?_)
  · obtain ⟨a, ps, rfl, _⟩ := h
    rfl
  · obtain ⟨a, ps, rfl, hp, hl, q⟩ := h
    refine ⟨_, (pss_cons (ps_set (i := 1) sc_law_groups.nd rfl (Or.inl rfl) (pe_lstO (pa_cons (pe_tupO pa_nil) pa_nil)))
    (pss_stop (ps_for PassesOwn.never rfl (pi_hold (pi_tup (pv 0))) (pg_name (i := 2) sc_law_groups.nd rfl (Or.inr rfl))
      (pss_one (ps_set (i := 1) sc_law_groups.nd rfl (Or.inl rfl) (pe_op op_catO (pv 1) (pe_lc (own := [("_law_row", 3)]) (g := gName 3) (tt := tYes) rfl sc_law_groups.nd (pi_list (pv 1)) (blkOk_by (own := [("_law_row", 3)]) (N := N_law_groups) (sc := defScope s_law_groups) (by decide +kernel)) (fun _ _ _ _ _ => (pg_name (i := 3) sc_law_groups.nd rfl (Or.inl rfl))) (fun _ _ _ _ _ => pts_nil) (fun _ _ _ _ _ => (pe_op (r := rCatTO K) op_catTO (pv 3) (pe_tupO (pa_cons (pv 2) pa_nil)))))))))
    (pss_one (ps_ret (pe_lc (own := [("_law_size", 4), ("_law_row", 3)]) (g := gTup K 2 (gCons (gName 4) (gCons (gName 3) gNil))) (tt := tYes) rfl sc_law_groups.nd (pi_list (pe_callB (id := "sorted") (cr_sortX (room65 hr)) (by rfl) T.n_sorted (by decide +kernel) (pa_cons (pe_lc (own := [("_law_row", 3)]) (g := gName 3) (tt := tYes) rfl sc_law_groups.nd (pi_list (pv 1)) (blkOk_by (own := [("_law_row", 3)]) (N := N_law_groups) (sc := defScope s_law_groups) (by decide +kernel)) (fun _ _ _ _ _ => (pg_name (i := 3) sc_law_groups.nd rfl (Or.inl rfl))) (fun _ _ _ _ _ => pts_nil) (fun _ _ _ _ _ => (pe_tupO (pa_cons (pe_callB (id := "len") (r := rLenS K) call_lenS (by rfl) T.n_len PySem.boot_len (pa_cons (pv 3) pa_nil)) (pa_cons (pv 3) pa_nil))))) pa_nil))) (blkOk_by (own := [("_law_size", 4), ("_law_row", 3)]) (N := N_law_groups) (sc := defScope s_law_groups) (by decide +kernel)) (fun _ _ _ _ _ => (pg_tup rfl (pgs_cons (pg_name (i := 4) sc_law_groups.nd rfl (Or.inl rfl)) (pgs_cons (pg_name (i := 3) sc_law_groups.nd rfl (Or.inl rfl)) pgs_nil)))) (fun _ _ _ _ _ => pts_nil) (fun _ _ _ _ _ => (pv 3))))))), ?_⟩
    walk_at "rd"
    refine ⟨by decide, fun e H1 ne s1 he => ?_⟩
    walk_at "rd"
    refine ⟨by show 1 ≤ sizeLine; decide, fun p H2 n2 s2 hp2 => ?_⟩
    have s12 : Same H H2 := s1.trans s2
    have hg2 : GrpsV K H2 [V.ref e] (setsL (ps.take 0)) := .cons ⟨e, rfl, SqT.of (s2 _ _ he)⟩ .nil
    clear s1 s2 n2 ne he
    refine Stop.cut (fun σ H' => ∃ (p : Addr) (xs : List V) (y : Option V), σ = [some (.ref a), some (.ref p), y, none, none] ∧ Same H H' ∧ H' p = some (.lst xs) ∧ GrpsV K H' xs (setsL ps)) (fun Qz hz => ?_) ?_
    · walk_at "rd"
      refine ⟨⟨_, s12.tupT hp⟩, ⟨for_it (walk_tup (xs := ps.map V.str)) (fun i σ H' => ∃ (p : Addr) (xs : List V) (y : Option V), σ = [some (.ref a), some (.ref p), y, none, none] ∧ Same H H' ∧ H' p = some (.lst xs) ∧ GrpsV K H' xs (setsL (ps.take i))) ⟨p, _, none, rfl, s12, hp2, hg2⟩ (fun i σ H' _ ⟨_, _, _, _, s, _⟩ => s.tupT hp) ?_ ?_⟩⟩
      · rintro i x _ H3 H4 hi ⟨p3, xs, y, rfl, s3, hp3, hg3⟩ ⟨rfl, hx⟩
        have hi' : i < ps.length := by simpa using hi
        obtain rfl := strs_get hx (List.getElem?_eq_getElem hi')
        have hlen : (setsL (ps.take i)).length ≤ 256 := sets_small (by rw [List.length_take]; omega)
        have hxl := paired_len hg3
        walk_at "rd"
        refine ⟨⟨_, SqL.of hp3⟩, fun D hD => ?_⟩
        refine lc_rel (walk_list (xs := xs)) (xs := setsL (ps.take i)) hxl.symm (by omega) (fun _ => true) (fun H g v => GrpV K H v (g ++ [ps[i]])) hD (fun H H' g v acc _ hDa k h => h.but hDa k) (fun H s => s.seq (SqL.of hp3)) ?_ ?_
        · intro j g v H5 H6 Qk Qn hg sm hy hk _
          obtain ⟨rfl, hv⟩ := hy
          obtain ⟨g', h1, h2⟩ := OS.paired_get hg3 hv
          obtain rfl : g' = g := Option.some.inj (h1.symm.trans hg)
          obtain ⟨b, rfl, hb⟩ := h2.same sm
          walk_at "rd"
          refine ⟨by show 1 ≤ sizeLine; decide, fun t H7 n7 s7 ht => ?_⟩
          have hgl : g'.length ≤ 8 := by
            have h9 : g' ∈ setsL (ps.take i) := List.mem_of_getElem? hg
            have h8 := (mem_sets.mp h9).length_le
            rw [List.length_take] at h8
            omega
          refine ⟨b, t, g'.map V.str, [V.str ps[i]], rfl, rfl, s7.tupT hb, SqT.of ht, by rw [List.length_map]; exact Nat.le_trans (Nat.add_le_add_right hgl 1) (by decide), fun q8 H8 s8 hq8 => ?_⟩
          exact hk rfl _ _ ⟨q8, rfl, by rw [List.map_append]; exact hq8⟩ (s7.trans s8)
        · intro H5 acc sm hD5 pr
          have hfl : (setsL (ps.take i)).filter (fun _ => true) = setsL (ps.take i) := List.filter_eq_self.mpr fun _ _ => rfl
          rw [hfl] at pr
          refine ⟨p3, D, xs, acc, rfl, rfl, sm _ _ hp3, hD5, ?_, fun p6 H6 n6 s6 hp6 => ?_⟩
          · have := paired_len pr
            rw [hxl, ← this]
            exact Nat.le_trans (Nat.add_le_add hlen hlen) (by decide)
          · walk_at "rd"
            refine ⟨(s3.trans sm).trans s6, hp6, ?_⟩
            have e : ps.take (i + 1) = ps.take i ++ [ps[i]] := by rw [List.take_succ, List.getElem?_eq_getElem hi']; rfl
            rw [e, setsL_snoc]
            refine paired_app ((hg3.same sm).same s6) ?_
            have pr2 : Paired (fun (g : List Str) (v : V) => GrpV K H6 v (g ++ [ps[i]])) (setsL (ps.take i)) acc := Paired.mapP pr fun _ _ z => z.same s6
            exact paired_swap (paired_map (F := fun (g : List Str) (v : V) => GrpV K H6 v g) (f := fun g => g ++ [ps[i]]) pr2)
      · rintro σ H3 ⟨p3, xs, y, rfl, s3, hp3, hg3⟩
        rw [List.length_map, List.take_length] at hg3
        exact hz _ _ ⟨p3, xs, y, rfl, s3, hp3, hg3⟩
    · rintro _ H3 ⟨p3, xs, y, rfl, s3, hp3, hg3⟩
      have hlen := sets_small hl
      have hxl := paired_len hg3
      walk_at "rd"
      refine ⟨⟨_, SqL.of hp3⟩, fun D hD => ?_⟩
      refine lc_rel (walk_list (xs := xs)) (xs := setsL ps) hxl.symm (by omega) (fun _ => true) (fun H g v => PairV K H v g) hD (fun H H' g v acc _ hDa k h => h.but hDa k) (fun H s => s.seq (SqL.of hp3)) ?_ ?_
      · intro j g v H5 H6 Qk Qn hg sm hy hk _
        obtain ⟨rfl, hv⟩ := hy
        obtain ⟨g', h1, h2⟩ := OS.paired_get hg3 hv
        obtain rfl : g' = g := Option.some.inj (h1.symm.trans hg)
        obtain ⟨b, rfl, hb⟩ := h2.same sm
        walk_at "rd"
        refine ⟨by show 2 ≤ sizeLine; decide, fun t H7 n7 s7 ht => ?_⟩
        rw [List.length_map] at ht
        exact hk rfl _ _ ⟨t, b, rfl, SqT.of ht, s7.tupT hb⟩ s7
      · intro H5 acc sm hD5 pr
        have hfl : (setsL ps).filter (fun _ => true) = setsL ps := List.filter_eq_self.mpr fun _ _ => rfl
        rw [hfl] at pr
        refine ⟨D, rfl, pairs_sorted hD5 (paired_swap pr) fun m H6 ys n6 s6 hm hys => ?_⟩
        have hal : (allG ps).length ≤ 256 := by rw [(allG_perm ps).length_eq]; exact hlen
        have hyl := paired_len hys
        refine ⟨m, rfl, ⟨_, SqL.of hm⟩, fun D2 hD2 => ?_⟩
        refine lc_rel (walk_list (xs := ys)) (xs := allG ps) hyl.symm (by show ys.length ≤ 100000; rw [hyl]; exact Nat.le_trans hal (by decide)) (fun _ => true) (fun H g v => GrpV K H v g) hD2 (fun H H' g v acc _ hDa k h => h.but hDa k) (fun H s => s.seq (SqL.of hm)) ?_ ?_
        · intro j g v H7 H8 Qk Qn hg sm7 hy hk _
          obtain ⟨rfl, hv⟩ := hy
          obtain ⟨g', h1, h2⟩ := OS.paired_get hys hv
          obtain rfl : g' = g := Option.some.inj (h1.symm.trans hg)
          obtain ⟨t, b, rfl, ht, hb⟩ := h2.same sm7
          walk_at "rd"
          exact hk rfl _ _ ⟨b, rfl, hb⟩ (Same.refl _)
        · intro H7 acc2 sm7 hD7 pr7
          have hfl2 : (allG ps).filter (fun _ => true) = allG ps := List.filter_eq_self.mpr fun _ _ => rfl
          rw [hfl2] at pr7
          exact q D2 H7 acc2 ((((s3.trans sm).trans s6)).free hD2) (((s3.trans sm).trans s6).trans sm7) hD7 (paired_swap pr7)
end
end P

set_option Elab.async false
set_option linter.all false
set_option maxRecDepth 100000
set_option maxHeartbeats 4000000
namespace P
open PySem PySem.Spec PyProof.Rows L2 OS
/-! short ways: "rd" opens a reading as far as equations go; "sep" finds what stands apart from the state; "sq" a list that is read; "nx" two heaps -/
local macro_rules | `(tactic| walk_at "sep") => `(tactic| first | assumption | (refine (by assumption : Nx _ _ _) _ _ ?_; walk_at "sep"))
local macro_rules | `(tactic| walk_at "sq") => `(tactic| first | assumption | exact .inl (.inl (by assumption)) | exact Sep.sq (by walk_at "sep") | exact Sep.st (by walk_at "sep") | exact .inl (.inl upd_same))
local macro_rules | `(tactic| walk_at "rd") => `(tactic| repeat (first
  | refine And.intro rfl ?_
  | apply Exists.intro
  | refine And.intro (by assumption) ?_
  | refine And.intro (DrawOk.mk (by omega) (by omega) (by omega)) ?_
  | refine And.intro at0 ?_
  | refine And.intro ⟨_, rfl⟩ ?_
  | refine And.intro (by walk_at "sq") ?_
  | refine And.intro (Or.inl (by walk_at "sq")) ?_
  | refine And.intro (Or.inr (by walk_at "sq")) ?_
  | refine And.intro (by omega) ?_))

section
variable {P : Program} {w : World} {K : PySem.W.Frag} {mg : Str → Option Value} {base : Heap}
/-- no other of the groups lies in g -/
def leastIn (gs : List (List Str)) (g : List Str) : Bool := (gs.filter fun o => decide (o ≠ g) && inside o g).isEmpty
/-- the least of the groups gs, each once -/
structure LeastOf (gs hs : List (List Str)) : Prop where
  nd : hs.Nodup
  mem : ∀ g, g ∈ hs ↔ g ∈ gs ∧ leastIn gs g = true
/-- _law_least(groups) -/
def spLLeast (K : PySem.W.Frag) : Sp := fun vs H Q _ => ∃ (a : Addr) (xs : List V) (gs : List (List Str)), vs = [.ref a] ∧ SqL K H a xs ∧ GrpsV K H xs gs ∧ gs.length < 64 ∧ (∀ g ∈ gs, g ≠ [] ∧ g.length ≤ 8) ∧
  ∀ p H' ys hs, H p = none → Same H H' → H' p = some (.lst ys) → GrpsV K H' ys hs → LeastOf gs hs → Q (.ref p) H'
theorem ok_law_least (T : Txt K mg) : FnOk P w K mg base CX0 3 T.f_law_least T.fd_law_least ["_law_groups_here"] (spLLeast K) := by
  refine T.F_law_least.ok sc_law_least (fun vs H Q E h => ?_) (fun cdv A outer s H vs Q E hr h => ?_)
  · obtain ⟨a, xs, gs, rfl, _⟩ := h
    rfl
  · obtain ⟨a, xs, gs, rfl, ha, hg, hl, hll, q⟩ := h
    refine ⟨_, (pss_cons (ps_set (i := 1) sc_law_least.nd rfl (Or.inl rfl) (pe_lstO pa_nil))
    (pss_stop (ps_for PassesOwn.never rfl (pi_hold (pi_list (pe_callB (id := "sorted") (r := rSortGx K P w) (cr_sortGx rfl (room65 hr)) (by rfl) T.n_sorted (by decide +kernel) (pa_cons (pe_callTy (T := "set") (r := rSetGx K P w) (cr_setGx rfl (room65 hr)) (by rfl) T.n_set (by decide +kernel) (pa_cons (pv 0) pa_nil)) pa_nil)))) (pg_name (i := 2) sc_law_least.nd rfl (Or.inr rfl))
      (pss_one (ps_if (pt_cmpR (r := rEqP K) (op_eqP (room65 hr)) (pe_lc (own := [("_law_other", 3)]) (g := gName 3) rfl sc_law_least.nd (pi_list (pv 0)) (blkOk_by (own := [("_law_other", 3)]) (N := N_law_least) (sc := defScope s_law_least) (by decide +kernel)) (fun _ _ _ _ _ => (pg_name (i := 3) sc_law_least.nd rfl (Or.inl rfl))) (fun _ _ _ _ _ => (pts_one (PW.pt (pw_and (pt_cmpR (r := rNeP K) (op_neP (room65 hr)) (pv 3) (pv 2) (nomark _)) (pw_and1 (pt_val (pe_call (ok_law_has T) (hr.mono (by decide)) (by rfl) T.g_law_has T.F_law_has.kp T.b_law_has .nil pass0 (pa_cons (pv 2) (pa_cons (pv 3) pa_nil))))))))) (fun _ _ _ _ _ => (pv 3))) (pe_lstO pa_nil) (nomark _))
      (pss_one (ps_expr (pe_bm PySem.F.plainAttrs_list PySem.F.slot_list_append PySem.F.type_list_append mt_append (pv 1) (pa_cons (pv 2) pa_nil)))) pss_nil)))
    (pss_one (ps_ret (pe_lc (own := [("_law_size", 4), ("_law_group", 2)]) (g := gTup K 2 (gCons (gName 4) (gCons (gName 2) gNil))) (tt := tYes) rfl sc_law_least.nd (pi_list (pe_callB (id := "sorted") (cr_sortX (room65 hr)) (by rfl) T.n_sorted (by decide +kernel) (pa_cons (pe_lc (own := [("_law_group", 2)]) (g := gName 2) (tt := tYes) rfl sc_law_least.nd (pi_list (pv 1)) (blkOk_by (own := [("_law_group", 2)]) (N := N_law_least) (sc := defScope s_law_least) (by decide +kernel)) (fun _ _ _ _ _ => (pg_name (i := 2) sc_law_least.nd rfl (Or.inl rfl))) (fun _ _ _ _ _ => pts_nil) (fun _ _ _ _ _ => (pe_tupO (pa_cons (pe_callB (id := "len") (r := rLenS K) call_lenS (by rfl) T.n_len PySem.boot_len (pa_cons (pv 2) pa_nil)) (pa_cons (pv 2) pa_nil))))) pa_nil))) (blkOk_by (own := [("_law_size", 4), ("_law_group", 2)]) (N := N_law_least) (sc := defScope s_law_least) (by decide +kernel)) (fun _ _ _ _ _ => (pg_tup rfl (pgs_cons (pg_name (i := 4) sc_law_least.nd rfl (Or.inl rfl)) (pgs_cons (pg_name (i := 2) sc_law_least.nd rfl (Or.inl rfl)) pgs_nil)))) (fun _ _ _ _ _ => pts_nil) (fun _ _ _ _ _ => (pv 2))))))), ?_⟩
    have hxl := paired_len hg
    walk_at "rd"
    refine ⟨by decide, fun p H1 np s1 hp => ?_⟩
    refine Stop.cut (fun σ H' => ∃ (y : Option V) (fs : List V) (hs : List (List Str)), σ = [some (.ref a), some (.ref p), y, none, none] ∧ Same H H' ∧ H' p = some (.lst fs) ∧ GrpsV K H' fs hs ∧ LeastOf gs hs ∧ hs.length ≤ 64) (fun Qz hz => ?_) ?_
    · walk_at "rd"
      refine grps_set (s1.seq ha) (hg.same s1) hl fun c ks Hc nc sc hc hkc ekc => ?_
      walk_at "rd"
      refine grps_sort hc hkc ekc (fun g h => (hll g h).1) fun m H2 ys os nm0 s20 hm hys ond omem olen => ?_
      have s2 : Same H1 H2 := sc.trans s20
      have nm : H1 m = none := sc.free nm0
      have hp2 := s2 _ _ hp
      have nmp : p ≠ m := ne_of_none hp nm
      have hyl := paired_len hys
      have S2 : Same H H2 := s1.trans s2
      refine ⟨m, rfl, ⟨_, SqL.of hm⟩, ⟨for_it (walk_list (xs := ys)) (fun i σ H' => ∃ (y : Option V) (fs : List V), σ = [some (.ref a), some (.ref p), y, none, none] ∧ Same H H' ∧ H' m = some (.lst ys) ∧ GrpsV K H' ys os ∧ H' p = some (.lst fs) ∧ GrpsV K H' fs ((os.take i).filter (leastIn gs)) ∧ fs.length ≤ i)
        ⟨none, [], rfl, S2, hm, hys, hp2, .nil, Nat.le_refl _⟩ (fun i σ H' _ ⟨_, _, _, _, z, _⟩ => SqL.of z) ?_ ?_⟩⟩
      · rintro i x _ H7 H8 hi ⟨y, fs, rfl, s7, hm7, hy7, hp7, hf7, hfl7⟩ ⟨rfl, hx⟩
        obtain ⟨g, hgi, h2⟩ := OS.paired_get hy7 hx
        have hgm : g ∈ gs := (omem g).mp (List.mem_of_getElem? hgi)
        have tk : os.take (i + 1) = os.take i ++ [g] := by rw [List.take_succ, hgi]; rfl
        have ha7 := s7.seq ha
        have hg7 := hg.same s7
        obtain ⟨b, rfl, hb⟩ := id h2
        walk_at "rd"
        refine ⟨⟨_, ha7⟩, fun D2 hD2 => ?_⟩
        refine lc_rel (walk_list (xs := xs)) (xs := gs) hxl.symm (by omega) (fun o => decide (o ≠ g) && inside o g) (fun H g v => GrpV K H v g) hD2 (fun H H' g v acc _ hDa k h => h.but hDa k) (fun H s => s.seq ha7) ?_ ?_
        · intro j o v H9 H10 Qk Qn ho sm9 hy hk hn
          obtain ⟨rfl, hv⟩ := hy
          obtain ⟨o', h1, h3⟩ := OS.paired_get hg7 hv
          obtain rfl : o' = o := Option.some.inj (h1.symm.trans ho)
          have hol := (hll _ (List.mem_of_getElem? ho)).2
          have hol2 : o'.length ≤ 1000 := by omega
          have h4 := h3.same sm9
          have h5 := h2.same sm9
          obtain ⟨c, rfl, hc⟩ := id h4
          have hb9 := sm9.tupT hb
          walk_at "rd"
          refine ⟨h4.dp, h5.dp, by rw [depth_G]; decide, ?_⟩
          rw [eqv_G]
          walk_at "rd"
          refine ite2 (fun e => ?_) (fun e => ?_)
          · have e1 : o' ≠ g := by simpa using e
            rw [decide_eq_true e1, Bool.true_and] at hk hn
            walk_at "rd"
            intro H11 s11
            walk_at "rd"
            refine ite2 (fun e2 => ?_) (fun e2 => ?_)
            · walk_at "rd"
              exact hk e2 _ _ (h4.same s11) s11
            · exact hn ((Bool.not_eq_true _).mp e2) _ s11
          · have e1 : o' = g := by simpa using e
            refine hn ?_ _ (Same.refl _)
            rw [decide_eq_false (not_not_intro e1), Bool.false_and]
        · intro H9 acc2 sm9 hD9 pr9
          have pr9' : GrpsV K H9 acc2 (gs.filter fun o => decide (o ≠ g) && inside o g) := paired_swap pr9
          walk_at "rd"
          refine ⟨by decide, fun e H10 ne10 s10 he10 => ?_⟩
          have d1 : Dp K H10 (.ref D2) (.list ((gs.filter fun o => decide (o ≠ g) && inside o g).map encG)) := .lst (SqL.of (s10 _ _ hD9)) (pr9'.same s10).dps
          have S10 := sm9.trans s10
          refine ⟨_, _, d1, dp_nil (SqL.of he10), ?_, ?_⟩
          · have := depth_Gs (gs.filter fun o => decide (o ≠ g) && inside o g)
            simp only [PyData.depth]
            omega
          · rw [eqv_nil, List.isEmpty_map]
            have hp10 := S10 _ _ hp7
            have hm10 := S10 _ _ hm7
            have hy10 := hy7.same S10
            have hf10 := hf7.same S10
            have hb10 := S10.tupT hb
            have SS := s7.trans S10
            walk_at "rd"
            have hflt : fs.length < sizeLine := Nat.lt_of_le_of_lt (show fs.length ≤ 1000 by omega) (by decide)
            refine ite2 (fun e1 => ?_) (fun e1 => ?_)
            · walk_at "rd"
              refine ⟨.inl ⟨rfl, _, SqL.of hp10⟩, ?_⟩
              walk_at "rd"
              have kp : ∀ c o, H10 c = some o → c ≠ p → (upd H10 p (HO.lst (fs ++ [V.ref b]))) c = some o := fun c o e hc => (upd_ne hc).trans e
              refine ⟨fun c o e => (upd_ne (ne_of_none e np)).trans (SS c o e), kp m _ hm10 nmp.symm, Paired.mapP hy10 fun _ _ z => z.but hp10 kp, upd_same, ?_, ?_⟩
              · rw [tk, List.filter_append, List.filter_cons_of_pos (p := leastIn gs) (show leastIn gs g = true from e1), List.filter_nil]
                exact paired_app (Paired.mapP hf10 fun _ _ z => z.but hp10 kp) (.cons ⟨b, rfl, tupT_but hp10 kp hb10⟩ .nil)
              · rw [List.length_append]
                simp
                omega
            · rw [tk, List.filter_append, List.filter_cons_of_neg (p := leastIn gs) (show ¬ leastIn gs g = true from e1), List.filter_nil, List.append_nil]
              exact ⟨_, fs, rfl, SS, hm10, hy10, hp10, hf10, by omega⟩
      · rintro σ H7 ⟨y, fs, rfl, s7, hm7, hy7, hp7, hf7, hfl7⟩
        refine hz _ _ ⟨y, fs, os.filter (leastIn gs), rfl, s7, hp7, ?_, ⟨ond.filter _, fun g => ?_⟩, ?_⟩
        · rw [hyl, List.take_length] at hf7
          exact hf7
        · rw [List.mem_filter, omem]
        · have := List.length_filter_le (leastIn gs) os
          omega
    · rintro _ H3 ⟨y, fs, hs, rfl, s3, hp3, hg3, hL, hl3⟩
      have hxl3 := paired_len hg3
      walk_at "rd"
      refine ⟨⟨_, SqL.of hp3⟩, fun D hD => ?_⟩
      refine lc_rel (walk_list (xs := fs)) (xs := hs) hxl3.symm (by omega) (fun _ => true) (fun H g v => PairV K H v g) hD (fun H H' g v acc _ hDa k h => h.but hDa k) (fun H s => s.seq (SqL.of hp3)) ?_ ?_
      · intro j g v H5 H6 Qk Qn hgj sm hy hk _
        obtain ⟨rfl, hv⟩ := hy
        obtain ⟨g', h1, h2⟩ := OS.paired_get hg3 hv
        obtain rfl : g' = g := Option.some.inj (h1.symm.trans hgj)
        obtain ⟨b, rfl, hb⟩ := h2.same sm
        walk_at "rd"
        refine ⟨by show 2 ≤ sizeLine; decide, fun t H7 n7 s7 ht => ?_⟩
        rw [List.length_map] at ht
        exact hk rfl _ _ ⟨t, b, rfl, SqT.of ht, s7.tupT hb⟩ s7
      · intro H5 acc sm hD5 pr
        have hfl : hs.filter (fun _ => true) = hs := List.filter_eq_self.mpr fun _ _ => rfl
        rw [hfl] at pr
        refine ⟨D, rfl, pairs_sorted hD5 (paired_swap pr) fun m H6 ys n6 s6 hm hys => ?_⟩
        have hyl := paired_len hys
        have hsl : (hs.mergeSort leP).length = hs.length := List.length_mergeSort _
        refine ⟨m, rfl, ⟨_, SqL.of hm⟩, fun D2 hD2 => ?_⟩
        refine lc_rel (walk_list (xs := ys)) (xs := hs.mergeSort leP) hyl.symm (by omega) (fun _ => true) (fun H g v => GrpV K H v g) hD2 (fun H H' g v acc _ hDa k h => h.but hDa k) (fun H s => s.seq (SqL.of hm)) ?_ ?_
        · intro j g v H7 H8 Qk Qn hg sm7 hy hk _
          obtain ⟨rfl, hv⟩ := hy
          obtain ⟨g', h1, h2⟩ := OS.paired_get hys hv
          obtain rfl : g' = g := Option.some.inj (h1.symm.trans hg)
          obtain ⟨t, b, rfl, ht, hb⟩ := h2.same sm7
          walk_at "rd"
          exact hk rfl _ _ ⟨b, rfl, hb⟩ (Same.refl _)
        · intro H7 acc2 sm7 hD7 pr7
          have hfl2 : (hs.mergeSort leP).filter (fun _ => true) = hs.mergeSort leP := List.filter_eq_self.mpr fun _ _ => rfl
          rw [hfl2] at pr7
          have pm := List.mergeSort_perm hs leP
          exact q D2 H7 acc2 _ (((s3.trans sm).trans s6).free hD2) (((s3.trans sm).trans s6).trans sm7) hD7 (paired_swap pr7) ⟨pm.nodup_iff.mpr hL.nd, fun g => pm.mem_iff.trans (hL.mem g)⟩
end
end P

set_option Elab.async false
set_option linter.all false
set_option maxRecDepth 100000
set_option maxHeartbeats 4000000
namespace P
open PySem PySem.Spec PyProof.Rows L2 OS
/-! short ways: "rd" opens a reading as far as equations go; "sep" finds what stands apart from the state; "sq" a list that is read; "nx" two heaps -/
local macro_rules | `(tactic| walk_at "sep") => `(tactic| first | assumption | (refine (by assumption : Nx _ _ _) _ _ ?_; walk_at "sep"))
local macro_rules | `(tactic| walk_at "sq") => `(tactic| first | assumption | exact .inl (.inl (by assumption)) | exact Sep.sq (by walk_at "sep") | exact Sep.st (by walk_at "sep") | exact .inl (.inl upd_same))
local macro_rules | `(tactic| walk_at "rd") => `(tactic| repeat (first
  | refine And.intro rfl ?_
  | apply Exists.intro
  | refine And.intro (by assumption) ?_
  | refine And.intro (DrawOk.mk (by omega) (by omega) (by omega)) ?_
  | refine And.intro at0 ?_
  | refine And.intro ⟨_, rfl⟩ ?_
  | refine And.intro (by walk_at "sq") ?_
  | refine And.intro (Or.inl (by walk_at "sq")) ?_
  | refine And.intro (Or.inr (by walk_at "sq")) ?_
  | refine And.intro (by omega) ?_))

/-! ### families whose groups don't contain each other -/
structure Anti (ps : List Str) (hs : List (List Str)) : Prop where
  nd : hs.Nodup
  sub : ∀ g ∈ hs, g.Sublist ps
  ne : ∀ g ∈ hs, g ≠ []
  anti : ∀ g ∈ hs, ∀ o ∈ hs, o ≠ g → inside o g = false
theorem leastIn_iff {gs : List (List Str)} {g : List Str} : leastIn gs g = true ↔ ∀ o ∈ gs, o ≠ g → inside o g = false := by
  unfold leastIn
  rw [List.isEmpty_iff, List.filter_eq_nil_iff]
  refine ⟨fun h o ho ne => ?_, fun h o ho z => ?_⟩
  · have := h o ho
    rw [decide_eq_true ne, Bool.true_and] at this
    exact (Bool.not_eq_true _).mp this
  · rw [Bool.and_eq_true, decide_eq_true_eq] at z
    rw [h o ho z.1] at z
    cases z.2
theorem LeastOf.anti {ps : List Str} {gs hs : List (List Str)} (h : LeastOf gs hs) (hs' : ∀ g ∈ gs, g.Sublist ps ∧ g ≠ []) : Anti ps hs where
  nd := h.nd
  sub := fun g hg => (hs' g ((h.mem g).mp hg).1).1
  ne := fun g hg => (hs' g ((h.mem g).mp hg).1).2
  anti := fun g hg o ho ne => leastIn_iff.mp ((h.mem g).mp hg).2 o ((h.mem o).mp ho).1 ne
theorem shortest : ∀ gs : List (List Str), gs ≠ [] → ∃ g ∈ gs, ∀ o ∈ gs, g.length ≤ o.length
  | [], h => absurd rfl h
  | [g], _ => ⟨g, .head _, fun o ho => by rw [List.mem_singleton.mp ho]; exact Nat.le_refl _⟩
  | g :: g2 :: gs, _ => by
    obtain ⟨m, hm, hl⟩ := shortest (g2 :: gs) (by simp)
    by_cases e : g.length ≤ m.length
    · exact ⟨g, .head _, fun o ho => (List.mem_cons.mp ho).elim (fun z => z ▸ Nat.le_refl _) fun z => Nat.le_trans e (hl o z)⟩
    · exact ⟨m, .tail _ hm, fun o ho => (List.mem_cons.mp ho).elim (fun z => z ▸ by omega) fun z => hl o z⟩
theorem LeastOf.some {ps : List Str} {gs hs : List (List Str)} (hp : ps.Nodup) (h : LeastOf gs hs) (hs' : ∀ g ∈ gs, g.Sublist ps) (ne : gs ≠ []) : hs ≠ [] := by
  obtain ⟨g, hg, hl⟩ := shortest gs ne
  have : g ∈ hs := (h.mem g).mpr ⟨hg, leastIn_iff.mpr fun o ho no => ?_⟩
  · intro z
    rw [z] at this
    cases this
  · rw [← Bool.not_eq_true]
    intro z
    have sb := sub_of_inside hp (hs' o ho) (hs' g hg) (inside_iff.mp z)
    exact no (sb.eq_of_length_le (hl o ho))
theorem Anti.le {ps : List Str} {hs : List (List Str)} (hp : ps.length ≤ 5) (h : Anti ps hs) : ∀ g ∈ hs, g ≠ [] ∧ g.length ≤ 8 := fun g hg => ⟨h.ne g hg, by have := (h.sub g hg).length_le; omega⟩
theorem subs_len {ps : List Str} {gs : List (List Str)} (nd : gs.Nodup) (hs : ∀ g ∈ gs, g.Sublist ps) (hp : ps.length ≤ 5) : gs.length ≤ 32 := by
  have key : ∀ (l m : List (List Str)), l.Nodup → (∀ x ∈ l, x ∈ m) → l.length ≤ m.length := by
    intro l
    induction l with
    | nil => exact fun _ _ _ => Nat.zero_le _
    | cons x l ih =>
      intro m hl hm
      obtain ⟨a, b⟩ := List.nodup_cons.mp hl
      have hx := hm x (.head _)
      have := ih (m.erase x) b fun y hy => (List.mem_erase_of_ne (fun e : y = x => a (by rw [← e]; exact hy))).mpr (hm y (.tail _ hy))
      have e := List.length_erase_of_mem hx
      have : 0 < m.length := List.length_pos_of_mem hx
      rw [List.length_cons]
      omega
  have h1 := key gs (setsL ps) nd fun g hg => mem_sets.mpr (hs g hg)
  rw [setsL_len] at h1
  exact Nat.le_trans h1 (Nat.pow_le_pow_right (by decide : 2 > 0) hp)
def restG (ws g : List Str) : List Str := ws.filter fun n => !decide (n ∈ g)
section
variable {P : Program} {w : World} {K : PySem.W.Frag} {mg : Str → Option Value} {base : Heap}
/-- _law_turned(names, least) -/
def spTurned (K : PySem.W.Frag) : Sp := fun vs H Q _ => ∃ (a l : Addr) (ps : List Str) (xs : List V) (gs : List (List Str)), vs = [.ref a, .ref l] ∧ SqT K H a (ps.map V.str) ∧ ps.length ≤ 5 ∧ ps.Nodup ∧ SqL K H l xs ∧ GrpsV K H xs gs ∧ gs ≠ [] ∧ Anti ps gs ∧
  ∀ p H' ys hs, H p = none → Same H H' → H' p = some (.lst ys) → GrpsV K H' ys hs → Anti ps hs → Q (.ref p) H'
theorem ok_law_turned (T : Txt K mg) : FnOk P w K mg base CX0 4 T.f_law_turned T.fd_law_turned ["_law_names", "_law_least_here"] (spTurned K) := by
  refine T.F_law_turned.ok sc_law_turned (fun vs H Q E h => ?_) (fun cdv A outer s H vs Q E hr h => ?_)
  · obtain ⟨a, l, ps, xs, gs, rfl, _⟩ := h
    rfl
  · obtain ⟨a, l, ps, xs, gs, rfl, ha, hpl, hnd, hl, hg, hne, han, q⟩ := h
    refine ⟨_, (pss_cons (ps_set (i := 2) sc_law_turned.nd rfl (Or.inl rfl) (pe_lstO pa_nil))
    (pss_stop (ps_for PassesOwn.never rfl (pi_hold (pi_list (pe_call (ok_law_groups T) (hr.mono (by decide)) (by rfl) T.g_law_groups T.F_law_groups.kp T.b_law_groups .nil pass0 (pa_cons (pv 0) pa_nil)))) (pg_name (i := 3) sc_law_turned.nd rfl (Or.inr rfl))
      (pss_cons (ps_set (i := 4) sc_law_turned.nd rfl (Or.inl rfl) (pe_callTy (T := "tuple") (r := rTupL K) call_tupL (by rfl) T.n_tuple (by decide +kernel) (pa_cons (pe_lc (own := [("_law_name", 5)]) (g := gName 5) rfl sc_law_turned.nd (pi_tup (pv 0)) (blkOk_by (own := [("_law_name", 5)]) (N := N_law_turned) (sc := defScope s_law_turned) (by decide +kernel)) (fun _ _ _ _ _ => (pg_name (i := 5) sc_law_turned.nd rfl (Or.inl rfl))) (fun _ _ _ _ _ => (pts_one (pt_cmpR (r := rIn K true) op_notIn_seq (pv 5) (pv 3) (by rfl)))) (fun _ _ _ _ _ => (pv 5))) pa_nil)))
    (pss_one (ps_if (pt_not (pt_val (pe_call (ok_law_opens T) (hr.mono (by decide)) (by rfl) T.g_law_opens T.F_law_opens.kp T.b_law_opens .nil pass0 (pa_cons (pv 1) (pa_cons (pv 4) pa_nil)))))
      (pss_one (ps_expr (pe_bm PySem.F.plainAttrs_list PySem.F.slot_list_append PySem.F.type_list_append mt_append (pv 2) (pa_cons (pv 3) pa_nil)))) pss_nil))))
    (pss_one (ps_ret (pe_call (ok_law_least T) (hr.mono (by decide)) (by rfl) T.g_law_least T.F_law_least.kp T.b_law_least .nil pass0 (pa_cons (pv 2) pa_nil)))))), ?_⟩
    have hgl : gs.length ≤ 900 := Nat.le_trans (subs_len han.nd han.sub hpl) (by decide)
    have hgl2 : ∀ g ∈ gs, g.length ≤ 900 := fun g hg => by have := (han.sub g hg).length_le; omega
    have hpl8 : ps.length ≤ 8 := by omega
    have hal : (allG ps).length ≤ 32 := subs_len (nodup_allG hnd) (fun g hg => mem_allG.mp hg) hpl
    walk_at "rd"
    refine ⟨by decide, fun t H1 nt s1 ht => ?_⟩
    refine Stop.cut (fun σ H' => ∃ (y z : Option V) (fs : List V) (ts : List (List Str)), σ = [some (.ref a), some (.ref l), some (.ref t), y, z, none] ∧ Same H H' ∧ H' t = some (.lst fs) ∧ GrpsV K H' fs ts ∧ ts.length < 64 ∧ ∀ g ∈ ts, g.Sublist ps ∧ g ≠ []) (fun Qz hz => ?_) ?_
    · have ha1 := s1.tupT ha
      walk_at "rd"
      intro m H2 ys nm s2 hm hys
      walk_at "rd"
      have ht2 := s2 _ _ ht
      have ntm : t ≠ m := ne_of_none ht nm
      have hyl := paired_len hys
      have S2 : Same H H2 := s1.trans s2
      refine ⟨⟨_, SqL.of hm⟩, ⟨for_it (walk_list (xs := ys)) (fun i σ H' => ∃ (y z : Option V) (fs : List V) (ts : List (List Str)), σ = [some (.ref a), some (.ref l), some (.ref t), y, z, none] ∧ Same H H' ∧ H' m = some (.lst ys) ∧ GrpsV K H' ys (allG ps) ∧ H' t = some (.lst fs) ∧ GrpsV K H' fs ts ∧ fs.length ≤ i ∧ ∀ g ∈ ts, g.Sublist ps ∧ g ≠ [])
        ⟨none, none, [], [], rfl, S2, hm, hys, ht2, .nil, Nat.le_refl _, fun g h => nomatch h⟩ (fun i σ H' _ ⟨_, _, _, _, _, _, z, _⟩ => SqL.of z) ?_ ?_⟩⟩
      · rintro i x _ H7 H8 hi ⟨y, z, fs, ts, rfl, s7, hm7, hy7, ht7, hf7, hfl7, hts⟩ ⟨rfl, hx⟩
        obtain ⟨g, hgi, h2⟩ := OS.paired_get hy7 hx
        have hgs := mem_allG.mp (List.mem_of_getElem? hgi)
        have hgb := hgs.length_le
        have ha7 := s7.tupT ha
        have hl7 := s7.seq hl
        have hg7 := hg.same s7
        obtain ⟨b, rfl, hb⟩ := id h2
        walk_at "rd"
        refine ⟨⟨_, ha7⟩, fun D hD => ?_⟩
        refine lc_fn (walk_tup (xs := ps.map V.str)) (xs := ps) (by simp) (by simp; omega) (fun n => !decide (n ∈ g)) V.str hD (fun H s => s.tupT ha7) ?_ ?_
        · intro j n v H9 H10 Qk Qn hn sm9 hy hk hn'
          obtain ⟨rfl, hv⟩ := hy
          obtain rfl := strs_get hv hn
          have hb9 := sm9.tupT hb
          walk_at "rd"
          refine ⟨strs_flat g, ?_⟩
          rw [inV_strs]
          walk_at "rd"
          refine ite2 (fun e => ?_) (fun e => ?_)
          · walk_at "rd"
            exact hk e _ (Same.refl _)
          · exact hn' ((Bool.not_eq_true _).mp e) _ (Same.refl _)
        · intro H9 sm9 hD9
          change H9 D = some (.lst ((restG ps g).map V.str)) at hD9
          walk_at "rd"
          intro r H10 nr s10 hr10
          have S10 := sm9.trans s10
          have hro : SqT K H10 r ((restG ps g).map V.str) := SqT.of hr10
          have hl10 := S10.seq hl7
          have hg10 := hg7.same S10
          walk_at "rd"
          intro H11 s11
          have S11 := S10.trans s11
          have ht11 := S11 _ _ ht7
          have hm11 := S11 _ _ hm7
          have hy11 := hy7.same S11
          have hf11 := hf7.same S11
          have hb11 := S11.tupT hb
          have SS := s7.trans S11
          walk_at "rd"
          have hflt : fs.length < sizeLine := Nat.lt_of_le_of_lt (show fs.length ≤ 1000 by omega) (by decide)
          refine ite2 (fun e1 => ?_) (fun e1 => ?_)
          · walk_at "rd"
            refine ⟨.inl ⟨rfl, _, SqL.of ht11⟩, ?_⟩
            walk_at "rd"
            have kp : ∀ c o, H11 c = some o → c ≠ t → (upd H11 t (HO.lst (fs ++ [V.ref b]))) c = some o := fun c o e hc => (upd_ne hc).trans e
            refine ⟨fun c o e => (upd_ne (ne_of_none e nt)).trans (SS c o e), kp m _ hm11 ntm.symm, Paired.mapP hy11 fun _ _ z => z.but ht11 kp, upd_same, ?_, ?_, ?_⟩
            · exact paired_app (Paired.mapP hf11 fun _ _ z => z.but ht11 kp) (.cons ⟨b, rfl, tupT_but ht11 kp hb11⟩ .nil)
            · rw [List.length_append]
              simp
              omega
            · intro g' hg'
              rcases List.mem_append.mp hg' with h | h
              · exact hts g' h
              · rw [List.mem_singleton.mp h]
                refine ⟨hgs, fun z => ?_⟩
                subst z
                have e2 : gs.any (fun o => inside o (restG ps [])) = true := by
                  obtain ⟨o, ho⟩ := List.exists_mem_of_ne_nil gs hne
                  refine List.any_eq_true.mpr ⟨o, ho, inside_iff.mpr fun n hn => ?_⟩
                  unfold restG
                  rw [List.mem_filter]
                  exact ⟨(han.sub o ho).subset hn, by simp⟩
                rw [e2] at e1
                exact absurd e1 (by decide)
          · exact ⟨_, _, fs, ts, rfl, SS, hm11, hy11, ht11, hf11, by omega, hts⟩
      · rintro σ H7 ⟨y, z, fs, ts, rfl, s7, hm7, hy7, ht7, hf7, hfl7, hts⟩
        have := paired_len hf7
        exact hz _ _ ⟨y, z, fs, ts, rfl, s7, ht7, hf7, by omega, hts⟩
    · rintro _ H3 ⟨y, z, fs, ts, rfl, s3, ht3, hf3, htl, hts⟩
      have hts2 : ∀ g ∈ ts, g ≠ [] ∧ g.length ≤ 8 := fun g hg => ⟨(hts g hg).2, by have := (hts g hg).1.length_le; omega⟩
      walk_at "rd"
      intro p H4 ws hs np s4 hp hw hL
      exact q p H4 ws hs (s3.free np) (s3.trans s4) hp hw (hL.anti hts)
end
end P

set_option Elab.async false
set_option linter.all false
set_option maxRecDepth 100000
set_option maxHeartbeats 4000000
namespace P
open PySem PySem.Spec PyProof.Rows L2 OS
section
variable {P : Program} {w : World} {K : PySem.W.Frag} {mg : Str → Option Value} {base : Heap}
theorem cutV_take (xs : List V) (k : Nat) : cutV xs none (some (k : Int)) = xs.take k := by
  unfold cutV
  rw [HT.sIx_none, HT.sIx_nat, List.drop_zero, Nat.sub_zero]
  by_cases h : xs.length ≤ k
  · rw [Nat.min_eq_right h, List.take_of_length_le (Nat.le_refl _), List.take_of_length_le h]
  · rw [Nat.min_eq_left (by omega)]
/-- .. a group, kept where all that stands apart is kept -/
def GrpN (K : PySem.W.Frag) (p : Addr) (H : Hp) (x : V) (g : List Str) : Prop := ∃ a, x = .ref a ∧ ((Sep H p a (.tup (g.map V.str)) ∨ ∃ o, Sep H p a (.frz o (.tup (g.map V.str)))) ∨ ∀ H', SqT K H' a (g.map V.str))
theorem GrpN.of {H : Hp} {p : Addr} {n : Nat} {x : V} {g : List Str} (S : StU H p n) (h : GrpV K H x g) : GrpN K p H x g := by
  obtain ⟨a, rfl, h⟩ := h
  exact ⟨a, rfl, TupN.ofU S h⟩
theorem GrpN.grp {H : Hp} {p : Addr} {x : V} {g : List Str} (h : GrpN K p H x g) : GrpV K H x g := by
  obtain ⟨a, rfl, (h | ⟨o, h⟩) | h⟩ := h
  · exact ⟨a, rfl, .inl (.inl h.at_)⟩
  · exact ⟨a, rfl, .inl (.inr ⟨o, h.at_⟩)⟩
  · exact ⟨a, rfl, h H⟩
theorem GrpN.kept {H H' : Hp} {p D : Addr} {x : V} {g : List Str} {acc : List V} (sD : Sep H p D (.lst acc)) (k : ∀ q o, Sep H p q o → q ≠ D → Sep H' p q o) (h : GrpN K p H x g) : GrpN K p H' x g := by
  obtain ⟨a, rfl, (h | ⟨o, h⟩) | h⟩ := h
  · exact ⟨a, rfl, .inl (.inl (k _ _ h (ne_of h.at_ sD.at_ fun z => by cases z)))⟩
  · exact ⟨a, rfl, .inl (.inr ⟨o, k _ _ h (ne_of h.at_ sD.at_ fun z => by cases z)⟩)⟩
  · exact ⟨a, rfl, .inr h⟩
theorem grps_drop {H : Hp} : ∀ (n : Nat) {xs : List V} {gs : List (List Str)}, GrpsV K H xs gs → GrpsV K H (xs.drop n) (gs.drop n)
  | 0, _, _, h => h
  | n + 1, _, _, .nil => .nil
  | n + 1, _, _, .cons _ t => grps_drop n t
/-- all groups but the first are not empty -/
theorem allG_tail {ps : List Str} (hp : ps.Nodup) : ∀ g ∈ (allG ps).drop 1, g ≠ [] := by
  intro g hg e
  subst e
  have hn := nodup_allG hp
  have hs := sorted_allG ps
  cases h : allG ps with
  | nil =>
    rw [h] at hg
    cases hg
  | cons x r =>
    rw [h] at hg hn hs
    have hg' : ([] : List Str) ∈ r := hg
    have h1 := (List.pairwise_cons.mp hs).1 [] hg'
    obtain ⟨h2, _⟩ := (leP_iff x []).mp h1
    have hx : x = [] := List.eq_nil_of_length_eq_zero (by
      have : ([] : List Str).length = 0 := rfl
      omega)
    subst hx
    exact (List.nodup_cons.mp hn).1 hg'
theorem allG_drop_len {ps : List Str} (h1 : 1 ≤ ps.length) (h8 : ps.length ≤ 8) : 1 ≤ ((allG ps).drop 1).length ∧ ((allG ps).drop 1).length ≤ 256 := by
  have e : (allG ps).length = 2 ^ ps.length := by rw [(allG_perm ps).length_eq, setsL_len]
  have e2 : 2 ^ 1 ≤ 2 ^ ps.length := Nat.pow_le_pow_right (by decide) h1
  have e3 : (allG ps).length ≤ 256 := by rw [(allG_perm ps).length_eq]; exact sets_small h8
  rw [List.length_drop]
  omega
theorem mem_drop_sub {ps g : List Str} (h : g ∈ (allG ps).drop 1) : g.Sublist ps := mem_allG.mp (List.mem_of_mem_drop h)
/-- a group of so many among all but the first -/
theorem some_of_len {ps : List Str} {k : Int} (h1 : 1 ≤ k) (h2 : k ≤ ps.length) : ((allG ps).drop 1).filter (fun g => decide ((g.length : Int) = k)) ≠ [] := by
  intro z
  have hm : ps.take k.toNat ∈ allG ps := mem_allG.mpr (List.take_sublist _ _)
  have hl : ((ps.take k.toNat).length : Int) = k := by
    rw [List.length_take]
    omega
  have hs := sorted_allG ps
  cases h : allG ps with
  | nil =>
    rw [h] at hm
    cases hm
  | cons x r =>
    rw [h] at hm hs z
    have hr : ps.take k.toNat ∈ r := by
      rcases List.mem_cons.mp hm with e | hm
      · have hx : ([] : List Str) ∈ x :: r := by rw [← h]; exact mem_allG.mpr (List.nil_sublist _)
        rcases List.mem_cons.mp hx with e2 | hx
        · rw [e, ← e2] at hl
          have : ([] : List Str).length = 0 := rfl
          omega
        · have := (List.pairwise_cons.mp hs).1 [] hx
          obtain ⟨h3, _⟩ := (leP_iff x []).mp this
          rw [e] at hl
          have : ([] : List Str).length = 0 := rfl
          omega
      · exact hm
    have hf : ps.take k.toNat ∈ ((x :: r).drop 1).filter (fun g => decide ((g.length : Int) = k)) := List.mem_filter.mpr ⟨hr, decide_eq_true hl⟩
    rw [z] at hf
    cases hf
theorem grps_perm {H : Hp} {xs ys : List V} {gs : List (List Str)} (h : GrpsV K H xs gs) (p : ys.Perm xs) : ∃ hs, hs.Perm gs ∧ GrpsV K H ys hs := by
  obtain ⟨z1, z2, z3⟩ := paired_zip h
  obtain ⟨M, m1, m2⟩ := map_perm p (xs.zip gs) z1.symm
  refine ⟨M.map Prod.snd, ?_, ?_⟩
  · have := m1.map Prod.snd
    rwa [z2] at this
  · rw [m2]
    exact paired_of fun c hc => z3 c (m1.mem_iff.mp hc)
theorem grps_take {H : Hp} : ∀ (n : Nat) {xs : List V} {gs : List (List Str)}, GrpsV K H xs gs → GrpsV K H (xs.take n) (gs.take n)
  | 0, _, _, h => .nil
  | n + 1, _, _, .nil => .nil
  | n + 1, _, _, .cons h t => .cons h (grps_take n t)
end
end P

set_option Elab.async false
set_option linter.all false
set_option maxRecDepth 100000
set_option maxHeartbeats 4000000
namespace P
open PySem PySem.Spec PyProof.Rows L2 OS
section
variable {K : PySem.W.Frag}
/-! ### a dict of lists of rows, while it is built -/
structure Lst (K : PySem.W.Frag) (p : Addr) (H : Hp) (d : Addr) (ks : List Str) (L : Str → Addr) (ro : Str → List (List Int)) : Prop where
  di : ∃ kvs, Sep H p d (.dK kvs) ∧ DHas (fun k v => v = .ref (L k)) kvs ks
  inj : ∀ k ∈ ks, ∀ j ∈ ks, L k = L j → k = j
  li : ∀ k ∈ ks, ∃ xs, Sep H p (L k) (.lst xs) ∧ RowsV K H xs (ro k)
theorem RowV.nxU {H H' : Hp} {p : Addr} {n : Nat} {v : V} {ns : List Int} (S : StU H p n) (x : Nx p H H') (h : RowV K H v ns) : RowV K H' v ns := h.imp fun _ q => ⟨q.1, tupT_nxU S x q.2⟩
theorem RowsV.nxU {H H' : Hp} {p : Addr} {n : Nat} {xs : List V} {rs : List (List Int)} (S : StU H p n) (x : Nx p H H') (h : RowsV K H xs rs) : RowsV K H' xs rs := Paired.mapP h fun _ _ q => q.nxU S x
theorem Lst.nx {H H' : Hp} {p d : Addr} {n : Nat} {ks : List Str} {L : Str → Addr} {ro : Str → List (List Int)} (S : StU H p n) (x : Nx p H H') (h : Lst K p H d ks L ro) : Lst K p H' d ks L ro := by
  obtain ⟨⟨kvs, h1, h2⟩, h3, h4⟩ := h
  refine ⟨⟨kvs, x _ _ h1, h2⟩, h3, fun k hk => ?_⟩
  obtain ⟨xs, q1, q2⟩ := h4 k hk
  exact ⟨xs, x _ _ q1, q2.nxU S x⟩
theorem Lst.same {H H' : Hp} {p d : Addr} {n : Nat} {ks : List Str} {L : Str → Addr} {ro : Str → List (List Int)} (S : StU H p n) (s : Same H H') (h : Lst K p H d ks L ro) : Lst K p H' d ks L ro := h.nx S (S.nx s)
theorem Lst.empty {H : Hp} {p d : Addr} {L : Str → Addr} {ro : Str → List (List Int)} (h : Sep H p d (.dK [])) : Lst K p H d [] L ro :=
  ⟨⟨[], h, DHas.nil⟩, fun k hk => (by cases hk), fun k hk => (by cases hk)⟩
theorem Lst.get {H : Hp} {p d : Addr} {ks : List Str} {L : Str → Addr} {ro : Str → List (List Int)} (h : Lst K p H d ks L ro) {k : Str} (hk : k ∈ ks) : DGet H d (.str k) (some (.ref (L k))) := by
  obtain ⟨kvs, h1, h2⟩ := h.di
  obtain ⟨v, hv, rfl⟩ := h2.vals k hk
  have := DGet.k (k := (Sum.inr k : Key)) h1.at_
  rwa [hv] at this
theorem RowsV.put {H : Hp} {D : Addr} {u u' : HO} (hD : H D = some u) (hu : ∀ xs, u ≠ .tup xs ∧ ∀ o, u ≠ .frz o (.tup xs)) {xs : List V} {rs : List (List Int)} (h : RowsV K H xs rs) : RowsV K (upd H D u') xs rs :=
  Paired.mapP h fun _ _ q => q.but hD hu fun b o e n => (upd_ne n).trans e
theorem dk_no (kvs : List (Key × V)) : ∀ xs, HO.dK kvs ≠ .tup xs ∧ ∀ o, HO.dK kvs ≠ .frz o (.tup xs) := fun _ => ⟨fun z => (by cases z), fun _ z => (by cases z)⟩
theorem ls_no (ys : List V) : ∀ xs, HO.lst ys ≠ .tup xs ∧ ∀ o, HO.lst ys ≠ .frz o (.tup xs) := fun _ => ⟨fun z => (by cases z), fun _ z => (by cases z)⟩
theorem Lst.add {H : Hp} {p d b : Addr} {ks : List Str} {L : Str → Addr} {ro : Str → List (List Int)} (h : Lst K p H d ks L ro) {k : Str} (hk : k ∉ ks) {xs : List V} {rs : List (List Int)} (hb : Sep H p b (.lst xs)) (hr : RowsV K H xs rs) (fr : ∀ j ∈ ks, L j ≠ b)
    {kvs : List (Key × V)} (hd : H d = some (.dK kvs)) : Lst K p (upd H d (.dK (putK kvs (.inr k) (.ref b)))) d (ks ++ [k]) (fun j => if j = k then b else L j) (fun j => if j = k then rs else ro j) := by
  obtain ⟨⟨kvs', h1, h2⟩, h3, h4⟩ := h
  obtain rfl : kvs' = kvs := by
    have := h1.at_.symm.trans hd
    injection this with this
    injection this
  have ne : ∀ j ∈ ks, j ≠ k := fun j hj e => hk (e ▸ hj)
  have mm : ∀ j, j ∈ ks ++ [k] → j = k ∨ (j ∈ ks ∧ j ≠ k) := fun j hj => by
    rcases List.mem_append.mp hj with z | z
    · exact .inr ⟨z, ne j z⟩
    · exact .inl (List.mem_singleton.mp z)
  refine ⟨⟨_, h1.put_same, DHas.add ⟨h2.keys, h2.nd, fun j hj => ?_⟩ hk (by simp)⟩, fun i hi j hj e => ?_, fun j hj => ?_⟩
  · obtain ⟨v, q1, q2⟩ := h2.vals j hj
    exact ⟨v, q1, by rw [if_neg (ne j hj)]; exact q2⟩
  · rcases mm i hi with rfl | ⟨a, a'⟩
    · rcases mm j hj with rfl | ⟨c, c'⟩
      · rfl
      · rw [if_pos rfl, if_neg c'] at e
        exact absurd e.symm (fr j c)
    · rcases mm j hj with rfl | ⟨c, c'⟩
      · rw [if_pos rfl, if_neg a'] at e
        exact absurd e (fr i a)
      · rw [if_neg a', if_neg c'] at e
        exact h3 i a j c e
  · rcases mm j hj with rfl | ⟨a, a'⟩
    · rw [if_pos rfl, if_pos rfl]
      exact ⟨xs, hb.put_ne h1 (ne_of hb.at_ h1.at_ fun z => by cases z), hr.put hd (dk_no _)⟩
    · rw [if_neg a', if_neg a']
      obtain ⟨ys, q1, q2⟩ := h4 j a
      exact ⟨ys, q1.put_ne h1 (ne_of q1.at_ h1.at_ fun z => by cases z), q2.put hd (dk_no _)⟩
theorem Lst.app {H : Hp} {p d : Addr} {ks : List Str} {L : Str → Addr} {ro : Str → List (List Int)} (h : Lst K p H d ks L ro) {k : Str} (hk : k ∈ ks) {xs : List V} {r : V} {ns : List Int} (hx : H (L k) = some (.lst xs)) (hr : RowV K H r ns) :
    Lst K p (upd H (L k) (.lst (xs ++ [r]))) d ks L (fun j => if j = k then ro j ++ [ns] else ro j) := by
  obtain ⟨⟨kvs, h1, h2⟩, h3, h4⟩ := h
  obtain ⟨ys, q1, q2⟩ := h4 k hk
  obtain rfl : ys = xs := by
    have := q1.at_.symm.trans hx
    injection this with this
    injection this
  have kp : ∀ b o, H b = some o → b ≠ L k → (upd H (L k) (HO.lst (ys ++ [r]))) b = some o := fun b o e n => (upd_ne n).trans e
  refine ⟨⟨kvs, h1.put_ne q1 (ne_of h1.at_ q1.at_ fun z => by cases z), h2⟩, h3, fun j hj => ?_⟩
  by_cases e : j = k
  · subst e
    rw [if_pos rfl]
    exact ⟨_, q1.put_same, paired_snoc (q2.put hx (ls_no _)) (hr.but hx (ls_no _) kp)⟩
  · rw [if_neg e]
    obtain ⟨zs, z1, z2⟩ := h4 j hj
    exact ⟨zs, z1.put_ne q1 (fun z => e (h3 j hj k hk z)), z2.put hx (ls_no _)⟩
theorem tupT_put {H : Hp} {D t : Addr} {u u' : HO} (hD : H D = some u) (hu : ∀ xs, u ≠ .tup xs ∧ ∀ o, u ≠ .frz o (.tup xs)) {xs : List V} (h : SqT K H t xs) : SqT K (upd H D u') t xs := by
  rcases h with (h | ⟨o, h⟩) | h
  · exact .inl (.inl ((upd_ne fun z => by rw [z, hD] at h; exact (hu _).1 (Option.some.inj h)).trans h))
  · exact .inl (.inr ⟨o, (upd_ne fun z => by rw [z, hD] at h; exact (hu _).2 o (Option.some.inj h)).trans h⟩)
  · exact .inr h
theorem SchAt.congr {C : Addr} {H : Hp} {f : Addr} {pr : Int} {n : Nat} {ws : List Str} {ro ro' : Str → List (List Int)} (h : SchAt K C H f pr n ws ro') (e : ∀ k ∈ ws, ro' k = ro k) : SchAt K C H f pr n ws ro := by
  obtain ⟨dx, a, d, kvs, h1, h2, h3, h4⟩ := h
  refine ⟨dx, a, d, kvs, h1, h2, h3, h4.keys, h4.nd, fun k hk => ?_⟩
  obtain ⟨v, q1, q2⟩ := h4.vals k hk
  exact ⟨v, q1, by rw [← e k hk]; exact q2⟩
/-- another dict is written -/
theorem Lst.other {H : Hp} {p d e : Addr} {ks : List Str} {L : Str → Addr} {ro : Str → List (List Int)} (h : Lst K p H d ks L ro) {kvs kvs' : List (Key × V)} (he : Sep H p e (.dK kvs)) (ne : d ≠ e) : Lst K p (upd H e (.dK kvs')) d ks L ro := by
  obtain ⟨⟨kv, h1, h2⟩, h3, h4⟩ := h
  refine ⟨⟨kv, h1.put_ne he ne, h2⟩, h3, fun k hk => ?_⟩
  obtain ⟨xs, q1, q2⟩ := h4 k hk
  exact ⟨xs, q1.put_ne he (ne_of q1.at_ he.at_ fun z => by cases z), q2.put he.at_ (dk_no _)⟩
/-- as Scheme takes it -/
theorem Lst.rows {H : Hp} {p d : Addr} {ks : List Str} {L : Str → Addr} {ro : Str → List (List Int)} (h : Lst K p H d ks L ro) : ∃ kvs, Sep H p d (.dK kvs) ∧ DHas (fun k v => RowsL K H v (ro k)) kvs ks := by
  obtain ⟨⟨kvs, h1, h2⟩, h3, h4⟩ := h
  refine ⟨kvs, h1, h2.keys, h2.nd, fun k hk => ?_⟩
  obtain ⟨v, q1, rfl⟩ := h2.vals k hk
  obtain ⟨xs, z1, z2⟩ := h4 k hk
  exact ⟨_, q1, L k, xs, rfl, SqL.of z1.at_, z2⟩
/-- a model (prime, width, rows) -/
structure ModAt (K : PySem.W.Frag) (p : Addr) (H : Hp) (t : Addr) (pr : Int) (n : Nat) (ks : List Str) (ro : Str → List (List Int)) : Prop where
  go : ∃ d L, SqT K H t [.int pr, .int (n : Int), .ref d] ∧ Lst K p H d ks L ro
  isP : isPr (.int pr) = true
  one : 1 ≤ n
  big : n ≤ 40
  ok : ∀ k ∈ ks, RowsOk pr n (ro k)
theorem ModAt.nx {H H' : Hp} {p t : Addr} {m : Nat} {pr : Int} {n : Nat} {ks : List Str} {ro : Str → List (List Int)} (S : StU H p m) (x : Nx p H H') (h : ModAt K p H t pr n ks ro) : ModAt K p H' t pr n ks ro := by
  obtain ⟨⟨d, L, h1, h2⟩, a, b, c, e⟩ := h
  exact ⟨⟨d, L, tupT_nxU S x h1, h2.nx S x⟩, a, b, c, e⟩
theorem SchAt.nxU {H H' : Hp} {C p f : Addr} {m : Nat} {pr : Int} {n : Nat} {ws : List Str} {ro : Str → List (List Int)} (S : StU H p m) (x : Nx p H H') (h : SchAt K C H f pr n ws ro) : SchAt K C H' f pr n ws ro := by
  obtain ⟨dx, a, d, kvs, hf, ha, hd, hh⟩ := h
  refine ⟨dx, a, d, kvs, (x _ _ (S.sep hf fun _ z => (by cases z))).at_, tupT_nxU S x ha, (x _ _ (S.sep hd fun _ z => (by cases z))).at_, hh.mono fun k v q => ?_⟩
  obtain ⟨b, xs, e, h1, h2⟩ := q
  exact ⟨b, xs, e, tupT_nxU S x h1, h2.nxU S x⟩
end
end P

set_option Elab.async false
set_option linter.all false
set_option maxRecDepth 100000
set_option maxHeartbeats 4000000
namespace P
open PySem PySem.Spec PyProof.Rows L2 OS
/-! short ways: "rd" opens a reading as far as equations go; "sep" finds what stands apart from the state; "sq" a list that is read; "nx" two heaps -/
local macro_rules | `(tactic| walk_at "sep") => `(tactic| first | assumption | (refine (by assumption : Nx _ _ _) _ _ ?_; walk_at "sep"))
local macro_rules | `(tactic| walk_at "sq") => `(tactic| first | assumption | exact .inl (.inl (by assumption)) | exact Sep.sq (by walk_at "sep") | exact Sep.st (by walk_at "sep") | exact .inl (.inl upd_same))
local macro_rules | `(tactic| walk_at "rd") => `(tactic| repeat (first
  | refine And.intro rfl ?_
  | apply Exists.intro
  | refine And.intro (by assumption) ?_
  | refine And.intro (DrawOk.mk (by omega) (by omega) (by omega)) ?_
  | refine And.intro at0 ?_
  | refine And.intro ⟨_, rfl⟩ ?_
  | refine And.intro (by walk_at "sq") ?_
  | refine And.intro (Or.inl (by walk_at "sq")) ?_
  | refine And.intro (Or.inr (by walk_at "sq")) ?_
  | refine And.intro (by omega) ?_))

section
variable {P : Program} {w : World} {K : PySem.W.Frag} {mg : Str → Option Value} {base : Heap}
/-- (1, 0, .., 0) -/
def goalL (n : Nat) : List Int := 1 :: List.replicate (n - 1) 0
/-- _law_goal(width) -/
def spGoal (K : PySem.W.Frag) : Sp := fun vs H Q _ => ∃ n : Nat, vs = [.int (n : Int)] ∧ 1 ≤ n ∧ n ≤ 100 ∧ ∀ p H', H p = none → Same H H' → H' p = some (.tup ((goalL n).map V.int)) → Q (.ref p) H'
theorem ok_law_goal (T : Txt K mg) : FnOk P w K mg base CX0 1 T.f_law_goal T.fd_law_goal ["_law_width"] (spGoal K) := by
  refine T.F_law_goal.ok sc_law_goal (fun vs H Q E h => ?_) (fun cdv A outer s H vs Q E hr h => ?_)
  · obtain ⟨n, rfl, _⟩ := h
    rfl
  · obtain ⟨n, rfl, h1, h2, q⟩ := h
    refine ⟨_, (pss_one (ps_ret (pe_callTy (T := "tuple") (r := rTupL K) call_tupL (by rfl) T.n_tuple (by decide +kernel) (pa_cons (pe_op op_catO (pe_lstO (pa_cons pe_int pa_nil)) (pe_op op_mulL (pe_lstO (pa_cons pe_int pa_nil)) (pe_op op_sub (pv 0) pe_int))) pa_nil)))), ?_⟩
    walk_at "rd"
    refine ⟨by decide, fun a H1 na s1 ha => ?_⟩
    walk_at "rd"
    refine ⟨by decide, fun b H2 nb s2 hb => ?_⟩
    walk_at "rd"
    refine ⟨Nat.le_trans (show 1 * ((n : Int) - 1).toNat ≤ 1000 by omega) (by decide), fun c H3 nc s3 hc => ?_⟩
    have ha3 := s3 _ _ (s2 _ _ ha)
    have el : (List.replicate ((n : Int) - 1).toNat [V.int 0]).flatten = (List.replicate (n - 1) (0 : Int)).map V.int := by
      have e1 : ((n : Int) - 1).toNat = n - 1 := by omega
      rw [e1]
      generalize n - 1 = k
      induction k with
      | zero => rfl
      | succ k ih => rw [List.replicate_succ, List.replicate_succ, List.flatten_cons, ih]; rfl
    rw [el] at hc
    walk_at "rd"
    refine ⟨by rw [List.length_map, List.length_replicate]; exact Nat.le_trans (show 1 + (n - 1) ≤ 1000 by omega) (by decide), fun d H4 nd s4 hd => ?_⟩
    walk_at "rd"
    intro r H5 nr s5 hr5
    have S4 := ((s1.trans s2).trans s3).trans s4
    exact q r H5 (S4.free nr) (S4.trans s5) hr5
/-- _law_powers(prime, figure, many) -/
def spPowers (K : PySem.W.Frag) : Sp := fun vs H Q _ => ∃ (p f : Int) (n : Nat), vs = [.int p, .int f, .int (n : Int)] ∧ 1 < p ∧ p ≤ 100 ∧ 0 ≤ f ∧ f ≤ 100 ∧ 1 ≤ n ∧ n ≤ 100 ∧ ∀ r H' (ns : List Int), H r = none → Same H H' → H' r = some (.lst (ns.map V.int)) → ns.length = n - 1 → (∀ i ∈ ns, 0 ≤ i ∧ i < p) → Q (.ref r) H'
theorem ok_law_powers (T : Txt K mg) : FnOk P w K mg base CX0 1 T.f_law_powers T.fd_law_powers ["_law_prime", "_law_figure1", "_law_many"] (spPowers K) := by
  refine T.F_law_powers.ok sc_law_powers (fun vs H Q E h => ?_) (fun cdv A outer s H vs Q E hr h => ?_)
  · obtain ⟨p, f, n, rfl, _⟩ := h
    rfl
  · obtain ⟨p, f, n, rfl, hp, hp2, hf, hf2, h1, h2, q⟩ := h
    refine ⟨_, (pss_cons (ps_set (i := 3) sc_law_powers.nd rfl (Or.inl rfl) (pe_lstO pa_nil))
    (pss_cons (ps_set (i := 4) sc_law_powers.nd rfl (Or.inl rfl) pe_int)
    (pss_stop (ps_for PassesOwn.never rfl (pi_hold (pi_range1 rfl T.n_range (pa_cons (pe_op op_sub (pv 2) pe_int) pa_nil))) (pg_name (i := 5) sc_law_powers.nd rfl (Or.inl rfl))
      (pss_cons (ps_set (i := 4) sc_law_powers.nd rfl (Or.inl rfl) (pe_op op_mod (pe_op op_mul (pv 4) (pv 1)) (pv 0)))
    (pss_one (ps_expr (pe_bm PySem.F.plainAttrs_list PySem.F.slot_list_append PySem.F.type_list_append mt_append (pv 3) (pa_cons (pv 4) pa_nil))))))
    (pss_one (ps_ret (pv 3)))))), ?_⟩
    walk_at "rd"
    refine ⟨by decide, fun t H1 nt s1 ht => ?_⟩
    walk_at "rd"
    refine Stop.cut (fun σ H' => ∃ (y z : Option V) (ns : List Int), σ = [some (.int p), some (.int f), some (.int (n : Int)), some (.ref t), y, z] ∧ Same H H' ∧ H' t = some (.lst (ns.map V.int)) ∧ ns.length = n - 1 ∧ ∀ i ∈ ns, 0 ≤ i ∧ i < p) (fun Qz hz => ?_) ?_
    · walk_at "rd"
      refine ⟨for_it walk_range (fun i σ H' => ∃ (c : Int) (z : Option V) (ns : List Int), σ = [some (.int p), some (.int f), some (.int (n : Int)), some (.ref t), some (.int c), z] ∧ 0 ≤ c ∧ c ≤ 100 ∧ Same H H' ∧ H' t = some (.lst (ns.map V.int)) ∧ ns.length = i ∧ ∀ i ∈ ns, 0 ≤ i ∧ i < p) ⟨1, none, [], rfl, by decide, by decide, s1, ht, rfl, fun _ h => nomatch h⟩ (fun _ _ _ _ _ => trivial) ?_ ?_⟩
      · rintro i x _ H3 H4 hi ⟨c, z, ns, rfl, hc0, hc1, s3, ht3, hl3, hn3⟩ ⟨rfl, rfl⟩
        have hcm : CMul c f := .inl ⟨by omega, by omega⟩
        have hp0 : 0 < p := by omega
        walk_at "rd"
        refine ⟨.inl ⟨rfl, _, SqL.of ht3⟩, ?_⟩
        have hlt : (ns.map V.int).length < sizeLine := by
          rw [List.length_map]
          exact Nat.lt_of_le_of_lt (show ns.length ≤ 1000 by omega) (by decide)
        have m1 := Int.emod_nonneg (c * f) (by omega : p ≠ 0)
        have m2 := Int.emod_lt_of_pos (c * f) hp0
        walk_at "rd"
        refine ⟨fun b o e => (upd_ne (ne_of_none e nt)).trans (s3 b o e), by rw [show (List.map V.int ns ++ [V.int (c * f % p)]) = (ns ++ [c * f % p]).map V.int by rw [List.map_append]; rfl]; exact upd_same, by rw [List.length_append, hl3]; rfl, fun j hj => ?_⟩
        rcases List.mem_append.mp hj with hj | hj
        · exact hn3 j hj
        · rw [List.mem_singleton.mp hj]
          exact ⟨m1, m2⟩
      · rintro σ H3 ⟨c, z, ns, rfl, hc0, hc1, s3, ht3, hl3, hn3⟩
        refine hz _ _ ⟨_, z, ns, rfl, s3, ht3, ?_, hn3⟩
        omega
    · rintro _ H3 ⟨y, z, ns, rfl, s3, ht3, hl3, hn3⟩
      walk_at "rd"
      exact q t H3 ns nt s3 ht3 hl3 hn3
/-- _law_dot(prime, one, other) -/
theorem ok_law_dot (T : Txt K mg) : FnOk P w K mg base CX0 1 T.f_law_dot T.fd_law_dot ["_law_prime", "_law_one", "_law_other"] (spProduct K) := by
  refine T.F_law_dot.ok sc_law_dot (fun vs H Q E h => ?_) (fun cdv A outer s H vs Q E hr h => ?_)
  · obtain ⟨p, n, a, b, ns, ms, rfl, _⟩ := h
    rfl
  · obtain ⟨p, n, a, b, ns, ms, rfl, hpr, ha, hb, hna, hmb, hn1, hn2, q⟩ := h
    refine ⟨_, (pss_one (ps_ret (pe_op op_mod (pe_callB (id := "sum") (r := rSum K) (cr_sum rfl) (by rfl) T.n_sum (by decide +kernel) (pa_cons (pe_lc (own := [("_law_k", 3)]) (g := gName 3) (tt := tYes) rfl sc_law_dot.nd (pi_range1 rfl T.n_range (pa_cons (pe_callB (id := "len") (r := rLenS K) call_lenS (by rfl) T.n_len PySem.boot_len (pa_cons (pv 1) pa_nil)) pa_nil)) (blkOk_by (own := [("_law_k", 3)]) (N := N_law_dot) (sc := defScope s_law_dot) (by decide +kernel)) (fun _ _ _ _ _ => (pg_name (i := 3) sc_law_dot.nd rfl (Or.inl rfl))) (fun _ _ _ _ _ => pts_nil) (fun _ _ _ _ _ => (pe_op op_mul (pe_ix (r := rIxT K) ix_tup (pv 1) (pv 3) (fun _ _ => rfl)) (pe_ix (r := rIxT K) ix_tup (pv 2) (pv 3) (fun _ _ => rfl))))) pa_nil)) (pv 0)))), ?_⟩
    have hpl := pr_le hpr
    have el : ((ns.map V.int).length : Int).toNat = ns.length := by rw [List.length_map]; omega
    have eln := hna.len
    have elm := hmb.len
    refine ⟨.ref a, rfl, a, ns.map V.int, rfl, .inr ha, _, rfl, by rw [List.length_map]; omega, by rw [List.length_map]; omega, fun D hD => ?_⟩
    refine lc_all (walk_range (n := (((ns.map V.int).length : Nat) : Int).toNat)) (xs := ns.zip ms) (by rw [el, List.length_zip]; omega) (by rw [el]; omega) (fun z => V.int (z.1 * z.2)) hD (fun H s => trivial) ?_ ?_
    · intro i z v H3 H4 Qk hz sm hy hk
      obtain ⟨rfl, rfl⟩ := hy
      obtain ⟨z1, z2⟩ := z
      obtain ⟨hz1, hz2⟩ := List.getElem?_zip_eq_some.mp hz
      have ha3 := sm.tupT ha
      have hb3 := sm.tupT hb
      have b1 := rng_small hpl.2 hna.rng z1 (List.mem_of_getElem? hz1)
      have hcm : CMul z1 z2 := .inl b1
      have g1 : atI (ns.map V.int) ((0 : Int) + (i : Int)) = some (V.int z1) := by
        rw [Int.zero_add]
        exact atI_nat (by rw [List.getElem?_map, hz1]; rfl)
      have g2 : atI (ms.map V.int) ((0 : Int) + (i : Int)) = some (V.int z2) := by
        rw [Int.zero_add]
        exact atI_nat (by rw [List.getElem?_map, hz2]; rfl)
      walk_at "rd"
      exact hk _ (Same.refl _)
    · intro H3 s3 hD3
      have hDq : SqL K H3 D ((List.zipWith (fun a b => a * b) ns ms).map V.int) := SqL.of (by rw [hD3, List.zip, List.map_zipWith, List.map_zipWith])
      have hp0 : 0 < p := by omega
      walk_at "rd"
      exact q H3 s3
/-- _law_is_number(prime, value) -/
def spIsNum (K : PySem.W.Frag) : Sp := fun vs H Q _ => ∃ (p : Int) (v : V), vs = [.int p, v] ∧ Num2 K H v ∧ Q (.bl (isN p v)) H
theorem ok_law_is_number (T : Txt K mg) : FnOk P w K mg base CX0 1 T.f_law_is_number T.fd_law_is_number ["_law_prime", "_law_value"] (spIsNum K) := by
  refine T.F_law_is_number.ok sc_law_is_number (fun vs H Q E h => ?_) (fun cdv A outer s H vs Q E hr h => ?_)
  · obtain ⟨p, v, rfl, _⟩ := h
    rfl
  · obtain ⟨p, v, rfl, hv, q⟩ := h
    obtain ⟨t, ht, h1, h2⟩ := hv
    refine ⟨_, (pss_one (ps_ret (pe_and (pe_callB (id := "isinstance") (r := rIsi K) call_isi (by rfl) T.n_isinstance (by decide +kernel) (pa_cons (pv 1) (pa_cons (pe_bltn (v := .ty "int") (u := .type "int") (by rfl) T.n_int (by decide +kernel) rfl) pa_nil))) (pe_and (pe_not (pe_callB (id := "isinstance") (r := rIsi K) call_isi (by rfl) T.n_isinstance (by decide +kernel) (pa_cons (pv 1) (pa_cons (pe_bltn (v := .ty "bool") (u := .type "bool") (by rfl) T.n_bool (by decide +kernel) rfl) pa_nil)))) (pe_one (pe_chain op_le op_lt pe_int (pv 1) (pv 0))))))), ?_⟩
    walk_at "rd"
    refine ⟨.ty _, ht, h1, ?_⟩
    walk_at "rd"
    refine ite2 (fun e => ?_) (fun e => ?_)
    · walk_at "rd"
      refine ⟨.ty _, ht, h2, ?_⟩
      walk_at "rd"
      refine ite2 (fun e2 => ?_) (fun e2 => ?_)
      · obtain ⟨i, rfl⟩ : ∃ i, v = .int i := by
          cases v <;> first | exact ⟨_, rfl⟩ | exact absurd e Bool.false_ne_true | exact absurd e2 Bool.false_ne_true
        walk_at "rd"
        refine ite2 (fun e1 => ?_) (fun e1 => ?_)
        · walk_at "rd"
          have : isN p (.int i) = decide (i < p) := by
            show (decide (0 ≤ i) && decide (i < p)) = _
            rw [e1, Bool.true_and]
          rw [this] at q
          exact q
        · have : isN p (.int i) = false := by
            show (decide (0 ≤ i) && decide (i < p)) = _
            rw [(Bool.not_eq_true _).mp e1, Bool.false_and]
          rw [this] at q
          exact q
      · have ev : isN p v = false := by
          cases v <;> first | rfl | exact absurd rfl e2
        rw [ev] at q
        exact q
    · have ev : isN p v = false := by
        cases v <;> first | rfl | exact absurd rfl e
      rw [ev] at q
      exact q
end
end P

set_option Elab.async false
set_option linter.all false
set_option maxRecDepth 100000
set_option maxHeartbeats 4000000
namespace P
open PySem PySem.Spec PyProof.Rows L2 OS
/-! short ways: "rd" opens a reading as far as equations go; "sep" finds what stands apart from the state; "sq" a list that is read; "nx" two heaps -/
local macro_rules | `(tactic| walk_at "sep") => `(tactic| first | assumption | (refine (by assumption : Nx _ _ _) _ _ ?_; walk_at "sep"))
local macro_rules | `(tactic| walk_at "sq") => `(tactic| first | assumption | exact .inl (.inl (by assumption)) | exact Sep.sq (by walk_at "sep") | exact Sep.st (by walk_at "sep") | exact .inl (.inl upd_same))
local macro_rules | `(tactic| walk_at "rd") => `(tactic| repeat (first
  | refine And.intro rfl ?_
  | apply Exists.intro
  | refine And.intro (by assumption) ?_
  | refine And.intro (DrawOk.mk (by omega) (by omega) (by omega)) ?_
  | refine And.intro at0 ?_
  | refine And.intro ⟨_, rfl⟩ ?_
  | refine And.intro (by walk_at "sq") ?_
  | refine And.intro (Or.inl (by walk_at "sq")) ?_
  | refine And.intro (Or.inr (by walk_at "sq")) ?_
  | refine And.intro (by omega) ?_))

section
variable {P : Program} {w : World} {K : PySem.W.Frag} {mg : Str → Option Value} {base : Heap}
/-- a model, for a def that draws nothing -/
structure MoA (K : PySem.W.Frag) (H : Hp) (t : Addr) (pr : Int) (n : Nat) (ks : List Str) (ro : Str → List (List Int)) : Prop where
  go : ∃ d kvs, SqT K H t [.int pr, .int (n : Int), .ref d] ∧ H d = some (.dK kvs) ∧ DHas (fun k v => RowsL K H v (ro k)) kvs ks
  isP : isPr (.int pr) = true
  one : 1 ≤ n
  big : n ≤ 40
  ok : ∀ k ∈ ks, RowsOk pr n (ro k)
theorem ModAt.mo {H : Hp} {p t : Addr} {pr : Int} {n : Nat} {ks : List Str} {ro : Str → List (List Int)} (h : ModAt K p H t pr n ks ro) : MoA K H t pr n ks ro := by
  obtain ⟨⟨d, L, h1, h2⟩, a, b, c, e⟩ := h
  obtain ⟨kvs, q1, q2⟩ := h2.rows
  exact ⟨⟨d, kvs, h1, q1.at_, q2⟩, a, b, c, e⟩
theorem MoA.same {H H' : Hp} {t : Addr} {pr : Int} {n : Nat} {ks : List Str} {ro : Str → List (List Int)} (h : MoA K H t pr n ks ro) (s : Same H H') : MoA K H' t pr n ks ro := by
  obtain ⟨⟨d, kvs, h1, h2, h3⟩, a, b, c, e⟩ := h
  exact ⟨⟨d, kvs, s.tupT h1, s _ _ h2, h3.mono fun _ _ z => z.same s⟩, a, b, c, e⟩
/-- _law_dealt(model, dealt) -/
def spLDealt (K : PySem.W.Frag) : Sp := fun vs H Q _ => ∃ (t e : Addr) (pr : Int) (n : Nat) (ks : List Str) (ro : Str → List (List Int)) (ds : List Int), vs = [.ref t, .ref e] ∧ MoA K H t pr n ks ro ∧ NamesOk ks ∧ SqT K H e (ds.map V.int) ∧ RowOk pr n ds ∧
  ∀ q kvs ws H', H q = none → Same H H' → H' q = some (.dK kvs) → ws.Perm ks → DHas (fun k v => dealV K H' pr ds (ro k) v) kvs ws → Q (.ref q) H'
theorem ok_law_dealt (T : Txt K mg) : FnOk P w K mg base CX0 2 T.f_law_dealt T.fd_law_dealt ["_law_model_here", "_law_dealt_here"] (spLDealt K) := by
  refine T.F_law_dealt.ok sc_law_dealt (fun vs H Q E h => ?_) (fun cdv A outer s H vs Q E hr h => ?_)
  · obtain ⟨t, e, pr, n, ks, ro, ds, rfl, _⟩ := h
    rfl
  · obtain ⟨t, e, pr, n, ks, ro, ds, rfl, M, hk, he, hds, q⟩ := h
    refine ⟨_, (pss_cons (ps_set (i := 2) sc_law_dealt.nd rfl (Or.inl rfl) pe_dnewK)
    (pss_stop (ps_for PassesOwn.never rfl (pi_hold (pi_list (pe_callB (id := "sorted") (r := rSortD) (cr_sortD rfl) (by rfl) T.n_sorted (by decide +kernel) (pa_cons (pe_ix (r := rIxT K) ix_tup (pv 0) pe_int (fun _ _ => rfl)) pa_nil)))) (pg_name (i := 3) sc_law_dealt.nd rfl (Or.inl rfl))
      (pss_one (ps_dput (hu_of hr) (pv 2) (pv 3) (pe_callTy (T := "tuple") (r := rTupL K) call_tupL (by rfl) T.n_tuple (by decide +kernel) (pa_cons (pe_lc (own := [("_law_row", 4)]) (g := gName 4) (tt := tYes) rfl sc_law_dealt.nd (pi_list (pe_dget (hu_of hr) (pe_ix (r := rIxT K) ix_tup (pv 0) pe_int (fun _ _ => rfl)) (pv 3) (fun _ _ => rfl))) (blkOk_by (own := [("_law_row", 4)]) (N := N_law_dealt) (sc := defScope s_law_dealt) (by decide +kernel)) (fun _ _ _ _ _ => (pg_name (i := 4) sc_law_dealt.nd rfl (Or.inl rfl))) (fun _ _ _ _ _ => pts_nil) (fun _ _ _ _ _ => (pe_call (ok_law_dot T) (hr.mono (by decide)) (by rfl) T.g_law_dot T.F_law_dot.kp T.b_law_dot .nil pass0 (pa_cons (pe_ix (r := rIxT K) ix_tup (pv 0) pe_int (fun _ _ => rfl)) (pa_cons (pv 1) (pa_cons (pv 4) pa_nil)))))) pa_nil)) rfl)))
    (pss_one (ps_ret (pv 2))))), ?_⟩
    refine fun d hd => ?_
    have s1 : Same H (upd H d (.dK [])) := same_new hd
    have hd1 : (upd H d (.dK [])) d = some (.dK []) := upd_same
    have M1 := M.same s1
    have he1 := s1.tupT he
    generalize upd H d (.dK []) = H1 at *
    obtain ⟨⟨d0, kvs0, ht, hd0, hh0⟩, isP, one, big, ok⟩ := id M1
    have k5 := hk.five
    have hrd : Rd H1 d0 (.dK kvs0) := .of hd0
    have hky := hh0.keys
    have h64 : ks.length < 64 := by omega
    have a2 : atI [V.int pr, V.int (n : Int), V.ref d0] 2 = some (.ref d0) := rfl
    refine Stop.cut (fun σ H' => ∃ (y : Option V) (kvs : List (Key × V)) (ws : List Str), σ = [some (.ref t), some (.ref e), some (.ref d), y, none] ∧ Same H H' ∧ H' d = some (.dK kvs) ∧ ws.Perm ks ∧ DHas (fun k v => dealV K H' pr ds (ro k) v) kvs ws) (fun Qz hz => ?_) ?_
    · walk_at "rd"
      intro ys pm st l H2 n2 s2 hl
      have hq2 : SqL K H2 l (ys.map V.str) := SqL.of hl
      have y5 : ys.length ≤ 5 := by rw [pm.length_eq]; omega
      have hdl : d ≠ l := ne_of_none hd1 n2
      refine ⟨_, rfl, ⟨_, hq2⟩, ⟨for_it (walk_list (xs := ys.map V.str)) (fun i σ H' => ∃ (y : Option V) (kvs : List (Key × V)), σ = [some (.ref t), some (.ref e), some (.ref d), y, none] ∧ Same H H' ∧ H' l = some (.lst (ys.map V.str)) ∧ H' d = some (.dK kvs) ∧ DHas (fun k v => dealV K H' pr ds (ro k) v) kvs (ys.take i))
        ⟨none, [], rfl, s1.trans s2, hl, s2 _ _ hd1, DHas.nil⟩ (fun i σ H' _ ⟨_, _, _, _, z, _⟩ => SqL.of z) ?_ ?_⟩⟩
      · rintro i x _ H3 H4 hi ⟨y, kvs, rfl, s3, hl3, hd3, hh3⟩ ⟨rfl, hx⟩
        have hi' : i < ys.length := by simpa using hi
        obtain rfl := strs_get hx (List.getElem?_eq_getElem hi')
        have hmk : ys[i] ∈ ks := pm.mem_iff.mp (List.getElem_mem hi')
        have hnk : ys[i] ∉ ys.take i := fun z => by
          have := pm.nodup_iff.mpr hk.nd
          rw [← List.take_append_drop i ys, List.drop_eq_getElem_cons hi'] at this
          have := (List.nodup_append.mp this).2.2 _ z _ (.head _)
          exact this rfl
        have tk : ys.take (i + 1) = ys.take i ++ [ys[i]] := by rw [List.take_succ, List.getElem?_eq_getElem hi']; rfl
        generalize ys[i] = k at hmk hnk tk hx ⊢
        obtain ⟨⟨d0', kvs', ht3, hd03, hh03⟩, _⟩ := M.same s3
        obtain ⟨v, hv, b, xs, rfl, hb, hxs⟩ := hh03.vals _ hmk
        have he3 := s3.tupT he
        have hrk := ok k hmk
        have hdg : DGet H4 d0' (.str k) (some (.ref b)) := by
          have := DGet.k (k := (Sum.inr k : Key)) hd03
          rwa [hv] at this
        have a2' : atI [V.int pr, V.int (n : Int), V.ref d0'] 2 = some (.ref d0') := rfl
        have hxl := paired_len hxs
        walk_at "rd"
        refine ⟨⟨_, hb⟩, fun D hD => ?_⟩
        refine lc_fn (walk_list (xs := xs)) (xs := ro k) hxl.symm (by have := hrk.1; omega) (fun _ => true) (fun r => V.int (dotL ds r % pr)) hD (fun H s => s.seq hb) ?_ ?_
        · intro j r v H5 H6 Qk Qn hrj sm hy hkk _
          obtain ⟨rfl, hv'⟩ := hy
          obtain ⟨r', h1, h2⟩ := OS.paired_get hxs hv'
          obtain rfl : r' = r := Option.some.inj (h1.symm.trans hrj)
          obtain ⟨c, rfl, hc⟩ := h2.same sm
          have ht5 := sm.tupT ht3
          have he5 := sm.tupT he3
          have hr' := hrk.2 r' (List.mem_of_getElem? hrj)
          have a0 : atI [V.int pr, V.int (n : Int), V.ref d0'] 0 = some (.int pr) := rfl
          have n1000 : n ≤ 1000 := by omega
          walk_at "rd"
          intro H7 s7
          exact hkk rfl H7 s7
        · intro H5 sm hD5
          have hfl : (ro k).filter (fun _ => true) = ro k := List.filter_eq_self.mpr fun _ _ => rfl
          rw [hfl] at hD5
          walk_at "rd"
          intro u H6 n6 s6 hu
          have s36 := sm.trans s6
          have hd6 := s36 _ _ hd3
          have hln : kvs.length < sizeLine := by
            rw [hh3.len, List.length_take]
            exact Nat.lt_of_le_of_lt (show min i ys.length ≤ 5 by omega) (by decide)
          have hdp : DPut H6 d (.str k) (.ref u) (upd H6 d (.dK (putK kvs (.inr k) (.ref u)))) := DPut.k (k := (Sum.inr k : Key)) hd6 hln
          walk_at "rd"
          have huq : SqT K H6 u (((ro k).map fun r => dotL ds r % pr).map V.int) := SqT.of (by rw [List.map_map]; exact hu)
          have kp : ∀ {z v}, dealV K H4 pr ds (ro z) v → dealV K (upd H6 d (.dK (putK kvs (.inr k) (.ref u)))) pr ds (ro z) v := fun h => by
            obtain ⟨b, e, hb⟩ := h
            exact ⟨b, e, tupT_put hd6 (dk_no _) (s36.tupT hb)⟩
          refine ⟨fun b o e => (upd_ne (ne_of_none e hd)).trans ((s3.trans s36) b o e), (upd_ne hdl.symm).trans (s36 _ _ hl3), upd_same, ?_⟩
          rw [tk]
          exact (hh3.mono fun _ _ z => kp z).add hnk ⟨u, rfl, tupT_put hd6 (dk_no _) huq⟩
      · rintro σ H3 ⟨y, kvs, rfl, s3, hl3, hd3, hh3⟩
        rw [List.length_map, List.take_length] at hh3
        exact hz _ _ ⟨y, kvs, ys, rfl, s3, hd3, pm, hh3⟩
    · rintro _ H2 ⟨y, kvs, ws, rfl, s2, hd2, pw, hh2⟩
      walk_at "rd"
      exact q d kvs ws H2 hd s2 hd2 pw hh2
end
end P

set_option Elab.async false
set_option linter.all false
set_option maxRecDepth 100000
set_option maxHeartbeats 4000000
namespace P
open PySem PySem.Spec PyProof.Rows L2 OS
/-! short ways: "rd" opens a reading as far as equations go; "sep" finds what stands apart from the state; "sq" a list that is read; "nx" two heaps -/
local macro_rules | `(tactic| walk_at "sep") => `(tactic| first | assumption | (refine (by assumption : Nx _ _ _) _ _ ?_; walk_at "sep"))
local macro_rules | `(tactic| walk_at "sq") => `(tactic| first | assumption | exact .inl (.inl (by assumption)) | exact Sep.sq (by walk_at "sep") | exact Sep.st (by walk_at "sep") | exact .inl (.inl upd_same))
local macro_rules | `(tactic| walk_at "rd") => `(tactic| repeat (first
  | refine And.intro rfl ?_
  | apply Exists.intro
  | refine And.intro (by assumption) ?_
  | refine And.intro (DrawOk.mk (by omega) (by omega) (by omega)) ?_
  | refine And.intro at0 ?_
  | refine And.intro ⟨_, rfl⟩ ?_
  | refine And.intro (by walk_at "sq") ?_
  | refine And.intro (Or.inl (by walk_at "sq")) ?_
  | refine And.intro (Or.inr (by walk_at "sq")) ?_
  | refine And.intro (by omega) ?_))

/-- what is told -/
inductive Out | num (v : V) | cnt (k : Nat) | told
def dueO (p : Int) (n : Nat) (sec : V) (xs : List V) : Out :=
  if isN p sec = true then (if (xs.length : Int) = n - 1 then (match xs.find? (fun v => !isN p v) with | some v => .num v | none => .told) else .cnt xs.length) else .num sec
theorem find_first {α : Type} {t : α → Bool} : ∀ {xs : List α} {i : Nat} {x : α}, xs[i]? = some x → (∀ j u, j < i → xs[j]? = some u → (t u) = false) → t x = true → xs.find? t = some x
  | [], _, _, h, _, _ => by simp at h
  | y :: xs, 0, x, h, _, hx => by
    obtain rfl : y = x := Option.some.inj h
    rw [List.find?_cons_of_pos hx]
  | y :: xs, i + 1, x, h, hb, hx => by
    have hy : t y = false := hb 0 y (Nat.succ_pos _) rfl
    rw [List.find?_cons_of_neg (by rw [hy]; decide)]
    exact find_first (xs := xs) (i := i) h (fun j u hj hu => hb (j + 1) u (Nat.succ_lt_succ hj) hu) hx
def intV : V → Int | .int i => i | _ => 0
section
variable {P : Program} {w : World} {K : PySem.W.Frag} {mg : Str → Option Value} {base : Heap}
def OutV (K : PySem.W.Frag) (H : Hp) (pr : Int) (ds : List Int) (ks : List Str) (ro : Str → List (List Int)) (u : Addr) : Out → Prop
  | .num v => SqT K H u [.str "number", v]
  | .cnt k => SqT K H u [.str "count", .int (k : Int)]
  | .told => ∃ q kvs ws, SqT K H u [.str "told", .ref q] ∧ H q = some (.dK kvs) ∧ ws.Perm ks ∧ DHas (fun k v => dealV K H pr ds (ro k) v) kvs ws
/-- _law_due(model, hidden, free) -/
def spLDue (K : PySem.W.Frag) : Sp := fun vs H Q _ => ∃ (t f : Addr) (pr : Int) (n : Nat) (ks : List Str) (ro : Str → List (List Int)) (sec : V) (xs : List V), vs = [.ref t, sec, .ref f] ∧ MoA K H t pr n ks ro ∧ NamesOk ks ∧ Itm K H sec ∧ (SqL K H f xs ∨ SqT K H f xs) ∧ (∀ v ∈ xs, Itm K H v) ∧ xs.length ≤ 1000 ∧
  ∀ u H', H u = none → Same H H' → OutV K H' pr ((sec :: xs).map intV) ks ro u (dueO pr n sec xs) → Q (.ref u) H'
theorem ok_law_due (T : Txt K mg) : FnOk P w K mg base CX0 3 T.f_law_due T.fd_law_due ["_law_model_here", "_law_hidden", "_law_free"] (spLDue K) := by
  refine T.F_law_due.ok sc_law_due (fun vs H Q E h => ?_) (fun cdv A outer s H vs Q E hr h => ?_)
  · obtain ⟨t, f, pr, n, ks, ro, sec, xs, rfl, _⟩ := h
    rfl
  · obtain ⟨t, f, pr, n, ks, ro, sec, xs, rfl, M, hk, hsec, hf, hfi, hfl, q⟩ := h
    refine ⟨_, (pss_cons (ps_if (pt_not (pt_val (pe_call (ok_law_is_number T) (hr.mono (by decide)) (by rfl) T.g_law_is_number T.F_law_is_number.kp T.b_law_is_number .nil pass0 (pa_cons (pe_ix (r := rIxT K) ix_tup (pv 0) pe_int (fun _ _ => rfl)) (pa_cons (pv 1) pa_nil)))))
      (pss_one (ps_ret (pe_tupO (pa_cons pe_str (pa_cons (pv 1) pa_nil))))) pss_nil)
    (pss_cons (ps_if (pt_cmpR op_ne (pe_callB (id := "len") (r := rLenS K) call_lenS (by rfl) T.n_len PySem.boot_len (pa_cons (pv 2) pa_nil)) (pe_op op_sub (pe_ix (r := rIxT K) ix_tup (pv 0) pe_int (fun _ _ => rfl)) pe_int) (nomark _))
      (pss_one (ps_ret (pe_tupO (pa_cons pe_str (pa_cons (pe_callB (id := "len") (r := rLenS K) call_lenS (by rfl) T.n_len PySem.boot_len (pa_cons (pv 2) pa_nil)) pa_nil))))) pss_nil)
    (pss_stop (ps_for PassesOwn.never rfl (pi_hold (pi_seq (pv 2))) (pg_name (i := 3) sc_law_due.nd rfl (Or.inl rfl))
      (pss_one (ps_if (pt_not (pt_val (pe_call (ok_law_is_number T) (hr.mono (by decide)) (by rfl) T.g_law_is_number T.F_law_is_number.kp T.b_law_is_number .nil pass0 (pa_cons (pe_ix (r := rIxT K) ix_tup (pv 0) pe_int (fun _ _ => rfl)) (pa_cons (pv 3) pa_nil)))))
      (pss_one (ps_ret (pe_tupO (pa_cons pe_str (pa_cons (pv 3) pa_nil))))) pss_nil)))
    (pss_one (ps_ret (pe_tupO (pa_cons pe_str (pa_cons (pe_call (ok_law_dealt T) (hr.mono (by decide)) (by rfl) T.g_law_dealt T.F_law_dealt.kp T.b_law_dealt .nil pass0 (pa_cons (pv 0) (pa_cons (pe_callTy (T := "tuple") (r := rTupL K) call_tupL (by rfl) T.n_tuple (by decide +kernel) (pa_cons (pe_op op_catO (pe_lstO (pa_cons (pv 1) pa_nil)) (pe_callTy (T := "list") (r := rListS K) call_listS (by rfl) T.n_list (by decide +kernel) (pa_cons (pv 2) pa_nil))) pa_nil)) pa_nil))) pa_nil)))))))), ?_⟩
    obtain ⟨⟨d0, kvs0, ht, hd0, hh0⟩, isP, one, big, ok⟩ := id M
    have hns := itm_num hsec
    have a0 : atI [V.int pr, V.int (n : Int), V.ref d0] 0 = some (.int pr) := rfl
    have a1 : atI [V.int pr, V.int (n : Int), V.ref d0] 1 = some (.int (n : Int)) := rfl
    walk_at "rd"
    refine ite2 (fun e => ?_) (fun e => ?_)
    · have ev : isN pr sec = false := by simpa using e
      walk_at "rd"
      refine ⟨by show 2 ≤ sizeLine; decide, fun u H1 n1 s1 hu => ?_⟩
      refine q u H1 n1 s1 ?_
      unfold dueO
      rw [if_neg (by rw [ev]; decide)]
      exact SqT.of hu
    have ev : isN pr sec = true := by simpa using e
    walk_at "rd"
    refine ite2 (fun e2 => ?_) (fun e2 => ?_)
    · have e2' : ¬ (xs.length : Int) = n - 1 := fun z => by
        rw [z] at e2
        simp at e2
      walk_at "rd"
      refine ⟨by show 2 ≤ sizeLine; decide, fun u H1 n1 s1 hu => ?_⟩
      refine q u H1 n1 s1 ?_
      unfold dueO
      rw [if_pos ev, if_neg e2']
      exact SqT.of hu
    have e2' : (xs.length : Int) = n - 1 := by simpa using e2
    refine Stop.cut (fun σ H' => ∃ (y : Option V), σ = [some (.ref t), some sec, some (.ref f), y] ∧ Same H H' ∧ ∀ v ∈ xs, isN pr v = true) (fun Qz hz => ?_) ?_
    · walk_at "rd"
      rcases hf with hf | hf
      · refine .inl ⟨⟨_, hf⟩, ⟨for_it (walk_list (xs := xs)) (fun i σ H' => ∃ (y : Option V), σ = [some (.ref t), some sec, some (.ref f), y] ∧ Same H H' ∧ ∀ j u, j < i → xs[j]? = some u → isN pr u = true) ⟨none, rfl, Same.refl H, fun j _ h => absurd h (by omega)⟩ (fun i σ H' _ ⟨_, _, s, _⟩ => s.seq hf) ?_ ?_⟩⟩
        · rintro i x _ H1 H2 hil ⟨y, rfl, s1, hgood⟩ ⟨rfl, hxi⟩
          have hnx : Num2 K H2 x := itm_num ((hfi x (List.mem_of_getElem? hxi)).same s1)
          have ht1 := s1.tupT ht
          walk_at "rd"
          refine ite2 (fun e3 => ?_) (fun e3 => ?_)
          · have ex : isN pr x = false := by simpa using e3
            walk_at "rd"
            refine ⟨by show 2 ≤ sizeLine; decide, fun u H3 n3 s3 hu => ?_⟩
            refine q u H3 (s1.free n3) (s1.trans s3) ?_
            have hfd : xs.find? (fun v => !isN pr v) = some x := find_first hxi (fun j u hj hu => by show (!isN pr u) = false; rw [hgood j u hj hu]; rfl) (by show (!isN pr x) = true; rw [ex]; rfl)
            unfold dueO
            rw [if_pos ev, if_pos e2', hfd]
            exact SqT.of hu
          · have ex : isN pr x = true := by simpa using e3
            refine ⟨_, rfl, s1, fun j u hj hju => ?_⟩
            by_cases q2 : j < i
            · exact hgood j u q2 hju
            · obtain rfl : j = i := by omega
              obtain rfl : x = u := Option.some.inj (hxi.symm.trans hju)
              exact ex
        · rintro σ H1 ⟨y, rfl, s1, hgood⟩
          refine hz _ _ ⟨y, rfl, s1, fun v hv => ?_⟩
          obtain ⟨j, hj⟩ := List.getElem?_of_mem hv
          exact hgood j v (List.getElem?_eq_some_iff.mp hj).1 hj
      · refine .inr ⟨⟨_, hf⟩, ⟨for_it (walk_tup (xs := xs)) (fun i σ H' => ∃ (y : Option V), σ = [some (.ref t), some sec, some (.ref f), y] ∧ Same H H' ∧ ∀ j u, j < i → xs[j]? = some u → isN pr u = true) ⟨none, rfl, Same.refl H, fun j _ h => absurd h (by omega)⟩ (fun i σ H' _ ⟨_, _, s, _⟩ => s.tupT hf) ?_ ?_⟩⟩
        · rintro i x _ H1 H2 hil ⟨y, rfl, s1, hgood⟩ ⟨rfl, hxi⟩
          have hnx : Num2 K H2 x := itm_num ((hfi x (List.mem_of_getElem? hxi)).same s1)
          have ht1 := s1.tupT ht
          walk_at "rd"
          refine ite2 (fun e3 => ?_) (fun e3 => ?_)
          · have ex : isN pr x = false := by simpa using e3
            walk_at "rd"
            refine ⟨by show 2 ≤ sizeLine; decide, fun u H3 n3 s3 hu => ?_⟩
            refine q u H3 (s1.free n3) (s1.trans s3) ?_
            have hfd : xs.find? (fun v => !isN pr v) = some x := find_first hxi (fun j u hj hu => by show (!isN pr u) = false; rw [hgood j u hj hu]; rfl) (by show (!isN pr x) = true; rw [ex]; rfl)
            unfold dueO
            rw [if_pos ev, if_pos e2', hfd]
            exact SqT.of hu
          · have ex : isN pr x = true := by simpa using e3
            refine ⟨_, rfl, s1, fun j u hj hju => ?_⟩
            by_cases q2 : j < i
            · exact hgood j u q2 hju
            · obtain rfl : j = i := by omega
              obtain rfl : x = u := Option.some.inj (hxi.symm.trans hju)
              exact ex
        · rintro σ H1 ⟨y, rfl, s1, hgood⟩
          refine hz _ _ ⟨y, rfl, s1, fun v hv => ?_⟩
          obtain ⟨j, hj⟩ := List.getElem?_of_mem hv
          exact hgood j v (List.getElem?_eq_some_iff.mp hj).1 hj
    · rintro _ H1 ⟨y, rfl, s1, hall⟩
      have hf1 : SqL K H1 f xs ∨ SqT K H1 f xs := hf.imp (fun z => s1.seq z) fun z => s1.tupT z
      walk_at "rd"
      refine ⟨by show 1 ≤ sizeLine; decide, fun l1 H2 n2 s2 h2 => ?_⟩
      have hf2 : SqL K H2 f xs ∨ SqT K H2 f xs := hf1.imp (fun z => s2.seq z) fun z => s2.tupT z
      walk_at "rd"
      intro l2 H3 n3 s3 h3
      have h23 := s3 _ _ h2
      walk_at "rd"
      refine ⟨?_, fun l4 H4 n4 s4 h4 => ?_⟩
      · exact Nat.le_trans (show 1 + xs.length ≤ 1001 by omega) (by decide)
      walk_at "rd"
      intro l5 H5 n5 s5 h5
      obtain ⟨ns, ens, hns⟩ := nums_ints (p := pr) (xs := sec :: xs) fun v hv => by
        rcases List.mem_cons.mp hv with rfl | hv
        · exact ev
        · exact hall v hv
      have s15 := (((s1.trans s2).trans s3).trans s4).trans s5
      have M5 := M.same s15
      have he5 : SqT K H5 l5 (ns.map V.int) := by
        rw [← ens]
        exact SqT.of h5
      have hds : RowOk pr n ns := ⟨by
        have := congrArg List.length ens
        rw [List.length_cons, List.length_map] at this
        omega, hns⟩
      have eds : ((sec :: xs).map intV) = ns := by
        rw [ens, List.map_map]
        exact List.map_id' ns
      walk_at "rd"
      intro q' kvs ws H6 n6 s6 hq pw hh
      walk_at "rd"
      refine ⟨by show 2 ≤ sizeLine; decide, fun u H7 n7 s7 hu => ?_⟩
      have s17 := (s15.trans s6).trans s7
      refine q u H7 ((s15.trans s6).free n7) s17 ?_
      have hnone : xs.find? (fun v => !isN pr v) = none := List.find?_eq_none.mpr fun v hv => by rw [hall v hv]; decide
      unfold dueO
      rw [if_pos ev, if_pos e2', hnone, eds]
      exact ⟨q', kvs, ws, SqT.of hu, s7 _ _ hq, pw, hh.mono fun _ _ z => by
        obtain ⟨b, eb, hb⟩ := z
        exact ⟨b, eb, s7.tupT hb⟩⟩
end
end P

set_option Elab.async false
set_option linter.all false
set_option maxRecDepth 100000
set_option maxHeartbeats 4000000
namespace P
open PySem PySem.Spec PyProof.Rows L2 OS
/-! short ways: "rd" opens a reading as far as equations go; "sep" finds what stands apart from the state; "sq" a list that is read; "nx" two heaps -/
local macro_rules | `(tactic| walk_at "sep") => `(tactic| first | assumption | (refine (by assumption : Nx _ _ _) _ _ ?_; walk_at "sep"))
local macro_rules | `(tactic| walk_at "sq") => `(tactic| first | assumption | exact .inl (.inl (by assumption)) | exact Sep.sq (by walk_at "sep") | exact Sep.st (by walk_at "sep") | exact .inl (.inl upd_same))
local macro_rules | `(tactic| walk_at "rd") => `(tactic| repeat (first
  | refine And.intro rfl ?_
  | apply Exists.intro
  | refine And.intro (by assumption) ?_
  | refine And.intro (DrawOk.mk (by omega) (by omega) (by omega)) ?_
  | refine And.intro at0 ?_
  | refine And.intro ⟨_, rfl⟩ ?_
  | refine And.intro (by walk_at "sq") ?_
  | refine And.intro (Or.inl (by walk_at "sq")) ?_
  | refine And.intro (Or.inr (by walk_at "sq")) ?_
  | refine And.intro (by omega) ?_))

section
variable {P : Program} {w : World} {K : PySem.W.Frag} {mg : Str → Option Value} {base : Heap}
/-- what is told, and that a told dict is new -/
def OutN (K : PySem.W.Frag) (H0 H : Hp) (pr : Int) (ds : List Int) (ks : List Str) (ro : Str → List (List Int)) (u : Addr) (o : Out) : Prop :=
  OutV K H pr ds ks ro u o ∧ (o = .told → ∃ q kvs, H u = some (.tup [.str "told", .ref q]) ∧ H q = some (.dK kvs) ∧ H0 q = none)
/-- _law_told(way, desk, hidden, free) -/
def spLTold (T : Txt K mg) : Sp := fun vs H Q _ => ∃ (g : Int) (f a : Addr) (pr : Int) (n : Nat) (ws : List Str) (ro : Str → List (List Int)) (sec : V) (xs : List V), vs = [.int g, .ref f, sec, .ref a] ∧ SchAt K T.C_Scheme H f pr n ws ro ∧ isPr (.int pr) = true ∧ 1 ≤ n ∧ n ≤ 40 ∧ NamesOk ws ∧ (∀ k ∈ ws, RowsOk pr n (ro k)) ∧ Itm K H sec ∧
  (SqL K H a xs ∨ SqT K H a xs) ∧ (∀ v ∈ xs, Itm K H v) ∧ xs.length ≤ 1000 ∧ ∀ u H', H u = none → Same H H' → OutN K H H' pr ((sec :: xs).map intV) ws ro u (dueO pr n sec xs) → Q (.ref u) H'
theorem ok_law_told (T : Txt K mg) : FnOk P w K mg base CX0 7 T.f_law_told T.fd_law_told ["_law_way", "_law_desk", "_law_hidden", "_law_free"] (spLTold T) := by
  refine T.F_law_told.ok sc_law_told (fun vs H Q E h => ?_) (fun cdv A outer s H vs Q E hr h => ?_)
  · obtain ⟨g, f, a, pr, n, ws, ro, sec, xs, rfl, _⟩ := h
    rfl
  · obtain ⟨g, f, a, pr, n, ws, ro, sec, xs, rfl, hs, isP, one, big, hw, hro, hsec, ha, hxi, hxl, q⟩ := h
    have hu65 := room65 hr
    refine ⟨_, (pss_one (ps_try_mix rfl rfl sc_law_told.nd takesNo (fun W pn xe tk _ => (pss_cons (ps_if (pt_cmpR op_eq (pv 0) pe_int (nomark _))
      (pss_one (ps_ret (pe_tupO (pa_cons pe_str (pa_cons (pe_callS (E := WE W) (ok_deal T) (hr.mono (by decide)) (by rfl) T.g_deal T.F_deal.kp T.b_deal (fun σ => passAt tk σ) (pa_cons (pv 1) (pa_cons (pv 2) (pa_cons (pv 3) pa_nil)))) pa_nil))))) pss_nil)
    (pss_one (ps_ret (pe_tupO (pa_cons pe_str (pa_cons (pe_callKS0 (E := WE W) (ok_deal T) (hr.mono (by decide)) (by rfl) T.g_deal T.F_deal.kp T.kb_deal_numbers_secret_scheme (fun σ => passAt tk σ) (pk_cons (pv 3) (pk_cons (pv 2) (pk_cons (pv 1) pk_nil)))) pa_nil))))))) (HdsMix.cons ⟨rfl, by decide, .inl T.g_BadNumber⟩ (.yes (i := 4) rfl rfl)
      (fun a oe cls d pn hz hf => (pss_one (ps_ret (pe_tupO (pa_cons pe_str (pa_cons (pe_xf T.er_BadNumber.xf T.nf_BadNumber hz hf (pv 4)) pa_nil)))))) (HdsMix.cons ⟨rfl, by decide, .inl T.g_BadCount⟩ (.yes (i := 4) rfl rfl)
      (fun a oe cls d pn hz hf => (pss_one (ps_ret (pe_tupO (pa_cons pe_str (pa_cons (pe_xf T.er_BadCount.xf T.nf_BadCount hz hf (pv 4)) pa_nil)))))) HdsMix.nil)))), ?_⟩
    generalize hW : wMix _ _ _ _ = W
    have fBadNumber : ∀ (v : V) H1, Same H H1 → (∀ u H', H u = none → Same H H' → SqT K H' u [.str "number", v] → Q (.ref u) H') → Flies (WE W (L2.start N_law_told [V.int g, V.ref f, sec, V.ref a])) T.C_BadNumber "value" v H1 := fun v H1 s1 q dx H2 n2 s2 hdx => by
      subst hW
      refine ⟨true, T.ex_BadNumber_BadNumber, fun _ ea hea => ?_, fun z => nomatch z⟩
      refine ⟨.ref ea, rfl, rfl, rfl, dx, _, v, rfl, hdx, by rfl, ?_⟩
      walk_at "rd"
      exact ⟨by show 2 ≤ sizeLine; decide, fun p H3 n3 s3 hp => q p H3 ((s1.trans s2).free n3) ((s1.trans s2).trans s3) (SqT.of hp)⟩
    have fBadCount : ∀ (v : V) H1, Same H H1 → (∀ u H', H u = none → Same H H' → SqT K H' u [.str "count", v] → Q (.ref u) H') → Flies (WE W (L2.start N_law_told [V.int g, V.ref f, sec, V.ref a])) T.C_BadCount "count" v H1 := fun v H1 s1 q dx H2 n2 s2 hdx => by
      subst hW
      refine ⟨false, T.ex_BadCount_BadNumber, (fun z => nomatch z), fun _ => ⟨true, T.ex_BadCount_BadCount, fun _ ea hea => ?_, fun z => nomatch z⟩⟩
      refine ⟨.ref ea, rfl, rfl, rfl, dx, _, v, rfl, hdx, by rfl, ?_⟩
      walk_at "rd"
      exact ⟨by show 2 ≤ sizeLine; decide, fun p H3 n3 s3 hp => q p H3 ((s1.trans s2).free n3) ((s1.trans s2).trans s3) (SqT.of hp)⟩
    clear hW
    have hdeal : ∀ Q2 : VK, (∀ q' kvs H', H q' = none → Same H H' → H' q' = some (.dK kvs) → DHas (fun k v => dealV K H' pr ((sec :: xs).map intV) (ro k) v) kvs ws → dueO pr n sec xs = .told → Q2 (.ref q') H') → (isN pr sec = false → ∀ H', Same H H' → Flies (WE W (L2.start N_law_told [V.int g, V.ref f, sec, V.ref a])) T.C_BadNumber "value" sec H') ∧ (isN pr sec = true → (xs.length : Int) ≠ n - 1 → ∀ H', Same H H' → Flies (WE W (L2.start N_law_told [V.int g, V.ref f, sec, V.ref a])) T.C_BadCount "count" (.int (xs.length : Int)) H') ∧
  (isN pr sec = true → (xs.length : Int) = n - 1 → ∀ (i : Nat) (v : V), xs[i]? = some v → (∀ j u, j < i → xs[j]? = some u → isN pr u = true) → isN pr v = false → ∀ H', Same H H' → Flies (WE W (L2.start N_law_told [V.int g, V.ref f, sec, V.ref a])) T.C_BadNumber "value" v H') ∧
  (∀ s ns, sec = .int s → xs = ns.map V.int → RowOk pr n (s :: ns) → ∀ q kvs H', H q = none → Same H H' → H' q = some (.dK kvs) → DHas (fun k v => dealV K H' pr (s :: ns) (ro k) v) kvs ws → Q2 (.ref q) H') := fun Q2 hq => by
      refine ⟨fun e H' s => ?_, fun e e2 H' s => ?_, fun e e2 i v hi hb hv H' s => ?_, fun s0 ns es ex hrow q' kvs H' hq' s hk hh => ?_⟩
      · refine fBadNumber sec H' s fun u H2 hu s2 ht => q u H2 hu s2 ?_
        unfold dueO
        rw [if_neg (by rw [e]; decide)]
        exact ⟨ht, fun z => nomatch z⟩
      · refine fBadCount _ H' s fun u H2 hu s2 ht => q u H2 hu s2 ?_
        unfold dueO
        rw [if_pos e, if_neg e2]
        exact ⟨ht, fun z => nomatch z⟩
      · refine fBadNumber v H' s fun u H2 hu s2 ht => q u H2 hu s2 ?_
        have hfd : xs.find? (fun v => !isN pr v) = some v := find_first hi (fun j u hj hu => by show (!isN pr u) = false; rw [hb j u hj hu]; rfl) (by show (!isN pr v) = true; rw [hv]; rfl)
        unfold dueO
        rw [if_pos e, if_pos e2, hfd]
        exact ⟨ht, fun z => nomatch z⟩
      · subst es ex
        have eds : ((V.int s0 :: ns.map V.int).map intV) = s0 :: ns := by
          rw [List.map_cons, List.map_map]
          exact congrArg _ (List.map_id' ns)
        have hN : ∀ z ∈ s0 :: ns, isN pr (.int z) = true := fun z hz => by
          have := hrow.rng z hz
          show (decide (0 ≤ z) && decide (z < pr)) = true
          rw [decide_eq_true this.1, decide_eq_true this.2]
          rfl
        have hlen := hrow.len
        rw [List.length_cons] at hlen
        refine hq q' kvs H' hq' s hk (by rw [eds]; exact hh) ?_
        have hnone : (ns.map V.int).find? (fun v => !isN pr v) = none := List.find?_eq_none.mpr fun v hv => by
          obtain ⟨z, hz, rfl⟩ := List.mem_map.mp hv
          rw [hN z (.tail _ hz)]
          decide
        unfold dueO
        rw [if_pos (hN s0 (.head _)), if_pos (by rw [List.length_map]; omega), hnone]
    have hend : ∀ q' kvs H' u H2, H q' = none → Same H H' → H' q' = some (.dK kvs) → DHas (fun k v => dealV K H' pr ((sec :: xs).map intV) (ro k) v) kvs ws → dueO pr n sec xs = .told → H' u = none → Same H' H2 → H2 u = some (.tup [.str "told", .ref q']) → Q (.ref u) H2 := fun q' kvs H' u H2 hq' s hk hh ho nu s2 hu => by
      refine q u H2 (s.free nu) (s.trans s2) ?_
      rw [ho]
      exact ⟨⟨q', kvs, ws, SqT.of hu, s2 _ _ hk, List.Perm.refl _, hh.mono fun _ _ z => by
        obtain ⟨b, eb, hb⟩ := z
        exact ⟨b, eb, s2.tupT hb⟩⟩, fun _ => ⟨q', kvs, hu, s2 _ _ hk, hq'⟩⟩
    obtain ⟨hA, hB, hC, hD⟩ := hdeal (fun v H' => ∃ q' kvs, v = .ref q' ∧ H q' = none ∧ Same H H' ∧ H' q' = some (.dK kvs) ∧ DHas (fun k v => dealV K H' pr ((sec :: xs).map intV) (ro k) v) kvs ws ∧ dueO pr n sec xs = .told) fun q' kvs H' a b c d e => ⟨q', kvs, rfl, a, b, c, d, e⟩
    clear hdeal
    walk_at "rd"
    refine ite2 (fun e => ?_) (fun e => ?_)
    · walk_at "rd"
      intro s0 ns es ex hrow q0 kvs0 H' hq0 s0' hk0 hh0
      obtain ⟨q', kvs, e', hq', s, hk, hh, ho⟩ := hD s0 ns es ex hrow q0 kvs0 H' hq0 s0' hk0 hh0
      injection e' with e'
      subst e'
      walk_at "rd"
      exact ⟨by show 2 ≤ sizeLine; decide, fun u H2 nu s2 hu => hend _ kvs H' u H2 hq' s hk hh ho nu s2 hu⟩
    · walk_at "rd"
      intro s0 ns es ex hrow q0 kvs0 H' hq0 s0' hk0 hh0
      obtain ⟨q', kvs, e', hq', s, hk, hh, ho⟩ := hD s0 ns es ex hrow q0 kvs0 H' hq0 s0' hk0 hh0
      injection e' with e'
      subst e'
      walk_at "rd"
      exact ⟨by show 2 ≤ sizeLine; decide, fun u H2 nu s2 hu => hend _ kvs H' u H2 hq' s hk hh ho nu s2 hu⟩
end
end P

set_option Elab.async false
set_option linter.all false
set_option maxRecDepth 100000
set_option maxHeartbeats 4000000
namespace P
open PySem PySem.Spec PyProof.Rows L2 OS
section
variable {K : PySem.W.Frag}
/-- what stands in a dict of names -/
theorem has_mem {R : Str → V → Prop} {kvs : List (Key × V)} {ks : List Str} (h : DHas R kvs ks) {q : Key × V} (hq : q ∈ kvs) : ∃ k ∈ ks, q.1 = Sum.inr k ∧ valV kvs (.inr k) = some q.2 ∧ R k q.2 := by
  have h1 : q.1 ∈ kvs.map (·.1) := List.mem_map.mpr ⟨q, hq, rfl⟩
  rw [h.keys] at h1
  obtain ⟨k, hk, e⟩ := List.mem_map.mp h1
  have nd : (kvs.map (·.1)).Nodup := by
    rw [h.keys]
    exact List.pairwise_map.mpr (List.Pairwise.imp (fun {a b} ne e => ne (Sum.inr.inj e)) h.nd)
  have hv : valV kvs (.inr k) = some q.2 := by
    have : ∀ l : List (Key × V), (l.map (·.1)).Nodup → q ∈ l → valV l (.inr k) = some q.2 := by
      intro l
      induction l with
      | nil => exact fun _ h => nomatch h
      | cons x l ih =>
        intro hn hm
        rw [List.map_cons] at hn
        obtain ⟨n1, n2⟩ := List.nodup_cons.mp hn
        unfold valV
        rcases List.mem_cons.mp hm with rfl | hm
        · rw [List.find?_cons_of_pos (by simp [← e])]
          rfl
        · have ne : ¬ x.1 = Sum.inr k := fun z => n1 (by rw [z, e]; exact List.mem_map.mpr ⟨q, hm, rfl⟩)
          rw [List.find?_cons_of_neg (by simp [ne])]
          exact ih n2 hm
    exact this kvs nd hq
  obtain ⟨v, v1, v2⟩ := h.vals k hk
  have ev : v = q.2 := Option.some.inj (v1.symm.trans hv)
  exact ⟨k, hk, e.symm, hv, ev ▸ v2⟩
theorem dp_ints {H : Hp} {b : Addr} {ns : List Int} (h : SqT K H b (ns.map V.int)) : Dp K H (.ref b) (.tuple (ns.map .int)) := .tup h (dp_all (fun z => .int z) ns)
theorem depth_ints : ∀ ns : List Int, PyData.depthAll (ns.map .int) = 0
  | [] => by simp [PyData.depthAll]
  | n :: ns => by
    simp only [List.map_cons, PyData.depthAll, PyData.depth, depth_ints ns]
    rfl
theorem itm_same {H : Hp} {v : V} (h : Itm K H v) : EqI K H v v := by
  cases h with
  | flat f => exact .inl ⟨rfl, f⟩
  | lst _ => exact .inr (.inl ⟨_, rfl, rfl⟩)
  | tup _ => exact .inr (.inl ⟨_, rfl, rfl⟩)
  | dct _ => exact .inr (.inl ⟨_, rfl, rfl⟩)
/-- two that tell the same: != says no -/
theorem out_same {H : Hp} {pr : Int} {ds : List Int} {ks ks' : List Str} {ro : Str → List (List Int)} {u u' : Addr} {n : Nat} {sec : V} {xs : List V} (hp : ks.Perm ks') (hsec : Itm K H sec) (hxs : ∀ v ∈ xs, Itm K H v)
    (h : OutV K H pr ds ks ro u (dueO pr n sec xs)) (h' : OutV K H pr ds ks' ro u' (dueO pr n sec xs)) : ∃ (k : Str) (v : V) (bs : List V), SqT K H u [.str k, v] ∧ SqT K H u' bs ∧ Paired (EqX K H) [.str k, v] bs ∧ ((k == "told") = true → dueO pr n sec xs = .told) := by
  have hit : ∀ v, dueO pr n sec xs = .num v → Itm K H v := by
    intro v e
    unfold dueO at e
    split at e
    · split at e
      · split at e
        · next w hw =>
          injection e with e
          subst e
          exact hxs _ (List.mem_of_find?_eq_some hw)
        · cases e
      · cases e
    · injection e with e
      subst e
      exact hsec
  generalize dueO pr n sec xs = o at h h' hit ⊢
  cases o with
  | num v => exact ⟨_, _, _, h, h', .cons (.inl (.inl ⟨rfl, rfl⟩)) (.cons (.inl (itm_same (hit v rfl))) .nil), fun z => absurd z (by decide +kernel)⟩
  | cnt k => exact ⟨_, _, _, h, h', .cons (.inl (.inl ⟨rfl, rfl⟩)) (.cons (.inl (.inl ⟨rfl, rfl⟩)) .nil), fun z => absurd z (by decide +kernel)⟩
  | told =>
    obtain ⟨q, kvs, ws, t1, t2, t3, t4⟩ := h
    obtain ⟨q', kvs', ws', t1', t2', t3', t4'⟩ := h'
    have pw : ws.Perm ws' := (t3.trans hp).trans t3'.symm
    refine ⟨_, _, _, t1, t1', .cons (.inl (.inl ⟨rfl, rfl⟩)) (.cons (.inr (.inr ⟨q, q', kvs, kvs', rfl, rfl, t2, t2', ?_, fun z hz => ?_⟩)) .nil), fun _ => rfl⟩
    · rw [t4.len, t4'.len, pw.length_eq]
    · obtain ⟨k, hk, e1, e2, b, e3, hb⟩ := has_mem t4 hz
      obtain ⟨v, v1, b', e4, hb'⟩ := t4'.vals k (pw.mem_iff.mp hk)
      refine ⟨v, by rw [e1]; exact v1, .inr (.inr ⟨_, by rw [e3]; exact dp_ints hb, by rw [e4]; exact dp_ints hb', ?_⟩)⟩
      simp only [PyData.depth, depth_ints]
      decide
end
end P

set_option Elab.async false
set_option linter.all false
set_option maxRecDepth 100000
set_option maxHeartbeats 4000000
namespace P
open PySem PySem.Spec PyProof.Rows L2 OS
/-! short ways: "rd" opens a reading as far as equations go; "sep" finds what stands apart from the state; "sq" a list that is read; "nx" two heaps -/
local macro_rules | `(tactic| walk_at "sep") => `(tactic| first | assumption | (refine (by assumption : Nx _ _ _) _ _ ?_; walk_at "sep"))
local macro_rules | `(tactic| walk_at "sq") => `(tactic| first | assumption | exact .inl (.inl (by assumption)) | exact Sep.sq (by walk_at "sep") | exact Sep.st (by walk_at "sep") | exact .inl (.inl upd_same))
local macro_rules | `(tactic| walk_at "rd") => `(tactic| repeat (first
  | refine And.intro rfl ?_
  | apply Exists.intro
  | refine And.intro (by assumption) ?_
  | refine And.intro (DrawOk.mk (by omega) (by omega) (by omega)) ?_
  | refine And.intro at0 ?_
  | refine And.intro ⟨_, rfl⟩ ?_
  | refine And.intro (by walk_at "sq") ?_
  | refine And.intro (Or.inl (by walk_at "sq")) ?_
  | refine And.intro (Or.inr (by walk_at "sq")) ?_
  | refine And.intro (by omega) ?_))

section
variable {P : Program} {w : World} {K : PySem.W.Frag} {mg : Str → Option Value} {base : Heap}
/-- what tells a model (prime, width, rows) -/
abbrev TellsM (K : PySem.W.Frag) (Q : VK) (p : Addr) (m : Nat) (H : Hp) (ps : List Str) : Prop := ∀ t H' m' pr n ks ro, StU H' p m' → m' ≤ m + 100000 → Nx p H H' → ks.Perm ps → ModAt K p H' t pr n ks ro → Q (.ref t) H'
/-- _law_lists(state, names) -/
def spLLists (K : PySem.W.Frag) : Sp := fun vs H Q _ => ∃ (p a : Addr) (m : Nat) (ps : List Str), vs = [.ref p, .ref a] ∧ StU H p m ∧ m ≤ 800000000 ∧ SqT K H a (ps.map V.str) ∧ NamesOk ps ∧ TellsM K Q p m H ps
theorem prime_pick {i : Int} (h0 : 0 ≤ i) (h1 : i < 5) : ∃ pr : Int, atI [V.int 2, V.int 3, V.int 5, V.int 7, V.int 11] i = some (.int pr) ∧ isPr (.int pr) = true := by
  obtain e | e | e | e | e : i = 0 ∨ i = 1 ∨ i = 2 ∨ i = 3 ∨ i = 4 := by omega
  all_goals (subst e; exact ⟨_, rfl, by decide +kernel⟩)
theorem goal_row {pr : Int} {n : Nat} (h : 2 ≤ pr) (hn : 1 ≤ n) : RowOk pr n (goalL n) := by
  refine ⟨?_, fun i hi => ?_⟩
  · unfold goalL
    rw [List.length_cons, List.length_replicate]
    omega
  · unfold goalL at hi
    rcases List.mem_cons.mp hi with rfl | hi
    · omega
    · rw [List.eq_of_mem_replicate hi]
      omega
theorem ok_law_lists (T : Txt K mg) : FnOk P w K mg base CX0 3 T.f_law_lists T.fd_law_lists ["_law_state", "_law_names"] (spLLists K) := by
  refine T.F_law_lists.ok sc_law_lists (fun vs H Q E h => ?_) (fun cdv A outer s H vs Q E hr h => ?_)
  · obtain ⟨p, a, m, ps, rfl, _⟩ := h
    rfl
  · obtain ⟨p, a, m, ps, rfl, S, hm, ha, hn, q⟩ := h
    refine ⟨_, (pss_cons (ps_set (i := 2) sc_law_lists.nd rfl (Or.inr rfl) (pe_ix (r := rIxL K) ix_list (pe_lstO (pa_cons pe_int (pa_cons pe_int (pa_cons pe_int (pa_cons pe_int (pa_cons pe_int pa_nil)))))) (pe_call (ok_law_take T) (hr.mono (by decide)) (by rfl) T.g_law_take T.F_law_take.kp T.b_law_take .nil pass0 (pa_cons (pv 0) (pa_cons pe_int pa_nil))) (fun _ _ => rfl)))
    (pss_cons (ps_set (i := 3) sc_law_lists.nd rfl (Or.inl rfl) (pe_op op_add pe_int (pe_call (ok_law_take T) (hr.mono (by decide)) (by rfl) T.g_law_take T.F_law_take.kp T.b_law_take .nil pass0 (pa_cons (pv 0) (pa_cons (pe_ix (r := rIxL K) ix_list (pe_lstO (pa_cons pe_int (pa_cons pe_int (pa_cons pe_int pa_nil)))) (pe_call (ok_law_take T) (hr.mono (by decide)) (by rfl) T.g_law_take T.F_law_take.kp T.b_law_take .nil pass0 (pa_cons (pv 0) (pa_cons pe_int pa_nil))) (fun _ _ => rfl)) pa_nil)))))
    (pss_cons (ps_set (i := 4) sc_law_lists.nd rfl (Or.inl rfl) pe_dnewK)
    (pss_stop (ps_for PassesOwn.never rfl (pi_hold (pi_list (pe_call (ok_law_shuffled T) (hr.mono (by decide)) (by rfl) T.g_law_shuffled T.F_law_shuffled.kp T.b_law_shuffled .nil pass0 (pa_cons (pv 0) (pa_cons (pe_callTy (T := "list") (r := rListS K) call_listS (by rfl) T.n_list (by decide +kernel) (pa_cons (pv 1) pa_nil)) pa_nil))))) (pg_name (i := 5) sc_law_lists.nd rfl (Or.inl rfl))
      (pss_cons (ps_dput (hu_of hr) (pv 4) (pv 5) (pe_lstO pa_nil) rfl)
    (pss_one (ps_for PassesOwn.never rfl (pi_hold (pi_range1 rfl T.n_range (pa_cons (pe_call (ok_law_take T) (hr.mono (by decide)) (by rfl) T.g_law_take T.F_law_take.kp T.b_law_take .nil pass0 (pa_cons (pv 0) (pa_cons (pe_ix (r := rIxL K) ix_list (pe_lstO (pa_cons pe_int (pa_cons pe_int (pa_cons pe_int (pa_cons pe_int pa_nil))))) (pe_call (ok_law_take T) (hr.mono (by decide)) (by rfl) T.g_law_take T.F_law_take.kp T.b_law_take .nil pass0 (pa_cons (pv 0) (pa_cons pe_int pa_nil))) (fun _ _ => rfl)) pa_nil))) pa_nil))) (pg_name (i := 6) sc_law_lists.nd rfl (Or.inl rfl))
      (pss_cons (ps_setLc (i := 7) (own := [("_law_place", 8)]) (g := gName 8) (tt := tYes) rfl sc_law_lists.nd rfl rfl (sw_true rfl rfl rfl (by decide +kernel)) (pi_range1 rfl T.n_range (pa_cons (pv 3) pa_nil)) (blkOk_by (own := [("_law_place", 8)]) (N := N_law_lists) (sc := defScope s_law_lists) (by decide +kernel)) (fun _ _ _ _ _ => (pg_name (i := 8) sc_law_lists.nd rfl (Or.inl rfl))) (fun _ _ _ _ _ => pts_nil) (fun _ _ _ _ _ => (pe_op op_mul (pe_call (ok_law_take T) (hr.mono (by decide)) (by rfl) T.g_law_take T.F_law_take.kp T.b_law_take .nil pass0 (pa_cons (pv 0) (pa_cons (pv 2) pa_nil))) (pe_call (ok_law_take T) (hr.mono (by decide)) (by rfl) T.g_law_take T.F_law_take.kp T.b_law_take .nil pass0 (pa_cons (pv 0) (pa_cons pe_int pa_nil))))))
    (pss_stop (ps_if (pt_cmpR op_eq (pe_call (ok_law_take T) (hr.mono (by decide)) (by rfl) T.g_law_take T.F_law_take.kp T.b_law_take .nil pass0 (pa_cons (pv 0) (pa_cons pe_int pa_nil))) pe_int (nomark _))
      (pss_one (ps_set (i := 7) sc_law_lists.nd rfl (Or.inl rfl) (pe_callTy (T := "list") (r := rListS K) call_listS (by rfl) T.n_list (by decide +kernel) (pa_cons (pe_call (ok_law_goal T) (hr.mono (by decide)) (by rfl) T.g_law_goal T.F_law_goal.kp T.b_law_goal .nil pass0 (pa_cons (pv 3) pa_nil)) pa_nil)))) pss_nil)
    (pss_one (ps_expr (pe_bm PySem.F.plainAttrs_list PySem.F.slot_list_append PySem.F.type_list_append mt_append (pe_dget (hu_of hr) (pv 4) (pv 5) (fun _ _ => rfl)) (pa_cons (pe_callTy (T := "tuple") (r := rTupL K) call_tupL (by rfl) T.n_tuple (by decide +kernel) (pa_cons (pv 7) pa_nil)) pa_nil))))))))))
    (pss_one (ps_ret (pe_tupO (pa_cons (pv 2) (pa_cons (pv 3) (pa_cons (pv 4) pa_nil)))))))))), ?_⟩
    refine ⟨by decide, fun l1 H1 n1 s1 h1 => ?_⟩
    have S1 := S.same s1
    have x1 := S.nx s1
    have hl1 := Sep.of_newU S s1 n1 h1
    have ha1 := s1.tupT ha
    clear S ha s1 n1 h1
    walk_at "rd"
    intro r2 H2 h20 h21 S2 x2
    have hl2 := x2 _ _ hl1
    have ha2 := tupT_nxU S1 x2 ha1
    have xx2 := x1.trans x2
    have hq2 := hl2.sq (K := K)
    obtain ⟨pr, hpr, hpp⟩ := prime_pick h20 h21
    have hpl := pr_le hpp
    clear S1 x1 x2 hl1 ha1
    walk_at "rd"
    refine ⟨by decide, fun l3 H3 n3 s3 h3 => ?_⟩
    have S3 := S2.same s3
    have xx3 := xx2.trans (S2.nx s3)
    have hl3 := Sep.of_newU S2 s3 n3 h3
    have ha3 := s3.tupT ha2
    clear hl2 hq2 hpr s3 n3 h3 ha2 S2 xx2
    walk_at "rd"
    intro r4 H4 h40 h41 S4 x4
    have hl4 := x4 _ _ hl3
    have ha4 := tupT_nxU S3 x4 ha3
    have xx4 := xx3.trans x4
    have hq4 := hl4.sq (K := K)
    obtain ⟨wv, hwv, hwm⟩ := at_pick (l := [V.int 2, V.int 4, V.int 6]) h40 (by simpa using h41)
    obtain ⟨wt, rfl, hw0, hw1⟩ : ∃ k : Int, wv = .int k ∧ 2 ≤ k ∧ k ≤ 6 := by
      simp only [List.mem_cons, List.not_mem_nil, or_false] at hwm
      rcases hwm with rfl | rfl | rfl
      all_goals exact ⟨_, rfl, by decide, by decide⟩
    clear x4 S3 hl3 ha3 xx3
    walk_at "rd"
    intro r5 H5 h50 h51 S5 x5
    have ha5 := tupT_nxU S4 x5 ha4
    have xx5 := xx4.trans x5
    obtain ⟨n, en, n1, n2⟩ : ∃ n : Nat, 1 + r5 = (n : Int) ∧ 1 ≤ n ∧ n ≤ 6 := ⟨(1 + r5).toNat, by omega, by omega, by omega⟩
    clear x5 S4 hl4 ha4 xx4 hq4 hwv
    walk_at "rd"
    intro d hd
    have hdn : ∀ q o, Sep H p q o → q ≠ d := fun q o h => ne_of_none (xx5 _ _ h).at_ hd
    have s6 : Same H5 (upd H5 d (.dK [])) := same_new hd
    have sd6 : Sep (upd H5 d (.dK [])) p d (.dK []) := S5.new hd
    have S6 := S5.same s6
    have xx6 := xx5.trans (S5.nx s6)
    have ha6 := s6.tupT ha5
    clear S5 s6 hd ha5 xx5
    generalize upd H5 d (.dK []) = H6 at *
    have hm9 : m + 1 + 1 + 1 ≤ 900000000 := by omega
    have h5 := hn.five
    refine Stop.cut (fun σ H' => ∃ (y5 y6 y7 : Option V) (m' : Nat) (ws : List Str) (L : Str → Addr) (ro : Str → List (List Int)), σ = [some (.ref p), some (.ref a), some (.int pr), some (.int (n : Int)), some (.ref d), y5, y6, y7, none] ∧ StU H' p m' ∧ m' ≤ m + 100000 ∧ Nx p H H' ∧ ws.Perm ps ∧ Lst K p H' d ws L ro ∧ ∀ k ∈ ws, RowsOk pr n (ro k)) (fun Qz hz => ?_) ?_
    · walk_at "rd"
      intro la H7 n7 s7 hla
      have S7 := S6.same s7
      have xx7 := xx6.trans (S6.nx s7)
      have sla := Sep.of_newU S6 s7 n7 hla
      have sd7 := S6.nx s7 _ _ sd6
      have hqa := sla.sq (K := K)
      have hl400 : (ps.map V.str).length ≤ 400 := by
        rw [List.length_map]
        omega
      walk_at "rd"
      intro o H8 zs m8 n8 S8 h8 x8 so pz
      obtain ⟨ws, pw, rfl⟩ := map_perm pz ps rfl
      have sd8 := x8 _ _ sd7
      have xx8 := xx7.trans x8
      have wok := hn.perm pw
      have w5 := wok.five
      have hqo := so.sq (K := K)
      have hd : H8 d ≠ none := by
        rw [sd8.at_]
        exact fun z => nomatch z
      have E0 : Lst K p H8 d [] (fun _ => d) (fun _ => []) := Lst.empty sd8
      clear hd sd8 sd7 sla S7 xx7 hla s7 n7 hqa S6 xx6 sd6
      walk_at "rd"
      refine ⟨⟨_, hqo⟩, ⟨for_it (walk_list (xs := ws.map V.str)) (fun i σ H' => ∃ (y5 y6 y7 : Option V) (m' : Nat) (L : Str → Addr) (ro : Str → List (List Int)), σ = [some (.ref p), some (.ref a), some (.int pr), some (.int (n : Int)), some (.ref d), y5, y6, y7, none] ∧ StU H' p m' ∧ m' ≤ m8 + 2000 * i ∧ Nx p H H' ∧ Sep H' p o (.lst (ws.map V.str)) ∧ Lst K p H' d (ws.take i) L ro ∧ ∀ k ∈ ws.take i, RowsOk pr n (ro k))
        ⟨none, none, none, m8, _, _, by rw [← en]; rfl, S8, by omega, xx8, so, E0, fun k hk => (by cases hk)⟩ (fun i σ H' _ ⟨_, _, _, _, _, _, _, _, _, _, z, _⟩ => SqL.of z.at_) ?_ ?_⟩⟩
      · rintro i x _ H4 H5' hi ⟨y5, y6, y7, m', L, ro, rfl, S4, hm4, x4, so4, hL4, hr4⟩ ⟨rfl, hx⟩
        have hi' : i < ws.length := by simpa using hi
        obtain rfl := strs_get hx (List.getElem?_eq_getElem hi')
        have hnk : ws[i] ∉ ws.take i := fun z => by
          have := wok.nd
          rw [← List.take_append_drop i ws, List.drop_eq_getElem_cons hi'] at this
          have := (List.nodup_append.mp this).2.2 _ z _ (.head _)
          exact this rfl
        have tk : ws.take (i + 1) = ws.take i ++ [ws[i]] := by rw [List.take_succ, List.getElem?_eq_getElem hi']; rfl
        walk_at "rd"
        refine ⟨by decide, fun b Ha na sa hb => ?_⟩
        have Sa := S4.same sa
        have xa := x4.trans (S4.nx sa)
        have hLa := hL4.same S4 sa
        have sb := Sep.of_newU S4 sa na hb
        have soa := S4.nx sa _ _ so4
        have fr : ∀ j ∈ ws.take i, L j ≠ b := fun j hj => by
          obtain ⟨zs, z1, _⟩ := hL4.li j hj
          exact ne_of_none z1.at_ na
        obtain ⟨kvs, sdk, hkv⟩ := hLa.di
        have hln : kvs.length < sizeLine := by
          rw [hkv.len, List.length_take]
          exact Nat.lt_of_le_of_lt (show min i ws.length ≤ 5 by omega) (by decide)
        have hdp : DPut Ha d (.str ws[i]) (.ref b) (upd Ha d (.dK (putK kvs (.inr ws[i]) (.ref b)))) := DPut.k (k := (Sum.inr ws[i] : Key)) sdk.at_ hln
        have hadd := hLa.add hnk sb (rs := []) .nil fr sdk.at_
        rw [← tk] at hadd
        have Sb := Sa.put (u := .dK (putK kvs (.inr ws[i]) (.ref b))) sdk
        have xb : Nx p H (upd Ha d (.dK (putK kvs (.inr ws[i]) (.ref b)))) := fun q o h => (xa q o h).put_ne sdk (hdn q o h)
        have sob := soa.put_ne (u := .dK (putK kvs (.inr ws[i]) (.ref b))) sdk (ne_of soa.at_ sdk.at_ fun z => by cases z)
        have hmk : ws[i] ∈ ws.take (i + 1) := by
          rw [tk]
          exact List.mem_append_right _ (.head _)
        have hin : ∀ k ∈ ws.take (i + 1), k ≠ ws[i] → k ∈ ws.take i := fun k hk ne => by
          rw [tk] at hk
          exact (List.mem_append.mp hk).resolve_right fun z => ne (List.mem_singleton.mp z)
        have hbq : ∀ q o', Sep H p q o' → q ≠ b := fun q o' h => ne_of_none (x4 q o' h).at_ na
        have hbo : o ≠ b := ne_of_none so4.at_ na
        obtain ⟨Lf, hLf⟩ : ∃ f : Str → Addr, f = fun j => if j = ws[i] then b else L j := ⟨_, rfl⟩
        have hLb : Lf ws[i] = b := by rw [hLf]; exact if_pos rfl
        have hbq2 : ∀ q o', Sep H p q o' → q ≠ Lf ws[i] := by rw [hLb]; exact hbq
        have hbo2 : o ≠ Lf ws[i] := by rw [hLb]; exact hbo
        rw [← hLf] at hadd
        clear hLf
        walk_at "rd"
        refine ⟨by decide, fun lc Hc nc sc hc => ?_⟩
        have Sc := Sb.same sc
        have xc := xb.trans (Sb.nx sc)
        have hLc := hadd.same Sb sc
        have soc := Sb.nx sc _ _ sob
        have slc := Sep.of_newU Sb sc nc hc
        clear hadd sob Sb xb hdp sdk hkv hLa sb soa Sa xa sa na hb hc nc sc hL4 so4 S4 x4 fr
        walk_at "rd"
        intro r8 Hd h80 h81 Sd xd
        have hLd := hLc.nx Sc xd
        have sod := xd _ _ soc
        have sld := xd _ _ slc
        have xxd := xc.trans xd
        have hqd := sld.sq (K := K)
        obtain ⟨cv, hcv, hcm⟩ := at_pick (l := [V.int 2, V.int 3, V.int 5, V.int 17]) h80 (by simpa using h81)
        obtain ⟨ct, rfl, hc0, hc1⟩ : ∃ k : Int, cv = .int k ∧ 2 ≤ k ∧ k ≤ 17 := by
          simp only [List.mem_cons, List.not_mem_nil, or_false] at hcm
          rcases hcm with rfl | rfl | rfl | rfl
          all_goals exact ⟨_, rfl, by decide, by decide⟩
        clear hLc soc slc xc Sc xd
        walk_at "rd"
        intro r9 He h90 h91 Se xe
        have hLe := hLd.nx Sd xe
        have soe := xe _ _ sod
        have xxe := xxd.trans xe
        clear hLd sod sld xxd Sd xe hqd hcv
        walk_at "rd"
        refine ⟨for_it walk_range (fun j σ H' => ∃ (y6 y7 : Option V) (m2 : Nat) (ro : Str → List (List Int)), σ = [some (.ref p), some (.ref a), some (.int pr), some (.int (n : Int)), some (.ref d), some (.str ws[i]), y6, y7, none] ∧ StU H' p m2 ∧ m2 ≤ m' + 2 + 100 * j ∧ Nx p H H' ∧ Sep H' p o (.lst (ws.map V.str)) ∧ Lst K p H' d (ws.take (i + 1)) Lf ro ∧ (∀ k ∈ ws.take (i + 1), ∀ r ∈ ro k, RowOk pr n r) ∧ (∀ k ∈ ws.take i, (ro k).length ≤ 16) ∧ (ro ws[i]).length ≤ j)
          ⟨y6, y7, m' + 1 + 1, _, rfl, Se, by omega, xxe, soe, hLe, fun k hk r hr => ?_, fun k hk => ?_, by rw [if_pos rfl]; exact Nat.zero_le _⟩ (fun _ _ _ _ _ => trivial) ?_ ?_⟩
        · by_cases e : k = ws[i]
          · rw [if_pos e] at hr
            cases hr
          · rw [if_neg e] at hr
            exact (hr4 k (hin k hk e)).2 r hr
        · rw [if_neg fun e : k = ws[i] => hnk (by rw [← e]; exact hk)]
          exact (hr4 k hk).1
        · rintro j x _ H4 H5'' hj ⟨y6, y7, m2, ro, rfl, S4, hm2, x4, so4, hL4, hro, hrl, hrk⟩ ⟨rfl, rfl⟩
          have hj16 : j < 17 := by omega
          refine ⟨.int (n : Int), rfl, (n : Int), rfl, by omega, by omega, fun D hD => ?_⟩
          refine lc_dru walk_range (by omega) p _ 2 (fun H y => ∃ z : Int, y = .int z ∧ 0 ≤ z ∧ z < pr) S4 hD (fun H H' y acc sD k h => h) (fun _ _ => trivial) ?_ ?_
          · intro j2 m3 x H8 H9 Qk hi2 S8 hm3 x8 hDx hy hk
            obtain ⟨rfl, rfl⟩ := hy
            walk_at "rd"
            intro u1 H9 u10 u11 S9 x9
            walk_at "rd"
            intro u2 H10 u20 u21 S10 x10
            have hcm : CMul u1 u2 := .inl ⟨by omega, by omega⟩
            walk_at "rd"
            refine hk (.int (u1 * u2)) H10 _ ⟨_, rfl, ?_⟩ S10 (by omega) (x9.trans x10)
            obtain e | e : u2 = 0 ∨ u2 = 1 := by omega
            · subst e
              omega
            · subst e
              omega
          · intro H8 m8' acc S8' hm8 x8' sD hlen hR
            obtain ⟨zs, rfl, hzs⟩ : ∃ zs : List Int, acc = zs.map V.int ∧ ∀ z ∈ zs, 0 ≤ z ∧ z < pr := by
              clear hlen sD hm8
              induction acc with
              | nil => exact ⟨[], rfl, fun _ h => nomatch h⟩
              | cons y r ih =>
                obtain ⟨z, rfl, h1⟩ := hR y (.head _)
                obtain ⟨zs, rfl, h3⟩ := ih fun y hy => hR y (.tail _ hy)
                refine ⟨z :: zs, rfl, fun z' hz' => ?_⟩
                rcases List.mem_cons.mp hz' with rfl | hz'
                · exact h1
                · exact h3 z' hz'
            have row0 : RowOk pr n zs := ⟨by rw [List.length_map] at hlen; omega, hzs⟩
            have hqD := sD.sq (K := K)
            refine Stop.cut (fun σ H' => ∃ (m9 : Nat) (y6 : Option V) (D' : Addr) (zs : List Int), σ = [some (.ref p), some (.ref a), some (.int pr), some (.int (n : Int)), some (.ref d), some (.str ws[i]), y6, some (.ref D'), none] ∧ StU H' p m9 ∧ m9 ≤ m2 + 60 ∧ Nx p H5'' H' ∧ SqL K H' D' (zs.map V.int) ∧ RowOk pr n zs) (fun Qz2 hz2 => ?_) ?_
            · walk_at "rd"
              intro u3 H9 u30 u31 S9 x9
              have hq9 := (x9 _ _ sD).sq (K := K)
              have xx9 := x8'.trans x9
              walk_at "rd"
              refine ite2 (fun e1 => ?_) (fun e1 => ?_)
              · walk_at "rd"
                intro g H10 n10 s10 hg
                have hgt : SqL K H10 g ((goalL n).map V.int) ∨ SqT K H10 g ((goalL n).map V.int) := .inr (SqT.of hg)
                walk_at "rd"
                intro D2 H11 n11 s11 hD2
                have s911 := s10.trans s11
                exact hz2 _ _ ⟨m8' + 1, _, D2, goalL n, rfl, S9.same s911, by omega, xx9.trans (S9.nx s911), SqL.of hD2, goal_row hpl.1 n1⟩
              · exact hz2 _ _ ⟨m8' + 1, _, D, zs, rfl, S9, by omega, xx9, hq9, row0⟩
            · rintro _ H9 ⟨m9, y6, D', zs, rfl, S9, hm9, x9, hD', row⟩
              have hL9 := hL4.nx S4 x9
              have so9 := x9 _ _ so4
              have xx9 := x4.trans x9
              have hdg := hL9.get hmk
              obtain ⟨xs, sx, rv⟩ := hL9.li _ hmk
              walk_at "rd"
              refine ⟨.inl ⟨rfl, _, SqL.of sx.at_⟩, ?_⟩
              walk_at "rd"
              intro t H10 n10 s10 ht
              have S10 := S9.same s10
              have hL10 := hL9.same S9 s10
              have hx10 := s10 _ _ sx.at_
              have so10 := S9.nx s10 _ _ so9
              have xx10 := xx9.trans (S9.nx s10)
              have sx10 := S9.nx s10 _ _ sx
              have hlt : xs.length < sizeLine := by
                have := paired_len rv
                exact Nat.lt_of_le_of_lt (show xs.length ≤ 1000 by omega) (by decide)
              have happ := hL10.app hmk (r := .ref t) (ns := zs) hx10 ⟨t, rfl, SqT.of ht⟩
              walk_at "rd"
              refine ⟨S10.put sx10, by omega, fun q o' h => (xx10 q o' h).put_ne sx10 (hbq2 q o' h), so10.put_ne sx10 hbo2, happ, fun k hk r hr => ?_, fun k hk => ?_, ?_⟩
              · by_cases e : k = ws[i]
                · rw [if_pos e] at hr
                  rcases List.mem_append.mp hr with hr | hr
                  · exact hro k hk r hr
                  · rw [List.mem_singleton.mp hr]
                    exact row
                · rw [if_neg e] at hr
                  exact hro k hk r hr
              · rw [if_neg fun e : k = ws[i] => hnk (by rw [← e]; exact hk)]
                exact hrl k hk
              · rw [if_pos rfl, List.length_append]
                simp
                omega
        · rintro σ H4 ⟨y6, y7, m2, ro, rfl, S4, hm2, x4, so4, hL4, hro, hrl, hrk⟩
          refine ⟨_, y6, y7, m2, Lf, ro, rfl, S4, by omega, x4, so4, hL4, fun k hk => ⟨?_, hro k hk⟩⟩
          by_cases e : k = ws[i]
          · rw [e]
            omega
          · exact hrl k (hin k hk e)
      · rintro σ H4 ⟨y5, y6, y7, m', L, ro, rfl, S4, hm4, x4, so4, hL4, hr4⟩
        rw [List.length_map] at hm4
        rw [List.length_map, List.take_length] at hL4 hr4
        exact hz _ _ ⟨y5, y6, y7, m', ws, L, ro, rfl, S4, by omega, x4, pw, hL4, hr4⟩
    · rintro _ H4 ⟨y5, y6, y7, m', ws, L, ro, rfl, S4, hm4, x4, pw, hL4, hr4⟩
      walk_at "rd"
      refine ⟨by show 3 ≤ sizeLine; decide, fun t H5 n5 s5 ht => ?_⟩
      exact q t H5 m' pr n ws ro (S4.same s5) hm4 (x4.trans (S4.nx s5)) pw ⟨⟨d, L, SqT.of ht, hL4.same S4 s5⟩, hpp, n1, by omega, hr4⟩
end
end P

set_option Elab.async false
set_option linter.all false
set_option maxRecDepth 100000
set_option maxHeartbeats 4000000
namespace P
open PySem PySem.Spec PyProof.Rows L2 OS
/-! ### how many groups, how wide: without the first of the persons, groups that don't contain each other stay apart -/
theorem perm_sum {l m : List Nat} (p : l.Perm m) : l.sum = m.sum := by
  induction p with
  | nil => rfl
  | cons x _ ih => rw [List.sum_cons, List.sum_cons, ih]
  | swap x y l =>
    rw [List.sum_cons, List.sum_cons, List.sum_cons, List.sum_cons]
    omega
  | trans _ _ h1 h2 => exact h1.trans h2
theorem sum_le {α : Type} [DecidableEq α] (f : α → Nat) : ∀ (l m : List α), l.Nodup → (∀ x ∈ l, x ∈ m) → (l.map f).sum ≤ (m.map f).sum
  | [], _, _, _ => Nat.zero_le _
  | x :: l, m, hl, hm => by
    obtain ⟨a, b⟩ := List.nodup_cons.mp hl
    have hx := hm x (.head _)
    have ih := sum_le f l (m.erase x) b fun y hy => (List.mem_erase_of_ne fun e : y = x => a (e ▸ hy)).mpr (hm y (.tail _ hy))
    have e := perm_sum ((List.perm_cons_erase hx).map f)
    rw [List.map_cons, List.sum_cons] at e ⊢
    omega
/-- all sublists of k persons hold k * 2 ^ (k - 1) names in all -/
theorem sets_sum : ∀ ws : List Str, ((setsL ws).map List.length).sum * 2 = ws.length * 2 ^ ws.length := by
  suffices h : ∀ ws : List Str, ((setsL ws.reverse).map List.length).sum * 2 = ws.length * 2 ^ ws.length by
    intro ws
    have := h ws.reverse
    rwa [List.reverse_reverse, List.length_reverse] at this
  intro ws
  induction ws with
  | nil => rfl
  | cons w ws ih =>
    rw [List.reverse_cons, setsL_snoc, List.map_append, List.sum_append, List.map_map]
    have e : ((setsL ws.reverse).map (List.length ∘ fun g => g ++ [w])).sum = ((setsL ws.reverse).map List.length).sum + (setsL ws.reverse).length := by
      generalize setsL ws.reverse = l
      induction l with
      | nil => rfl
      | cons g l ih2 =>
        rw [List.map_cons, List.map_cons, List.sum_cons, List.sum_cons, ih2, List.length_cons]
        show (g ++ [w]).length + _ = _
        rw [List.length_append]
        simp
        omega
    rw [e, setsL_len, List.length_reverse, List.length_cons, Nat.pow_succ]
    have : (ws.length + 1) * (2 ^ ws.length * 2) = 2 * (ws.length * 2 ^ ws.length) + 2 * 2 ^ ws.length := by
      rw [Nat.add_mul, Nat.one_mul, ← Nat.mul_assoc, Nat.mul_comm _ 2, Nat.mul_comm (2 ^ ws.length) 2]
    rw [this, ← ih]
    omega
/-- without the first person -/
def cutG (a : Str) (g : List Str) : List Str := g.filter fun n => decide (n ≠ a)
theorem cut_sub {a : Str} {r g : List Str} (h : g.Sublist (a :: r)) (ha : a ∉ r) : (cutG a g).Sublist r := by
  have h1 := h.filter fun n => decide (n ≠ a)
  have e : (a :: r).filter (fun n => decide (n ≠ a)) = r := by
    rw [List.filter_cons_of_neg (by simp)]
    exact List.filter_eq_self.mpr fun n hn => decide_eq_true fun e => ha (e ▸ hn)
  rw [e] at h1
  exact h1
theorem cut_len {a : Str} {g : List Str} (h : g.Nodup) : g.length - 1 ≤ (cutG a g).length := by
  unfold cutG
  induction g with
  | nil => exact Nat.zero_le _
  | cons x g ih =>
    obtain ⟨h1, h2⟩ := List.nodup_cons.mp h
    by_cases e : x = a
    · rw [List.filter_cons_of_neg (by simp [e])]
      have : g.filter (fun n => decide (n ≠ a)) = g := List.filter_eq_self.mpr fun n hn => decide_eq_true fun z => h1 (e ▸ z ▸ hn)
      rw [this]
      simp
    · rw [List.filter_cons_of_pos (by simp [e])]
      simp at ih ⊢
      have := ih h2
      omega
theorem Anti.cut {a : Str} {r : List Str} {hs : List (List Str)} (h : Anti (a :: r) hs) (hn : (a :: r).Nodup) : (hs.map (cutG a)).Nodup ∧ ∀ c ∈ hs.map (cutG a), c ∈ setsL r := by
  have ha := (List.nodup_cons.mp hn).1
  have inj : ∀ g ∈ hs, ∀ o ∈ hs, cutG a g = cutG a o → g = o := by
    intro g hg o ho e
    have mem : ∀ n, n ≠ a → (n ∈ g ↔ n ∈ o) := fun n hna => by
      have : n ∈ cutG a g ↔ n ∈ cutG a o := by rw [e]
      unfold cutG at this
      rw [List.mem_filter, List.mem_filter] at this
      simpa [hna] using this
    refine Classical.byContradiction fun ne => ?_
    by_cases hag : a ∈ g
    · have := h.anti g hg o ho fun z => ne z.symm
      rw [← Bool.not_eq_true] at this
      refine this (inside_iff.mpr fun n hno => ?_)
      by_cases e2 : n = a
      · exact e2 ▸ hag
      · exact (mem n e2).mpr hno
    · have := h.anti o ho g hg ne
      rw [← Bool.not_eq_true] at this
      refine this (inside_iff.mpr fun n hng => (mem n fun e2 => hag (e2 ▸ hng)).mp hng)
  refine ⟨List.pairwise_map.mpr (List.Pairwise.imp_of_mem (fun {g o} hg ho ne e => ne (inj g hg o ho e)) h.nd), fun c hc => ?_⟩
  obtain ⟨g, hg, rfl⟩ := List.mem_map.mp hc
  exact mem_sets.mpr (cut_sub (h.sub g hg) ha)
/-- at most 16 groups, at most 32 names behind the first ones -/
theorem Anti.few {ps : List Str} {hs : List (List Str)} (h : Anti ps hs) (hp : NamesOk ps) : hs.length ≤ 16 ∧ (hs.map fun g => g.length - 1).sum ≤ 32 := by
  obtain ⟨a, r, rfl⟩ : ∃ a r, ps = a :: r := by
    cases ps with
    | nil => exact absurd hp.one (by decide)
    | cons a r => exact ⟨a, r, rfl⟩
  obtain ⟨c1, c2⟩ := h.cut hp.nd
  have r4 : r.length ≤ 4 := by
    have := hp.five
    rw [List.length_cons] at this
    omega
  have p4 : 2 ^ r.length ≤ 16 := Nat.pow_le_pow_right (by decide : 2 > 0) r4
  constructor
  · have := sum_le (fun _ => 1) _ _ c1 c2
    have one : ∀ l : List (List Str), (l.map fun _ => 1).sum = l.length := fun l => by
      induction l with
      | nil => rfl
      | cons x l ih =>
        rw [List.map_cons, List.sum_cons, ih, List.length_cons]
        omega
    rw [one, one, List.length_map, setsL_len] at this
    omega
  · have s1 := sum_le List.length _ _ c1 c2
    have s2 := sets_sum r
    have s3 : r.length * 2 ^ r.length ≤ 4 * 16 := Nat.mul_le_mul r4 p4
    have s4 : ∀ l : List (List Str), (∀ g ∈ l, g.Nodup) → (l.map fun g => g.length - 1).sum ≤ ((l.map (cutG a)).map List.length).sum := by
      intro l
      induction l with
      | nil => exact fun _ => Nat.le_refl _
      | cons g l ih =>
        intro hl
        rw [List.map_cons, List.map_cons, List.map_cons, List.sum_cons, List.sum_cons]
        exact Nat.add_le_add (cut_len (hl g (.head _))) (ih fun o ho => hl o (.tail _ ho))
    have s5 := s4 hs fun g hg => hp.nd.sublist (h.sub g hg)
    omega
end P

set_option Elab.async false
set_option linter.all false
set_option maxRecDepth 100000
set_option maxHeartbeats 4000000
namespace P
open PySem PySem.Spec PyProof.Rows L2 OS
/-! short ways: "rd" opens a reading as far as equations go; "sep" finds what stands apart from the state; "sq" a list that is read; "nx" two heaps -/
local macro_rules | `(tactic| walk_at "sep") => `(tactic| first | assumption | (refine (by assumption : Nx _ _ _) _ _ ?_; walk_at "sep"))
local macro_rules | `(tactic| walk_at "sq") => `(tactic| first | assumption | exact .inl (.inl (by assumption)) | exact Sep.sq (by walk_at "sep") | exact Sep.st (by walk_at "sep") | exact .inl (.inl upd_same))
local macro_rules | `(tactic| walk_at "rd") => `(tactic| repeat (first
  | refine And.intro rfl ?_
  | apply Exists.intro
  | refine And.intro (by assumption) ?_
  | refine And.intro (DrawOk.mk (by omega) (by omega) (by omega)) ?_
  | refine And.intro at0 ?_
  | refine And.intro ⟨_, rfl⟩ ?_
  | refine And.intro (by walk_at "sq") ?_
  | refine And.intro (Or.inl (by walk_at "sq")) ?_
  | refine And.intro (Or.inr (by walk_at "sq")) ?_
  | refine And.intro (by omega) ?_))

section
variable {P : Program} {w : World} {K : PySem.W.Frag} {mg : Str → Option Value} {base : Heap}
/-- the names of the groups behind their first ones -/
def behind (hs : List (List Str)) : Nat := (hs.map fun g => g.length - 1).sum
theorem behind_int : ∀ hs : List (List Str), (∀ g ∈ hs, g ≠ []) → (hs.map fun g => ((g.length : Int) - 1)).sum = (behind hs : Int)
  | [], _ => rfl
  | g :: hs, h => by
    have ih := behind_int hs fun o ho => h o (.tail _ ho)
    have hg : 1 ≤ g.length := List.length_pos_iff.mpr (h g (.head _))
    unfold behind at ih ⊢
    rw [List.map_cons, List.map_cons, List.sum_cons, List.sum_cons, ih]
    omega
theorem ix_nat {n j : Nat} (h : j < n) : ixN n (j : Int) = some j := by
  unfold ixN
  rw [if_pos (by omega), if_pos (by omega)]
  simp
theorem row_set {pr : Int} {n i : Nat} {zs : List Int} {v : Int} (h : RowOk pr n zs) (h0 : 0 ≤ v) (h1 : v < pr) : RowOk pr n (zs.set i v) := by
  refine ⟨by rw [List.length_set]; exact h.len, fun z hz => ?_⟩
  rcases List.mem_or_eq_of_mem_set hz with hz | hz
  · exact h.rng z hz
  · rw [hz]
    exact ⟨h0, h1⟩
theorem row_zero {pr : Int} {n : Nat} (h : 2 ≤ pr) : RowOk pr n (List.replicate n 0) := ⟨List.length_replicate, fun z hz => by rw [List.eq_of_mem_replicate hz]; omega⟩
theorem zeros_flat (n : Nat) : (List.replicate ((n : Nat) : Int).toNat [V.int 0]).flatten = (List.replicate n (0 : Int)).map V.int := by
  have e1 : ((n : Nat) : Int).toNat = n := by omega
  rw [e1]
  induction n with
  | zero => rfl
  | succ k ih => rw [List.replicate_succ, List.replicate_succ, List.flatten_cons, ih (by omega)]; rfl
/-- what stands while the rows of a group are laid -/
structure Pl (K : PySem.W.Frag) (p : Addr) (H H' : Hp) (m : Nat) (l o c D d : Addr) (xs : List V) (hs : List (List Str)) (os : List Str) (zs : List Int) (ps : List Str) (L : Str → Addr) (ro : Str → List (List Int)) : Prop where
  S : StU H' p m
  x : Nx p H H'
  o : Sep H' p o (.lst (os.map V.str))
  c : Sep H' p c (.lst ((os.drop 1).map V.str))
  D : Sep H' p D (.lst (zs.map V.int))
  l : Sep H' p l (.lst xs)
  g : GrpsV K H' xs hs
  L : Lst K p H' d ps L ro
/-- what is not the same -/
structure Pd (p : Addr) (H : Hp) (l o c D : Addr) (ps : List Str) (L : Str → Addr) : Prop where
  Dq : ∀ q o, Sep H p q o → q ≠ D
  Lq : ∀ k ∈ ps, ∀ q o, Sep H p q o → q ≠ L k
  Do : o ≠ D
  Dc : c ≠ D
  Dl : l ≠ D
  DL : ∀ k ∈ ps, L k ≠ D
  oL : ∀ k ∈ ps, o ≠ L k
  cL : ∀ k ∈ ps, c ≠ L k
  lL : ∀ k ∈ ps, l ≠ L k
section
variable {p : Addr} {H H' : Hp} {m : Nat} {l o c D d : Addr} {xs : List V} {hs : List (List Str)} {os : List Str} {zs : List Int} {ps : List Str} {L : Str → Addr} {ro : Str → List (List Int)}
theorem grps_put {H : Hp} {e : Addr} {u u' : HO} (he : H e = some u) (hu : ∀ xs, u ≠ .tup xs ∧ ∀ o, u ≠ .frz o (.tup xs)) {xs : List V} {hs : List (List Str)} (h : GrpsV K H xs hs) : GrpsV K (upd H e u') xs hs := Paired.mapP h fun _ _ z => by
  obtain ⟨c, e', hc⟩ := z
  exact ⟨c, e', tupT_put he hu hc⟩
theorem Lst.putL {H : Hp} {e : Addr} {ys ys' : List V} (he : Sep H p e (.lst ys)) (ne : ∀ k ∈ ps, L k ≠ e) (h : Lst K p H d ps L ro) : Lst K p (upd H e (.lst ys')) d ps L ro := by
  obtain ⟨⟨kv, h1, h2⟩, h3, h4⟩ := h
  refine ⟨⟨kv, h1.put_ne he (ne_of h1.at_ he.at_ fun z => by cases z), h2⟩, h3, fun k hk => ?_⟩
  obtain ⟨xs, q1, q2⟩ := h4 k hk
  exact ⟨xs, q1.put_ne he (ne k hk), q2.put he.at_ (ls_no _)⟩
theorem Pl.same {H2 : Hp} (h : Pl K p H H' m l o c D d xs hs os zs ps L ro) (s : Same H' H2) : Pl K p H H2 m l o c D d xs hs os zs ps L ro :=
  ⟨h.S.same s, h.x.trans (h.S.nx s), h.S.nx s _ _ h.o, h.S.nx s _ _ h.c, h.S.nx s _ _ h.D, h.S.nx s _ _ h.l, h.g.same s, h.L.same h.S s⟩
theorem Pl.putR {H2 : Hp} {r : Addr} {rs rs' : List V} (h : Pl K p H H' m l o c D d xs hs os zs ps L ro) (n : H' r = none) (s : Same H' H2) (sr : Sep H2 p r (.lst rs)) : Pl K p H (upd H2 r (.lst rs')) m l o c D d xs hs os zs ps L ro := by
  have h2 := h.same s
  refine ⟨h2.S.put sr, fun q o z => (h2.x q o z).put_ne sr (ne_of_none (h.x q o z).at_ n), h2.o.put_ne sr (ne_of_none h.o.at_ n), h2.c.put_ne sr (ne_of_none h.c.at_ n), h2.D.put_ne sr (ne_of_none h.D.at_ n), h2.l.put_ne sr (ne_of_none h.l.at_ n), grps_put sr.at_ (ls_no _) h2.g, h2.L.putL sr fun k hk => ?_⟩
  obtain ⟨ys, z1, _⟩ := h.L.li k hk
  exact ne_of_none z1.at_ n
theorem Pl.putD (h : Pl K p H H' m l o c D d xs hs os zs ps L ro) (w : Pd p H l o c D ps L) (zs' : List Int) : Pl K p H (upd H' D (.lst (zs'.map V.int))) m l o c D d xs hs os zs' ps L ro :=
  ⟨h.S.put h.D, fun q o z => (h.x q o z).put_ne h.D (w.Dq q o z), h.o.put_ne h.D w.Do, h.c.put_ne h.D w.Dc, h.D.put_same, h.l.put_ne h.D w.Dl, grps_put h.D.at_ (ls_no _) h.g, h.L.putL h.D w.DL⟩
theorem Pl.app (h : Pl K p H H' m l o c D d xs hs os zs ps L ro) (w : Pd p H l o c D ps L) {k : Str} (hk : k ∈ ps) {ys : List V} {r : V} {ns : List Int} (hx : H' (L k) = some (.lst ys)) (hr : RowV K H' r ns) :
    Pl K p H (upd H' (L k) (.lst (ys ++ [r]))) m l o c D d xs hs os zs ps L (fun j => if j = k then ro j ++ [ns] else ro j) := by
  obtain ⟨ys', z1, _⟩ := h.L.li k hk
  exact ⟨h.S.put z1, fun q o z => (h.x q o z).put_ne z1 (w.Lq k hk q o z), h.o.put_ne z1 (w.oL k hk), h.c.put_ne z1 (w.cL k hk), h.D.put_ne z1 (w.DL k hk).symm, h.l.put_ne z1 (w.lL k hk), grps_put z1.at_ (ls_no _) h.g, h.L.app hk hx hr⟩
end
/-- _law_plain_lists(state, names, least) -/
def spLPlain (K : PySem.W.Frag) : Sp := fun vs H Q _ => ∃ (p a l : Addr) (m : Nat) (ps : List Str) (xs : List V) (hs : List (List Str)), vs = [.ref p, .ref a, .ref l] ∧ StU H p m ∧ m ≤ 800000000 ∧ SqT K H a (ps.map V.str) ∧ NamesOk ps ∧ Sep H p l (.lst xs) ∧ GrpsV K H xs hs ∧ Anti ps hs ∧ TellsM K Q p m H ps
theorem ok_law_plain_lists (T : Txt K mg) : FnOk P w K mg base CX0 3 T.f_law_plain_lists T.fd_law_plain_lists ["_law_state", "_law_names", "_law_least_here"] (spLPlain K) := by
  refine T.F_law_plain_lists.ok sc_law_plain_lists (fun vs H Q E h => ?_) (fun cdv A outer s H vs Q E hr h => ?_)
  · obtain ⟨p, a, l, m, ps, xs, hs, rfl, _⟩ := h
    rfl
  · obtain ⟨p, a, l, m, ps, xs, hs, rfl, S, hm, ha, hn, hl, hg, hA, q⟩ := h
    refine ⟨_, (pss_cons (ps_set (i := 3) sc_law_plain_lists.nd rfl (Or.inl rfl) (pe_ix (r := rIxL K) ix_list (pe_lstO (pa_cons pe_int (pa_cons pe_int (pa_cons pe_int (pa_cons pe_int (pa_cons pe_int pa_nil)))))) (pe_call (ok_law_take T) (hr.mono (by decide)) (by rfl) T.g_law_take T.F_law_take.kp T.b_law_take .nil pass0 (pa_cons (pv 0) (pa_cons pe_int pa_nil))) (fun _ _ => rfl)))
    (pss_cons (ps_set (i := 4) sc_law_plain_lists.nd rfl (Or.inl rfl) (pe_op op_add pe_int (pe_callB (id := "sum") (r := rSum K) (cr_sum rfl) (by rfl) T.n_sum (by decide +kernel) (pa_cons (pe_lc (own := [("_law_group", 5)]) (g := gName 5) (tt := tYes) rfl sc_law_plain_lists.nd (pi_list (pv 2)) (blkOk_by (own := [("_law_group", 5)]) (N := N_law_plain_lists) (sc := defScope s_law_plain_lists) (by decide +kernel)) (fun _ _ _ _ _ => (pg_name (i := 5) sc_law_plain_lists.nd rfl (Or.inl rfl))) (fun _ _ _ _ _ => pts_nil) (fun _ _ _ _ _ => (pe_op op_sub (pe_callB (id := "len") (r := rLenS K) call_lenS (by rfl) T.n_len PySem.boot_len (pa_cons (pv 5) pa_nil)) pe_int))) pa_nil))))
    (pss_cons (ps_set (i := 6) sc_law_plain_lists.nd rfl (Or.inl rfl) pe_dnewK)
    (pss_stop (ps_for PassesOwn.never rfl (pi_hold (pi_tup (pv 1))) (pg_name (i := 7) sc_law_plain_lists.nd rfl (Or.inl rfl))
      (pss_one (ps_dput (hu_of hr) (pv 6) (pv 7) (pe_lstO pa_nil) rfl)))
    (pss_cons (ps_set (i := 8) sc_law_plain_lists.nd rfl (Or.inl rfl) pe_int)
    (pss_stop (ps_for PassesOwn.never rfl (pi_hold (pi_list (pv 2))) (pg_name (i := 5) sc_law_plain_lists.nd rfl (Or.inl rfl))
      (pss_cons (ps_set (i := 9) sc_law_plain_lists.nd rfl (Or.inl rfl) (pe_call (ok_law_shuffled T) (hr.mono (by decide)) (by rfl) T.g_law_shuffled T.F_law_shuffled.kp T.b_law_shuffled .nil pass0 (pa_cons (pv 0) (pa_cons (pe_callTy (T := "list") (r := rListS K) call_listS (by rfl) T.n_list (by decide +kernel) (pa_cons (pv 5) pa_nil)) pa_nil))))
    (pss_cons (ps_set (i := 10) sc_law_plain_lists.nd rfl (Or.inl rfl) (pe_callTy (T := "list") (r := rListS K) call_listS (by rfl) T.n_list (by decide +kernel) (pa_cons (pe_call (ok_law_goal T) (hr.mono (by decide)) (by rfl) T.g_law_goal T.F_law_goal.kp T.b_law_goal .nil pass0 (pa_cons (pv 4) pa_nil)) pa_nil)))
    (pss_stop (ps_for PassesOwn.never rfl (pi_hold (pi_list (pe_slice sl_listO (pv 9) (po_some pe_int) po_none))) (pg_name (i := 7) sc_law_plain_lists.nd rfl (Or.inl rfl))
      (pss_cons (ps_set (i := 11) sc_law_plain_lists.nd rfl (Or.inl rfl) (pe_op op_mulL (pe_lstO (pa_cons pe_int pa_nil)) (pv 4)))
    (pss_cons (ps_asg pe_int (pg_sub (pv 11) (pv 8) set_list))
    (pss_cons (ps_expr (pe_bm PySem.F.plainAttrs_list PySem.F.slot_list_append PySem.F.type_list_append mt_append (pe_dget (hu_of hr) (pv 6) (pv 7) (fun _ _ => rfl)) (pa_cons (pe_callTy (T := "tuple") (r := rTupL K) call_tupL (by rfl) T.n_tuple (by decide +kernel) (pa_cons (pv 11) pa_nil)) pa_nil)))
    (pss_cons (ps_asg (pe_op op_sub (pv 3) pe_int) (pg_sub (pv 10) (pv 8) set_list))
    (pss_one (ps_set (i := 8) sc_law_plain_lists.nd rfl (Or.inl rfl) (pe_op op_add (pv 8) pe_int))))))))
    (pss_one (ps_expr (pe_bm PySem.F.plainAttrs_list PySem.F.slot_list_append PySem.F.type_list_append mt_append (pe_dget (hu_of hr) (pv 6) (pe_ix (r := rIxL K) ix_list (pv 9) pe_int (fun _ _ => rfl)) (fun _ _ => rfl)) (pa_cons (pe_callTy (T := "tuple") (r := rTupL K) call_tupL (by rfl) T.n_tuple (by decide +kernel) (pa_cons (pv 10) pa_nil)) pa_nil))))))))
    (pss_one (ps_ret (pe_tupO (pa_cons (pv 3) (pa_cons (pv 4) (pa_cons (pv 6) pa_nil)))))))))))), ?_⟩
    obtain ⟨few1, few2⟩ := hA.few hn
    have hxl := paired_len hg
    refine ⟨by decide, fun l1 H1 n1 s1 h1 => ?_⟩
    have S1 := S.same s1
    have x1 := S.nx s1
    have hl1 := Sep.of_newU S s1 n1 h1
    walk_at "rd"
    intro r2 H2 h20 h21 S2 x2
    have xx2 := x1.trans x2
    have hl2 := x2 _ _ hl1
    have ha2 := tupT_nxU S xx2 ha
    have sl2 := xx2 _ _ hl
    have hg2 := GrpsV.nxU S xx2 hg
    have hq2 := hl2.sq (K := K)
    obtain ⟨pr, hpr, hpp⟩ := prime_pick h20 h21
    have hpl := pr_le hpp
    have hql := sl2.sq (K := K)
    clear S1 x1 x2 hl1 s1 n1 h1
    walk_at "rd"
    refine ⟨⟨_, hql⟩, fun D hD => ?_⟩
    refine lc_rel (walk_list (xs := xs)) (xs := hs) hxl.symm (by omega) (fun _ => true) (fun _ g v => v = V.int ((g.length : Int) - 1)) hD (fun _ _ _ _ _ _ _ _ h => h) (fun H s => s.seq hql) ?_ ?_
    · intro j g v H5 H6 Qk Qn hgj sm hy hk _
      obtain ⟨rfl, hv⟩ := hy
      obtain ⟨g', h1, h2⟩ := OS.paired_get hg2 hv
      obtain rfl : g' = g := Option.some.inj (h1.symm.trans hgj)
      obtain ⟨b, rfl, hb⟩ := h2.same sm
      walk_at "rd"
      rw [List.length_map]
      exact hk rfl _ _ rfl (Same.refl _)
    · intro H3 acc s3 hD3 pr3
      have hfl : hs.filter (fun _ => true) = hs := List.filter_eq_self.mpr fun _ _ => rfl
      rw [hfl] at pr3
      have ea : acc = (hs.map fun g => ((g.length : Int) - 1)).map V.int := by
        rw [List.map_map]
        exact paired_fn pr3
      have hD3q : SqL K H3 D ((hs.map fun g => ((g.length : Int) - 1)).map V.int) := by
        rw [← ea]
        exact SqL.of hD3
      have S3 := S2.same s3
      have xx3 := xx2.trans (S2.nx s3)
      have ha3 := s3.tupT ha2
      have sl3 := S2.nx s3 _ _ sl2
      have hg3 := hg2.same s3
      obtain ⟨n, en⟩ : ∃ n : Nat, n = 1 + behind hs := ⟨_, rfl⟩
      have en2 : (1 : Int) + (hs.map fun g => ((g.length : Int) - 1)).sum = (n : Int) := by
        rw [behind_int hs hA.ne]
        omega
      have n33 : n ≤ 33 := by
        unfold behind at en
        omega
      clear S2 xx2 ha2 sl2 hg2 hq2 hpr hql hl2 s3 hD3 hD ea pr3
      walk_at "rd"
      intro d hd
      have hdn : ∀ q o, Sep H p q o → q ≠ d := fun q o h => ne_of_none (xx3 _ _ h).at_ hd
      have s4 : Same H3 (upd H3 d (.dK [])) := same_new hd
      have sd4 : Sep (upd H3 d (.dK [])) p d (.dK []) := S3.new hd
      have S4 := S3.same s4
      have xx4 := xx3.trans (S3.nx s4)
      have ha4 := s4.tupT ha3
      have sl4 := S3.nx s4 _ _ sl3
      have hg4 := hg3.same s4
      clear S3 xx3 ha3 sl3 hg3 s4 hd hD3q
      generalize upd H3 d (.dK []) = H4 at *
      have h5 := hn.five
      have E0 : Lst K p H4 d [] (fun _ => d) (fun _ => []) := Lst.empty sd4
      refine Stop.cut (fun σ H' => ∃ (y5 y7 : Option V) (L : Str → Addr) (ro : Str → List (List Int)), σ = [some (.ref p), some (.ref a), some (.ref l), some (.int pr), some (.int (n : Int)), y5, some (.ref d), y7, none, none, none, none] ∧ StU H' p (m + 1) ∧ Nx p H H' ∧ SqT K H' a (ps.map V.str) ∧ Sep H' p l (.lst xs) ∧ GrpsV K H' xs hs ∧ Lst K p H' d ps L ro ∧ (∀ k ∈ ps, ro k = []) ∧ ∀ k ∈ ps, ∀ q o, Sep H p q o → q ≠ L k) (fun Qz hz => ?_) ?_
      · walk_at "rd"
        refine ⟨⟨_, ha4⟩, ⟨for_it (walk_tup (xs := ps.map V.str)) (fun i σ H' => ∃ (y5 y7 : Option V) (L : Str → Addr) (ro : Str → List (List Int)), σ = [some (.ref p), some (.ref a), some (.ref l), some (.int pr), some (.int (n : Int)), y5, some (.ref d), y7, none, none, none, none] ∧ StU H' p (m + 1) ∧ Nx p H H' ∧ SqT K H' a (ps.map V.str) ∧ Sep H' p l (.lst xs) ∧ GrpsV K H' xs hs ∧ Lst K p H' d (ps.take i) L ro ∧ (∀ k ∈ ps.take i, ro k = []) ∧ ∀ k ∈ ps.take i, ∀ q o, Sep H p q o → q ≠ L k)
          ⟨none, none, _, _, by rw [← en2]; rfl, S4, xx4, ha4, sl4, hg4, E0, fun k hk => (by cases hk), fun k hk => (by cases hk)⟩ (fun i σ H' _ ⟨_, _, _, _, _, _, _, z, _⟩ => z) ?_ ?_⟩⟩
        · rintro i x _ H5 H6 hi ⟨y5, y7, L, ro, rfl, S5, x5, ha5, sl5, hg5, hL5, hr5, hf5⟩ ⟨rfl, hx⟩
          have hi' : i < ps.length := by simpa using hi
          obtain rfl := strs_get hx (List.getElem?_eq_getElem hi')
          have hnk : ps[i] ∉ ps.take i := fun z => by
            have := hn.nd
            rw [← List.take_append_drop i ps, List.drop_eq_getElem_cons hi'] at this
            have := (List.nodup_append.mp this).2.2 _ z _ (.head _)
            exact this rfl
          have tk : ps.take (i + 1) = ps.take i ++ [ps[i]] := by rw [List.take_succ, List.getElem?_eq_getElem hi']; rfl
          walk_at "rd"
          refine ⟨by decide, fun b Ha na sa hb => ?_⟩
          have Sa := S5.same sa
          have xa := x5.trans (S5.nx sa)
          have hLa := hL5.same S5 sa
          have sb := Sep.of_newU S5 sa na hb
          have fr : ∀ j ∈ ps.take i, L j ≠ b := fun j hj => by
            obtain ⟨zs, z1, _⟩ := hL5.li j hj
            exact ne_of_none z1.at_ na
          obtain ⟨kvs, sdk, hkv⟩ := hLa.di
          have hln : kvs.length < sizeLine := by
            rw [hkv.len, List.length_take]
            exact Nat.lt_of_le_of_lt (show min i ps.length ≤ 5 by omega) (by decide)
          have hdp : DPut Ha d (.str ps[i]) (.ref b) (upd Ha d (.dK (putK kvs (.inr ps[i]) (.ref b)))) := DPut.k (k := (Sum.inr ps[i] : Key)) sdk.at_ hln
          have hadd := hLa.add hnk sb (rs := []) .nil fr sdk.at_
          rw [← tk] at hadd
          have sla := S5.nx sa _ _ sl5
          walk_at "rd"
          refine ⟨Sa.put sdk, fun q o h => (xa q o h).put_ne sdk (hdn q o h), tupT_put sdk.at_ (dk_no _) (sa.tupT ha5), sla.put_ne sdk (ne_of sla.at_ sdk.at_ fun z => by cases z), ?_, hadd, fun k hk => ?_, fun k hk q o h => ?_⟩
          · exact Paired.mapP hg5 fun _ _ z => by
              obtain ⟨c, e, hc⟩ := z.same sa
              exact ⟨c, e, tupT_put sdk.at_ (dk_no _) hc⟩
          · by_cases e : k = ps[i]
            · rw [if_pos e]
            · rw [if_neg e]
              rw [tk] at hk
              exact hr5 k ((List.mem_append.mp hk).resolve_right fun z => e (List.mem_singleton.mp z))
          · by_cases e : k = ps[i]
            · rw [if_pos e]
              exact ne_of_none (x5 q o h).at_ na
            · rw [if_neg e]
              rw [tk] at hk
              exact hf5 k ((List.mem_append.mp hk).resolve_right fun z => e (List.mem_singleton.mp z)) q o h
        · rintro σ H5 ⟨y5, y7, L, ro, rfl, S5, x5, ha5, sl5, hg5, hL5, hr5, hf5⟩
          rw [List.length_map, List.take_length] at hL5 hr5 hf5
          exact hz _ _ ⟨y5, y7, L, ro, rfl, S5, x5, ha5, sl5, hg5, hL5, hr5, hf5⟩
      · rintro _ H5 ⟨y5, y7, L, ro, rfl, S5, x5, ha5, sl5, hg5, hL5, hr5, hf5⟩
        have hmem : ∀ k ∈ ps, ∀ q o, Sep H p q o → q ≠ L k := hf5
        have hlk : ∀ k ∈ ps, l ≠ L k := fun k hk => hf5 k hk l _ hl
        have hslq := sl5.sq (K := K)
        refine Stop.cut (fun σ H' => ∃ (y5 y7 y9 y10 y11 : Option V) (u : Int) (m' : Nat) (ro : Str → List (List Int)), σ = [some (.ref p), some (.ref a), some (.ref l), some (.int pr), some (.int (n : Int)), y5, some (.ref d), y7, some (.int u), y9, y10, y11] ∧ StU H' p m' ∧ m' ≤ m + 90000 ∧ Nx p H H' ∧ Lst K p H' d ps L ro ∧ ∀ k ∈ ps, RowsOk pr n (ro k)) (fun Qz hz => ?_) ?_
        · walk_at "rd"
          refine ⟨⟨_, hslq⟩, ⟨for_it (walk_list (xs := xs)) (fun i σ H' => ∃ (y5 y7 y9 y10 y11 : Option V) (u : Int) (m' : Nat) (ro : Str → List (List Int)), σ = [some (.ref p), some (.ref a), some (.ref l), some (.int pr), some (.int (n : Int)), y5, some (.ref d), y7, some (.int u), y9, y10, y11] ∧ u = 1 + (behind (hs.take i) : Int) ∧ StU H' p m' ∧ m' ≤ m + 1 + 500 * i ∧ Nx p H H' ∧ Sep H' p l (.lst xs) ∧ GrpsV K H' xs hs ∧ Lst K p H' d ps L ro ∧ (∀ k ∈ ps, ∀ r ∈ ro k, RowOk pr n r) ∧ ∀ k ∈ ps, (ro k).length ≤ i)
            ⟨y5, y7, none, none, none, 1, m + 1, ro, rfl, rfl, S5, by omega, x5, sl5, hg5, hL5, fun k hk r hr => (by rw [hr5 k hk] at hr; cases hr), fun k hk => (by rw [hr5 k hk]; exact Nat.zero_le _)⟩ (fun i σ H' _ ⟨_, _, _, _, _, _, _, _, _, _, _, _, _, z, _⟩ => z.sq) ?_ ?_⟩⟩
          · rintro i x _ H6 H6' hi ⟨y5, y7, y9, y10, y11, u, m', ro, rfl, hu, S6, hm6, x6, sl6, hg6, hL6, hro, hrl⟩ ⟨rfl, hx⟩
            obtain ⟨g, hgi, h2⟩ := OS.paired_get hg6 hx
            obtain ⟨b, rfl, hb⟩ := id h2
            have hgm : g ∈ hs := List.mem_of_getElem? hgi
            have hgs := hA.sub g hgm
            have hgn := hn.nd.sublist hgs
            have hgl := hgs.length_le
            have hg1 : 1 ≤ g.length := List.length_pos_iff.mpr (hA.ne g hgm)
            have hi16 : i < hs.length := (List.getElem?_eq_some_iff.mp hgi).1
            have tkb : behind (hs.take (i + 1)) = behind (hs.take i) + (g.length - 1) := by
              unfold behind
              rw [List.take_succ, hgi, List.map_append, List.sum_append]
              simp
            have tkn : behind (hs.take (i + 1)) ≤ behind hs := by
              unfold behind
              rw [← List.take_append_drop (i + 1) hs, List.map_append, List.sum_append, List.take_append_drop]
              omega
            have hbq : SqL K H6' b (g.map V.str) ∨ SqT K H6' b (g.map V.str) := .inr hb
            walk_at "rd"
            intro lg H7 n7 s7 hlg
            have S7 := S6.same s7
            have slg := Sep.of_newU S6 s7 n7 hlg
            have hqg := slg.sq (K := K)
            have hl400 : (g.map V.str).length ≤ 400 := by
              rw [List.length_map]
              omega
            have hm9 : m' ≤ 900000000 := by omega
            have xx7 := x6.trans (S6.nx s7)
            have sl7 := S6.nx s7 _ _ sl6
            have hg7 := hg6.same s7
            have hL7 := hL6.same S6 s7
            walk_at "rd"
            intro o H8 zs m8 n8 S8 h8 x8 so pz
            obtain ⟨os, po, rfl⟩ := map_perm pz g rfl
            have sl8 := x8 _ _ sl7
            have hg8 := GrpsV.nxU S7 x8 hg7
            have hL8 := hL7.nx S7 x8
            have xx8 := xx7.trans x8
            have hoL : ∀ k ∈ ps, o ≠ L k := fun k hk => by
              obtain ⟨zs, z1, _⟩ := hL7.li k hk
              exact (ne_of_none z1.at_ n8).symm
            clear sl7 hg7 hL7 xx7 x8 S7 hqg slg hlg s7 hL6 hg6 sl6 x6 S6 hbq hb h2 hx
            walk_at "rd"
            intro t H9 n9 s9 ht
            have hgt : SqL K H9 t ((goalL n).map V.int) ∨ SqT K H9 t ((goalL n).map V.int) := .inr (SqT.of ht)
            walk_at "rd"
            intro D2 H10 n10 s10 hD2
            have s810 := s9.trans s10
            have S10 := S8.same s810
            have xx10 := xx8.trans (S8.nx s810)
            have so10 := S8.nx s810 _ _ so
            have sl10 := S8.nx s810 _ _ sl8
            have hg10 := hg8.same s810
            have hL10 := hL8.same S8 s810
            have sD10 := Sep.of_newU S8 s810 (s9.free n10) hD2
            have hq10 := so10.sq (K := K)
            have hDq : ∀ q o', Sep H p q o' → q ≠ D2 := fun q o' h => ne_of_none (s9 _ _ (xx8 q o' h).at_) n10
            have hDo : o ≠ D2 := ne_of_none (s9 _ _ so.at_) n10
            have hDL : ∀ k ∈ ps, L k ≠ D2 := fun k hk => by
              obtain ⟨zs, z1, _⟩ := hL8.li k hk
              exact ne_of_none (s9 _ _ z1.at_) n10
            have osn : os.Nodup := po.nodup_iff.mpr hgn
            have osl : os.length = g.length := po.length_eq
            have osp : ∀ k ∈ os, k ∈ ps := fun k hk => hgs.subset (po.mem_iff.mp hk)
            refine Stop.cut (fun σ H' => ∃ (y7 y11 : Option V) (v : Int) (c : Addr) (zs : List Int) (ro : Str → List (List Int)), σ = [some (.ref p), some (.ref a), some (.ref l), some (.int pr), some (.int (n : Int)), some (.ref b), some (.ref d), y7, some (.int v), some (.ref o), some (.ref D2), y11] ∧ v = 1 + (behind (hs.take (i + 1)) : Int) ∧ Pl K p H H' m8 l o c D2 d xs hs os zs ps L ro ∧ Pd p H l o c D2 ps L ∧ RowOk pr n zs ∧ (∀ k ∈ ps, ∀ r ∈ ro k, RowOk pr n r) ∧ ∀ k ∈ ps, (ro k).length ≤ i + (if k ∈ os.drop 1 then 1 else 0)) (fun Qz2 hz2 => ?_) ?_
            · walk_at "rd"
              intro c H11 n11 s11 hc
              rw [cutV1, ← List.map_drop] at hc
              have sc := Sep.of_newU S10 s11 n11 hc
              have hqc := sc.sq (K := K)
              have P11 : Pl K p H H11 m8 l o c D2 d xs hs os (goalL n) ps L ro := ⟨S10.same s11, xx10.trans (S10.nx s11), S10.nx s11 _ _ so10, sc, S10.nx s11 _ _ sD10, S10.nx s11 _ _ sl10, hg10.same s11, hL10.same S10 s11⟩
              have W : Pd p H l o c D2 ps L := ⟨hDq, hmem, hDo, (ne_of_none sD10.at_ n11).symm, hDq l _ hl, hDL, hoL, fun k hk => (by
                obtain ⟨zs, z1, _⟩ := hL10.li k hk
                exact (ne_of_none z1.at_ n11).symm), hlk⟩
              have hrow0 : RowOk pr n (goalL n) := goal_row hpl.1 (by omega)
              walk_at "rd"
              refine ⟨⟨_, hqc⟩, ⟨for_it (walk_list (xs := (os.drop 1).map V.str)) (fun j σ H' => ∃ (y7 y11 : Option V) (v : Int) (zs : List Int) (ro : Str → List (List Int)), σ = [some (.ref p), some (.ref a), some (.ref l), some (.int pr), some (.int (n : Int)), some (.ref b), some (.ref d), y7, some (.int v), some (.ref o), some (.ref D2), y11] ∧ v = u + (j : Int) ∧ Pl K p H H' m8 l o c D2 d xs hs os zs ps L ro ∧ RowOk pr n zs ∧ (∀ k ∈ ps, ∀ r ∈ ro k, RowOk pr n r) ∧ ∀ k ∈ ps, (ro k).length ≤ i + (if k ∈ (os.drop 1).take j then 1 else 0))
                ⟨y7, y11, u, goalL n, ro, rfl, by omega, P11, hrow0, hro, fun k hk => Nat.le_trans (hrl k hk) (Nat.le_add_right _ _)⟩ (fun i σ H' _ ⟨_, _, _, _, _, _, _, z, _⟩ => z.c.sq) ?_ ?_⟩⟩
              · rintro j x _ H12 H12' hj ⟨y7, y11, v, zs, ro, rfl, hv, P12, hrow, hro, hrl⟩ ⟨rfl, hx⟩
                have hj' : j < (os.drop 1).length := by simpa using hj
                obtain rfl := strs_get hx (List.getElem?_eq_getElem hj')
                have hko := List.mem_of_mem_drop (List.getElem_mem hj')
                have hkp := osp _ hko
                have hvn : 0 ≤ v ∧ v < n := by
                  rw [List.length_drop] at hj'
                  omega
                obtain ⟨vn, rfl⟩ : ∃ k : Nat, v = (k : Int) := ⟨v.toNat, by omega⟩
                have el := zeros_flat n
                have hzl := hrow.len
                have hknk : (os.drop 1)[j] ∉ (os.drop 1).take j := fun z => by
                  have := osn.sublist (List.drop_sublist 1 os)
                  rw [← List.take_append_drop j (os.drop 1), List.drop_eq_getElem_cons hj'] at this
                  have := (List.nodup_append.mp this).2.2 _ z _ (.head _)
                  exact this rfl
                have tk : (os.drop 1).take (j + 1) = (os.drop 1).take j ++ [(os.drop 1)[j]] := by rw [List.take_succ, List.getElem?_eq_getElem hj']; rfl
                generalize (os.drop 1)[j] = k at hko hkp hknk tk hx ⊢
                refine ⟨by decide, fun e0 H13 n13 s13 h13 => ?_⟩
                have P13 := P12.same s13
                refine ⟨.int (n : Int), rfl, e0, (n : Int), _, rfl, rfl, h13, by omega, by omega, Nat.le_trans (show 1 * ((n : Nat) : Int).toNat ≤ 1000 by omega) (by decide), fun r H14 n14 s14 hr14 => ?_⟩
                rw [el] at hr14
                have sr := Sep.of_newU P13.S s14 n14 hr14
                have hix : ixN ((List.replicate n (0 : Int)).map V.int).length (vn : Int) = some vn := ix_nat (by rw [List.length_map, List.length_replicate]; omega)
                have P15 := P13.putR n14 s14 sr (rs' := ((List.replicate n (0 : Int)).map V.int).set vn (V.int 1))
                have hr15 : SqL K (upd H14 r (.lst (((List.replicate n (0 : Int)).map V.int).set vn (V.int 1)))) r (((List.replicate n (0 : Int)).map V.int).set vn (V.int 1)) := SqL.of upd_same
                have e15 : ((List.replicate n (0 : Int)).map V.int).set vn (V.int 1) = ((List.replicate n (0 : Int)).set vn 1).map V.int := by rw [List.map_set]
                refine ⟨.ref r, rfl, .int (vn : Int), rfl, r, _, (vn : Int), vn, rfl, rfl, hr14, hix, ?_⟩
                generalize upd H14 r (.lst (((List.replicate n (0 : Int)).map V.int).set vn (V.int 1))) = H15 at *
                have hdg := P15.L.get hkp
                obtain ⟨ys, sx, rv⟩ := P15.L.li _ hkp
                rw [e15] at hr15
                have hqr := hr15
                walk_at "rd"
                refine ⟨.inl ⟨rfl, _, SqL.of sx.at_⟩, ?_⟩
                walk_at "rd"
                intro t H16 n16 s16 ht
                have P16 := P15.same s16
                have hx16 := s16 _ _ sx.at_
                have hlt : ys.length < sizeLine := by
                  have h1 := paired_len rv
                  have h2 := hrl k hkp
                  rw [if_neg hknk] at h2
                  exact Nat.lt_of_le_of_lt (show ys.length ≤ 1000 by omega) (by decide)
                have P17 := P16.app W hkp (r := .ref t) (ns := (List.replicate n (0 : Int)).set vn 1) hx16 ⟨t, rfl, SqT.of ht⟩
                refine ⟨L k, ys, .ref t, rfl, rfl, hx16, hlt, ?_⟩
                generalize upd H16 (L k) (.lst (ys ++ [V.ref t])) = H17 at *
                have hix2 : ixN (zs.map V.int).length (vn : Int) = some vn := ix_nat (by rw [List.length_map]; omega)
                refine ⟨.int pr, rfl, pr, 1, rfl, rfl, .ref D2, rfl, .int (vn : Int), rfl, D2, _, (vn : Int), vn, rfl, rfl, P17.D.at_, hix2, ?_⟩
                have P18 := P17.putD W (zs.set vn (pr - 1))
                have e18 : (zs.map V.int).set vn (V.int (pr - 1)) = (zs.set vn (pr - 1)).map V.int := by rw [List.map_set]
                rw [← e18] at P18
                refine ⟨.int (vn : Int), rfl, (vn : Int), 1, rfl, rfl, ?_⟩
                refine ⟨_, _, (vn : Int) + 1, zs.set vn (pr - 1), _, rfl, by omega, P18, row_set hrow (by omega) (by omega), fun k' hk' z hz' => ?_, fun k' hk' => ?_⟩
                · by_cases e : k' = k
                  · rw [if_pos e] at hz'
                    rcases List.mem_append.mp hz' with hz' | hz'
                    · exact hro k' hk' z hz'
                    · rw [List.mem_singleton.mp hz']
                      exact row_set (row_zero hpl.1) (by decide) (by omega)
                  · rw [if_neg e] at hz'
                    exact hro k' hk' z hz'
                · have h2 := hrl k' hk'
                  rw [tk]
                  by_cases e : k' = k
                  · rw [if_pos e, List.length_append, if_pos (by rw [e]; exact List.mem_append_right _ (.head _))]
                    rw [e, if_neg hknk] at h2
                    rw [e]
                    simp
                    omega
                  · rw [if_neg e]
                    by_cases e2 : k' ∈ (os.drop 1).take j
                    · rw [if_pos e2] at h2
                      rw [if_pos (List.mem_append_left _ e2)]
                      exact h2
                    · rw [if_neg e2] at h2
                      omega
              · rintro σ H12 ⟨y7, y11, v, zs, ro, rfl, hv, P12, hrow, hro, hrl⟩
                rw [List.length_map] at hv hrl
                rw [List.take_length] at hrl
                rw [List.length_drop] at hv
                exact hz2 _ _ ⟨y7, y11, v, c, zs, ro, rfl, by omega, P12, W, hrow, hro, hrl⟩
            · rintro _ H12 ⟨y7, y11, v, c, zs, ro, rfl, hv, P12, W, hrow, hro, hrl⟩
              obtain ⟨k0, rest, hos⟩ : ∃ k0 rest, os = k0 :: rest := by
                cases os with
                | nil => simp at osl; omega
                | cons k0 rest => exact ⟨k0, rest, rfl⟩
              have hkp : k0 ∈ ps := osp k0 (by rw [hos]; exact .head _)
              have hk0 : k0 ∉ os.drop 1 := by
                rw [hos] at osn ⊢
                exact (List.nodup_cons.mp osn).1
              have h0 : atI (os.map V.str) 0 = some (.str k0) := by
                rw [hos]
                exact atI_nat (j := 0) rfl
              have hzl := hrow.len
              have hqo := P12.o.sq (K := K)
              have hdg := P12.L.get hkp
              obtain ⟨ys, sx, rv⟩ := P12.L.li _ hkp
              have hqD := P12.D.sq (K := K)
              walk_at "rd"
              refine ⟨.inl ⟨rfl, _, SqL.of sx.at_⟩, ?_⟩
              walk_at "rd"
              intro t H13 n13 s13 ht
              have P13 := P12.same s13
              have hx13 := s13 _ _ sx.at_
              have hlt : ys.length < sizeLine := by
                have h1 := paired_len rv
                have h2 := hrl k0 hkp
                rw [if_neg hk0] at h2
                exact Nat.lt_of_le_of_lt (show ys.length ≤ 1000 by omega) (by decide)
              have P14 := P13.app W hkp (r := .ref t) (ns := zs) hx13 ⟨t, rfl, SqT.of ht⟩
              walk_at "rd"
              refine ⟨P14.S, by omega, P14.x, P14.l, P14.g, P14.L, fun k hk r hr => ?_, fun k hk => ?_⟩
              · by_cases e : k = k0
                · rw [if_pos e] at hr
                  rcases List.mem_append.mp hr with hr | hr
                  · exact hro k hk r hr
                  · rw [List.mem_singleton.mp hr]
                    exact hrow
                · rw [if_neg e] at hr
                  exact hro k hk r hr
              · have h2 := hrl k hk
                by_cases e : k = k0
                · rw [if_pos e, List.length_append]
                  rw [e, if_neg hk0] at h2
                  rw [e]
                  simp
                  omega
                · rw [if_neg e]
                  split at h2 <;> omega
          · rintro σ H6 ⟨y5, y7, y9, y10, y11, u, m', ro, rfl, hu, S6, hm6, x6, sl6, hg6, hL6, hro, hrl⟩
            refine hz _ _ ⟨y5, y7, y9, y10, y11, u, m', ro, rfl, S6, by omega, x6, hL6, fun k hk => ⟨?_, hro k hk⟩⟩
            have := hrl k hk
            omega
        · rintro _ H6 ⟨y5, y7, y9, y10, y11, u, m', ro, rfl, S6, hm6, x6, hL6, hro⟩
          walk_at "rd"
          refine ⟨by show 3 ≤ sizeLine; decide, fun t H7 n7 s7 ht => ?_⟩
          exact q t H7 m' pr n ps ro (S6.same s7) (by omega) (x6.trans (S6.nx s7)) (List.Perm.refl _) ⟨⟨d, L, SqT.of ht, hL6.same S6 s7⟩, hpp, by omega, by omega, hro⟩
end
end P

set_option Elab.async false
set_option linter.all false
set_option maxRecDepth 100000
set_option maxHeartbeats 4000000
namespace P
open PySem PySem.Spec PyProof.Rows L2 OS
/-! short ways: "rd" opens a reading as far as equations go; "sep" finds what stands apart from the state; "sq" a list that is read; "nx" two heaps -/
local macro_rules | `(tactic| walk_at "sep") => `(tactic| first | assumption | (refine (by assumption : Nx _ _ _) _ _ ?_; walk_at "sep"))
local macro_rules | `(tactic| walk_at "sq") => `(tactic| first | assumption | exact .inl (.inl (by assumption)) | exact Sep.sq (by walk_at "sep") | exact Sep.st (by walk_at "sep") | exact .inl (.inl upd_same))
local macro_rules | `(tactic| walk_at "rd") => `(tactic| repeat (first
  | refine And.intro rfl ?_
  | apply Exists.intro
  | refine And.intro (by assumption) ?_
  | refine And.intro (DrawOk.mk (by omega) (by omega) (by omega)) ?_
  | refine And.intro at0 ?_
  | refine And.intro ⟨_, rfl⟩ ?_
  | refine And.intro (by walk_at "sq") ?_
  | refine And.intro (Or.inl (by walk_at "sq")) ?_
  | refine And.intro (Or.inr (by walk_at "sq")) ?_
  | refine And.intro (by omega) ?_))

section
variable {P : Program} {w : World} {K : PySem.W.Frag} {mg : Str → Option Value} {base : Heap}
/-- _law_family(state, names) -/
def spLFamily (K : PySem.W.Frag) : Sp := fun vs H Q _ => ∃ (p a : Addr) (m : Nat) (ps : List Str), vs = [.ref p, .ref a] ∧ StU H p m ∧ m ≤ 800000000 ∧ SqT K H a (ps.map V.str) ∧ NamesOk ps ∧
  ∀ r H' ys hs m', StU H' p m' → m' ≤ m + 1000 → Nx p H H' → Sep H' p r (.lst ys) → GrpsV K H' ys hs → Anti ps hs → Q (.ref r) H'
theorem ok_law_family (T : Txt K mg) : FnOk P w K mg base CX0 5 T.f_law_family T.fd_law_family ["_law_state", "_law_names"] (spLFamily K) := by
  refine T.F_law_family.ok sc_law_family (fun vs H Q E h => ?_) (fun cdv A outer s H vs Q E hr h => ?_)
  · obtain ⟨p, a, m, ps, rfl, _⟩ := h
    rfl
  · obtain ⟨p, a, m, ps, rfl, S, hm, ha, hn, q⟩ := h
    refine ⟨_, (pss_cons (ps_set (i := 2) sc_law_family.nd rfl (Or.inr rfl) (pe_slice sl_listO (pe_call (ok_law_groups T) (hr.mono (by decide)) (by rfl) T.g_law_groups T.F_law_groups.kp T.b_law_groups .nil pass0 (pa_cons (pv 1) pa_nil)) (po_some pe_int) po_none))
    (pss_cons (ps_set (i := 3) sc_law_family.nd rfl (Or.inl rfl) (pe_call (ok_law_take T) (hr.mono (by decide)) (by rfl) T.g_law_take T.F_law_take.kp T.b_law_take .nil pass0 (pa_cons (pv 0) (pa_cons pe_int pa_nil))))
    (pss_cons (ps_if (pt_cmpR op_eq (pv 3) pe_int (nomark _))
      (pss_cons (ps_set (i := 4) sc_law_family.nd rfl (Or.inr rfl) (pe_op op_add pe_int (pe_call (ok_law_take T) (hr.mono (by decide)) (by rfl) T.g_law_take T.F_law_take.kp T.b_law_take .nil pass0 (pa_cons (pv 0) (pa_cons (pe_callB (id := "len") (r := rLenS K) call_lenS (by rfl) T.n_len PySem.boot_len (pa_cons (pv 1) pa_nil)) pa_nil)))))
    (pss_one (ps_ret (pe_call (ok_law_least T) (hr.mono (by decide)) (by rfl) T.g_law_least T.F_law_least.kp T.b_law_least .nil pass0 (pa_cons (pe_lc (own := [("_law_group", 5)]) (g := gName 5) rfl sc_law_family.nd (pi_list (pv 2)) (blkOk_by (own := [("_law_group", 5)]) (N := N_law_family) (sc := defScope s_law_family) (by decide +kernel)) (fun _ _ _ _ _ => (pg_name (i := 5) sc_law_family.nd rfl (Or.inl rfl))) (fun _ _ _ _ _ => (pts_one (pt_cmpR op_eq (pe_callB (id := "len") (r := rLenS K) call_lenS (by rfl) T.n_len PySem.boot_len (pa_cons (pv 5) pa_nil)) (pv 4) (nomark _)))) (fun _ _ _ _ _ => (pv 5))) pa_nil))))) pss_nil)
    (pss_cons (ps_if (PW.pt (pw_and (pt_cmpR op_eq (pv 3) pe_int (nomark _)) (pw_and1 (pt_cmpR op_gt (pe_callB (id := "len") (r := rLenS K) call_lenS (by rfl) T.n_len PySem.boot_len (pa_cons (pv 1) pa_nil)) pe_int (nomark _)))))
      (pss_cons (ps_setLc (i := 6) (own := [("_law_group", 5)]) (g := gName 5) rfl sc_law_family.nd rfl rfl (sw_true rfl rfl rfl (by decide +kernel)) (pi_list (pv 2)) (blkOk_by (own := [("_law_group", 5)]) (N := N_law_family) (sc := defScope s_law_family) (by decide +kernel)) (fun _ _ _ _ _ => (pg_name (i := 5) sc_law_family.nd rfl (Or.inl rfl))) (fun _ _ _ _ _ => (pts_one (pt_cmpR op_eq (pe_callB (id := "len") (r := rLenS K) call_lenS (by rfl) T.n_len PySem.boot_len (pa_cons (pv 5) pa_nil)) pe_int (nomark _)))) (fun _ _ _ _ _ => (pv 5)))
    (pss_cons (ps_set (i := 7) sc_law_family.nd rfl (Or.inl rfl) (pe_slice sl_listO (pe_call (ok_law_shuffled T) (hr.mono (by decide)) (by rfl) T.g_law_shuffled T.F_law_shuffled.kp T.b_law_shuffled .nil pass0 (pa_cons (pv 0) (pa_cons (pv 6) pa_nil))) po_none (po_some (pe_op op_add pe_int (pe_call (ok_law_take T) (hr.mono (by decide)) (by rfl) T.g_law_take T.F_law_take.kp T.b_law_take .nil pass0 (pa_cons (pv 0) (pa_cons (pe_callB (id := "len") (r := rLenS K) call_lenS (by rfl) T.n_len PySem.boot_len (pa_cons (pv 6) pa_nil)) pa_nil)))))))
    (pss_one (ps_ret (pe_call (ok_law_least T) (hr.mono (by decide)) (by rfl) T.g_law_least T.F_law_least.kp T.b_law_least .nil pass0 (pa_cons (pv 7) pa_nil)))))) pss_nil)
    (pss_cons (ps_set (i := 4) sc_law_family.nd rfl (Or.inr rfl) (pe_op op_add pe_int (pe_call (ok_law_take T) (hr.mono (by decide)) (by rfl) T.g_law_take T.F_law_take.kp T.b_law_take .nil pass0 (pa_cons (pv 0) (pa_cons (pe_ix (r := rIxL K) ix_list (pe_lstO (pa_cons pe_int (pa_cons pe_int (pa_cons pe_int pa_nil)))) (pe_call (ok_law_take T) (hr.mono (by decide)) (by rfl) T.g_law_take T.F_law_take.kp T.b_law_take .nil pass0 (pa_cons (pv 0) (pa_cons pe_int pa_nil))) (fun _ _ => rfl)) pa_nil)))))
    (pss_cons (ps_setLc (i := 7) (own := [("_law_turn", 8)]) (g := gName 8) (tt := tYes) rfl sc_law_family.nd rfl rfl (sw_true rfl rfl rfl (by decide +kernel)) (pi_range1 rfl T.n_range (pa_cons (pv 4) pa_nil)) (blkOk_by (own := [("_law_turn", 8)]) (N := N_law_family) (sc := defScope s_law_family) (by decide +kernel)) (fun _ _ _ _ _ => (pg_name (i := 8) sc_law_family.nd rfl (Or.inl rfl))) (fun _ _ _ _ _ => pts_nil) (fun _ _ _ _ _ => (pe_ix (r := rIxL K) ix_list (pv 2) (pe_call (ok_law_take T) (hr.mono (by decide)) (by rfl) T.g_law_take T.F_law_take.kp T.b_law_take .nil pass0 (pa_cons (pv 0) (pa_cons (pe_callB (id := "len") (r := rLenS K) call_lenS (by rfl) T.n_len PySem.boot_len (pa_cons (pv 2) pa_nil)) pa_nil))) (fun _ _ => rfl))))
    (pss_cons (ps_if (pt_cmpR op_eq (pv 3) pe_int (nomark _))
      (pss_one (ps_ret (pe_call (ok_law_turned T) (hr.mono (by decide)) (by rfl) T.g_law_turned T.F_law_turned.kp T.b_law_turned .nil pass0 (pa_cons (pv 1) (pa_cons (pe_call (ok_law_least T) (hr.mono (by decide)) (by rfl) T.g_law_least T.F_law_least.kp T.b_law_least .nil pass0 (pa_cons (pv 7) pa_nil)) pa_nil))))) pss_nil)
    (pss_one (ps_ret (pe_call (ok_law_least T) (hr.mono (by decide)) (by rfl) T.g_law_least T.F_law_least.kp T.b_law_least .nil pass0 (pa_cons (pv 7) pa_nil))))))))))), ?_⟩
    have hp8 : ps.length ≤ 8 := Nat.le_trans hn.five (by decide)
    have hp5 := hn.five
    have hp1 := hn.one
    have hnd := hn.nd
    walk_at "rd"
    intro g1 H1 xs n1 s1 hg1 hx1
    walk_at "rd"
    intro g H2 n2 s2 hg
    have hxl := paired_len hx1
    rw [cutV1] at hg
    have S12 := s1.trans s2
    have S2 := S.same S12
    have x2 : Nx p H H2 := S.nx S12
    have hg2 : Sep H2 p g (.lst (xs.drop 1)) := Sep.of_newU S S12 (s1.free n2) hg
    have hgv2 : GrpsV K H2 (xs.drop 1) ((allG ps).drop 1) := grps_drop 1 (hx1.same s2)
    have ha2 := S12.tupT ha
    have gsub : ∀ z ∈ (allG ps).drop 1, z.Sublist ps ∧ z ≠ [] := fun z hz => ⟨mem_drop_sub hz, allG_tail hnd z hz⟩
    have gnd : ((allG ps).drop 1).Nodup := (nodup_allG hnd).sublist (List.drop_sublist _ _)
    have gne : 1 ≤ ((allG ps).drop 1).length := (allG_drop_len hp1 hp8).1
    have glen := subs_len gnd (fun z hz => (gsub z hz).1) hp5
    have gtwo : ∀ k : Int, 1 ≤ k → k ≤ ps.length → ((allG ps).drop 1).filter (fun g => decide ((g.length : Int) = k)) ≠ [] := fun k h1 h2 => some_of_len h1 h2
    clear hx1 hg1 n1 n2 s1 s2 S12 hg S ha
    have hyl := paired_len hgv2
    generalize xs.drop 1 = ys at hg2 hgv2 hyl
    generalize (allG ps).drop 1 = gs at hgv2 gsub gnd gne glen hyl gtwo
    have gok : ∀ fs : List (List Str), (∀ z ∈ fs, z ∈ gs) → ∀ z ∈ fs, z ≠ [] ∧ z.length ≤ 8 := fun fs h z hz => ⟨(gsub z (h z hz)).2, by have := (gsub z (h z hz)).1.length_le; omega⟩
    have hlm : (ps.map V.str).length = ps.length := List.length_map _
    -- what every way ends with
    have fin : ∀ (H5 : Hp) (t : Addr) (H6 : Hp) (ws : List V) (fs hs : List (List Str)) (m5 : Nat), StU H5 p m5 → m5 ≤ m + 1000 → Nx p H H5 → H5 t = none → Same H5 H6 → H6 t = some (.lst ws) → GrpsV K H6 ws hs → LeastOf fs hs → (∀ z ∈ fs, z ∈ gs) → Q (.ref t) H6 := fun H5 t H6 ws fs hs m5 S5 hm5 x5 n6 s6 ht hw hL hf =>
      q t H6 ws hs m5 (S5.same s6) hm5 (x5.trans (S5.nx s6)) (Sep.of_newU S5 s6 n6 ht) hw (hL.anti fun z hz => gsub z (hf z hz))
    walk_at "rd"
    intro pl H3 p0 p1 S3 x3
    have hg3 := x3 _ _ hg2
    have hgv3 := GrpsV.nxU S2 x3 hgv2
    have ha3 := tupT_nxU S2 x3 ha2
    have xx3 := x2.trans x3
    clear hg2 hgv2 ha2 x2 x3 S2
    have hq3 : SqL K H3 g ys := SqL.of hg3.at_
    walk_at "rd"
    refine ite2 (fun e1 => ?_) (fun e1 => ?_)
    · walk_at "rd"
      intro r4 H4 h40 h41 S4 x4
      have hl4 := x4 _ _ hg3
      have hys4 := GrpsV.nxU S3 x4 hgv3
      have xx4 := xx3.trans x4
      walk_at "rd"
      refine ⟨⟨_, hl4.sq⟩, fun D hD => ?_⟩
      refine lc_rel (walk_list (xs := ys)) (xs := gs) hyl.symm (by omega) (fun g => decide ((g.length : Int) = 1 + r4)) (fun H g v => GrpV K H v g) hD (fun H H' g v acc _ hDa k h => h.but hDa k) (fun H s => s.seq hl4.sq) ?_ ?_
      · intro j g v H5 H6 Qk Qn hgj sm hy hkk hn
        obtain ⟨rfl, hv⟩ := hy
        obtain ⟨g', h1, h2⟩ := OS.paired_get hys4 hv
        obtain rfl : g' = g := Option.some.inj (h1.symm.trans hgj)
        have h3 := h2.same sm
        obtain ⟨b, rfl, hb⟩ := id h3
        walk_at "rd"
        refine ite2 (fun e => ?_) (fun e => ?_)
        · have e' : decide ((g'.length : Int) = 1 + r4) = true := by
            have := V.int.inj (of_decide_eq_true e)
            rw [List.length_map] at this
            exact decide_eq_true this
          walk_at "rd"
          exact hkk e' _ _ h3 (Same.refl _)
        · have e' : decide ((g'.length : Int) = 1 + r4) = false := by
            refine decide_eq_false fun z => e (decide_eq_true ?_)
            rw [List.length_map, z]
          exact hn e' _ (Same.refl _)
      · intro H5 acc sm hD5 pr
        have pr' : GrpsV K H5 acc (gs.filter fun g => decide ((g.length : Int) = 1 + r4)) := paired_swap pr
        have hf : ∀ z ∈ gs.filter (fun g => decide ((g.length : Int) = 1 + r4)), z ∈ gs := fun z hz => (List.mem_filter.mp hz).1
        have hfl : (gs.filter fun g => decide ((g.length : Int) = 1 + r4)).length < 64 := Nat.lt_of_le_of_lt (List.length_filter_le _ _) (by omega)
        have hok := gok _ hf
        have hq5 : SqL K H5 D acc := SqL.of hD5
        walk_at "rd"
        intro t H6 ws hs n6 s6 ht hw hL
        exact fin H5 t H6 ws _ hs (m + 1 + 1) (S4.same sm) (by omega) (xx4.trans (S4.nx sm)) n6 s6 ht hw hL hf
    · walk_at "rd"
      refine ite2 (fun e2 => ?_) (fun e2 => ?_)
      · walk_at "rd"
        refine ite2 (fun e3 => ?_) (fun e3 => ?_)
        · have hlen2 : (2 : Int) ≤ ps.length := by
            have := of_decide_eq_true e3
            rw [List.length_map] at this
            omega
          walk_at "rd"
          refine ⟨⟨_, hq3⟩, fun D hD => ?_⟩
          refine lc_rel (walk_list (xs := ys)) (xs := gs) hyl.symm (by omega) (fun g => decide ((g.length : Int) = 2)) (fun H g v => GrpV K H v g) hD (fun H H' g v acc _ hDa k h => h.but hDa k) (fun H s => s.seq hq3) ?_ ?_
          · intro j g v H5 H6 Qk Qn hgj sm hy hkk hn
            obtain ⟨rfl, hv⟩ := hy
            obtain ⟨g', h1, h2⟩ := OS.paired_get hgv3 hv
            obtain rfl : g' = g := Option.some.inj (h1.symm.trans hgj)
            have h3 := h2.same sm
            obtain ⟨b, rfl, hb⟩ := id h3
            walk_at "rd"
            refine ite2 (fun e => ?_) (fun e => ?_)
            · have e' : decide ((g'.length : Int) = 2) = true := by
                have := V.int.inj (of_decide_eq_true e)
                rw [List.length_map] at this
                exact decide_eq_true this
              walk_at "rd"
              exact hkk e' _ _ h3 (Same.refl _)
            · have e' : decide ((g'.length : Int) = 2) = false := by
                refine decide_eq_false fun z => e (decide_eq_true ?_)
                rw [List.length_map, z]
              exact hn e' _ (Same.refl _)
          · intro H5 acc sm hD5 pr
            have pr' : GrpsV K H5 acc (gs.filter fun g => decide ((g.length : Int) = 2)) := paired_swap pr
            have hf : ∀ z ∈ gs.filter (fun g => decide ((g.length : Int) = 2)), z ∈ gs := fun z hz => (List.mem_filter.mp hz).1
            have hfl : (gs.filter fun g => decide ((g.length : Int) = 2)).length ≤ gs.length := List.length_filter_le _ _
            have hfne := gtwo 2 (by decide) hlen2
            generalize gs.filter (fun g => decide ((g.length : Int) = 2)) = fs at pr' hf hfl hfne
            have hal := paired_len pr'
            have hfp : 1 ≤ fs.length := List.length_pos_iff.mpr hfne
            have hal4 : acc.length ≤ 400 := by omega
            have hm1 : m + 1 ≤ 900000000 := by omega
            have S5 := S3.same sm
            have x5 := S3.nx sm
            have sD5 : Sep H5 p D (.lst acc) := Sep.of_newU S3 sm hD hD5
            have hq5 : SqL K H5 D acc := SqL.of hD5
            have xx5 := xx3.trans x5
            walk_at "rd"
            intro b H6 bs m6 n6 S6 h6 x6 qb pm
            obtain ⟨fs2, pf, hbs⟩ := grps_perm (GrpsV.nxU S5 x6 pr') pm
            have sD6 := x6 _ _ sD5
            have hqD : SqL K H6 D acc := SqL.of sD6.at_
            walk_at "rd"
            intro r7 H7 h70 h71 S7 x7
            have qb7 := x7 _ _ qb
            have hbs7 := GrpsV.nxU S6 x7 hbs
            have hqb : SqL K H7 b bs := SqL.of qb7.at_
            walk_at "rd"
            intro c H8 n8 s8 hc
            obtain ⟨k, ek⟩ : ∃ k : Nat, 1 + r7 = (k : Int) := ⟨(1 + r7).toNat, by omega⟩
            rw [ek, cutV_take] at hc
            have hw8 := (grps_take k hbs7).same s8
            have hf2 : ∀ z ∈ fs2.take k, z ∈ gs := fun z hz => hf z (pf.mem_iff.mp (List.mem_of_mem_take hz))
            have hfl2 : (fs2.take k).length < 64 := by
              rw [List.length_take, pf.length_eq]
              omega
            have hok := gok _ hf2
            have hq8 : SqL K H8 c (bs.take k) := SqL.of hc
            have xx7 := (xx5.trans x6).trans x7
            walk_at "rd"
            intro t H9 ws hs n9 s9 ht hw hL
            exact fin H8 t H9 ws _ hs (m6 + 1) (S7.same s8) (by omega) (xx7.trans (S7.nx s8)) n9 s9 ht hw hL hf2
        · clear e3
          walk_at "rd"
          refine ⟨by show 3 ≤ sizeLine; decide, fun l5 H5 n5 s5 hl5 => ?_⟩
          have S5 := S3.same s5
          have x5 := S3.nx s5
          have hl5' := Sep.of_newU S3 s5 n5 hl5
          have xx5 := xx3.trans x5
          have hl25 := x5 _ _ hg3
          have hys5 := hgv3.same s5
          have ha5 := s5.tupT ha3
          clear S3 x5 hg3 hgv3 ha3 hl5 s5 n5 xx3 hq3
          walk_at "rd"
          intro r6 H6 h60 h61 S6 x6
          have hl6' := x6 _ _ hl5'
          have hl26 := x6 _ _ hl25
          have hys6 := GrpsV.nxU S5 x6 hys5
          have ha6 := tupT_nxU S5 x6 ha5
          have xx6 := xx5.trans x6
          clear S5 x6 hl5' hl25 hys5 ha5 xx5
          obtain ⟨sv, hat6, hsv⟩ := at_pick (l := [V.int 2, V.int 4, V.int 8]) h60 (by simpa using h61)
          obtain ⟨st, rfl, hst0, hst1⟩ : ∃ k : Int, sv = .int k ∧ 2 ≤ k ∧ k ≤ 8 := by
            simp only [List.mem_cons, List.not_mem_nil, or_false] at hsv
            rcases hsv with rfl | rfl | rfl
            all_goals exact ⟨_, rfl, by decide, by decide⟩
          have hq6 := hl6'.sq (K := K)
          walk_at "rd"
          intro r7 H7 h70 h71 S7 x7
          have hl27 := x7 _ _ hl26
          have hys7 := GrpsV.nxU S6 x7 hys6
          have ha7 := tupT_nxU S6 x7 ha6
          have xx7 := xx6.trans x7
          clear S6 x7 hl6' hl26 hys6 ha6 xx6 hq6
          walk_at "rd"
          intro D hD
          have hgn : ∀ i g v, gs[i]? = some g → ys[i]? = some v → GrpN K p H7 v g := fun i g v h1 h2 => by
            obtain ⟨g', h3, h4⟩ := OS.paired_get hys7 h2
            obtain rfl : g' = g := Option.some.inj (h3.symm.trans h1)
            exact GrpN.of S7 h4
          have hD7 : Sep (upd H7 D (.lst [])) p D (.lst []) := S7.new hD
          refine lc_dru walk_range (by omega) p _ 1 (fun H y => ∃ g, GrpN K p H y g ∧ g ∈ gs) S7 hD (fun H H' y acc sD k h => ?_) (fun _ _ => trivial) ?_ ?_
          · obtain ⟨g, h1, h2⟩ := h
            exact ⟨g, h1.kept sD k, h2⟩
          · intro i m2 x H8 H9 Qk hi S8 hm2 x8 hDx hy hk
            obtain ⟨rfl, rfl⟩ := hy
            have hl28 := x8 _ _ hl27
            have hys8 := GrpsV.nxU S7 x8 hys7
            have hq8 := hl28.sq (K := K)
            walk_at "rd"
            intro r9 H9 h90 h91 S9 x9
            have hl29 := x9 _ _ hl28
            have hys9 := GrpsV.nxU S8 x9 hys8
            have hq9 := hl29.sq (K := K)
            obtain ⟨v, hv, hvm⟩ := at_pick (l := ys) h90 (by omega)
            have hix : ys[r9.toNat]? = some v := by
              obtain ⟨n, rfl⟩ := Int.eq_ofNat_of_zero_le h90
              obtain ⟨u, hu⟩ : ∃ u, ys[n]? = some u := ⟨_, List.getElem?_eq_getElem (by omega)⟩
              have := (atI_nat hu).symm.trans hv
              rw [← this]
              exact hu
            obtain ⟨g, hg1, hg2⟩ := OS.paired_get hys9 hix
            walk_at "rd"
            exact hk v H9 _ ⟨g, GrpN.of S9 hg2, List.mem_of_getElem? hg1⟩ S9 (Nat.le_refl _) x9
          · intro H8 m8 acc S8 hm8 x8 sD hlen hR
            obtain ⟨rows, hrows, hf⟩ : ∃ rows : List (List Str), GrpsV K H8 acc rows ∧ ∀ g ∈ rows, g ∈ gs := by
              clear hlen sD hm8
              induction acc with
              | nil => exact ⟨[], .nil, fun _ h => nomatch h⟩
              | cons y r ih =>
                obtain ⟨g, h1, h2⟩ := hR y (.head _)
                obtain ⟨rows, h3, h4⟩ := ih fun y hy => hR y (.tail _ hy)
                refine ⟨g :: rows, .cons h1.grp h3, fun g' hg' => ?_⟩
                rcases List.mem_cons.mp hg' with rfl | hg'
                · exact h2
                · exact h4 g' hg'
            have hrl := paired_len hrows
            have hrl2 : rows.length < 64 := by rw [← hrl, hlen]; omega
            have hrn : rows ≠ [] := fun z => by
              rw [z, hlen] at hrl
              simp at hrl
              omega
            have ha8 := tupT_nxU S7 x8 ha7
            have xx8 := xx7.trans x8
            have hok := gok _ hf
            have hq8 := sD.sq (K := K)
            walk_at "rd"
            refine ite2 (fun e7 => ?_) (fun e7 => ?_)
            · walk_at "rd"
              intro t H9 ws hs n9 s9 ht hw hL
              have hne := hL.some hnd (fun z hz => (gsub z (hf z hz)).1) hrn
              have hA := hL.anti fun z hz => gsub z (hf z hz)
              have ha9 := s9.tupT ha8
              have hq9 : SqL K H9 t ws := SqL.of ht
              walk_at "rd"
              intro u H10 ws2 hs2 n10 s10 hu hw2 hA2
              have s810 := s9.trans s10
              exact q u H10 ws2 hs2 m8 (S8.same s810) (by omega) (xx8.trans (S8.nx s810)) (Sep.of_newU S8 s810 (s9.free n10) hu) hw2 hA2
            · walk_at "rd"
              intro t H9 ws hs n9 s9 ht hw hL
              exact fin H8 t H9 ws _ hs m8 S8 (by omega) xx8 n9 s9 ht hw hL hf
      · clear e2
        walk_at "rd"
        refine ⟨by show 3 ≤ sizeLine; decide, fun l5 H5 n5 s5 hl5 => ?_⟩
        have S5 := S3.same s5
        have x5 := S3.nx s5
        have hl5' := Sep.of_newU S3 s5 n5 hl5
        have xx5 := xx3.trans x5
        have hl25 := x5 _ _ hg3
        have hys5 := hgv3.same s5
        have ha5 := s5.tupT ha3
        clear S3 x5 hg3 hgv3 ha3 hl5 s5 n5 xx3 hq3
        walk_at "rd"
        intro r6 H6 h60 h61 S6 x6
        have hl6' := x6 _ _ hl5'
        have hl26 := x6 _ _ hl25
        have hys6 := GrpsV.nxU S5 x6 hys5
        have ha6 := tupT_nxU S5 x6 ha5
        have xx6 := xx5.trans x6
        clear S5 x6 hl5' hl25 hys5 ha5 xx5
        obtain ⟨sv, hat6, hsv⟩ := at_pick (l := [V.int 2, V.int 4, V.int 8]) h60 (by simpa using h61)
        obtain ⟨st, rfl, hst0, hst1⟩ : ∃ k : Int, sv = .int k ∧ 2 ≤ k ∧ k ≤ 8 := by
          simp only [List.mem_cons, List.not_mem_nil, or_false] at hsv
          rcases hsv with rfl | rfl | rfl
          all_goals exact ⟨_, rfl, by decide, by decide⟩
        have hq6 := hl6'.sq (K := K)
        walk_at "rd"
        intro r7 H7 h70 h71 S7 x7
        have hl27 := x7 _ _ hl26
        have hys7 := GrpsV.nxU S6 x7 hys6
        have ha7 := tupT_nxU S6 x7 ha6
        have xx7 := xx6.trans x7
        clear S6 x7 hl6' hl26 hys6 ha6 xx6 hq6
        walk_at "rd"
        intro D hD
        have hgn : ∀ i g v, gs[i]? = some g → ys[i]? = some v → GrpN K p H7 v g := fun i g v h1 h2 => by
          obtain ⟨g', h3, h4⟩ := OS.paired_get hys7 h2
          obtain rfl : g' = g := Option.some.inj (h3.symm.trans h1)
          exact GrpN.of S7 h4
        have hD7 : Sep (upd H7 D (.lst [])) p D (.lst []) := S7.new hD
        refine lc_dru walk_range (by omega) p _ 1 (fun H y => ∃ g, GrpN K p H y g ∧ g ∈ gs) S7 hD (fun H H' y acc sD k h => ?_) (fun _ _ => trivial) ?_ ?_
        · obtain ⟨g, h1, h2⟩ := h
          exact ⟨g, h1.kept sD k, h2⟩
        · intro i m2 x H8 H9 Qk hi S8 hm2 x8 hDx hy hk
          obtain ⟨rfl, rfl⟩ := hy
          have hl28 := x8 _ _ hl27
          have hys8 := GrpsV.nxU S7 x8 hys7
          have hq8 := hl28.sq (K := K)
          walk_at "rd"
          intro r9 H9 h90 h91 S9 x9
          have hl29 := x9 _ _ hl28
          have hys9 := GrpsV.nxU S8 x9 hys8
          have hq9 := hl29.sq (K := K)
          obtain ⟨v, hv, hvm⟩ := at_pick (l := ys) h90 (by omega)
          have hix : ys[r9.toNat]? = some v := by
            obtain ⟨n, rfl⟩ := Int.eq_ofNat_of_zero_le h90
            obtain ⟨u, hu⟩ : ∃ u, ys[n]? = some u := ⟨_, List.getElem?_eq_getElem (by omega)⟩
            have := (atI_nat hu).symm.trans hv
            rw [← this]
            exact hu
          obtain ⟨g, hg1, hg2⟩ := OS.paired_get hys9 hix
          walk_at "rd"
          exact hk v H9 _ ⟨g, GrpN.of S9 hg2, List.mem_of_getElem? hg1⟩ S9 (Nat.le_refl _) x9
        · intro H8 m8 acc S8 hm8 x8 sD hlen hR
          obtain ⟨rows, hrows, hf⟩ : ∃ rows : List (List Str), GrpsV K H8 acc rows ∧ ∀ g ∈ rows, g ∈ gs := by
            clear hlen sD hm8
            induction acc with
            | nil => exact ⟨[], .nil, fun _ h => nomatch h⟩
            | cons y r ih =>
              obtain ⟨g, h1, h2⟩ := hR y (.head _)
              obtain ⟨rows, h3, h4⟩ := ih fun y hy => hR y (.tail _ hy)
              refine ⟨g :: rows, .cons h1.grp h3, fun g' hg' => ?_⟩
              rcases List.mem_cons.mp hg' with rfl | hg'
              · exact h2
              · exact h4 g' hg'
          have hrl := paired_len hrows
          have hrl2 : rows.length < 64 := by rw [← hrl, hlen]; omega
          have hrn : rows ≠ [] := fun z => by
            rw [z, hlen] at hrl
            simp at hrl
            omega
          have ha8 := tupT_nxU S7 x8 ha7
          have xx8 := xx7.trans x8
          have hok := gok _ hf
          have hq8 := sD.sq (K := K)
          walk_at "rd"
          refine ite2 (fun e7 => ?_) (fun e7 => ?_)
          · walk_at "rd"
            intro t H9 ws hs n9 s9 ht hw hL
            have hne := hL.some hnd (fun z hz => (gsub z (hf z hz)).1) hrn
            have hA := hL.anti fun z hz => gsub z (hf z hz)
            have ha9 := s9.tupT ha8
            have hq9 : SqL K H9 t ws := SqL.of ht
            walk_at "rd"
            intro u H10 ws2 hs2 n10 s10 hu hw2 hA2
            have s810 := s9.trans s10
            exact q u H10 ws2 hs2 m8 (S8.same s810) (by omega) (xx8.trans (S8.nx s810)) (Sep.of_newU S8 s810 (s9.free n10) hu) hw2 hA2
          · walk_at "rd"
            intro t H9 ws hs n9 s9 ht hw hL
            exact fin H8 t H9 ws _ hs m8 S8 (by omega) xx8 n9 s9 ht hw hL hf
end
end P

set_option Elab.async false
set_option linter.all false
set_option maxRecDepth 100000
set_option maxHeartbeats 4000000
namespace P
open PySem PySem.Spec PyProof.Rows L2 OS
/-! short ways: "rd" opens a reading as far as equations go; "sep" finds what stands apart from the state; "sq" a list that is read; "nx" two heaps -/
local macro_rules | `(tactic| walk_at "sep") => `(tactic| first | assumption | (refine (by assumption : Nx _ _ _) _ _ ?_; walk_at "sep"))
local macro_rules | `(tactic| walk_at "sq") => `(tactic| first | assumption | exact .inl (.inl (by assumption)) | exact Sep.sq (by walk_at "sep") | exact Sep.st (by walk_at "sep") | exact .inl (.inl upd_same))
local macro_rules | `(tactic| walk_at "rd") => `(tactic| repeat (first
  | refine And.intro rfl ?_
  | apply Exists.intro
  | refine And.intro (by assumption) ?_
  | refine And.intro (DrawOk.mk (by omega) (by omega) (by omega)) ?_
  | refine And.intro at0 ?_
  | refine And.intro ⟨_, rfl⟩ ?_
  | refine And.intro (by walk_at "sq") ?_
  | refine And.intro (Or.inl (by walk_at "sq")) ?_
  | refine And.intro (Or.inr (by walk_at "sq")) ?_
  | refine And.intro (by omega) ?_))

section
variable {P : Program} {w : World} {K : PySem.W.Frag} {mg : Str → Option Value} {base : Heap}
/-- _law_model(state, names) -/
def spLModel (K : PySem.W.Frag) : Sp := fun vs H Q _ => ∃ (p a : Addr) (m : Nat) (ps : List Str), vs = [.ref p, .ref a] ∧ StU H p m ∧ m ≤ 700000000 ∧ SqT K H a (ps.map V.str) ∧ NamesOk ps ∧
  ∀ t H' m' pr n ks ro, StU H' p m' → m' ≤ m + 200000 → Nx p H H' → ks.Perm ps → ModAt K p H' t pr n ks ro → Q (.ref t) H'
theorem prime_pick2 {i : Int} (h0 : 0 ≤ i) (h1 : i < 2) : ∃ pr : Int, atI [V.int 7, V.int 11] i = some (.int pr) ∧ isPr (.int pr) = true := by
  obtain e | e : i = 0 ∨ i = 1 := by omega
  all_goals (subst e; exact ⟨_, rfl, by decide +kernel⟩)
theorem ok_law_model (T : Txt K mg) : FnOk P w K mg base CX0 7 T.f_law_model T.fd_law_model ["_law_state", "_law_names"] (spLModel K) := by
  refine T.F_law_model.ok sc_law_model (fun vs H Q E h => ?_) (fun cdv A outer s H vs Q E hr h => ?_)
  · obtain ⟨p, a, m, ps, rfl, _⟩ := h
    rfl
  · obtain ⟨p, a, m, ps, rfl, S, hm, ha, hn, q⟩ := h
    refine ⟨_, (pss_cons (ps_set (i := 2) sc_law_model.nd rfl (Or.inl rfl) (pe_call (ok_law_take T) (hr.mono (by decide)) (by rfl) T.g_law_take T.F_law_take.kp T.b_law_take .nil pass0 (pa_cons (pv 0) (pa_cons pe_int pa_nil))))
    (pss_cons (ps_if (pt_cmpR op_eq (pv 2) pe_int (nomark _))
      (pss_one (ps_ret (pe_call (ok_law_plain_lists T) (hr.mono (by decide)) (by rfl) T.g_law_plain_lists T.F_law_plain_lists.kp T.b_law_plain_lists .nil pass0 (pa_cons (pv 0) (pa_cons (pv 1) (pa_cons (pe_call (ok_law_family T) (hr.mono (by decide)) (by rfl) T.g_law_family T.F_law_family.kp T.b_law_family .nil pass0 (pa_cons (pv 0) (pa_cons (pv 1) pa_nil))) pa_nil)))))) pss_nil)
    (pss_cons (ps_if (pt_cmpR op_eq (pv 2) pe_int (nomark _))
      (pss_cons (ps_set (i := 3) sc_law_model.nd rfl (Or.inl rfl) (pe_ix (r := rIxL K) ix_list (pe_lstO (pa_cons pe_int (pa_cons pe_int pa_nil))) (pe_call (ok_law_take T) (hr.mono (by decide)) (by rfl) T.g_law_take T.F_law_take.kp T.b_law_take .nil pass0 (pa_cons (pv 0) (pa_cons pe_int pa_nil))) (fun _ _ => rfl)))
    (pss_cons (ps_set (i := 4) sc_law_model.nd rfl (Or.inl rfl) (pe_op op_add pe_int (pe_call (ok_law_take T) (hr.mono (by decide)) (by rfl) T.g_law_take T.F_law_take.kp T.b_law_take .nil pass0 (pa_cons (pv 0) (pa_cons (pe_callB (id := "len") (r := rLenS K) call_lenS (by rfl) T.n_len PySem.boot_len (pa_cons (pv 1) pa_nil)) pa_nil)))))
    (pss_cons (ps_set (i := 5) sc_law_model.nd rfl (Or.inl rfl) pe_dnewK)
    (pss_stop (ps_for PassesOwn.never rfl (pi_hold (pi_range1 rfl T.n_range (pa_cons (pe_callB (id := "len") (r := rLenS K) call_lenS (by rfl) T.n_len PySem.boot_len (pa_cons (pv 1) pa_nil)) pa_nil))) (pg_name (i := 6) sc_law_model.nd rfl (Or.inl rfl))
      (pss_one (ps_dput (hu_of hr) (pv 5) (pe_ix (r := rIxT K) ix_tup (pv 1) (pv 6) (fun _ _ => rfl)) (pe_lstO (pa_cons (pe_callTy (T := "tuple") (r := rTupL K) call_tupL (by rfl) T.n_tuple (by decide +kernel) (pa_cons (pe_op op_catO (pe_lstO (pa_cons pe_int pa_nil)) (pe_call (ok_law_powers T) (hr.mono (by decide)) (by rfl) T.g_law_powers T.F_law_powers.kp T.b_law_powers .nil pass0 (pa_cons (pv 3) (pa_cons (pe_op op_add (pv 6) pe_int) (pa_cons (pv 4) pa_nil))))) pa_nil)) pa_nil)) rfl)))
    (pss_one (ps_ret (pe_tupO (pa_cons (pv 3) (pa_cons (pv 4) (pa_cons (pv 5) pa_nil)))))))))) pss_nil)
    (pss_one (ps_ret (pe_call (ok_law_lists T) (hr.mono (by decide)) (by rfl) T.g_law_lists T.F_law_lists.kp T.b_law_lists .nil pass0 (pa_cons (pv 0) (pa_cons (pv 1) pa_nil)))))))), ?_⟩
    have h1 := hn.one
    have h5 := hn.five
    have hlm : (ps.map V.str).length = ps.length := List.length_map _
    walk_at "rd"
    intro r1 H1 h10 h11 S1 x1
    have ha1 := tupT_nxU S x1 ha
    have hm1 : m + 1 ≤ 800000000 := by omega
    walk_at "rd"
    refine ite2 (fun e1 => ?_) (fun e1 => ?_)
    · walk_at "rd"
      intro l H2 ys hs m2 S2 h2 x2 sl hg hA
      have ha2 := tupT_nxU S1 x2 ha1
      have hm2 : m2 ≤ 800000000 := by omega
      have tm : TellsM K Q p m2 H2 ps := fun t H' m' pr n ks ro S' h' x' pm M => q t H' m' pr n ks ro S' (by omega) ((x1.trans x2).trans x') pm M
      walk_at "rd"
      exact tm
    · walk_at "rd"
      refine ite2 (fun e2 => ?_) (fun e2 => ?_)
      · refine ⟨by decide, fun l3 H3 n3 s3 h3 => ?_⟩
        have S3 := S1.same s3
        have xx3 := x1.trans (S1.nx s3)
        have ha3 := s3.tupT ha1
        have sl3 := Sep.of_newU S1 s3 n3 h3
        walk_at "rd"
        intro r4 H4 h40 h41 S4 x4
        have xx4 := xx3.trans x4
        have ha4 := tupT_nxU S3 x4 ha3
        have hq4 := (x4 _ _ sl3).sq (K := K)
        obtain ⟨pr, hpr, hpp⟩ := prime_pick2 h40 h41
        have hpl := pr_le hpp
        walk_at "rd"
        intro r5 H5 h50 h51 S5 x5
        have xx5 := xx4.trans x5
        have ha5 := tupT_nxU S4 x5 ha4
        obtain ⟨n, en, n1, n2⟩ : ∃ n : Nat, 1 + r5 = (n : Int) ∧ 1 ≤ n ∧ n ≤ 5 := ⟨(1 + r5).toNat, by omega, by omega, by omega⟩
        walk_at "rd"
        intro d hd
        have hdn : ∀ q o, Sep H p q o → q ≠ d := fun q o h => ne_of_none (xx5 _ _ h).at_ hd
        have s6 : Same H5 (upd H5 d (.dK [])) := same_new hd
        have sd6 : Sep (upd H5 d (.dK [])) p d (.dK []) := S5.new hd
        have S6 := S5.same s6
        have xx6 := xx5.trans (S5.nx s6)
        have ha6 := s6.tupT ha5
        have E0 : Lst K p (upd H5 d (.dK [])) d [] (fun _ => d) (fun _ => []) := Lst.empty sd6
        clear S5 s6 hd ha5 xx5 S4 S3 x4 x5 hq4 hpr sd6
        generalize upd H5 d (.dK []) = H6 at *
        refine Stop.cut (fun σ H' => ∃ (y6 : Option V) (L : Str → Addr) (ro : Str → List (List Int)), σ = [some (.ref p), some (.ref a), some (.int r1), some (.int pr), some (.int (n : Int)), some (.ref d), y6] ∧ StU H' p (m + 1 + 1 + 1) ∧ Nx p H H' ∧ Lst K p H' d ps L ro ∧ ∀ k ∈ ps, RowsOk pr n (ro k)) (fun Qz hz => ?_) ?_
        · refine ⟨.ref a, rfl, a, ps.map V.str, rfl, .inr ha6, _, rfl, by rw [hlm]; omega, by rw [hlm]; omega, ⟨for_it walk_range (fun i σ H' => ∃ (y6 : Option V) (L : Str → Addr) (ro : Str → List (List Int)), σ = [some (.ref p), some (.ref a), some (.int r1), some (.int pr), some (.int (n : Int)), some (.ref d), y6] ∧ StU H' p (m + 1 + 1 + 1) ∧ Nx p H H' ∧ SqT K H' a (ps.map V.str) ∧ Lst K p H' d (ps.take i) L ro ∧ ∀ k ∈ ps.take i, RowsOk pr n (ro k))
            ⟨none, _, _, by rw [← en]; rfl, S6, xx6, ha6, E0, fun k hk => (by cases hk)⟩ (fun _ _ _ _ _ => trivial) ?_ ?_⟩⟩
          · rintro i x _ H7 H7' hi ⟨y6, L, ro, rfl, S7, x7, ha7, hL7, hr7⟩ ⟨rfl, rfl⟩
            have hi' : i < ps.length := by
              rw [hlm] at hi
              omega
            have hnk : ps[i] ∉ ps.take i := fun z => by
              have := hn.nd
              rw [← List.take_append_drop i ps, List.drop_eq_getElem_cons hi'] at this
              have := (List.nodup_append.mp this).2.2 _ z _ (.head _)
              exact this rfl
            have tk : ps.take (i + 1) = ps.take i ++ [ps[i]] := by rw [List.take_succ, List.getElem?_eq_getElem hi']; rfl
            have hat : atI (ps.map V.str) (0 + (i : Int)) = some (.str ps[i]) := by
              rw [Int.zero_add]
              exact atI_nat (by rw [List.getElem?_map, List.getElem?_eq_getElem hi']; rfl)
            generalize ps[i] = k at hnk tk hat
            refine ⟨by decide, fun e1' H8 n8 s8 h8 => ?_⟩
            refine ⟨.int pr, rfl, .int (0 + (i : Int)), rfl, 0 + (i : Int), 1, rfl, rfl, .int (n : Int), rfl, pr, 0 + (i : Int) + 1, n, rfl, by omega, by omega, by omega, by omega, n1, by omega, fun c H9 ns n9 s9 hc hcl hcr => ?_⟩
            have he9 := s9 _ _ h8
            refine ⟨e1', c, _, _, rfl, rfl, he9, hc, ?_, fun g H10 n10 s10 hg => ?_⟩
            · rw [List.length_map]
              exact Nat.le_trans (show 1 + ns.length ≤ 1000 by omega) (by decide)
            walk_at "rd"
            intro t H11 n11 s11 ht
            refine ⟨by show 1 ≤ sizeLine; decide, fun b H12 n12 s12 hb => ?_⟩
            have s711 := ((s8.trans s9).trans s10).trans s11
            have s712 := s711.trans s12
            have S12 := S7.same s712
            have x12 := x7.trans (S7.nx s712)
            have hL12 := hL7.same S7 s712
            have sb := Sep.of_newU S7 s712 (s711.free n12) hb
            have ha12 := s712.tupT ha7
            have hrow : RowV K H12 (.ref t) (1 :: ns) := ⟨t, rfl, s12.tupT (SqT.of ht)⟩
            have fr : ∀ j ∈ ps.take i, L j ≠ b := fun j hj => by
              obtain ⟨zs, z1, _⟩ := hL7.li j hj
              exact ne_of_none (s711 _ _ z1.at_) n12
            obtain ⟨kvs, sdk, hkv⟩ := hL12.di
            have hln : kvs.length < sizeLine := by
              rw [hkv.len, List.length_take]
              exact Nat.lt_of_le_of_lt (show min i ps.length ≤ 5 by omega) (by decide)
            have hdp : DPut H12 d (.str k) (.ref b) (upd H12 d (.dK (putK kvs (.inr k) (.ref b)))) := DPut.k (k := (Sum.inr k : Key)) sdk.at_ hln
            have hadd := hL12.add hnk sb (rs := [1 :: ns]) (.cons hrow .nil) fr sdk.at_
            rw [← tk] at hadd
            walk_at "rd"
            refine ⟨S12.put sdk, fun q o h => (x12 q o h).put_ne sdk (hdn q o h), tupT_put sdk.at_ (dk_no _) ha12, hadd, fun k' hk' => ?_⟩
            by_cases e : k' = k
            · rw [if_pos e]
              refine ⟨by show 1 ≤ 16; decide, fun r hr => ?_⟩
              rw [List.mem_singleton.mp hr]
              refine ⟨by rw [List.length_cons]; omega, fun z hz => ?_⟩
              rcases List.mem_cons.mp hz with rfl | hz
              · omega
              · exact hcr z hz
            · rw [if_neg e]
              rw [tk] at hk'
              exact hr7 k' ((List.mem_append.mp hk').resolve_right fun z => e (List.mem_singleton.mp z))
          · rintro σ H7 ⟨y6, L, ro, rfl, S7, x7, ha7, hL7, hr7⟩
            rw [hlm] at hL7 hr7
            rw [show ((ps.length : Int)).toNat = ps.length by omega, List.take_length] at hL7 hr7
            exact hz _ _ ⟨y6, L, ro, rfl, S7, x7, hL7, hr7⟩
        · rintro _ H7 ⟨y6, L, ro, rfl, S7, x7, hL7, hr7⟩
          walk_at "rd"
          refine ⟨by show 3 ≤ sizeLine; decide, fun t H8 n8 s8 ht => ?_⟩
          exact q t H8 (m + 1 + 1 + 1) pr n ps ro (S7.same s8) (by omega) (x7.trans (S7.nx s8)) (List.Perm.refl _) ⟨⟨d, L, SqT.of ht, hL7.same S7 s8⟩, hpp, n1, by omega, hr7⟩
      · have tm : TellsM K Q p (m + 1) H1 ps := fun t H' m' pr n ks ro S' h' x' pm M => q t H' m' pr n ks ro S' (by omega) (x1.trans x') pm M
        walk_at "rd"
        exact tm
end
end P

set_option Elab.async false
set_option linter.all false
set_option maxRecDepth 100000
set_option maxHeartbeats 4000000
namespace P
open PySem PySem.Spec PyProof.Rows L2 OS
/-! short ways: "rd" opens a reading as far as equations go; "sep" finds what stands apart from the state; "sq" a list that is read; "nx" two heaps -/
local macro_rules | `(tactic| walk_at "sep") => `(tactic| first | assumption | (refine (by assumption : Nx _ _ _) _ _ ?_; walk_at "sep"))
local macro_rules | `(tactic| walk_at "sq") => `(tactic| first | assumption | exact .inl (.inl (by assumption)) | exact Sep.sq (by walk_at "sep") | exact Sep.st (by walk_at "sep") | exact .inl (.inl upd_same))
local macro_rules | `(tactic| walk_at "rd") => `(tactic| repeat (first
  | refine And.intro rfl ?_
  | apply Exists.intro
  | refine And.intro (by assumption) ?_
  | refine And.intro (DrawOk.mk (by omega) (by omega) (by omega)) ?_
  | refine And.intro at0 ?_
  | refine And.intro ⟨_, rfl⟩ ?_
  | refine And.intro (by walk_at "sq") ?_
  | refine And.intro (Or.inl (by walk_at "sq")) ?_
  | refine And.intro (Or.inr (by walk_at "sq")) ?_
  | refine And.intro (by omega) ?_))

section
variable {P : Program} {w : World} {K : PySem.W.Frag} {mg : Str → Option Value} {base : Heap}
/-- _law_scheme(state, model) -/
def spLScheme (T : Txt K mg) : Sp := fun vs H Q E => ∃ (p t : Addr) (m : Nat) (pr : Int) (n : Nat) (ks : List Str) (ro : Str → List (List Int)), vs = [.ref p, .ref t] ∧ StU H p m ∧ m ≤ 800000000 ∧ ModAt K p H t pr n ks ro ∧ NamesOk ks ∧
  ∀ f H' m', StU H' p m' → m' ≤ m + 1000 → Nx p H H' → SchAt K T.C_Scheme H' f pr n (srt ks) ro → Q (.ref f) H'
theorem ok_law_scheme (T : Txt K mg) : FnOk P w K mg base CX0 7 T.f_law_scheme T.fd_law_scheme ["_law_state", "_law_model_here"] (spLScheme T) := by
  refine T.F_law_scheme.ok sc_law_scheme (fun vs H Q E h => ?_) (fun cdv A outer s H vs Q E hr h => ?_)
  · obtain ⟨p, t, m, pr, n, ks, ro, rfl, _⟩ := h
    rfl
  · obtain ⟨p, t, m, pr, n, ks, ro, rfl, S, hm, M, hk, q⟩ := h
    refine ⟨_, (pss_cons (ps_set (i := 2) sc_law_scheme.nd rfl (Or.inl rfl) pe_dnewK)
    (pss_stop (ps_for PassesOwn.never rfl (pi_hold (pi_list (pe_call (ok_law_shuffled T) (hr.mono (by decide)) (by rfl) T.g_law_shuffled T.F_law_shuffled.kp T.b_law_shuffled .nil pass0 (pa_cons (pv 0) (pa_cons (pe_callB (id := "sorted") (r := rSortD) (cr_sortD rfl) (by rfl) T.n_sorted (by decide +kernel) (pa_cons (pe_ix (r := rIxT K) ix_tup (pv 1) pe_int (fun _ _ => rfl)) pa_nil)) pa_nil))))) (pg_name (i := 3) sc_law_scheme.nd rfl (Or.inl rfl))
      (pss_one (ps_dput (hu_of hr) (pv 2) (pv 3) (pe_callTy (T := "list") (r := rListS K) call_listS (by rfl) T.n_list (by decide +kernel) (pa_cons (pe_dget (hu_of hr) (pe_ix (r := rIxT K) ix_tup (pv 1) pe_int (fun _ _ => rfl)) (pv 3) (fun _ _ => rfl)) pa_nil)) rfl)))
    (pss_one (ps_ret (pe_makeS (E := fun _ => E0) T.mk_Scheme (ok_Scheme__init_ T) (hr.mono (by decide)) (by rfl) T.g_Scheme T.b_Scheme__init_ (fun σ => at_of pass0x σ) (pa_cons (pe_ix (r := rIxT K) ix_tup (pv 1) pe_int (fun _ _ => rfl)) (pa_cons (pe_ix (r := rIxT K) ix_tup (pv 1) pe_int (fun _ _ => rfl)) (pa_cons (pv 2) pa_nil)))))))), ?_⟩
    have hm9 : m ≤ 900000000 := by omega
    walk_at "rd"
    intro d hd
    have s1 : Same H (upd H d (.dK [])) := same_new hd
    have sd : Sep (upd H d (.dK [])) p d (.dK []) := S.new hd
    have S1 := S.same s1
    have x1 := S.nx s1
    obtain ⟨⟨d0, L0, ht, hL⟩, isP, one, big, ok⟩ := M
    have hne : d0 ≠ d := by
      obtain ⟨kv, z1, _⟩ := hL.di
      exact ne_of_none z1.at_ hd
    replace ht := tupT_nxU S x1 ht
    replace hL := hL.nx S x1
    have E0 : Lst K p (upd H d (.dK [])) d [] L0 ro := Lst.empty sd
    clear s1
    generalize upd H d (.dK []) = H1 at *
    obtain ⟨kvs0, sd0, hh0⟩ := hL.rows
    have hrd : Rd H1 d0 (.dK kvs0) := .of sd0.at_
    have hky := hh0.keys
    have k5 := hk.five
    have h64 : ks.length < 64 := by omega
    have a2 : atI [V.int pr, V.int (n : Int), V.ref d0] 2 = some (.ref d0) := rfl
    refine Stop.cut (fun σ H' => ∃ (y : Option V) (m' : Nat) (ws : List Str) (L : Str → Addr) (ro' : Str → List (List Int)), σ = [some (.ref p), some (.ref t), some (.ref d), y] ∧ StU H' p m' ∧ m' ≤ m + 400 ∧ Nx p H H' ∧ SqT K H' t [.int pr, .int (n : Int), .ref d0] ∧ ws.Perm ks ∧ Lst K p H' d ws L ro' ∧ ∀ k ∈ ws, ro' k = ro k) (fun Qz hz => ?_) ?_
    · walk_at "rd"
      intro ys pm st l H2 n2 s2 hl
      have S2 := S1.same s2
      have x2 := x1.trans (S1.nx s2)
      have hl2 := Sep.of_newU S1 s2 n2 hl
      have ht2 := s2.tupT ht
      have hL2 := hL.same S1 s2
      have sd2 := E0.same S1 s2
      have hql := hl2.sq (K := K)
      have hl400 : (ys.map V.str).length ≤ 400 := by
        rw [List.length_map, pm.length_eq]
        omega
      clear hrd sd0 hh0 hky S1 x1 ht hL sd hl s2 n2 E0
      walk_at "rd"
      intro o H3 zs m3 n3 S3 h3 x3 so pz
      obtain ⟨ws, pw, rfl⟩ := map_perm pz ys rfl
      have ht3 := tupT_nxU S2 x3 ht2
      have hL3 := hL2.nx S2 x3
      have sd3 := sd2.nx S2 x3
      have xx3 := x2.trans x3
      have hqo := so.sq (K := K)
      have hws : ws.Perm ks := pw.trans pm
      have wok := hk.perm hws
      have w5 := wok.five
      walk_at "rd"
      refine ⟨⟨_, hqo⟩, ⟨for_it (walk_list (xs := ws.map V.str)) (fun i σ H' => ∃ (y : Option V) (L : Str → Addr) (ro' : Str → List (List Int)), σ = [some (.ref p), some (.ref t), some (.ref d), y] ∧ StU H' p m3 ∧ Nx p H H' ∧ SqT K H' t [.int pr, .int (n : Int), .ref d0] ∧ Sep H' p o (.lst (ws.map V.str)) ∧ Lst K p H' d0 ks L0 ro ∧ Lst K p H' d (ws.take i) L ro' ∧ ∀ k ∈ ws.take i, ro' k = ro k)
        ⟨none, L0, ro, rfl, S3, xx3, ht3, so, hL3, sd3, fun _ _ => rfl⟩ (fun i σ H' _ ⟨_, _, _, _, _, _, _, z, _⟩ => SqL.of z.at_) ?_ ?_⟩⟩
      · rintro i x _ H4 H5 hi ⟨y, L, ro', rfl, S4, x4, ht4, so4, hM4, hL4, hr4⟩ ⟨rfl, hx⟩
        have hi' : i < ws.length := by simpa using hi
        obtain rfl := strs_get hx (List.getElem?_eq_getElem hi')
        have hmk : ws[i] ∈ ks := hws.mem_iff.mp (List.getElem_mem hi')
        have hnk : ws[i] ∉ ws.take i := fun z => by
          have := wok.nd
          rw [← List.take_append_drop i ws, List.drop_eq_getElem_cons hi'] at this
          have := (List.nodup_append.mp this).2.2 _ z _ (.head _)
          exact this rfl
        have tk : ws.take (i + 1) = ws.take i ++ [ws[i]] := by rw [List.take_succ, List.getElem?_eq_getElem hi']; rfl
        obtain ⟨xs, sx, rv⟩ := hM4.li _ hmk
        have hdg := hM4.get hmk
        have hsx := sx.sq (K := K)
        walk_at "rd"
        intro b H6 n6 s6 hb
        have S6 := S4.same s6
        have x6 := x4.trans (S4.nx s6)
        have hL6 := hL4.same S4 s6
        have hM6 := hM4.same S4 s6
        have sb := Sep.of_newU S4 s6 n6 hb
        have ht6 := s6.tupT ht4
        have so6 := S4.nx s6 _ _ so4
        have fr : ∀ j ∈ ws.take i, L j ≠ b := fun j hj => by
          obtain ⟨zs, z1, _⟩ := hL4.li j hj
          exact ne_of_none z1.at_ n6
        obtain ⟨kvs, sdk, hkv⟩ := hL6.di
        have hln : kvs.length < sizeLine := by
          rw [hkv.len, List.length_take]
          exact Nat.lt_of_le_of_lt (show min i ws.length ≤ 5 by omega) (by decide)
        have hdp : DPut H6 d (.str ws[i]) (.ref b) (upd H6 d (.dK (putK kvs (.inr ws[i]) (.ref b)))) := DPut.k (k := (Sum.inr ws[i] : Key)) sdk.at_ hln
        have hadd := hL6.add hnk sb (rv.nxU S4 (S4.nx s6)) fr sdk.at_
        rw [← tk] at hadd
        walk_at "rd"
        refine ⟨S6.put sdk, fun q o h => (x6 q o h).put_ne sdk (ne_of_none h.at_ hd), tupT_put sdk.at_ (dk_no _) ht6, so6.put_ne sdk (ne_of so6.at_ sdk.at_ fun z => by cases z), hM6.other sdk hne, hadd, ?_⟩
        intro k hk
        by_cases e : k = ws[i]
        · rw [if_pos e, e]
        · rw [if_neg e]
          rw [tk] at hk
          exact hr4 k ((List.mem_append.mp hk).resolve_right fun z => e (List.mem_singleton.mp z))
      · rintro σ H4 ⟨y, L, ro', rfl, S4, x4, ht4, so4, hM4, hL4, hr4⟩
        rw [List.length_map, List.take_length] at hL4 hr4
        exact hz _ _ ⟨y, m3, ws, L, ro', rfl, S4, h3, x4, ht4, hws, hL4, hr4⟩
    · rintro _ H4 ⟨y, m', ws, L, ro', rfl, S4, hm4, x4, ht4, pw, hL4, hr4⟩
      obtain ⟨kvs, sdk, hkv⟩ := hL4.rows
      have a0 : atI [V.int pr, V.int (n : Int), V.ref d0] 0 = some (.int pr) := rfl
      have a1 : atI [V.int pr, V.int (n : Int), V.ref d0] 1 = some (.int (n : Int)) := rfl
      walk_at "rd"
      intro x dx nx ndx ne
      have s5 : Same H4 (upd (upd H4 dx (.own x)) x (.ins T.C_Scheme dx [])) := (same_new ndx).trans (same_new (by rw [upd_ne ne.symm]; exact nx))
      refine ⟨x, d, dx, pr, n, kvs, ws, ro', rfl, upd_same, isP, one, big, s5 _ _ sdk.at_, hkv.mono fun _ _ z => z.same s5, hk.perm pw, fun k hk' => ?_, fun H' kp hs => ⟨rfl, ?_⟩⟩
      · rw [hr4 k hk']
        exact ok k (pw.mem_iff.mp hk')
      · have sH : Same H4 H' := fun b o e => kp b o (s5 b o e) (ne_of_none e nx)
        have es : srt ws = srt ks := sort_perm pw
        rw [es] at hs
        exact q x H' m' (S4.same sH) (by omega) (x4.trans (S4.nx sH)) (hs.congr fun k hk' => hr4 k (pw.mem_iff.mpr ((srt_perm ks).mem_iff.mp hk')))
end
end P

set_option Elab.async false
set_option linter.all false
set_option maxRecDepth 100000
set_option maxHeartbeats 4000000
namespace P
open PySem PySem.Spec PyProof.Rows L2 OS
/-! short ways: "rd" opens a reading as far as equations go; "sep" finds what stands apart from the state; "sq" a list that is read; "nx" two heaps -/
local macro_rules | `(tactic| walk_at "sep") => `(tactic| first | assumption | (refine (by assumption : Nx _ _ _) _ _ ?_; walk_at "sep"))
local macro_rules | `(tactic| walk_at "sq") => `(tactic| first | assumption | exact .inl (.inl (by assumption)) | exact Sep.sq (by walk_at "sep") | exact Sep.st (by walk_at "sep") | exact .inl (.inl upd_same))
local macro_rules | `(tactic| walk_at "rd") => `(tactic| repeat (first
  | refine And.intro rfl ?_
  | apply Exists.intro
  | refine And.intro (by assumption) ?_
  | refine And.intro (DrawOk.mk (by omega) (by omega) (by omega)) ?_
  | refine And.intro at0 ?_
  | refine And.intro ⟨_, rfl⟩ ?_
  | refine And.intro (by walk_at "sq") ?_
  | refine And.intro (Or.inl (by walk_at "sq")) ?_
  | refine And.intro (Or.inr (by walk_at "sq")) ?_
  | refine And.intro (by omega) ?_))

section
variable {P : Program} {w : World} {K : PySem.W.Frag} {mg : Str → Option Value} {base : Heap}
/-- the words of a list of names -/
structure WordsOk (ws : List Str) : Prop where
  len : ws.length = 5
  nd : ws.Nodup
  ok : ∀ z ∈ ws, okN z.cps.toList = true
theorem words1 : WordsOk ["a", "b", "c", "d", "e"] := ⟨rfl, by decide +kernel, by decide +kernel⟩
theorem words2 : WordsOk ["x", "xy", "y", "x1", "x10"] := ⟨rfl, by decide +kernel, by decide +kernel⟩
theorem words3 : WordsOk ["ann", "bob", "cy", "put", "turn"] := ⟨rfl, by decide +kernel, by decide +kernel⟩
theorem words4 : WordsOk ["annabe", "annabf", "b12345", "z", "zq1"] := ⟨rfl, by decide +kernel, by decide +kernel⟩
/-- _law_persons(state, most) -/
def spLPersons (K : PySem.W.Frag) : Sp := fun vs H Q _ => ∃ (p : Addr) (m : Nat), vs = [.ref p, .int 5] ∧ StU H p m ∧ m ≤ 800000000 ∧ ∀ a H' ps m', StU H' p m' → m' ≤ m + 1000 → Nx p H H' → SqT K H' a (ps.map V.str) → NamesOk ps → Q (.ref a) H'
theorem ok_law_persons (T : Txt K mg) : FnOk P w K mg base CX0 3 T.f_law_persons T.fd_law_persons ["_law_state", "_law_most"] (spLPersons K) := by
  refine T.F_law_persons.ok sc_law_persons (fun vs H Q E h => ?_) (fun cdv A outer s H vs Q E hr h => ?_)
  · obtain ⟨p, m, rfl, _⟩ := h
    rfl
  · obtain ⟨p, m, rfl, S, hm, q⟩ := h
    refine ⟨_, (pss_cons (ps_set (i := 2) sc_law_persons.nd rfl (Or.inl rfl) (pe_lstO (pa_cons (pe_lstO (pa_cons pe_str (pa_cons pe_str (pa_cons pe_str (pa_cons pe_str (pa_cons pe_str pa_nil)))))) (pa_cons (pe_lstO (pa_cons pe_str (pa_cons pe_str (pa_cons pe_str (pa_cons pe_str (pa_cons pe_str pa_nil)))))) (pa_cons (pe_lstO (pa_cons pe_str (pa_cons pe_str (pa_cons pe_str (pa_cons pe_str (pa_cons pe_str pa_nil)))))) pa_nil)))))
    (pss_cons (ps_expr (pe_bm PySem.F.plainAttrs_list PySem.F.slot_list_append PySem.F.type_list_append mt_append (pv 2) (pa_cons (pe_lstO (pa_cons pe_str (pa_cons pe_str (pa_cons pe_str (pa_cons pe_str (pa_cons pe_str pa_nil)))))) pa_nil)))
    (pss_cons (ps_set (i := 3) sc_law_persons.nd rfl (Or.inl rfl) (pe_call (ok_law_shuffled T) (hr.mono (by decide)) (by rfl) T.g_law_shuffled T.F_law_shuffled.kp T.b_law_shuffled .nil pass0 (pa_cons (pv 0) (pa_cons (pe_ix (r := rIxL K) ix_list (pv 2) (pe_call (ok_law_take T) (hr.mono (by decide)) (by rfl) T.g_law_take T.F_law_take.kp T.b_law_take .nil pass0 (pa_cons (pv 0) (pa_cons pe_int pa_nil))) (fun _ _ => rfl)) pa_nil))))
    (pss_one (ps_ret (pe_callTy (T := "tuple") (r := rTupL K) call_tupL (by rfl) T.n_tuple (by decide +kernel) (pa_cons (pe_callB (id := "sorted") (cr_sortS (room65 hr)) (by rfl) T.n_sorted (by decide +kernel) (pa_cons (pe_slice sl_listO (pv 3) po_none (po_some (pe_op op_add pe_int (pe_call (ok_law_take T) (hr.mono (by decide)) (by rfl) T.g_law_take T.F_law_take.kp T.b_law_take .nil pass0 (pa_cons (pv 0) (pa_cons (pv 1) pa_nil)))))) pa_nil)) pa_nil))))))), ?_⟩
    refine ⟨by decide, fun l1 H1 n1 s1 h1 => ?_⟩
    walk_at "rd"
    refine ⟨by decide, fun l2 H2 n2 s2 h2 => ?_⟩
    walk_at "rd"
    refine ⟨by decide, fun l3 H3 n3 s3 h3 => ?_⟩
    walk_at "rd"
    refine ⟨by show 3 ≤ sizeLine; decide, fun t H4 n4 s4 h4 => ?_⟩
    walk_at "rd"
    refine ⟨.inl ⟨rfl, _, SqL.of h4⟩, ?_⟩
    refine ⟨by decide, fun l4 H5 n5 s5 h5 => ?_⟩
    have S12 := s1.trans s2
    have S13 := S12.trans s3
    have S14 := S13.trans s4
    have S15 := S14.trans s5
    have q1 : Sep H5 p l1 _ := Sep.of_newU S S15 n1 (s5 _ _ (s4 _ _ (s3 _ _ (s2 _ _ h1))))
    have q2 : Sep H5 p l2 _ := Sep.of_newU S S15 (s1.free n2) (s5 _ _ (s4 _ _ (s3 _ _ h2)))
    have q3 : Sep H5 p l3 _ := Sep.of_newU S S15 (S12.free n3) (s5 _ _ (s4 _ _ h3))
    have q4 : Sep H5 p l4 _ := Sep.of_newU S S15 (S14.free n5) h5
    have qt : Sep H5 p t _ := Sep.of_newU S S15 (S13.free n4) (s5 _ _ h4)
    have e1 : l1 ≠ t := ne_of_none (s3 _ _ (s2 _ _ h1)) n4
    have e2 : l2 ≠ t := ne_of_none (s3 _ _ h2) n4
    have e3 : l3 ≠ t := ne_of_none h3 n4
    have e4 : l4 ≠ t := (ne_of_none h4 n5).symm
    have S5 := (S.same S15).put (u := .lst [V.ref l1, V.ref l2, V.ref l3, V.ref l4]) qt
    have x5 : Nx p H (upd H5 t (.lst [V.ref l1, V.ref l2, V.ref l3, V.ref l4])) := fun q o h => (S.nx S15 q o h).put_ne qt (ne_of_none h.at_ (S13.free n4))
    replace q1 := q1.put_ne (u := .lst [V.ref l1, V.ref l2, V.ref l3, V.ref l4]) qt e1
    replace q2 := q2.put_ne (u := .lst [V.ref l1, V.ref l2, V.ref l3, V.ref l4]) qt e2
    replace q3 := q3.put_ne (u := .lst [V.ref l1, V.ref l2, V.ref l3, V.ref l4]) qt e3
    replace q4 := q4.put_ne (u := .lst [V.ref l1, V.ref l2, V.ref l3, V.ref l4]) qt e4
    have qt' := qt.at_
    replace qt := qt.put_same (u := .lst [V.ref l1, V.ref l2, V.ref l3, V.ref l4])
    have hlt : [V.ref l1, V.ref l2, V.ref l3].length < sizeLine := by show 3 < sizeLine; decide
    clear s1 s2 s3 s4 s5 S12 S13 S14 S15 h1 h2 h3 h4 h5 n1 n2 n3 n4 n5
    walk_at "rd"
    intro r H7 r0 r1 S7 x7
    replace x7 : Nx p (upd H5 t (.lst [V.ref l1, V.ref l2, V.ref l3, V.ref l4])) H7 := x7
    replace q1 := x7 _ _ q1
    replace q2 := x7 _ _ q2
    replace q3 := x7 _ _ q3
    replace q4 := x7 _ _ q4
    replace qt := x7 _ _ qt
    replace x7 := x5.trans x7
    have key : ∃ (l : Addr) (ws : List Str), atI [V.ref l1, V.ref l2, V.ref l3, V.ref l4] r = some (.ref l) ∧ Sep H7 p l (.lst (ws.map V.str)) ∧ WordsOk ws := by
      obtain e | e | e | e : r = 0 ∨ r = 1 ∨ r = 2 ∨ r = 3 := by omega
      · exact ⟨l1, ["a", "b", "c", "d", "e"], by rw [e]; rfl, q1, words1⟩
      · exact ⟨l2, ["x", "xy", "y", "x1", "x10"], by rw [e]; rfl, q2, words2⟩
      · exact ⟨l3, ["ann", "bob", "cy", "put", "turn"], by rw [e]; rfl, q3, words3⟩
      · exact ⟨l4, ["annabe", "annabf", "b12345", "z", "zq1"], by rw [e]; rfl, q4, words4⟩
    obtain ⟨l, ws, hat, hl, hw⟩ := key
    have hts := SqL.of (K := K) qt.at_
    have hls : SqL K H7 l (ws.map V.str) := SqL.of hl.at_
    have hl400 : (ws.map V.str).length ≤ 400 := by rw [List.length_map, hw.len]; decide
    have hm1 : m + 1 ≤ 900000000 := by omega
    walk_at "rd"
    intro b H8 ys m8 n8 S8 h8 x8 qb pm
    obtain ⟨zs, pz, rfl⟩ := map_perm pm ws rfl
    walk_at "rd"
    intro r2 H9 r20 r21 S9 x9
    have hb9 := x9 _ _ qb
    have hbs : SqL K H9 b (zs.map V.str) := SqL.of hb9.at_
    walk_at "rd"
    intro c H10 n10 s10 hc
    have hk : ∃ k : Nat, 1 + r2 = (k : Int) ∧ 1 ≤ k ∧ k ≤ 5 := ⟨(1 + r2).toNat, by omega, by omega, by omega⟩
    obtain ⟨k, ek, k1, k5⟩ := hk
    rw [ek, cutV_take, ← List.map_take] at hc
    walk_at "rd"
    intro d H11 n11 s11 hd
    walk_at "rd"
    intro u H12 n12 s12 hu
    have zl : zs.length = 5 := pz.length_eq.trans hw.len
    have pm2 := List.mergeSort_perm (zs.take k) leS
    have X9 : Nx p H H9 := (x7.trans x8).trans x9
    have S912 := (s10.trans s11).trans s12
    refine q u H12 _ (m8 + 1) (S9.same S912) (by omega) (X9.trans (S9.nx S912)) (SqT.of hu) ⟨?_, ?_, ?_, ?_⟩
    · rw [pm2.length_eq, List.length_take]
      omega
    · rw [pm2.length_eq, List.length_take]
      omega
    · exact pm2.nodup_iff.mpr ((pz.nodup_iff.mpr hw.nd).sublist (List.take_sublist _ _))
    · intro z hz
      exact hw.ok z (pz.mem_iff.mp (List.mem_of_mem_take (pm2.mem_iff.mp hz)))
end
end P

set_option Elab.async false
set_option linter.all false
set_option maxRecDepth 100000
set_option maxHeartbeats 4000000
namespace P
open PySem PySem.Spec PyProof.Rows L2 OS
/-! short ways: "rd" opens a reading as far as equations go; "sep" finds what stands apart from the state; "sq" a list that is read; "nx" two heaps -/
local macro_rules | `(tactic| walk_at "sep") => `(tactic| first | assumption | (refine (by assumption : Nx _ _ _) _ _ ?_; walk_at "sep"))
local macro_rules | `(tactic| walk_at "sq") => `(tactic| first | assumption | exact .inl (.inl (by assumption)) | exact Sep.sq (by walk_at "sep") | exact Sep.st (by walk_at "sep") | exact .inl (.inl upd_same))
local macro_rules | `(tactic| walk_at "rd") => `(tactic| repeat (first
  | refine And.intro rfl ?_
  | apply Exists.intro
  | refine And.intro (by assumption) ?_
  | refine And.intro (DrawOk.mk (by omega) (by omega) (by omega)) ?_
  | refine And.intro at0 ?_
  | refine And.intro ⟨_, rfl⟩ ?_
  | refine And.intro (by walk_at "sq") ?_
  | refine And.intro (Or.inl (by walk_at "sq")) ?_
  | refine And.intro (Or.inr (by walk_at "sq")) ?_
  | refine And.intro (by omega) ?_))

section
variable {P : Program} {w : World} {K : PySem.W.Frag} {mg : Str → Option Value} {base : Heap}
/-- what law keeps: the state, two models, two schemes -/
structure Lw (K : PySem.W.Frag) (C p ml dl t0 t1 f0 f1 : Addr) (H : Hp) (m : Nat) (p0 p1 : Int) (n0 n1 : Nat) (k0 k1 : List Str) (r0 r1 : Str → List (List Int)) : Prop where
  S : StU H p m
  ml : Sep H p ml (.lst [.ref t0, .ref t1])
  dl : Sep H p dl (.lst [.ref f0, .ref f1])
  m0 : ModAt K p H t0 p0 n0 k0 r0
  m1 : ModAt K p H t1 p1 n1 k1 r1
  d0 : SchAt K C H f0 p0 n0 (srt k0) r0
  d1 : SchAt K C H f1 p1 n1 (srt k1) r1
  nk0 : NamesOk k0
  nk1 : NamesOk k1
theorem Lw.nx {C p ml dl t0 t1 f0 f1 : Addr} {H H' : Hp} {m m' : Nat} {p0 p1 : Int} {n0 n1 : Nat} {k0 k1 : List Str} {r0 r1 : Str → List (List Int)} (h : Lw K C p ml dl t0 t1 f0 f1 H m p0 p1 n0 n1 k0 k1 r0 r1) (S : StU H' p m') (x : Nx p H H') : Lw K C p ml dl t0 t1 f0 f1 H' m' p0 p1 n0 n1 k0 k1 r0 r1 :=
  ⟨S, x _ _ h.ml, x _ _ h.dl, h.m0.nx h.S x, h.m1.nx h.S x, h.d0.nxU h.S x, h.d1.nxU h.S x, h.nk0, h.nk1⟩
theorem SchAt.put {C f D : Addr} {H : Hp} {acc : List V} {u : HO} {pr : Int} {n : Nat} {ws : List Str} {ro : Str → List (List Int)} (hD : H D = some (.lst acc)) (h : SchAt K C H f pr n ws ro) : SchAt K C (upd H D u) f pr n ws ro := by
  obtain ⟨dx, a, d, kvs, hf, ha, hd, hh⟩ := h
  refine ⟨dx, a, d, kvs, (upd_ne (ne_of hf hD fun z => by cases z)).trans hf, tupT_put hD (ls_no _) ha, (upd_ne (ne_of hd hD fun z => by cases z)).trans hd, hh.mono fun k v q => ?_⟩
  obtain ⟨b, xs, e, h1, h2⟩ := q
  exact ⟨b, xs, e, tupT_put hD (ls_no _) h1, h2.put hD (ls_no _)⟩
/-- the model and the scheme of a turn -/
structure Pk (K : PySem.W.Frag) (C p t f : Addr) (H : Hp) (pr : Int) (n : Nat) (ks : List Str) (ro : Str → List (List Int)) : Prop where
  mo : ModAt K p H t pr n ks ro
  sc : SchAt K C H f pr n (srt ks) ro
  nk : NamesOk ks
theorem Pk.nx {C p t f : Addr} {H H' : Hp} {m : Nat} {pr : Int} {n : Nat} {ks : List Str} {ro : Str → List (List Int)} (S : StU H p m) (x : Nx p H H') (h : Pk K C p t f H pr n ks ro) : Pk K C p t f H' pr n ks ro := ⟨h.mo.nx S x, h.sc.nxU S x, h.nk⟩
theorem Lw.pick {C p ml dl t0 t1 f0 f1 : Addr} {H : Hp} {m : Nat} {p0 p1 : Int} {n0 n1 : Nat} {k0 k1 : List Str} {r0 r1 : Str → List (List Int)} (h : Lw K C p ml dl t0 t1 f0 f1 H m p0 p1 n0 n1 k0 k1 r0 r1) (i : Nat) :
    ∃ t f pr n ks ro, atI [V.ref t0, V.ref t1] ((0 + (i : Int)) % 2) = some (.ref t) ∧ atI [V.ref f0, V.ref f1] ((0 + (i : Int)) % 2) = some (.ref f) ∧ Pk K C p t f H pr n ks ro := by
  obtain e | e : (0 + (i : Int)) % 2 = 0 ∨ (0 + (i : Int)) % 2 = 1 := by omega
  · rw [e]
    exact ⟨t0, f0, p0, n0, k0, r0, rfl, rfl, h.m0, h.d0, h.nk0⟩
  · rw [e]
    exact ⟨t1, f1, p1, n1, k1, r1, rfl, rfl, h.m1, h.d1, h.nk1⟩
theorem cutV_mem {xs : List V} {lo hi : Option Int} {v : V} (h : v ∈ cutV xs lo hi) : v ∈ xs := List.mem_of_mem_drop (List.mem_of_mem_take h)
/-- the odd values -/
def oddL (pr : Int) (la tb : Addr) : List V := [.int (-1), .int pr, .bl true, .non, .str "1", .ref la, .ref tb, .int (10 ^ 20)]
/-- what law keeps in a turn: the odd values too -/
structure Tn (K : PySem.W.Frag) (C p ml dl t0 t1 f0 f1 t f od la tb : Addr) (H : Hp) (m : Nat) (p0 p1 : Int) (n0 n1 : Nat) (k0 k1 : List Str) (r0 r1 : Str → List (List Int)) (pr : Int) (n : Nat) (ks : List Str) (ro : Str → List (List Int)) : Prop where
  W : Lw K C p ml dl t0 t1 f0 f1 H m p0 p1 n0 n1 k0 k1 r0 r1
  Z : Pk K C p t f H pr n ks ro
  od : Sep H p od (.lst (oddL pr la tb))
  la : Sep H p la (.lst [.int 1])
  tb : TupN K p H tb [.int 0]
theorem Tn.nx {C p ml dl t0 t1 f0 f1 t f od la tb : Addr} {H H' : Hp} {m m' : Nat} {p0 p1 : Int} {n0 n1 : Nat} {k0 k1 : List Str} {r0 r1 : Str → List (List Int)} {pr : Int} {n : Nat} {ks : List Str} {ro : Str → List (List Int)}
    (h : Tn K C p ml dl t0 t1 f0 f1 t f od la tb H m p0 p1 n0 n1 k0 k1 r0 r1 pr n ks ro) (S : StU H' p m') (x : Nx p H H') : Tn K C p ml dl t0 t1 f0 f1 t f od la tb H' m' p0 p1 n0 n1 k0 k1 r0 r1 pr n ks ro :=
  ⟨h.W.nx S x, h.Z.nx h.W.S x, x _ _ h.od, x _ _ h.la, h.tb.nx x⟩
/-- flat, or one of the two odd objects -/
def OkI (la tb : Addr) (v : V) : Prop := flatV v = true ∨ v = .ref la ∨ v = .ref tb
theorem odd_ok {pr : Int} {la tb : Addr} {v : V} (h : v ∈ oddL pr la tb) : OkI la tb v := by
  unfold oddL at h
  simp only [List.mem_cons, List.not_mem_nil, or_false] at h
  rcases h with rfl | rfl | rfl | rfl | rfl | rfl | rfl | rfl
  all_goals first | exact .inl rfl | exact .inr (.inl rfl) | exact .inr (.inr rfl)
theorem OkI.itm {p : Addr} {H : Hp} {la tb : Addr} {v : V} (h : OkI la tb v) (h1 : Sep H p la (.lst [.int 1])) (h2 : TupN K p H tb [.int 0]) : Itm K H v := by
  rcases h with h | rfl | rfl
  · exact .flat h
  · exact .lst (SqL.of h1.at_)
  · exact .tup h2.sq
theorem OutV.same {H H' : Hp} {pr : Int} {ds : List Int} {ks : List Str} {ro : Str → List (List Int)} {u : Addr} {o : Out} (h : OutV K H pr ds ks ro u o) (s : Same H H') : OutV K H' pr ds ks ro u o := by
  cases o with
  | num v => exact s.tupT h
  | cnt k => exact s.tupT h
  | told =>
    obtain ⟨q, kvs, ws, t1, t2, t3, t4⟩ := h
    refine ⟨q, kvs, ws, s.tupT t1, s _ _ t2, t3, t4.mono fun _ _ z => ?_⟩
    obtain ⟨b, eb, hb⟩ := z
    exact ⟨b, eb, s.tupT hb⟩
theorem OutV.kind {H : Hp} {pr : Int} {ds : List Int} {ks : List Str} {ro : Str → List (List Int)} {u : Addr} {o : Out} (h : OutV K H pr ds ks ro u o) : ∃ (k : Str) (v : V), SqT K H u [.str k, v] ∧ ((k == "told") = true → o = .told) := by
  cases o with
  | num v => exact ⟨_, _, h, fun z => absurd z (by decide +kernel)⟩
  | cnt k => exact ⟨_, _, h, fun z => absurd z (by decide +kernel)⟩
  | told =>
    obtain ⟨q, kvs, ws, t1, t2, t3, t4⟩ := h
    exact ⟨_, _, t1, fun _ => rfl⟩
theorem same_items {H : Hp} {xs : List V} (h : ∀ v ∈ xs, Itm K H v) : Paired (EqN K H 1) xs xs := by
  induction xs with
  | nil => exact .nil
  | cons x xs ih => exact .cons (.inl (itm_same (h x (.head _)))) (ih fun v hv => h v (.tail _ hv))
end
end P

set_option Elab.async false
set_option linter.all false
set_option maxRecDepth 100000
set_option maxHeartbeats 4000000
namespace P
open PySem PySem.Spec PyProof.Rows L2 OS
/-! short ways: "rd" opens a reading as far as equations go; "sep" finds what stands apart from the state; "sq" a list that is read; "nx" two heaps -/
local macro_rules | `(tactic| walk_at "sep") => `(tactic| first | assumption | (refine (by assumption : Nx _ _ _) _ _ ?_; walk_at "sep"))
local macro_rules | `(tactic| walk_at "sq") => `(tactic| first | assumption | exact .inl (.inl (by assumption)) | exact Sep.sq (by walk_at "sep") | exact Sep.st (by walk_at "sep") | exact .inl (.inl upd_same))
local macro_rules | `(tactic| walk_at "rd") => `(tactic| repeat (first
  | refine And.intro rfl ?_
  | apply Exists.intro
  | refine And.intro (by assumption) ?_
  | refine And.intro (DrawOk.mk (by omega) (by omega) (by omega)) ?_
  | refine And.intro at0 ?_
  | refine And.intro ⟨_, rfl⟩ ?_
  | refine And.intro (by walk_at "sq") ?_
  | refine And.intro (Or.inl (by walk_at "sq")) ?_
  | refine And.intro (Or.inr (by walk_at "sq")) ?_
  | refine And.intro (by omega) ?_))

section
variable {P : Program} {w : World} {K : PySem.W.Frag} {mg : Str → Option Value} {base : Heap}
def spLaw (K : PySem.W.Frag) : Sp := fun vs H Q _ => ∃ (a : Addr) (ns : List Int), vs = [.ref a] ∧ SqL K H a (ns.map V.int) ∧ ns.length ≤ 63 ∧ ∀ H', Q (.bl true) H'
theorem ok_law (T : Txt K mg) : FnOk P w K mg base CX0 8 T.f_law T.fd_law ["_law_script"] (spLaw K) := by
  refine T.F_law.ok sc_law (fun vs H Q E h => ?_) (fun cdv A outer s H vs Q E hr h => ?_)
  · obtain ⟨a, ns, rfl, _⟩ := h
    rfl
  · obtain ⟨a, ns, rfl, ha, hl, q⟩ := h
    refine ⟨_, (pss_cons (ps_set (i := 1) sc_law.nd rfl (Or.inr rfl) (pe_call (ok_law_start T) (hr.mono (by decide)) (by rfl) T.g_law_start T.F_law_start.kp T.b_law_start .nil pass0 (pa_cons (pv 0) pa_nil)))
    (pss_cons (ps_set (i := 2) sc_law.nd rfl (Or.inl rfl) (pe_call (ok_law_persons T) (hr.mono (by decide)) (by rfl) T.g_law_persons T.F_law_persons.kp T.b_law_persons .nil pass0 (pa_cons (pv 1) (pa_cons pe_int pa_nil))))
    (pss_cons (ps_set (i := 3) sc_law.nd rfl (Or.inl rfl) (pe_lstO (pa_cons (pe_call (ok_law_model T) (hr.mono (by decide)) (by rfl) T.g_law_model T.F_law_model.kp T.b_law_model .nil pass0 (pa_cons (pv 1) (pa_cons (pv 2) pa_nil))) (pa_cons (pe_call (ok_law_model T) (hr.mono (by decide)) (by rfl) T.g_law_model T.F_law_model.kp T.b_law_model .nil pass0 (pa_cons (pv 1) (pa_cons (pv 2) pa_nil))) pa_nil))))
    (pss_cons (ps_setLc (i := 4) (own := [("_law_model_here", 5)]) (g := gName 5) (tt := tYes) rfl sc_law.nd rfl rfl (sw_true rfl rfl rfl (by decide +kernel)) (pi_list (pv 3)) (blkOk_by (own := [("_law_model_here", 5)]) (N := N_law) (sc := defScope s_law) (by decide +kernel)) (fun _ _ _ _ _ => (pg_name (i := 5) sc_law.nd rfl (Or.inl rfl))) (fun _ _ _ _ _ => pts_nil) (fun _ _ _ _ _ => (pe_call (ok_law_scheme T) (hr.mono (by decide)) (by rfl) T.g_law_scheme T.F_law_scheme.kp T.b_law_scheme .nil pass0 (pa_cons (pv 1) (pa_cons (pv 5) pa_nil)))))
    (pss_stop (ps_for PassesOwn.never rfl (pi_hold (pi_range1 rfl T.n_range (pa_cons pe_int pa_nil))) (pg_name (i := 6) sc_law.nd rfl (Or.inl rfl))
      (pss_cons (ps_set (i := 5) sc_law.nd rfl (Or.inr rfl) (pe_ix (r := rIxL K) ix_list (pv 3) (pe_op op_mod (pv 6) pe_int) (fun _ _ => rfl)))
    (pss_cons (ps_set (i := 7) sc_law.nd rfl (Or.inl rfl) (pe_call (ok_law_take T) (hr.mono (by decide)) (by rfl) T.g_law_take T.F_law_take.kp T.b_law_take .nil pass0 (pa_cons (pv 1) (pa_cons (pe_ix (r := rIxT K) ix_tup (pv 5) pe_int (fun _ _ => rfl)) pa_nil))))
    (pss_cons (ps_setLc (i := 8) (own := [("_law_place", 9)]) (g := gName 9) (tt := tYes) rfl sc_law.nd rfl rfl (sw_true rfl rfl rfl (by decide +kernel)) (pi_range1 rfl T.n_range (pa_cons (pe_op op_sub (pe_ix (r := rIxT K) ix_tup (pv 5) pe_int (fun _ _ => rfl)) pe_int) pa_nil)) (blkOk_by (own := [("_law_place", 9)]) (N := N_law) (sc := defScope s_law) (by decide +kernel)) (fun _ _ _ _ _ => (pg_name (i := 9) sc_law.nd rfl (Or.inl rfl))) (fun _ _ _ _ _ => pts_nil) (fun _ _ _ _ _ => (pe_call (ok_law_take T) (hr.mono (by decide)) (by rfl) T.g_law_take T.F_law_take.kp T.b_law_take .nil pass0 (pa_cons (pv 1) (pa_cons (pe_ix (r := rIxT K) ix_tup (pv 5) pe_int (fun _ _ => rfl)) pa_nil)))))
    (pss_cons (ps_set (i := 10) sc_law.nd rfl (Or.inl rfl) (pe_lstO (pa_cons (pe_un un_neg pe_int) (pa_cons (pe_ix (r := rIxT K) ix_tup (pv 5) pe_int (fun _ _ => rfl)) (pa_cons pe_bl (pa_cons pe_non (pa_cons pe_str (pa_cons (pe_lstO (pa_cons pe_int pa_nil)) (pa_cons (pe_tupO (pa_cons pe_int pa_nil)) (pa_cons (pe_op op_pow pe_int pe_int) pa_nil))))))))))
    (pss_stop (ps_if (pt_cmpR op_eq (pe_call (ok_law_take T) (hr.mono (by decide)) (by rfl) T.g_law_take T.F_law_take.kp T.b_law_take .nil pass0 (pa_cons (pv 1) (pa_cons pe_int pa_nil))) pe_int (nomark _))
      (pss_one (ps_set (i := 7) sc_law.nd rfl (Or.inl rfl) (pe_ix (r := rIxL K) ix_list (pv 10) (pe_call (ok_law_take T) (hr.mono (by decide)) (by rfl) T.g_law_take T.F_law_take.kp T.b_law_take .nil pass0 (pa_cons (pv 1) (pa_cons pe_int pa_nil))) (fun _ _ => rfl)))) pss_nil)
    (pss_stop (ps_for PassesOwn.never rfl (pi_hold (pi_range1 rfl T.n_range (pa_cons (pe_ix (r := rIxL K) ix_list (pe_lstO (pa_cons pe_int (pa_cons pe_int (pa_cons pe_int (pa_cons pe_int (pa_cons pe_int pa_nil)))))) (pe_call (ok_law_take T) (hr.mono (by decide)) (by rfl) T.g_law_take T.F_law_take.kp T.b_law_take .nil pass0 (pa_cons (pv 1) (pa_cons pe_int pa_nil))) (fun _ _ => rfl)) pa_nil))) (pg_name (i := 11) sc_law.nd rfl (Or.inl rfl))
      (pss_cons (ps_set (i := 12) sc_law.nd rfl (Or.inl rfl) (pe_call (ok_law_take T) (hr.mono (by decide)) (by rfl) T.g_law_take T.F_law_take.kp T.b_law_take .nil pass0 (pa_cons (pv 1) (pa_cons (pe_op op_add (pe_callB (id := "len") (r := rLenS K) call_lenS (by rfl) T.n_len PySem.boot_len (pa_cons (pv 8) pa_nil)) pe_int) pa_nil))))
    (pss_one (ps_set (i := 8) sc_law.nd rfl (Or.inl rfl) (pe_op op_catO (pe_op op_catO (pe_slice sl_listO (pv 8) po_none (po_some (pv 12))) (pe_lstO (pa_cons (pe_ix (r := rIxL K) ix_list (pv 10) (pe_call (ok_law_take T) (hr.mono (by decide)) (by rfl) T.g_law_take T.F_law_take.kp T.b_law_take .nil pass0 (pa_cons (pv 1) (pa_cons pe_int pa_nil))) (fun _ _ => rfl)) pa_nil))) (pe_slice sl_listO (pv 8) (po_some (pe_op op_add (pv 12) (pe_call (ok_law_take T) (hr.mono (by decide)) (by rfl) T.g_law_take T.F_law_take.kp T.b_law_take .nil pass0 (pa_cons (pv 1) (pa_cons pe_int pa_nil))))) po_none))))))
    (pss_stop (ps_if (pt_cmpR op_eq (pe_call (ok_law_take T) (hr.mono (by decide)) (by rfl) T.g_law_take T.F_law_take.kp T.b_law_take .nil pass0 (pa_cons (pv 1) (pa_cons pe_int pa_nil))) pe_int (nomark _))
      (pss_one (ps_set (i := 8) sc_law.nd rfl (Or.inl rfl) (pe_slice sl_listO (pv 8) (po_some pe_int) po_none))) pss_nil)
    (pss_cons (ps_set (i := 13) sc_law.nd rfl (Or.inl rfl) (pe_callTy (T := "list") (r := rListS K) call_listS (by rfl) T.n_list (by decide +kernel) (pa_cons (pv 8) pa_nil)))
    (pss_stop (ps_for PassesOwn.never rfl (pi_hold (pi_list (pe_call (ok_law_shuffled T) (hr.mono (by decide)) (by rfl) T.g_law_shuffled T.F_law_shuffled.kp T.b_law_shuffled .nil pass0 (pa_cons (pv 1) (pa_cons (pe_lstO (pa_cons pe_int (pa_cons pe_int pa_nil))) pa_nil))))) (pg_name (i := 14) sc_law.nd rfl (Or.inl rfl))
      (pss_cons (ps_set (i := 15) sc_law.nd rfl (Or.inl rfl) (pe_call (ok_law_told T) (hr.mono (by decide)) (by rfl) T.g_law_told T.F_law_told.kp T.b_law_told .nil pass0 (pa_cons (pv 14) (pa_cons (pe_ix (r := rIxL K) ix_list (pv 4) (pe_op op_mod (pv 6) pe_int) (fun _ _ => rfl)) (pa_cons (pv 7) (pa_cons (pv 13) pa_nil))))))
    (pss_cons (ps_if (PW.pt (pw_or (pt_cmpR (r := rNeT K) (op_neT (room65 hr)) (pv 15) (pe_call (ok_law_due T) (hr.mono (by decide)) (by rfl) T.g_law_due T.F_law_due.kp T.b_law_due .nil pass0 (pa_cons (pv 5) (pa_cons (pv 7) (pa_cons (pv 8) pa_nil)))) (nomark _)) (pw_or1 (pt_cmpR (r := rNeI K) (op_neI (room65 hr)) (pv 13) (pv 8) (nomark _)))))
      (pss_one (ps_ret pe_bl)) pss_nil)
    (pss_one (ps_if (pt_cmpR op_eq (pe_ix (r := rIxT K) ix_tup (pv 15) pe_int (fun _ _ => rfl)) pe_str (nomark _))
      (pss_one (ps_expr (pe_dclear (pe_ix (r := rIxT K) ix_tup (pv 15) pe_int (fun _ _ => rfl))))) pss_nil)))))
    (pss_one (ps_if (pt_cmpR (r := rNeT K) (op_neT (room65 hr)) (pe_call (ok_law_told T) (hr.mono (by decide)) (by rfl) T.g_law_told T.F_law_told.kp T.b_law_told .nil pass0 (pa_cons pe_int (pa_cons (pe_ix (r := rIxL K) ix_list (pv 4) (pe_op op_mod (pv 6) pe_int) (fun _ _ => rfl)) (pa_cons (pv 7) (pa_cons (pe_callTy (T := "tuple") (r := rTupL K) call_tupL (by rfl) T.n_tuple (by decide +kernel) (pa_cons (pv 8) pa_nil)) pa_nil))))) (pe_call (ok_law_due T) (hr.mono (by decide)) (by rfl) T.g_law_due T.F_law_due.kp T.b_law_due .nil pass0 (pa_cons (pv 5) (pa_cons (pv 7) (pa_cons (pv 8) pa_nil)))) (nomark _))
      (pss_one (ps_ret pe_bl)) pss_nil))))))))))))
    (pss_one (ps_ret pe_bl))))))), ?_⟩
    walk_at "rd"
    intro p H1 s1 n1 S1
    walk_at "rd"
    intro na H2 ps m2 S2 h2 x2 hna hps
    have hm2 : m2 ≤ 700000000 := by omega
    walk_at "rd"
    intro t0 H3 m3 p0 n0 k0 r0 S3 h3 x3 pm0 M0
    have hna3 := tupT_nxU S2 x3 hna
    have hm3 : m3 ≤ 700000000 := by omega
    walk_at "rd"
    intro t1 H4 m4 p1 n1' k1 r1 S4 h4 x4 pm1 M1
    have M0' := M0.nx S3 x4
    walk_at "rd"
    refine ⟨by show 2 ≤ sizeLine; decide, fun ml H5 n5 s5 hml => ?_⟩
    have S5 := S4.same s5
    have sml := Sep.of_newU S4 s5 n5 hml
    have M05 := M0'.nx S4 (S4.nx s5)
    have M15 := M1.nx S4 (S4.nx s5)
    have hk0 := hps.perm pm0
    have hk1 := hps.perm pm1
    have hqm := sml.sq (K := K)
    clear M0 M0' M1 s5 hml n5 S4 x4 hna3 S3 x3 hna S2 x2
    walk_at "rd"
    refine ⟨⟨_, hqm⟩, fun D hD => ?_⟩
    have sD : Sep (upd H5 D (.lst [])) p D (.lst []) := S5.new hD
    have hmlD : ml ≠ D := ne_of_none sml.at_ hD
    refine lc_it (walk_list (xs := [V.ref t0, V.ref t1])) (fun i H' => ∃ (acc : List V) (m' : Nat), StU H' p m' ∧ m' ≤ m4 + 1000 * i ∧ Nx p H5 H' ∧ Sep H' p D (.lst acc) ∧ acc.length = i ∧ (∀ v, acc[0]? = some v → ∃ f, v = .ref f ∧ SchAt K T.C_Scheme H' f p0 n0 (srt k0) r0) ∧ (∀ v, acc[1]? = some v → ∃ f, v = .ref f ∧ SchAt K T.C_Scheme H' f p1 n1' (srt k1) r1))
      ⟨[], m4, S5.same (same_new hD), by omega, S5.nx (same_new hD), sD, rfl, fun v hv => (by simp at hv), fun v hv => (by simp at hv)⟩ (fun i H' _ ⟨_, _, _, _, x, _⟩ => (x _ _ sml).sq) ?_ ?_
    · rintro i x H6 H7 hi ⟨acc, m6, S6, h6, x6, sD6, hal, a0, a1⟩ ⟨rfl, hx⟩
      have M06 := M05.nx S5 x6
      have M16 := M15.nx S5 x6
      have hm6 : m6 ≤ 800000000 := by
        have : i < 2 := hi
        omega
      obtain e | e : i = 0 ∨ i = 1 := by
        have : i < 2 := hi
        omega
      · subst e
        obtain rfl : V.ref t0 = x := Option.some.inj hx
        walk_at "rd"
        intro f H8 m8 S8 h8 x8 hf
        have sD8 := x8 _ _ sD6
        have xx8 := x6.trans x8
        refine ⟨acc, sD8.at_, ?_, acc ++ [.ref f], m8, S8.put sD8, by omega, fun q o h => (xx8 q o h).put_ne sD8 (ne_of_none h.at_ hD), sD8.put_same, by rw [List.length_append, hal]; rfl, fun v hv => ?_, fun v hv => ?_⟩
        · rw [hal]
          decide
        · obtain rfl := List.eq_nil_of_length_eq_zero hal
          obtain rfl : V.ref f = v := Option.some.inj hv
          exact ⟨f, rfl, hf.put sD8.at_⟩
        · obtain rfl := List.eq_nil_of_length_eq_zero hal
          simp at hv
      · subst e
        obtain rfl : V.ref t1 = x := Option.some.inj hx
        walk_at "rd"
        intro f H8 m8 S8 h8 x8 hf
        have sD8 := x8 _ _ sD6
        have xx8 := x6.trans x8
        refine ⟨acc, sD8.at_, ?_, acc ++ [.ref f], m8, S8.put sD8, by omega, fun q o h => (xx8 q o h).put_ne sD8 (ne_of_none h.at_ hD), sD8.put_same, by rw [List.length_append, hal]; rfl, fun v hv => ?_, fun v hv => ?_⟩
        · rw [hal]
          decide
        · obtain ⟨w0, rfl⟩ : ∃ w0, acc = [w0] := List.length_eq_one_iff.mp hal
          obtain ⟨g, e', hg⟩ := a0 v hv
          exact ⟨g, e', (hg.nxU S6 x8).put sD8.at_⟩
        · obtain ⟨w0, rfl⟩ : ∃ w0, acc = [w0] := List.length_eq_one_iff.mp hal
          obtain rfl : V.ref f = v := Option.some.inj hv
          exact ⟨f, rfl, hf.put sD8.at_⟩
    · rintro H6 ⟨acc, m6, S6, h6, x6, sD6, hal, a0, a1⟩
      obtain ⟨v0, v1, rfl⟩ : ∃ v0 v1, acc = [v0, v1] := by
        match acc, hal with
        | [v0, v1], _ => exact ⟨v0, v1, rfl⟩
      obtain ⟨f0, rfl, d0⟩ := a0 _ rfl
      obtain ⟨f1, rfl, d1⟩ := a1 _ rfl
      have W6 : Lw K T.C_Scheme p ml D t0 t1 f0 f1 H6 m6 p0 p1 n0 n1' k0 k1 r0 r1 := ⟨S6, x6 _ _ sml, sD6, M05.nx S5 x6, M15.nx S5 x6, d0, d1, hk0, hk1⟩
      have h6' : m6 ≤ m4 + 2000 := h6
      have hm6 : m6 ≤ 500000 := by omega
      clear M05 M15 S5 x6 sml sD6 a0 a1 d0 d1 sD hqm hD
      refine Stop.cut (fun σ H' => True) (fun Qz hz => ?_) ?_
      · walk_at "rd"
        refine ⟨for_it walk_range (fun i σ H' => ∃ (y5 y6 y7 y8 y10 y11 y12 y13 y14 y15 : Option V) (m' : Nat), σ = [some (.ref a), some (.ref p), some (.ref na), some (.ref ml), some (.ref D), y5, y6, y7, y8, none, y10, y11, y12, y13, y14, y15] ∧ m' ≤ m6 + 1000 * i ∧ Lw K T.C_Scheme p ml D t0 t1 f0 f1 H' m' p0 p1 n0 n1' k0 k1 r0 r1)
          ⟨none, none, none, none, none, none, none, none, none, none, m6, rfl, by omega, W6⟩ (fun _ _ _ _ _ => trivial) ?_ ?_⟩
        · rintro i x _ H7 H7' hi ⟨y5, y6, y7, y8, y10, y11, y12, y13, y14, y15, m7, rfl, hm7, W7⟩ ⟨rfl, rfl⟩
          have hi10 : i < 10 := hi
          obtain ⟨t, f, pr, n, ks, ro, ht, hf, Z7⟩ := W7.pick i
          have hqm := W7.ml.sq (K := K)
          obtain ⟨⟨dm, Lm, htt, hLL⟩, isP, one, big, ok⟩ := id Z7.mo
          have hpl := pr_le isP
          have a0 : atI [V.int pr, V.int (n : Int), V.ref dm] 0 = some (.int pr) := rfl
          have a1 : atI [V.int pr, V.int (n : Int), V.ref dm] 1 = some (.int (n : Int)) := rfl
          have S7 := W7.S
          have hm7b : m7 ≤ 600000 := by omega
          walk_at "rd"
          intro sec H8 g0 g1 S8 x8
          have W8 := W7.nx S8 x8
          have Z8 := Z7.nx W7.S x8
          have htt8 := tupT_nxU W7.S x8 htt
          clear W7 Z7 htt hLL S7 hqm ht x8
          walk_at "rd"
          intro D2 hD2
          have e1 : ((n : Int) - 1).toNat = n - 1 := by omega
          refine lc_dru walk_range (by omega) p _ 1 (fun H y => ∃ z : Int, y = .int z) S8 hD2 (fun H H' y acc sD k h => h) (fun _ _ => trivial) ?_ ?_
          · intro j m2 x H9 H10 Qk hj S9 hm9 x9 hDx hy hk
            obtain ⟨rfl, rfl⟩ := hy
            have htt9 := tupT_nxU S8 x9 htt8
            walk_at "rd"
            intro z H11 z0 z1 S11 x11
            exact hk (.int z) H11 _ ⟨z, rfl⟩ S11 (Nat.le_refl _) x11
          · intro H9 m9 acc S9 hm9 x9 sD9 hlen hR
            have hitm : ∀ v ∈ acc, flatV v = true := fun v hv => by
              obtain ⟨z, rfl⟩ := hR v hv
              rfl
            have W9 := W8.nx S9 x9
            have Z9 := Z8.nx S8 x9
            have htt9 := tupT_nxU S8 x9 htt8
            have hacc : acc.length ≤ 40 := by omega
            clear W8 Z8 htt8 hR x9 S8
            walk_at "rd"
            refine ⟨by decide, fun la Ha nla sla hla => ?_⟩
            refine ⟨by decide, fun tb Hb ntb stb htb => ?_⟩
            walk_at "rd"
            refine ⟨⟨by decide, by decide, by decide⟩, ?_⟩
            refine ⟨by show 8 ≤ sizeLine; decide, fun od Hc nod sod hod => ?_⟩
            have sab := sla.trans stb
            have sac := sab.trans sod
            have Sc := S9.same sac
            have xc := S9.nx sac
            have Tc : Tn K T.C_Scheme p ml D t0 t1 f0 f1 t f od la tb Hc m9 p0 p1 n0 n1' k0 k1 r0 r1 pr n ks ro :=
              ⟨W9.nx Sc xc, Z9.nx S9 xc, Sep.of_newU S9 sac (sab.free nod) hod, Sep.of_newU S9 sac nla (sod _ _ (stb _ _ hla)), TupN.ofU Sc (sod.tupT (SqT.of htb))⟩
            have sDc := xc _ _ sD9
            have oksec : OkI la tb (.int sec) := .inl rfl
            have okacc : ∀ v ∈ acc, OkI la tb v := fun v hv => .inl (hitm v hv)
            clear W9 Z9 sla stb sod sab sac hla htb hod nod nla ntb xc S9 htt9 sD9
            refine Stop.cut (fun σ H' => ∃ (sec : V) (m' : Nat), σ = [some (.ref a), some (.ref p), some (.ref na), some (.ref ml), some (.ref D), some (.ref t), some (.int (0 + (i : Int))), some sec, some (.ref D2), none, some (.ref od), y11, y12, y13, y14, y15] ∧ OkI la tb sec ∧ m' ≤ m9 + 2 ∧ Tn K T.C_Scheme p ml D t0 t1 f0 f1 t f od la tb H' m' p0 p1 n0 n1' k0 k1 r0 r1 pr n ks ro ∧ Sep H' p D2 (.lst acc)) (fun Qz2 hz2 => ?_) ?_
            · walk_at "rd"
              intro u1 Hd h0 h1 Sd xd
              have Td := Tc.nx Sd xd
              have sDd := xd _ _ sDc
              have hod := Td.od.sq (K := K)
              walk_at "rd"
              refine ite2 (fun e => ?_) (fun e => ?_)
              · walk_at "rd"
                intro r He h0e h1e Se xe
                have Te := Td.nx Se xe
                have hoe := Te.od.sq (K := K)
                obtain ⟨v, hv, hvm⟩ := at_pick (l := oddL pr la tb) h0e (by show r < 8; exact h1e)
                walk_at "rd"
                exact hz2 _ _ ⟨v, m9 + 1 + 1, rfl, odd_ok hvm, by omega, Te, xe _ _ sDd⟩
              · exact hz2 _ _ ⟨.int sec, m9 + 1, rfl, oksec, by omega, Td, sDd⟩
            · rintro _ Hd ⟨sec, m', rfl, oksec, hm', Td, sDd⟩
              refine Stop.cut (fun σ H' => ∃ (y11 y12 : Option V) (fr : Addr) (xs : List V) (m3 : Nat), σ = [some (.ref a), some (.ref p), some (.ref na), some (.ref ml), some (.ref D), some (.ref t), some (.int (0 + (i : Int))), some sec, some (.ref fr), none, some (.ref od), y11, y12, y13, y14, y15] ∧ m3 ≤ m' + 10 ∧ Tn K T.C_Scheme p ml D t0 t1 f0 f1 t f od la tb H' m3 p0 p1 n0 n1' k0 k1 r0 r1 pr n ks ro ∧ Sep H' p fr (.lst xs) ∧ (∀ v ∈ xs, OkI la tb v) ∧ xs.length ≤ 200) (fun Qz2 hz2 => ?_) ?_
              · refine ⟨by decide, fun l Hf nf sf hf' => ?_⟩
                have Sf := Td.W.S.same sf
                have xf := Td.W.S.nx sf
                have Tf := Td.nx Sf xf
                have slf := Sep.of_newU Td.W.S sf nf hf'
                have sDf := xf _ _ sDd
                have hm' : m' ≤ 700000 := by omega
                walk_at "rd"
                intro u2 Hg h0 h1 Sg xg
                have Tg := Tf.nx Sg xg
                have hqg := (xg _ _ slf).sq (K := K)
                have sDg := xg _ _ sDf
                obtain ⟨cv, hcv, hcm⟩ := at_pick (l := [V.int 0, V.int 0, V.int 0, V.int 1, V.int 2]) h0 (by simpa using h1)
                obtain ⟨ct, rfl, hc0, hc1⟩ : ∃ k : Int, cv = .int k ∧ 0 ≤ k ∧ k ≤ 2 := by
                  simp only [List.mem_cons, List.not_mem_nil, or_false] at hcm
                  rcases hcm with rfl | rfl | rfl | rfl | rfl
                  all_goals exact ⟨_, rfl, by decide, by decide⟩
                clear Td Tf slf sDf sDd Sf xf xg
                walk_at "rd"
                refine ⟨for_it walk_range (fun j σ H' => ∃ (y11 y12 : Option V) (fr : Addr) (xs : List V) (m3 : Nat), σ = [some (.ref a), some (.ref p), some (.ref na), some (.ref ml), some (.ref D), some (.ref t), some (.int (0 + (i : Int))), some sec, some (.ref fr), none, some (.ref od), y11, y12, y13, y14, y15] ∧ m3 ≤ m' + 1 + 3 * j ∧ Tn K T.C_Scheme p ml D t0 t1 f0 f1 t f od la tb H' m3 p0 p1 n0 n1' k0 k1 r0 r1 pr n ks ro ∧ Sep H' p fr (.lst xs) ∧ (∀ v ∈ xs, OkI la tb v) ∧ xs.length + 1 ≤ 42 * 2 ^ j)
                  ⟨y11, y12, D2, acc, m' + 1, rfl, by omega, Tg, sDg, okacc, by omega⟩ (fun _ _ _ _ _ => trivial) ?_ ?_⟩
                · rintro j x _ H7 H7' hj ⟨y11, y12, fr, xs, m3, rfl, hm3, T7, sfr, okx, hxl⟩ ⟨rfl, rfl⟩
                  have hj2 : j < 2 := by omega
                  have hx90 : xs.length ≤ 90 := by
                    obtain e | e : j = 0 ∨ j = 1 := by omega
                    all_goals (subst e; simp at hxl; omega)
                  have hqf := sfr.sq (K := K)
                  have S7 := T7.W.S
                  walk_at "rd"
                  intro kk H8 h80 h81 S8 x8
                  have T8 := T7.nx S8 x8
                  have sf8 := x8 _ _ sfr
                  have hq8 := sf8.sq (K := K)
                  have hm3b : m3 ≤ 800000 := by omega
                  walk_at "rd"
                  intro l1 H9 n9 s9 h9
                  have S9 := S8.same s9
                  have x9 := S8.nx s9
                  have T9 := T8.nx S9 x9
                  have hod9 := T9.od.sq (K := K)
                  have sl1 := Sep.of_newU S8 s9 n9 h9
                  have sf9 := x9 _ _ sf8
                  clear T7 T8 hq8 sfr hqf S7
                  walk_at "rd"
                  intro r1 Ha h100 h101 Sa xa
                  have Ta := T9.nx Sa xa
                  have sla := xa _ _ sl1
                  have sfa := xa _ _ sf9
                  have hoda := Ta.od.sq (K := K)
                  obtain ⟨v, hv, hvm⟩ := at_pick (l := oddL pr la tb) h100 (by show r1 < 8; exact h101)
                  walk_at "rd"
                  refine ⟨by show 1 ≤ sizeLine; decide, fun l2 Hb n11 s11 h11 => ?_⟩
                  have hl1b := s11 _ _ sla.at_
                  have Sb := Sa.same s11
                  have xb := Sa.nx s11
                  have sfb := xb _ _ sfa
                  have Tb := Ta.nx Sb xb
                  clear T9 Ta sf8 sf9 hoda hod9
                  walk_at "rd"
                  have hlx : (cutV xs none (some kk)).length ≤ xs.length := cutV_length _ _ _
                  refine ⟨Nat.le_trans (show (cutV xs none (some kk)).length + 1 ≤ 1000 by omega) (by decide), fun l3 Hc n12 s12 h12 => ?_⟩
                  have Sc := Sb.same s12
                  have xc := Sb.nx s12
                  have sl3 := Sep.of_newU Sb s12 n12 h12
                  have sfc := xc _ _ sfb
                  have Tc' := Tb.nx Sc xc
                  have hqc := sfc.sq (K := K)
                  have hm3c : m3 + 1 + 1 ≤ 900000 := by omega
                  clear Tb sfb
                  walk_at "rd"
                  intro r2 Hd' h120 h121 Sd' xd'
                  have Te := Tc'.nx Sd' xd'
                  have sl3e := xd' _ _ sl3
                  have sfe := xd' _ _ sfc
                  have hqe := sfe.sq (K := K)
                  walk_at "rd"
                  intro l4 Hf n13 s13 h13
                  have hl3f := s13 _ _ sl3e.at_
                  have hly : (cutV xs (some (kk + r2)) none).length ≤ xs.length := cutV_length _ _ _
                  have Sf := Sd'.same s13
                  have xf := Sd'.nx s13
                  have Tf := Te.nx Sf xf
                  have sff := xf _ _ sfe
                  clear Tc' Te
                  walk_at "rd"
                  refine ⟨?_, fun l5 Hg' n14 s14 h14 => ?_⟩
                  · rw [List.length_append]
                    exact Nat.le_trans (show (cutV xs none (some kk)).length + 1 + (cutV xs (some (kk + r2)) none).length ≤ 1000 by omega) (by decide)
                  have Sg' := Sf.same s14
                  refine ⟨_, _, l5, _, m3 + 1 + 1 + 1, rfl, by omega, Tf.nx Sg' (Sf.nx s14), Sep.of_newU Sf s14 n14 h14, fun v' hv' => ?_, ?_⟩
                  · rcases List.mem_append.mp hv' with h | h
                    · rcases List.mem_append.mp h with h | h
                      · exact okx _ (cutV_mem h)
                      · rw [List.mem_singleton.mp h]
                        exact odd_ok hvm
                    · exact okx _ (cutV_mem h)
                  · rw [List.length_append, List.length_append, Nat.pow_succ]
                    have : ([v] : List V).length = 1 := rfl
                    omega
                · rintro σ H7 ⟨y11, y12, fr, xs, m3, rfl, hm3, T7, sfr, okx, hxl⟩
                  have hc2 : ct.toNat ≤ 2 := by omega
                  have hx : xs.length ≤ 200 := by
                    obtain e | e | e : ct.toNat = 0 ∨ ct.toNat = 1 ∨ ct.toNat = 2 := by omega
                    all_goals (rw [e] at hxl; simp at hxl; omega)
                  exact hz2 _ _ ⟨y11, y12, fr, xs, m3, rfl, by omega, T7, sfr, okx, hx⟩
              · rintro _ Hf ⟨y11, y12, fr, xs, m3, rfl, hm3, Tf, sfr, okx, hxl⟩
                have hq := sfr.sq (K := K)
                have Sf := Tf.W.S
                refine Stop.cut (fun σ H' => ∃ (y11 y12 : Option V) (fr : Addr) (xs : List V) (m4 : Nat), σ = [some (.ref a), some (.ref p), some (.ref na), some (.ref ml), some (.ref D), some (.ref t), some (.int (0 + (i : Int))), some sec, some (.ref fr), none, some (.ref od), y11, y12, y13, y14, y15] ∧ m4 ≤ m' + 20 ∧ Tn K T.C_Scheme p ml D t0 t1 f0 f1 t f od la tb H' m4 p0 p1 n0 n1' k0 k1 r0 r1 pr n ks ro ∧ Sep H' p fr (.lst xs) ∧ (∀ v ∈ xs, OkI la tb v) ∧ xs.length ≤ 200) (fun Qz3 hz3 => ?_) ?_
                · have hm3b : m3 ≤ 900000 := by omega
                  walk_at "rd"
                  intro u3 Hg h0 h1 Sg xg
                  have Tg := Tf.nx Sg xg
                  have sfg := xg _ _ sfr
                  have hqg := sfg.sq (K := K)
                  walk_at "rd"
                  refine ite2 (fun e => ?_) (fun e => ?_)
                  · walk_at "rd"
                    intro l6 Hh n6 s6 h6
                    have Sh := Sg.same s6
                    refine hz3 _ _ ⟨_, _, l6, _, m3 + 1, rfl, by omega, Tg.nx Sh (Sg.nx s6), Sep.of_newU Sg s6 n6 h6, fun v hv => okx v (cutV_mem hv), Nat.le_trans (cutV_length _ _ _) hxl⟩
                  · exact hz3 _ _ ⟨_, _, fr, xs, m3 + 1, rfl, by omega, Tg, sfg, okx, hxl⟩
                · rintro _ Hg ⟨y11, y12, fr, xs, m4, rfl, hm4, Tg, sfr, okx, hxl⟩
                  have hq := sfr.sq (K := K)
                  have Sg := Tg.W.S
                  walk_at "rd"
                  intro pd Hh nh sh hh
                  have Sh := Sg.same sh
                  have xh := Sg.nx sh
                  have Th := Tg.nx Sh xh
                  have sfh := xh _ _ sfr
                  have sph := Sep.of_newU Sg sh nh hh
                  have hm4b : m4 ≤ 1000000 := by omega
                  clear Tg sfr hq
                  refine Stop.cut (fun σ H' => ∃ (y14 y15 : Option V) (m5 : Nat), σ = [some (.ref a), some (.ref p), some (.ref na), some (.ref ml), some (.ref D), some (.ref t), some (.int (0 + (i : Int))), some sec, some (.ref fr), none, some (.ref od), y11, y12, some (.ref pd), y14, y15] ∧ m5 ≤ m4 + 400 ∧ Tn K T.C_Scheme p ml D t0 t1 f0 f1 t f od la tb H' m5 p0 p1 n0 n1' k0 k1 r0 r1 pr n ks ro ∧ Sep H' p fr (.lst xs) ∧ Sep H' p pd (.lst xs)) (fun Qz4 hz4 => ?_) ?_
                  · walk_at "rd"
                    refine ⟨by decide, fun w0 Hi ni si hi => ?_⟩
                    have Si := Sh.same si
                    have xi := Sh.nx si
                    have Ti := Th.nx Si xi
                    have sfi := xi _ _ sfh
                    have spi := xi _ _ sph
                    have hqi : SqL K Hi w0 [V.int 0, V.int 1] := SqL.of hi
                    have hm4c : m4 ≤ 900000000 := by omega
                    have h400 : ([V.int 0, V.int 1] : List V).length ≤ 400 := by decide
                    walk_at "rd"
                    intro wl Hj ys m5 nj Sj hm5 xj swl hpm
                    have Tj := Ti.nx Sj xj
                    have sfj := xj _ _ sfi
                    have spj := xj _ _ spi
                    clear Th Ti sfh sph sfi spi hqi
                    have hqw := swl.sq (K := K)
                    refine ⟨_, rfl, ⟨_, hqw⟩, ⟨for_it (walk_list (xs := ys)) (fun w σ H' => ∃ (y14 y15 : Option V), σ = [some (.ref a), some (.ref p), some (.ref na), some (.ref ml), some (.ref D), some (.ref t), some (.int (0 + (i : Int))), some sec, some (.ref fr), none, some (.ref od), y11, y12, some (.ref pd), y14, y15] ∧ Tn K T.C_Scheme p ml D t0 t1 f0 f1 t f od la tb H' m5 p0 p1 n0 n1' k0 k1 r0 r1 pr n ks ro ∧ Sep H' p fr (.lst xs) ∧ Sep H' p pd (.lst xs) ∧ Sep H' p wl (.lst ys))
                      ⟨y14, y15, rfl, Tj, sfj, spj, swl⟩ (fun w σ H' _ ⟨_, _, _, _, _, _, z⟩ => z.sq) ?_ ?_⟩⟩
                    · rintro w x _ Hk Hk' hw ⟨y14, y15, rfl, Tk, sfk, spk, swk⟩ ⟨rfl, hx⟩
                      have hmx : x ∈ [V.int 0, V.int 1] := hpm.mem_iff.mp (List.mem_of_getElem? hx)
                      obtain ⟨g, rfl⟩ : ∃ g : Int, x = .int g := by
                        simp only [List.mem_cons, List.not_mem_nil, or_false] at hmx
                        rcases hmx with rfl | rfl
                        · exact ⟨_, rfl⟩
                        · exact ⟨_, rfl⟩
                      have hdq := Tk.W.dl.sq (K := K)
                      have hsc := Tk.Z.sc
                      have hws : NamesOk (srt ks) := Tk.Z.nk.perm (srt_perm ks)
                      have hro : ∀ k ∈ srt ks, RowsOk pr n (ro k) := fun k hk => ok k ((srt_perm ks).mem_iff.mp hk)
                      have hsi : Itm K Hk' sec := oksec.itm Tk.la Tk.tb
                      have hxi : ∀ v ∈ xs, Itm K Hk' v := fun v hv => (okx v hv).itm Tk.la Tk.tb
                      have hx1000 : xs.length ≤ 1000 := by omega
                      have hqp := spk.sq (K := K)
                      walk_at "rd"
                      intro u Hl nu su ho
                      have Sl := Tk.W.S.same su
                      have xl := Tk.W.S.nx su
                      have Tl := Tk.nx Sl xl
                      have sfl := xl _ _ sfk
                      clear hsi hxi
                      have hMo := Tl.Z.mo.mo
                      have hnk := Tl.Z.nk
                      have hsi : Itm K Hl sec := oksec.itm Tl.la Tl.tb
                      have hxi : ∀ v ∈ xs, Itm K Hl v := fun v hv => (okx v hv).itm Tl.la Tl.tb
                      have hqf := sfl.sq (K := K)
                      walk_at "rd"
                      intro u2 Hm nu2 su2 ho2
                      have Sm := Sl.same su2
                      have xm := Sl.nx su2
                      have Tm := Tl.nx Sm xm
                      obtain ⟨kd, vd, bs, h1, h2, h3, hkd⟩ := out_same (srt_perm ks) (oksec.itm Tm.la Tm.tb) (fun v hv => (okx v hv).itm Tm.la Tm.tb) (ho.1.same su2) ho2
                      have hqpm := (xm _ _ (xl _ _ spk)).sq (K := K)
                      have hqfm := (xm _ _ sfl).sq (K := K)
                      have hEq : Paired (EqN K Hm 1) xs xs := same_items fun v hv => (okx v hv).itm Tm.la Tm.tb
                      have ea : atI [V.str kd, vd] 0 = some (.str kd) := rfl
                      clear hsc hMo hqf hqp hqw
                      walk_at "rd"
                      refine ite2 (fun e => ?_) (fun e => ?_)
                      · obtain ⟨q', kvs, hu', hq', hq0⟩ := ho.2 (hkd (by rw [V.str.inj (of_decide_eq_true e)]; decide +kernel))
                        have hum : SqT K Hm u [V.str "told", .ref q'] := SqT.of (su2 _ _ hu')
                        have hqm' := su2 _ _ hq'
                        have ea1 : atI [V.str "told", .ref q'] 1 = some (.ref q') := rfl
                        clear h1 h2 h3 ea
                        walk_at "rd"
                        have sq' := Sep.of_newU Tk.W.S (su.trans su2) hq0 hqm'
                        have xx : Nx p Hk' (upd Hm q' (.dK [])) := fun qq o h => ((xl.trans xm) qq o h).put_ne sq' (ne_of_none h.at_ hq0)
                        have Tz := Tk.nx (Sm.put sq') xx
                        refine ⟨.inr (.inr (.inl ⟨rfl, .inl ⟨_, hqm'⟩⟩)), q', kvs, rfl, rfl, hqm', ?_⟩
                        exact ⟨_, _, rfl, Tz, xx _ _ sfk, xx _ _ spk, xx _ _ swk⟩
                      · exact ⟨_, _, rfl, Tm, xm _ _ sfl, xm _ _ (xl _ _ spk), xm _ _ (xl _ _ swk)⟩
                    · rintro σ Hk ⟨y14, y15, rfl, Tk, sfk, spk, swk⟩
                      exact hz4 _ _ ⟨y14, y15, m5, rfl, hm5, Tk, sfk, spk⟩
                  · rintro _ Hi ⟨y14, y15, m5, rfl, hm5, Ti, sfi, spi⟩
                    have hdq := Ti.W.dl.sq (K := K)
                    have hqf := sfi.sq (K := K)
                    walk_at "rd"
                    intro tt Hj nj sj hj
                    have Sj := Ti.W.S.same sj
                    have xj := Ti.W.S.nx sj
                    have Tj := Ti.nx Sj xj
                    have sfj := xj _ _ sfi
                    have hsc := Tj.Z.sc
                    have hws : NamesOk (srt ks) := Tj.Z.nk.perm (srt_perm ks)
                    have hro : ∀ k ∈ srt ks, RowsOk pr n (ro k) := fun k hk => ok k ((srt_perm ks).mem_iff.mp hk)
                    have hsi : Itm K Hj sec := oksec.itm Tj.la Tj.tb
                    have hxi : ∀ v ∈ xs, Itm K Hj v := fun v hv => (okx v hv).itm Tj.la Tj.tb
                    have hx1000 : xs.length ≤ 1000 := by omega
                    have hqt : SqT K Hj tt xs := SqT.of hj
                    walk_at "rd"
                    intro u Hl nu su ho
                    have Sl := Tj.W.S.same su
                    have xl := Tj.W.S.nx su
                    have Tl := Tj.nx Sl xl
                    have sfl := xl _ _ sfj
                    clear hsi hxi hqf
                    have hMo := Tl.Z.mo.mo
                    have hnk := Tl.Z.nk
                    have hsi : Itm K Hl sec := oksec.itm Tl.la Tl.tb
                    have hxi : ∀ v ∈ xs, Itm K Hl v := fun v hv => (okx v hv).itm Tl.la Tl.tb
                    have hqf := sfl.sq (K := K)
                    walk_at "rd"
                    intro u2 Hm nu2 su2 ho2
                    have Tm := Tl.nx (Tl.W.S.same su2) (Tl.W.S.nx su2)
                    obtain ⟨kd, vd, bs, h1, h2, h3, hkd⟩ := out_same (srt_perm ks) (oksec.itm Tm.la Tm.tb) (fun v hv => (okx v hv).itm Tm.la Tm.tb) (ho.1.same su2) ho2
                    have hWm := Tm.W
                    have hbud : m5 ≤ m6 + 1000 * (i + 1) := by omega
                    walk_at "rd"
                    exact hWm
        · rintro σ H7 ⟨y5, y6, y7, y8, y10, y11, y12, y13, y14, y15, m7, rfl, hm7, W7⟩
          exact hz _ _ trivial
      · rintro σ H7 _
        exact q _
end
end P

set_option Elab.async false
set_option linter.all false
set_option maxRecDepth 100000
set_option maxHeartbeats 4000000
namespace P
open PySem PySem.Spec PyProof.Rows L2 OS
theorem ve_at (S : Addr) : PySem.HandSPX.refsVE (.ref S :: [.type "ValueError", .type "Exception", .type "BaseException", .type "object"]) = true :=
  (show PySem.HandSPX.refsVE [.type "ValueError", .type "Exception", .type "BaseException", .type "object"] = true by decide +kernel)
theorem all_mk {l : PySem.W.OpenLaw} {w : World} {K : PySem.W.Frag} {h : Heap} {mg : Str → Option Value} {fa f_BadName__init_ f_DuplicateName__init_ f_UnknownName__init_ f_BadCount__init_ f_BadPrime__init_ f_BadNumber__init_ f_BadRow__init_ f_valid_name f_checked_persons f_check_prime f_is_whole f_is_number f_has_numbers f_check_number f_check_numbers f_check_rows f_check_width f_product f_Scheme__init_ f_Scheme_prime f_Scheme_width f_Scheme_persons f_Scheme_rows f_check_rows_of_person f_deal f_law_start f_law_take f_law_shuffled f_law_persons f_law_groups f_law_has f_law_least f_law_opens f_law_family f_law_turned f_law_goal f_law_dot f_law_lists f_law_plain_lists f_law_model f_law_powers f_law_scheme f_law_dealt f_law_is_number f_law_due f_law_told f_law : Addr} (X : K.In h) (G : h.Ns mainGlobals mg) (hfa : mg "law" = some (.ref fa))
    {od0 an0 : Option Addr} {sl0 : Array (Option Value)} {oc0 kV0 dc0 pm0 cd0 ct0 : Value}
    {od1 an1 : Option Addr} {sl1 : Array (Option Value)} {oc1 kV1 dc1 pm1 cd1 ct1 : Value}
    {od2 an2 : Option Addr} {sl2 : Array (Option Value)} {oc2 kV2 dc2 pm2 cd2 ct2 : Value}
    {od3 an3 : Option Addr} {sl3 : Array (Option Value)} {oc3 kV3 dc3 pm3 cd3 ct3 : Value}
    {od4 an4 : Option Addr} {sl4 : Array (Option Value)} {oc4 kV4 dc4 pm4 cd4 ct4 : Value}
    {od5 an5 : Option Addr} {sl5 : Array (Option Value)} {oc5 kV5 dc5 pm5 cd5 ct5 : Value}
    {od6 an6 : Option Addr} {sl6 : Array (Option Value)} {oc6 kV6 dc6 pm6 cd6 ct6 : Value}
    {od7 an7 : Option Addr} {sl7 : Array (Option Value)} {oc7 kV7 dc7 pm7 cd7 ct7 : Value}
    {od8 an8 : Option Addr} {sl8 : Array (Option Value)} {oc8 kV8 dc8 pm8 cd8 ct8 : Value}
    {od9 an9 : Option Addr} {sl9 : Array (Option Value)} {oc9 kV9 dc9 pm9 cd9 ct9 : Value}
    {od10 an10 : Option Addr} {sl10 : Array (Option Value)} {oc10 kV10 dc10 pm10 cd10 ct10 : Value}
    {od11 an11 : Option Addr} {sl11 : Array (Option Value)} {oc11 kV11 dc11 pm11 cd11 ct11 : Value}
    {od12 an12 : Option Addr} {sl12 : Array (Option Value)} {oc12 kV12 dc12 pm12 cd12 ct12 : Value}
    {od13 an13 : Option Addr} {sl13 : Array (Option Value)} {oc13 kV13 dc13 pm13 cd13 ct13 : Value}
    {od14 an14 : Option Addr} {sl14 : Array (Option Value)} {oc14 kV14 dc14 pm14 cd14 ct14 : Value}
    {od15 an15 : Option Addr} {sl15 : Array (Option Value)} {oc15 kV15 dc15 pm15 cd15 ct15 : Value}
    {od16 an16 : Option Addr} {sl16 : Array (Option Value)} {oc16 kV16 dc16 pm16 cd16 ct16 : Value}
    {od17 an17 : Option Addr} {sl17 : Array (Option Value)} {oc17 kV17 dc17 pm17 cd17 ct17 : Value}
    {od18 an18 : Option Addr} {sl18 : Array (Option Value)} {oc18 kV18 dc18 pm18 cd18 ct18 : Value}
    {od19 an19 : Option Addr} {sl19 : Array (Option Value)} {oc19 kV19 dc19 pm19 cd19 ct19 : Value}
    {od20 an20 : Option Addr} {sl20 : Array (Option Value)} {oc20 kV20 dc20 pm20 cd20 ct20 : Value}
    {od21 an21 : Option Addr} {sl21 : Array (Option Value)} {oc21 kV21 dc21 pm21 cd21 ct21 : Value}
    {od22 an22 : Option Addr} {sl22 : Array (Option Value)} {oc22 kV22 dc22 pm22 cd22 ct22 : Value}
    {od23 an23 : Option Addr} {sl23 : Array (Option Value)} {oc23 kV23 dc23 pm23 cd23 ct23 : Value}
    {od24 an24 : Option Addr} {sl24 : Array (Option Value)} {oc24 kV24 dc24 pm24 cd24 ct24 : Value}
    {od25 an25 : Option Addr} {sl25 : Array (Option Value)} {oc25 kV25 dc25 pm25 cd25 ct25 : Value}
    {od26 an26 : Option Addr} {sl26 : Array (Option Value)} {oc26 kV26 dc26 pm26 cd26 ct26 : Value}
    {od27 an27 : Option Addr} {sl27 : Array (Option Value)} {oc27 kV27 dc27 pm27 cd27 ct27 : Value}
    {od28 an28 : Option Addr} {sl28 : Array (Option Value)} {oc28 kV28 dc28 pm28 cd28 ct28 : Value}
    {od29 an29 : Option Addr} {sl29 : Array (Option Value)} {oc29 kV29 dc29 pm29 cd29 ct29 : Value}
    {od30 an30 : Option Addr} {sl30 : Array (Option Value)} {oc30 kV30 dc30 pm30 cd30 ct30 : Value}
    {od31 an31 : Option Addr} {sl31 : Array (Option Value)} {oc31 kV31 dc31 pm31 cd31 ct31 : Value}
    {od32 an32 : Option Addr} {sl32 : Array (Option Value)} {oc32 kV32 dc32 pm32 cd32 ct32 : Value}
    {od33 an33 : Option Addr} {sl33 : Array (Option Value)} {oc33 kV33 dc33 pm33 cd33 ct33 : Value}
    {od34 an34 : Option Addr} {sl34 : Array (Option Value)} {oc34 kV34 dc34 pm34 cd34 ct34 : Value}
    {od35 an35 : Option Addr} {sl35 : Array (Option Value)} {oc35 kV35 dc35 pm35 cd35 ct35 : Value}
    {od36 an36 : Option Addr} {sl36 : Array (Option Value)} {oc36 kV36 dc36 pm36 cd36 ct36 : Value}
    {od37 an37 : Option Addr} {sl37 : Array (Option Value)} {oc37 kV37 dc37 pm37 cd37 ct37 : Value}
    {od38 an38 : Option Addr} {sl38 : Array (Option Value)} {oc38 kV38 dc38 pm38 cd38 ct38 : Value}
    {od39 an39 : Option Addr} {sl39 : Array (Option Value)} {oc39 kV39 dc39 pm39 cd39 ct39 : Value}
    {od40 an40 : Option Addr} {sl40 : Array (Option Value)} {oc40 kV40 dc40 pm40 cd40 ct40 : Value}
    {od41 an41 : Option Addr} {sl41 : Array (Option Value)} {oc41 kV41 dc41 pm41 cd41 ct41 : Value}
    {od42 an42 : Option Addr} {sl42 : Array (Option Value)} {oc42 kV42 dc42 pm42 cd42 ct42 : Value}
    {od43 an43 : Option Addr} {sl43 : Array (Option Value)} {oc43 kV43 dc43 pm43 cd43 ct43 : Value}
    {od44 an44 : Option Addr} {sl44 : Array (Option Value)} {oc44 kV44 dc44 pm44 cd44 ct44 : Value}
    {od45 an45 : Option Addr} {sl45 : Array (Option Value)} {oc45 kV45 dc45 pm45 cd45 ct45 : Value}
    {od46 an46 : Option Addr} {sl46 : Array (Option Value)} {oc46 kV46 dc46 pm46 cd46 ct46 : Value}
    {C_ShareError C_Scheme C_BadName C_DuplicateName C_UnknownName C_BadCount C_BadPrime C_BadNumber C_BadRow : Addr} {p_prime p_width p_persons : Addr} {rest_prime rest_width rest_persons : List Value}
    {nmBadName qBadName : Str} {NBadName : Addr} {bsBadName : List Value} {snBadName : List Str} {subBadName : List Value} {abBadName : Bool} {colBadName : Option Bool} {ddBadName : Option Addr} {x0BadName x1BadName x2BadName x3BadName x5BadName : Option Value}
    (aCBadName : PySem.W.nsIn K mainGlobals "BadName" = some (some (.ref C_BadName)))
    (xCBadName : K.lookup C_BadName = some (excClassObj nmBadName qBadName C_BadName NBadName bsBadName (.ref C_ShareError :: [.type "ValueError", .type "Exception", .type "BaseException", .type "object"]) true snBadName subBadName abBadName colBadName ddBadName x0BadName x1BadName x2BadName x3BadName x5BadName "ValueError.__new__"))
    (eCBadName : errB K C_BadName = true)
    (iCBadName : PySem.W.findIn K (.ref C_BadName) "__init__" = some (some (.ref f_BadName__init_)))
    (tIBadName : PySem.W.typeIn K (.ref f_BadName__init_) = some (.type "function"))
    (nfBadName : PySem.W.findIn K (.ref C_BadName) "name" = some none)
    {nmDuplicateName qDuplicateName : Str} {NDuplicateName : Addr} {bsDuplicateName : List Value} {snDuplicateName : List Str} {subDuplicateName : List Value} {abDuplicateName : Bool} {colDuplicateName : Option Bool} {ddDuplicateName : Option Addr} {x0DuplicateName x1DuplicateName x2DuplicateName x3DuplicateName x5DuplicateName : Option Value}
    (aCDuplicateName : PySem.W.nsIn K mainGlobals "DuplicateName" = some (some (.ref C_DuplicateName)))
    (xCDuplicateName : K.lookup C_DuplicateName = some (excClassObj nmDuplicateName qDuplicateName C_DuplicateName NDuplicateName bsDuplicateName (.ref C_ShareError :: [.type "ValueError", .type "Exception", .type "BaseException", .type "object"]) true snDuplicateName subDuplicateName abDuplicateName colDuplicateName ddDuplicateName x0DuplicateName x1DuplicateName x2DuplicateName x3DuplicateName x5DuplicateName "ValueError.__new__"))
    (eCDuplicateName : errB K C_DuplicateName = true)
    (iCDuplicateName : PySem.W.findIn K (.ref C_DuplicateName) "__init__" = some (some (.ref f_DuplicateName__init_)))
    (tIDuplicateName : PySem.W.typeIn K (.ref f_DuplicateName__init_) = some (.type "function"))
    (nfDuplicateName : PySem.W.findIn K (.ref C_DuplicateName) "name" = some none)
    {nmUnknownName qUnknownName : Str} {NUnknownName : Addr} {bsUnknownName : List Value} {snUnknownName : List Str} {subUnknownName : List Value} {abUnknownName : Bool} {colUnknownName : Option Bool} {ddUnknownName : Option Addr} {x0UnknownName x1UnknownName x2UnknownName x3UnknownName x5UnknownName : Option Value}
    (aCUnknownName : PySem.W.nsIn K mainGlobals "UnknownName" = some (some (.ref C_UnknownName)))
    (xCUnknownName : K.lookup C_UnknownName = some (excClassObj nmUnknownName qUnknownName C_UnknownName NUnknownName bsUnknownName (.ref C_ShareError :: [.type "ValueError", .type "Exception", .type "BaseException", .type "object"]) true snUnknownName subUnknownName abUnknownName colUnknownName ddUnknownName x0UnknownName x1UnknownName x2UnknownName x3UnknownName x5UnknownName "ValueError.__new__"))
    (eCUnknownName : errB K C_UnknownName = true)
    (iCUnknownName : PySem.W.findIn K (.ref C_UnknownName) "__init__" = some (some (.ref f_UnknownName__init_)))
    (tIUnknownName : PySem.W.typeIn K (.ref f_UnknownName__init_) = some (.type "function"))
    (nfUnknownName : PySem.W.findIn K (.ref C_UnknownName) "name" = some none)
    {nmBadCount qBadCount : Str} {NBadCount : Addr} {bsBadCount : List Value} {snBadCount : List Str} {subBadCount : List Value} {abBadCount : Bool} {colBadCount : Option Bool} {ddBadCount : Option Addr} {x0BadCount x1BadCount x2BadCount x3BadCount x5BadCount : Option Value}
    (aCBadCount : PySem.W.nsIn K mainGlobals "BadCount" = some (some (.ref C_BadCount)))
    (xCBadCount : K.lookup C_BadCount = some (excClassObj nmBadCount qBadCount C_BadCount NBadCount bsBadCount (.ref C_ShareError :: [.type "ValueError", .type "Exception", .type "BaseException", .type "object"]) true snBadCount subBadCount abBadCount colBadCount ddBadCount x0BadCount x1BadCount x2BadCount x3BadCount x5BadCount "ValueError.__new__"))
    (eCBadCount : errB K C_BadCount = true)
    (iCBadCount : PySem.W.findIn K (.ref C_BadCount) "__init__" = some (some (.ref f_BadCount__init_)))
    (tIBadCount : PySem.W.typeIn K (.ref f_BadCount__init_) = some (.type "function"))
    (nfBadCount : PySem.W.findIn K (.ref C_BadCount) "count" = some none)
    {nmBadPrime qBadPrime : Str} {NBadPrime : Addr} {bsBadPrime : List Value} {snBadPrime : List Str} {subBadPrime : List Value} {abBadPrime : Bool} {colBadPrime : Option Bool} {ddBadPrime : Option Addr} {x0BadPrime x1BadPrime x2BadPrime x3BadPrime x5BadPrime : Option Value}
    (aCBadPrime : PySem.W.nsIn K mainGlobals "BadPrime" = some (some (.ref C_BadPrime)))
    (xCBadPrime : K.lookup C_BadPrime = some (excClassObj nmBadPrime qBadPrime C_BadPrime NBadPrime bsBadPrime (.ref C_ShareError :: [.type "ValueError", .type "Exception", .type "BaseException", .type "object"]) true snBadPrime subBadPrime abBadPrime colBadPrime ddBadPrime x0BadPrime x1BadPrime x2BadPrime x3BadPrime x5BadPrime "ValueError.__new__"))
    (eCBadPrime : errB K C_BadPrime = true)
    (iCBadPrime : PySem.W.findIn K (.ref C_BadPrime) "__init__" = some (some (.ref f_BadPrime__init_)))
    (tIBadPrime : PySem.W.typeIn K (.ref f_BadPrime__init_) = some (.type "function"))
    (nfBadPrime : PySem.W.findIn K (.ref C_BadPrime) "number" = some none)
    {nmBadNumber qBadNumber : Str} {NBadNumber : Addr} {bsBadNumber : List Value} {snBadNumber : List Str} {subBadNumber : List Value} {abBadNumber : Bool} {colBadNumber : Option Bool} {ddBadNumber : Option Addr} {x0BadNumber x1BadNumber x2BadNumber x3BadNumber x5BadNumber : Option Value}
    (aCBadNumber : PySem.W.nsIn K mainGlobals "BadNumber" = some (some (.ref C_BadNumber)))
    (xCBadNumber : K.lookup C_BadNumber = some (excClassObj nmBadNumber qBadNumber C_BadNumber NBadNumber bsBadNumber (.ref C_ShareError :: [.type "ValueError", .type "Exception", .type "BaseException", .type "object"]) true snBadNumber subBadNumber abBadNumber colBadNumber ddBadNumber x0BadNumber x1BadNumber x2BadNumber x3BadNumber x5BadNumber "ValueError.__new__"))
    (eCBadNumber : errB K C_BadNumber = true)
    (iCBadNumber : PySem.W.findIn K (.ref C_BadNumber) "__init__" = some (some (.ref f_BadNumber__init_)))
    (tIBadNumber : PySem.W.typeIn K (.ref f_BadNumber__init_) = some (.type "function"))
    (nfBadNumber : PySem.W.findIn K (.ref C_BadNumber) "value" = some none)
    {nmBadRow qBadRow : Str} {NBadRow : Addr} {bsBadRow : List Value} {snBadRow : List Str} {subBadRow : List Value} {abBadRow : Bool} {colBadRow : Option Bool} {ddBadRow : Option Addr} {x0BadRow x1BadRow x2BadRow x3BadRow x5BadRow : Option Value}
    (aCBadRow : PySem.W.nsIn K mainGlobals "BadRow" = some (some (.ref C_BadRow)))
    (xCBadRow : K.lookup C_BadRow = some (excClassObj nmBadRow qBadRow C_BadRow NBadRow bsBadRow (.ref C_ShareError :: [.type "ValueError", .type "Exception", .type "BaseException", .type "object"]) true snBadRow subBadRow abBadRow colBadRow ddBadRow x0BadRow x1BadRow x2BadRow x3BadRow x5BadRow "ValueError.__new__"))
    (eCBadRow : errB K C_BadRow = true)
    (iCBadRow : PySem.W.findIn K (.ref C_BadRow) "__init__" = some (some (.ref f_BadRow__init_)))
    (tIBadRow : PySem.W.typeIn K (.ref f_BadRow__init_) = some (.type "function"))
    (nfBadRow : PySem.W.findIn K (.ref C_BadRow) "value" = some none)
    (ex_BadName_BadName : PySem.W.exmOne K (.ref C_BadName) (.ref C_BadName) = some true)
    (ex_BadName_DuplicateName : PySem.W.exmOne K (.ref C_BadName) (.ref C_DuplicateName) = some false)
    (ex_BadName_UnknownName : PySem.W.exmOne K (.ref C_BadName) (.ref C_UnknownName) = some false)
    (ex_BadName_BadCount : PySem.W.exmOne K (.ref C_BadName) (.ref C_BadCount) = some false)
    (ex_BadName_BadPrime : PySem.W.exmOne K (.ref C_BadName) (.ref C_BadPrime) = some false)
    (ex_BadName_BadNumber : PySem.W.exmOne K (.ref C_BadName) (.ref C_BadNumber) = some false)
    (ex_BadName_BadRow : PySem.W.exmOne K (.ref C_BadName) (.ref C_BadRow) = some false)
    (ex_DuplicateName_BadName : PySem.W.exmOne K (.ref C_DuplicateName) (.ref C_BadName) = some false)
    (ex_DuplicateName_DuplicateName : PySem.W.exmOne K (.ref C_DuplicateName) (.ref C_DuplicateName) = some true)
    (ex_DuplicateName_UnknownName : PySem.W.exmOne K (.ref C_DuplicateName) (.ref C_UnknownName) = some false)
    (ex_DuplicateName_BadCount : PySem.W.exmOne K (.ref C_DuplicateName) (.ref C_BadCount) = some false)
    (ex_DuplicateName_BadPrime : PySem.W.exmOne K (.ref C_DuplicateName) (.ref C_BadPrime) = some false)
    (ex_DuplicateName_BadNumber : PySem.W.exmOne K (.ref C_DuplicateName) (.ref C_BadNumber) = some false)
    (ex_DuplicateName_BadRow : PySem.W.exmOne K (.ref C_DuplicateName) (.ref C_BadRow) = some false)
    (ex_UnknownName_BadName : PySem.W.exmOne K (.ref C_UnknownName) (.ref C_BadName) = some false)
    (ex_UnknownName_DuplicateName : PySem.W.exmOne K (.ref C_UnknownName) (.ref C_DuplicateName) = some false)
    (ex_UnknownName_UnknownName : PySem.W.exmOne K (.ref C_UnknownName) (.ref C_UnknownName) = some true)
    (ex_UnknownName_BadCount : PySem.W.exmOne K (.ref C_UnknownName) (.ref C_BadCount) = some false)
    (ex_UnknownName_BadPrime : PySem.W.exmOne K (.ref C_UnknownName) (.ref C_BadPrime) = some false)
    (ex_UnknownName_BadNumber : PySem.W.exmOne K (.ref C_UnknownName) (.ref C_BadNumber) = some false)
    (ex_UnknownName_BadRow : PySem.W.exmOne K (.ref C_UnknownName) (.ref C_BadRow) = some false)
    (ex_BadCount_BadName : PySem.W.exmOne K (.ref C_BadCount) (.ref C_BadName) = some false)
    (ex_BadCount_DuplicateName : PySem.W.exmOne K (.ref C_BadCount) (.ref C_DuplicateName) = some false)
    (ex_BadCount_UnknownName : PySem.W.exmOne K (.ref C_BadCount) (.ref C_UnknownName) = some false)
    (ex_BadCount_BadCount : PySem.W.exmOne K (.ref C_BadCount) (.ref C_BadCount) = some true)
    (ex_BadCount_BadPrime : PySem.W.exmOne K (.ref C_BadCount) (.ref C_BadPrime) = some false)
    (ex_BadCount_BadNumber : PySem.W.exmOne K (.ref C_BadCount) (.ref C_BadNumber) = some false)
    (ex_BadCount_BadRow : PySem.W.exmOne K (.ref C_BadCount) (.ref C_BadRow) = some false)
    (ex_BadPrime_BadName : PySem.W.exmOne K (.ref C_BadPrime) (.ref C_BadName) = some false)
    (ex_BadPrime_DuplicateName : PySem.W.exmOne K (.ref C_BadPrime) (.ref C_DuplicateName) = some false)
    (ex_BadPrime_UnknownName : PySem.W.exmOne K (.ref C_BadPrime) (.ref C_UnknownName) = some false)
    (ex_BadPrime_BadCount : PySem.W.exmOne K (.ref C_BadPrime) (.ref C_BadCount) = some false)
    (ex_BadPrime_BadPrime : PySem.W.exmOne K (.ref C_BadPrime) (.ref C_BadPrime) = some true)
    (ex_BadPrime_BadNumber : PySem.W.exmOne K (.ref C_BadPrime) (.ref C_BadNumber) = some false)
    (ex_BadPrime_BadRow : PySem.W.exmOne K (.ref C_BadPrime) (.ref C_BadRow) = some false)
    (ex_BadNumber_BadName : PySem.W.exmOne K (.ref C_BadNumber) (.ref C_BadName) = some false)
    (ex_BadNumber_DuplicateName : PySem.W.exmOne K (.ref C_BadNumber) (.ref C_DuplicateName) = some false)
    (ex_BadNumber_UnknownName : PySem.W.exmOne K (.ref C_BadNumber) (.ref C_UnknownName) = some false)
    (ex_BadNumber_BadCount : PySem.W.exmOne K (.ref C_BadNumber) (.ref C_BadCount) = some false)
    (ex_BadNumber_BadPrime : PySem.W.exmOne K (.ref C_BadNumber) (.ref C_BadPrime) = some false)
    (ex_BadNumber_BadNumber : PySem.W.exmOne K (.ref C_BadNumber) (.ref C_BadNumber) = some true)
    (ex_BadNumber_BadRow : PySem.W.exmOne K (.ref C_BadNumber) (.ref C_BadRow) = some false)
    (ex_BadRow_BadName : PySem.W.exmOne K (.ref C_BadRow) (.ref C_BadName) = some false)
    (ex_BadRow_DuplicateName : PySem.W.exmOne K (.ref C_BadRow) (.ref C_DuplicateName) = some false)
    (ex_BadRow_UnknownName : PySem.W.exmOne K (.ref C_BadRow) (.ref C_UnknownName) = some false)
    (ex_BadRow_BadCount : PySem.W.exmOne K (.ref C_BadRow) (.ref C_BadCount) = some false)
    (ex_BadRow_BadPrime : PySem.W.exmOne K (.ref C_BadRow) (.ref C_BadPrime) = some false)
    (ex_BadRow_BadNumber : PySem.W.exmOne K (.ref C_BadRow) (.ref C_BadNumber) = some false)
    (ex_BadRow_BadRow : PySem.W.exmOne K (.ref C_BadRow) (.ref C_BadRow) = some true)
    (hn : PySem.W.specialIn K (.builtin "object.__class__") "__get__" = some (some (.builtin "getset_descriptor.__get__")))
    (ht : PySem.W.takesIn K (.builtin "object.__class__") = some true)
    (aClScheme : PySem.W.nsIn K mainGlobals "Scheme" = some (some (.ref C_Scheme)))
    (pgScheme : PySem.W.plainGet K C_Scheme Str.empty = true)
    (hdScheme : PySem.W.hasDictIn K C_Scheme = true)
    (poScheme : PySem.W.plainOver K C_Scheme = true)
    (saScheme : PySem.W.findIn K (.ref C_Scheme) "__setattr__" = some (some (.builtin "object.__setattr__")))
    (mk1Scheme : PySem.W.makesIn K C_Scheme = true)
    (mk2Scheme : PySem.W.findIn K (.ref C_Scheme) "__init__" = some (some (.ref f_Scheme__init_)))
    (mk3Scheme : PySem.W.isFn K (.ref f_Scheme__init_) = true)
    (mk4Scheme : PySem.W.keepIn K (.ref C_Scheme) = true)
    (na_prime : PySem.W.findIn K (.ref C_Scheme) "_prime" = some none)
    (na_width : PySem.W.findIn K (.ref C_Scheme) "_width" = some none)
    (na_persons : PySem.W.findIn K (.ref C_Scheme) "_persons" = some none)
    (na_rows : PySem.W.findIn K (.ref C_Scheme) "_rows" = some none)
    (pa_prime : PySem.W.findIn K (.ref C_Scheme) "prime" = some (some (.ref p_prime)))
    (pb_prime : PySem.W.specialIn K (.ref p_prime) "__get__" = some (some (.builtin "property.__get__")))
    (pc_prime : PySem.W.takesIn K (.ref p_prime) = some true)
    (pd_prime : PySem.W.recIn K p_prime "property" = some (.ref f_Scheme_prime :: rest_prime))
    (pa_width : PySem.W.findIn K (.ref C_Scheme) "width" = some (some (.ref p_width)))
    (pb_width : PySem.W.specialIn K (.ref p_width) "__get__" = some (some (.builtin "property.__get__")))
    (pc_width : PySem.W.takesIn K (.ref p_width) = some true)
    (pd_width : PySem.W.recIn K p_width "property" = some (.ref f_Scheme_width :: rest_width))
    (pa_persons : PySem.W.findIn K (.ref C_Scheme) "persons" = some (some (.ref p_persons)))
    (pb_persons : PySem.W.specialIn K (.ref p_persons) "__get__" = some (some (.builtin "property.__get__")))
    (pc_persons : PySem.W.takesIn K (.ref p_persons) = some true)
    (pd_persons : PySem.W.recIn K p_persons "property" = some (.ref f_Scheme_persons :: rest_persons))
    (moa_rows : PySem.W.findIn K (.ref C_Scheme) "rows" = some (some (.ref f_Scheme_rows)))
    (mob_rows : PySem.W.isFn K (.ref f_Scheme_rows) = true)
    (moc_rows : PySem.W.keepIn K (.ref f_Scheme_rows) = true)
    {a_PRIMES : Addr} {od_PRIMES : Option Addr} {its_PRIMES : Array Value} {n_PRIMES : Nat} {sl_PRIMES : Array (Option Value)}
    (v_PRIMES : PySem.W.nsIn K mainGlobals "PRIMES" = some (some (.ref a_PRIMES)))
    (l_PRIMES : K.lookup a_PRIMES = some ⟨.type "tuple", od_PRIMES, .seq its_PRIMES n_PRIMES, sl_PRIMES⟩)
    (s_PRIMES : its_PRIMES.size ≤ sizeLine ∧ L2.Vals [.int 2, .int 3, .int 5, .int 7, .int 11] its_PRIMES.toList)
    (l0 : K.lookup f_BadName__init_ = some ⟨oc0, od0, .func (PySem.W.fnOf "__init__" "BadName.__init__" (defArgs s_BadName__init_) (defBody s_BadName__init_) (defScope s_BadName__init_) .none kV0 dc0 pm0 an0 cd0 ct0), sl0⟩) (c0 : PySem.W.codeIn K cd0 "BadName.__init__" = true) (k0 : PySem.W.keepIn K (.ref f_BadName__init_) = true)
    (l1 : K.lookup f_DuplicateName__init_ = some ⟨oc1, od1, .func (PySem.W.fnOf "__init__" "DuplicateName.__init__" (defArgs s_DuplicateName__init_) (defBody s_DuplicateName__init_) (defScope s_DuplicateName__init_) .none kV1 dc1 pm1 an1 cd1 ct1), sl1⟩) (c1 : PySem.W.codeIn K cd1 "DuplicateName.__init__" = true) (k1 : PySem.W.keepIn K (.ref f_DuplicateName__init_) = true)
    (l2 : K.lookup f_UnknownName__init_ = some ⟨oc2, od2, .func (PySem.W.fnOf "__init__" "UnknownName.__init__" (defArgs s_UnknownName__init_) (defBody s_UnknownName__init_) (defScope s_UnknownName__init_) .none kV2 dc2 pm2 an2 cd2 ct2), sl2⟩) (c2 : PySem.W.codeIn K cd2 "UnknownName.__init__" = true) (k2 : PySem.W.keepIn K (.ref f_UnknownName__init_) = true)
    (l3 : K.lookup f_BadCount__init_ = some ⟨oc3, od3, .func (PySem.W.fnOf "__init__" "BadCount.__init__" (defArgs s_BadCount__init_) (defBody s_BadCount__init_) (defScope s_BadCount__init_) .none kV3 dc3 pm3 an3 cd3 ct3), sl3⟩) (c3 : PySem.W.codeIn K cd3 "BadCount.__init__" = true) (k3 : PySem.W.keepIn K (.ref f_BadCount__init_) = true)
    (l4 : K.lookup f_BadPrime__init_ = some ⟨oc4, od4, .func (PySem.W.fnOf "__init__" "BadPrime.__init__" (defArgs s_BadPrime__init_) (defBody s_BadPrime__init_) (defScope s_BadPrime__init_) .none kV4 dc4 pm4 an4 cd4 ct4), sl4⟩) (c4 : PySem.W.codeIn K cd4 "BadPrime.__init__" = true) (k4 : PySem.W.keepIn K (.ref f_BadPrime__init_) = true)
    (l5 : K.lookup f_BadNumber__init_ = some ⟨oc5, od5, .func (PySem.W.fnOf "__init__" "BadNumber.__init__" (defArgs s_BadNumber__init_) (defBody s_BadNumber__init_) (defScope s_BadNumber__init_) .none kV5 dc5 pm5 an5 cd5 ct5), sl5⟩) (c5 : PySem.W.codeIn K cd5 "BadNumber.__init__" = true) (k5 : PySem.W.keepIn K (.ref f_BadNumber__init_) = true)
    (l6 : K.lookup f_BadRow__init_ = some ⟨oc6, od6, .func (PySem.W.fnOf "__init__" "BadRow.__init__" (defArgs s_BadRow__init_) (defBody s_BadRow__init_) (defScope s_BadRow__init_) .none kV6 dc6 pm6 an6 cd6 ct6), sl6⟩) (c6 : PySem.W.codeIn K cd6 "BadRow.__init__" = true) (k6 : PySem.W.keepIn K (.ref f_BadRow__init_) = true)
    (a7 : PySem.W.nsIn K mainGlobals "valid_name" = some (some (.ref f_valid_name)))
    (l7 : K.lookup f_valid_name = some ⟨oc7, od7, .func (PySem.W.fnOf "valid_name" "valid_name" (defArgs s_valid_name) (defBody s_valid_name) (defScope s_valid_name) .none kV7 dc7 pm7 an7 cd7 ct7), sl7⟩) (c7 : PySem.W.codeIn K cd7 "valid_name" = true) (k7 : PySem.W.keepIn K (.ref f_valid_name) = true)
    (a8 : PySem.W.nsIn K mainGlobals "checked_persons" = some (some (.ref f_checked_persons)))
    (l8 : K.lookup f_checked_persons = some ⟨oc8, od8, .func (PySem.W.fnOf "checked_persons" "checked_persons" (defArgs s_checked_persons) (defBody s_checked_persons) (defScope s_checked_persons) .none kV8 dc8 pm8 an8 cd8 ct8), sl8⟩) (c8 : PySem.W.codeIn K cd8 "checked_persons" = true) (k8 : PySem.W.keepIn K (.ref f_checked_persons) = true)
    (a9 : PySem.W.nsIn K mainGlobals "check_prime" = some (some (.ref f_check_prime)))
    (l9 : K.lookup f_check_prime = some ⟨oc9, od9, .func (PySem.W.fnOf "check_prime" "check_prime" (defArgs s_check_prime) (defBody s_check_prime) (defScope s_check_prime) .none kV9 dc9 pm9 an9 cd9 ct9), sl9⟩) (c9 : PySem.W.codeIn K cd9 "check_prime" = true) (k9 : PySem.W.keepIn K (.ref f_check_prime) = true)
    (a10 : PySem.W.nsIn K mainGlobals "is_whole" = some (some (.ref f_is_whole)))
    (l10 : K.lookup f_is_whole = some ⟨oc10, od10, .func (PySem.W.fnOf "is_whole" "is_whole" (defArgs s_is_whole) (defBody s_is_whole) (defScope s_is_whole) .none kV10 dc10 pm10 an10 cd10 ct10), sl10⟩) (c10 : PySem.W.codeIn K cd10 "is_whole" = true) (k10 : PySem.W.keepIn K (.ref f_is_whole) = true)
    (a11 : PySem.W.nsIn K mainGlobals "is_number" = some (some (.ref f_is_number)))
    (l11 : K.lookup f_is_number = some ⟨oc11, od11, .func (PySem.W.fnOf "is_number" "is_number" (defArgs s_is_number) (defBody s_is_number) (defScope s_is_number) .none kV11 dc11 pm11 an11 cd11 ct11), sl11⟩) (c11 : PySem.W.codeIn K cd11 "is_number" = true) (k11 : PySem.W.keepIn K (.ref f_is_number) = true)
    (a12 : PySem.W.nsIn K mainGlobals "has_numbers" = some (some (.ref f_has_numbers)))
    (l12 : K.lookup f_has_numbers = some ⟨oc12, od12, .func (PySem.W.fnOf "has_numbers" "has_numbers" (defArgs s_has_numbers) (defBody s_has_numbers) (defScope s_has_numbers) .none kV12 dc12 pm12 an12 cd12 ct12), sl12⟩) (c12 : PySem.W.codeIn K cd12 "has_numbers" = true) (k12 : PySem.W.keepIn K (.ref f_has_numbers) = true)
    (a13 : PySem.W.nsIn K mainGlobals "check_number" = some (some (.ref f_check_number)))
    (l13 : K.lookup f_check_number = some ⟨oc13, od13, .func (PySem.W.fnOf "check_number" "check_number" (defArgs s_check_number) (defBody s_check_number) (defScope s_check_number) .none kV13 dc13 pm13 an13 cd13 ct13), sl13⟩) (c13 : PySem.W.codeIn K cd13 "check_number" = true) (k13 : PySem.W.keepIn K (.ref f_check_number) = true)
    (a14 : PySem.W.nsIn K mainGlobals "check_numbers" = some (some (.ref f_check_numbers)))
    (l14 : K.lookup f_check_numbers = some ⟨oc14, od14, .func (PySem.W.fnOf "check_numbers" "check_numbers" (defArgs s_check_numbers) (defBody s_check_numbers) (defScope s_check_numbers) .none kV14 dc14 pm14 an14 cd14 ct14), sl14⟩) (c14 : PySem.W.codeIn K cd14 "check_numbers" = true) (k14 : PySem.W.keepIn K (.ref f_check_numbers) = true)
    (a15 : PySem.W.nsIn K mainGlobals "check_rows" = some (some (.ref f_check_rows)))
    (l15 : K.lookup f_check_rows = some ⟨oc15, od15, .func (PySem.W.fnOf "check_rows" "check_rows" (defArgs s_check_rows) (defBody s_check_rows) (defScope s_check_rows) .none kV15 dc15 pm15 an15 cd15 ct15), sl15⟩) (c15 : PySem.W.codeIn K cd15 "check_rows" = true) (k15 : PySem.W.keepIn K (.ref f_check_rows) = true)
    (a16 : PySem.W.nsIn K mainGlobals "check_width" = some (some (.ref f_check_width)))
    (l16 : K.lookup f_check_width = some ⟨oc16, od16, .func (PySem.W.fnOf "check_width" "check_width" (defArgs s_check_width) (defBody s_check_width) (defScope s_check_width) .none kV16 dc16 pm16 an16 cd16 ct16), sl16⟩) (c16 : PySem.W.codeIn K cd16 "check_width" = true) (k16 : PySem.W.keepIn K (.ref f_check_width) = true)
    (a17 : PySem.W.nsIn K mainGlobals "product" = some (some (.ref f_product)))
    (l17 : K.lookup f_product = some ⟨oc17, od17, .func (PySem.W.fnOf "product" "product" (defArgs s_product) (defBody s_product) (defScope s_product) .none kV17 dc17 pm17 an17 cd17 ct17), sl17⟩) (c17 : PySem.W.codeIn K cd17 "product" = true) (k17 : PySem.W.keepIn K (.ref f_product) = true)
    (l18 : K.lookup f_Scheme__init_ = some ⟨oc18, od18, .func (PySem.W.fnOf "__init__" "Scheme.__init__" (defArgs s_Scheme__init_) (defBody s_Scheme__init_) (defScope s_Scheme__init_) .none kV18 dc18 pm18 an18 cd18 ct18), sl18⟩) (c18 : PySem.W.codeIn K cd18 "Scheme.__init__" = true) (k18 : PySem.W.keepIn K (.ref f_Scheme__init_) = true)
    (l19 : K.lookup f_Scheme_prime = some ⟨oc19, od19, .func (PySem.W.fnOf "prime" "Scheme.prime" (defArgs s_Scheme_prime) (defBody s_Scheme_prime) (defScope s_Scheme_prime) .none kV19 dc19 pm19 an19 cd19 ct19), sl19⟩) (c19 : PySem.W.codeIn K cd19 "Scheme.prime" = true) (k19 : PySem.W.keepIn K (.ref f_Scheme_prime) = true)
    (l20 : K.lookup f_Scheme_width = some ⟨oc20, od20, .func (PySem.W.fnOf "width" "Scheme.width" (defArgs s_Scheme_width) (defBody s_Scheme_width) (defScope s_Scheme_width) .none kV20 dc20 pm20 an20 cd20 ct20), sl20⟩) (c20 : PySem.W.codeIn K cd20 "Scheme.width" = true) (k20 : PySem.W.keepIn K (.ref f_Scheme_width) = true)
    (l21 : K.lookup f_Scheme_persons = some ⟨oc21, od21, .func (PySem.W.fnOf "persons" "Scheme.persons" (defArgs s_Scheme_persons) (defBody s_Scheme_persons) (defScope s_Scheme_persons) .none kV21 dc21 pm21 an21 cd21 ct21), sl21⟩) (c21 : PySem.W.codeIn K cd21 "Scheme.persons" = true) (k21 : PySem.W.keepIn K (.ref f_Scheme_persons) = true)
    (l22 : K.lookup f_Scheme_rows = some ⟨oc22, od22, .func (PySem.W.fnOf "rows" "Scheme.rows" (defArgs s_Scheme_rows) (defBody s_Scheme_rows) (defScope s_Scheme_rows) .none kV22 dc22 pm22 an22 cd22 ct22), sl22⟩) (c22 : PySem.W.codeIn K cd22 "Scheme.rows" = true) (k22 : PySem.W.keepIn K (.ref f_Scheme_rows) = true)
    (a23 : PySem.W.nsIn K mainGlobals "check_rows_of_person" = some (some (.ref f_check_rows_of_person)))
    (l23 : K.lookup f_check_rows_of_person = some ⟨oc23, od23, .func (PySem.W.fnOf "check_rows_of_person" "check_rows_of_person" (defArgs s_check_rows_of_person) (defBody s_check_rows_of_person) (defScope s_check_rows_of_person) .none kV23 dc23 pm23 an23 cd23 ct23), sl23⟩) (c23 : PySem.W.codeIn K cd23 "check_rows_of_person" = true) (k23 : PySem.W.keepIn K (.ref f_check_rows_of_person) = true)
    (a24 : PySem.W.nsIn K mainGlobals "deal" = some (some (.ref f_deal)))
    (l24 : K.lookup f_deal = some ⟨oc24, od24, .func (PySem.W.fnOf "deal" "deal" (defArgs s_deal) (defBody s_deal) (defScope s_deal) .none kV24 dc24 pm24 an24 cd24 ct24), sl24⟩) (c24 : PySem.W.codeIn K cd24 "deal" = true) (k24 : PySem.W.keepIn K (.ref f_deal) = true)
    (a25 : PySem.W.nsIn K mainGlobals "_law_start" = some (some (.ref f_law_start)))
    (l25 : K.lookup f_law_start = some ⟨oc25, od25, .func (PySem.W.fnOf "_law_start" "_law_start" (defArgs s_law_start) (defBody s_law_start) (defScope s_law_start) .none kV25 dc25 pm25 an25 cd25 ct25), sl25⟩) (c25 : PySem.W.codeIn K cd25 "_law_start" = true) (k25 : PySem.W.keepIn K (.ref f_law_start) = true)
    (a26 : PySem.W.nsIn K mainGlobals "_law_take" = some (some (.ref f_law_take)))
    (l26 : K.lookup f_law_take = some ⟨oc26, od26, .func (PySem.W.fnOf "_law_take" "_law_take" (defArgs s_law_take) (defBody s_law_take) (defScope s_law_take) .none kV26 dc26 pm26 an26 cd26 ct26), sl26⟩) (c26 : PySem.W.codeIn K cd26 "_law_take" = true) (k26 : PySem.W.keepIn K (.ref f_law_take) = true)
    (a27 : PySem.W.nsIn K mainGlobals "_law_shuffled" = some (some (.ref f_law_shuffled)))
    (l27 : K.lookup f_law_shuffled = some ⟨oc27, od27, .func (PySem.W.fnOf "_law_shuffled" "_law_shuffled" (defArgs s_law_shuffled) (defBody s_law_shuffled) (defScope s_law_shuffled) .none kV27 dc27 pm27 an27 cd27 ct27), sl27⟩) (c27 : PySem.W.codeIn K cd27 "_law_shuffled" = true) (k27 : PySem.W.keepIn K (.ref f_law_shuffled) = true)
    (a28 : PySem.W.nsIn K mainGlobals "_law_persons" = some (some (.ref f_law_persons)))
    (l28 : K.lookup f_law_persons = some ⟨oc28, od28, .func (PySem.W.fnOf "_law_persons" "_law_persons" (defArgs s_law_persons) (defBody s_law_persons) (defScope s_law_persons) .none kV28 dc28 pm28 an28 cd28 ct28), sl28⟩) (c28 : PySem.W.codeIn K cd28 "_law_persons" = true) (k28 : PySem.W.keepIn K (.ref f_law_persons) = true)
    (a29 : PySem.W.nsIn K mainGlobals "_law_groups" = some (some (.ref f_law_groups)))
    (l29 : K.lookup f_law_groups = some ⟨oc29, od29, .func (PySem.W.fnOf "_law_groups" "_law_groups" (defArgs s_law_groups) (defBody s_law_groups) (defScope s_law_groups) .none kV29 dc29 pm29 an29 cd29 ct29), sl29⟩) (c29 : PySem.W.codeIn K cd29 "_law_groups" = true) (k29 : PySem.W.keepIn K (.ref f_law_groups) = true)
    (a30 : PySem.W.nsIn K mainGlobals "_law_has" = some (some (.ref f_law_has)))
    (l30 : K.lookup f_law_has = some ⟨oc30, od30, .func (PySem.W.fnOf "_law_has" "_law_has" (defArgs s_law_has) (defBody s_law_has) (defScope s_law_has) .none kV30 dc30 pm30 an30 cd30 ct30), sl30⟩) (c30 : PySem.W.codeIn K cd30 "_law_has" = true) (k30 : PySem.W.keepIn K (.ref f_law_has) = true)
    (a31 : PySem.W.nsIn K mainGlobals "_law_least" = some (some (.ref f_law_least)))
    (l31 : K.lookup f_law_least = some ⟨oc31, od31, .func (PySem.W.fnOf "_law_least" "_law_least" (defArgs s_law_least) (defBody s_law_least) (defScope s_law_least) .none kV31 dc31 pm31 an31 cd31 ct31), sl31⟩) (c31 : PySem.W.codeIn K cd31 "_law_least" = true) (k31 : PySem.W.keepIn K (.ref f_law_least) = true)
    (a32 : PySem.W.nsIn K mainGlobals "_law_opens" = some (some (.ref f_law_opens)))
    (l32 : K.lookup f_law_opens = some ⟨oc32, od32, .func (PySem.W.fnOf "_law_opens" "_law_opens" (defArgs s_law_opens) (defBody s_law_opens) (defScope s_law_opens) .none kV32 dc32 pm32 an32 cd32 ct32), sl32⟩) (c32 : PySem.W.codeIn K cd32 "_law_opens" = true) (k32 : PySem.W.keepIn K (.ref f_law_opens) = true)
    (a33 : PySem.W.nsIn K mainGlobals "_law_family" = some (some (.ref f_law_family)))
    (l33 : K.lookup f_law_family = some ⟨oc33, od33, .func (PySem.W.fnOf "_law_family" "_law_family" (defArgs s_law_family) (defBody s_law_family) (defScope s_law_family) .none kV33 dc33 pm33 an33 cd33 ct33), sl33⟩) (c33 : PySem.W.codeIn K cd33 "_law_family" = true) (k33 : PySem.W.keepIn K (.ref f_law_family) = true)
    (a34 : PySem.W.nsIn K mainGlobals "_law_turned" = some (some (.ref f_law_turned)))
    (l34 : K.lookup f_law_turned = some ⟨oc34, od34, .func (PySem.W.fnOf "_law_turned" "_law_turned" (defArgs s_law_turned) (defBody s_law_turned) (defScope s_law_turned) .none kV34 dc34 pm34 an34 cd34 ct34), sl34⟩) (c34 : PySem.W.codeIn K cd34 "_law_turned" = true) (k34 : PySem.W.keepIn K (.ref f_law_turned) = true)
    (a35 : PySem.W.nsIn K mainGlobals "_law_goal" = some (some (.ref f_law_goal)))
    (l35 : K.lookup f_law_goal = some ⟨oc35, od35, .func (PySem.W.fnOf "_law_goal" "_law_goal" (defArgs s_law_goal) (defBody s_law_goal) (defScope s_law_goal) .none kV35 dc35 pm35 an35 cd35 ct35), sl35⟩) (c35 : PySem.W.codeIn K cd35 "_law_goal" = true) (k35 : PySem.W.keepIn K (.ref f_law_goal) = true)
    (a36 : PySem.W.nsIn K mainGlobals "_law_dot" = some (some (.ref f_law_dot)))
    (l36 : K.lookup f_law_dot = some ⟨oc36, od36, .func (PySem.W.fnOf "_law_dot" "_law_dot" (defArgs s_law_dot) (defBody s_law_dot) (defScope s_law_dot) .none kV36 dc36 pm36 an36 cd36 ct36), sl36⟩) (c36 : PySem.W.codeIn K cd36 "_law_dot" = true) (k36 : PySem.W.keepIn K (.ref f_law_dot) = true)
    (a37 : PySem.W.nsIn K mainGlobals "_law_lists" = some (some (.ref f_law_lists)))
    (l37 : K.lookup f_law_lists = some ⟨oc37, od37, .func (PySem.W.fnOf "_law_lists" "_law_lists" (defArgs s_law_lists) (defBody s_law_lists) (defScope s_law_lists) .none kV37 dc37 pm37 an37 cd37 ct37), sl37⟩) (c37 : PySem.W.codeIn K cd37 "_law_lists" = true) (k37 : PySem.W.keepIn K (.ref f_law_lists) = true)
    (a38 : PySem.W.nsIn K mainGlobals "_law_plain_lists" = some (some (.ref f_law_plain_lists)))
    (l38 : K.lookup f_law_plain_lists = some ⟨oc38, od38, .func (PySem.W.fnOf "_law_plain_lists" "_law_plain_lists" (defArgs s_law_plain_lists) (defBody s_law_plain_lists) (defScope s_law_plain_lists) .none kV38 dc38 pm38 an38 cd38 ct38), sl38⟩) (c38 : PySem.W.codeIn K cd38 "_law_plain_lists" = true) (k38 : PySem.W.keepIn K (.ref f_law_plain_lists) = true)
    (a39 : PySem.W.nsIn K mainGlobals "_law_model" = some (some (.ref f_law_model)))
    (l39 : K.lookup f_law_model = some ⟨oc39, od39, .func (PySem.W.fnOf "_law_model" "_law_model" (defArgs s_law_model) (defBody s_law_model) (defScope s_law_model) .none kV39 dc39 pm39 an39 cd39 ct39), sl39⟩) (c39 : PySem.W.codeIn K cd39 "_law_model" = true) (k39 : PySem.W.keepIn K (.ref f_law_model) = true)
    (a40 : PySem.W.nsIn K mainGlobals "_law_powers" = some (some (.ref f_law_powers)))
    (l40 : K.lookup f_law_powers = some ⟨oc40, od40, .func (PySem.W.fnOf "_law_powers" "_law_powers" (defArgs s_law_powers) (defBody s_law_powers) (defScope s_law_powers) .none kV40 dc40 pm40 an40 cd40 ct40), sl40⟩) (c40 : PySem.W.codeIn K cd40 "_law_powers" = true) (k40 : PySem.W.keepIn K (.ref f_law_powers) = true)
    (a41 : PySem.W.nsIn K mainGlobals "_law_scheme" = some (some (.ref f_law_scheme)))
    (l41 : K.lookup f_law_scheme = some ⟨oc41, od41, .func (PySem.W.fnOf "_law_scheme" "_law_scheme" (defArgs s_law_scheme) (defBody s_law_scheme) (defScope s_law_scheme) .none kV41 dc41 pm41 an41 cd41 ct41), sl41⟩) (c41 : PySem.W.codeIn K cd41 "_law_scheme" = true) (k41 : PySem.W.keepIn K (.ref f_law_scheme) = true)
    (a42 : PySem.W.nsIn K mainGlobals "_law_dealt" = some (some (.ref f_law_dealt)))
    (l42 : K.lookup f_law_dealt = some ⟨oc42, od42, .func (PySem.W.fnOf "_law_dealt" "_law_dealt" (defArgs s_law_dealt) (defBody s_law_dealt) (defScope s_law_dealt) .none kV42 dc42 pm42 an42 cd42 ct42), sl42⟩) (c42 : PySem.W.codeIn K cd42 "_law_dealt" = true) (k42 : PySem.W.keepIn K (.ref f_law_dealt) = true)
    (a43 : PySem.W.nsIn K mainGlobals "_law_is_number" = some (some (.ref f_law_is_number)))
    (l43 : K.lookup f_law_is_number = some ⟨oc43, od43, .func (PySem.W.fnOf "_law_is_number" "_law_is_number" (defArgs s_law_is_number) (defBody s_law_is_number) (defScope s_law_is_number) .none kV43 dc43 pm43 an43 cd43 ct43), sl43⟩) (c43 : PySem.W.codeIn K cd43 "_law_is_number" = true) (k43 : PySem.W.keepIn K (.ref f_law_is_number) = true)
    (a44 : PySem.W.nsIn K mainGlobals "_law_due" = some (some (.ref f_law_due)))
    (l44 : K.lookup f_law_due = some ⟨oc44, od44, .func (PySem.W.fnOf "_law_due" "_law_due" (defArgs s_law_due) (defBody s_law_due) (defScope s_law_due) .none kV44 dc44 pm44 an44 cd44 ct44), sl44⟩) (c44 : PySem.W.codeIn K cd44 "_law_due" = true) (k44 : PySem.W.keepIn K (.ref f_law_due) = true)
    (a45 : PySem.W.nsIn K mainGlobals "_law_told" = some (some (.ref f_law_told)))
    (l45 : K.lookup f_law_told = some ⟨oc45, od45, .func (PySem.W.fnOf "_law_told" "_law_told" (defArgs s_law_told) (defBody s_law_told) (defScope s_law_told) .none kV45 dc45 pm45 an45 cd45 ct45), sl45⟩) (c45 : PySem.W.codeIn K cd45 "_law_told" = true) (k45 : PySem.W.keepIn K (.ref f_law_told) = true)
    (a46 : PySem.W.nsIn K mainGlobals "law" = some (some (.ref f_law)))
    (l46 : K.lookup f_law = some ⟨oc46, od46, .func (PySem.W.fnOf "law" "law" (defArgs s_law) (defBody s_law) (defScope s_law) .none kV46 dc46 pm46 an46 cd46 ct46), sl46⟩) (c46 : PySem.W.codeIn K cd46 "law" = true) (k46 : PySem.W.keepIn K (.ref f_law) = true)
    {t_LETTERS : Tok}
    (v_LETTERS : PySem.W.nsIn K mainGlobals "LETTERS" = some (some (.str "abcdefghijklmnopqrstuvwxyz" t_LETTERS)))
    {t_DIGITS : Tok}
    (v_DIGITS : PySem.W.nsIn K mainGlobals "DIGITS" = some (some (.str "0123456789" t_DIGITS)))
    {t_LONGEST_NAME : Tok}
    (v_LONGEST_NAME : PySem.W.nsIn K mainGlobals "LONGEST_NAME" = some (some (.int 6 t_LONGEST_NAME)))
    {t_MOST_PERSONS : Tok}
    (v_MOST_PERSONS : PySem.W.nsIn K mainGlobals "MOST_PERSONS" = some (some (.int 5 t_MOST_PERSONS)))
    {t_MOST_WIDTH : Tok}
    (v_MOST_WIDTH : PySem.W.nsIn K mainGlobals "MOST_WIDTH" = some (some (.int 40 t_MOST_WIDTH)))
    {t_MOST_ROWS : Tok}
    (v_MOST_ROWS : PySem.W.nsIn K mainGlobals "MOST_ROWS" = some (some (.int 16 t_MOST_ROWS)))
    (z_set : PySem.W.nsIn K mainGlobals "set" = some none)
    (z_len : PySem.W.nsIn K mainGlobals "len" = some none)
    (z_all : PySem.W.nsIn K mainGlobals "all" = some none)
    (z_any : PySem.W.nsIn K mainGlobals "any" = some none)
    (z_abs : PySem.W.nsIn K mainGlobals "abs" = some none)
    (z_list : PySem.W.nsIn K mainGlobals "list" = some none)
    (z_int : PySem.W.nsIn K mainGlobals "int" = some none)
    (z_range : PySem.W.nsIn K mainGlobals "range" = some none)
    (z_isinstance : PySem.W.nsIn K mainGlobals "isinstance" = some none)
    (z_tuple : PySem.W.nsIn K mainGlobals "tuple" = some none)
    (z_sorted : PySem.W.nsIn K mainGlobals "sorted" = some none)
    (z_enumerate : PySem.W.nsIn K mainGlobals "enumerate" = some none)
    (z_zip : PySem.W.nsIn K mainGlobals "zip" = some none)
    (z_sum : PySem.W.nsIn K mainGlobals "sum" = some none)
    (z_max : PySem.W.nsIn K mainGlobals "max" = some none)
    (z_bool : PySem.W.nsIn K mainGlobals "bool" = some none)
    : ∃ fd : FuncData, (∀ (s : Shared) (v : Value), BindsTo s fd ⟨[v], []⟩ [("_law_script", v)]) ∧ ∀ base : Heap, K.In base → base.Ns mainGlobals mg → FnOk l.prog w K mg base CX0 8 fa fd ["_law_script"] (P.spLaw K) := by
  have e := hfa.symm.trans (PySem.W.mg_of X G a46)
  cases e
  have F0 := fun_mk (st := s_BadName__init_) l0 c0 k0
  have b0 := F0.binds (ps := ["self", "name"]) fun _ _ _ _ _ _ us hl => match us, hl with | [_, _], _ => rfl
  have F1 := fun_mk (st := s_DuplicateName__init_) l1 c1 k1
  have b1 := F1.binds (ps := ["self", "name"]) fun _ _ _ _ _ _ us hl => match us, hl with | [_, _], _ => rfl
  have F2 := fun_mk (st := s_UnknownName__init_) l2 c2 k2
  have b2 := F2.binds (ps := ["self", "name"]) fun _ _ _ _ _ _ us hl => match us, hl with | [_, _], _ => rfl
  have F3 := fun_mk (st := s_BadCount__init_) l3 c3 k3
  have b3 := F3.binds (ps := ["self", "count"]) fun _ _ _ _ _ _ us hl => match us, hl with | [_, _], _ => rfl
  have F4 := fun_mk (st := s_BadPrime__init_) l4 c4 k4
  have b4 := F4.binds (ps := ["self", "number"]) fun _ _ _ _ _ _ us hl => match us, hl with | [_, _], _ => rfl
  have F5 := fun_mk (st := s_BadNumber__init_) l5 c5 k5
  have b5 := F5.binds (ps := ["self", "value"]) fun _ _ _ _ _ _ us hl => match us, hl with | [_, _], _ => rfl
  have F6 := fun_mk (st := s_BadRow__init_) l6 c6 k6
  have b6 := F6.binds (ps := ["self", "value"]) fun _ _ _ _ _ _ us hl => match us, hl with | [_, _], _ => rfl
  have F7 := fun_mk (st := s_valid_name) l7 c7 k7
  have b7 := F7.binds (ps := ["text"]) fun _ _ _ _ _ _ us hl => match us, hl with | [_], _ => rfl
  have F8 := fun_mk (st := s_checked_persons) l8 c8 k8
  have b8 := F8.binds (ps := ["persons"]) fun _ _ _ _ _ _ us hl => match us, hl with | [_], _ => rfl
  have F9 := fun_mk (st := s_check_prime) l9 c9 k9
  have b9 := F9.binds (ps := ["prime"]) fun _ _ _ _ _ _ us hl => match us, hl with | [_], _ => rfl
  have F10 := fun_mk (st := s_is_whole) l10 c10 k10
  have b10 := F10.binds (ps := ["value"]) fun _ _ _ _ _ _ us hl => match us, hl with | [_], _ => rfl
  have F11 := fun_mk (st := s_is_number) l11 c11 k11
  have b11 := F11.binds (ps := ["prime", "value"]) fun _ _ _ _ _ _ us hl => match us, hl with | [_, _], _ => rfl
  have F12 := fun_mk (st := s_has_numbers) l12 c12 k12
  have b12 := F12.binds (ps := ["prime", "value", "many"]) fun _ _ _ _ _ _ us hl => match us, hl with | [_, _, _], _ => rfl
  have F13 := fun_mk (st := s_check_number) l13 c13 k13
  have b13 := F13.binds (ps := ["prime", "value"]) fun _ _ _ _ _ _ us hl => match us, hl with | [_, _], _ => rfl
  have F14 := fun_mk (st := s_check_numbers) l14 c14 k14
  have b14 := F14.binds (ps := ["prime", "values"]) fun _ _ _ _ _ _ us hl => match us, hl with | [_, _], _ => rfl
  have F15 := fun_mk (st := s_check_rows) l15 c15 k15
  have b15 := F15.binds (ps := ["prime", "values"]) fun _ _ _ _ _ _ us hl => match us, hl with | [_, _], _ => rfl
  have F16 := fun_mk (st := s_check_width) l16 c16 k16
  have b16 := F16.binds (ps := ["width", "rows"]) fun _ _ _ _ _ _ us hl => match us, hl with | [_, _], _ => rfl
  have F17 := fun_mk (st := s_product) l17 c17 k17
  have b17 := F17.binds (ps := ["prime", "one", "other"]) fun _ _ _ _ _ _ us hl => match us, hl with | [_, _, _], _ => rfl
  have F18 := fun_mk (st := s_Scheme__init_) l18 c18 k18
  have b18 := F18.binds (ps := ["self", "prime", "width", "rows"]) fun _ _ _ _ _ _ us hl => match us, hl with | [_, _, _, _], _ => rfl
  have F19 := fun_mk (st := s_Scheme_prime) l19 c19 k19
  have b19 := F19.binds (ps := ["self"]) fun _ _ _ _ _ _ us hl => match us, hl with | [_], _ => rfl
  have F20 := fun_mk (st := s_Scheme_width) l20 c20 k20
  have b20 := F20.binds (ps := ["self"]) fun _ _ _ _ _ _ us hl => match us, hl with | [_], _ => rfl
  have F21 := fun_mk (st := s_Scheme_persons) l21 c21 k21
  have b21 := F21.binds (ps := ["self"]) fun _ _ _ _ _ _ us hl => match us, hl with | [_], _ => rfl
  have F22 := fun_mk (st := s_Scheme_rows) l22 c22 k22
  have b22 := F22.binds (ps := ["self", "name"]) fun _ _ _ _ _ _ us hl => match us, hl with | [_, _], _ => rfl
  have F23 := fun_mk (st := s_check_rows_of_person) l23 c23 k23
  have b23 := F23.binds (ps := ["prime", "width", "rows"]) fun _ _ _ _ _ _ us hl => match us, hl with | [_, _, _], _ => rfl
  have F24 := fun_mk (st := s_deal) l24 c24 k24
  have b24 := F24.binds (ps := ["scheme", "secret", "numbers"]) fun _ _ _ _ _ _ us hl => match us, hl with | [_, _, _], _ => rfl
  have F25 := fun_mk (st := s_law_start) l25 c25 k25
  have b25 := F25.binds (ps := ["_law_script"]) fun _ _ _ _ _ _ us hl => match us, hl with | [_], _ => rfl
  have F26 := fun_mk (st := s_law_take) l26 c26 k26
  have b26 := F26.binds (ps := ["_law_state", "_law_limit"]) fun _ _ _ _ _ _ us hl => match us, hl with | [_, _], _ => rfl
  have F27 := fun_mk (st := s_law_shuffled) l27 c27 k27
  have b27 := F27.binds (ps := ["_law_state", "_law_items"]) fun _ _ _ _ _ _ us hl => match us, hl with | [_, _], _ => rfl
  have F28 := fun_mk (st := s_law_persons) l28 c28 k28
  have b28 := F28.binds (ps := ["_law_state", "_law_most"]) fun _ _ _ _ _ _ us hl => match us, hl with | [_, _], _ => rfl
  have F29 := fun_mk (st := s_law_groups) l29 c29 k29
  have b29 := F29.binds (ps := ["_law_names"]) fun _ _ _ _ _ _ us hl => match us, hl with | [_], _ => rfl
  have F30 := fun_mk (st := s_law_has) l30 c30 k30
  have b30 := F30.binds (ps := ["_law_group", "_law_inner"]) fun _ _ _ _ _ _ us hl => match us, hl with | [_, _], _ => rfl
  have F31 := fun_mk (st := s_law_least) l31 c31 k31
  have b31 := F31.binds (ps := ["_law_groups_here"]) fun _ _ _ _ _ _ us hl => match us, hl with | [_], _ => rfl
  have F32 := fun_mk (st := s_law_opens) l32 c32 k32
  have b32 := F32.binds (ps := ["_law_least_here", "_law_group"]) fun _ _ _ _ _ _ us hl => match us, hl with | [_, _], _ => rfl
  have F33 := fun_mk (st := s_law_family) l33 c33 k33
  have b33 := F33.binds (ps := ["_law_state", "_law_names"]) fun _ _ _ _ _ _ us hl => match us, hl with | [_, _], _ => rfl
  have F34 := fun_mk (st := s_law_turned) l34 c34 k34
  have b34 := F34.binds (ps := ["_law_names", "_law_least_here"]) fun _ _ _ _ _ _ us hl => match us, hl with | [_, _], _ => rfl
  have F35 := fun_mk (st := s_law_goal) l35 c35 k35
  have b35 := F35.binds (ps := ["_law_width"]) fun _ _ _ _ _ _ us hl => match us, hl with | [_], _ => rfl
  have F36 := fun_mk (st := s_law_dot) l36 c36 k36
  have b36 := F36.binds (ps := ["_law_prime", "_law_one", "_law_other"]) fun _ _ _ _ _ _ us hl => match us, hl with | [_, _, _], _ => rfl
  have F37 := fun_mk (st := s_law_lists) l37 c37 k37
  have b37 := F37.binds (ps := ["_law_state", "_law_names"]) fun _ _ _ _ _ _ us hl => match us, hl with | [_, _], _ => rfl
  have F38 := fun_mk (st := s_law_plain_lists) l38 c38 k38
  have b38 := F38.binds (ps := ["_law_state", "_law_names", "_law_least_here"]) fun _ _ _ _ _ _ us hl => match us, hl with | [_, _, _], _ => rfl
  have F39 := fun_mk (st := s_law_model) l39 c39 k39
  have b39 := F39.binds (ps := ["_law_state", "_law_names"]) fun _ _ _ _ _ _ us hl => match us, hl with | [_, _], _ => rfl
  have F40 := fun_mk (st := s_law_powers) l40 c40 k40
  have b40 := F40.binds (ps := ["_law_prime", "_law_figure1", "_law_many"]) fun _ _ _ _ _ _ us hl => match us, hl with | [_, _, _], _ => rfl
  have F41 := fun_mk (st := s_law_scheme) l41 c41 k41
  have b41 := F41.binds (ps := ["_law_state", "_law_model_here"]) fun _ _ _ _ _ _ us hl => match us, hl with | [_, _], _ => rfl
  have F42 := fun_mk (st := s_law_dealt) l42 c42 k42
  have b42 := F42.binds (ps := ["_law_model_here", "_law_dealt_here"]) fun _ _ _ _ _ _ us hl => match us, hl with | [_, _], _ => rfl
  have F43 := fun_mk (st := s_law_is_number) l43 c43 k43
  have b43 := F43.binds (ps := ["_law_prime", "_law_value"]) fun _ _ _ _ _ _ us hl => match us, hl with | [_, _], _ => rfl
  have F44 := fun_mk (st := s_law_due) l44 c44 k44
  have b44 := F44.binds (ps := ["_law_model_here", "_law_hidden", "_law_free"]) fun _ _ _ _ _ _ us hl => match us, hl with | [_, _, _], _ => rfl
  have F45 := fun_mk (st := s_law_told) l45 c45 k45
  have b45 := F45.binds (ps := ["_law_way", "_law_desk", "_law_hidden", "_law_free"]) fun _ _ _ _ _ _ us hl => match us, hl with | [_, _, _, _], _ => rfl
  have F46 := fun_mk (st := s_law) l46 c46 k46
  have b46 := F46.binds (ps := ["_law_script"]) fun _ _ _ _ _ _ us hl => match us, hl with | [_], _ => rfl
  let T : Txt K mg := {
    f_BadName__init_ := f_BadName__init_, fd_BadName__init_ := _, F_BadName__init_ := F0, b_BadName__init_ := b0
    f_DuplicateName__init_ := f_DuplicateName__init_, fd_DuplicateName__init_ := _, F_DuplicateName__init_ := F1, b_DuplicateName__init_ := b1
    f_UnknownName__init_ := f_UnknownName__init_, fd_UnknownName__init_ := _, F_UnknownName__init_ := F2, b_UnknownName__init_ := b2
    f_BadCount__init_ := f_BadCount__init_, fd_BadCount__init_ := _, F_BadCount__init_ := F3, b_BadCount__init_ := b3
    f_BadPrime__init_ := f_BadPrime__init_, fd_BadPrime__init_ := _, F_BadPrime__init_ := F4, b_BadPrime__init_ := b4
    f_BadNumber__init_ := f_BadNumber__init_, fd_BadNumber__init_ := _, F_BadNumber__init_ := F5, b_BadNumber__init_ := b5
    f_BadRow__init_ := f_BadRow__init_, fd_BadRow__init_ := _, F_BadRow__init_ := F6, b_BadRow__init_ := b6
    f_valid_name := f_valid_name, fd_valid_name := _, F_valid_name := F7, b_valid_name := b7, g_valid_name := PySem.W.mg_of X G a7
    f_checked_persons := f_checked_persons, fd_checked_persons := _, F_checked_persons := F8, b_checked_persons := b8, g_checked_persons := PySem.W.mg_of X G a8
    f_check_prime := f_check_prime, fd_check_prime := _, F_check_prime := F9, b_check_prime := b9, g_check_prime := PySem.W.mg_of X G a9
    f_is_whole := f_is_whole, fd_is_whole := _, F_is_whole := F10, b_is_whole := b10, g_is_whole := PySem.W.mg_of X G a10
    f_is_number := f_is_number, fd_is_number := _, F_is_number := F11, b_is_number := b11, g_is_number := PySem.W.mg_of X G a11
    f_has_numbers := f_has_numbers, fd_has_numbers := _, F_has_numbers := F12, b_has_numbers := b12, g_has_numbers := PySem.W.mg_of X G a12
    f_check_number := f_check_number, fd_check_number := _, F_check_number := F13, b_check_number := b13, g_check_number := PySem.W.mg_of X G a13
    f_check_numbers := f_check_numbers, fd_check_numbers := _, F_check_numbers := F14, b_check_numbers := b14, g_check_numbers := PySem.W.mg_of X G a14
    f_check_rows := f_check_rows, fd_check_rows := _, F_check_rows := F15, b_check_rows := b15, g_check_rows := PySem.W.mg_of X G a15
    f_check_width := f_check_width, fd_check_width := _, F_check_width := F16, b_check_width := b16, g_check_width := PySem.W.mg_of X G a16
    f_product := f_product, fd_product := _, F_product := F17, b_product := b17, g_product := PySem.W.mg_of X G a17
    f_Scheme__init_ := f_Scheme__init_, fd_Scheme__init_ := _, F_Scheme__init_ := F18, b_Scheme__init_ := b18
    f_Scheme_prime := f_Scheme_prime, fd_Scheme_prime := _, F_Scheme_prime := F19, b_Scheme_prime := b19
    f_Scheme_width := f_Scheme_width, fd_Scheme_width := _, F_Scheme_width := F20, b_Scheme_width := b20
    f_Scheme_persons := f_Scheme_persons, fd_Scheme_persons := _, F_Scheme_persons := F21, b_Scheme_persons := b21
    f_Scheme_rows := f_Scheme_rows, fd_Scheme_rows := _, F_Scheme_rows := F22, b_Scheme_rows := b22
    f_check_rows_of_person := f_check_rows_of_person, fd_check_rows_of_person := _, F_check_rows_of_person := F23, b_check_rows_of_person := b23, g_check_rows_of_person := PySem.W.mg_of X G a23
    f_deal := f_deal, fd_deal := _, F_deal := F24, b_deal := b24, g_deal := PySem.W.mg_of X G a24
    f_law_start := f_law_start, fd_law_start := _, F_law_start := F25, b_law_start := b25, g_law_start := PySem.W.mg_of X G a25
    f_law_take := f_law_take, fd_law_take := _, F_law_take := F26, b_law_take := b26, g_law_take := PySem.W.mg_of X G a26
    f_law_shuffled := f_law_shuffled, fd_law_shuffled := _, F_law_shuffled := F27, b_law_shuffled := b27, g_law_shuffled := PySem.W.mg_of X G a27
    f_law_persons := f_law_persons, fd_law_persons := _, F_law_persons := F28, b_law_persons := b28, g_law_persons := PySem.W.mg_of X G a28
    f_law_groups := f_law_groups, fd_law_groups := _, F_law_groups := F29, b_law_groups := b29, g_law_groups := PySem.W.mg_of X G a29
    f_law_has := f_law_has, fd_law_has := _, F_law_has := F30, b_law_has := b30, g_law_has := PySem.W.mg_of X G a30
    f_law_least := f_law_least, fd_law_least := _, F_law_least := F31, b_law_least := b31, g_law_least := PySem.W.mg_of X G a31
    f_law_opens := f_law_opens, fd_law_opens := _, F_law_opens := F32, b_law_opens := b32, g_law_opens := PySem.W.mg_of X G a32
    f_law_family := f_law_family, fd_law_family := _, F_law_family := F33, b_law_family := b33, g_law_family := PySem.W.mg_of X G a33
    f_law_turned := f_law_turned, fd_law_turned := _, F_law_turned := F34, b_law_turned := b34, g_law_turned := PySem.W.mg_of X G a34
    f_law_goal := f_law_goal, fd_law_goal := _, F_law_goal := F35, b_law_goal := b35, g_law_goal := PySem.W.mg_of X G a35
    f_law_dot := f_law_dot, fd_law_dot := _, F_law_dot := F36, b_law_dot := b36, g_law_dot := PySem.W.mg_of X G a36
    f_law_lists := f_law_lists, fd_law_lists := _, F_law_lists := F37, b_law_lists := b37, g_law_lists := PySem.W.mg_of X G a37
    f_law_plain_lists := f_law_plain_lists, fd_law_plain_lists := _, F_law_plain_lists := F38, b_law_plain_lists := b38, g_law_plain_lists := PySem.W.mg_of X G a38
    f_law_model := f_law_model, fd_law_model := _, F_law_model := F39, b_law_model := b39, g_law_model := PySem.W.mg_of X G a39
    f_law_powers := f_law_powers, fd_law_powers := _, F_law_powers := F40, b_law_powers := b40, g_law_powers := PySem.W.mg_of X G a40
    f_law_scheme := f_law_scheme, fd_law_scheme := _, F_law_scheme := F41, b_law_scheme := b41, g_law_scheme := PySem.W.mg_of X G a41
    f_law_dealt := f_law_dealt, fd_law_dealt := _, F_law_dealt := F42, b_law_dealt := b42, g_law_dealt := PySem.W.mg_of X G a42
    f_law_is_number := f_law_is_number, fd_law_is_number := _, F_law_is_number := F43, b_law_is_number := b43, g_law_is_number := PySem.W.mg_of X G a43
    f_law_due := f_law_due, fd_law_due := _, F_law_due := F44, b_law_due := b44, g_law_due := PySem.W.mg_of X G a44
    f_law_told := f_law_told, fd_law_told := _, F_law_told := F45, b_law_told := b45, g_law_told := PySem.W.mg_of X G a45
    f_law := fa, fd_law := _, F_law := F46, b_law := b46, g_law := PySem.W.mg_of X G a46
    t_LETTERS := t_LETTERS, c_LETTERS := PySem.W.mg_of X G v_LETTERS
    t_DIGITS := t_DIGITS, c_DIGITS := PySem.W.mg_of X G v_DIGITS
    t_LONGEST_NAME := t_LONGEST_NAME, c_LONGEST_NAME := PySem.W.mg_of X G v_LONGEST_NAME
    t_MOST_PERSONS := t_MOST_PERSONS, c_MOST_PERSONS := PySem.W.mg_of X G v_MOST_PERSONS
    t_MOST_WIDTH := t_MOST_WIDTH, c_MOST_WIDTH := PySem.W.mg_of X G v_MOST_WIDTH
    t_MOST_ROWS := t_MOST_ROWS, c_MOST_ROWS := PySem.W.mg_of X G v_MOST_ROWS
    n_set := PySem.W.mg_none_of X G z_set
    n_len := PySem.W.mg_none_of X G z_len
    n_all := PySem.W.mg_none_of X G z_all
    n_any := PySem.W.mg_none_of X G z_any
    n_abs := PySem.W.mg_none_of X G z_abs
    n_list := PySem.W.mg_none_of X G z_list
    n_int := PySem.W.mg_none_of X G z_int
    n_range := PySem.W.mg_none_of X G z_range
    n_isinstance := PySem.W.mg_none_of X G z_isinstance
    n_tuple := PySem.W.mg_none_of X G z_tuple
    n_sorted := PySem.W.mg_none_of X G z_sorted
    n_enumerate := PySem.W.mg_none_of X G z_enumerate
    n_zip := PySem.W.mg_none_of X G z_zip
    n_sum := PySem.W.mg_none_of X G z_sum
    n_max := PySem.W.mg_none_of X G z_max
    n_bool := PySem.W.mg_none_of X G z_bool
    kb_deal_numbers_secret_scheme := ⟨fun s us ws _ hl => by
      match us, ws, hl with
      | [], [x0, x1, x2], _ => exact .of_eq rfl
      | [], [], h => exact absurd (show (List.replicate 4 Value.none).length = 3 from h) (by decide)
      | [], [_], h => exact absurd (show (List.replicate 4 Value.none).length = 3 from h) (by decide)
      | [], [_, _], h => exact absurd (show (List.replicate 4 Value.none).length = 3 from h) (by decide)
      | [], _ :: _ :: _ :: _ :: _, h => exact absurd (show (List.replicate 4 Value.none).length = 3 from h) (by decide)
      | _ :: _, _, h => exact absurd (show (List.replicate 4 Value.none).length = 3 from h) (by decide),
    fun h1 t0 => by cases h1 with | nil => (cases t0 with | nil => exact vals_rep _ | cons r0 t1 => (cases t1 with | nil => exact vals_rep _ | cons r1 t2 => (cases t2 with | nil => exact vals_rep _ | cons r2 t3 => (cases t3 with | nil => exact (.cons r2 (.cons r1 (.cons r0 .nil))) | cons _ _ => exact vals_rep _)))) | cons _ _ => exact vals_rep _⟩
    C_BadName := C_BadName, g_BadName := PySem.W.mg_of X G aCBadName, er_BadName := errT_of eCBadName ⟨_, _, _, _, _, _, _, _, _, _, _, _, _, _, _, xCBadName, ve_at _⟩ hn ht
    iC_BadName := iCBadName, tI_BadName := tIBadName, nf_BadName := nfBadName
    ex_BadName_BadName := ex_BadName_BadName
    ex_BadName_DuplicateName := ex_BadName_DuplicateName
    ex_BadName_UnknownName := ex_BadName_UnknownName
    ex_BadName_BadCount := ex_BadName_BadCount
    ex_BadName_BadPrime := ex_BadName_BadPrime
    ex_BadName_BadNumber := ex_BadName_BadNumber
    ex_BadName_BadRow := ex_BadName_BadRow
    C_DuplicateName := C_DuplicateName, g_DuplicateName := PySem.W.mg_of X G aCDuplicateName, er_DuplicateName := errT_of eCDuplicateName ⟨_, _, _, _, _, _, _, _, _, _, _, _, _, _, _, xCDuplicateName, ve_at _⟩ hn ht
    iC_DuplicateName := iCDuplicateName, tI_DuplicateName := tIDuplicateName, nf_DuplicateName := nfDuplicateName
    ex_DuplicateName_BadName := ex_DuplicateName_BadName
    ex_DuplicateName_DuplicateName := ex_DuplicateName_DuplicateName
    ex_DuplicateName_UnknownName := ex_DuplicateName_UnknownName
    ex_DuplicateName_BadCount := ex_DuplicateName_BadCount
    ex_DuplicateName_BadPrime := ex_DuplicateName_BadPrime
    ex_DuplicateName_BadNumber := ex_DuplicateName_BadNumber
    ex_DuplicateName_BadRow := ex_DuplicateName_BadRow
    C_UnknownName := C_UnknownName, g_UnknownName := PySem.W.mg_of X G aCUnknownName, er_UnknownName := errT_of eCUnknownName ⟨_, _, _, _, _, _, _, _, _, _, _, _, _, _, _, xCUnknownName, ve_at _⟩ hn ht
    iC_UnknownName := iCUnknownName, tI_UnknownName := tIUnknownName, nf_UnknownName := nfUnknownName
    ex_UnknownName_BadName := ex_UnknownName_BadName
    ex_UnknownName_DuplicateName := ex_UnknownName_DuplicateName
    ex_UnknownName_UnknownName := ex_UnknownName_UnknownName
    ex_UnknownName_BadCount := ex_UnknownName_BadCount
    ex_UnknownName_BadPrime := ex_UnknownName_BadPrime
    ex_UnknownName_BadNumber := ex_UnknownName_BadNumber
    ex_UnknownName_BadRow := ex_UnknownName_BadRow
    C_BadCount := C_BadCount, g_BadCount := PySem.W.mg_of X G aCBadCount, er_BadCount := errT_of eCBadCount ⟨_, _, _, _, _, _, _, _, _, _, _, _, _, _, _, xCBadCount, ve_at _⟩ hn ht
    iC_BadCount := iCBadCount, tI_BadCount := tIBadCount, nf_BadCount := nfBadCount
    ex_BadCount_BadName := ex_BadCount_BadName
    ex_BadCount_DuplicateName := ex_BadCount_DuplicateName
    ex_BadCount_UnknownName := ex_BadCount_UnknownName
    ex_BadCount_BadCount := ex_BadCount_BadCount
    ex_BadCount_BadPrime := ex_BadCount_BadPrime
    ex_BadCount_BadNumber := ex_BadCount_BadNumber
    ex_BadCount_BadRow := ex_BadCount_BadRow
    C_BadPrime := C_BadPrime, g_BadPrime := PySem.W.mg_of X G aCBadPrime, er_BadPrime := errT_of eCBadPrime ⟨_, _, _, _, _, _, _, _, _, _, _, _, _, _, _, xCBadPrime, ve_at _⟩ hn ht
    iC_BadPrime := iCBadPrime, tI_BadPrime := tIBadPrime, nf_BadPrime := nfBadPrime
    ex_BadPrime_BadName := ex_BadPrime_BadName
    ex_BadPrime_DuplicateName := ex_BadPrime_DuplicateName
    ex_BadPrime_UnknownName := ex_BadPrime_UnknownName
    ex_BadPrime_BadCount := ex_BadPrime_BadCount
    ex_BadPrime_BadPrime := ex_BadPrime_BadPrime
    ex_BadPrime_BadNumber := ex_BadPrime_BadNumber
    ex_BadPrime_BadRow := ex_BadPrime_BadRow
    C_BadNumber := C_BadNumber, g_BadNumber := PySem.W.mg_of X G aCBadNumber, er_BadNumber := errT_of eCBadNumber ⟨_, _, _, _, _, _, _, _, _, _, _, _, _, _, _, xCBadNumber, ve_at _⟩ hn ht
    iC_BadNumber := iCBadNumber, tI_BadNumber := tIBadNumber, nf_BadNumber := nfBadNumber
    ex_BadNumber_BadName := ex_BadNumber_BadName
    ex_BadNumber_DuplicateName := ex_BadNumber_DuplicateName
    ex_BadNumber_UnknownName := ex_BadNumber_UnknownName
    ex_BadNumber_BadCount := ex_BadNumber_BadCount
    ex_BadNumber_BadPrime := ex_BadNumber_BadPrime
    ex_BadNumber_BadNumber := ex_BadNumber_BadNumber
    ex_BadNumber_BadRow := ex_BadNumber_BadRow
    C_BadRow := C_BadRow, g_BadRow := PySem.W.mg_of X G aCBadRow, er_BadRow := errT_of eCBadRow ⟨_, _, _, _, _, _, _, _, _, _, _, _, _, _, _, xCBadRow, ve_at _⟩ hn ht
    iC_BadRow := iCBadRow, tI_BadRow := tIBadRow, nf_BadRow := nfBadRow
    ex_BadRow_BadName := ex_BadRow_BadName
    ex_BadRow_DuplicateName := ex_BadRow_DuplicateName
    ex_BadRow_UnknownName := ex_BadRow_UnknownName
    ex_BadRow_BadCount := ex_BadRow_BadCount
    ex_BadRow_BadPrime := ex_BadRow_BadPrime
    ex_BadRow_BadNumber := ex_BadRow_BadNumber
    ex_BadRow_BadRow := ex_BadRow_BadRow
    C_Scheme := C_Scheme, g_Scheme := PySem.W.mg_of X G aClScheme, cl_Scheme := ⟨pgScheme, hdScheme, poScheme, saScheme⟩, mk_Scheme := ⟨mk1Scheme, mk2Scheme, mk3Scheme, mk4Scheme⟩
    na_prime := na_prime
    na_width := na_width
    na_persons := na_persons
    na_rows := na_rows
    p_prime := p_prime, pp_prime := ⟨pa_prime, pb_prime, pc_prime, _, pd_prime⟩
    p_width := p_width, pp_width := ⟨pa_width, pb_width, pc_width, _, pd_width⟩
    p_persons := p_persons, pp_persons := ⟨pa_persons, pb_persons, pc_persons, _, pd_persons⟩
    me_rows := ⟨moa_rows, mob_rows, moc_rows⟩
    a_PRIMES := a_PRIMES, g_PRIMES := PySem.W.mg_of X G v_PRIMES, t_PRIMES := fun H => .inr ⟨_, _, _, l_PRIMES, rfl, rfl, s_PRIMES.1, s_PRIMES.2⟩
  }
  exact ⟨PySem.W.fnOf "law" "law" (defArgs s_law) (defBody s_law) (defScope s_law) .none kV46 dc46 pm46 an46 cd46 ct46, fun s v => .of_eq rfl, fun base _ _ => ok_law T⟩
end P
open PySem PySem.W PyProof.Rows
set_option maxRecDepth 100000 in
set_option maxHeartbeats 0 in
theorem PySem.Challenge.cw_openshares_k30_dealing_holds : PySem.Challenge.rw_openshares_k30_dealing.Holds := by
  w_on; o_law; k_head; (case hw => w_witness2)
  k_fill
  refine L2.walk_of (l := PySem.Challenge.rw_openshares_k30_dealing) (n := 63) (k := 8) (x := "_law_script") (CX := fun _ => L2.CX0) (sp := fun w => P.spLaw _) rfl (by decide) rfl ⟨rfl, by decide, by decide⟩ (fun w h Y => PySem.W.kIn_of Y) ?F (fun _ _ a ns hl _ hS => ⟨a, ns, rfl, hS, hl, fun _ => rfl⟩) (fun _ _ _ _ _ h => h)
  case F =>
    intro w mg fa h KX G hmg
    refine' P.all_mk KX G hmg ?aCBadName ?xCBadName ?eCBadName ?iCBadName ?tIBadName ?nfBadName ?aCDuplicateName ?xCDuplicateName ?eCDuplicateName ?iCDuplicateName ?tIDuplicateName ?nfDuplicateName ?aCUnknownName ?xCUnknownName ?eCUnknownName ?iCUnknownName ?tIUnknownName ?nfUnknownName ?aCBadCount ?xCBadCount ?eCBadCount ?iCBadCount ?tIBadCount ?nfBadCount ?aCBadPrime ?xCBadPrime ?eCBadPrime ?iCBadPrime ?tIBadPrime ?nfBadPrime ?aCBadNumber ?xCBadNumber ?eCBadNumber ?iCBadNumber ?tIBadNumber ?nfBadNumber ?aCBadRow ?xCBadRow ?eCBadRow ?iCBadRow ?tIBadRow ?nfBadRow ?ex_BadName_BadName ?ex_BadName_DuplicateName ?ex_BadName_UnknownName ?ex_BadName_BadCount ?ex_BadName_BadPrime ?ex_BadName_BadNumber ?ex_BadName_BadRow ?ex_DuplicateName_BadName ?ex_DuplicateName_DuplicateName ?ex_DuplicateName_UnknownName ?ex_DuplicateName_BadCount ?ex_DuplicateName_BadPrime ?ex_DuplicateName_BadNumber ?ex_DuplicateName_BadRow ?ex_UnknownName_BadName ?ex_UnknownName_DuplicateName ?ex_UnknownName_UnknownName ?ex_UnknownName_BadCount ?ex_UnknownName_BadPrime ?ex_UnknownName_BadNumber ?ex_UnknownName_BadRow ?ex_BadCount_BadName ?ex_BadCount_DuplicateName ?ex_BadCount_UnknownName ?ex_BadCount_BadCount ?ex_BadCount_BadPrime ?ex_BadCount_BadNumber ?ex_BadCount_BadRow ?ex_BadPrime_BadName ?ex_BadPrime_DuplicateName ?ex_BadPrime_UnknownName ?ex_BadPrime_BadCount ?ex_BadPrime_BadPrime ?ex_BadPrime_BadNumber ?ex_BadPrime_BadRow ?ex_BadNumber_BadName ?ex_BadNumber_DuplicateName ?ex_BadNumber_UnknownName ?ex_BadNumber_BadCount ?ex_BadNumber_BadPrime ?ex_BadNumber_BadNumber ?ex_BadNumber_BadRow ?ex_BadRow_BadName ?ex_BadRow_DuplicateName ?ex_BadRow_UnknownName ?ex_BadRow_BadCount ?ex_BadRow_BadPrime ?ex_BadRow_BadNumber ?ex_BadRow_BadRow ?hn ?ht ?aClScheme ?pgScheme ?hdScheme ?poScheme ?saScheme ?mk1Scheme ?mk2Scheme ?mk3Scheme ?mk4Scheme ?na_prime ?na_width ?na_persons ?na_rows ?pa_prime ?pb_prime ?pc_prime ?pd_prime ?pa_width ?pb_width ?pc_width ?pd_width ?pa_persons ?pb_persons ?pc_persons ?pd_persons ?moa_rows ?mob_rows ?moc_rows ?v_PRIMES ?l_PRIMES ?s_PRIMES ?l0 ?c0 ?k0 ?l1 ?c1 ?k1 ?l2 ?c2 ?k2 ?l3 ?c3 ?k3 ?l4 ?c4 ?k4 ?l5 ?c5 ?k5 ?l6 ?c6 ?k6 ?a7 ?l7 ?c7 ?k7 ?a8 ?l8 ?c8 ?k8 ?a9 ?l9 ?c9 ?k9 ?a10 ?l10 ?c10 ?k10 ?a11 ?l11 ?c11 ?k11 ?a12 ?l12 ?c12 ?k12 ?a13 ?l13 ?c13 ?k13 ?a14 ?l14 ?c14 ?k14 ?a15 ?l15 ?c15 ?k15 ?a16 ?l16 ?c16 ?k16 ?a17 ?l17 ?c17 ?k17 ?l18 ?c18 ?k18 ?l19 ?c19 ?k19 ?l20 ?c20 ?k20 ?l21 ?c21 ?k21 ?l22 ?c22 ?k22 ?a23 ?l23 ?c23 ?k23 ?a24 ?l24 ?c24 ?k24 ?a25 ?l25 ?c25 ?k25 ?a26 ?l26 ?c26 ?k26 ?a27 ?l27 ?c27 ?k27 ?a28 ?l28 ?c28 ?k28 ?a29 ?l29 ?c29 ?k29 ?a30 ?l30 ?c30 ?k30 ?a31 ?l31 ?c31 ?k31 ?a32 ?l32 ?c32 ?k32 ?a33 ?l33 ?c33 ?k33 ?a34 ?l34 ?c34 ?k34 ?a35 ?l35 ?c35 ?k35 ?a36 ?l36 ?c36 ?k36 ?a37 ?l37 ?c37 ?k37 ?a38 ?l38 ?c38 ?k38 ?a39 ?l39 ?c39 ?k39 ?a40 ?l40 ?c40 ?k40 ?a41 ?l41 ?c41 ?k41 ?a42 ?l42 ?c42 ?k42 ?a43 ?l43 ?c43 ?k43 ?a44 ?l44 ?c44 ?k44 ?a45 ?l45 ?c45 ?k45 ?a46 ?l46 ?c46 ?k46 ?v_LETTERS ?v_DIGITS ?v_LONGEST_NAME ?v_MOST_PERSONS ?v_MOST_WIDTH ?v_MOST_ROWS ?z_set ?z_len ?z_all ?z_any ?z_abs ?z_list ?z_int ?z_range ?z_isinstance ?z_tuple ?z_sorted ?z_enumerate ?z_zip ?z_sum ?z_max ?z_bool
    (case aCBadName => k_is)
    (case xCBadName => k_is)
    (case eCBadName => kernel_rfl)
    (case iCBadName => k_is)
    (case tIBadName => k_is)
    (case nfBadName => k_is)
    (case aCDuplicateName => k_is)
    (case xCDuplicateName => k_is)
    (case eCDuplicateName => kernel_rfl)
    (case iCDuplicateName => k_is)
    (case tIDuplicateName => k_is)
    (case nfDuplicateName => k_is)
    (case aCUnknownName => k_is)
    (case xCUnknownName => k_is)
    (case eCUnknownName => kernel_rfl)
    (case iCUnknownName => k_is)
    (case tIUnknownName => k_is)
    (case nfUnknownName => k_is)
    (case aCBadCount => k_is)
    (case xCBadCount => k_is)
    (case eCBadCount => kernel_rfl)
    (case iCBadCount => k_is)
    (case tIBadCount => k_is)
    (case nfBadCount => k_is)
    (case aCBadPrime => k_is)
    (case xCBadPrime => k_is)
    (case eCBadPrime => kernel_rfl)
    (case iCBadPrime => k_is)
    (case tIBadPrime => k_is)
    (case nfBadPrime => k_is)
    (case aCBadNumber => k_is)
    (case xCBadNumber => k_is)
    (case eCBadNumber => kernel_rfl)
    (case iCBadNumber => k_is)
    (case tIBadNumber => k_is)
    (case nfBadNumber => k_is)
    (case aCBadRow => k_is)
    (case xCBadRow => k_is)
    (case eCBadRow => kernel_rfl)
    (case iCBadRow => k_is)
    (case tIBadRow => k_is)
    (case nfBadRow => k_is)
    (case ex_BadName_BadName => kernel_rfl)
    (case ex_BadName_DuplicateName => kernel_rfl)
    (case ex_BadName_UnknownName => kernel_rfl)
    (case ex_BadName_BadCount => kernel_rfl)
    (case ex_BadName_BadPrime => kernel_rfl)
    (case ex_BadName_BadNumber => kernel_rfl)
    (case ex_BadName_BadRow => kernel_rfl)
    (case ex_DuplicateName_BadName => kernel_rfl)
    (case ex_DuplicateName_DuplicateName => kernel_rfl)
    (case ex_DuplicateName_UnknownName => kernel_rfl)
    (case ex_DuplicateName_BadCount => kernel_rfl)
    (case ex_DuplicateName_BadPrime => kernel_rfl)
    (case ex_DuplicateName_BadNumber => kernel_rfl)
    (case ex_DuplicateName_BadRow => kernel_rfl)
    (case ex_UnknownName_BadName => kernel_rfl)
    (case ex_UnknownName_DuplicateName => kernel_rfl)
    (case ex_UnknownName_UnknownName => kernel_rfl)
    (case ex_UnknownName_BadCount => kernel_rfl)
    (case ex_UnknownName_BadPrime => kernel_rfl)
    (case ex_UnknownName_BadNumber => kernel_rfl)
    (case ex_UnknownName_BadRow => kernel_rfl)
    (case ex_BadCount_BadName => kernel_rfl)
    (case ex_BadCount_DuplicateName => kernel_rfl)
    (case ex_BadCount_UnknownName => kernel_rfl)
    (case ex_BadCount_BadCount => kernel_rfl)
    (case ex_BadCount_BadPrime => kernel_rfl)
    (case ex_BadCount_BadNumber => kernel_rfl)
    (case ex_BadCount_BadRow => kernel_rfl)
    (case ex_BadPrime_BadName => kernel_rfl)
    (case ex_BadPrime_DuplicateName => kernel_rfl)
    (case ex_BadPrime_UnknownName => kernel_rfl)
    (case ex_BadPrime_BadCount => kernel_rfl)
    (case ex_BadPrime_BadPrime => kernel_rfl)
    (case ex_BadPrime_BadNumber => kernel_rfl)
    (case ex_BadPrime_BadRow => kernel_rfl)
    (case ex_BadNumber_BadName => kernel_rfl)
    (case ex_BadNumber_DuplicateName => kernel_rfl)
    (case ex_BadNumber_UnknownName => kernel_rfl)
    (case ex_BadNumber_BadCount => kernel_rfl)
    (case ex_BadNumber_BadPrime => kernel_rfl)
    (case ex_BadNumber_BadNumber => kernel_rfl)
    (case ex_BadNumber_BadRow => kernel_rfl)
    (case ex_BadRow_BadName => kernel_rfl)
    (case ex_BadRow_DuplicateName => kernel_rfl)
    (case ex_BadRow_UnknownName => kernel_rfl)
    (case ex_BadRow_BadCount => kernel_rfl)
    (case ex_BadRow_BadPrime => kernel_rfl)
    (case ex_BadRow_BadNumber => kernel_rfl)
    (case ex_BadRow_BadRow => kernel_rfl)
    (case hn => k_is)
    (case ht => k_is)
    (case aClScheme => k_is)
    (case pgScheme => k_is)
    (case hdScheme => k_is)
    (case poScheme => k_is)
    (case saScheme => k_is)
    (case mk1Scheme => k_is)
    (case mk2Scheme => k_is)
    (case mk3Scheme => k_is)
    (case mk4Scheme => k_is)
    (case na_prime => k_is)
    (case na_width => k_is)
    (case na_persons => k_is)
    (case na_rows => k_is)
    (case pa_prime => k_is)
    (case pb_prime => k_is)
    (case pc_prime => k_is)
    (case pd_prime => k_is)
    (case pa_width => k_is)
    (case pb_width => k_is)
    (case pc_width => k_is)
    (case pd_width => k_is)
    (case pa_persons => k_is)
    (case pb_persons => k_is)
    (case pc_persons => k_is)
    (case pd_persons => k_is)
    (case moa_rows => k_is)
    (case mob_rows => k_is)
    (case moc_rows => k_is)
    (case v_PRIMES => k_is)
    (case l_PRIMES => k_is)
    (case s_PRIMES => exact ⟨by decide, (.cons ⟨_, rfl⟩ (.cons ⟨_, rfl⟩ (.cons ⟨_, rfl⟩ (.cons ⟨_, rfl⟩ (.cons ⟨_, rfl⟩ .nil)))))⟩)
    (case l0 => k_is)
    (case c0 => k_is)
    (case k0 => k_is)
    (case l1 => k_is)
    (case c1 => k_is)
    (case k1 => k_is)
    (case l2 => k_is)
    (case c2 => k_is)
    (case k2 => k_is)
    (case l3 => k_is)
    (case c3 => k_is)
    (case k3 => k_is)
    (case l4 => k_is)
    (case c4 => k_is)
    (case k4 => k_is)
    (case l5 => k_is)
    (case c5 => k_is)
    (case k5 => k_is)
    (case l6 => k_is)
    (case c6 => k_is)
    (case k6 => k_is)
    (case a7 => k_is)
    (case l7 => k_is)
    (case c7 => k_is)
    (case k7 => k_is)
    (case a8 => k_is)
    (case l8 => k_is)
    (case c8 => k_is)
    (case k8 => k_is)
    (case a9 => k_is)
    (case l9 => k_is)
    (case c9 => k_is)
    (case k9 => k_is)
    (case a10 => k_is)
    (case l10 => k_is)
    (case c10 => k_is)
    (case k10 => k_is)
    (case a11 => k_is)
    (case l11 => k_is)
    (case c11 => k_is)
    (case k11 => k_is)
    (case a12 => k_is)
    (case l12 => k_is)
    (case c12 => k_is)
    (case k12 => k_is)
    (case a13 => k_is)
    (case l13 => k_is)
    (case c13 => k_is)
    (case k13 => k_is)
    (case a14 => k_is)
    (case l14 => k_is)
    (case c14 => k_is)
    (case k14 => k_is)
    (case a15 => k_is)
    (case l15 => k_is)
    (case c15 => k_is)
    (case k15 => k_is)
    (case a16 => k_is)
    (case l16 => k_is)
    (case c16 => k_is)
    (case k16 => k_is)
    (case a17 => k_is)
    (case l17 => k_is)
    (case c17 => k_is)
    (case k17 => k_is)
    (case l18 => k_is)
    (case c18 => k_is)
    (case k18 => k_is)
    (case l19 => k_is)
    (case c19 => k_is)
    (case k19 => k_is)
    (case l20 => k_is)
    (case c20 => k_is)
    (case k20 => k_is)
    (case l21 => k_is)
    (case c21 => k_is)
    (case k21 => k_is)
    (case l22 => k_is)
    (case c22 => k_is)
    (case k22 => k_is)
    (case a23 => k_is)
    (case l23 => k_is)
    (case c23 => k_is)
    (case k23 => k_is)
    (case a24 => k_is)
    (case l24 => k_is)
    (case c24 => k_is)
    (case k24 => k_is)
    (case a25 => k_is)
    (case l25 => k_is)
    (case c25 => k_is)
    (case k25 => k_is)
    (case a26 => k_is)
    (case l26 => k_is)
    (case c26 => k_is)
    (case k26 => k_is)
    (case a27 => k_is)
    (case l27 => k_is)
    (case c27 => k_is)
    (case k27 => k_is)
    (case a28 => k_is)
    (case l28 => k_is)
    (case c28 => k_is)
    (case k28 => k_is)
    (case a29 => k_is)
    (case l29 => k_is)
    (case c29 => k_is)
    (case k29 => k_is)
    (case a30 => k_is)
    (case l30 => k_is)
    (case c30 => k_is)
    (case k30 => k_is)
    (case a31 => k_is)
    (case l31 => k_is)
    (case c31 => k_is)
    (case k31 => k_is)
    (case a32 => k_is)
    (case l32 => k_is)
    (case c32 => k_is)
    (case k32 => k_is)
    (case a33 => k_is)
    (case l33 => k_is)
    (case c33 => k_is)
    (case k33 => k_is)
    (case a34 => k_is)
    (case l34 => k_is)
    (case c34 => k_is)
    (case k34 => k_is)
    (case a35 => k_is)
    (case l35 => k_is)
    (case c35 => k_is)
    (case k35 => k_is)
    (case a36 => k_is)
    (case l36 => k_is)
    (case c36 => k_is)
    (case k36 => k_is)
    (case a37 => k_is)
    (case l37 => k_is)
    (case c37 => k_is)
    (case k37 => k_is)
    (case a38 => k_is)
    (case l38 => k_is)
    (case c38 => k_is)
    (case k38 => k_is)
    (case a39 => k_is)
    (case l39 => k_is)
    (case c39 => k_is)
    (case k39 => k_is)
    (case a40 => k_is)
    (case l40 => k_is)
    (case c40 => k_is)
    (case k40 => k_is)
    (case a41 => k_is)
    (case l41 => k_is)
    (case c41 => k_is)
    (case k41 => k_is)
    (case a42 => k_is)
    (case l42 => k_is)
    (case c42 => k_is)
    (case k42 => k_is)
    (case a43 => k_is)
    (case l43 => k_is)
    (case c43 => k_is)
    (case k43 => k_is)
    (case a44 => k_is)
    (case l44 => k_is)
    (case c44 => k_is)
    (case k44 => k_is)
    (case a45 => k_is)
    (case l45 => k_is)
    (case c45 => k_is)
    (case k45 => k_is)
    (case a46 => k_is)
    (case l46 => k_is)
    (case c46 => k_is)
    (case k46 => k_is)
    (case v_LETTERS => k_is)
    (case v_DIGITS => k_is)
    (case v_LONGEST_NAME => k_is)
    (case v_MOST_PERSONS => k_is)
    (case v_MOST_WIDTH => k_is)
    (case v_MOST_ROWS => k_is)
    (case z_set => k_is)
    (case z_len => k_is)
    (case z_all => k_is)
    (case z_any => k_is)
    (case z_abs => k_is)
    (case z_list => k_is)
    (case z_int => k_is)
    (case z_range => k_is)
    (case z_isinstance => k_is)
    (case z_tuple => k_is)
    (case z_sorted => k_is)
    (case z_enumerate => k_is)
    (case z_zip => k_is)
    (case z_sum => k_is)
    (case z_max => k_is)
    (case z_bool => k_is)
#print axioms PySem.Challenge.cw_openshares_k30_dealing_holds

