import PyProof.Rows.All
import Wide.All
import OpenK.AllK
import Wide.FinOn
import HandS.ForMost
import HandS.Walk
import HandS.Wide
import HandS.Deep
import HandS.TupAny
import HandS.Style
import HandS.IsInst
import HandS.Flow
import KE.KRevSl
import PySem.Challenge.RW_openshares_k01_valid_names
set_option Elab.async false
set_option linter.all false
set_option maxRecDepth 100000
set_option maxHeartbeats 4000000
/-! rules of my own: a call by keywords alone, a text turned round, the state of the draws -/
namespace OS
open PySem PySem.Spec PyProof.Rows L2

/-! ### f(k = v, ..) -/
section
variable {X : Cx} {CX : CXT} {k : Nat} {f : Addr} {fd : FuncData} {ps ks : List Str} {sp : Sp} {E : XK} {x : Str} {p pos : Pos} {kws : List Keyword} {tk : TA} {g : List Value → List Value → List Value} {gV : List V → List V → List V}
theorem pe_callK0 (F : FnOk X.prog X.w X.K X.mg X.base CX k f fd ps sp) (hr : Room k X.A) (hg : Gl X x) (hm : X.mg x = some (.ref f)) (hk : PySem.W.keepIn X.K (.ref f) = true) (hb : KBinds X.K fd ps ks g gV) (hx : Passes CX X E)
    (hkw : PK X kws tk) (hall : (backToKw pos (keywordEach kws X.env)).all (·.1.isSome) = true := by rfl) (hks : (backToKw pos (keywordEach kws X.env)).filterMap (·.1) = ks := by rfl)
    (hdb : (x == ("__debug__" : Str)) = false := by decide)
    (hpl : ((backTo pos (starEach [] X.env)).any (·.1) || (backToKw pos (keywordEach kws X.env)).any (·.1.isNone)) = false := by rfl) :
    PE X (.Call (.Name x p) [] kws pos) (tCallK sp gV E tNil tk) := by
  refine ⟨fun pins s σ H Q I h => ?_⟩
  refine wpAny_Call_Name_kw (ld_glob I hg hm ?_ hdb)
  refine PySem.W.callWith_KW0 (h₀ := X.base) I.ok.mod.kin hk hall ?_ hpl
  refine thn (hkw.run pos pins s σ H _ I h) fun ws s2 ⟨zs, H2, I2, rz, q2⟩ => ⟨I2.kIn, ?_⟩
  rw [hks]
  exact run_fnk (us := []) (vs := []) F hr hb hx I2 .nil rz q2
end

/-! ### text[::-1] -/
def revS (z : Str) : Str := ⟨z.cps.toList.reverse.toArray⟩
theorem revS_list (z : Str) : (revS z).cps.toList = z.cps.toList.reverse := by simp [revS]
theorem revS_len (z : Str) : (revS z).length = z.length := by simp [revS, Str.length]
def tRevS (te : TE) : TE := fun σ H Q => te σ H fun x H1 => ∃ z, x = .str z ∧ z.length ≤ sizeLine ∧ Q (.str (revS z)) H1
theorem rev_idx (n : Nat) : Builtin.Str.strSliceIndices none none (-1) n = (List.range n).reverse := by
  show sliceRange ((n : Int) - 1) (-1) (-1) = _
  rw [PySem.W.krv_sliceRange, PySem.W.krv_range]
theorem pe_revS {X : Cx} {e : Expr} {te : TE} {k : Nat} {p1 p2 p3 pos : Pos} (he : PE X e te) : PE X (.Subscript e (.Slice none none (some (.UnaryOp .USub (.Constant (.int 1) k p1) p2)) p3) pos) (tRevS te) := by
  refine ⟨fun pins s σ H Q I h => ?_⟩
  refine Subscript_ (thn (he.run pins s σ H _ I h) fun v s1 ⟨x, H1, I1, r1, q1⟩ => ?_)
  obtain ⟨z, ex, hz, q⟩ := q1
  subst ex
  obtain ⟨t, rfl⟩ := r1
  have hst : PO X (some (.UnaryOp .USub (.Constant (.int 1) k p1) p2)) (tPart (tUn (rU fun i => .int (-i)) (tC (.int 1)))) := po_some (pe_un un_neg pe_int)
  refine wpAny_Slice (thn (po_none.run pins s1 σ H1 (fun o H2 => o = none ∧ H2 = H1) I1 ⟨rfl, rfl⟩) fun vl s2 ⟨l, H2, I2, pl, el, e2⟩ => ?_)
  subst el e2
  refine thn (po_none.run pins s2 σ H2 (fun o H3 => o = none ∧ H3 = H2) I2 ⟨rfl, rfl⟩) fun vu s3 ⟨u, H3, I3, pu, eu, e3⟩ => ?_
  subst eu e3
  refine thn (hst.run pins s3 σ H3 (fun o H4 => o = some (-1) ∧ H4 = H3) I3 ⟨1, rfl, -1, rfl, rfl, rfl⟩) fun vs s4 ⟨o, H4, I4, ps, eo, e4⟩ => ?_
  subst eo e4
  have I5 : Inv X pins σ H4 { s4 with heap := s4.heap.push { cls := .type "slice", data := .fields #[vl, vu, vs] } } := I4.kept (t' := s4.toks) fun b ob q => Heap.get?_push_of_some _ q
  show wpAny (model X.prog X.w) X.A (subscriptTail e (.Slice none none (some (.UnaryOp .USub (.Constant (.int 1) k p1) p2)) p3) (.str z t) (.ref s4.heap.objs.size)) (EP X pins σ Q) X.xe { s4 with heap := s4.heap.push { cls := .type "slice", data := .fields #[vl, vu, vs] } }
  obtain ⟨pl', e1, e1'⟩ := IsPart.raw pl
  obtain ⟨pu', e2, e2'⟩ := IsPart.raw pu
  obtain ⟨ps', e3, e3'⟩ := IsPart.raw ps
  subst e1 e2 e3
  refine tail_any (typeIs_str _ z t) slot_str_getitem.lookup ?_ (by with_unfolding_all rfl)
  refine wpAny_getItem_str_slice (l := pl') (u := pu') (st := ps') ⟨_, Heap.get?_push_size _ rfl, rfl, rfl⟩ (by rw [e3']; rfl) ?_
  have el : (pl'.map (·.1)) = none := e1'
  have eu : (pu'.map (·.1)) = none := e2'
  have es : (ps'.map (·.1)) = some (-1) := e3'
  unfold sliceMade slicePicked
  rw [el, eu, es]
  show Made.post (if ((-1 : Int) == 1 && _) = true then _ else Made.str ⟨((Builtin.Str.strSliceIndices none none (-1) z.length).filterMap (z.cps[·]?)).toArray⟩) (EP X pins σ Q) _
  rw [if_neg (by simp), rev_idx]
  have ez : (List.range z.length).reverse.filterMap (z.cps[·]?) = z.cps.toList.reverse := by
    rw [List.filterMap_reverse]
    show ((List.range z.cps.size).filterMap (z.cps[·]?)).reverse = _
    rw [PySem.W.krv_all]
  rw [ez]
  exact ⟨by
    show (revS z).length ≤ sizeLine
    rw [revS_len]
    exact hz, .str (revS z), H4, I5.tok _, ⟨_, rfl⟩, q⟩
end OS
namespace OS
open PySem PySem.Spec PyProof.Rows L2
/-! ### a[k] for a[k] += e, lists -/
def rGetL (K : PySem.W.Frag) : V → V → Hp → VK → Prop := fun o i H Q => ∃ p xs k v, o = .ref p ∧ i = .int k ∧ SqL K H p xs ∧ 0 ≤ k ∧ xs[k.toNat]? = some v ∧ Q v H
theorem pget_list {X : Cx} : PGet X (rGetL X.K) := by
  intro pins s σ H o i ov iv Q I ro ri h
  obtain ⟨p, xs, k, z, rfl, rfl, hq, h0, he, q⟩ := h
  cases ro
  obtain ⟨t, rfl⟩ := ri
  obtain ⟨its, r, pl, hz⟩ := I.list hq
  obtain ⟨w, ew, rw'⟩ := r.get he
  have hl := r.length
  have hn := line63
  have hlt : k.toNat < xs.length := (List.getElem?_eq_some_iff.mp he).1
  exact wpAny_getItem_list pl.isList h0 (by omega) (by simpa using ew) ⟨z, H, I, rw', q⟩
/-! ### the state of the draws -/
structure StA (H : Hp) (p a b : Addr) (zs ms : List Int) (n : Nat) : Prop where
  hp : H p = some (.lst [.ref a, .ref b, .int (n : Int)])
  ha : H a = some (.lst (zs.map V.int))
  hb : H b = some (.lst (ms.map V.int))
  ab : a ≠ b
  ne : ms ≠ []
  lz : zs.length ≤ 100
  lm : ms.length ≤ 100
def StAt (H : Hp) (p : Addr) (n : Nat) : Prop := ∃ a b zs ms, StA H p a b zs ms n
def Own (H : Hp) (p q : Addr) : Prop := q = p ∨ ∃ xs, H p = some (.lst xs) ∧ V.ref q ∈ xs
/-- o stands at q, and q is no part of the state at p -/
structure Sep (H : Hp) (p q : Addr) (o : HO) : Prop where
  at_ : H q = some o
  no : ¬ Own H p q
/-- what is no part of the state stays -/
def Nx (p : Addr) (H H' : Hp) : Prop := ∀ q o, Sep H p q o → Sep H' p q o
theorem Nx.refl (p : Addr) (H : Hp) : Nx p H H := fun _ _ h => h
theorem Nx.trans {p : Addr} {H H1 H2 : Hp} (a : Nx p H H1) (b : Nx p H1 H2) : Nx p H H2 := fun q o h => b q o (a q o h)
theorem StA.pa {H : Hp} {p a b : Addr} {zs ms : List Int} {n : Nat} (S : StA H p a b zs ms n) : p ≠ a := by
  refine ne_of S.hp S.ha fun z => ?_
  injection z with z
  cases zs <;> simp at z
theorem StA.pb {H : Hp} {p a b : Addr} {zs ms : List Int} {n : Nat} (S : StA H p a b zs ms n) : p ≠ b := by
  refine ne_of S.hp S.hb fun z => ?_
  injection z with z
  cases ms <;> simp at z
theorem own_iff {H : Hp} {p a b : Addr} {n : Int} (h : H p = some (.lst [.ref a, .ref b, .int n])) (q : Addr) : Own H p q ↔ q = p ∨ q = a ∨ q = b := by
  unfold Own
  rw [h]
  constructor
  · rintro (h | ⟨xs, e, m⟩)
    · exact .inl h
    · cases e
      simp at m
      exact .inr m
  · rintro (h | h)
    · exact .inl h
    · refine .inr ⟨_, rfl, ?_⟩
      simpa using h
theorem StA.mk' {H : Hp} {p a b : Addr} {zs ms : List Int} {n : Nat} (S : StA H p a b zs ms n) : StAt H p n := ⟨a, b, zs, ms, S⟩
theorem StAt.same {H H' : Hp} {p : Addr} {n : Nat} (S : StAt H p n) (s : Same H H') : StAt H' p n := by
  obtain ⟨a, b, zs, ms, S⟩ := S
  exact ⟨a, b, zs, ms, s _ _ S.hp, s _ _ S.ha, s _ _ S.hb, S.ab, S.ne, S.lz, S.lm⟩
theorem StAt.nx {H H' : Hp} {p : Addr} {n : Nat} (S : StAt H p n) (s : Same H H') : Nx p H H' := by
  obtain ⟨a, b, zs, ms, S⟩ := S
  intro q o h
  refine ⟨s _ _ h.at_, fun z => h.no ?_⟩
  rw [own_iff S.hp]
  exact (own_iff (s _ _ S.hp) q).mp z
theorem same_new {H : Hp} {p : Addr} {o : HO} (h : H p = none) : Same H (upd H p o) := fun b x e => by
  rw [upd_ne (ne_of_none e h)]
  exact e
theorem StAt.free {H : Hp} {p q : Addr} {n : Nat} (S : StAt H p n) (h : H q = none) : ¬ Own H p q := by
  obtain ⟨a, b, zs, ms, S⟩ := S
  rw [own_iff S.hp]
  rintro (z | z | z)
  · exact ne_of_none S.hp h z.symm
  · exact ne_of_none S.ha h z.symm
  · exact ne_of_none S.hb h z.symm
/-- a new object -/
theorem StAt.new {H : Hp} {p q : Addr} {n : Nat} {o : HO} (S : StAt H p n) (h : H q = none) : Sep (upd H q o) p q o := by
  refine ⟨upd_same, fun z => S.free h ?_⟩
  obtain ⟨a, b, zs, ms, S⟩ := S
  rw [own_iff S.hp]
  exact (own_iff (same_new h _ _ S.hp) q).mp z
theorem Sep.sq {K : PySem.W.Frag} {H : Hp} {p q : Addr} {xs : List V} (h : Sep H p q (.lst xs)) : SqL K H q xs := .inl (.inl h.at_)
theorem Sep.st {K : PySem.W.Frag} {H : Hp} {p q : Addr} {xs : List V} (h : Sep H p q (.tup xs)) : SqT K H q xs := .inl (.inl h.at_)
/-- an object of one's own is written -/
theorem StAt.put {H : Hp} {p q : Addr} {n : Nat} {o u : HO} (S : StAt H p n) (h : Sep H p q o) : StAt (upd H q u) p n := by
  obtain ⟨a, b, zs, ms, S⟩ := S
  have no := h.no
  rw [own_iff S.hp] at no
  refine ⟨a, b, zs, ms, ?_, ?_, ?_, S.ab, S.ne, S.lz, S.lm⟩
  · rw [upd_ne (fun z => no (.inl z.symm))]; exact S.hp
  · rw [upd_ne (fun z => no (.inr (.inl z.symm)))]; exact S.ha
  · rw [upd_ne (fun z => no (.inr (.inr z.symm)))]; exact S.hb
theorem own_put {H : Hp} {p q r : Addr} {u : HO} (h : r ≠ p) : Own (upd H r u) p q ↔ Own H p q := by
  unfold Own
  rw [upd_ne (fun z => h z.symm)]
theorem Sep.ne {H : Hp} {p q : Addr} {o : HO} (h : Sep H p q o) : q ≠ p := fun z => h.no (.inl z)
theorem Sep.put_same {H : Hp} {p q : Addr} {o u : HO} (h : Sep H p q o) : Sep (upd H q u) p q u := ⟨upd_same, fun z => h.no ((own_put h.ne).mp z)⟩
theorem Sep.put_ne {H : Hp} {p q r : Addr} {o o' u : HO} (h : Sep H p q o) (h' : Sep H p r o') (n : q ≠ r) : Sep (upd H r u) p q o := ⟨by rw [upd_ne n]; exact h.at_, fun z => h.no ((own_put h'.ne).mp z)⟩
/-! ### what the draws promise -/
structure DrawOk (n : Nat) (size : Int) : Prop where
  few : n ≤ 1000000000
  pos : 0 < size
  big : size < 1000000000000
def spDraw : Sp := fun vs H Q _ => ∃ (p : Addr) (n : Nat) (size : Int), vs = [.ref p, .int size] ∧ StAt H p n ∧ DrawOk n size ∧
  ∀ (r : Int) (H' : Hp), 0 ≤ r → r < size → StAt H' p (n + 1) → Nx p H H' → Q (.int r) H'
def spStart (K : PySem.W.Frag) : Sp := fun vs H Q _ => ∃ (a : Addr) (ns : List Int), vs = [.ref a] ∧ SqL K H a (ns.map V.int) ∧ ns.length ≤ 63 ∧ ∀ (p : Addr) (H' : Hp), Same H H' → H p = none → StAt H' p 0 → Q (.ref p) H'
end OS
namespace OS
open PySem PySem.Spec PyProof.Rows L2
/-! ### comprehensions whose parts change nothing that is tracked -/
theorem paired_snoc {α β : Type} {R : α → β → Prop} : ∀ {xs : List α} {ys : List β} {x : α} {y : β}, Paired R xs ys → R x y → Paired R (xs ++ [x]) (ys ++ [y])
  | _, _, _, _, .nil, h => .cons h .nil
  | _, _, _, _, .cons r t, h => .cons r (paired_snoc t h)
theorem take_snoc {α : Type} {xs : List α} {i : Nat} {a : α} (h : xs[i]? = some a) : xs.take (i + 1) = xs.take i ++ [a] := by
  rw [List.take_add_one, h]
  rfl
theorem same_put {H1 H : Hp} {D : Addr} {o : HO} (s : Same H1 H) (hD : H1 D = none) : Same H1 (upd H D o) := fun b x e => by
  rw [upd_ne (ne_of_none e hD)]
  exact s b x e
theorem same_put' {H1 H : Hp} {D : Addr} {o : HO} (s : Same H1 H) (hD : H1 D = none) : Same H1 (upd H D o) := same_put s hD
/-- over xs, where t holds: a value that stands in R to the item -/
theorem lc_rel {α : Type} {J : It} {n : Nat} {G : Hp → Prop} {Y : Nat → Hp → V → Hp → Prop} (w : Walk J n G Y) {xs : List α} (hn : xs.length = n) (hz : n ≤ 1000) (t : α → Bool) (R : Hp → α → V → Prop) {g : TG} {tt : TT} {te : TE} {vs : List Nat} {σ : L2.St} {H1 : Hp} {D : Addr} {Qd : Hp → Prop}
    (hD : H1 D = none) (hR : ∀ H H' a v acc, Same H1 H → H D = some (.lst acc) → (∀ b o, H b = some o → b ≠ D → H' b = some o) → R H a v → R H' a v) (hG : ∀ H, Same H1 H → G H)
    (hs : ∀ i a x H H' (Qk : V → Hp → Prop) (Qn : Hp → Prop), xs[i]? = some a → Same H1 H → Y i H x H' → (t a = true → ∀ y H4, R H4 a y → Same H H4 → Qk y H4) → (t a = false → ∀ H4, Same H H4 → Qn H4) →
      g x (wipe σ vs) H' fun σ2 H2 => wipe σ2 vs = wipe σ vs ∧ tt σ2 H2 fun b H3 => if b = true then te σ2 H3 Qk else Qn H3)
    (hd : ∀ H acc, Same H1 H → H D = some (.lst acc) → Paired (R H) (xs.filter t) acc → Qd H) :
    ∃ W : Nat → Nat → Hp → Prop, (∃ m, W 0 m (upd H1 D (.lst []))) ∧ ∀ i m H, W i m H →
      (J.stop i H ∧ Qd H) ∨ (J.go i H ∧ ∃ Nx : Hp → Prop, (∀ H', Nx H' → ∃ m', m' < m ∧ W (i + 1) m' H') ∧ ∀ x H', J.yld i H x H' → g x (wipe σ vs) H' fun σ2 H2 => wipe σ2 vs = wipe σ vs ∧ tt σ2 H2 fun b H3 =>
        if b = true then te σ2 H3 fun y H4 => ∃ acc, H4 D = some (.lst acc) ∧ acc.length < sizeLine ∧ Nx (upd H4 D (.lst (acc ++ [y]))) else Nx H3) := by
  refine lc_it w (fun i H => Same H1 H ∧ ∃ acc, H D = some (.lst acc) ∧ acc.length ≤ i ∧ Paired (R H) ((xs.take i).filter t) acc) ⟨same_new hD, [], upd_same, Nat.le_refl _, .nil⟩ (fun i H _ h => hG H h.1) ?_ ?_
  · intro i x H H' hi ⟨sm, acc, hacc, hl, pr⟩ hy
    have hx : xs[i]? = some xs[i] := List.getElem?_eq_getElem (by omega)
    have ht := take_snoc hx
    refine hs i xs[i] x H H' _ _ hx sm hy (fun e y H4 hr s4 => ?_) (fun e H4 s4 => ?_)
    · have h4 := s4 _ _ hacc
      refine ⟨acc, h4, Nat.lt_of_le_of_lt hl (small1000 (by omega)), same_put (sm.trans s4) hD, acc ++ [y], upd_same, by simp; omega, ?_⟩
      rw [ht, List.filter_append, show [xs[i]].filter t = [xs[i]] by simp [e]]
      have kp : ∀ b o, H4 b = some o → b ≠ D → (upd H4 D (.lst (acc ++ [y]))) b = some o := fun b o q z => by rw [upd_ne z]; exact q
      exact paired_snoc (L2.Paired.mapP pr fun a v q => hR _ _ a v acc (sm.trans s4) h4 kp (hR _ _ a v acc sm hacc (fun b o q _ => s4 b o q) q)) (hR _ _ _ _ acc (sm.trans s4) h4 kp hr)
    · refine ⟨sm.trans s4, acc, s4 _ _ hacc, by omega, ?_⟩
      rw [ht, List.filter_append, show [xs[i]].filter t = [] by simp [e], List.append_nil]
      exact L2.Paired.mapP pr fun a v q => hR _ _ a v acc sm hacc (fun b o q _ => s4 b o q) q
  · intro H ⟨sm, acc, hacc, hl, pr⟩
    rw [List.take_of_length_le (by omega)] at pr
    exact hd H acc sm hacc pr
theorem paired_fn {α β : Type} {F : α → β} : ∀ {xs : List α} {ys : List β}, Paired (fun a v => v = F a) xs ys → ys = xs.map F
  | _, _, .nil => rfl
  | _, _, .cons r t => by rw [r, paired_fn t]; rfl
/-- .. a value that is told by the item -/
theorem lc_fn {α : Type} {J : It} {n : Nat} {G : Hp → Prop} {Y : Nat → Hp → V → Hp → Prop} (w : Walk J n G Y) {xs : List α} (hn : xs.length = n) (hz : n ≤ 1000) (t : α → Bool) (F : α → V) {g : TG} {tt : TT} {te : TE} {vs : List Nat} {σ : L2.St} {H1 : Hp} {D : Addr} {Qd : Hp → Prop}
    (hD : H1 D = none) (hG : ∀ H, Same H1 H → G H)
    (hs : ∀ i a x H H' (Qk : V → Hp → Prop) (Qn : Hp → Prop), xs[i]? = some a → Same H1 H → Y i H x H' → (t a = true → ∀ H4, Same H H4 → Qk (F a) H4) → (t a = false → ∀ H4, Same H H4 → Qn H4) →
      g x (wipe σ vs) H' fun σ2 H2 => wipe σ2 vs = wipe σ vs ∧ tt σ2 H2 fun b H3 => if b = true then te σ2 H3 Qk else Qn H3)
    (hd : ∀ H, Same H1 H → H D = some (.lst ((xs.filter t).map F)) → Qd H) :
    ∃ W : Nat → Nat → Hp → Prop, (∃ m, W 0 m (upd H1 D (.lst []))) ∧ ∀ i m H, W i m H →
      (J.stop i H ∧ Qd H) ∨ (J.go i H ∧ ∃ Nx : Hp → Prop, (∀ H', Nx H' → ∃ m', m' < m ∧ W (i + 1) m' H') ∧ ∀ x H', J.yld i H x H' → g x (wipe σ vs) H' fun σ2 H2 => wipe σ2 vs = wipe σ vs ∧ tt σ2 H2 fun b H3 =>
        if b = true then te σ2 H3 fun y H4 => ∃ acc, H4 D = some (.lst acc) ∧ acc.length < sizeLine ∧ Nx (upd H4 D (.lst (acc ++ [y]))) else Nx H3) := by
  refine lc_rel w hn hz t (fun _ a v => v = F a) hD (fun _ _ _ _ _ _ _ _ e => e) hG (fun i a x H H' Qk Qn h1 h2 h3 h4 h5 => hs i a x H H' Qk Qn h1 h2 h3 (fun e H4 s => h4 e _ H4 rfl s) h5) fun H acc s e p => ?_
  rw [paired_fn p] at e
  exact hd H s e
/-- .. all of xs -/
theorem lc_all {α : Type} {J : It} {n : Nat} {G : Hp → Prop} {Y : Nat → Hp → V → Hp → Prop} (w : Walk J n G Y) {xs : List α} (hn : xs.length = n) (hz : n ≤ 1000) (F : α → V) {g : TG} {te : TE} {vs : List Nat} {σ : L2.St} {H1 : Hp} {D : Addr} {Qd : Hp → Prop}
    (hD : H1 D = none) (hG : ∀ H, Same H1 H → G H)
    (hs : ∀ i a x H H' (Qk : V → Hp → Prop), xs[i]? = some a → Same H1 H → Y i H x H' → (∀ H4, Same H H4 → Qk (F a) H4) → g x (wipe σ vs) H' fun σ2 H2 => wipe σ2 vs = wipe σ vs ∧ te σ2 H2 Qk)
    (hd : ∀ H, Same H1 H → H D = some (.lst (xs.map F)) → Qd H) :
    ∃ W : Nat → Nat → Hp → Prop, (∃ m, W 0 m (upd H1 D (.lst []))) ∧ ∀ i m H, W i m H →
      (J.stop i H ∧ Qd H) ∨ (J.go i H ∧ ∃ Nx : Hp → Prop, (∀ H', Nx H' → ∃ m', m' < m ∧ W (i + 1) m' H') ∧ ∀ x H', J.yld i H x H' → g x (wipe σ vs) H' fun σ2 H2 => wipe σ2 vs = wipe σ vs ∧ tYes σ2 H2 fun b H3 =>
        if b = true then te σ2 H3 fun y H4 => ∃ acc, H4 D = some (.lst acc) ∧ acc.length < sizeLine ∧ Nx (upd H4 D (.lst (acc ++ [y]))) else Nx H3) := by
  refine lc_it w (fun i H => Same H1 H ∧ H D = some (.lst ((xs.take i).map F))) ⟨same_new hD, upd_same⟩ (fun i H _ h => hG H h.1) ?_ ?_
  · intro i x H H' hi ⟨sm, hacc⟩ hy
    have hx : xs[i]? = some xs[i] := List.getElem?_eq_getElem (by omega)
    refine hs i xs[i] x H H' _ hx sm hy (fun H4 s4 => ?_)
    refine ⟨_, s4 _ _ hacc, ?_, same_put (sm.trans s4) hD, ?_⟩
    · rw [List.length_map]
      exact small1000 (Nat.le_trans (List.length_take_le _ _) (by omega))
    · rw [upd_same, take_snoc hx, List.map_append]
      rfl
  · intro H ⟨sm, hacc⟩
    rw [List.take_of_length_le (by omega)] at hacc
    exact hd H sm hacc
end OS
namespace OS
open PySem PySem.Spec PyProof.Rows L2
/-! ### data in lists: == and != -/
def okS (z : Str) : Prop := PyData.canLay0 (.str z) = true
theorem dp_all {α : Type} {K : PySem.W.Frag} {H : Hp} {f : α → V} {g : α → PyData} (h : ∀ a, Dp K H (f a) (g a)) : ∀ xs : List α, DpAll K H (xs.map f) (xs.map g)
  | [] => .nil
  | a :: r => .cons (h a) (dp_all h r)
theorem dp_strs {K : PySem.W.Frag} {H : Hp} {a : Addr} {xs : List Str} (h : SqL K H a (xs.map V.str)) : Dp K H (.ref a) (.list (xs.map .str)) := .lst h (dp_all (fun x => .str x) xs)
theorem dp_ints {K : PySem.W.Frag} {H : Hp} {a : Addr} {xs : List Int} (h : SqL K H a (xs.map V.int)) : Dp K H (.ref a) (.list (xs.map .int)) := .lst h (dp_all (fun x => .int x) xs)
theorem lay_all {α : Type} {g : α → PyData} : ∀ {xs : List α}, (∀ a ∈ xs, (g a).canLay0 = true) → PyData.canLayAll0 (xs.map g) = true
  | [], _ => rfl
  | a :: r, h => by
    show ((g a).canLay0 && PyData.canLayAll0 (r.map g)) = true
    rw [h a (.head _), lay_all fun b hb => h b (.tail _ hb)]
    rfl
theorem depth_all {α : Type} {g : α → PyData} {n : Nat} : ∀ {xs : List α}, (∀ a ∈ xs, (g a).depth ≤ n) → PyData.depthAll (xs.map g) ≤ n
  | [], _ => Nat.zero_le _
  | a :: r, h => by
    show max (g a).depth (PyData.depthAll (r.map g)) ≤ n
    exact Nat.max_le.mpr ⟨h a (.head _), depth_all fun b hb => h b (.tail _ hb)⟩
theorem shaped_of {d : PyData} {n : Nat} (h : d.canLay0 = true) (hd : d.depth ≤ n) (hn : n ≤ 64) : SeqAt.shaped d = true := by
  show (d.canLay0 && decide (d.depth ≤ 64)) = true
  rw [h, decide_eq_true (Nat.le_trans hd hn)]
  rfl
theorem shaped_strs {xs : List Str} (h : ∀ x ∈ xs, okS x) : SeqAt.shaped (.list (xs.map .str)) = true :=
  shaped_of (n := 1) (lay_all (g := .str) h) (Nat.succ_le_succ (depth_all (n := 0) fun _ _ => Nat.le_refl 0)) (by decide)
theorem shaped_ints {xs : List Int} : SeqAt.shaped (.list (xs.map .int)) = true :=
  shaped_of (n := 1) (lay_all (g := .int) fun _ _ => rfl) (Nat.succ_le_succ (depth_all (n := 0) fun _ _ => Nat.le_refl 0)) (by decide)
theorem shaped_nil : SeqAt.shaped (.list []) = true := rfl
theorem dp_nil {K : PySem.W.Frag} {H : Hp} {a : Addr} (h : SqL K H a []) : Dp K H (.ref a) (.list []) := .lst h .nil
theorem eqv_nil (ds : List PyData) : PyData.eqv (.list ds) (.list []) = ds.isEmpty := by
  cases ds <;> rfl
/-- a list of ints against [] -/
theorem ints_ne_nil {K : PySem.W.Frag} {H : Hp} {a p : Addr} {xs : List Int} {Q : VK} (h : SqL K H a (xs.map V.int)) (h0 : SqL K H p []) (q : Q (.bl (!xs.isEmpty)) H) : rNeD K (.ref a) (.ref p) H Q := by
  refine ⟨_, _, dp_ints h, dp_nil h0, shaped_ints, shaped_nil, ?_⟩
  rw [eqv_nil]
  cases xs <;> exact q
theorem strs_ne_nil {K : PySem.W.Frag} {H : Hp} {a p : Addr} {xs : List Str} {Q : VK} (h : SqL K H a (xs.map V.str)) (ho : ∀ x ∈ xs, okS x) (h0 : SqL K H p []) (q : Q (.bl (!xs.isEmpty)) H) : rNeD K (.ref a) (.ref p) H Q := by
  refine ⟨_, _, dp_strs h, dp_nil h0, shaped_strs ho, shaped_nil, ?_⟩
  rw [eqv_nil]
  cases xs <;> exact q
theorem strs_eq_nil {K : PySem.W.Frag} {H : Hp} {a p : Addr} {xs : List Str} {Q : VK} (h : SqL K H a (xs.map V.str)) (ho : ∀ x ∈ xs, okS x) (h0 : SqL K H p []) (q : Q (.bl xs.isEmpty) H) : rEqD K (.ref a) (.ref p) H Q := by
  refine ⟨_, _, dp_strs h, dp_nil h0, shaped_strs ho, shaped_nil, ?_⟩
  rw [eqv_nil]
  cases xs <;> exact q
end OS
namespace OS
open PySem PySem.Spec PyProof.Rows L2
/-! ### the state's own turns -/
theorem filter_empty {α : Type} {t : α → Bool} : ∀ l : List α, (l.filter fun c => !t c).isEmpty = l.all t
  | [] => rfl
  | a :: r => by
    have ih := filter_empty (t := t) r
    cases e : t a
    · simp [e]
    · rw [List.filter_cons_of_neg (by simp [e]), List.all_cons, e, Bool.true_and]
      exact ih
theorem cutV1 (xs : List V) : cutV xs (some 1) none = xs.drop 1 := by
  unfold cutV
  rw [show HT.sIx xs.length 0 (some 1) = min 1 xs.length from HT.sIx_nat xs.length 0 1, HT.sIx_none]
  cases xs with
  | nil => rfl
  | cons x r =>
    rw [show min 1 (x :: r).length = 1 by
      rw [List.length_cons]
      omega]
    show (List.take ((x :: r).length - 1) r) = r
    rw [List.length_cons, Nat.add_sub_cancel]
    exact List.take_length
section
variable {H H' : Hp} {p a b r : Addr} {zs zs' ms : List Int} {n : Nat}
theorem StA.same (S : StA H p a b zs ms n) (s : Same H H') : StA H' p a b zs ms n := ⟨s _ _ S.hp, s _ _ S.ha, s _ _ S.hb, S.ab, S.ne, S.lz, S.lm⟩
theorem StA.nx (S : StA H p a b zs ms n) (s : Same H H') : Nx p H H' := S.mk'.nx s
/-- all but p and a stays -/
theorem StA.nx_put (S : StA H p a b zs ms n) {x : Addr} {k : Int} (s : ∀ q o, H q = some o → q ≠ p → q ≠ a → H' q = some o) (hp : H' p = some (.lst [.ref x, .ref b, .int k])) (hx : x = a ∨ H x = none) : Nx p H H' := by
  intro q o h
  have no := h.no
  rw [own_iff S.hp] at no
  refine ⟨s _ _ h.at_ (fun z => no (.inl z)) (fun z => no (.inr (.inl z))), ?_⟩
  rw [own_iff hp]
  rintro (z | z | z)
  · exact no (.inl z)
  · rcases hx with e | e
    · exact no (.inr (.inl (z.trans e)))
    · exact ne_of_none h.at_ e z
  · exact no (.inr (.inr z))
theorem StA.bump (S : StA H p a b zs ms n) : StA (upd H p (.lst [.ref a, .ref b, .int ((n : Int) + 1)])) p a b zs ms (n + 1) := by
  refine ⟨upd_same, ?_, ?_, S.ab, S.ne, S.lz, S.lm⟩
  · rw [upd_ne S.pa.symm]; exact S.ha
  · rw [upd_ne S.pb.symm]; exact S.hb
theorem StA.bump_nx (S : StA H p a b zs ms n) {k : Int} : Nx p H (upd H p (.lst [.ref a, .ref b, .int k])) :=
  S.nx_put (fun q o e z _ => by rw [upd_ne z]; exact e) upd_same (.inl rfl)
theorem StA.swap (S : StA H p a b zs ms n) (hr : H r = none) (hz : zs'.length ≤ 100) : StA (upd (upd H r (.lst (zs'.map V.int))) p (.lst [.ref r, .ref b, .int (n : Int)])) p r b zs' ms n := by
  have rp : r ≠ p := (ne_of_none S.hp hr).symm
  have rb : r ≠ b := (ne_of_none S.hb hr).symm
  refine ⟨upd_same, ?_, ?_, rb, S.ne, hz, S.lm⟩
  · rw [upd_ne rp, upd_same]
  · rw [upd_ne S.pb.symm, upd_ne rb.symm]; exact S.hb
theorem StA.swap_nx (S : StA H p a b zs ms n) (hr : H r = none) : Nx p H (upd (upd H r (.lst (zs'.map V.int))) p (.lst [.ref r, .ref b, .int (n : Int)])) :=
  S.nx_put (fun q o e z _ => by rw [upd_ne z, upd_ne (ne_of_none e hr)]; exact e) upd_same (.inr hr)
theorem StA.seta (S : StA H p a b zs ms n) (hz : zs'.length ≤ 100) : StA (upd H a (.lst (zs'.map V.int))) p a b zs' ms n := by
  refine ⟨?_, upd_same, ?_, S.ab, S.ne, hz, S.lm⟩
  · rw [upd_ne S.pa]; exact S.hp
  · rw [upd_ne S.ab.symm]; exact S.hb
theorem StA.seta_nx (S : StA H p a b zs ms n) : Nx p H (upd H a (.lst (zs'.map V.int))) :=
  S.nx_put (fun q o e _ z => by rw [upd_ne z]; exact e) (by rw [upd_ne S.pa]; exact S.hp) (.inl rfl)
end
theorem pow5 (x : Int) : 0 ≤ (x ^ 5) % 2147483647 ∧ (x ^ 5) % 2147483647 < 2147483647 := ⟨Int.emod_nonneg _ (by decide), Int.emod_lt_of_pos _ (by decide)⟩
end OS
namespace OS
open PySem PySem.Spec PyProof.Rows L2
theorem at0 {α : Type} {x : α} {l : List α} : atI (x :: l) 0 = some x := atI_nat (j := 0) rfl
theorem ix0 {α : Type} {x : α} {l : List α} : ixN (x :: l).length 0 = some 0 := by
  unfold ixN
  rw [if_pos (by decide), if_pos (by rw [List.length_cons]; omega)]
  rfl
end OS
namespace OS
open PySem PySem.Spec PyProof.Rows L2
/-- a statement, then the rest: Z holds between them, whatever way led there -/
theorem seq_cut {t U : TS} {D : Ends} {σ : L2.St} {H : Hp} (Z : L2.St → Hp → Prop) (h : ∀ Qz : L2.St → Hp → Prop, (∀ σ' H', Z σ' H' → Qz σ' H') → t { D with nx := Qz } σ H) (hz : ∀ σ' H', Z σ' H' → U D σ' H') : tSeq t U D σ H := h (U D) hz
end OS
namespace OS
open PySem PySem.Spec PyProof.Rows L2
/-! ### joined texts -/
theorem glue_fold : ∀ (r : List Str) (acc : Array Nat), (r.foldl (fun acc p => acc ++ Str.empty.cps ++ p.cps) acc).toList = acc.toList ++ (r.map fun p => p.cps.toList).flatten
  | [], acc => by simp
  | p :: r, acc => by
    rw [List.foldl_cons, glue_fold r]
    simp [Str.empty]
theorem join0 (ys : List Str) : (Txt.join Str.empty ys).cps.toList = (ys.map fun p => p.cps.toList).flatten := by
  unfold Txt.join Builtin.Str.glued
  cases ys with
  | nil => simp [Str.empty]
  | cons y r =>
    show (r.foldl _ y.cps).toList = _
    rw [glue_fold r]
    rfl
/-- signs one by one -/
theorem join_signs (cs : List Nat) : (Txt.join Str.empty (cs.map fun c => ⟨#[c]⟩)).cps.toList = cs := by
  rw [join0, List.map_map]
  induction cs with
  | nil => rfl
  | cons c r ih => simpa using ih
theorem signs_len (cs : List Nat) : ((cs.map fun c => (⟨#[c]⟩ : Str)).map (·.length)).sum = cs.length := by
  induction cs with
  | nil => rfl
  | cons c r ih =>
    rw [List.map_cons, List.map_cons, List.sum_cons, ih, List.length_cons]
    show 1 + r.length = _
    omega
theorem str_list_len (z : Str) : z.cps.toList.length = z.length := by simp [Str.length]
theorem app_signs (a b : Str) : (a ++ b).cps.toList = a.cps.toList ++ b.cps.toList := cps_toList_append a b
theorem app_len (a b : Str) : (a ++ b).length = a.length + b.length := by
  rw [← str_list_len, app_signs, List.length_append, str_list_len, str_list_len]
end OS
namespace OS
open PySem PySem.Spec PyProof.Rows L2
/-! ### comprehensions whose parts draw -/
theorem lc_dr {J : It} {n : Nat} {G : Hp → Prop} {Y : Nat → Hp → V → Hp → Prop} (w : Walk J n G Y) (hz : n ≤ 1000) (p : Addr) (m0 c : Nat) (R : Hp → V → Prop) {g : TG} {te : TE} {vs : List Nat} {σ : L2.St} {H1 : Hp} {D : Addr} {Qd : Hp → Prop}
    (S : StAt H1 p m0) (hD : H1 D = none) (hR : ∀ H H' y acc, Sep H p D (.lst acc) → (∀ q o, Sep H p q o → q ≠ D → Sep H' p q o) → R H y → R H' y) (hG : ∀ H, Nx p H1 H → G H)
    (hs : ∀ i m x H H' (Qk : V → Hp → Prop), i < n → StAt H p m → m ≤ m0 + c * i → Nx p H1 H → Y i H x H' → (∀ y H4 m', R H4 y → StAt H4 p m' → m' ≤ m + c → Nx p H H4 → Qk y H4) → g x (wipe σ vs) H' fun σ2 H2 => wipe σ2 vs = wipe σ vs ∧ te σ2 H2 Qk)
    (hd : ∀ H m acc, StAt H p m → m ≤ m0 + c * n → Nx p H1 H → Sep H p D (.lst acc) → acc.length = n → (∀ y ∈ acc, R H y) → Qd H) :
    ∃ W : Nat → Nat → Hp → Prop, (∃ m, W 0 m (upd H1 D (.lst []))) ∧ ∀ i m H, W i m H →
      (J.stop i H ∧ Qd H) ∨ (J.go i H ∧ ∃ Nx : Hp → Prop, (∀ H', Nx H' → ∃ m', m' < m ∧ W (i + 1) m' H') ∧ ∀ x H', J.yld i H x H' → g x (wipe σ vs) H' fun σ2 H2 => wipe σ2 vs = wipe σ vs ∧ tYes σ2 H2 fun b H3 =>
        if b = true then te σ2 H3 fun y H4 => ∃ acc, H4 D = some (.lst acc) ∧ acc.length < sizeLine ∧ Nx (upd H4 D (.lst (acc ++ [y]))) else Nx H3) := by
  refine lc_it w (fun i H => ∃ m acc, StAt H p m ∧ m ≤ m0 + c * i ∧ Nx p H1 H ∧ Sep H p D (.lst acc) ∧ acc.length = i ∧ ∀ y ∈ acc, R H y) ⟨m0, [], S.same (same_new hD), Nat.le_add_right _ _, S.nx (same_new hD), S.new hD, rfl, fun y h => nomatch h⟩ (fun i H _ ⟨_, _, _, _, x, _⟩ => hG H x) ?_ ?_
  · intro i x H H' hi ⟨m, acc, S', hm, nx, sD, hl, hr⟩ hy
    refine hs i m x H H' _ hi S' hm nx hy fun y H4 m' ry S4 hm' nx4 => ?_
    have sD4 := nx4 _ _ sD
    refine ⟨acc, sD4.at_, by rw [hl]; exact small1000 (by omega), m', acc ++ [y], S4.put sD4, by rw [Nat.mul_succ]; omega, ?_, sD4.put_same, by simp [hl], ?_⟩
    · intro q o hq
      have hq4 := nx4 _ _ (nx q o hq)
      have : q ≠ D := ne_of_none hq.at_ hD
      exact hq4.put_ne sD4 this
    · have kp : ∀ q o, Sep H4 p q o → q ≠ D → Sep (upd H4 D (.lst (acc ++ [y]))) p q o := fun q o h n => h.put_ne sD4 n
      intro z hz'
      rcases List.mem_append.mp hz' with h | h
      · exact hR _ _ z acc sD4 kp (hR _ _ z acc sD (fun q o h _ => nx4 q o h) (hr z h))
      · rw [List.mem_singleton.mp h]
        exact hR _ _ y acc sD4 kp ry
  · intro H ⟨m, acc, S', hm, nx, sD, hl, hr⟩
    exact hd H m acc S' hm nx sD hl hr
end OS
namespace OS
open PySem PySem.Spec PyProof.Rows L2
/-- a place to stop: a statement whose ways meet behind it -/
structure Stop (t u : TS) (D : Ends) (σ : L2.St) (H : Hp) : Prop where
  go : tSeq t u D σ H
theorem pss_stop {X : Cx} {st : Stmt} {rest : List Stmt} {t u : TS} (h1 : PS X st t) (h2 : PSs X rest u) : PSs X (st :: rest) (Stop t u) := ⟨fun pins s σ H D I h => (pss_cons h1 h2).run pins s σ H D I h.go⟩
theorem Stop.cut {t U : TS} {D : Ends} {σ : L2.St} {H : Hp} (Z : L2.St → Hp → Prop) (h : ∀ Qz : L2.St → Hp → Prop, (∀ σ' H', Z σ' H' → Qz σ' H') → t { D with nx := Qz } σ H) (hz : ∀ σ' H', Z σ' H' → U D σ' H') : Stop t U D σ H := ⟨seq_cut Z h hz⟩
end OS
namespace OS
open PySem PySem.Spec PyProof.Rows L2
theorem at_pick {α : Type} {l : List α} {i : Int} (h0 : 0 ≤ i) (h1 : i < l.length) : ∃ v, atI l i = some v ∧ v ∈ l := by
  obtain ⟨n, rfl⟩ := Int.eq_ofNat_of_zero_le h0
  have hn : n < l.length := by omega
  exact ⟨l[n], atI_nat (List.getElem?_eq_getElem hn), List.getElem_mem hn⟩
/-- a sign of a text -/
theorem sign_pick {z : Str} {i : Int} (h0 : 0 ≤ i) (h1 : i < z.length) : ∃ c, atI z.cps.toList i = some c ∧ c ∈ z.cps.toList := at_pick h0 (by rw [str_list_len]; exact h1)
end OS
namespace OS
open PySem PySem.Spec PyProof.Rows L2
theorem vals_rep : ∀ n : Nat, Vals (List.replicate n V.non) (List.replicate n Value.none)
  | 0 => .nil
  | n + 1 => .cons rfl (vals_rep n)
theorem Vals.len1 {vs : List V} {us : List Value} (h : Vals vs us) : vs.length = us.length := L2.Vals.length h
end OS

set_option Elab.async false
set_option linter.all false
set_option maxRecDepth 100000
set_option maxHeartbeats 4000000
namespace P
open PySem PySem.Spec PyProof.Rows L2 OS
def top (i : Nat) : Stmt := PySem.Challenge.pw_openshares_k01_valid_names.main.body.getD i (.Pass ⟨0, 0, 0, 0⟩)
abbrev s_valid_name : Stmt := top 4
abbrev N_valid_name : List Str := ["text", "char"]
theorem sc_valid_name : FnScope N_valid_name ["text"] (defScope s_valid_name) := ⟨rfl, rfl, rfl, by decide +kernel, rfl, by decide +kernel, by decide +kernel⟩
abbrev s_law_start : Stmt := top 6
abbrev N_law_start : List Str := ["_law_script", "_law_cell"]
theorem sc_law_start : FnScope N_law_start ["_law_script"] (defScope s_law_start) := ⟨rfl, rfl, rfl, by decide +kernel, rfl, by decide +kernel, by decide +kernel⟩
abbrev s_law_draw : Stmt := top 7
abbrev N_law_draw : List Str := ["_law_state", "_law_size", "_law_digit", "_law_cell", "_law_one"]
theorem sc_law_draw : FnScope N_law_draw ["_law_state", "_law_size"] (defScope s_law_draw) := ⟨rfl, rfl, rfl, by decide +kernel, rfl, by decide +kernel, by decide +kernel⟩
abbrev s_law_signs : Stmt := top 8
abbrev N_law_signs : List Str := ["_law_signs_here"]
theorem sc_law_signs : FnScope N_law_signs [] (defScope s_law_signs) := ⟨rfl, rfl, rfl, by decide +kernel, rfl, by decide +kernel, by decide +kernel⟩
abbrev s_law_good : Stmt := top 9
abbrev N_law_good : List Str := ["_law_word", "_law_letters", "_law_sign"]
theorem sc_law_good : FnScope N_law_good ["_law_word"] (defScope s_law_good) := ⟨rfl, rfl, rfl, by decide +kernel, rfl, by decide +kernel, by decide +kernel⟩
abbrev s_law : Stmt := top 10
abbrev N_law : List Str := ["_law_script", "_law_state", "_law_plan", "_law_signs_here", "_law_chars", "_law_k", "_law_word", "_law_actual"]
theorem sc_law : FnScope N_law ["_law_script"] (defScope s_law) := ⟨rfl, rfl, rfl, by decide +kernel, rfl, by decide +kernel, by decide +kernel⟩

structure Txt (K : PySem.W.Frag) (mg : Str → Option Value) where
  f_valid_name : Addr
  fd_valid_name : FuncData
  F_valid_name : Fun K "valid_name" "valid_name" s_valid_name f_valid_name fd_valid_name
  b_valid_name : Binds K fd_valid_name ["text"] []
  g_valid_name : mg "valid_name" = some (.ref f_valid_name)
  f_law_start : Addr
  fd_law_start : FuncData
  F_law_start : Fun K "_law_start" "_law_start" s_law_start f_law_start fd_law_start
  b_law_start : Binds K fd_law_start ["_law_script"] []
  g_law_start : mg "_law_start" = some (.ref f_law_start)
  f_law_draw : Addr
  fd_law_draw : FuncData
  F_law_draw : Fun K "_law_draw" "_law_draw" s_law_draw f_law_draw fd_law_draw
  b_law_draw : Binds K fd_law_draw ["_law_state", "_law_size"] []
  g_law_draw : mg "_law_draw" = some (.ref f_law_draw)
  f_law_signs : Addr
  fd_law_signs : FuncData
  F_law_signs : Fun K "_law_signs" "_law_signs" s_law_signs f_law_signs fd_law_signs
  b_law_signs : Binds K fd_law_signs [] []
  g_law_signs : mg "_law_signs" = some (.ref f_law_signs)
  f_law_good : Addr
  fd_law_good : FuncData
  F_law_good : Fun K "_law_good" "_law_good" s_law_good f_law_good fd_law_good
  b_law_good : Binds K fd_law_good ["_law_word"] []
  g_law_good : mg "_law_good" = some (.ref f_law_good)
  f_law : Addr
  fd_law : FuncData
  F_law : Fun K "law" "law" s_law f_law fd_law
  b_law : Binds K fd_law ["_law_script"] []
  g_law : mg "law" = some (.ref f_law)
  t_LETTERS : Tok
  c_LETTERS : mg "LETTERS" = some (.str "abcdefghijklmnopqrstuvwxyz" t_LETTERS)
  t_DIGITS : Tok
  c_DIGITS : mg "DIGITS" = some (.str "0123456789" t_DIGITS)
  t_LONGEST_NAME : Tok
  c_LONGEST_NAME : mg "LONGEST_NAME" = some (.int 6 t_LONGEST_NAME)
  n_len : mg "len" = none
  n_all : mg "all" = none
  n_abs : mg "abs" = none
  n_list : mg "list" = none
  n_int : mg "int" = none
  n_range : mg "range" = none
  n_isinstance : mg "isinstance" = none
  n_bool : mg "bool" = none
  kb_valid_name_text : KBinds K fd_valid_name ["text"] ["text"] (fun us ws => match us, ws with | [], [x0] => [x0] | _, _ => List.replicate 2 Value.none) (fun us ws => match us, ws with | [], [x0] => [x0] | _, _ => List.replicate 2 V.non)

/-! short ways: "rd" opens a reading as far as equations go; "sep" finds what stands apart from the state; "sq" a list that is read; "nx" two heaps -/
local macro_rules | `(tactic| walk_at "sep") => `(tactic| first | assumption | (refine (by assumption : Nx _ _ _) _ _ ?_; walk_at "sep"))
local macro_rules | `(tactic| walk_at "sq") => `(tactic| first | assumption | exact .inl (.inl (by assumption)) | exact Sep.sq (by walk_at "sep") | exact Sep.st (by walk_at "sep") | exact .inl (.inl upd_same))
local macro_rules | `(tactic| walk_at "rd") => `(tactic| repeat (first
  | refine And.intro rfl ?_
  | apply Exists.intro
  | refine And.intro (by assumption) ?_
  | refine And.intro (DrawOk.mk (by omega) (by omega) (by omega)) ?_
  | refine And.intro at0 ?_
  | refine And.intro ⟨_, rfl⟩ ?_
  | refine And.intro (by walk_at "sq") ?_
  | refine And.intro (Or.inl (by walk_at "sq")) ?_
  | refine And.intro (Or.inr (by walk_at "sq")) ?_
  | refine And.intro (by omega) ?_))

section
variable {P : Program} {w : World} {K : PySem.W.Frag} {mg : Str → Option Value} {base : Heap}
/-- what a name is -/
def lowS : Str := "abcdefghijklmnopqrstuvwxyz"
def digS : Str := "0123456789"
def okN (l : List Nat) : Bool := decide (1 ≤ l.length) && decide (l.length ≤ 6) && decide (l.headD 0 ∈ lowS.cps.toList) && l.all fun c => decide (c ∈ (lowS ++ digS).cps.toList)
/-- signs that a text may hold -/
def okL (l : List Nat) : Prop := ∀ c ∈ l, okS ⟨#[c]⟩
def spName : Sp := fun vs H Q _ => ∃ z : Str, vs = [.str z] ∧ z.length ≤ 1000 ∧ okL z.cps.toList ∧ ∀ H', Same H H' → Q (.bl (okN z.cps.toList)) H'
def signs1 : Str := " !\"#$&'()*+,-./0123456789:;<=>?@ABCDEFGHIJKLMNOPQRSTUVWXYZ[\\]^_`"
def signs2 : Str := "abcdefghijklmnopqrstuvwxyz{|}~\n"
def spSigns : Sp := fun vs H Q _ => vs = [] ∧ Q (.str (signs1 ++ signs2)) H
theorem len_list (z : Str) : z.cps.toList.length = z.length := by simp [Str.length]
theorem ok_valid_name (T : Txt K mg) : FnOk P w K mg base CX0 1 T.f_valid_name T.fd_valid_name ["text"] spName := by
  refine T.F_valid_name.ok sc_valid_name (fun vs H Q E h => ?_) (fun cdv A outer s H vs Q E hr h => ?_)
  · obtain ⟨z, rfl, _⟩ := h
    rfl
  · obtain ⟨z, rfl, hz, hok, q⟩ := h
    refine ⟨_, (pss_cons (ps_if (pt_not (pt_chain op_le op_le pe_int (pe_callB call_len_str (by rfl) T.n_len PySem.boot_len (pa_cons (pv 0) pa_nil)) (pe_glob (v := .int 6) rfl T.c_LONGEST_NAME ⟨_, rfl⟩)))
      (pss_one (ps_ret pe_bl)) pss_nil)
    (pss_one (ps_ret (pe_and (pe_cmpR op_in_sign (pe_ix ix_str (pv 0) pe_int (fun _ _ => rfl)) (pe_glob (v := .str "abcdefghijklmnopqrstuvwxyz") rfl T.c_LETTERS ⟨_, rfl⟩) (by rfl)) (pe_one (pe_callB (cr_all rfl) (by rfl) T.n_all (by decide +kernel) (pa_cons (pe_lc (own := [("char", 1)]) (g := gName 1) (tt := tYes) rfl sc_valid_name.nd (pi_str (pv 0)) (blkOk_by (own := [("char", 1)]) (N := N_valid_name) (sc := defScope s_valid_name) (by decide +kernel)) (fun _ _ _ _ _ => (pg_name (i := 1) sc_valid_name.nd rfl (Or.inl rfl))) (fun _ _ _ _ _ => pts_nil) (fun _ _ _ _ _ => (pe_cmpR op_in_sign (pv 1) (pe_op op_add_str (pe_glob (v := .str "abcdefghijklmnopqrstuvwxyz") rfl T.c_LETTERS ⟨_, rfl⟩) (pe_glob (v := .str "0123456789") rfl T.c_DIGITS ⟨_, rfl⟩)) (by rfl)))) pa_nil))))))), ?_⟩
    have hzl : z.length ≤ sizeLine := Nat.le_trans hz (by decide)
    have hl := len_list z
    have hz2 : (z.cps.toList.length : Int) = (z.length : Int) := by rw [hl]
    have bad : okN z.cps.toList = false → Q (.bl false) H := fun e => by
      have := q H (Same.refl H)
      rwa [e] at this
    walk_at "rd"
    refine ite2 (fun e1 => ?_) (fun e1 => ?_)
    · have e1' := of_decide_eq_true e1
      walk_at "rd"
      refine ite2 (fun e2 => ?_) (fun e2 => ?_)
      · refine bad ?_
        have e2' : ¬ (z.length ≤ 6) := fun x => by simp [decide_eq_true (show ((z.length : Nat) : Int) ≤ 6 by omega)] at e2
        unfold okN
        rw [hl, decide_eq_false e2', Bool.and_false]
        rfl
      · have e2' : z.length ≤ 6 := by
          apply Classical.byContradiction
          intro x
          exact e2 (by simp; omega)
        obtain ⟨c, cs, hc⟩ : ∃ c cs, z.cps.toList = c :: cs := by
          cases e : z.cps.toList with
          | nil =>
            rw [e] at hl
            simp at hl
            omega
          | cons c cs => exact ⟨c, cs, rfl⟩
        walk_at "rd"
        refine ⟨show atI z.cps.toList 0 = some c by rw [hc]; exact atI_nat (j := 0) rfl, ?_⟩
        walk_at "rd"
        have hN : okN z.cps.toList = (decide (c ∈ lowS.cps.toList) && z.cps.toList.all fun c => decide (c ∈ (lowS ++ digS).cps.toList)) := by
          unfold okN
          rw [hl, decide_eq_true (show 1 ≤ z.length by omega), decide_eq_true e2', Bool.true_and, Bool.true_and, show z.cps.toList.headD 0 = c by rw [hc]; rfl]
        refine ite2 (fun e3 => ?_) (fun e3 => ?_)
        · walk_at "rd"
          intro D hD
          refine lc_all walk_str (xs := z.cps.toList) (by simp) (by show z.length ≤ 1000; exact hz) (fun c => V.bl (decide (c ∈ (lowS ++ digS).cps.toList))) hD (fun _ _ => trivial) ?_ ?_
          · intro i a x H1 H2 Qk ha sm hy hk
            obtain ⟨rfl, c', hc', rfl⟩ := hy
            have : a = c' := by
              rw [Array.getElem?_toList] at ha
              exact Option.some.inj (ha.symm.trans hc')
            subst this
            walk_at "rd"
            refine ⟨by decide +kernel, ?_⟩
            walk_at "rd"
            exact hk _ (Same.refl _)
          · intro H1 sm hD1
            walk_at "rd"
            refine ⟨show SqL _ H1 D ((z.cps.toList.map fun c => decide (c ∈ (lowS ++ digS).cps.toList)).map V.bl) from .inl (.inl (by rw [List.map_map]; exact hD1)), ?_⟩
            have := q H1 sm
            rw [hN, show decide (c ∈ lowS.cps.toList) = true from e3, Bool.true_and] at this
            rw [List.all_map]
            exact this
        · refine bad ?_
          rw [hN, show decide (c ∈ lowS.cps.toList) = false from (Bool.not_eq_true _).mp e3]
          rfl
    · have e1' : ¬ (1 ≤ z.length) := fun x => e1 (decide_eq_true (by omega))
      walk_at "rd"
      refine iteT ?_
      refine bad ?_
      unfold okN
      rw [hl, decide_eq_false e1']
      rfl

theorem ok_law_signs (T : Txt K mg) : FnOk P w K mg base CX0 1 T.f_law_signs T.fd_law_signs [] spSigns := by
  refine T.F_law_signs.ok sc_law_signs (fun vs H Q E h => ?_) (fun cdv A outer s H vs Q E hr h => ?_)
  · obtain ⟨rfl, _⟩ := h
    rfl
  · obtain ⟨rfl, q⟩ := h
    refine ⟨_, (pss_cons (ps_set (i := 0) sc_law_signs.nd rfl (Or.inl rfl) pe_str)
    (pss_one (ps_ret (pe_op op_add_str (pv 0) pe_str)))), ?_⟩
    walk_at "rd"
    refine ⟨by decide +kernel, ?_⟩
    exact q
theorem ok_law_good (T : Txt K mg) : FnOk P w K mg base CX0 1 T.f_law_good T.fd_law_good ["_law_word"] spName := by
  refine T.F_law_good.ok sc_law_good (fun vs H Q E h => ?_) (fun cdv A outer s H vs Q E hr h => ?_)
  · obtain ⟨z, rfl, _⟩ := h
    rfl
  · obtain ⟨z, rfl, hz, hok, q⟩ := h
    refine ⟨_, (pss_cons (ps_set (i := 1) sc_law_good.nd rfl (Or.inr rfl) pe_str)
    (pss_cons (ps_if (PW.pt (pw_or (pt_cmpR op_lt (pe_callB call_len_str (by rfl) T.n_len PySem.boot_len (pa_cons (pv 0) pa_nil)) pe_int (nomark _)) (pw_or (pt_cmpR op_gt (pe_callB call_len_str (by rfl) T.n_len PySem.boot_len (pa_cons (pv 0) pa_nil)) pe_int (nomark _)) (pw_or1 (pt_cmpR op_notIn_sign (pe_ix ix_str (pv 0) pe_int (fun _ _ => rfl)) (pv 1) (by rfl))))))
      (pss_one (ps_ret pe_bl)) pss_nil)
    (pss_one (ps_ret (pe_cmpR (op_eqD hr.units) (pe_lc (own := [("_law_sign", 2)]) (g := gName 2) rfl sc_law_good.nd (pi_str (pv 0)) (blkOk_by (own := [("_law_sign", 2)]) (N := N_law_good) (sc := defScope s_law_good) (by decide +kernel)) (fun _ _ _ _ _ => (pg_name (i := 2) sc_law_good.nd rfl (Or.inl rfl))) (fun _ _ _ _ _ => (pts_one (pt_cmpR op_notIn_sign (pv 2) (pe_op op_add_str (pv 1) pe_str) (by rfl)))) (fun _ _ _ _ _ => (pv 2))) (pe_lst pa_nil) (nomark _)))))), ?_⟩
    have hzl : z.length ≤ sizeLine := Nat.le_trans hz (by decide)
    have hl := len_list z
    have bad : okN z.cps.toList = false → Q (.bl false) H := fun e => by
      have := q H (Same.refl H)
      rwa [e] at this
    walk_at "rd"
    refine ite2 (fun e1 => ?_) (fun e1 => ?_)
    · have e1' := of_decide_eq_true e1
      refine iteT (bad ?_)
      unfold okN
      rw [hl, decide_eq_false (show ¬ 1 ≤ z.length by omega)]
      rfl
    · have e1' : 1 ≤ z.length := by
        apply Classical.byContradiction
        intro x
        exact e1 (decide_eq_true (by omega))
      walk_at "rd"
      refine ite2 (fun e2 => ?_) (fun e2 => ?_)
      · have e2' := of_decide_eq_true e2
        refine iteT (bad ?_)
        unfold okN
        rw [hl, decide_eq_false (show ¬ z.length ≤ 6 by omega), Bool.and_false]
        rfl
      · have e2' : z.length ≤ 6 := by
          apply Classical.byContradiction
          intro x
          exact e2 (decide_eq_true (by omega))
        obtain ⟨c, cs, hc⟩ : ∃ c cs, z.cps.toList = c :: cs := by
          cases e : z.cps.toList with
          | nil =>
            rw [e] at hl
            simp at hl
            omega
          | cons c cs => exact ⟨c, cs, rfl⟩
        have hN : okN z.cps.toList = (decide (c ∈ lowS.cps.toList) && z.cps.toList.all fun c => decide (c ∈ (lowS ++ digS).cps.toList)) := by
          unfold okN
          rw [hl, decide_eq_true (show 1 ≤ z.length by omega), decide_eq_true e2', Bool.true_and, Bool.true_and, show z.cps.toList.headD 0 = c by rw [hc]; rfl]
        walk_at "rd"
        refine ⟨show atI z.cps.toList 0 = some c by rw [hc]; exact atI_nat (j := 0) rfl, ?_⟩
        walk_at "rd"
        refine ite2 (fun e3 => ?_) (fun e3 => ?_)
        · refine bad ?_
          rw [hN, show decide (c ∈ lowS.cps.toList) = false from (Bool.not_eq_true' _).mp e3]
          rfl
        · have e3' : decide (c ∈ lowS.cps.toList) = true := (Bool.not_eq_false' _).mp ((Bool.not_eq_true _).mp e3)
          walk_at "rd"
          intro D hD
          refine lc_fn walk_str (xs := z.cps.toList) (by simp) (by show z.length ≤ 1000; exact hz) (fun c => !decide (c ∈ (lowS ++ digS).cps.toList)) (fun c => V.str ⟨#[c]⟩) hD (fun _ _ => trivial) ?_ ?_
          · intro i a x H1 H2 Qk Qn ha sm hy hk hn
            obtain ⟨rfl, c', hc', rfl⟩ := hy
            have : a = c' := by
              rw [Array.getElem?_toList] at ha
              exact Option.some.inj (ha.symm.trans hc')
            subst this
            walk_at "rd"
            refine ⟨by decide +kernel, ?_⟩
            walk_at "rd"
            refine ite2 (fun e4 => ?_) (fun e4 => ?_)
            · walk_at "rd"
              exact hk e4 _ (Same.refl _)
            · exact hn ((Bool.not_eq_true _).mp e4) _ (Same.refl _)
          · intro H1 sm hD1
            refine ⟨Nat.zero_le _, fun p hp => ?_⟩
            have sp := same_new (o := .lst []) hp
            refine strs_eq_nil (xs := (z.cps.toList.filter fun c => !decide (c ∈ (lowS ++ digS).cps.toList)).map fun c => ⟨#[c]⟩) (.inl (.inl (sp _ _ (by rw [List.map_map]; exact hD1)))) (fun x hx => ?_) (.inl (.inl upd_same)) ?_
            · obtain ⟨c', hc', rfl⟩ := List.mem_map.mp hx
              exact hok c' (List.mem_filter.mp hc').1
            · have := q _ (sm.trans sp)
              rw [hN, e3', Bool.true_and] at this
              rw [List.isEmpty_map, filter_empty]
              exact this

theorem ok_law_start (T : Txt K mg) : FnOk P w K mg base CX0 1 T.f_law_start T.fd_law_start ["_law_script"] (spStart K) := by
  refine T.F_law_start.ok sc_law_start (fun vs H Q E h => ?_) (fun cdv A outer s H vs Q E hr h => ?_)
  · obtain ⟨a, ns, rfl, _⟩ := h
    rfl
  · obtain ⟨a, ns, rfl, hS, hn, q⟩ := h
    refine ⟨_, (pss_one (ps_ret (pe_lst (pa_cons (pe_lc (own := [("_law_cell", 1)]) (g := gName 1) rfl sc_law_start.nd (pi_list (pv 0)) (blkOk_by (own := [("_law_cell", 1)]) (N := N_law_start) (sc := defScope s_law_start) (by decide +kernel)) (fun _ _ _ _ _ => (pg_name (i := 1) sc_law_start.nd rfl (Or.inl rfl))) (fun _ _ _ _ _ => (pts_one (pt_cmpR op_ge (pe_callB call_abs (by rfl) T.n_abs (by decide +kernel) (pa_cons (pv 1) pa_nil)) (pe_op op_pow pe_int pe_int) (nomark _)))) (fun _ _ _ _ _ => (pe_callB call_abs (by rfl) T.n_abs (by decide +kernel) (pa_cons (pv 1) pa_nil)))) (pa_cons (pe_op op_cat (pe_callTy call_list_of (by rfl) T.n_list (by decide +kernel) (pa_cons (pv 0) pa_nil)) (pe_lst (pa_cons pe_int pa_nil))) (pa_cons pe_int pa_nil)))))), ?_⟩
    walk_at "rd"
    refine ⟨⟨_, hS⟩, fun D hD => ?_⟩
    refine lc_fn (walk_list (xs := ns.map V.int)) (xs := ns) (by simp) (by simp; omega) (fun z => decide ((10 : Int) ^ 18 ≤ if z < 0 then -z else z)) (fun z => V.int (if z < 0 then -z else z)) hD (fun H1 s => s.seq hS) ?_ ?_
    · intro i z x H1 H2 Qk Qn hz sm hy hk hn'
      obtain ⟨rfl, hx⟩ := hy
      have ex : x = V.int z := by
        rw [List.getElem?_map, hz] at hx
        exact (Option.some.inj hx).symm
      subst ex
      walk_at "rd"
      refine ⟨⟨by decide, by decide, by decide⟩, ?_⟩
      walk_at "rd"
      refine ite2 (fun e => ?_) (fun e => ?_)
      · walk_at "rd"
        exact hk e _ (Same.refl _)
      · exact hn' ((Bool.not_eq_true _).mp e) _ (Same.refl _)
    · intro H1 sm hD1
      have hzs : (ns.filter fun z => decide ((10 : Int) ^ 18 ≤ if z < 0 then -z else z)).map (fun z => V.int (if z < 0 then -z else z)) = ((ns.filter fun z => decide ((10 : Int) ^ 18 ≤ if z < 0 then -z else z)).map (fun z => if z < 0 then -z else z)).map V.int := by
        rw [List.map_map]
        rfl
      rw [hzs] at hD1
      have hzl : ((ns.filter fun z => decide ((10 : Int) ^ 18 ≤ if z < 0 then -z else z)).map (fun z => if z < 0 then -z else z)).length ≤ 100 := by
        rw [List.length_map]
        exact Nat.le_trans (List.length_filter_le _ _) (by omega)
      generalize (ns.filter fun z => decide ((10 : Int) ^ 18 ≤ if z < 0 then -z else z)).map (fun z => if z < 0 then -z else z) = zs at hD1 hzl
      walk_at "rd"
      refine ⟨.inl (sm.seq hS), fun l hl => ?_⟩
      have s1 : Same H1 (upd H1 l (.lst (ns.map V.int))) := same_new hl
      refine ⟨by decide, fun f hf => ?_⟩
      have lf : l ≠ f := ne_of_none upd_same hf
      have s2 := same_new (o := .lst [V.int 5]) hf
      refine ⟨l, f, _, _, rfl, rfl, by rw [upd_ne lf]; exact upd_same, upd_same, by simp; show ns.length + 1 ≤ _; exact Nat.le_of_lt (small1000 (by omega)), fun b hb => ?_⟩
      have s3 := same_new (o := .lst (ns.map V.int ++ [V.int 5])) hb
      walk_at "rd"
      refine ⟨by show 3 ≤ sizeLine; decide, fun p hp => ?_⟩
      have s4 := same_new (o := .lst [V.ref D, V.ref b, V.int 0]) hp
      have hD4 := s4 _ _ (s3 _ _ (s2 _ _ (s1 _ _ hD1)))
      have hb4 := s4 b _ upd_same
      have sA := (((sm.trans s1).trans s2).trans s3).trans s4
      have hpH : H p = none := (((sm.trans s1).trans s2).trans s3).free hp
      refine q p _ sA hpH ⟨D, b, zs, ns ++ [5], upd_same, hD4, by rw [List.map_append]; exact hb4, ?_, by simp, hzl, by simp; omega⟩
      exact ne_of_none (s2 _ _ (s1 _ _ hD1)) hb
theorem ok_law_draw (T : Txt K mg) : FnOk P w K mg base CX0 1 T.f_law_draw T.fd_law_draw ["_law_state", "_law_size"] spDraw := by
  refine T.F_law_draw.ok sc_law_draw (fun vs H Q E h => ?_) (fun cdv A outer s H vs Q E hr h => ?_)
  · obtain ⟨p, n, size, rfl, _⟩ := h
    rfl
  · obtain ⟨p, n, size, rfl, ⟨a, b, zs, ms, S⟩, ⟨hn, h0, h1⟩, q⟩ := h
    refine ⟨_, (pss_cons (ps_augS (pv 0) pe_int pget_list pe_int ip_add set_list)
    (pss_stop (ps_while PassesOwn.never (PW.pt (pw_and (pt_cmpR (op_neD hr.units) (pe_ix ix_list (pv 0) pe_int (fun _ _ => rfl)) (pe_lst pa_nil) (nomark _)) (pw_and1 (pt_cmpR op_eq (pe_ix ix_list (pe_ix ix_list (pv 0) pe_int (fun _ _ => rfl)) pe_int (fun _ _ => rfl)) pe_int (nomark _))))) (pss_one (ps_asg (pe_slice sl_list (pe_ix ix_list (pv 0) pe_int (fun _ _ => rfl)) (po_some pe_int) po_none) (pg_sub (pv 0) pe_int set_list))))
    (pss_cons (ps_if (pt_cmpR (op_neD hr.units) (pe_ix ix_list (pv 0) pe_int (fun _ _ => rfl)) (pe_lst pa_nil) (nomark _))
      (pss_cons (ps_set (i := 2) sc_law_draw.nd rfl (Or.inl rfl) (pe_op op_mod (pe_callTy call_int1 (by rfl) T.n_int (by decide +kernel) (pa_cons (pe_ix ix_list (pe_ix ix_list (pv 0) pe_int (fun _ _ => rfl)) pe_int (fun _ _ => rfl)) pa_nil)) (pv 1)))
    (pss_cons (ps_asg (pe_op op_fdivW (pe_ix ix_list (pe_ix ix_list (pv 0) pe_int (fun _ _ => rfl)) pe_int (fun _ _ => rfl)) (pv 1)) (pg_sub (pe_ix ix_list (pv 0) pe_int (fun _ _ => rfl)) pe_int set_list))
    (pss_one (ps_ret (pv 2))))) pss_nil)
    (pss_cons (ps_set (i := 3) sc_law_draw.nd rfl (Or.inl rfl) (pe_op op_mod (pe_callTy call_int1 (by rfl) T.n_int (by decide +kernel) (pa_cons (pe_ix ix_list (pe_ix ix_list (pv 0) pe_int (fun _ _ => rfl)) (pe_op op_mod (pe_callTy call_int1 (by rfl) T.n_int (by decide +kernel) (pa_cons (pe_ix ix_list (pv 0) pe_int (fun _ _ => rfl)) pa_nil)) (pe_callB call_len_seq (by rfl) T.n_len PySem.boot_len (pa_cons (pe_ix ix_list (pv 0) pe_int (fun _ _ => rfl)) pa_nil))) (fun _ _ => rfl)) pa_nil)) pe_int))
    (pss_cons (ps_set (i := 4) sc_law_draw.nd rfl (Or.inl rfl) (pe_op op_mod (pe_callTy call_int1 (by rfl) T.n_int (by decide +kernel) (pa_cons (pe_op op_pow (pe_op op_add (pe_op op_add (pe_op op_mul (pv 3) pe_int) (pe_op op_mul (pe_ix ix_list (pv 0) pe_int (fun _ _ => rfl)) pe_int)) pe_int) pe_int) pa_nil)) pe_int))
    (pss_one (ps_ret (pe_op op_mod (pe_op op_mod (pe_callTy call_int1 (by rfl) T.n_int (by decide +kernel) (pa_cons (pe_op op_pow (pe_op op_add (pe_op op_add (pe_op op_mul (pv 4) pe_int) (pe_op op_mul (pe_ix ix_list (pv 0) pe_int (fun _ _ => rfl)) pe_int)) pe_int) pe_int) pa_nil)) pe_int) (pv 1))))))))), ?_⟩
    walk_at "rd"
    refine ⟨.inl (.inl S.hp), by decide, rfl, ?_⟩
    walk_at "rd"
    refine ⟨S.hp, rfl, ?_⟩
    have S1 : StA (upd H p (.lst ([V.ref a, V.ref b, V.int ↑n].set (Int.toNat 2) (V.int (↑n + 1))))) p a b zs ms (n + 1) := S.bump
    have x1 : Nx p H (upd H p (.lst ([V.ref a, V.ref b, V.int ↑n].set (Int.toNat 2) (V.int (↑n + 1))))) := S.bump_nx
    generalize upd H p (.lst ([V.ref a, V.ref b, V.int ↑n].set (Int.toNat 2) (V.int (↑n + 1)))) = H1 at S1 x1 ⊢
    dsimp only
    refine Stop.cut (fun σ H' => σ = L2.start N_law_draw [V.ref p, V.int size] ∧ ∃ a zs, StA H' p a b zs ms (n + 1) ∧ Nx p H H') (fun Qz hz => ?_) ?_
    · refine ⟨fun m σ H' => σ = L2.start N_law_draw [V.ref p, V.int size] ∧ ∃ a zs, StA H' p a b zs ms (n + 1) ∧ Nx p H H' ∧ zs.length = m, ⟨_, rfl, a, zs, S1, x1, rfl⟩, ?_⟩
      rintro m _ H2 ⟨rfl, a, zs, S2, x2, rfl⟩
      have hp2 := S2.hp
      have ha2 := S2.ha
      walk_at "rd"
      refine ⟨Nat.zero_le _, fun e he => ?_⟩
      have s3 := same_new (o := .lst []) he
      have S3 := S2.same s3
      have x3 := x2.trans (S2.nx s3)
      refine ints_ne_nil (.inl (.inl S3.ha)) (.inl (.inl upd_same)) ?_
      generalize upd H2 e (.lst []) = H3 at S3 x3
      clear s3 he hp2 ha2 S2 x2
      have hp3 := S3.hp
      have ha3 := S3.ha
      walk_at "rd"
      refine ite2 (fun c1 => ?_) (fun c1 => ?_)
      · cases zs with
        | nil => simp at c1
        | cons z zs =>
          have hl : (z :: zs).length ≤ 100 := S3.lz
          rw [List.map_cons] at ha3
          walk_at "rd"
          refine ite2 (fun c2 => ?_) (fun c2 => ?_)
          · refine ⟨fun σ H' => σ = L2.start N_law_draw [V.ref p, V.int size] ∧ ∃ a zs', StA H' p a b zs' ms (n + 1) ∧ Nx p H H' ∧ zs'.length = zs.length, fun σ H' ⟨e1, a, zs', h1, h2, h3⟩ => ⟨zs.length, by simp, e1, a, zs', h1, h2, h3⟩, ?_⟩
            walk_at "rd"
            intro r hr
            walk_at "rd"
            refine ⟨(same_new hr _ _ hp3), rfl, ?_⟩
            rw [cutV1]
            have hl' : zs.length ≤ 100 := by
              rw [List.length_cons] at hl
              omega
            exact ⟨rfl, r, zs, S3.swap hr hl', x3.trans (S3.swap_nx hr), rfl⟩
          · exact hz _ _ ⟨rfl, a, z :: zs, S3, x3⟩
      · exact hz _ _ ⟨rfl, a, zs, S3, x3⟩
    · rintro _ H2 ⟨rfl, a, zs, S2, x2⟩
      have hp2 := S2.hp
      walk_at "rd"
      refine ⟨Nat.zero_le _, fun e he => ?_⟩
      have s3 := same_new (o := .lst []) he
      have S3 := S2.same s3
      have x3 := x2.trans (S2.nx s3)
      refine ints_ne_nil (.inl (.inl S3.ha)) (.inl (.inl upd_same)) ?_
      generalize upd H2 e (.lst []) = H3 at S3 x3
      clear s3 he hp2 S2 x2
      have hp3 := S3.hp
      have ha3 := S3.ha
      have hb3 := S3.hb
      walk_at "rd"
      refine ite2 (fun c1 => ?_) (fun c1 => ?_)
      · cases zs with
        | nil => simp at c1
        | cons z zs =>
          have hl : (z :: zs).length ≤ 100 := S3.lz
          rw [List.map_cons] at ha3
          walk_at "rd"
          refine .inl ?_
          walk_at "rd"
          refine ⟨wide_div h0 (b := 64) (by omega) (by decide) (by decide), ?_⟩
          walk_at "rd"
          refine ⟨ix0, ?_⟩
          walk_at "rd"
          refine q _ _ (Int.emod_nonneg _ (by omega)) (Int.emod_lt_of_pos _ h0) (S3.seta (zs' := z / size :: zs) hl).mk' (x3.trans (S3.seta_nx (zs' := z / size :: zs)))
      · have ml : 0 < ms.length := List.length_pos_iff.mpr S3.ne
        have ml' : (0 : Int) < (((ms.map V.int).length : Nat) : Int) := by rw [List.length_map]; omega
        obtain ⟨j, hj, hjl⟩ : ∃ j : Nat, (((n + 1 : Nat) : Int) % (((ms.map V.int).length : Nat) : Int)) = (j : Int) ∧ j < ms.length := by
          refine ⟨(n + 1) % ms.length, ?_, Nat.mod_lt _ ml⟩
          rw [List.length_map]
          omega
        have hat : atI (ms.map V.int) (((n + 1 : Nat) : Int) % (((ms.map V.int).length : Nat) : Int)) = some (.int ms[j]) := by
          rw [hj]
          exact atI_nat (by rw [List.getElem?_map, List.getElem?_eq_getElem hjl]; rfl)
        generalize ms[j] = c0 at hat
        walk_at "rd"
        refine .inl ?_
        walk_at "rd"
        refine .inl ?_
        walk_at "rd"
        have hc0 := Int.emod_nonneg c0 (show (2147483647 : Int) ≠ 0 by decide)
        have hc1 := Int.emod_lt_of_pos c0 (show (0 : Int) < 2147483647 by decide)
        walk_at "rd"
        refine ⟨.inr ⟨by decide, by decide⟩, ?_⟩
        walk_at "rd"
        refine ⟨.inr ⟨by decide, by decide⟩, ?_⟩
        walk_at "rd"
        refine ⟨⟨by decide, by decide, ?_⟩, ?_⟩
        · show (c0 % 2147483647 * 48271 + ((n + 1 : Nat) : Int) * 69621 + 7).natAbs < 18446744073709551616
          generalize c0 % 2147483647 = c1 at hc0 hc1 ⊢
          omega
        walk_at "rd"
        refine .inl ?_
        walk_at "rd"
        have hd : 0 ≤ (c0 % 2147483647 * 48271 + (((n + 1 : Nat)) : Int) * 69621 + 7) ^ Int.toNat 5 % 2147483647 ∧ (c0 % 2147483647 * 48271 + (((n + 1 : Nat)) : Int) * 69621 + 7) ^ Int.toNat 5 % 2147483647 < 2147483647 := pow5 _
        walk_at "rd"
        refine ⟨.inr ⟨by decide, by decide⟩, ?_⟩
        walk_at "rd"
        refine ⟨.inr ⟨by decide, by decide⟩, ?_⟩
        walk_at "rd"
        refine ⟨⟨by decide, by decide, ?_⟩, ?_⟩
        · show ((c0 % 2147483647 * 48271 + ((n + 1 : Nat) : Int) * 69621 + 7) ^ Int.toNat 5 % 2147483647 * 16807 + ((n + 1 : Nat) : Int) * 40692 + 13).natAbs < 18446744073709551616
          generalize (c0 % 2147483647 * 48271 + ((n + 1 : Nat) : Int) * 69621 + 7) ^ Int.toNat 5 % 2147483647 = d1 at hd ⊢
          omega
        walk_at "rd"
        refine .inl ?_
        walk_at "rd"
        exact q _ _ (Int.emod_nonneg _ (by omega)) (Int.emod_lt_of_pos _ h0) S3.mk' x3
end
end P

set_option Elab.async false
set_option linter.all false
set_option maxRecDepth 100000
set_option maxHeartbeats 4000000
namespace P
open PySem PySem.Spec PyProof.Rows L2 OS
/-! short ways: "rd" opens a reading as far as equations go; "sep" finds what stands apart from the state; "sq" a list that is read; "nx" two heaps -/
local macro_rules | `(tactic| walk_at "sep") => `(tactic| first | assumption | (refine (by assumption : Nx _ _ _) _ _ ?_; walk_at "sep"))
local macro_rules | `(tactic| walk_at "sq") => `(tactic| first | assumption | exact .inl (.inl (by assumption)) | exact Sep.sq (by walk_at "sep") | exact Sep.st (by walk_at "sep") | exact .inl (.inl upd_same))
local macro_rules | `(tactic| walk_at "rd") => `(tactic| repeat (first
  | refine And.intro rfl ?_
  | apply Exists.intro
  | refine And.intro (by assumption) ?_
  | refine And.intro (DrawOk.mk (by omega) (by omega) (by omega)) ?_
  | refine And.intro at0 ?_
  | refine And.intro ⟨_, rfl⟩ ?_
  | refine And.intro (by walk_at "sq") ?_
  | refine And.intro (Or.inl (by walk_at "sq")) ?_
  | refine And.intro (Or.inr (by walk_at "sq")) ?_
  | refine And.intro (by omega) ?_))

section
variable {P : Program} {w : World} {K : PySem.W.Frag} {mg : Str → Option Value} {base : Heap}
def alnum : Str := "abcdefghijklmnopqrstuvwxyz0123456789"
/-- a text to draw signs of -/
structure Menu (z : Str) : Prop where
  pos : 0 < z.length
  le : z.length ≤ 200
  ok : okL z.cps.toList
theorem okS_of {c : Nat} (h : c < 0x110000) : okS ⟨#[c]⟩ := by
  show PySem.PyData.strOk ⟨#[c]⟩ = true
  simp [PySem.PyData.strOk, h]
theorem okL_of {l : List Nat} (h : l.all (fun c => decide (c < 0x110000)) = true) : okL l := fun c hc => okS_of (of_decide_eq_true (List.all_eq_true.mp h c hc))
theorem menu_alnum : Menu alnum := ⟨by decide +kernel, by decide +kernel, okL_of (by decide +kernel)⟩
theorem menu_signs : Menu (signs1 ++ signs2) := ⟨by decide +kernel, by decide +kernel, okL_of (by decide +kernel)⟩
theorem okL_app {a b : Str} (ha : okL a.cps.toList) (hb : okL b.cps.toList) : okL (a ++ b).cps.toList := fun c hc => by
  rw [app_signs] at hc
  rcases List.mem_append.mp hc with h | h
  · exact ha c h
  · exact hb c h
theorem okL_rev {a : Str} (ha : okL a.cps.toList) : okL (revS a).cps.toList := fun c hc => by
  rw [revS_list] at hc
  exact ha c (List.mem_reverse.mp hc)
def nlS : Str := "\n"
def blS : Str := " "
theorem ok_nl : okL nlS.cps.toList := okL_of (by decide +kernel)
theorem ok_bl : okL blS.cps.toList := okL_of (by decide +kernel)
theorem len_nl : nlS.length = 1 := by decide +kernel
theorem len_bl : blS.length = 1 := by decide +kernel
def spLaw (K : PySem.W.Frag) : Sp := fun vs H Q _ => ∃ (a : Addr) (ns : List Int), vs = [.ref a] ∧ SqL K H a (ns.map V.int) ∧ ns.length ≤ 63 ∧ ∀ H', Q (.bl true) H'
theorem ok_law (T : Txt K mg) : FnOk P w K mg base CX0 2 T.f_law T.fd_law ["_law_script"] (spLaw K) := by
  refine T.F_law.ok sc_law (fun vs H Q E h => ?_) (fun cdv A outer s H vs Q E hr h => ?_)
  · obtain ⟨a, ns, rfl, _⟩ := h
    rfl
  · obtain ⟨a, ns, rfl, hS, hn, q⟩ := h
    refine ⟨_, (pss_cons (ps_set (i := 1) sc_law.nd rfl (Or.inr rfl) (pe_call (ok_law_start T) (hr.mono (by decide)) (by rfl) T.g_law_start T.F_law_start.kp T.b_law_start .nil pass0 (pa_cons (pv 0) pa_nil)))
    (pss_cons (ps_set (i := 2) sc_law.nd rfl (Or.inl rfl) (pe_call (ok_law_draw T) (hr.mono (by decide)) (by rfl) T.g_law_draw T.F_law_draw.kp T.b_law_draw .nil pass0 (pa_cons (pv 1) (pa_cons pe_int pa_nil))))
    (pss_cons (ps_set (i := 3) sc_law.nd rfl (Or.inr rfl) pe_str)
    (pss_stop (ps_if (pt_cmpR op_eq (pv 2) pe_int (nomark _))
      (pss_one (ps_set (i := 3) sc_law.nd rfl (Or.inr rfl) (pe_call0 (ok_law_signs T) (hr.mono (by decide)) (by rfl) T.g_law_signs T.F_law_signs.kp T.b_law_signs .nil pass0))) pss_nil)
    (pss_cons (ps_setLc (i := 4) (own := [("_law_k", 5)]) (g := gName 5) (tt := tYes) rfl sc_law.nd rfl rfl (sw_true rfl rfl rfl (by decide +kernel)) (pi_range1 rfl T.n_range (pa_cons (pe_call (ok_law_draw T) (hr.mono (by decide)) (by rfl) T.g_law_draw T.F_law_draw.kp T.b_law_draw .nil pass0 (pa_cons (pv 1) (pa_cons (pe_ix ix_list (pe_lst (pa_cons pe_int (pa_cons pe_int (pa_cons pe_int (pa_cons pe_int pa_nil))))) (pe_call (ok_law_draw T) (hr.mono (by decide)) (by rfl) T.g_law_draw T.F_law_draw.kp T.b_law_draw .nil pass0 (pa_cons (pv 1) (pa_cons pe_int pa_nil))) (fun _ _ => rfl)) pa_nil))) pa_nil)) (blkOk_by (own := [("_law_k", 5)]) (N := N_law) (sc := defScope s_law) (by decide +kernel)) (fun _ _ _ _ _ => (pg_name (i := 5) sc_law.nd rfl (Or.inl rfl))) (fun _ _ _ _ _ => pts_nil) (fun _ _ _ _ _ => (pe_ix ix_str (pv 3) (pe_call (ok_law_draw T) (hr.mono (by decide)) (by rfl) T.g_law_draw T.F_law_draw.kp T.b_law_draw .nil pass0 (pa_cons (pv 1) (pa_cons (pe_callB call_len_str (by rfl) T.n_len PySem.boot_len (pa_cons (pv 3) pa_nil)) pa_nil))) (fun _ _ => rfl))))
    (pss_stop (ps_if (PW.pt (pw_and (pt_cmpR op_eq (pv 2) pe_int (nomark _)) (pw_and1 (pt_cmpR (op_neD hr.units) (pv 4) (pe_lst pa_nil) (nomark _)))))
      (pss_one (ps_asg (pe_ix ix_str (pe_call0 (ok_law_signs T) (hr.mono (by decide)) (by rfl) T.g_law_signs T.F_law_signs.kp T.b_law_signs .nil pass0) (pe_call (ok_law_draw T) (hr.mono (by decide)) (by rfl) T.g_law_draw T.F_law_draw.kp T.b_law_draw .nil pass0 (pa_cons (pv 1) (pa_cons (pe_callB call_len_str (by rfl) T.n_len PySem.boot_len (pa_cons (pe_call0 (ok_law_signs T) (hr.mono (by decide)) (by rfl) T.g_law_signs T.F_law_signs.kp T.b_law_signs .nil pass0) pa_nil)) pa_nil))) (fun _ _ => rfl)) (pg_sub (pv 4) (pe_call (ok_law_draw T) (hr.mono (by decide)) (by rfl) T.g_law_draw T.F_law_draw.kp T.b_law_draw .nil pass0 (pa_cons (pv 1) (pa_cons (pe_callB call_len_seq (by rfl) T.n_len PySem.boot_len (pa_cons (pv 4) pa_nil)) pa_nil))) set_list))) pss_nil)
    (pss_cons (ps_set (i := 6) sc_law.nd rfl (Or.inl rfl) (pe_join pe_str (pv 4)))
    (pss_stop (ps_if (pt_cmpR op_eq (pe_call (ok_law_draw T) (hr.mono (by decide)) (by rfl) T.g_law_draw T.F_law_draw.kp T.b_law_draw .nil pass0 (pa_cons (pv 1) (pa_cons pe_int pa_nil))) pe_int (nomark _))
      (pss_one (ps_set (i := 6) sc_law.nd rfl (Or.inl rfl) (pe_ix ix_list (pe_lst (pa_cons (pe_op op_add_str (pv 6) pe_str) (pa_cons (pe_op op_add_str (pv 6) pe_str) (pa_cons (pe_op op_add_str pe_str (pv 6)) (pa_cons (pe_op op_add_str pe_str (pv 6)) pa_nil))))) (pe_call (ok_law_draw T) (hr.mono (by decide)) (by rfl) T.g_law_draw T.F_law_draw.kp T.b_law_draw .nil pass0 (pa_cons (pv 1) (pa_cons pe_int pa_nil))) (fun _ _ => rfl)))) pss_nil)
    (pss_cons (ps_set (i := 7) sc_law.nd rfl (Or.inl rfl) (pe_call (ok_valid_name T) (hr.mono (by decide)) (by rfl) T.g_valid_name T.F_valid_name.kp T.b_valid_name .nil pass0 (pa_cons (pv 6) pa_nil)))
    (pss_cons (ps_if (PW.pt (pw_or (pt_not (pt_val (pe_callB call_isi (by rfl) T.n_isinstance (by decide +kernel) (pa_cons (pv 7) (pa_cons (pe_bltn (v := .ty "bool") (u := .type "bool") (by rfl) T.n_bool (by decide +kernel) rfl) pa_nil))))) (pw_or1 (pt_cmpR op_ne (pv 7) (pe_call (ok_law_good T) (hr.mono (by decide)) (by rfl) T.g_law_good T.F_law_good.kp T.b_law_good .nil pass0 (pa_cons (pv 6) pa_nil)) (nomark _)))))
      (pss_one (ps_ret pe_bl)) pss_nil)
    (pss_one (ps_ret (pe_cmpR op_eq (pe_callK0 (ok_valid_name T) (hr.mono (by decide)) (by rfl) T.g_valid_name T.F_valid_name.kp T.kb_valid_name_text pass0 (pk_cons (pe_revS (pv 6)) pk_nil)) (pe_call (ok_law_good T) (hr.mono (by decide)) (by rfl) T.g_law_good T.F_law_good.kp T.b_law_good .nil pass0 (pa_cons (pe_revS (pv 6)) pa_nil)) (nomark _)))))))))))))), ?_⟩
    walk_at "rd"
    intro p H1 s1 np S1
    clear hS s1 np
    walk_at "rd"
    intro r H2 hr0 hr1 S2 x2
    clear S1 x2
    walk_at "rd"
    refine Stop.cut (fun σ H' => ∃ z, Menu z ∧ H2 = H' ∧ σ = [some (.ref a), some (.ref p), some (.int r), some (.str z), none, none, none, none]) (fun Qz hz => ?_) ?_
    · walk_at "rd"
      refine ite2 (fun e => ?_) (fun e => ?_)
      · walk_at "rd"
        exact hz _ _ ⟨_, menu_signs, rfl, rfl⟩
      · exact hz _ _ ⟨_, menu_alnum, rfl, rfl⟩
    rintro _ _ ⟨z, mz, rfl, rfl⟩
    walk_at "rd"
    refine ⟨by show 4 ≤ sizeLine; decide, fun l hl => ?_⟩
    have s3 := same_new (o := .lst [V.int 9, V.int 9, V.int 9, V.int 80]) hl
    have S3 := S2.same s3
    have hl3 := S2.new (o := .lst [V.int 9, V.int 9, V.int 9, V.int 80]) hl
    clear S2
    generalize upd H2 l (.lst [V.int 9, V.int 9, V.int 9, V.int 80]) = H3 at S3 hl3 ⊢
    clear s3 hl
    walk_at "rd"
    intro r2 H4 h20 h21 S4 x4
    have hl4 := x4 _ _ hl3
    clear S3 hl3 x4
    obtain ⟨k, hk0, hk1, hk⟩ : ∃ k : Int, 0 < k ∧ k ≤ 80 ∧ atI [V.int 9, V.int 9, V.int 9, V.int 80] r2 = some (.int k) := by
      obtain e | e | e | e : r2 = 0 ∨ r2 = 1 ∨ r2 = 2 ∨ r2 = 3 := by omega
      all_goals subst e
      · exact ⟨9, by decide, by decide, rfl⟩
      · exact ⟨9, by decide, by decide, rfl⟩
      · exact ⟨9, by decide, by decide, rfl⟩
      · exact ⟨80, by decide, by decide, rfl⟩
    walk_at "rd"
    intro r3 H5 h30 h31 S5 x5
    clear S4 x5 hl4
    walk_at "rd"
    intro D hD
    refine lc_dr walk_range (by omega) p _ 1 (fun _ y => ∃ c, y = .str ⟨#[c]⟩ ∧ okS ⟨#[c]⟩) S5 hD (fun _ _ _ _ _ _ h => h) (fun _ _ => trivial) ?_ ?_
    · intro i m x H6 H7 Qk hi S6 hm x6 hy hk
      obtain ⟨rfl, rfl⟩ := hy
      have hzl : z.length ≤ sizeLine := Nat.le_trans mz.le (by decide)
      have hz0 := mz.pos
      have hz1 := mz.le
      walk_at "rd"
      intro r4 H8 h40 h41 S8 x8
      obtain ⟨c4, hat, hc4⟩ := sign_pick h40 h41
      walk_at "rd"
      exact hk _ _ _ ⟨_, rfl, mz.ok _ hc4⟩ S8 (Nat.le_refl _) x8
    · intro H6 m acc S6 hm x6 sD hl hr'
      obtain ⟨cs, rfl, hcs⟩ : ∃ cs : List Nat, acc = cs.map (fun c => V.str ⟨#[c]⟩) ∧ okL cs := by
        clear hl sD
        induction acc with
        | nil => exact ⟨[], rfl, fun _ h => nomatch h⟩
        | cons y r ih =>
          obtain ⟨c, rfl, hc⟩ := hr' y (.head _)
          obtain ⟨cs, rfl, h2⟩ := ih fun y hy => hr' y (.tail _ hy)
          exact ⟨c :: cs, rfl, fun x hx => by
            rcases List.mem_cons.mp hx with rfl | hx
            · exact hc
            · exact h2 x hx⟩
      have hcl : cs.length ≤ 80 := by
        rw [List.length_map] at hl
        omega
      clear S5 hD hr' hl x6
      have hm9 : m ≤ 100 := by omega
      walk_at "rd"
      refine Stop.cut (fun σ H' => ∃ (cs : List Nat) (m' : Nat), okL cs ∧ cs.length ≤ 80 ∧ m' ≤ 200 ∧ StAt H' p m' ∧ Sep H' p D (.lst (cs.map (fun c => V.str ⟨#[c]⟩))) ∧ σ = [some (.ref a), some (.ref p), some (.int r), some (.str z), some (.ref D), none, none, none]) (fun Qz hz => ?_) ?_
      · walk_at "rd"
        refine ite2 (fun e1 => ?_) (fun e1 => ?_)
        · walk_at "rd"
          refine ⟨Nat.zero_le _, fun l2 hl2 => ?_⟩
          have s7 := same_new (o := .lst []) hl2
          have S7 := S6.same s7
          have sD7 := S6.nx s7 _ _ sD
          refine strs_ne_nil (xs := cs.map fun c => ⟨#[c]⟩) (.inl (.inl (by rw [List.map_map]; exact sD7.at_))) (fun x hx => ?_) (.inl (.inl upd_same)) ?_
          · obtain ⟨c, hc, rfl⟩ := List.mem_map.mp hx
            exact hcs c hc
          generalize upd H6 l2 (.lst []) = H7 at S7 sD7 ⊢
          walk_at "rd"
          refine ite2 (fun e2 => ?_) (fun e2 => ?_)
          · have msl : (signs1 ++ signs2).length ≤ sizeLine := by decide +kernel
            have ms0 := menu_signs.pos
            have ms1 := menu_signs.le
            walk_at "rd"
            intro r5 H8 h50 h51 S8 x8
            have sD8 := x8 _ _ sD7
            obtain ⟨c5, hat, hc5⟩ := sign_pick h50 h51
            have hok5 := menu_signs.ok _ hc5
            clear S7 sD7 x8
            walk_at "rd"
            have hcs0 : cs ≠ [] := fun z => by
              subst z
              simp at e2
            have hcp := List.length_pos_iff.mpr hcs0
            have hml : (cs.map fun c => V.str ⟨#[c]⟩).length = cs.length := List.length_map _
            walk_at "rd"
            intro r6 H9 h60 h61 S9 x9
            have sD9 := x9 _ _ sD8
            obtain ⟨j, rfl⟩ := Int.eq_ofNat_of_zero_le h60
            have hj : ixN (cs.map fun c => V.str ⟨#[c]⟩).length ((j : Nat) : Int) = some j := by
              unfold ixN
              rw [if_pos h60, if_pos h61]
              rfl
            have hD9 := sD9.at_
            walk_at "rd"
            refine hz _ _ ⟨cs.set j c5, m + 1 + 1, ?_, by simpa using hcl, by omega, S9.put sD9, ?_, rfl⟩
            · intro x hx
              rcases List.mem_or_eq_of_mem_set hx with h | h
              · exact hcs x h
              · rw [h]; exact hok5
            · have := sD9.put_same (u := .lst ((cs.map fun c => V.str ⟨#[c]⟩).set j (V.str ⟨#[c5]⟩)))
              rw [List.map_set]
              exact this
          · exact hz _ _ ⟨cs, m, hcs, hcl, by omega, S7, sD7, rfl⟩
        · exact hz _ _ ⟨cs, m, hcs, hcl, by omega, S6, sD, rfl⟩
      clear S6 sD hcs hcl cs hm9 hm m
      rintro _ H7 ⟨cs, m', hcs, hcl, hm', S7, sD7, rfl⟩
      dsimp only
      walk_at "rd"
      refine ⟨show SqL _ _ _ ((cs.map fun c => (⟨#[c]⟩ : Str)).map V.str) ∨ _ from .inl (.inl (.inl (by rw [List.map_map]; exact sD7.at_))), ?_, ?_⟩
      · rw [signs_len, List.length_map]
        show cs.length + cs.length * 0 ≤ 16777216
        omega
      have hwl : (Txt.join Str.empty (cs.map fun c => ⟨#[c]⟩)).cps.toList = cs := join_signs cs
      have hwl2 : (Txt.join Str.empty (cs.map fun c => ⟨#[c]⟩)).length ≤ 80 := by rw [← str_list_len, hwl]; exact hcl
      show Stop _ _ _ ((_ : L2.St).set 6 (some (V.str (Txt.join Str.empty (cs.map fun c => ⟨#[c]⟩))))) _
      generalize Txt.join Str.empty (cs.map fun c => ⟨#[c]⟩) = wd at hwl hwl2 ⊢
      subst hwl
      have hsz : wd.length + 1 ≤ sizeLine := Nat.le_of_lt (small1000 (by omega))
      have hsz2 : 1 + wd.length ≤ sizeLine := by omega
      refine Stop.cut (fun σ H' => ∃ (wd : Str) (m : Nat), wd.length ≤ 81 ∧ okL wd.cps.toList ∧ StAt H' p m ∧ σ = [some (.ref a), some (.ref p), some (.int r), some (.str z), some (.ref D), none, some (.str wd), none]) (fun Qz hz => ?_) ?_
      · walk_at "rd"
        intro r7 H8 h70 h71 S8 x8
        walk_at "rd"
        refine ite2 (fun e1 => ?_) (fun e1 => ?_)
        · walk_at "rd"
          refine ⟨by show 4 ≤ sizeLine; decide, fun l2 hl2 => ?_⟩
          have S9 := S8.same (same_new (o := .lst [V.str (wd ++ nlS), V.str (wd ++ blS), V.str (blS ++ wd), V.str (nlS ++ wd)]) hl2)
          have hl9 := S8.new (o := .lst [V.str (wd ++ nlS), V.str (wd ++ blS), V.str (blS ++ wd), V.str (nlS ++ wd)]) hl2
          show tCall spDraw _ _ _ _ (upd H8 l2 (.lst [V.str (wd ++ nlS), V.str (wd ++ blS), V.str (blS ++ wd), V.str (nlS ++ wd)])) _
          generalize upd H8 l2 (.lst [V.str (wd ++ nlS), V.str (wd ++ blS), V.str (blS ++ wd), V.str (nlS ++ wd)]) = H9 at S9 hl9 ⊢
          clear S8 hl2
          walk_at "rd"
          intro r8 H10 h80 h81 S10 x10
          have hl10 := x10 _ _ hl9
          obtain ⟨wd2, hw1, hw2, hat⟩ : ∃ wd2 : Str, wd2.length ≤ 81 ∧ okL wd2.cps.toList ∧ atI [V.str (wd ++ nlS), V.str (wd ++ blS), V.str (blS ++ wd), V.str (nlS ++ wd)] r8 = some (.str wd2) := by
            obtain e | e | e | e : r8 = 0 ∨ r8 = 1 ∨ r8 = 2 ∨ r8 = 3 := by omega
            all_goals subst e
            · exact ⟨_, by rw [app_len, len_nl]; omega, okL_app hcs ok_nl, rfl⟩
            · exact ⟨_, by rw [app_len, len_bl]; omega, okL_app hcs ok_bl, rfl⟩
            · exact ⟨_, by rw [app_len, len_bl]; omega, okL_app ok_bl hcs, rfl⟩
            · exact ⟨_, by rw [app_len, len_nl]; omega, okL_app ok_nl hcs, rfl⟩
          clear S9 hl9 x10
          walk_at "rd"
          exact hz _ _ ⟨wd2, _, hw1, hw2, S10, rfl⟩
        · exact hz _ _ ⟨wd, _, by omega, hcs, S8, rfl⟩
      clear S7 sD7 hcs hcl hsz hsz2 hwl2 wd
      rintro _ H8 ⟨wd, m, hwl, hcs, S8, rfl⟩
      have hwl3 : wd.length ≤ 1000 := by omega
      have hwl4 : wd.length ≤ sizeLine := Nat.le_trans hwl3 (by decide)
      have hwr : (revS wd).length ≤ 1000 := by rw [revS_len]; exact hwl3
      have hcr := okL_rev hcs
      clear S8
      walk_at "rd"
      intro H9 s9
      walk_at "rd"
      refine ⟨.ty "bool", .base (.bl _), kit_ty (r := true) (by decide +kernel), ?_⟩
      walk_at "rd"
      intro H10 s10
      walk_at "rd"
      refine ite2 (fun e => absurd e (by simp)) (fun _ => ?_)
      walk_at "rd"
      intro H11 s11
      walk_at "rd"
      intro H12 s12
      walk_at "rd"
      rw [decide_eq_true rfl]
      exact q _
end
theorem all_mk {l : PySem.W.OpenLaw} {w : World} {K : PySem.W.Frag} {h : Heap} {mg : Str → Option Value} {fa f_valid_name f_law_start f_law_draw f_law_signs f_law_good f_law : Addr} (X : K.In h) (G : h.Ns mainGlobals mg) (hfa : mg "law" = some (.ref fa))
    {od0 an0 : Option Addr} {sl0 : Array (Option Value)} {oc0 kV0 dc0 pm0 cd0 ct0 : Value}
    (a0 : PySem.W.nsIn K mainGlobals "valid_name" = some (some (.ref f_valid_name)))
    (l0 : K.lookup f_valid_name = some ⟨oc0, od0, .func (PySem.W.fnOf "valid_name" "valid_name" (defArgs s_valid_name) (defBody s_valid_name) (defScope s_valid_name) .none kV0 dc0 pm0 an0 cd0 ct0), sl0⟩) (c0 : PySem.W.codeIn K cd0 "valid_name" = true) (k0 : PySem.W.keepIn K (.ref f_valid_name) = true)
    {od1 an1 : Option Addr} {sl1 : Array (Option Value)} {oc1 kV1 dc1 pm1 cd1 ct1 : Value}
    (a1 : PySem.W.nsIn K mainGlobals "_law_start" = some (some (.ref f_law_start)))
    (l1 : K.lookup f_law_start = some ⟨oc1, od1, .func (PySem.W.fnOf "_law_start" "_law_start" (defArgs s_law_start) (defBody s_law_start) (defScope s_law_start) .none kV1 dc1 pm1 an1 cd1 ct1), sl1⟩) (c1 : PySem.W.codeIn K cd1 "_law_start" = true) (k1 : PySem.W.keepIn K (.ref f_law_start) = true)
    {od2 an2 : Option Addr} {sl2 : Array (Option Value)} {oc2 kV2 dc2 pm2 cd2 ct2 : Value}
    (a2 : PySem.W.nsIn K mainGlobals "_law_draw" = some (some (.ref f_law_draw)))
    (l2 : K.lookup f_law_draw = some ⟨oc2, od2, .func (PySem.W.fnOf "_law_draw" "_law_draw" (defArgs s_law_draw) (defBody s_law_draw) (defScope s_law_draw) .none kV2 dc2 pm2 an2 cd2 ct2), sl2⟩) (c2 : PySem.W.codeIn K cd2 "_law_draw" = true) (k2 : PySem.W.keepIn K (.ref f_law_draw) = true)
    {od3 an3 : Option Addr} {sl3 : Array (Option Value)} {oc3 kV3 dc3 pm3 cd3 ct3 : Value}
    (a3 : PySem.W.nsIn K mainGlobals "_law_signs" = some (some (.ref f_law_signs)))
    (l3 : K.lookup f_law_signs = some ⟨oc3, od3, .func (PySem.W.fnOf "_law_signs" "_law_signs" (defArgs s_law_signs) (defBody s_law_signs) (defScope s_law_signs) .none kV3 dc3 pm3 an3 cd3 ct3), sl3⟩) (c3 : PySem.W.codeIn K cd3 "_law_signs" = true) (k3 : PySem.W.keepIn K (.ref f_law_signs) = true)
    {od4 an4 : Option Addr} {sl4 : Array (Option Value)} {oc4 kV4 dc4 pm4 cd4 ct4 : Value}
    (a4 : PySem.W.nsIn K mainGlobals "_law_good" = some (some (.ref f_law_good)))
    (l4 : K.lookup f_law_good = some ⟨oc4, od4, .func (PySem.W.fnOf "_law_good" "_law_good" (defArgs s_law_good) (defBody s_law_good) (defScope s_law_good) .none kV4 dc4 pm4 an4 cd4 ct4), sl4⟩) (c4 : PySem.W.codeIn K cd4 "_law_good" = true) (k4 : PySem.W.keepIn K (.ref f_law_good) = true)
    {od5 an5 : Option Addr} {sl5 : Array (Option Value)} {oc5 kV5 dc5 pm5 cd5 ct5 : Value}
    (a5 : PySem.W.nsIn K mainGlobals "law" = some (some (.ref f_law)))
    (l5 : K.lookup f_law = some ⟨oc5, od5, .func (PySem.W.fnOf "law" "law" (defArgs s_law) (defBody s_law) (defScope s_law) .none kV5 dc5 pm5 an5 cd5 ct5), sl5⟩) (c5 : PySem.W.codeIn K cd5 "law" = true) (k5 : PySem.W.keepIn K (.ref f_law) = true)
    {t_LETTERS : Tok} (v_LETTERS : PySem.W.nsIn K mainGlobals "LETTERS" = some (some (.str "abcdefghijklmnopqrstuvwxyz" t_LETTERS)))
    {t_DIGITS : Tok} (v_DIGITS : PySem.W.nsIn K mainGlobals "DIGITS" = some (some (.str "0123456789" t_DIGITS)))
    {t_LONGEST_NAME : Tok} (v_LONGEST_NAME : PySem.W.nsIn K mainGlobals "LONGEST_NAME" = some (some (.int 6 t_LONGEST_NAME)))
    (z_len : PySem.W.nsIn K mainGlobals "len" = some none)
    (z_all : PySem.W.nsIn K mainGlobals "all" = some none)
    (z_abs : PySem.W.nsIn K mainGlobals "abs" = some none)
    (z_list : PySem.W.nsIn K mainGlobals "list" = some none)
    (z_int : PySem.W.nsIn K mainGlobals "int" = some none)
    (z_range : PySem.W.nsIn K mainGlobals "range" = some none)
    (z_isinstance : PySem.W.nsIn K mainGlobals "isinstance" = some none)
    (z_bool : PySem.W.nsIn K mainGlobals "bool" = some none)
    : ∃ fd : FuncData, (∀ (s : Shared) (v : Value), BindsTo s fd ⟨[v], []⟩ [("_law_script", v)]) ∧ ∀ base : Heap, K.In base → base.Ns mainGlobals mg → FnOk l.prog w K mg base CX0 2 fa fd ["_law_script"] (spLaw K) := by
  have e := hfa.symm.trans (PySem.W.mg_of X G a5)
  cases e
  have F0 := fun_mk (st := s_valid_name) l0 c0 k0
  have b0 := F0.binds (ps := ["text"]) fun _ _ _ _ _ _ us hl => match us, hl with | [_], _ => rfl
  have F1 := fun_mk (st := s_law_start) l1 c1 k1
  have b1 := F1.binds (ps := ["_law_script"]) fun _ _ _ _ _ _ us hl => match us, hl with | [_], _ => rfl
  have F2 := fun_mk (st := s_law_draw) l2 c2 k2
  have b2 := F2.binds (ps := ["_law_state", "_law_size"]) fun _ _ _ _ _ _ us hl => match us, hl with | [_, _], _ => rfl
  have F3 := fun_mk (st := s_law_signs) l3 c3 k3
  have b3 := F3.binds (ps := []) fun _ _ _ _ _ _ us hl => match us, hl with | [], _ => rfl
  have F4 := fun_mk (st := s_law_good) l4 c4 k4
  have b4 := F4.binds (ps := ["_law_word"]) fun _ _ _ _ _ _ us hl => match us, hl with | [_], _ => rfl
  have F5 := fun_mk (st := s_law) l5 c5 k5
  have b5 := F5.binds (ps := ["_law_script"]) fun _ _ _ _ _ _ us hl => match us, hl with | [_], _ => rfl
  let T : Txt K mg := {
    f_valid_name := f_valid_name, fd_valid_name := _, F_valid_name := F0, b_valid_name := b0, g_valid_name := PySem.W.mg_of X G a0
    f_law_start := f_law_start, fd_law_start := _, F_law_start := F1, b_law_start := b1, g_law_start := PySem.W.mg_of X G a1
    f_law_draw := f_law_draw, fd_law_draw := _, F_law_draw := F2, b_law_draw := b2, g_law_draw := PySem.W.mg_of X G a2
    f_law_signs := f_law_signs, fd_law_signs := _, F_law_signs := F3, b_law_signs := b3, g_law_signs := PySem.W.mg_of X G a3
    f_law_good := f_law_good, fd_law_good := _, F_law_good := F4, b_law_good := b4, g_law_good := PySem.W.mg_of X G a4
    f_law := fa, fd_law := _, F_law := F5, b_law := b5, g_law := PySem.W.mg_of X G a5
    t_LETTERS := t_LETTERS, c_LETTERS := PySem.W.mg_of X G v_LETTERS
    t_DIGITS := t_DIGITS, c_DIGITS := PySem.W.mg_of X G v_DIGITS
    t_LONGEST_NAME := t_LONGEST_NAME, c_LONGEST_NAME := PySem.W.mg_of X G v_LONGEST_NAME
    n_len := PySem.W.mg_none_of X G z_len
    n_all := PySem.W.mg_none_of X G z_all
    n_abs := PySem.W.mg_none_of X G z_abs
    n_list := PySem.W.mg_none_of X G z_list
    n_int := PySem.W.mg_none_of X G z_int
    n_range := PySem.W.mg_none_of X G z_range
    n_isinstance := PySem.W.mg_none_of X G z_isinstance
    n_bool := PySem.W.mg_none_of X G z_bool
    kb_valid_name_text := ⟨fun s us ws _ hl => by
      match us, ws, hl with
      | [], [x0], _ => exact .of_eq rfl
      | [], [], h => exact absurd (show (List.replicate 2 Value.none).length = 1 from h) (by decide)
      | [], _ :: _ :: _, h => exact absurd (show (List.replicate 2 Value.none).length = 1 from h) (by decide)
      | _ :: _, _, h => exact absurd (show (List.replicate 2 Value.none).length = 1 from h) (by decide),
    fun h1 t0 => by cases h1 with | nil => (cases t0 with | nil => exact vals_rep _ | cons r0 t1 => (cases t1 with | nil => exact (.cons r0 .nil) | cons _ _ => exact vals_rep _)) | cons _ _ => exact vals_rep _⟩
  }
  exact ⟨PySem.W.fnOf "law" "law" (defArgs s_law) (defBody s_law) (defScope s_law) .none kV5 dc5 pm5 an5 cd5 ct5, fun s v => .of_eq rfl, fun base _ _ => ok_law T⟩
end P
open PySem PySem.W PyProof.Rows
set_option maxRecDepth 100000 in
set_option maxHeartbeats 0 in
theorem PySem.Challenge.cw_openshares_k01_valid_names_holds : PySem.Challenge.rw_openshares_k01_valid_names.Holds := by
  w_on; o_law; k_head; (case hw => w_witness2)
  k_fill
  refine L2.walk_of (l := PySem.Challenge.rw_openshares_k01_valid_names) (n := 63) (k := 2) (x := "_law_script") (CX := fun _ => L2.CX0) (sp := fun w => P.spLaw _) rfl (by decide) rfl ⟨rfl, by decide, by decide⟩ (fun w h Y => PySem.W.kIn_of Y) ?F (fun _ _ a ns hl _ hS => ⟨a, ns, rfl, hS, hl, fun _ => rfl⟩) (fun _ _ _ _ _ h => h)
  case F =>
    intro w mg fa h KX G hmg
    refine' P.all_mk KX G hmg ?a0 ?l0 ?c0 ?k0 ?a1 ?l1 ?c1 ?k1 ?a2 ?l2 ?c2 ?k2 ?a3 ?l3 ?c3 ?k3 ?a4 ?l4 ?c4 ?k4 ?a5 ?l5 ?c5 ?k5 ?v_LETTERS ?v_DIGITS ?v_LONGEST_NAME ?z_len ?z_all ?z_abs ?z_list ?z_int ?z_range ?z_isinstance ?z_bool
    (case a0 => k_is); (case l0 => k_is); (case c0 => k_is); (case k0 => k_is); (case a1 => k_is); (case l1 => k_is); (case c1 => k_is); (case k1 => k_is); (case a2 => k_is); (case l2 => k_is); (case c2 => k_is); (case k2 => k_is); (case a3 => k_is); (case l3 => k_is); (case c3 => k_is); (case k3 => k_is); (case a4 => k_is); (case l4 => k_is); (case c4 => k_is); (case k4 => k_is); (case a5 => k_is); (case l5 => k_is); (case c5 => k_is); (case k5 => k_is); (case v_LETTERS => k_is); (case v_DIGITS => k_is); (case v_LONGEST_NAME => k_is); (case z_len => k_is); (case z_all => k_is); (case z_abs => k_is); (case z_list => k_is); (case z_int => k_is); (case z_range => k_is); (case z_isinstance => k_is); (case z_bool => k_is)
#print axioms PySem.Challenge.cw_openshares_k01_valid_names_holds
