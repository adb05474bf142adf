import PyProof.Rows.All
import Wide.All
import OpenK.AllK
import Wide.FinOn
import HandS.ForMost
import HandS.Walk
import HandS.IsInst
import HandS.Wide
import HandS.EndBits
import KE.GoesNew
import KE.GoesMore
import HandS.Defaults
import HandS.MakeKwOnly
import HandS.Codes
import HandS.Gcd
import HandS.Star
import HandS.Deep
import HandS.TupMul
import HandS.TupAny
import HandS.Style
import HandS.TupSets
import HandS.Strs
import KE.GoesEnum
import HandS.RevRange
import HandS.WideBits
import HandS.SetFor
import KE.KDictZip
import KE.GoesZip
import PyProof.ListNew
import HandS.Flow
import HandS.SortInts
import HandS.FStr
import KE.KxField
import HandS.Dict
import HandS.SortOrd
import HandS.SortRule
import KE.KStateDown
import HandS.Base
import HandS.Call
import HandS.Ends
import HandS.More
import HandS.Words
import HandS.Head0
import HandS.Head1
import HandS.Head2
import HandS.Head3
import HandS.HeadEnd
import HandS.HeadHook1
import HandS.ExcInit
import HandS.ExcField
import HandS.TryMany
import HandS.WordsExc
import HandS.ClsMeth
import PyProof.ReprRoads
import KE.KDictWalk
import HandS.Sort
import PyProof.TupleOfSeq
import HandS.ExcOwn
import HandS.ExcValue
import KE.KDictPairs
import HandS.DictComp
import HandS.Iter
import PyProof.TupleKey
import PySem.Challenge.RW_calledseats_k25_whole_one_target
set_option Elab.async false
set_option linter.all false
set_option maxRecDepth 100000
set_option maxHeartbeats 4000000
namespace Cs
open PySem PySem.Spec PyProof.Rows L2

/-! ### a list or a tuple -/
def Sqk (K : PySem.W.Frag) (k : Bool) (H : Hp) (a : Addr) (xs : List V) : Prop := match k with
  | true => SqL K H a xs
  | false => SqT K H a xs
def SeqK (k : Bool) (h : Heap) (a : Addr) (its : Array Value) : Prop := match k with
  | true => h.IsList a its
  | false => h.IsTuple a its
def ItK (k : Bool) (h : Heap) (it a : Addr) (i : Nat) : Prop := match k with
  | true => h.IsListIter it a i
  | false => h.IsTupleIter it a i
def itO (k : Bool) (a : Addr) : Obj := match k with
  | true => { cls := .type "list_iterator", data := .fields #[.ref a, .int 0 0] }
  | false => { cls := .type "tuple_iterator", data := .fields #[.ref a, .int 0 0] }
theorem ItK.at {k : Bool} {h h' : Heap} {it a : Addr} {i : Nat} (x : ItK k h it a i) (q : ∀ o, h.get? it = some o → h'.get? it = some o) : ItK k h' it a i := by
  cases k with
  | true => exact PySem.Heap.IsListIter.at x q
  | false => exact PySem.Heap.IsTupleIter.at x q
theorem ItK.obj {k : Bool} {h : Heap} {it a : Addr} {i : Nat} (x : ItK k h it a i) : ∃ o, h.get? it = some o ∧ ∀ v, o.data ≠ .cell v := by
  cases k with
  | true => obtain ⟨o, e, _, d⟩ := x; exact ⟨o, e, fun v q => by rw [d] at q; cases q⟩
  | false => obtain ⟨o, e, _, d⟩ := x; exact ⟨o, e, fun v q => by rw [d] at q; cases q⟩
theorem ItK.new {k : Bool} {h : Heap} {it a : Addr} (e : h.get? it = some (itO k a)) : ItK k h it a 0 := by
  cases k with
  | true => exact ⟨_, e, rfl, rfl⟩
  | false => exact ⟨_, e, rfl, rfl⟩
theorem drawsK {prog : Program} {w : World} {A : Around} (hh : A.handled = none) (k : Bool) (it l : Addr) (hne : l ≠ it) (items : Array Value) :
    Draws prog w A it [it, l] items.size (fun i v => items[i]? = some v) (fun i h => ItK k h it l i ∧ SeqK k h l items) := by
  cases k with
  | true => exact Draws.list hh it l hne items
  | false => exact Draws.tuple hh it l hne items
theorem begK (k : Bool) (a : Addr) (its : Array Value) : Begins (.ref a) (itO k a) fun h => SeqK k h a its := by
  cases k with
  | true => exact begins_list a its
  | false => exact begins_tuple a its
section
variable {X : Cx} {pins : List (Addr × Obj)} {σ : L2.St} {H : Hp} {s : Shared} {k : Bool} {a : Addr} {xs ys : List V}
theorem invK (I : Inv X pins σ H s) (h : Sqk X.K k H a xs) : ∃ its : List Value, Vals xs its ∧ SeqK k s.heap a its.toArray := by
  cases k with
  | true => obtain ⟨its, rv, p, _⟩ := I.list h; exact ⟨its, rv, p.isList⟩
  | false => obtain ⟨its, rv, p, _⟩ := I.tuple h; exact ⟨its, rv, p⟩
theorem injK (I : Inv X pins σ H s) (h : Sqk X.K k H a xs) (h' : Sqk X.K k H a ys) : xs = ys := by
  cases k with
  | true => exact I.list_inj h h'
  | false => exact I.tuple_inj h h'
theorem SeqK.lt {h : Heap} {its : Array Value} (x : SeqK k h a its) : a < h.objs.size := by
  cases k with
  | true => obtain ⟨o, e, _⟩ := x; exact Heap.lt_size e
  | false => obtain ⟨o, e, _⟩ := x; exact Heap.lt_size e
end
theorem Sqk.same {K : PySem.W.Frag} {k : Bool} {H H' : Hp} {a : Addr} {xs : List V} (e : Same H H') (h : Sqk K k H a xs) : Sqk K k H' a xs := by
  cases k with
  | true => exact e.seq h
  | false =>
    rcases h with (h | ⟨o, h⟩) | h
    · exact .inl (.inl (e _ _ h))
    · exact .inl (.inr ⟨o, e _ _ h⟩)
    · exact .inr h

/-! ### for a, b in zip(x, y), x and y lists or tuples -/
def Iz2 (K : PySem.W.Frag) (k1 k2 : Bool) (a b : Addr) : It :=
  ⟨fun i H => ∃ (xs ys : List V) (x y : V), Sqk K k1 H a xs ∧ Sqk K k2 H b ys ∧ xs[i]? = some x ∧ ys[i]? = some y,
    fun i H v H' => ∃ T x y, v = .ref T ∧ H T = none ∧ H' = upd H T (.tup [x, y]) ∧ (∀ xs, Sqk K k1 H a xs → xs[i]? = some x) ∧ ∀ ys, Sqk K k2 H b ys → ys[i]? = some y,
    fun i H => ∃ xs ys : List V, Sqk K k1 H a xs ∧ Sqk K k2 H b ys ∧ xs.length = ys.length ∧ xs.length = i⟩
def Iz3 (K : PySem.W.Frag) (k1 k2 k3 : Bool) (a b c : Addr) : It :=
  ⟨fun i H => ∃ (xs ys zs : List V) (x y z : V), Sqk K k1 H a xs ∧ Sqk K k2 H b ys ∧ Sqk K k3 H c zs ∧ xs[i]? = some x ∧ ys[i]? = some y ∧ zs[i]? = some z,
    fun i H v H' => ∃ T x y z, v = .ref T ∧ H T = none ∧ H' = upd H T (.tup [x, y, z]) ∧ (∀ xs, Sqk K k1 H a xs → xs[i]? = some x) ∧ (∀ ys, Sqk K k2 H b ys → ys[i]? = some y) ∧ ∀ zs, Sqk K k3 H c zs → zs[i]? = some z,
    fun i H => ∃ xs ys zs : List V, Sqk K k1 H a xs ∧ Sqk K k2 H b ys ∧ Sqk K k3 H c zs ∧ xs.length = ys.length ∧ ys.length = zs.length ∧ xs.length = i⟩

theorem turn_z2 {P : Program} {w : World} {K : PySem.W.Frag} {elts : List Expr} {kk : Nat} {tpos : Pos} {k1 k2 : Bool} {a b z TI TO i1 i2 : Addr} (S : ZipSep2 z TI TO i1 i2 [i1, a] [i2, b]) (n1 : a ≠ i1) (n2 : b ≠ i2) :
    Turn P w K (.Tuple elts kk tpos) (Iz2 K k1 k2 a b) [z, TI, TO, i1, i2] z (fun i h => IsZip h z TI TO .none ∧ IsTupOf2 h TI (.ref i1) (.ref i2) ∧ (∃ x y, IsTupOf2 h TO x y) ∧ ItK k1 h i1 a i ∧ ItK k2 h i2 b i) where
  mem := by simp
  obj := fun i h st c hc => by
    obtain ⟨hz, hTI, ⟨x, y, hTO⟩, h1, h2⟩ := st
    have e' : c = z ∨ c = TI ∨ c = TO ∨ c = i1 ∨ c = i2 := by simpa using hc
    rcases e' with q | q | q | q | q
    · rw [q]; exact ⟨_, hz, fun v q => nomatch q⟩
    · rw [q]; exact ⟨_, hTI, fun v q => nomatch q⟩
    · rw [q]; exact ⟨_, hTO, fun v q => nomatch q⟩
    · rw [q]; exact h1.obj
    · rw [q]; exact h2.obj
  keep := fun i h h' st k => by
    obtain ⟨hz, hTI, ⟨x, y, hTO⟩, h1, h2⟩ := st
    exact ⟨k z (by simp) _ hz, k TI (by simp) _ hTI, ⟨x, y, k TO (by simp) _ hTO⟩, h1.at fun o q => k i1 (by simp) o q, h2.at fun o q => k i2 (by simp) o q⟩
  item := by
    intro X hP hw hK hc i pins s σ H E I hf st hg
    subst hP hw hK
    obtain ⟨xs, ys, x, y, hqx, hqy, hx, hy⟩ := hg
    obtain ⟨its, rv, p⟩ := invK I hqx
    obtain ⟨its2, rv2, p2⟩ := invK I hqy
    obtain ⟨u, hu, ru⟩ := rv.get hx
    obtain ⟨u2, hu2, ru2⟩ := rv2.get hy
    have hh : X.A.handled = none := I.ok.hd hc
    have D1 := drawsK (prog := X.prog) (w := X.w) (A := X.A.in1) hh k1 i1 a n1 its.toArray
    have D2 := drawsK (prog := X.prog) (w := X.w) (A := X.A.in1) hh k2 i2 b n2 its2.toArray
    have l1 : i < its.length := (List.getElem?_eq_some_iff.mp hu).1
    have l2 : i < its2.length := (List.getElem?_eq_some_iff.mp hu2).1
    have W := GoesN.zip2 (elts := elts) (x1 := kk) (pos := tpos) S D1 D2
    refine W.goes i s (fun v s2 => ∃ x H', Inv X pins σ H' s2 ∧ RelV x v ∧ (Iz2 X.K k1 k2 a b).yld i H x H' ∧ (IsZip s2.heap z TI TO .none ∧ IsTupOf2 s2.heap TI (.ref i1) (.ref i2) ∧ (∃ x y, IsTupOf2 s2.heap TO x y) ∧ ItK k1 s2.heap i1 a (i + 1) ∧ ItK k2 s2.heap i2 b (i + 1)) ∧ ∀ b ∈ [z, TI, TO, i1, i2], H' b = none) E (by simp only [List.size_toArray]; omega) ⟨st.1, st.2.1, st.2.2.1, ⟨st.2.2.2.1, p⟩, st.2.2.2.2, p2⟩ fun v h' tk hY st' hk htk => ?_
    obtain ⟨T, v1, v2, rfl, hT, e1, e2, hTu⟩ := hY
    have q1 : v1 = u := by
      have e1' : its[i]? = some v1 := by simpa using e1
      rw [hu] at e1'; exact (Option.some.inj e1').symm
    have q2 : v2 = u2 := by
      have e2' : its2[i]? = some v2 := by simpa using e2
      rw [hu2] at e2'; exact (Option.some.inj e2').symm
    subst q1 q2
    have new : ObjOk X.prog X.w (upd H T (.tup [x, y])) h' T (.tup [x, y]) :=
      ⟨by show 2 ≤ sizeLine; decide, [v1, v2], .cons ru (.cons ru2 .nil), hTu⟩
    have I1 : Inv X pins σ (upd H T (.tup [x, y])) { s with heap := h', toks := tk } :=
      I.turnedNew (t' := tk) (ch := [z, TI, TO, i1, i2]) (fun c o hb q => hk c o (fun hm => hb (by
        simp only [List.mem_cons, List.mem_nil_iff, or_false] at hm ⊢
        rcases hm with q | q | q | q <;> simp [q])) q) hf hT new
    refine ⟨.ref T, _, I1, rfl, ⟨T, x, y, rfl, I.hok.fresh hT, rfl, fun l hl => by rw [injK I hl hqx]; exact hx, fun l hl => by rw [injK I hl hqy]; exact hy⟩, ⟨st'.1, st'.2.1, st'.2.2.1, st'.2.2.2.1.1, st'.2.2.2.2.1⟩, fun c hcm => ?_⟩
    have hlt : c < s.heap.objs.size := by
      obtain ⟨hz, hTI, ⟨x0, y0, hTO⟩, h1, h2⟩ := st
      have e' : c = z ∨ c = TI ∨ c = TO ∨ c = i1 ∨ c = i2 := by simpa using hcm
      rcases e' with q | q | q | q | q
      · rw [q]; exact Heap.lt_size hz
      · rw [q]; exact Heap.lt_size hTI
      · rw [q]; exact Heap.lt_size hTO
      · rw [q]; obtain ⟨_, e1, _⟩ := h1.obj; exact Heap.lt_size e1
      · rw [q]; obtain ⟨_, e2, _⟩ := h2.obj; exact Heap.lt_size e2
    rw [upd_ne (Nat.ne_of_lt (Nat.lt_of_lt_of_le hlt hT))]
    exact (hf c hcm).1
  done := by
    intro X hP hw hK hc i pins s σ H E I hf st hg
    subst hP hw hK
    obtain ⟨xs, ys, hqx, hqy, hl, hi⟩ := hg
    obtain ⟨its, rv, p⟩ := invK I hqx
    obtain ⟨its2, rv2, p2⟩ := invK I hqy
    have hh : X.A.handled = none := I.ok.hd hc
    have D1 := drawsK (prog := X.prog) (w := X.w) (A := X.A.in1) hh k1 i1 a n1 its.toArray
    have D2 := drawsK (prog := X.prog) (w := X.w) (A := X.A.in1) hh k2 i2 b n2 its2.toArray
    have W := GoesN.zip2 (elts := elts) (x1 := kk) (pos := tpos) S D1 D2
    have l1 := rv.length
    have l2 := rv2.length
    have en : min its.toArray.size its2.toArray.size = i := by simp only [List.size_toArray]; omega
    have st2 : (IsZip s.heap z TI TO .none ∧ IsTupOf2 s.heap TI (.ref i1) (.ref i2) ∧ (∃ a1 a2, IsTupOf2 s.heap TO a1 a2) ∧ (ItK k1 s.heap i1 a (min its.toArray.size its2.toArray.size) ∧ SeqK k1 s.heap a its.toArray) ∧ ItK k2 s.heap i2 b (min its.toArray.size its2.toArray.size) ∧ SeqK k2 s.heap b its2.toArray) := by
      rw [en]
      exact ⟨st.1, st.2.1, st.2.2.1, ⟨st.2.2.2.1, p⟩, st.2.2.2.2, p2⟩
    refine W.stops s (fun s1 => Inv X pins σ H s1) E st2 fun h' tk hk htk => ?_
    exact I.turnedL (t' := tk) (ch := [z, TI, TO, i1, i2]) (fun c o hb q => hk c o (fun hm => hb (by
        simp only [List.mem_cons, List.mem_nil_iff, or_false] at hm ⊢
        rcases hm with q | q | q | q <;> simp [q])) q) hf
  self := fun A i s Q E st h => wpAny_pyIter_zip st.1 h

theorem turn_z3 {P : Program} {w : World} {K : PySem.W.Frag} {elts : List Expr} {kk : Nat} {tpos : Pos} {k1 k2 k3 : Bool} {a b c z TI TO i1 i2 i3 : Addr} (S : ZipSep3 z TI TO i1 i2 i3 [i1, a] [i2, b] [i3, c]) (n1 : a ≠ i1) (n2 : b ≠ i2) (n3 : c ≠ i3) :
    Turn P w K (.Tuple elts kk tpos) (Iz3 K k1 k2 k3 a b c) [z, TI, TO, i1, i2, i3] z (fun i h => IsZip h z TI TO .none ∧ IsTupOf3 h TI (.ref i1) (.ref i2) (.ref i3) ∧ (∃ x y v, IsTupOf3 h TO x y v) ∧ ItK k1 h i1 a i ∧ ItK k2 h i2 b i ∧ ItK k3 h i3 c i) where
  mem := by simp
  obj := fun i h st c hc => by
    obtain ⟨hz, hTI, ⟨x, y, v, hTO⟩, h1, h2, h3⟩ := st
    have e' : c = z ∨ c = TI ∨ c = TO ∨ c = i1 ∨ c = i2 ∨ c = i3 := by simpa using hc
    rcases e' with q | q | q | q | q | q
    · rw [q]; exact ⟨_, hz, fun v q => nomatch q⟩
    · rw [q]; exact ⟨_, hTI, fun v q => nomatch q⟩
    · rw [q]; exact ⟨_, hTO, fun v q => nomatch q⟩
    · rw [q]; exact h1.obj
    · rw [q]; exact h2.obj
    · rw [q]; exact h3.obj
  keep := fun i h h' st k => by
    obtain ⟨hz, hTI, ⟨x, y, v, hTO⟩, h1, h2, h3⟩ := st
    exact ⟨k z (by simp) _ hz, k TI (by simp) _ hTI, ⟨x, y, v, k TO (by simp) _ hTO⟩, h1.at fun o q => k i1 (by simp) o q, h2.at fun o q => k i2 (by simp) o q, h3.at fun o q => k i3 (by simp) o q⟩
  item := by
    intro X hP hw hK hc i pins s σ H E I hf st hg
    subst hP hw hK
    obtain ⟨xs, ys, zs, x, y, v, hqx, hqy, hqz, hx, hy, hz⟩ := hg
    obtain ⟨its, rv, p⟩ := invK I hqx
    obtain ⟨its2, rv2, p2⟩ := invK I hqy
    obtain ⟨its3, rv3, p3⟩ := invK I hqz
    obtain ⟨u, hu, ru⟩ := rv.get hx
    obtain ⟨u2, hu2, ru2⟩ := rv2.get hy
    obtain ⟨u3, hu3, ru3⟩ := rv3.get hz
    have hh : X.A.handled = none := I.ok.hd hc
    have D1 := drawsK (prog := X.prog) (w := X.w) (A := X.A.in1) hh k1 i1 a n1 its.toArray
    have D2 := drawsK (prog := X.prog) (w := X.w) (A := X.A.in1) hh k2 i2 b n2 its2.toArray
    have D3 := drawsK (prog := X.prog) (w := X.w) (A := X.A.in1) hh k3 i3 c n3 its3.toArray
    have l1 : i < its.length := (List.getElem?_eq_some_iff.mp hu).1
    have l2 : i < its2.length := (List.getElem?_eq_some_iff.mp hu2).1
    have l3 : i < its3.length := (List.getElem?_eq_some_iff.mp hu3).1
    have W := GoesN.zip3 (elts := elts) (x1 := kk) (pos := tpos) S D1 D2 D3
    refine W.goes i s (fun v s2 => ∃ x H', Inv X pins σ H' s2 ∧ RelV x v ∧ (Iz3 X.K k1 k2 k3 a b c).yld i H x H' ∧ (IsZip s2.heap z TI TO .none ∧ IsTupOf3 s2.heap TI (.ref i1) (.ref i2) (.ref i3) ∧ (∃ x y v, IsTupOf3 s2.heap TO x y v) ∧ ItK k1 s2.heap i1 a (i + 1) ∧ ItK k2 s2.heap i2 b (i + 1) ∧ ItK k3 s2.heap i3 c (i + 1)) ∧ ∀ b ∈ [z, TI, TO, i1, i2, i3], H' b = none) E (by simp only [List.size_toArray]; omega) ⟨st.1, st.2.1, st.2.2.1, ⟨st.2.2.2.1, p⟩, ⟨st.2.2.2.2.1, p2⟩, st.2.2.2.2.2, p3⟩ fun v h' tk hY st' hk htk => ?_
    obtain ⟨T, v1, v2, v3, rfl, hT, e1, e2, e3, hTu⟩ := hY
    have q1 : v1 = u := by
      have e1' : its[i]? = some v1 := by simpa using e1
      rw [hu] at e1'; exact (Option.some.inj e1').symm
    have q2 : v2 = u2 := by
      have e2' : its2[i]? = some v2 := by simpa using e2
      rw [hu2] at e2'; exact (Option.some.inj e2').symm
    have q3 : v3 = u3 := by
      have e3' : its3[i]? = some v3 := by simpa using e3
      rw [hu3] at e3'; exact (Option.some.inj e3').symm
    subst q1 q2 q3
    have new : ObjOk X.prog X.w (upd H T (.tup [x, y, v])) h' T (.tup [x, y, v]) :=
      ⟨by show 3 ≤ sizeLine; decide, [v1, v2, v3], .cons ru (.cons ru2 (.cons ru3 .nil)), hTu⟩
    have I1 : Inv X pins σ (upd H T (.tup [x, y, v])) { s with heap := h', toks := tk } :=
      I.turnedNew (t' := tk) (ch := [z, TI, TO, i1, i2, i3]) (fun c o hb q => hk c o (fun hm => hb (by
        simp only [List.mem_cons, List.mem_nil_iff, or_false] at hm ⊢
        rcases hm with q | q | q | q | q <;> simp [q])) q) hf hT new
    refine ⟨.ref T, _, I1, rfl, ⟨T, x, y, v, rfl, I.hok.fresh hT, rfl, fun l hl => by rw [injK I hl hqx]; exact hx, fun l hl => by rw [injK I hl hqy]; exact hy, fun l hl => by rw [injK I hl hqz]; exact hz⟩, ⟨st'.1, st'.2.1, st'.2.2.1, st'.2.2.2.1.1, st'.2.2.2.2.1.1, st'.2.2.2.2.2.1⟩, fun c hcm => ?_⟩
    have hlt : c < s.heap.objs.size := by
      obtain ⟨hz, hTI, ⟨x0, y0, v0, hTO⟩, h1, h2, h3⟩ := st
      have e' : c = z ∨ c = TI ∨ c = TO ∨ c = i1 ∨ c = i2 ∨ c = i3 := by simpa using hcm
      rcases e' with q | q | q | q | q | q
      · rw [q]; exact Heap.lt_size hz
      · rw [q]; exact Heap.lt_size hTI
      · rw [q]; exact Heap.lt_size hTO
      · rw [q]; obtain ⟨_, e1, _⟩ := h1.obj; exact Heap.lt_size e1
      · rw [q]; obtain ⟨_, e2, _⟩ := h2.obj; exact Heap.lt_size e2
      · rw [q]; obtain ⟨_, e2, _⟩ := h3.obj; exact Heap.lt_size e2
    rw [upd_ne (Nat.ne_of_lt (Nat.lt_of_lt_of_le hlt hT))]
    exact (hf c hcm).1
  done := by
    intro X hP hw hK hc i pins s σ H E I hf st hg
    subst hP hw hK
    obtain ⟨xs, ys, zs, hqx, hqy, hqz, hl, hl2, hi⟩ := hg
    obtain ⟨its, rv, p⟩ := invK I hqx
    obtain ⟨its2, rv2, p2⟩ := invK I hqy
    obtain ⟨its3, rv3, p3⟩ := invK I hqz
    have hh : X.A.handled = none := I.ok.hd hc
    have D1 := drawsK (prog := X.prog) (w := X.w) (A := X.A.in1) hh k1 i1 a n1 its.toArray
    have D2 := drawsK (prog := X.prog) (w := X.w) (A := X.A.in1) hh k2 i2 b n2 its2.toArray
    have D3 := drawsK (prog := X.prog) (w := X.w) (A := X.A.in1) hh k3 i3 c n3 its3.toArray
    have W := GoesN.zip3 (elts := elts) (x1 := kk) (pos := tpos) S D1 D2 D3
    have l1 := rv.length
    have l2 := rv2.length
    have l3 := rv3.length
    have en : min (min its.toArray.size its2.toArray.size) its3.toArray.size = i := by simp only [List.size_toArray]; omega
    have st2 : (fun i h => IsZip h z TI TO .none ∧ IsTupOf3 h TI (.ref i1) (.ref i2) (.ref i3) ∧ (∃ a1 a2 a3, IsTupOf3 h TO a1 a2 a3) ∧ (ItK k1 h i1 a i ∧ SeqK k1 h a its.toArray) ∧ (ItK k2 h i2 b i ∧ SeqK k2 h b its2.toArray) ∧ ItK k3 h i3 c i ∧ SeqK k3 h c its3.toArray) (min (min its.toArray.size its2.toArray.size) its3.toArray.size) s.heap := by
      rw [en]
      exact ⟨st.1, st.2.1, st.2.2.1, ⟨st.2.2.2.1, p⟩, ⟨st.2.2.2.2.1, p2⟩, st.2.2.2.2.2, p3⟩
    refine W.stops s (fun s1 => Inv X pins σ H s1) E st2 fun h' tk hk htk => ?_
    exact I.turnedL (t' := tk) (ch := [z, TI, TO, i1, i2, i3]) (fun c o hb q => hk c o (fun hm => hb (by
        simp only [List.mem_cons, List.mem_nil_iff, or_false] at hm ⊢
        rcases hm with q | q | q | q | q <;> simp [q])) q) hf
  self := fun A i s Q E st h => wpAny_pyIter_zip st.1 h

/-! ### the walks -/
def iSeq (K : PySem.W.Frag) (tl : TE) : TI := fun σ H R => tl σ H fun x H1 => ∃ (k : Bool) (a : Addr) (xs : List V), x = .ref a ∧ Sqk K k H1 a xs ∧ R (match k with | true => Itl K a | false => Itt K a) H1
theorem pi_seq {X : Cx} {tg l : Expr} {tl : TE} (hl : PE X l tl) : PI X tg l (iSeq X.K tl) := by
  refine ⟨fun pins s σ H R I h => ?_⟩
  refine thn (hl.run pins s σ H _ I h) fun v s1 ⟨x, H1, I1, r1, q1⟩ => ?_
  obtain ⟨k, a, xs, e, hq, q⟩ := q1
  subst e
  cases r1
  cases k with
  | true =>
    obtain ⟨its, rv, p, hz⟩ := I1.list hq
    refine wpAny_pyIter_list p.isList ?_
    refine ⟨s1.heap.objs.size, [s1.heap.objs.size], _, _, H1, rfl, I1.kept (t' := s1.toks) fun b o e => Heap.get?_push_of_some _ e, turn_list a _, ⟨_, Heap.get?_push_size _ rfl, rfl, rfl⟩, fun b hb => ?_, q⟩
    have e : b = s1.heap.objs.size := by simpa using hb
    subst e
    exact I1.fpOk (Nat.le_refl _) (I1.hok.fresh (Nat.le_refl _))
  | false =>
    obtain ⟨its, rv, p, hz⟩ := I1.tuple hq
    refine wpAny_pyIter_tuple (show s1.heap.IsTuple a its.toArray from p) ?_
    refine ⟨s1.heap.objs.size, [s1.heap.objs.size], _, _, H1, rfl, I1.kept (t' := s1.toks) fun b o e => Heap.get?_push_of_some _ e, turn_tuple a _, ⟨_, Heap.get?_push_size _ rfl, rfl, rfl⟩, fun b hb => ?_, q⟩
    have e : b = s1.heap.objs.size := by simpa using hb
    subst e
    exact I1.fpOk (Nat.le_refl _) (I1.hok.fresh (Nat.le_refl _))
theorem walk_seq {K : PySem.W.Frag} {k : Bool} {a : Addr} {xs : List V} : Walk (match k with | true => Itl K a | false => Itt K a) xs.length (fun H => Sqk K k H a xs) (YAt xs) := by
  cases k with
  | true => exact walk_list
  | false => exact walk_tup
def iZ2 (K : PySem.W.Frag) (ta : TA) : TI := fun σ H R => ta σ H fun vs H1 => ∃ (k1 k2 : Bool) (a b : Addr) (xs ys : List V), vs = [.ref a, .ref b] ∧ Sqk K k1 H1 a xs ∧ Sqk K k2 H1 b ys ∧ R (Iz2 K k1 k2 a b) H1
def iZ3 (K : PySem.W.Frag) (ta : TA) : TI := fun σ H R => ta σ H fun vs H1 => ∃ (k1 k2 k3 : Bool) (a b c : Addr) (xs ys zs : List V), vs = [.ref a, .ref b, .ref c] ∧ Sqk K k1 H1 a xs ∧ Sqk K k2 H1 b ys ∧ Sqk K k3 H1 c zs ∧ R (Iz3 K k1 k2 k3 a b c) H1
theorem pi_z2 {X : Cx} {e e2 : Expr} {ta : TA} {p pos tpos : Pos} {elts : List Expr} {kk : Nat} (hg : Gl X "zip") (hm : X.mg "zip" = none) (ha : PA X [e, e2] ta)
    (hs : starEach [e, e2] X.env = (false, eval e X.env) :: starEach [e2] X.env := by rfl) (hpl : (backTo pos (starEach [e2] X.env)).any (·.1) = false := by rfl) :
    PI X (.Tuple elts kk tpos) (.Call (.Name "zip" p) [e, e2] [] pos) (iZ2 X.K ta) := by
  refine ⟨fun pins s σ H R I h => ?_⟩
  refine Call_ (ld_blt I hg hm PyProof.Rows.boot_zip (PyProof.Rows.callWith_type1 (thn (ha.run pos pins s σ H _ I h) fun us s1 ⟨vs, H1, I1, r1, q1⟩ => ?_) hs hpl))
  obtain ⟨k1, k2, a, b, xs, ys, ex, hqx, hqy, q⟩ := q1
  subst ex
  cases r1 with
  | cons r rr =>
    cases rr with
    | cons r' rr =>
      cases rr
      cases r
      cases r'
      obtain ⟨its, rv, p1⟩ := invK I1 hqx
      obtain ⟨its2, rv2, p2⟩ := invK I1 hqy
      have la : a < s1.heap.objs.size := p1.lt
      have lb : b < s1.heap.objs.size := p2.lt
      refine zip_begins2 (begK k1 a its.toArray) (begK k2 b its2.toArray) p1 p2 fun h' hz hTI hTO h1 h2 hsz hk => wpAny_pyIter_zip hz ?_
      have I2 : Inv X pins σ H1 { s1 with heap := h' } := I1.kept (t' := s1.toks) hk
      refine ⟨s1.heap.objs.size + 4, [s1.heap.objs.size + 4, s1.heap.objs.size + 2, s1.heap.objs.size + 3, s1.heap.objs.size, s1.heap.objs.size + 1], _, _, H1, rfl, I2, turn_z2 (zip_sep2 (fun b hb => by simp at hb; rw [hb]; exact la) (fun b hb => by simp at hb; rw [hb]; exact lb)) (Nat.ne_of_lt la) (Nat.ne_of_lt (Nat.lt_succ_of_lt lb)), ⟨hz, hTI, ⟨_, _, hTO⟩, ItK.new h1, ItK.new h2⟩, fun c hcm => ?_, q⟩
      have e' : c = s1.heap.objs.size + 4 ∨ c = s1.heap.objs.size + 2 ∨ c = s1.heap.objs.size + 3 ∨ c = s1.heap.objs.size ∨ c = s1.heap.objs.size + 1 := by simpa using hcm
      have hle : s1.heap.objs.size ≤ c := by
        rcases e' with z | z | z | z | z
        · rw [z]; exact Nat.le_add_right _ _
        · rw [z]; exact Nat.le_add_right _ _
        · rw [z]; exact Nat.le_add_right _ _
        · rw [z]; exact Nat.le_refl _
        · rw [z]; exact Nat.le_add_right _ _
      exact I1.fpOk hle (I1.hok.fresh hle)
theorem pi_z3 {X : Cx} {e e2 e3 : Expr} {ta : TA} {p pos tpos : Pos} {elts : List Expr} {kk : Nat} (hg : Gl X "zip") (hm : X.mg "zip" = none) (ha : PA X [e, e2, e3] ta)
    (hs : starEach [e, e2, e3] X.env = (false, eval e X.env) :: starEach [e2, e3] X.env := by rfl) (hpl : (backTo pos (starEach [e2, e3] X.env)).any (·.1) = false := by rfl) :
    PI X (.Tuple elts kk tpos) (.Call (.Name "zip" p) [e, e2, e3] [] pos) (iZ3 X.K ta) := by
  refine ⟨fun pins s σ H R I h => ?_⟩
  refine Call_ (ld_blt I hg hm PyProof.Rows.boot_zip (PyProof.Rows.callWith_type1 (thn (ha.run pos pins s σ H _ I h) fun us s1 ⟨vs, H1, I1, r1, q1⟩ => ?_) hs hpl))
  obtain ⟨k1, k2, k3, a, b, c, xs, ys, zs, ex, hqx, hqy, hqz, q⟩ := q1
  subst ex
  cases r1 with
  | cons r rr =>
    cases rr with
    | cons r' rr =>
      cases rr with
      | cons r'' rr =>
        cases rr
        cases r
        cases r'
        cases r''
        obtain ⟨its, rv, p1⟩ := invK I1 hqx
        obtain ⟨its2, rv2, p2⟩ := invK I1 hqy
        obtain ⟨its3, rv3, p3⟩ := invK I1 hqz
        have la : a < s1.heap.objs.size := p1.lt
        have lb : b < s1.heap.objs.size := p2.lt
        have lc : c < s1.heap.objs.size := p3.lt
        refine zip_begins3 (begK k1 a its.toArray) (begK k2 b its2.toArray) (begK k3 c its3.toArray) p1 p2 p3 fun h' hz hTI hTO h1 h2 h3 hsz hk => wpAny_pyIter_zip hz ?_
        have I2 : Inv X pins σ H1 { s1 with heap := h' } := I1.kept (t' := s1.toks) hk
        refine ⟨s1.heap.objs.size + 5, [s1.heap.objs.size + 5, s1.heap.objs.size + 3, s1.heap.objs.size + 4, s1.heap.objs.size, s1.heap.objs.size + 1, s1.heap.objs.size + 2], _, _, H1, rfl, I2, turn_z3 (zip_sep3 (fun b hb => by simp at hb; rw [hb]; exact la) (fun b hb => by simp at hb; rw [hb]; exact lb) (fun b hb => by simp at hb; rw [hb]; exact lc)) (Nat.ne_of_lt la) (Nat.ne_of_lt (Nat.lt_succ_of_lt lb)) (Nat.ne_of_lt (Nat.lt_succ_of_lt (Nat.lt_succ_of_lt lc))), ⟨hz, hTI, ⟨_, _, _, hTO⟩, ItK.new h1, ItK.new h2, ItK.new h3⟩, fun c hcm => ?_, q⟩
        have e' : c = s1.heap.objs.size + 5 ∨ c = s1.heap.objs.size + 3 ∨ c = s1.heap.objs.size + 4 ∨ c = s1.heap.objs.size ∨ c = s1.heap.objs.size + 1 ∨ c = s1.heap.objs.size + 2 := by simpa using hcm
        have hle : s1.heap.objs.size ≤ c := by
          rcases e' with z | z | z | z | z | z
          · rw [z]; exact Nat.le_add_right _ _
          · rw [z]; exact Nat.le_add_right _ _
          · rw [z]; exact Nat.le_add_right _ _
          · rw [z]; exact Nat.le_refl _
          · rw [z]; exact Nat.le_add_right _ _
          · rw [z]; exact Nat.le_add_right _ _
        exact I1.fpOk hle (I1.hok.fresh hle)
/-- a new triple -/
def YTrip (xs ys zs : Nat → Option V) : Nat → Hp → V → Hp → Prop := fun i H v H' => ∃ T x y z, v = .ref T ∧ H T = none ∧ H' = upd H T (.tup [x, y, z]) ∧ xs i = some x ∧ ys i = some y ∧ zs i = some z
section
variable {K : PySem.W.Frag} {k1 k2 k3 : Bool} {a b c : Addr} {xs ys zs : List V}
theorem walk_z2 (hl : xs.length = ys.length) : Walk (Iz2 K k1 k2 a b) xs.length (fun H => Sqk K k1 H a xs ∧ Sqk K k2 H b ys) (YPair (fun i => xs[i]?) (fun i => ys[i]?)) := by
  refine ⟨fun i _ hi q => ?_, fun _ q => ⟨xs, ys, q.1, q.2, hl, rfl⟩, fun i H v H' _ q y => ?_⟩
  · have h2 : i < ys.length := by omega
    exact ⟨xs, ys, xs[i], ys[i], q.1, q.2, by simp [hi], by simp [h2]⟩
  · obtain ⟨T, x, z, h1, h2, h3, h4, h5⟩ := y
    exact ⟨T, x, z, h1, h2, h3, h4 xs q.1, h5 ys q.2⟩
theorem walk_z3 (hl : xs.length = ys.length) (hl2 : ys.length = zs.length) : Walk (Iz3 K k1 k2 k3 a b c) xs.length (fun H => Sqk K k1 H a xs ∧ Sqk K k2 H b ys ∧ Sqk K k3 H c zs) (YTrip (fun i => xs[i]?) (fun i => ys[i]?) (fun i => zs[i]?)) := by
  refine ⟨fun i _ hi q => ?_, fun _ q => ⟨xs, ys, zs, q.1, q.2.1, q.2.2, hl, hl2, rfl⟩, fun i H v H' _ q y => ?_⟩
  · have h2 : i < ys.length := by omega
    have h3 : i < zs.length := by omega
    exact ⟨xs, ys, zs, xs[i], ys[i], zs[i], q.1, q.2.1, q.2.2, by simp [hi], by simp [h2], by simp [h3]⟩
  · obtain ⟨T, x, z, v, h1, h2, h3, h4, h5, h6⟩ := y
    exact ⟨T, x, z, v, h1, h2, h3, h4 xs q.1, h5 ys q.2.1, h6 zs q.2.2⟩
end
end Cs

namespace Cs
open PySem PySem.Spec PyProof.Rows L2

/-! ### keywords -/
section
variable {X : Cx} {CX : CXT} {k n : Nat} {f C : Addr} {fd : FuncData} {ps ks : List Str} {sp : Sp} {E : XK} {x m : Str} {p pos apos : Pos} {e o : Expr} {es : List Expr} {kws : List Keyword} {ta : TE} {t tk : TA} {g : List Value → List Value → List Value} {gV : List V → List V → List V}
def tMethK (C : Addr) (m : Str) (n j : Nat) (sp : Sp) (gV : List V → List V → List V) (E : XK) (ta : TE) (t tk : TA) : TE := fun σ H Q => ta σ H fun x H1 => ∃ a dx fs, x = .ref a ∧ H1 a = some (.ins C dx fs) ∧ fs.lookup m = none ∧
  t σ H1 fun vs H2 => tk σ H2 fun zs H3 => vs.length = n ∧ zs.length = j ∧ sp (gV (x :: vs) zs) H3 Q E
theorem pe_methK0 {pl : Sem Bool} (he : PE X o ta) (c : Cls X.K C) (hm : Meth X.K C m f) (F : FnOk X.prog X.w X.K X.mg X.base CX k f fd ps sp) (hr : Room k X.A) (hb : KBn X.K fd ps 1 ks g gV) (hx : Passes CX X E) (hkw : PK X kws tk)
    (hall : (backToKw pos (keywordEach kws X.env)).all (·.1.isSome) = true := by rfl) (hks : (backToKw pos (keywordEach kws X.env)).filterMap (·.1) = ks := by rfl)
    (hpl : ((backTo pos (starEach [] X.env)).any (·.1) || (backToKw pos (keywordEach kws X.env)).any (·.1.isNone)) = false := by rfl)
    (ht : eval (.Call (.Attribute o m apos) [] kws pos) X.env = (do
      let ov ← eval o X.env
      standAt apos.atName
      let (f, first) ← holding [ov] (getMethod ov m pl)
      callWith pos f first (backTo pos (starEach [] X.env)) (backToKw pos (keywordEach kws X.env))) := by rfl) :
    PE X (.Call (.Attribute o m apos) [] kws pos) (tMethK C m 0 ks.length sp gV E ta tNil tk) := by
  refine ⟨fun pins s σ H Q I h => ?_⟩
  refine PySem.W.methodCall_KW (pl := pl) (thn (he.run pins s σ H _ I h) fun u s1 ⟨x, H1, I1, rx, a, dx, fs, ex, ea, l, q⟩ => ?_) ht
  subst ex
  obtain rfl : u = Value.ref a := rx
  refine getmeth_ok I1 ea c hm l ?_
  refine PySem.W.callWith_KW0 (h₀ := X.base) (first := [.ref a]) I1.ok.mod.kin hm.kp hall ?_ hpl
  refine thn (hkw.run pos pins s1 σ H1 _ I1 q) fun ws s2 ⟨zs, H2, I2, rz, l1, l2, q2⟩ => ⟨I2.kIn, ?_⟩
  rw [hks]
  exact run_fnN (us := [.ref a]) (vs := [.ref a]) F hr hb hx I2 (.cons rfl .nil) rz rfl l2 q2
end

/-! ### list + list, the left one of any standing -/
theorem op_catS {X : Cx} : OpR X (binaryOp .Add) (fun x y H Q => ∃ l b xs zs, x = .ref l ∧ y = .ref b ∧ SqL X.K H l xs ∧ SqL X.K H b zs ∧ xs.length + zs.length ≤ sizeLine ∧ ∀ p, H p = none → Q (.ref p) (upd H p (.lst (xs ++ zs)))) := by
  intro pins s σ H x y v u Q I rx ry h
  obtain ⟨l, b, xs, zs, rfl, rfl, hH, hB, hz, q⟩ := h
  cases rx
  cases ry
  obtain ⟨its, r, p1, z⟩ := I.list hH
  obtain ⟨its2, r2, p2, z2⟩ := I.list hB
  have e1 := r.length
  have e2 := r2.length
  obtain ⟨⟨cls, dd, data, sl⟩, n, ho, hc, hs, hd⟩ := p1
  obtain ⟨⟨cls2, dd2, data2, sl2⟩, n2, ho2, hc2, hs2, hd2⟩ := p2
  simp only at hc hd hc2 hd2 hs hs2
  subst hc hd hc2 hd2 hs hs2
  have ea : its.toArray ++ its2.toArray = (its ++ its2).toArray := by simp
  refine concat_meets ⟨_, ho, rfl⟩ ⟨_, ho2, rfl⟩ noFill_list_add seq_list_add PySem.F.slot_list_add PySem.F.entry_list_add (PySem.F.args_list_add_2 _ _) (list_addW l b its.toArray its2.toArray n n2 none none sl sl2 (by simp only [List.size_toArray]; omega)) ⟨ho, ho2, ?_⟩
  rw [ea]
  exact ⟨.ref _, _, I.lnew (t' := s.toks) (r.append r2) (by rw [List.length_append]; omega), rfl, q _ I.fresh⟩

/-! ### heaps -/
theorem upd_old {H : Hp} {p q : Addr} {o : HO} (hp : H p = none) (hq : H q ≠ none) : upd H p o q = H q := upd_ne (fun e => hq (by rw [e]; exact hp))
/-- all that was tracked is as it was, but what stands at a -/
def Sx (a : Addr) (H H' : Hp) : Prop := ∀ b o, b ≠ a → H b = some o → H' b = some o
theorem Sx.refl {a : Addr} {H : Hp} : Sx a H H := fun _ _ _ h => h
theorem Sx.trans {a : Addr} {H H1 H2 : Hp} (x : Sx a H H1) (y : Sx a H1 H2) : Sx a H H2 := fun b o n h => y b o n (x b o n h)
theorem Sx.of {a : Addr} {H H' : Hp} (x : Same H H') : Sx a H H' := fun b o _ h => x b o h
theorem Sx.new {a p : Addr} {H : Hp} {o : HO} (hp : H p = none) : Sx a H (upd H p o) := fun b u _ h => by rw [upd_old hp (by rw [h]; simp)]; exact h
theorem Sx.put {a : Addr} {H : Hp} {o : HO} : Sx a H (upd H a o) := fun b u n h => by rw [upd_ne n]; exact h
theorem Same.new {p : Addr} {H : Hp} {o : HO} (hp : H p = none) : Same H (upd H p o) := fun b u h => by rw [upd_old hp (by rw [h]; simp)]; exact h
theorem Sx.same {a : Addr} {H H' : Hp} (x : Sx a H H') (h : H a = none) : Same H H' := fun b o e => x b o (fun z => by rw [z, h] at e; cases e) e
theorem ne_some {H : Hp} {p q : Addr} {o : HO} (hq : H q = some o) (hp : H p = none) : q ≠ p := fun e => by rw [e, hp] at hq; cases hq
theorem ne_two {H : Hp} {p q : Addr} {o u : HO} (hq : H q = some o) (hp : H p = some u) (d : o ≠ u) : q ≠ p := fun e => by rw [e, hp] at hq; exact d (Option.some.inj hq).symm

/-! ### comprehensions -/
section
variable {J : It} {n : Nat} {G : Hp → Prop} {Y : Nat → Hp → V → Hp → Prop}
/-- a comprehension without a test: Ia by the turn, what is made so far, and the heap; it does not look at the new list -/
theorem lc_gen (w : Walk J n G Y) {g : TG} {te : TE} {vs : List Nat} {σ : L2.St} {H1 : Hp} {D : Addr} {Qd : Hp → Prop} (Ia : Nat → List V → Hp → Prop) (hn : n ≤ sizeLine)
    (h0 : Ia 0 [] (upd H1 D (.lst []))) (hG : ∀ i acc H, i ≤ n → Ia i acc H → H D = some (.lst acc) → G H) (hst : ∀ i acc H l, Ia i acc H → H D ≠ none → Ia i acc (upd H D (.lst l)))
    (hs : ∀ i acc x H H' (Qy : VK), i < n → acc.length = i → Ia i acc H → H D = some (.lst acc) → Y i H x H' → (∀ y H4, H4 D = some (.lst acc) → Ia (i + 1) (acc ++ [y]) H4 → Qy y H4) → g x (wipe σ vs) H' fun σ2 H2 => wipe σ2 vs = wipe σ vs ∧ te σ2 H2 Qy)
    (hd : ∀ acc H, acc.length = n → Ia n acc H → H D = some (.lst acc) → Qd H) :
    ∃ W : Nat → Nat → Hp → Prop, (∃ m, W 0 m (upd H1 D (.lst []))) ∧ ∀ i m H, W i m H →
      (J.stop i H ∧ Qd H) ∨ (J.go i H ∧ ∃ Nx : Hp → Prop, (∀ H', Nx H' → ∃ m', m' < m ∧ W (i + 1) m' H') ∧ ∀ x H', J.yld i H x H' → g x (wipe σ vs) H' fun σ2 H2 => wipe σ2 vs = wipe σ vs ∧ tYes σ2 H2 fun b H3 =>
        if b = true then te σ2 H3 fun y H4 => ∃ acc, H4 D = some (.lst acc) ∧ acc.length < sizeLine ∧ Nx (upd H4 D (.lst (acc ++ [y]))) else Nx H3) := by
  refine lc_it w (fun i H => ∃ acc : List V, acc.length = i ∧ Ia i acc H ∧ H D = some (.lst acc)) ⟨[], rfl, h0, upd_same⟩ (fun i H hi ⟨acc, _, h, e⟩ => hG i acc H hi h e) (fun i x H H' hi ⟨acc, hl, h, e⟩ hy => ?_) (fun H ⟨acc, hl, h, e⟩ => hd acc H hl h e)
  refine hs i acc x H H' _ hi hl h e hy fun y H4 q1 q2 => ⟨acc, q1, by omega, acc ++ [y], by rw [List.length_append]; simp [hl], ?_, upd_same⟩
  exact hst _ _ _ _ q2 (by rw [q1]; simp)
/-- a comprehension that maps, and leaves all that was tracked as it was -/
theorem lc_map (w : Walk J n G Y) {g : TG} {te : TE} {vs : List Nat} {σ : L2.St} {H1 : Hp} {D : Addr} {Qd : Hp → Prop} (res : List V) (hl : res.length = n) (hn : n ≤ sizeLine) (hD : H1 D = none)
    (hG : ∀ H, Same H1 H → G H)
    (hs : ∀ i x H H' y (Qy : VK), i < n → Same H1 H → H D ≠ none → Y i H x H' → res[i]? = some y → (∀ H4, Same H' H4 → Qy y H4) → g x (wipe σ vs) H' fun σ2 H2 => wipe σ2 vs = wipe σ vs ∧ te σ2 H2 Qy)
    (hY : ∀ i x H H', Y i H x H' → Same H H')
    (hd : ∀ H, Same H1 H → H D = some (.lst res) → Qd H) :
    ∃ W : Nat → Nat → Hp → Prop, (∃ m, W 0 m (upd H1 D (.lst []))) ∧ ∀ i m H, W i m H →
      (J.stop i H ∧ Qd H) ∨ (J.go i H ∧ ∃ Nx : Hp → Prop, (∀ H', Nx H' → ∃ m', m' < m ∧ W (i + 1) m' H') ∧ ∀ x H', J.yld i H x H' → g x (wipe σ vs) H' fun σ2 H2 => wipe σ2 vs = wipe σ vs ∧ tYes σ2 H2 fun b H3 =>
        if b = true then te σ2 H3 fun y H4 => ∃ acc, H4 D = some (.lst acc) ∧ acc.length < sizeLine ∧ Nx (upd H4 D (.lst (acc ++ [y]))) else Nx H3) := by
  refine lc_gen w (fun i acc H => Same H1 H ∧ acc = res.take i) hn ⟨Same.new hD, by simp⟩ (fun i acc H _ h _ => hG H h.1) (fun i acc H l h _ => ⟨fun b o e => ?_, h.2⟩) (fun i acc x H H' Qy hi ha h e hy hq => ?_) (fun acc H ha h e => ?_)
  · rw [upd_ne (ne_some e hD)]
    exact h.1 b o e
  · have hi2 : i < res.length := by omega
    have hr : res[i]? = some res[i] := List.getElem?_eq_getElem hi2
    refine hs i x H H' res[i] Qy hi h.1 (by rw [e]; simp) hy hr fun H4 s4 => hq _ _ (s4 _ _ (hY _ _ _ _ hy _ _ e)) ⟨h.1.trans ((hY _ _ _ _ hy).trans s4), ?_⟩
    rw [h.2, List.take_add_one, hr]
    rfl
  · rw [h.2, ← hl, List.take_length] at e
    exact hd H h.1 e
end
theorem YAt.same {xs : List V} {i : Nat} {x : V} {H H' : Hp} (h : YAt xs i H x H') : Same H H' := by rw [h.1]; exact Same.refl _
theorem YPair.same {f g : Nat → Option V} {i : Nat} {x : V} {H H' : Hp} (h : YPair f g i H x H') : Same H H' := by
  obtain ⟨T, x, y, _, hT, rfl, _⟩ := h
  exact Same.new hT
theorem YTrip.same {f g k : Nat → Option V} {i : Nat} {x : V} {H H' : Hp} (h : YTrip f g k i H x H') : Same H H' := by
  obtain ⟨T, x, y, z, _, hT, rfl, _⟩ := h
  exact Same.new hT

/-! ### isinstance -/
/-- isinstance(x, c) is b -/
def IsI (K : PySem.W.Frag) (H : Hp) (x c : V) (b : Bool) : Prop := ∃ t u : Value, ClsV c u ∧ TyX K H x t ∧ PySem.W.kitOne K t u = some b
def rIsI (K : PySem.W.Frag) : List V → Hp → VK → Prop := fun vs H Q => ∃ x c b, vs = [x, c] ∧ IsI K H x c b ∧ Q (.bl b) H
theorem call_isI {X : Cx} : CallR X (.builtin "isinstance") (rIsI X.K) := by
  intro pins s σ H xs us Q I r h
  obtain ⟨x, c, b, rfl, ⟨t, u, h1, h2, h3⟩, q⟩ := h
  exact call_isi pins s σ H _ us Q I r ⟨x, c, t, u, b, rfl, h1, h2, h3, q⟩
/-- a value that is no object: its type's name -/
def tyN : V → Option String
  | .non => some "NoneType"
  | .bl _ => some "bool"
  | .int _ => some "int"
  | .str _ => some "str"
  | _ => none
theorem tyN_of {K : PySem.W.Frag} {H : Hp} {x : V} {t : Value} {n : String} (h : TyX K H x t) (e : tyN x = some n) : t = .type n := by
  cases h with
  | base b => cases b <;> simp [tyN] at e <;> subst e <;> rfl
  | byt b => simp [tyN] at e
  | set e' => simp [tyN] at e
  | kList e' _ => simp [tyN] at e
  | kTuple e' _ => simp [tyN] at e
  | kDict e' _ => simp [tyN] at e
  | fTuple e' => simp [tyN] at e
  | fDict e' => simp [tyN] at e
theorem isI_ty {K : PySem.W.Frag} {H : Hp} {x : V} {n : String} {c : String} {b : Bool} (ty : TyX K H x (.type n)) (h : kitB n c = some b) : IsI K H x (.ty c) b := ⟨_, _, .ty c, ty, kit_ty h⟩
theorem isI_iff {K : PySem.W.Frag} {H : Hp} {x : V} {n c : String} {b : Bool} {p : Bool → Prop} (e : tyN x = some n) (ty : TyX K H x (.type n)) (h : kitB n c = some b) : (∃ k, IsI K H x (.ty c) k ∧ p k) ↔ p b := by
  constructor
  · rintro ⟨k, ⟨t, u, hc, ht, hk⟩, q⟩
    have e1 := tyN_of ht e
    subst e1
    cases hc
    have e2 := hk.symm.trans (kit_ty (K := K) h)
    cases e2
    exact q
  · intro q
    exact ⟨b, isI_ty ty h, q⟩
section
variable {K : PySem.W.Frag} {H : Hp} {p : Bool → Prop}
theorem isI_int_int (n : Int) : (∃ k, IsI K H (.int n) (.ty "int") k ∧ p k) ↔ p true := isI_iff rfl (.base (.int n)) (by decide +kernel)
theorem isI_int_bool (n : Int) : (∃ k, IsI K H (.int n) (.ty "bool") k ∧ p k) ↔ p false := isI_iff rfl (.base (.int n)) (by decide +kernel)
theorem isI_bl_int (n : Bool) : (∃ k, IsI K H (.bl n) (.ty "int") k ∧ p k) ↔ p true := isI_iff rfl (.base (.bl n)) (by decide +kernel)
theorem isI_bl_bool (n : Bool) : (∃ k, IsI K H (.bl n) (.ty "bool") k ∧ p k) ↔ p true := isI_iff rfl (.base (.bl n)) (by decide +kernel)
theorem isI_str_str (n : Str) : (∃ k, IsI K H (.str n) (.ty "str") k ∧ p k) ↔ p true := isI_iff rfl (.base (.str n)) (by decide +kernel)
end
theorem isI_tup {K : PySem.W.Frag} {H : Hp} {a : Addr} {xs : List V} (h : H a = some (.tup xs)) : IsI K H (.ref a) (.ty "tuple") true := isI_ty (.base (.tup h)) (by decide +kernel)
theorem isI_lst {K : PySem.W.Frag} {H : Hp} {a : Addr} {xs : List V} (h : H a = some (.lst xs)) : IsI K H (.ref a) (.ty "list") true := isI_ty (.base (.lst h)) (by decide +kernel)
theorem isI_tup_list {K : PySem.W.Frag} {H : Hp} {a : Addr} {xs : List V} (h : H a = some (.tup xs)) : IsI K H (.ref a) (.ty "list") false := isI_ty (.base (.tup h)) (by decide +kernel)
theorem isI_lst_tup {K : PySem.W.Frag} {H : Hp} {a : Addr} {xs : List V} (h : H a = some (.lst xs)) : IsI K H (.ref a) (.ty "tuple") false := isI_ty (.base (.lst h)) (by decide +kernel)
/-- isinstance(x, (c1, c2)) is b -/
def IsA (K : PySem.W.Frag) (H : Hp) (x : V) (cs : List V) (b : Bool) : Prop := ∃ (t : Value) (us : List Value), Paired ClsV cs us ∧ TyX K H x t ∧ PySem.W.kitAny K t us = some b
def rIsA (K : PySem.W.Frag) : List V → Hp → VK → Prop := fun vs H Q => ∃ (x : V) (tp : Addr) (cs : List V) (b : Bool), vs = [x, .ref tp] ∧ H tp = some (.tup cs) ∧ IsA K H x cs b ∧ Q (.bl b) H
theorem call_isA {X : Cx} : CallR X (.builtin "isinstance") (rIsA X.K) := by
  intro pins s σ H xs us Q I r h
  obtain ⟨x, tp, cs, b, rfl, hT, ⟨t, ws, h1, h2, h3⟩, q⟩ := h
  exact call_isiT pins s σ H _ us Q I r ⟨x, tp, cs, t, ws, b, rfl, hT, h1, h2, h3, q⟩
theorem isA_two {K : PySem.W.Frag} {H : Hp} {x : V} {n c1 c2 : String} {b1 b2 b : Bool} (ty : TyX K H x (.type n)) (h1 : kitB n c1 = some b1) (h2 : kitB n c2 = some b2) (e : b = (b1 || b2)) : IsA K H x [.ty c1, .ty c2] b := by
  subst e
  refine ⟨_, [_, _], .cons (.ty c1) (.cons (.ty c2) .nil), ty, kitAny_cons (kit_ty h1) (fun e => ?_) fun e => by rw [e]; rfl⟩
  subst e
  exact kitAny_cons (kit_ty h2) (fun e => by subst e; exact kitAny_nil) fun e => by rw [e]; rfl

/-! ### data -/
theorem dpAll_ints {K : PySem.W.Frag} {H : Hp} : ∀ ns : List Int, DpAll K H (ns.map V.int) (ns.map PyData.int)
  | [] => .nil
  | n :: ns => .cons (.int n) (dpAll_ints ns)
theorem canLay_ints : ∀ ns : List Int, PyData.canLayAll0 (ns.map PyData.int) = true
  | [] => rfl
  | n :: ns => by
    show (PyData.canLay0 (.int n) && PyData.canLayAll0 (ns.map PyData.int)) = true
    rw [canLay_ints ns]
    rfl
theorem depth_ints : ∀ ns : List Int, PyData.depthAll (ns.map PyData.int) = 0
  | [] => rfl
  | n :: ns => by
    show max (PyData.depth (.int n)) (PyData.depthAll (ns.map PyData.int)) = 0
    rw [depth_ints ns]
    rfl
theorem eqvAll_ints : ∀ ns ms : List Int, PyData.eqvAll (ns.map PyData.int) (ms.map PyData.int) = decide (ns = ms)
  | [], [] => rfl
  | [], _ :: _ => rfl
  | _ :: _, [] => rfl
  | n :: ns, m :: ms => by
    show (PyData.eqv (.int n) (.int m) && PyData.eqvAll (ns.map PyData.int) (ms.map PyData.int)) = _
    rw [eqvAll_ints ns ms]
    show ((n == m) && decide (ns = ms)) = decide (n :: ns = m :: ms)
    by_cases h : n = m <;> by_cases h2 : ns = ms <;> simp [h, h2]
def tupI (ns : List Int) : PyData := .tuple (ns.map PyData.int)
theorem dp_tupI {K : PySem.W.Frag} {H : Hp} {a : Addr} {ns : List Int} (h : SqT K H a (ns.map V.int)) : Dp K H (.ref a) (tupI ns) := .tup h (dpAll_ints ns)
theorem eqv_tupI (ns ms : List Int) : PyData.eqv (tupI ns) (tupI ms) = decide (ns = ms) := eqvAll_ints ns ms
theorem shaped_tupI (ns : List Int) : SeqAt.shaped (tupI ns) = true := by
  have h1 : PyData.canLay0 (tupI ns) = true := canLay_ints ns
  have h2 : PyData.depth (tupI ns) ≤ 64 := by
    show PyData.depthAll (ns.map PyData.int) + 1 ≤ 64
    rw [depth_ints ns]
    decide
  unfold SeqAt.shaped
  rw [h1, decide_eq_true h2]
  rfl


/-! ### rules over what is tracked alone -/
section
variable {X : Cx}
theorem ix_lH : IxR X (fun x y H Q => ∃ p i, x = .ref p ∧ y = .int i ∧ ∃ xs, H p = some (.lst xs) ∧ ∃ v, atI xs i = some v ∧ Q v H) := by
  intro value slice pins s σ H x y v u Q I rx ry h hs
  obtain ⟨p, i, rfl, rfl, xs, hp, z, hz, q⟩ := h
  exact ix_list value slice pins s σ H _ _ v u Q I rx ry ⟨p, xs, i, z, rfl, rfl, .inl (.inl hp), hz, q⟩ hs
theorem ix_tH : IxR X (fun x y H Q => ∃ p i, x = .ref p ∧ y = .int i ∧ ∃ xs, H p = some (.tup xs) ∧ ∃ v, atI xs i = some v ∧ Q v H) := by
  intro value slice pins s σ H x y v u Q I rx ry h hs
  obtain ⟨p, i, rfl, rfl, xs, hp, z, hz, q⟩ := h
  exact ix_tup value slice pins s σ H _ _ v u Q I rx ry ⟨p, xs, i, z, rfl, rfl, .inl (.inl hp), hz, q⟩ hs
theorem set_lH : PSet X (fun o i v H Q => ∃ p k, o = .ref p ∧ i = .int k ∧ ∃ xs, H p = some (.lst xs) ∧ ∃ j, ixN xs.length k = some j ∧ Q (upd H p (.lst (xs.set j v)))) := by
  intro pins s σ H o i v ov iv u Q I ro ri rv h
  obtain ⟨p, k, e1, e2, xs, hp, j, hj, q⟩ := h
  exact set_list pins s σ H o i v ov iv u Q I ro ri rv ⟨p, xs, k, j, e1, e2, hp, hj, q⟩
theorem len_H : CallR X (.builtin "len") (fun vs H Q => ∃ p, vs = [.ref p] ∧ ((∃ ys, H p = some (.lst ys) ∧ Q (.int ys.length) H) ∨ ∃ ys, H p = some (.tup ys) ∧ Q (.int ys.length) H)) := by
  intro pins s σ H vs us Q I r h
  obtain ⟨p, e, h⟩ := h
  refine call_len_seq pins s σ H vs us Q I r ?_
  rcases h with ⟨ys, hp, q⟩ | ⟨ys, hp, q⟩
  · exact ⟨p, ys, e, .inl (.inl (.inl hp)), q⟩
  · exact ⟨p, ys, e, .inr (.inl (.inl hp)), q⟩
theorem tuple_H : CallR X (.type "tuple") (fun vs H Q => ∃ p, vs = [.ref p] ∧ ((∃ ys, H p = some (.lst ys) ∧ ∀ l, H l = none → Q (.ref l) (upd H l (.tup ys))) ∨ ∃ ys, H p = some (.tup ys) ∧ Q (.ref p) H)) := by
  intro pins s σ H vs us Q I r h
  obtain ⟨p, e, h⟩ := h
  refine call_tuple_of pins s σ H vs us Q I r ?_
  rcases h with ⟨ys, hp, q⟩ | ⟨ys, hp, q⟩
  · exact ⟨p, ys, e, .inl ⟨.inl (.inl hp), q⟩⟩
  · exact ⟨p, ys, e, .inr ⟨.inl (.inl hp), q⟩⟩
theorem list_H : CallR X (.type "list") (fun vs H Q => ∃ p, vs = [.ref p] ∧ ((∃ ys, H p = some (.lst ys) ∧ ∀ l, H l = none → Q (.ref l) (upd H l (.lst ys))) ∨ ∃ ys, H p = some (.tup ys) ∧ ∀ l, H l = none → Q (.ref l) (upd H l (.lst ys)))) := by
  intro pins s σ H vs us Q I r h
  obtain ⟨p, e, h⟩ := h
  refine call_list_of pins s σ H vs us Q I r ?_
  rcases h with ⟨ys, hp, q⟩ | ⟨ys, hp, q⟩
  · exact ⟨p, ys, e, .inl (.inl (.inl hp)), q⟩
  · exact ⟨p, ys, e, .inr (.inl (.inl hp)), q⟩
theorem all_H (hc : X.calm = true) : CallR X (.builtin "all") (fun vs H Q => ∃ p, vs = [.ref p] ∧ ∃ bs : List Bool, H p = some (.lst (bs.map V.bl)) ∧ Q (.bl (bs.all id)) H) := by
  intro pins s σ H vs us Q I r h
  obtain ⟨p, e, bs, hp, q⟩ := h
  exact cr_all hc pins s σ H vs us Q I r ⟨p, bs, e, .inl (.inl hp), q⟩
/-- a, b = t, t tracked -/
def gTupH (n : Nat) (t : TGs) : TG := fun v σ H Q => ∃ a, v = .ref a ∧ ∃ xs, H a = some (.tup xs) ∧ xs.length = n ∧ t xs σ H Q
theorem pg_tupH {es : List Expr} {k : Nat} {t : TGs} {n : Nat} {pos : Pos} (hc : X.calm = true) (h : PGs X es t)
    (hn : (assignEach es X.env).length = n := by rfl) (hst : (assignEach es X.env).findIdx? (·.1) = none := by rfl) : PG X (.Tuple es k pos) (gTupH n t) := by
  refine ⟨fun pins s σ H v u Q I r hw => ?_⟩
  obtain ⟨a, e1, xs, hq, hl, hw⟩ := hw
  exact (pg_tup hc h hn hst).run pins s σ H v u Q I r ⟨a, xs, e1, .inl (.inl hq), hl, hw⟩
/-- l.append(e) -/
def tAppend (to : TE) (t : TA) : TE := fun σ H Q => to σ H fun x H1 => ∃ p, x = .ref p ∧ ∃ xs, H1 p = some (.lst xs) ∧ t σ H1 fun vs H2 => ∃ y, vs = [y] ∧ ∃ ys, H2 p = some (.lst ys) ∧ ys.length < sizeLine ∧ Q .non (upd H2 p (.lst (ys ++ [y])))
theorem pe_append {o e : Expr} {to : TE} {t : TA} {apos cpos : Pos} (ho : PE X o to) (ha : PA X [e] t)
    (hbase : attributeBase o "append" X.env (eval o X.env) = eval o X.env := by rfl)
    (hfew : ((backTo cpos (starEach [e] X.env)).all (fun x => !x.1) && (backToKw cpos (keywordEach [] X.env)).all (fun x => x.1.isSome)
      && decide (([e] : List Expr).length + ([] : List Keyword).length + (if ([] : List Keyword).isEmpty then 0 else 1) < 30)) = true := by rfl)
    (hline : (apos.endLine == cpos.line) = true := by rfl) (hs : starEach [e] X.env = (false, eval e X.env) :: starEach [] X.env := by rfl) :
    PE X (.Call (.Attribute o "append" apos) [e] [] cpos) (tAppend to t) := by
  refine ⟨fun pins s σ H Q I h => ?_⟩
  refine wpAny_Call_method_late hbase hfew hline rfl (thn (ho.run pins s σ H _ I h) fun v s1 ⟨x, H1, I1, r1, p, ex, xs, hp, q1⟩ => ?_)
  subst ex
  have ty : tyV X.K "list" (.ref p) H1 := .inl ⟨rfl, xs, .inl (.inl hp)⟩
  obtain ⟨h1, h2⟩ := tyV_is I1 r1 ty
  refine ⟨"list", _, PySem.F.plainAttrs_list, PySem.F.slot_list_append, PySem.F.type_list_append, h1, h2, ?_⟩
  have hA := ha.run cpos pins s1 σ H1 _ I1 q1
  rw [hs] at hA ⊢
  refine Calls.callWith_builtin (by rfl) (Calls.evalArgs_plain ?_)
  refine thn hA fun us s2 ⟨vs, H2, I2, r2, y, e2, ys, hp2, hz, q2⟩ => ?_
  exact mt_append pins s2 σ H2 (.ref p) vs v us Q I2 r1 r2 ⟨p, ys, y, rfl, e2, hp2, hz, q2⟩
end
/-! ### loops and comprehensions, closed off -/
def LcR (J : It) (g : TG) (tt : TT) (te : TE) (vs : List Nat) (σ : L2.St) (H1 : Hp) (Q : VK) : Prop := ∀ D, H1 D = none → ∃ W : Nat → Nat → Hp → Prop, (∃ m, W 0 m (upd H1 D (.lst []))) ∧ ∀ i m H, W i m H →
  (J.stop i H ∧ Q (.ref D) H) ∨ (J.go i H ∧ ∃ Nx : Hp → Prop, (∀ H', Nx H' → ∃ m', m' < m ∧ W (i + 1) m' H') ∧ ∀ x H', J.yld i H x H' → g x (wipe σ vs) H' fun σ2 H2 => wipe σ2 vs = wipe σ vs ∧ tt σ2 H2 fun b H3 =>
    if b = true then te σ2 H3 fun y H4 => ∃ acc, H4 D = some (.lst acc) ∧ acc.length < sizeLine ∧ Nx (upd H4 D (.lst (acc ++ [y]))) else Nx H3)
theorem tLc_eq {wi : TI} {g : TG} {tt : TT} {te : TE} {vs : List Nat} {σ : L2.St} {H : Hp} {Q : VK} : tLc wi g tt te vs σ H Q = wi σ H fun J H1 => LcR J g tt te vs σ H1 Q := rfl
def ForR (J : It) (g : TG) (tb : TS) (D : Ends) (σ : L2.St) (H1 : Hp) : Prop := ∃ W : Nat → Nat → L2.St → Hp → Prop, (∃ m, W 0 m σ H1) ∧ ∀ i m σ H, W i m σ H →
  (J.stop i H ∧ D.nx σ H) ∨ (J.go i H ∧ ∃ N : L2.St → Hp → Prop, (∀ σ' H', N σ' H' → ∃ m', m' < m ∧ W (i + 1) m' σ' H') ∧ ∀ x H', J.yld i H x H' → g x σ H' fun σ2 H2 => tb { D with nx := N, ct := N, bk := D.nx } σ2 H2)
theorem tFor_eq {wi : TI} {g : TG} {tb : TS} {D : Ends} {σ : L2.St} {H : Hp} : tFor wi g tb D σ H = wi σ H fun J H1 => ForR J g tb D σ H1 := rfl
/-- what is walked, told by Walk alone -/
def iSeqH (tl : TE) : TI := fun σ H R => tl σ H fun x H1 => ∃ a, x = .ref a ∧ ((∃ xs, H1 a = some (.lst xs) ∧ ∀ J : It, Walk J xs.length (fun H => H a = some (.lst xs)) (YAt xs) → R J H1) ∨ ∃ xs, H1 a = some (.tup xs) ∧ ∀ J : It, Walk J xs.length (fun H => H a = some (.tup xs)) (YAt xs) → R J H1)
def iSeqS (K : PySem.W.Frag) (tl : TE) : TI := fun σ H R => tl σ H fun x H1 => ∃ (k : Bool) (a : Addr) (xs : List V), x = .ref a ∧ Sqk K k H1 a xs ∧ ∀ J : It, Walk J xs.length (fun H => Sqk K k H a xs) (YAt xs) → R J H1
theorem PI.mono {X : Cx} {tg it : Expr} {w w' : TI} (h : PI X tg it w) (m : ∀ σ H R, w' σ H R → w σ H R) : PI X tg it w' := ⟨fun pins s σ H R I q => h.run pins s σ H R I (m σ H R q)⟩
section
variable {X : Cx} {tg l : Expr} {tl : TE}
theorem pi_seqH (hl : PE X l tl) : PI X tg l (iSeqH tl) := by
  have h2 : PE X l fun σ H Q => tl σ H fun x H1 => Q x H1 := hl
  refine ⟨fun pins s σ H R I h => ?_⟩
  refine thn (hl.run pins s σ H _ I h) fun v s1 ⟨x, H1, I1, r1, q1⟩ => ?_
  obtain ⟨a, e, q⟩ := q1
  subst e
  have key : ∀ (k : Bool) (xs : List V), Sqk X.K k H1 a xs → R (match k with | true => Itl X.K a | false => Itt X.K a) H1 → wpAny (model X.prog X.w) X.A (pyIter v) (PIE X pins σ tg R) X.xe s1 := fun k xs hs hR => by
    cases r1
    cases k with
    | true =>
      obtain ⟨its, rv, p, hz⟩ := I1.list hs
      refine wpAny_pyIter_list p.isList ?_
      refine ⟨s1.heap.objs.size, [s1.heap.objs.size], _, _, H1, rfl, I1.kept (t' := s1.toks) fun b o e => Heap.get?_push_of_some _ e, turn_list a _, ⟨_, Heap.get?_push_size _ rfl, rfl, rfl⟩, fun b hb => ?_, hR⟩
      have e : b = s1.heap.objs.size := by simpa using hb
      subst e
      exact I1.fpOk (Nat.le_refl _) (I1.hok.fresh (Nat.le_refl _))
    | false =>
      obtain ⟨its, rv, p, hz⟩ := I1.tuple hs
      refine wpAny_pyIter_tuple (show s1.heap.IsTuple a its.toArray from p) ?_
      refine ⟨s1.heap.objs.size, [s1.heap.objs.size], _, _, H1, rfl, I1.kept (t' := s1.toks) fun b o e => Heap.get?_push_of_some _ e, turn_tuple a _, ⟨_, Heap.get?_push_size _ rfl, rfl, rfl⟩, fun b hb => ?_, hR⟩
      have e : b = s1.heap.objs.size := by simpa using hb
      subst e
      exact I1.fpOk (Nat.le_refl _) (I1.hok.fresh (Nat.le_refl _))
  rcases q with ⟨xs, hp, q⟩ | ⟨xs, hp, q⟩
  · exact key true xs (.inl (.inl hp)) (q _ (walk_list.mono (fun H h => .inl (.inl h)) fun _ _ _ _ _ _ y => y))
  · exact key false xs (.inl (.inl hp)) (q _ (walk_tup.mono (fun H h => .inl (.inl h)) fun _ _ _ _ _ _ y => y))
theorem pi_seqS (hl : PE X l tl) : PI X tg l (iSeqS X.K tl) := by
  refine ⟨fun pins s σ H R I h => ?_⟩
  refine thn (hl.run pins s σ H _ I h) fun v s1 ⟨x, H1, I1, r1, q1⟩ => ?_
  obtain ⟨k, a, xs, e, hs, q⟩ := q1
  subst e
  have hR := q _ walk_seq
  cases r1
  cases k with
  | true =>
    obtain ⟨its, rv, p, hz⟩ := I1.list hs
    refine wpAny_pyIter_list p.isList ?_
    refine ⟨s1.heap.objs.size, [s1.heap.objs.size], _, _, H1, rfl, I1.kept (t' := s1.toks) fun b o e => Heap.get?_push_of_some _ e, turn_list a _, ⟨_, Heap.get?_push_size _ rfl, rfl, rfl⟩, fun b hb => ?_, hR⟩
    have e : b = s1.heap.objs.size := by simpa using hb
    subst e
    exact I1.fpOk (Nat.le_refl _) (I1.hok.fresh (Nat.le_refl _))
  | false =>
    obtain ⟨its, rv, p, hz⟩ := I1.tuple hs
    refine wpAny_pyIter_tuple (show s1.heap.IsTuple a its.toArray from p) ?_
    refine ⟨s1.heap.objs.size, [s1.heap.objs.size], _, _, H1, rfl, I1.kept (t' := s1.toks) fun b o e => Heap.get?_push_of_some _ e, turn_tuple a _, ⟨_, Heap.get?_push_size _ rfl, rfl, rfl⟩, fun b hb => ?_, hR⟩
    have e : b = s1.heap.objs.size := by simpa using hb
    subst e
    exact I1.fpOk (Nat.le_refl _) (I1.hok.fresh (Nat.le_refl _))
end
/-- a list or a tuple, tracked -/
def Sqh (k : Bool) (H : Hp) (a : Addr) (xs : List V) : Prop := match k with
  | true => H a = some (.lst xs)
  | false => H a = some (.tup xs)
theorem Sqh.sqk {K : PySem.W.Frag} {k : Bool} {H : Hp} {a : Addr} {xs : List V} (h : Sqh k H a xs) : Sqk K k H a xs := by
  cases k with
  | true => exact .inl (.inl h)
  | false => exact .inl (.inl h)
theorem Sqh.same {k : Bool} {H H' : Hp} {a : Addr} {xs : List V} (e : Same H H') (h : Sqh k H a xs) : Sqh k H' a xs := by
  cases k with
  | true => exact e _ _ h
  | false => exact e _ _ h
def iZ2H (ta : TA) : TI := fun σ H R => ta σ H fun vs H1 => ∃ a b, vs = [.ref a, .ref b] ∧ ∃ (k1 k2 : Bool) (xs ys : List V), Sqh k1 H1 a xs ∧ Sqh k2 H1 b ys ∧ xs.length = ys.length ∧ ∀ J : It, Walk J xs.length (fun H => Sqh k1 H a xs ∧ Sqh k2 H b ys) (YPair (fun i => xs[i]?) (fun i => ys[i]?)) → R J H1
def iZ3H (ta : TA) : TI := fun σ H R => ta σ H fun vs H1 => ∃ a b c, vs = [.ref a, .ref b, .ref c] ∧ ∃ (k1 k2 k3 : Bool) (xs ys zs : List V), Sqh k1 H1 a xs ∧ Sqh k2 H1 b ys ∧ Sqh k3 H1 c zs ∧ xs.length = ys.length ∧ ys.length = zs.length ∧
  ∀ J : It, Walk J xs.length (fun H => Sqh k1 H a xs ∧ Sqh k2 H b ys ∧ Sqh k3 H c zs) (YTrip (fun i => xs[i]?) (fun i => ys[i]?) (fun i => zs[i]?)) → R J H1
theorem PA.weak {X : Cx} {es : List Expr} {t : TA} (h : PA X es t) {pos : Pos} {pins : List (Addr × Obj)} {s : Shared} {σ : L2.St} {H : Hp} {Q : List V → Hp → Prop} (I : Inv X pins σ H s) (q : t σ H Q) : wpAny (model X.prog X.w) X.A (spliced (backTo pos (starEach es X.env))) (AP X pins σ Q) X.xe s := h.run pos pins s σ H Q I q
/-- an argument list whose reading is asked for less -/
theorem PA.of {X : Cx} {es : List Expr} {t : TA} (h : PA X es t) (f : List V → Hp → (List V → Hp → Prop) → Prop) : PA X es fun σ H Q => t σ H fun vs H1 => Q vs H1 := h
section
variable {X : Cx} {e e2 e3 : Expr} {ta : TA} {p pos tpos : Pos} {elts : List Expr} {kk : Nat}
theorem pi_z2H (hg : Gl X "zip") (hm : X.mg "zip" = none) (ha : PA X [e, e2] ta)
    (hs : starEach [e, e2] X.env = (false, eval e X.env) :: starEach [e2] X.env := by rfl) (hpl : (backTo pos (starEach [e2] X.env)).any (·.1) = false := by rfl) :
    PI X (.Tuple elts kk tpos) (.Call (.Name "zip" p) [e, e2] [] pos) (iZ2H ta) := by
  refine ⟨fun pins s σ H R I h => ?_⟩
  let ta' : TA := fun σ H Q => ta σ H fun vs H1 => (∃ a b, vs = [.ref a, .ref b] ∧ ∃ (k1 k2 : Bool) (xs ys : List V), Sqh k1 H1 a xs ∧ Sqh k2 H1 b ys ∧ xs.length = ys.length ∧ ∀ J : It, Walk J xs.length (fun H => Sqh k1 H a xs ∧ Sqh k2 H b ys) (YPair (fun i => xs[i]?) (fun i => ys[i]?)) → R J H1) ∧ Q vs H1
  have ha' : PA X [e, e2] ta' := ⟨fun pos pins s σ H Q I q => thn (ha.run pos pins s σ H _ I q) fun us s1 ⟨vs, H1, I1, r1, _, q1⟩ => ⟨vs, H1, I1, r1, q1⟩⟩
  refine Call_ (ld_blt I hg hm PyProof.Rows.boot_zip (PyProof.Rows.callWith_type1 (thn (ha.run pos pins s σ H _ I h) fun us s1 ⟨vs, H1, I1, r1, q1⟩ => ?_) hs hpl))
  obtain ⟨a, b, ex, k1, k2, xs, ys, hqx, hqy, hl, q⟩ := q1
  subst ex
  have q := q (Iz2 X.K k1 k2 a b) ((walk_z2 (K := X.K) (k1 := k1) (k2 := k2) (a := a) (b := b) hl).mono (fun H h => ⟨h.1.sqk, h.2.sqk⟩) fun _ _ _ _ _ _ y => y)
  have hqx : Sqk X.K k1 H1 a xs := hqx.sqk
  have hqy : Sqk X.K k2 H1 b ys := hqy.sqk
  cases r1 with
  | cons r rr =>
    cases rr with
    | cons r' rr =>
      cases rr
      cases r
      cases r'
      obtain ⟨its, rv, p1⟩ := invK I1 hqx
      obtain ⟨its2, rv2, p2⟩ := invK I1 hqy
      have la : a < s1.heap.objs.size := p1.lt
      have lb : b < s1.heap.objs.size := p2.lt
      refine zip_begins2 (begK k1 a its.toArray) (begK k2 b its2.toArray) p1 p2 fun h' hz hTI hTO h1 h2 hsz hk => wpAny_pyIter_zip hz ?_
      have I2 : Inv X pins σ H1 { s1 with heap := h' } := I1.kept (t' := s1.toks) hk
      refine ⟨s1.heap.objs.size + 4, [s1.heap.objs.size + 4, s1.heap.objs.size + 2, s1.heap.objs.size + 3, s1.heap.objs.size, s1.heap.objs.size + 1], _, _, H1, rfl, I2, turn_z2 (zip_sep2 (fun b hb => by simp at hb; rw [hb]; exact la) (fun b hb => by simp at hb; rw [hb]; exact lb)) (Nat.ne_of_lt la) (Nat.ne_of_lt (Nat.lt_succ_of_lt lb)), ⟨hz, hTI, ⟨_, _, hTO⟩, ItK.new h1, ItK.new h2⟩, fun c hcm => ?_, q⟩
      have e' : c = s1.heap.objs.size + 4 ∨ c = s1.heap.objs.size + 2 ∨ c = s1.heap.objs.size + 3 ∨ c = s1.heap.objs.size ∨ c = s1.heap.objs.size + 1 := by simpa using hcm
      have hle : s1.heap.objs.size ≤ c := by
        rcases e' with z | z | z | z | z
        · rw [z]; exact Nat.le_add_right _ _
        · rw [z]; exact Nat.le_add_right _ _
        · rw [z]; exact Nat.le_add_right _ _
        · rw [z]; exact Nat.le_refl _
        · rw [z]; exact Nat.le_add_right _ _
      exact I1.fpOk hle (I1.hok.fresh hle)
theorem pi_z3H (hg : Gl X "zip") (hm : X.mg "zip" = none) (ha : PA X [e, e2, e3] ta)
    (hs : starEach [e, e2, e3] X.env = (false, eval e X.env) :: starEach [e2, e3] X.env := by rfl) (hpl : (backTo pos (starEach [e2, e3] X.env)).any (·.1) = false := by rfl) :
    PI X (.Tuple elts kk tpos) (.Call (.Name "zip" p) [e, e2, e3] [] pos) (iZ3H ta) := by
  refine ⟨fun pins s σ H R I h => ?_⟩
  refine Call_ (ld_blt I hg hm PyProof.Rows.boot_zip (PyProof.Rows.callWith_type1 (thn (ha.run pos pins s σ H _ I h) fun us s1 ⟨vs, H1, I1, r1, q1⟩ => ?_) hs hpl))
  obtain ⟨a, b, c, ex, k1, k2, k3, xs, ys, zs, hqx, hqy, hqz, hl, hl2, q⟩ := q1
  subst ex
  have q := q (Iz3 X.K k1 k2 k3 a b c) ((walk_z3 (K := X.K) (k1 := k1) (k2 := k2) (k3 := k3) (a := a) (b := b) (c := c) hl hl2).mono (fun H h => ⟨h.1.sqk, h.2.1.sqk, h.2.2.sqk⟩) fun _ _ _ _ _ _ y => y)
  have hqx : Sqk X.K k1 H1 a xs := hqx.sqk
  have hqy : Sqk X.K k2 H1 b ys := hqy.sqk
  have hqz : Sqk X.K k3 H1 c zs := hqz.sqk
  cases r1 with
  | cons r rr =>
    cases rr with
    | cons r' rr =>
      cases rr with
      | cons r'' rr =>
        cases rr
        cases r
        cases r'
        cases r''
        obtain ⟨its, rv, p1⟩ := invK I1 hqx
        obtain ⟨its2, rv2, p2⟩ := invK I1 hqy
        obtain ⟨its3, rv3, p3⟩ := invK I1 hqz
        have la : a < s1.heap.objs.size := p1.lt
        have lb : b < s1.heap.objs.size := p2.lt
        have lc : c < s1.heap.objs.size := p3.lt
        refine zip_begins3 (begK k1 a its.toArray) (begK k2 b its2.toArray) (begK k3 c its3.toArray) p1 p2 p3 fun h' hz hTI hTO h1 h2 h3 hsz hk => wpAny_pyIter_zip hz ?_
        have I2 : Inv X pins σ H1 { s1 with heap := h' } := I1.kept (t' := s1.toks) hk
        refine ⟨s1.heap.objs.size + 5, [s1.heap.objs.size + 5, s1.heap.objs.size + 3, s1.heap.objs.size + 4, s1.heap.objs.size, s1.heap.objs.size + 1, s1.heap.objs.size + 2], _, _, H1, rfl, I2, turn_z3 (zip_sep3 (fun b hb => by simp at hb; rw [hb]; exact la) (fun b hb => by simp at hb; rw [hb]; exact lb) (fun b hb => by simp at hb; rw [hb]; exact lc)) (Nat.ne_of_lt la) (Nat.ne_of_lt (Nat.lt_succ_of_lt lb)) (Nat.ne_of_lt (Nat.lt_succ_of_lt (Nat.lt_succ_of_lt lc))), ⟨hz, hTI, ⟨_, _, _, hTO⟩, ItK.new h1, ItK.new h2, ItK.new h3⟩, fun c hcm => ?_, q⟩
        have e' : c = s1.heap.objs.size + 5 ∨ c = s1.heap.objs.size + 3 ∨ c = s1.heap.objs.size + 4 ∨ c = s1.heap.objs.size ∨ c = s1.heap.objs.size + 1 ∨ c = s1.heap.objs.size + 2 := by simpa using hcm
        have hle : s1.heap.objs.size ≤ c := by
          rcases e' with z | z | z | z | z | z
          · rw [z]; exact Nat.le_add_right _ _
          · rw [z]; exact Nat.le_add_right _ _
          · rw [z]; exact Nat.le_add_right _ _
          · rw [z]; exact Nat.le_refl _
          · rw [z]; exact Nat.le_add_right _ _
          · rw [z]; exact Nat.le_add_right _ _
        exact I1.fpOk hle (I1.hok.fresh hle)
/-- range(n) -/
def iRng1H (ta : TA) : TI := fun σ H R => ta σ H fun vs H1 => ∃ j : Int, vs = [.int j] ∧ -(2 ^ 62) ≤ j ∧ j < 2 ^ 62 ∧ ∀ J : It, Walk J j.toNat (fun _ => True) (YFn fun i => .int (i : Nat)) → R J H1
theorem pi_range1H {a : Expr} {tg : Expr} (hg : Gl X "range") (hm : X.mg "range" = none) (ha : PA X [a] ta) (hs : starEach [a] X.env = [(false, eval a X.env)] := by rfl) : PI X tg (.Call (.Name "range" p) [a] [] pos) (iRng1H ta) := by
  refine ⟨fun pins s σ H R I h => ?_⟩
  have ha' : PA X [a] fun σ H Q => ta σ H fun vs H1 => (∃ j : Int, vs = [.int j] ∧ -(2 ^ 62) ≤ j ∧ j < 2 ^ 62 ∧ ∀ J : It, Walk J j.toNat (fun _ => True) (YFn fun i => .int (i : Nat)) → R J H1) ∧ ∀ j : Int, vs = [.int j] → -(2 ^ 62) ≤ j → j < 2 ^ 62 → R (Itr 0 j.toNat) H1 → Q vs H1 :=
    ⟨fun pos pins s σ H Q I q => thn (ha.run pos pins s σ H _ I q) fun us s1 ⟨vs, H1, I1, r1, ⟨j, ej, h1, h2, hR⟩, q1⟩ => ⟨vs, H1, I1, r1, q1 j ej h1 h2 (hR _ (walk_range.mono (fun _ _ => trivial) fun _ _ _ _ _ _ y => ⟨y.1, by rw [y.2]; show V.int _ = V.int _; rw [Int.zero_add]⟩))⟩⟩
  refine Call_ (ld_blt I hg hm boot_range (PyProof.Rows.callWith_type1 (thn (ha.run pos pins s σ H _ I h) fun us s1 ⟨vs, H1, I1, r1, q1⟩ => ?_) hs rfl))
  obtain ⟨j, e, q1, q2, q⟩ := q1
  subst e
  have q := q (Itr 0 j.toNat) (walk_range.mono (fun _ _ => trivial) fun _ _ _ _ _ _ y => ⟨y.1, by rw [y.2]; show V.int _ = V.int _; rw [Int.zero_add]⟩)
  cases r1 with
  | cons r rr =>
    cases rr
    obtain ⟨t, rfl⟩ := r
    exact call_range_1 (range_it I1 (by omega) (by omega) q1 q2 (by simpa using q))
end
/-- LcR by its lemmas -/
theorem lcr_map {J : It} {n : Nat} {G : Hp → Prop} {Y : Nat → Hp → V → Hp → Prop} (w : Walk J n G Y) {g : TG} {te : TE} {vs : List Nat} {σ : L2.St} {H1 : Hp} {Q : VK} (res : List V) (hl : res.length = n) (hn : n ≤ sizeLine)
    (hG : ∀ H, Same H1 H → G H) (hY : ∀ i x H H', Y i H x H' → Same H H')
    (hs : ∀ i x H H' y (Qy : VK), i < n → Same H1 H → Y i H x H' → res[i]? = some y → (∀ H4, Same H' H4 → Qy y H4) → g x (wipe σ vs) H' fun σ2 H2 => wipe σ2 vs = wipe σ vs ∧ te σ2 H2 Qy)
    (hd : ∀ D H, H1 D = none → Same H1 H → H D = some (.lst res) → Q (.ref D) H) : LcR J g tYes te vs σ H1 Q := fun D hD =>
  lc_map w res hl hn hD hG (fun i x H H' y Qy hi h1 _ hy hr hq => hs i x H H' y Qy hi h1 hy hr hq) hY fun H h1 h2 => hd D H hD h1 h2
theorem forr {J : It} {n : Nat} {G : Hp → Prop} {Y : Nat → Hp → V → Hp → Prop} (w : Walk J n G Y) {g : TG} {tb : TS} {D : Ends} {σ : L2.St} {H : Hp} (Pv : Nat → L2.St → Hp → Prop) (h0 : Pv 0 σ H) (hG : ∀ i σ H, i ≤ n → Pv i σ H → G H)
    (hs : ∀ i x σ H H', i < n → Pv i σ H → Y i H x H' → g x σ H' fun σ2 H2 => tb { D with nx := Pv (i + 1), ct := Pv (i + 1), bk := D.nx } σ2 H2) (hd : ∀ σ H, Pv n σ H → D.nx σ H) : ForR J g tb D σ H := for_it w Pv h0 hG hs hd
theorem map_bl_iff {bs : List Bool} {p : List Bool → Prop} : (∃ cs : List Bool, bs.map V.bl = cs.map V.bl ∧ p cs) ↔ p bs := by
  constructor
  · rintro ⟨cs, e, h⟩
    have inj : ∀ {a b : List Bool}, a.map V.bl = b.map V.bl → a = b := by
      intro a
      induction a with
      | nil => intro b h; cases b with | nil => rfl | cons _ _ => simp at h
      | cons x a ih => intro b h; cases b with
        | nil => simp at h
        | cons y b => simp only [List.map_cons, List.cons.injEq, V.bl.injEq] at h; rw [h.1, ih h.2]
    rw [inj e]; exact h
  · intro h; exact ⟨bs, rfl, h⟩

theorem sz_le {n : Nat} (h : n ≤ 1000) : (n ≤ sizeLine) = True := eq_true (Nat.le_trans h (by decide))
theorem op_inH {X : Cx} : OpR X (compareOp .In) (fun x y H Q => ∃ p, y = .ref p ∧ ∃ xs, H p = some (.tup xs) ∧ flatV x = true ∧ xs.all flatV = true ∧ Q (.bl (inV x xs)) H) := by
  intro pins s σ H x y v u Q I rx ry h
  obtain ⟨p, e, xs, hp, h1, h2, q⟩ := h
  exact op_in_seq pins s σ H x y v u Q I rx ry ⟨p, xs, e, .inr (.inl (.inl hp)), h1, h2, q⟩
theorem putF_one (f : Str) (v : V) : putF f v [] = [(f, v)] := rfl
theorem lookup_one (f : Str) (v : V) : List.lookup f [(f, v)] = some v := by simp [List.lookup]

/-- * of two ints, one of them below 2 ^ 64, or both together below a million bits -/
def CMulA (i j : Int) : Prop := i.natAbs < 2 ^ 64 ∨ j.natAbs < 2 ^ 64 ∨ CMulW i j
theorem op_mulA {X : Cx} : OpR X (binaryOp .Mult) (rI CMulA fun i j => .int (i * j)) := by
  intro pins s σ H x y v u Q I rx ry h
  obtain ⟨i, j, e1, e2, hc, q⟩ := h
  rcases hc with hc | hc | hc
  · exact op_mul pins s σ H x y v u Q I rx ry ⟨i, j, e1, e2, .inl ⟨by omega, by omega⟩, q⟩
  · exact op_mul pins s σ H x y v u Q I rx ry ⟨i, j, e1, e2, .inr ⟨by omega, by omega⟩, q⟩
  · exact op_mulW pins s σ H x y v u Q I rx ry ⟨i, j, e1, e2, hc, q⟩
theorem atI_0 {x : V} {xs : List V} : atI (x :: xs) 0 = some x := atI_nat (j := 0) rfl
theorem atI_1 {x y : V} {xs : List V} : atI (x :: y :: xs) 1 = some y := atI_nat (j := 1) rfl
theorem atI_2 {x y z : V} {xs : List V} : atI (x :: y :: z :: xs) 2 = some z := atI_nat (j := 2) rfl
theorem ixN_30 : ixN 3 0 = some 0 := rfl
theorem ixN_31 : ixN 3 1 = some 1 := rfl
theorem ixN_32 : ixN 3 2 = some 2 := rfl
theorem atI_in {xs : List V} {i : Int} (h0 : 0 ≤ i) (h1 : i < xs.length) : ∃ v, v ∈ xs ∧ atI xs i = some v := by
  obtain ⟨k, rfl⟩ := Int.eq_ofNat_of_zero_le h0
  have hk : k < xs.length := by omega
  exact ⟨xs[k], List.getElem_mem hk, atI_nat (List.getElem?_eq_getElem hk)⟩
theorem cpow_10 {j : Int} (h0 : 0 ≤ j) (h1 : j ≤ 1000000) : CPow 10 j = True := eq_true ⟨h0, h1, by decide⟩
theorem cdivW_small {i j : Int} (h : 0 < j) (h1 : j < 2 ^ 64) : CDivW i j = True := eq_true (wide_div h (b := 64) (by omega) (by decide) (by decide))
theorem Sx.free {a r : Addr} {H H1 : Hp} (h : Sx a H H1) (n : r ≠ a) (e : H1 r = none) : H r = none := by
  cases q : H r with
  | none => rfl
  | some o => rw [h r o n q] at e; cases e
theorem Sx.putN {a r : Addr} {H H1 : Hp} {o : HO} (h : Sx a H H1) (e : H r = none) : Sx a H (upd H1 r o) := fun b u n q => by
  rw [upd_ne (ne_some q e)]
  exact h b u n q
theorem scal_int (i j : Int) : scal (.int i) (.int j) = true := rfl
theorem scal_str (i j : Str) : scal (.str i) (.str j) = true := rfl
section
variable {K : PySem.W.Frag} {H : Hp} {a b c d e f : Addr} {ns ms ks ls : List Int} {Q : VK}
theorem neD_tup (h1 : H a = some (.tup (ns.map V.int))) (h2 : H b = some (.tup (ms.map V.int))) (q : Q (.bl (!decide (ns = ms))) H) : rNeD K (.ref a) (.ref b) H Q :=
  ⟨_, _, dp_tupI (.inl (.inl h1)), dp_tupI (.inl (.inl h2)), shaped_tupI _, shaped_tupI _, by rw [eqv_tupI]; exact q⟩
theorem eqD_tup (h1 : H a = some (.tup (ns.map V.int))) (h2 : H b = some (.tup (ms.map V.int))) (q : Q (.bl (decide (ns = ms))) H) : rEqD K (.ref a) (.ref b) H Q :=
  ⟨_, _, dp_tupI (.inl (.inl h1)), dp_tupI (.inl (.inl h2)), shaped_tupI _, shaped_tupI _, by rw [eqv_tupI]; exact q⟩
theorem depth_tupI (ns : List Int) : PyData.depth (tupI ns) = 1 := by
  show PyData.depthAll (ns.map PyData.int) + 1 = 1
  rw [depth_ints ns]
theorem shaped_two (ns ms : List Int) : SeqAt.shaped (.tuple [tupI ns, tupI ms]) = true := by
  have h1 : PyData.canLay0 (.tuple [tupI ns, tupI ms]) = true := by
    show (PyData.canLayAll0 (ns.map PyData.int) && (PyData.canLayAll0 (ms.map PyData.int) && true)) = true
    rw [canLay_ints, canLay_ints]
    rfl
  have h2 : PyData.depth (.tuple [tupI ns, tupI ms]) ≤ 64 := by
    show max (PyData.depth (tupI ns)) (max (PyData.depth (tupI ms)) 0) + 1 ≤ 64
    rw [depth_tupI, depth_tupI]
    decide
  unfold SeqAt.shaped
  rw [h1, decide_eq_true h2]
  rfl
theorem eqv_two (ns ms ks ls : List Int) : PyData.eqv (.tuple [tupI ns, tupI ms]) (.tuple [tupI ks, tupI ls]) = (decide (ns = ks) && decide (ms = ls)) := by
  show (PyData.eqv (tupI ns) (tupI ks) && (PyData.eqv (tupI ms) (tupI ls) && true)) = _
  rw [eqv_tupI, eqv_tupI, Bool.and_true]
/-- (t, u) != (v, w), four tuples of ints -/
theorem neD_two (h1 : H a = some (.tup [.ref c, .ref d])) (h2 : H b = some (.tup [.ref e, .ref f])) (hc : H c = some (.tup (ns.map V.int))) (hd : H d = some (.tup (ms.map V.int))) (he : H e = some (.tup (ks.map V.int))) (hf : H f = some (.tup (ls.map V.int)))
    (q : Q (.bl (!(decide (ns = ks) && decide (ms = ls)))) H) : rNeD K (.ref a) (.ref b) H Q :=
  ⟨.tuple [tupI ns, tupI ms], .tuple [tupI ks, tupI ls], .tup (.inl (.inl h1)) (.cons (dp_tupI (.inl (.inl hc))) (.cons (dp_tupI (.inl (.inl hd))) .nil)), .tup (.inl (.inl h2)) (.cons (dp_tupI (.inl (.inl he))) (.cons (dp_tupI (.inl (.inl hf))) .nil)), shaped_two _ _, shaped_two _ _, by rw [eqv_two]; exact q⟩
end
theorem Vals.getD {xs : List V} {us : List Value} (r : Vals xs us) (i : Nat) : RelV (xs.getD i .non) (us.getD i Value.none) := by
  rw [List.getD_eq_getElem?_getD, List.getD_eq_getElem?_getD]
  cases h : xs[i]? with
  | none => rw [L2.Vals.none_of r h]; rfl
  | some x =>
    obtain ⟨u, h2, h3⟩ := L2.Vals.get r h
    rw [h2]
    exact h3
theorem kbn_of {K : PySem.W.Frag} {x qual : Str} {st : Stmt} {f : Addr} {fd : FuncData} (F : Fun K x qual st f fd) (ps : List Str) (n : Nat) (ks : List Str) (g : List Value → List Value → List Value) (gV : List V → List V → List V)
    (h : ∀ (kV doc pm : Value) (an : Option Addr) (cdv ct : Value) (us ws : List Value), us.length = n → ws.length = ks.length → bindArgs (PySem.W.fnOf x qual (defArgs st) (defBody st) (defScope st) .none kV doc pm an cdv ct) ⟨us, ks.zip ws⟩ = pure (ps.zip (g us ws)))
    (rel : ∀ {vs : List V} {us : List Value} {zs : List V} {ws : List Value}, Vals vs us → Vals zs ws → Vals (gV vs zs) (g us ws)) : KBn K fd ps n ks g gV := by
  obtain ⟨oc, od, kV, doc, pm, an, cdv, ct, osl, rfl, lk, hcd⟩ := F.ex
  exact ⟨fun s us ws X l1 l2 => .of_eq (h kV doc pm an cdv ct us ws l1 l2), rel⟩

/-! ### a comprehension with two clauses, closed off -/
/-- the second clause's loop -/
def Lc1R (J1 : It) (g1 : TG) (tt1 : TT) (te : TE) (vs1 : List Nat) (D : Addr) (σ2 : L2.St) (H4 : Hp) (Nx : Hp → Prop) : Prop := ∃ W1 : Nat → Nat → Hp → Prop, (∃ m, W1 0 m H4) ∧ ∀ j k H, W1 j k H →
  (J1.stop j H ∧ Nx H) ∨ (J1.go j H ∧ ∃ Nx1 : Hp → Prop, (∀ H', Nx1 H' → ∃ k', k' < k ∧ W1 (j + 1) k' H') ∧ ∀ x H', J1.yld j H x H' → g1 x (wipe σ2 vs1) H' fun σ3 H5 => wipe σ3 vs1 = wipe σ2 vs1 ∧ tt1 σ3 H5 fun b H6 =>
    if b = true then te σ3 H6 fun y H7 => ∃ acc, H7 D = some (.lst acc) ∧ acc.length < sizeLine ∧ Nx1 (upd H7 D (.lst (acc ++ [y]))) else Nx1 H6)
def Lc2R (J : It) (g : TG) (tt : TT) (wi1 : TI) (g1 : TG) (tt1 : TT) (te : TE) (vs vs1 : List Nat) (σ : L2.St) (H1 : Hp) (Q : VK) : Prop := ∀ D, H1 D = none → ∃ W : Nat → Nat → Hp → Prop, (∃ m, W 0 m (upd H1 D (.lst []))) ∧ ∀ i m H, W i m H →
  (J.stop i H ∧ Q (.ref D) H) ∨ (J.go i H ∧ ∃ Nx : Hp → Prop, (∀ H', Nx H' → ∃ m', m' < m ∧ W (i + 1) m' H') ∧ ∀ x H', J.yld i H x H' → g x (wipe σ vs) H' fun σ2 H2 => wipe σ2 vs = wipe σ vs ∧ tt σ2 H2 fun b H3 =>
    if b = true then wi1 σ2 H3 fun J1 H4 => Lc1R J1 g1 tt1 te vs1 D σ2 H4 Nx else Nx H3)
theorem tLc2_eq {wi : TI} {g : TG} {tt : TT} {wi1 : TI} {g1 : TG} {tt1 : TT} {te : TE} {vs vs1 : List Nat} {σ : L2.St} {H : Hp} {Q : VK} : tLc2 wi g tt wi1 g1 tt1 te vs vs1 σ H Q = wi σ H fun J H1 => Lc2R J g tt wi1 g1 tt1 te vs vs1 σ H1 Q := rfl
/-- the second clause's loop by an invariant of the turn, what is made so far and the heap -/
theorem lc1_gen {J1 : It} {n : Nat} {G : Hp → Prop} {Y : Nat → Hp → V → Hp → Prop} (w : Walk J1 n G Y) {g1 : TG} {te : TE} {vs1 : List Nat} {D : Addr} {σ2 : L2.St} {H4 : Hp} {Nx : Hp → Prop} (Ia : Nat → List V → Hp → Prop)
    (h0 : ∃ acc, Ia 0 acc H4 ∧ H4 D = some (.lst acc)) (hG : ∀ j acc H, j ≤ n → Ia j acc H → H D = some (.lst acc) → G H) (hst : ∀ j acc H l l0, Ia j acc H → H D = some (.lst l0) → Ia j acc (upd H D (.lst l))) (hz : ∀ j acc H, Ia j acc H → acc.length < sizeLine)
    (hs : ∀ j acc x H H' (Qy : VK), j < n → Ia j acc H → H D = some (.lst acc) → Y j H x H' → (∀ y H7, H7 D = some (.lst acc) → Ia (j + 1) (acc ++ [y]) H7 → Qy y H7) → g1 x (wipe σ2 vs1) H' fun σ3 H5 => wipe σ3 vs1 = wipe σ2 vs1 ∧ te σ3 H5 Qy)
    (hd : ∀ acc H, Ia n acc H → H D = some (.lst acc) → Nx H) : Lc1R J1 g1 tYes te vs1 D σ2 H4 Nx := by
  obtain ⟨acc0, i0, e0⟩ := h0
  refine ⟨fun j k H => k = n - j ∧ j ≤ n ∧ ∃ acc : List V, Ia j acc H ∧ H D = some (.lst acc), ⟨n, by simp, Nat.zero_le _, acc0, i0, e0⟩, ?_⟩
  rintro j k H ⟨rfl, hj, acc, hI, e⟩
  have q := hG j acc H hj hI e
  by_cases hlt : j < n
  · refine .inr ⟨w.goes j H hlt q, fun H' => ∃ acc : List V, Ia (j + 1) acc H' ∧ H' D = some (.lst acc), fun H' ⟨acc', h1, h2⟩ => ⟨n - (j + 1), by omega, rfl, hlt, acc', h1, h2⟩, fun x H' y => ?_⟩
    exact hs j acc x H H' _ hlt hI e (w.yields j H x H' hlt q y) fun y H7 e7 h7 => ⟨acc, e7, hz j acc H hI, acc ++ [y], hst _ _ _ _ _ h7 e7, upd_same⟩
  · have en : j = n := by omega
    subst en
    exact .inl ⟨w.stops H q, hd acc H hI e⟩
theorem lc2_gen {J : It} {n : Nat} {G : Hp → Prop} {Y : Nat → Hp → V → Hp → Prop} (w : Walk J n G Y) {g : TG} {wi1 : TI} {g1 : TG} {te : TE} {vs vs1 : List Nat} {σ : L2.St} {H1 : Hp} {Q : VK} (Ia : Addr → Nat → List V → Hp → Prop)
    (h0 : ∀ D, H1 D = none → Ia D 0 [] (upd H1 D (.lst []))) (hG : ∀ D i acc H, H1 D = none → i ≤ n → Ia D i acc H → H D = some (.lst acc) → G H)
    (hs : ∀ D i acc x H H' (Nx : Hp → Prop), H1 D = none → i < n → Ia D i acc H → H D = some (.lst acc) → Y i H x H' → (∀ acc' H7, H7 D = some (.lst acc') → Ia D (i + 1) acc' H7 → Nx H7) → g x (wipe σ vs) H' fun σ2 H2 => wipe σ2 vs = wipe σ vs ∧ wi1 σ2 H2 fun J1 H4 => Lc1R J1 g1 tYes te vs1 D σ2 H4 Nx)
    (hd : ∀ D acc H, H1 D = none → Ia D n acc H → H D = some (.lst acc) → Q (.ref D) H) : Lc2R J g tYes wi1 g1 tYes te vs vs1 σ H1 Q := fun D hD => by
  refine ⟨fun i k H => k = n - i ∧ i ≤ n ∧ ∃ acc : List V, Ia D i acc H ∧ H D = some (.lst acc), ⟨n, by simp, Nat.zero_le _, [], h0 D hD, upd_same⟩, ?_⟩
  rintro i k H ⟨rfl, hi, acc, hI, e⟩
  have q := hG D i acc H hD hi hI e
  by_cases hlt : i < n
  · refine .inr ⟨w.goes i H hlt q, fun H' => ∃ acc : List V, Ia D (i + 1) acc H' ∧ H' D = some (.lst acc), fun H' ⟨acc', h1, h2⟩ => ⟨n - (i + 1), by omega, rfl, hlt, acc', h1, h2⟩, fun x H' y => ?_⟩
    exact hs D i acc x H H' _ hD hlt hI e (w.yields i H x H' hlt q y) fun acc' H7 e7 h7 => ⟨acc', h7, e7⟩
  · have en : i = n := by omega
    subst en
    exact .inl ⟨w.stops H q, hd D acc H hD hI e⟩
/-- a comprehension with a test: Ia by the turn, what is made so far, and the heap -/
theorem lcr_if {J : It} {n : Nat} {G : Hp → Prop} {Y : Nat → Hp → V → Hp → Prop} (w : Walk J n G Y) {g : TG} {tt : TT} {te : TE} {vs : List Nat} {σ : L2.St} {H1 : Hp} {Q : VK} (Ia : Addr → Nat → List V → Hp → Prop) (hn : n < sizeLine)
    (h0 : ∀ D, H1 D = none → Ia D 0 [] (upd H1 D (.lst []))) (hG : ∀ D i acc H, H1 D = none → i ≤ n → Ia D i acc H → H D = some (.lst acc) → G H) (hst : ∀ D i acc H l, H1 D = none → Ia D i acc H → H D ≠ none → Ia D i acc (upd H D (.lst l)))
    (hs : ∀ D i acc x H H' (Qn : Hp → Prop) (Qy : VK), H1 D = none → i < n → Ia D i acc H → H D = some (.lst acc) → Y i H x H' → (∀ H4, H4 D = some (.lst acc) → Ia D (i + 1) acc H4 → Qn H4) → (∀ y H4, H4 D = some (.lst acc) → Ia D (i + 1) (acc ++ [y]) H4 → Qy y H4) →
      g x (wipe σ vs) H' fun σ2 H2 => wipe σ2 vs = wipe σ vs ∧ tt σ2 H2 fun b H3 => if b = true then te σ2 H3 Qy else Qn H3)
    (hd : ∀ D acc H, H1 D = none → acc.length ≤ n → Ia D n acc H → H D = some (.lst acc) → Q (.ref D) H) : LcR J g tt te vs σ H1 Q := fun D hD => by
  refine lc_it w (fun i H => ∃ acc : List V, acc.length ≤ i ∧ Ia D i acc H ∧ H D = some (.lst acc)) ⟨[], Nat.le_refl _, h0 D hD, upd_same⟩ (fun i H hi ⟨acc, _, h, e⟩ => hG D i acc H hD hi h e) (fun i x H H' hi ⟨acc, hl, h, e⟩ hy => ?_) (fun H ⟨acc, hl, h, e⟩ => hd D acc H hD hl h e)
  refine hs D i acc x H H' _ _ hD hi h e hy (fun H4 e4 h4 => ⟨acc, by omega, h4, e4⟩) fun y H4 e4 h4 => ⟨acc, e4, by omega, acc ++ [y], by rw [List.length_append]; simp; omega, ?_, upd_same⟩
  exact hst _ _ _ _ _ hD h4 (by rw [e4]; simp)
/-! ### gcd and lcm of wide ints -/
def rLcm : List V → Hp → VK → Prop := fun vs H Q => ∃ a b : Int, vs = [.int a, .int b] ∧ a.natAbs < 2 ^ 6000 ∧ b.natAbs < 2 ^ 6000 ∧ Q (.int ((Nat.lcm a.natAbs b.natAbs : Nat) : Int)) H
theorem lcm_le_mul (m n : Nat) : m.lcm n ≤ m * n := by
  unfold Nat.lcm
  exact Nat.div_le_self _ _
theorem cr_lcm {X : Cx} : CallR X (.builtin "math.lcm") rLcm := by
  intro pins s σ H vs us Q I r h
  obtain ⟨a, b, rfl, ha, hb, q⟩ := h
  obtain ⟨t, u, rfl⟩ := Vals.int2 r
  have e1 : (Nat.lcm 1 a.natAbs) = a.natAbs := by simp [Nat.lcm]
  have lg : ∀ m : Nat, m < 2 ^ 6000 → m.log2 < 6000 := fun m hm => by
    by_cases h0 : m = 0
    · subst h0; decide
    · exact (Nat.log2_lt h0).mpr hm
  have m1 : max 1 a.natAbs < 2 ^ 6000 := by
    have : (1 : Nat) < 2 ^ 6000 := Nat.one_lt_two_pow (by decide)
    omega
  have m2 : max a.natAbs b.natAbs < 2 ^ 6000 := by omega
  have l1 := lg _ m1
  have l2 := lg _ m2
  have hl : (((Nat.lcm 1 a.natAbs).lcm b.natAbs : Nat) : Int).natAbs.log2 < bitsLine := by
    rw [e1, Int.natAbs_natCast]
    have h1 : a.natAbs.lcm b.natAbs ≤ a.natAbs * b.natAbs := lcm_le_mul _ _
    have h2 : a.natAbs * b.natAbs < 2 ^ 12000 := by
      rw [show (12000 : Nat) = 6000 + 6000 by rfl, Nat.pow_add]
      exact Nat.mul_lt_mul'' ha hb
    have eb : bitsLine = 134217728 := by decide
    rw [eb]
    by_cases h0 : a.natAbs.lcm b.natAbs = 0
    · rw [h0]; decide
    · have h3 : (a.natAbs.lcm b.natAbs).log2 < 12000 := (Nat.log2_lt h0).mpr (Nat.lt_of_le_of_lt h1 h2)
      omega
  refine call_function_meets PySem.W.MGF.kind_lcm PySem.W.MGF.plain_lcm PySem.W.MGF.entry_lcm (PySem.W.MGF.args_lcm _ _) (PySem.W.mg_run_lcm a t b u (by omega) (by omega) hl).meets ?_
  rw [e1]
  exact ⟨.int _, H, I.tok _, ⟨_, rfl⟩, q⟩
/-- *t, .. in a display: t a tracked tuple -/
def tStarH (te : TE) (t : TA) : TA := fun σ H Q => te σ H fun x H1 => ∃ p, x = .ref p ∧ ∃ xs, H1 p = some (.tup xs) ∧ t σ H1 fun ys H2 => Q (xs ++ ys) H2
theorem pa_starH {X : Cx} {e : Expr} {es : List Expr} {te : TE} {t : TA} {p : Pos} (he : PE X e te) (hr : PA X es t) (hs : starEach (.Starred e p :: es) X.env = (true, eval e X.env) :: starEach es X.env := by rfl) : PA X (.Starred e p :: es) (tStarH te t) := by
  refine ⟨fun pos pins s σ H Q I h => ?_⟩
  refine PySem.W.items_star (thn (he.run pins s σ H _ I h) fun v s1 ⟨y, H1, I1, ry, a, ey, xs, hx, q⟩ => ?_) hs
  subst ey
  obtain rfl : v = Value.ref a := ry
  refine StX.star_any I1 (.inl (.inl (.inl hx))) fun us s2 I2 rv => ?_
  exact thn (hr.run pos pins s2 σ H1 _ I2 q) fun ws s3 ⟨vs, H3, I3, r3, q3⟩ => ⟨xs ++ vs, H3, I3, rv.append r3, q3⟩
end Cs

/-! tuple * 1, tests of bools -/
namespace Cs
open PySem PySem.Spec PyProof.Rows L2
theorem tuple_mul_one (l : Addr) (items : Array Value) (n : Nat) (dd : Option Addr) (sl : Array (Option Value)) (u : Tok) :
    Meets (Builtin.«tuple.__mul__» ⟨[.ref l, .int 1 u], []⟩) (fun _ R s => s.heap.get? l = some { cls := .type "tuple", dict := dd, data := .seq items n, slots := sl } ∧ R (.ok (.ret (Value.ref l))) s) :=
  .of_wp fun prog w A R s h => by
    obtain ⟨hp, g, d, tk, os⟩ := s
    obtain ⟨hl, h⟩ := h
    have f1 := AutoSeq1.idx_int
    have c0 : (decide ((1 : Int) < -(2 ^ 63)) || decide ((1 : Int) ≥ 2 ^ 63)) = false := by decide
    have c1 : (items.isEmpty || (1 : Int) == 1) = true := by simp
    wp_walk using wpAny_loadPart' hl
    repeat (first
      | (refine wpAny_ite_false (decide_eq_false (by rw [c0]; exact Bool.false_ne_true)) ?_; wp_walk using wpAny_loadPart' hl)
      | (refine wpAny_ite_true (decide_eq_true (by rw [c1])) ?_; wp_walk using wpAny_loadPart' hl))
    exact ⟨_, rfl, h⟩
/-- a tuple times a count of at least one -/
def rRepA (K : PySem.W.Frag) : R2 := fun x y H Q => ∃ (l : Addr) (k : Nat) (xs : List V), x = .ref l ∧ y = .int k ∧ H l = some (.tup xs) ∧ xs ≠ [] ∧ 1 ≤ k ∧ k ≤ 1000 ∧ xs.length ≤ 1000 ∧ ∀ p H', Same H H' → H' p = some (.tup (List.replicate k xs).flatten) → Q (.ref p) H'
section
variable {X : Cx}
theorem op_repA : OpR X (binaryOp .Mult) (rRepA X.K) := by
  intro pins s σ H x y v u Q I rx ry h
  obtain ⟨l, k, xs, rfl, rfl, hT, hne, h1, h2, hz, q⟩ := h
  by_cases hk : 2 ≤ k
  · refine op_repT pins s σ H _ _ _ _ Q I rx ry ⟨l, k, xs, rfl, rfl, .inl (.inl hT), hne, by omega, by omega, hz, fun p hp => ?_⟩
    have e : ((k : Nat) : Int).toNat = k := by simp
    rw [e]
    exact q p _ (Same.new hp) upd_same
  · obtain rfl : k = 1 := by omega
    cases rx
    obtain ⟨t, rfl⟩ := ry
    obtain ⟨its, r, ⟨⟨cls, dd, data, sl⟩, ho, hc, n, hd⟩, hs⟩ := I.tuple (.inl (.inl hT))
    simp only at hc hd
    subst hc hd
    refine wpAny_binaryOp_repeat_ref (T := "tuple") (U := "int") (by decide) ⟨_, ho, rfl⟩ (fun s' => typeIs_int s' 1 t) noFill_tuple_mul F.fills_int_mul F.slot_int_rmul repeat_tuple F.slot_int_index.lookup
      (call_meets F.slot_int_rmul (typeIs_int s 1 t) F.entry_int_rmul (F.args_int_rmul_2 _ _) (int_rmul_tuple 1 t l its.toArray n dd sl)
        ⟨ho, rfl, ⟨_, ho, rfl⟩, call_meets F.slot_tuple_mul ⟨_, ho, rfl⟩ F.entry_tuple_mul (F.args_tuple_mul_2 _ _) (tuple_mul_one l its.toArray n dd sl t) ⟨ho, ?_⟩⟩)
    refine ⟨.ref l, _, I, rfl, q l H (Same.refl _) ?_⟩
    rw [hT]
    simp
end
/-- tuples of ints at the addresses as -/
def AsT (H : Hp) (as : List Addr) (hss : List (List Int)) : Prop := as.length = hss.length ∧ ∀ (i : Nat) t hs, as[i]? = some t → hss[i]? = some hs → H t = some (.tup (hs.map V.int))
theorem AsT.same {H H' : Hp} {as : List Addr} {hss : List (List Int)} (e : Same H H') (h : AsT H as hss) : AsT H' as hss := ⟨h.1, fun i t hs h1 h2 => e _ _ (h.2 i t hs h1 h2)⟩
theorem AsT.nil {H : Hp} : AsT H [] [] := ⟨rfl, fun i t hs h _ => by simp at h⟩
theorem AsT.snoc {H : Hp} {as : List Addr} {hss : List (List Int)} {t : Addr} {hs : List Int} (h : AsT H as hss) (ht : H t = some (.tup (hs.map V.int))) : AsT H (as ++ [t]) (hss ++ [hs]) := by
  refine ⟨by rw [List.length_append, List.length_append, h.1]; rfl, fun i u gs h1 h2 => ?_⟩
  by_cases hlt : i < as.length
  · rw [List.getElem?_append_left hlt] at h1
    rw [List.getElem?_append_left (by rw [← h.1]; exact hlt)] at h2
    exact h.2 i u gs h1 h2
  · rw [List.getElem?_append_right (by omega)] at h1
    rw [List.getElem?_append_right (by rw [← h.1]; omega), ← h.1] at h2
    cases hk : i - as.length with
    | zero =>
      rw [hk] at h1 h2
      simp only [List.getElem?_cons_zero, Option.some.injEq] at h1 h2
      rw [← h1, ← h2]; exact ht
    | succ m => rw [hk] at h1; simp at h1
/-- a list of tuples of ints, at a -/
def LstT (H : Hp) (a : Addr) (hss : List (List Int)) : Prop := ∃ as : List Addr, H a = some (.lst (as.map V.ref)) ∧ AsT H as hss
theorem LstT.same {H H' : Hp} {a : Addr} {hss : List (List Int)} (e : Same H H') (h : LstT H a hss) : LstT H' a hss := by
  obtain ⟨as, h1, h2⟩ := h
  exact ⟨as, e _ _ h1, h2.same e⟩
theorem scal_bl (b c : Bool) : scal (.bl b) (.bl c) = true := rfl
theorem dpAll_tups {K : PySem.W.Frag} {H : Hp} : ∀ {as : List Addr} {hss : List (List Int)}, AsT H as hss → DpAll K H (as.map V.ref) (hss.map tupI)
  | [], [], _ => .nil
  | [], _ :: _, h => by have := h.1; simp at this
  | _ :: _, [], h => by have := h.1; simp at this
  | a :: as, hs :: hss, h => .cons (dp_tupI (.inl (.inl (h.2 0 a hs rfl rfl)))) (dpAll_tups ⟨by simpa using h.1, fun i t gs h1 h2 => h.2 (i + 1) t gs h1 h2⟩)
theorem canLay_tups : ∀ hss : List (List Int), PyData.canLayAll0 (hss.map tupI) = true
  | [] => rfl
  | hs :: hss => by
    show (PyData.canLay0 (tupI hs) && PyData.canLayAll0 (hss.map tupI)) = true
    rw [canLay_tups hss, show PyData.canLay0 (tupI hs) = true from canLay_ints hs]
    rfl
theorem depth_tups : ∀ hss : List (List Int), PyData.depthAll (hss.map tupI) ≤ 1
  | [] => by decide
  | hs :: hss => by
    show max (PyData.depth (tupI hs)) (PyData.depthAll (hss.map tupI)) ≤ 1
    rw [depth_tupI]
    have := depth_tups hss
    omega
theorem shaped_tups (hss : List (List Int)) : SeqAt.shaped (.list (hss.map tupI)) = true := by
  have h1 : PyData.canLay0 (.list (hss.map tupI)) = true := canLay_tups hss
  have h2 : PyData.depth (.list (hss.map tupI)) ≤ 64 := by
    show PyData.depthAll (hss.map tupI) + 1 ≤ 64
    have := depth_tups hss
    omega
  unfold SeqAt.shaped
  rw [h1, decide_eq_true h2]
  rfl
theorem any_tups (ns : List Int) : ∀ hss : List (List Int), ((hss.map tupI).any fun z => PyData.eqv z (tupI ns)) = decide (ns ∈ hss)
  | [] => by simp
  | hs :: hss => by
    rw [List.map_cons, List.any_cons, any_tups ns hss, eqv_tupI]
    by_cases h : hs = ns
    · subst h; simp
    · have h' : ¬ ns = hs := fun e => h e.symm
      simp [h, h']
section
variable {K : PySem.W.Frag} {H : Hp} {a b : Addr} {ns ms : List Int} {hss : List (List Int)} {Q : VK}
theorem dp_lstT (h : LstT H a hss) : Dp K H (.ref a) (.list (hss.map tupI)) := by
  obtain ⟨as, h1, h2⟩ := h
  exact .lst (.inl (.inl h1)) (dpAll_tups h2)
theorem inD_tups (h1 : H a = some (.tup (ns.map V.int))) (h2 : LstT H b hss) (q : Q (.bl (decide (ns ∈ hss))) H) : rInD K (.ref a) (.ref b) H Q :=
  ⟨_, _, dp_tupI (.inl (.inl h1)), dp_lstT h2, shaped_tupI _, shaped_tups _, by rw [any_tups]; exact q⟩
theorem notInD_tups (h1 : H a = some (.tup (ns.map V.int))) (h2 : LstT H b hss) (q : Q (.bl (!decide (ns ∈ hss))) H) : rNotInD K (.ref a) (.ref b) H Q :=
  ⟨_, _, dp_tupI (.inl (.inl h1)), dp_lstT h2, shaped_tupI _, shaped_tups _, by rw [any_tups]; exact q⟩
theorem shaped_lstI (ns : List Int) : SeqAt.shaped (.list (ns.map PyData.int)) = true := by
  have h1 : PyData.canLay0 (.list (ns.map PyData.int)) = true := canLay_ints ns
  have h2 : PyData.depth (.list (ns.map PyData.int)) ≤ 64 := by
    show PyData.depthAll (ns.map PyData.int) + 1 ≤ 64
    rw [depth_ints ns]
    decide
  unfold SeqAt.shaped
  rw [h1, decide_eq_true h2]
  rfl
theorem eqv_lstI (ns ms : List Int) : PyData.eqv (.list (ns.map PyData.int)) (.list (ms.map PyData.int)) = decide (ns = ms) := eqvAll_ints ns ms
theorem eqD_lst (h1 : H a = some (.lst (ns.map V.int))) (h2 : H b = some (.lst (ms.map V.int))) (q : Q (.bl (decide (ns = ms))) H) : rEqD K (.ref a) (.ref b) H Q :=
  ⟨_, _, .lst (.inl (.inl h1)) (dpAll_ints ns), .lst (.inl (.inl h2)) (dpAll_ints ms), shaped_lstI _, shaped_lstI _, by rw [eqv_lstI]; exact q⟩
theorem neD_lst (h1 : H a = some (.lst (ns.map V.int))) (h2 : H b = some (.lst (ms.map V.int))) (q : Q (.bl (!decide (ns = ms))) H) : rNeD K (.ref a) (.ref b) H Q :=
  ⟨_, _, .lst (.inl (.inl h1)) (dpAll_ints ns), .lst (.inl (.inl h2)) (dpAll_ints ms), shaped_lstI _, shaped_lstI _, by rw [eqv_lstI]; exact q⟩
theorem eqv_tups : ∀ (hss gss : List (List Int)), PyData.eqvAll (hss.map tupI) (gss.map tupI) = decide (hss = gss)
  | [], [] => rfl
  | [], _ :: _ => rfl
  | _ :: _, [] => rfl
  | hs :: hss, gs :: gss => by
    show (PyData.eqv (tupI hs) (tupI gs) && PyData.eqvAll (hss.map tupI) (gss.map tupI)) = _
    rw [eqv_tups hss gss, eqv_tupI]
    by_cases h : hs = gs <;> by_cases h2 : hss = gss <;> simp [h, h2]
theorem neD_tups {gss : List (List Int)} (h1 : LstT H a hss) (h2 : LstT H b gss) (q : Q (.bl (!decide (hss = gss))) H) : rNeD K (.ref a) (.ref b) H Q :=
  ⟨_, _, dp_lstT h1, dp_lstT h2, shaped_tups _, shaped_tups _, by rw [show PyData.eqv (.list (hss.map tupI)) (.list (gss.map tupI)) = decide (hss = gss) from eqv_tups hss gss]; exact q⟩
end
theorem _root_.L2.Room.units1 {k : Nat} {A : Around} (r : Room k A) : A.units + 65 < cLine := by have := r.un; omega
theorem call_isIK {X : Cx} {K : PySem.W.Frag} (h : X.K = K) : CallR X (.builtin "isinstance") (rIsI K) := by subst h; exact call_isI
theorem call_isAK {X : Cx} {K : PySem.W.Frag} (h : X.K = K) : CallR X (.builtin "isinstance") (rIsA K) := by subst h; exact call_isA
end Cs

/-! sets of tuples of ints: set(), x in s, x not in s, s.add(x) -/
namespace Cs
open PySem PySem.Spec PyProof.Rows L2
section
variable {P : Program} {w : World} {A : Around} {E : Value → Shared → Prop} {s : Shared} {a : Addr} {L : List (Addr × List Int)} {es : Array (Int × Value)} {ep : Nat} {t : SetTable}
/-- the c-th probe of a search for a hash -/
abbrev pr (t : SetTable) (h : Int) (c : Nat) : SetTable.Probe := nth t.mask (runAt t.mask (SetTable.bits h % (t.mask + 1)) (SetTable.bits h)) c
theorem nth_clean (m : Nat) : ∀ (n : Nat) (p : SetTable.Probe), p.dummy = none → (nth m p n).dummy = none
  | 0, p, h => h
  | n + 1, p, h => nth_clean m n (adv m p) (by unfold adv; split <;> exact h)
/-- what the table's probe meets from the c-th place on: a row of the same hash, or the empty slot -/
theorem probe_at (R : SetTR P w s.heap a L es ep t) {k : List Int} {K c : Nat} (hKf : K < 10 * SetTable.turns t.mask) (hK : way t.mask (thash P w k) K ∉ t.place.toList) (hKb : ∀ c, c < K → way t.mask (thash P w k) c ∈ t.place.toList) (hc : c ≤ K) :
    (∃ q i p, c + q < K ∧ t.place.toList[i]? = some (way t.mask (thash P w k) (c + q)) ∧ L[i]? = some p ∧
      (∀ (q' i' : Nat) (p' : Addr × List Int), q' < q → L[i']? = some p' → t.place.toList[i']? = some (way t.mask (thash P w k) (c + q')) → p'.2 ≠ k) ∧
      t.probe (fun i => (es[i]?.map (·.1)).getD 0) (thash P w k) (pr t (thash P w k) c) = some (.candidate (way t.mask (thash P w k) (c + q)) i (pr t (thash P w k) (c + q + 1)))) ∨
    ((∀ (q' i' : Nat) (p' : Addr × List Int), c + q' < K → L[i']? = some p' → t.place.toList[i']? = some (way t.mask (thash P w k) (c + q')) → p'.2 ≠ k) ∧
      t.probe (fun i => (es[i]?.map (·.1)).getD 0) (thash P w k) (pr t (thash P w k) c) = some (.empty (way t.mask (thash P w k) K) none)) := by
  have shift : ∀ q, nth t.mask (pr t (thash P w k) c) q = pr t (thash P w k) (c + q) := fun q => (nth_add t.mask c _ q).symm
  have shj : ∀ q, (nth t.mask (pr t (thash P w k) c) q).j = way t.mask (thash P w k) (c + q) := fun q => congrArg SetTable.Probe.j (shift q)
  have hash : ∀ (i : Nat) p, L[i]? = some p → (fun i => (es[i]?.map (·.1)).getD 0) i = thash P w p.2 := fun i p hp => by
    show (es[i]?.map (·.1)).getD 0 = _
    rw [R.entry hp]
    rfl
  have same : ∀ {i : Nat} {p : Addr × List Int}, L[i]? = some p → (fun i => (es[i]?.map (·.1)).getD 0) i ≠ thash P w k → p.2 ≠ k := fun {i p} hp hne e => hne (by rw [hash i p hp, e])
  rcases go_spec t R.tab.ris R.tab.dm (fun i => (es[i]?.map (·.1)).getD 0) (thash P w k) (10 * SetTable.turns t.mask) (K - c) (pr t (thash P w k) c) (nth_clean _ _ _ rfl) (by omega)
    (fun q hq => by rw [shj]; exact hKb _ (by omega)) (by rw [shj, show c + (K - c) = K by omega]; exact hK) with ⟨q, i, hq, hi, _, hno, hp⟩ | ⟨hno, hp⟩
  · left
    rw [shj] at hi
    have hil : i < L.length := by
      have h1 := (List.getElem?_eq_some_iff.mp hi).1
      have h2 := R.tab.sz
      rw [List.length_map] at h2
      rw [Array.length_toList] at h1
      omega
    refine ⟨q, i, L[i], by omega, hi, List.getElem?_eq_getElem hil, fun q' i' p' h1 h2 h3 => same h2 (hno q' i' h1 (by rw [shj]; exact h3)), ?_⟩
    rw [shj, shift] at hp
    exact hp
  · right
    refine ⟨fun q' i' p' h1 h2 h3 => same h2 (hno q' i' (by omega) (by rw [shj]; exact h3)), ?_⟩
    rw [shj, show c + (K - c) = K by omega] at hp
    exact hp
/-- the search that a question asks for -/
theorem look_from (R : SetTR P w s.heap a L es ep t) {x : Addr} {k : List Int} (hx : IsT P w s.heap k x) (hu : A.units < cLine) {K : Nat} (hKf : K < 10 * SetTable.turns t.mask) (hK : way t.mask (thash P w k) K ∉ t.place.toList)
    (hKb : ∀ c, c < K → way t.mask (thash P w k) c ∈ t.place.toList) {Q : SetFound → Shared → Prop} (hin : k ∈ L.map (·.2) → ∀ i, Q (.there (some i)) s) (hout : k ∉ L.map (·.2) → ∀ j, Q (.free j false) s) :
    ∀ (f c : Nat) (st : Option SetTable.Probe), st.getD (t.probeStart (thash P w k)) = pr t (thash P w k) c → c ≤ K → K - c < f →
      (∀ (i : Nat) p, L[i]? = some p → p.2 = k → ∃ c', c ≤ c' ∧ c' < K ∧ t.place.toList[i]? = some (way t.mask (thash P w k) c')) → wpAny (model P w) A (setSearchFrom a (.ref x) (thash P w k) false f st) Q E s := by
  intro f
  induction f with
  | zero => intro c st _ _ h _; exact absurd h (Nat.not_lt_zero _)
  | succ f ih =>
    intro c st hst hc hf hre
    obtain ⟨o, ho, hex, hd⟩ := R.ob
    rw [setSearchFrom_succ]
    refine wpAny_bind (wpAny_setState_of ho hd R.fits ?_)
    dsimp only
    refine wp_if_neg R.gw ?_
    try refine wpAny_bind (wpAny_pure ?_)
    rw [hst]
    rcases probe_at R hKf hK hKb hc with ⟨q, i, p, hq, hi, hp, hno, e⟩ | ⟨hno, e⟩
    · rw [e]
      dsimp only
      have hm : p ∈ L := List.mem_of_getElem? hp
      have live : t.slot (way t.mask (thash P w k) (c + q)) = .live i := slot_live R.tab.ris hi
      have rest : wpAny (model P w) A (searchRest a (.ref x) (thash P w k) false f es t (way t.mask (thash P w k) (c + q)) i (pr t (thash P w k) (c + q + 1))) Q E s := by
        unfold searchRest
        rw [R.entry hp]
        dsimp only
        refine wpAny_bind (wpAny_holding (wpAny_eqBool_tuple hu (R.tup p hm) hx ?_))
        refine wpAny_bind (wpAny_setState_of ho hd R.fits ?_)
        dsimp only
        refine wp_if_neg (by simp) ?_
        try refine wpAny_bind (wpAny_pure ?_)
        rw [sameMem]
        dsimp only
        simp only [if_true, live, R.entry hp]
        refine wpAny_bind (wpAny_isSame_ref_self (wpAny_bind (wpAny_pure ?_)))
        simp only [if_true]
        by_cases hk : p.2 = k
        · refine wp_if_pos (by simp [hk]) ?_
          exact wpAny_pure (hin (List.mem_map.mpr ⟨p, hm, hk⟩) i)
        · refine wp_if_neg (by simp [hk]) ?_
          refine ih (c + q + 1) _ rfl (by omega) (by omega) fun i0 p0 h0 hk0 => ?_
          obtain ⟨c', a1, a2, a3⟩ := hre i0 p0 h0 hk0
          refine ⟨c', ?_, a2, a3⟩
          by_cases h1 : c' < c + q
          · exact absurd hk0 (hno (c' - c) i0 p0 (by omega) h0 (by rw [show c + (c' - c) = c' by omega]; exact a3))
          · by_cases h2 : c' = c + q
            · exfalso
              have l2 := slot_live R.tab.ris a3
              rw [h2, live] at l2
              injection l2 with l2
              rw [← l2, hp] at h0
              exact hk ((congrArg Prod.snd (Option.some.inj h0)).trans hk0)
            · omega
      by_cases hl : t.led = true
      · refine wp_if_neg (by simp [hl]) ?_
        try refine wpAny_bind (wpAny_pure ?_)
        exact rest
      · refine wp_if_pos (by simp [hl]) ?_
        refine wpAny_bind (seen_tup hx (fun y hy => ?_) ?_)
        · obtain ⟨e1, he1, rfl⟩ := List.mem_map.mp hy
          have he2 : e1 ∈ es.toList := by
            have h1 : e1 ∈ es ∧ e1.1 = thash P w k := by simpa using he1
            simpa using h1.1
          rw [R.rows] at he2
          obtain ⟨p2, hp2, rfl⟩ := List.mem_map.mp he2
          exact ⟨p2.2, p2.1, rfl, R.tup p2 hp2⟩
        · refine wp_if_neg (by decide) ?_
          try refine wpAny_bind (wpAny_pure ?_)
          exact rest
    · rw [e]
      dsimp only
      refine wpAny_pure (hout (fun hm => ?_) _)
      obtain ⟨p0, h0, hk0⟩ := List.mem_map.mp hm
      obtain ⟨i0, hi0, e0⟩ := List.getElem_of_mem h0
      have h00 : L[i0]? = some p0 := by rw [List.getElem?_eq_getElem hi0, e0]
      obtain ⟨c', a1, a2, a3⟩ := hre i0 p0 h00 hk0
      exact hno (c' - c) i0 p0 (by omega) h00 (by rw [show c + (c' - c) = c' by omega]; exact a3) hk0
theorem look_at (R : SetTR P w s.heap a L es ep t) {x : Addr} {k : List Int} (hx : IsT P w s.heap k x) (hu : A.units < cLine) {Q : SetFound → Shared → Prop} (hin : k ∈ L.map (·.2) → ∀ i, Q (.there (some i)) s) (hout : k ∉ L.map (·.2) → ∀ j, Q (.free j false) s) :
    wpAny (model P w) A (setSearch a (.ref x) (thash P w k)) Q E s := by
  have hroom := R.room
  obtain ⟨K, hKf, hK, hKb⟩ := R.tab.first (by rw [List.length_map]; omega) (thash P w k)
  have hbig : K < 100000 := by
    have : 10 * SetTable.turns t.mask ≤ 1420 := by
      unfold SetTable.turns
      rcases R.tab.mok with e | e | e <;> omega
    omega
  unfold setSearch
  refine look_from R hx hu hKf hK hKb hin hout 100000 0 none rfl (Nat.zero_le _) (by omega) fun i p hp hk => ?_
  have hi : (L.map fun p => thash P w p.2)[i]? = some (thash P w k) := by rw [List.getElem?_map, hp, ← hk]; rfl
  have hil : i < t.place.toList.length := by
    have h1 : i < L.length := (List.getElem?_eq_some_iff.mp hp).1
    have h2 := R.tab.sz
    rw [List.length_map] at h2
    rw [Array.length_toList]
    omega
  obtain ⟨c, hc, e⟩ := R.tab.before hK hi (List.getElem?_eq_getElem hil)
  exact ⟨c, Nat.zero_le _, hc, by rw [List.getElem?_eq_getElem hil, e]⟩
/-- x in s at the model's level -/
theorem find_tup (R : SetTR P w s.heap a L es ep t) {x : Addr} {k : List Int} (hx : IsT P w s.heap k x) (hu : A.units < cLine) {Q : Option Nat → Shared → Prop} (h : ∀ r, r.isSome = decide (k ∈ L.map (·.2)) → Q r s) :
    wpAny (model P w) A (setFind a (.ref x) (thash P w k)) Q E s := by
  obtain ⟨o, ho, hex, hd⟩ := R.ob
  unfold setFind
  rw [show (100000 : Nat) = 99999 + 1 from rfl]
  unfold setFindIn
  refine wpAny_bind (wpAny_setState_of ho hd R.fits ?_)
  dsimp only
  refine wp_if_neg (by simp [byScan, Value.scannable]) ?_
  try refine wpAny_bind (wpAny_pure ?_)
  refine wpAny_bind (look_at R hx hu (fun hm i => ?_) fun hm j => ?_)
  · exact wpAny_pure (h _ (by rw [decide_eq_true hm]; rfl))
  · exact wpAny_pure (h _ (by rw [decide_eq_false hm]; rfl))
end
section
variable {X : Cx}
theorem setTO_got {pins : List (Addr × Obj)} {σ : L2.St} {H : Hp} {s : Shared} {a : Addr} {L : List (Addr × List Int)} (I : Inv X pins σ H s) (ha : H a = some (SetTO X.prog X.w a L)) (hk : ∀ p ∈ L, H p.1 = some (.tup (p.2.map V.int))) :
    ∃ es ep t, SetTR X.prog X.w s.heap a L es ep t := (I.hok a _ ha).1.full fun p hp => I.isT (.inl (.inl (hk p hp)))
/-- set(), to be filled with tuples of ints -/
def rSet0T (P : Program) (w : World) : List V → Hp → VK → Prop := fun xs H Q => xs = [] ∧ ∀ p, H p = none → Q (.ref p) (upd H p (SetTO P w p []))
theorem cr_set0T : CallR X (.type "set") (rSet0T X.prog X.w) := by
  intro pins s σ H xs us Q I r h
  obtain ⟨rfl, q⟩ := h
  cases r
  refine setR_new fun _ => ?_
  exact ⟨.ref _, upd H s.heap.objs.size (SetTO X.prog X.w s.heap.objs.size []), I.laid (t' := s.toks) (fun b u e => Heap.get?_push_of_some _ e) (Nat.le_refl _) (setTO_new (setTR_fresh (Heap.get?_push_size _ rfl)).t0), rfl, q _ (I.hok.fresh (Nat.le_refl _))⟩
/-- t in s, t not in s -/
def rInT (P : Program) (w : World) (neg : Bool) : R2 := fun x y H Q => ∃ (b a : Addr) (k : List Int) (L : List (Addr × List Int)), x = .ref b ∧ y = .ref a ∧ H b = some (.tup (k.map V.int)) ∧ H a = some (SetTO P w a L) ∧ (∀ p ∈ L, H p.1 = some (.tup (p.2.map V.int))) ∧
  Q (.bl (if neg then !decide (k ∈ L.map (·.2)) else decide (k ∈ L.map (·.2)))) H
theorem contains_tup {P : Program} {w : World} {A : Around} {E : Value → Shared → Prop} {s : Shared} {a x : Addr} {L : List (Addr × List Int)} {es : Array (Int × Value)} {ep : Nat} {t : SetTable} {k : List Int} {Q : Bool → Shared → Prop}
    (R : SetTR P w s.heap a L es ep t) (hx : IsT P w s.heap k x) (hu : A.units + 64 < cLine) (h : ∀ tk, Q (decide (k ∈ L.map (·.2))) { s with toks := tk }) : wpAny (model P w) A (contains (.ref a) (.ref x)) Q E s := by
  obtain ⟨o, ho, hex, hd⟩ := id R.ob
  have ty : s.TypeIs (.ref a) "set" := ⟨o, ho, hex.1⟩
  have hu1 : A.in1.units < cLine := by
    show A.units + 1 < cLine
    omega
  unfold contains
  try with_reducible refine wpAny_holding ?_
  refine wpAny_bind (wpAny_specialOf ty F.slot_set_contains.lookup ?_)
  show wpAny _ _ (if (some (Value.builtin "set.__contains__") == some Value.none) = true then _ else _) _ E s
  rw [if_neg (by rw [beq_builtin_none]; exact Bool.false_ne_true)]
  refine wpAny_bind (wpAny_callSpecialUnlessNone?_slot (name := Str.ofString "__contains__") ty F.slot_set_contains
    (wpAny_call_entry F.slot_set_contains ty entry_set_contains ?_ (F.args_set_contains_2 _ _)))
  unfold Builtin.«frozenset.__contains__» Builtin.Frozenset.oneOther
  simp only [List.isEmpty_nil, bind_assoc]
  unfold Builtin.Frozenset.addrOf Builtin.Frozenset.withSetAsKey setContains
  refine wpAny_bind (wpAny_pure ?_)
  try dsimp only
  refine wpAny_bind (wpAny_pure ?_)
  try dsimp only
  refine wpAny_bind (wpAny_tryCatch ?_)
  refine wpAny_holding ?_
  refine wpAny_bind (wpAny_pyHash_tuple hu1 hx ?_)
  refine wpAny_bind (find_tup (s := { s with toks := s.toks + (k.length + 1) }) R hx hu1 fun r hr => ?_)
  refine wpAny_pure ?_
  show wpAny _ _ (ret (Value.bool r.isSome)) _ _ _
  rw [hr]
  exact wpAny_pure ⟨_, rfl, wpAny_truthy_bool (h _)⟩
theorem op_inT (hu : X.A.units + 64 < cLine) : OpR X (compareOp .In) (rInT X.prog X.w false) := by
  intro pins s σ H x y v u Q I rx ry h
  obtain ⟨b, a, k, L, rfl, rfl, hb, ha, hk, q⟩ := h
  cases rx
  cases ry
  obtain ⟨es, ep, t, R⟩ := setTO_got I ha hk
  show wpAny _ _ ((contains (Value.ref a) (Value.ref b)) >>= fun b => pure (Value.bool b)) _ _ s
  exact wpAny_bind (contains_tup R (I.isT (.inl (.inl hb))) hu fun tk => wpAny_pure ⟨.bl _, H, I.tok _, rfl, q⟩)
theorem op_notInT (hu : X.A.units + 64 < cLine) : OpR X (compareOp .NotIn) (rInT X.prog X.w true) := by
  intro pins s σ H x y v u Q I rx ry h
  obtain ⟨b, a, k, L, rfl, rfl, hb, ha, hk, q⟩ := h
  cases rx
  cases ry
  obtain ⟨es, ep, t, R⟩ := setTO_got I ha hk
  show wpAny _ _ ((contains (Value.ref a) (Value.ref b)) >>= fun b => pure (Value.bool !b)) _ _ s
  exact wpAny_bind (contains_tup R (I.isT (.inl (.inl hb))) hu fun tk => wpAny_pure ⟨.bl _, H, I.tok _, rfl, q⟩)
/-- s.add(t) -/
def rAddT (P : Program) (w : World) : V → List V → Hp → VK → Prop := fun x xs H Q => ∃ (b a : Addr) (k : List Int) (L : List (Addr × List Int)), x = .ref a ∧ xs = [.ref b] ∧ H b = some (.tup (k.map V.int)) ∧ H a = some (SetTO P w a L) ∧ (∀ p ∈ L, H p.1 = some (.tup (p.2.map V.int))) ∧ L.length + 1 < 64 ∧
  ∀ L', (k ∈ L.map (·.2) → L' = L) → (k ∉ L.map (·.2) → L'.Perm ((b, k) :: L)) → Q .non (upd H a (SetTO P w a L'))
theorem mt_addT (hu : X.A.units + 64 < cLine) : MtR X "set.add" (rAddT X.prog X.w) := by
  intro pins s σ H x xs v us Q I rx rxs h
  obtain ⟨b, a, k, L, rfl, rfl, hb, ha, hk, hl, q⟩ := h
  cases rx
  cases rxs with
  | cons ry rt =>
    cases rt
    cases ry
    obtain ⟨es, ep, t, R⟩ := setTO_got I ha hk
    obtain ⟨o, ho, hex, hd⟩ := id R.ob
    have ty : s.TypeIs (.ref a) "set" := ⟨o, ho, hex.1⟩
    have hx := I.isT (.inl (.inl hb)) (b := b) (k := k)
    refine wpAny_call_entry F.slot_set_add ty F.entry_set_add ?_ (F.args_set_add_2 _ _)
    have hu1 : X.A.in1.units < cLine := by
      show X.A.units + 1 < cLine
      omega
    unfold Builtin.«set.add» Builtin.Frozenset.oneOther
    simp only [List.isEmpty_nil, bind_assoc]
    unfold Builtin.Frozenset.addrOf setAdd
    refine wpAny_bind (wpAny_pure ?_)
    try dsimp only
    refine wpAny_bind (wpAny_pure ?_)
    try dsimp only
    refine wpAny_bind ?_
    refine wpAny_holding ?_
    refine wpAny_bind (wpAny_pyHash_tuple hu1 hx ?_)
    refine add_at (s := { s with toks := s.toks + (k.length + 1) }) R hx hu1 hl fun b' h' L' es' ep' t' sb R' c1 c2 => ?_
    show wpAny _ _ (ret Value.none) _ _ _
    obtain ⟨o', ho', _⟩ := R'.ob
    exact wpAny_pure ⟨_, rfl, .non, upd H a (SetTO X.prog X.w a L'), I.write (e := a) (t' := s.toks + (k.length + 1)) (by rw [ha]; trivial) (.inl rfl) (fun c u hc hu => (sb.2 c hc).trans hu) ⟨o', ho'⟩ (setTO_new R'.t0), rfl, q L' c1 c2⟩
def tAddT (P : Program) (w : World) (to : TE) (t : TA) : TE := fun σ H Q => to σ H fun x H1 => (∃ a L, x = V.ref a ∧ H1 a = some (SetTO P w a L)) ∧ t σ H1 fun xs H2 => rAddT P w x xs H2 Q
variable {o e : Expr} {to : TE} {t : TA} {apos cpos : Pos}
theorem pe_addT (hu : X.A.units + 64 < cLine) (ho : PE X o to) (ha : PA X [e] t)
    (hbase : attributeBase o "add" X.env (eval o X.env) = eval o X.env := by rfl)
    (hfew : ((backTo cpos (starEach [e] X.env)).all (fun x => !x.1) && (backToKw cpos (keywordEach [] X.env)).all (fun x => x.1.isSome)
      && decide (([e] : List Expr).length + ([] : List Keyword).length + (if ([] : List Keyword).isEmpty then 0 else 1) < 30)) = true := by rfl)
    (hline : (apos.endLine == cpos.line) = true := by rfl) (hs : starEach [e] X.env = (false, eval e X.env) :: starEach [] X.env := by rfl) :
    PE X (.Call (.Attribute o "add" apos) [e] [] cpos) (tAddT X.prog X.w to t) := by
  refine ⟨fun pins s σ H Q I h => wpAny_Call_method_late hbase hfew hline rfl (thn (ho.run pins s σ H _ I h) fun v s1 ⟨x, H1, I1, r1, ty, q1⟩ => ?_)⟩
  obtain ⟨a, L, rfl, hka⟩ := ty
  obtain ⟨_, _, _, ⟨ob, hob, hex, hd⟩, _⟩ := SetT0.ex (I1.hok a _ hka).1
  cases r1
  refine ⟨"set", "set.add", F.plainAttrs_set, F.slot_set_add, F.type_set_add, ⟨ob, hob, hex.1⟩, ?_, ?_⟩
  · intro a' e
    cases e
    exact ⟨ob, hob, hex.2.1⟩
  have hA := ha.run cpos pins s1 σ H1 _ I1 q1
  rw [hs] at hA ⊢
  refine Calls.callWith_builtin rfl (Calls.evalArgs_plain ?_)
  exact thn hA fun us s2 ⟨vs, H2, I2, r2, q2⟩ => mt_addT hu pins s2 σ H2 (.ref a) vs (.ref a) us Q I2 rfl r2 q2
end
end Cs

/-! for i, x in enumerate(v), v a list or a tuple -/
namespace Cs
open PySem PySem.Spec PyProof.Rows L2
theorem enum1_new {v : Value} {o : Obj} {G : Heap → Prop} (B : Begins v o G) :
    Meets (Builtin.«enumerate.__new__» ⟨[.type "enumerate", v], []⟩) (fun _ R s => G s.heap ∧
      R (.ok (.ret (.ref (s.heap.push o).objs.size))) { s with heap := (s.heap.push o).push { cls := .type "enumerate", data := .fields #[.none, .bool false, .ref s.heap.objs.size, rawInt 0, .none, .none] } }) :=
  .of_wp fun prog w A R s h => by
    obtain ⟨hp, g, d, tk, os⟩ := s
    obtain ⟨h1, h⟩ := h
    have hsub := sub_enumerate
    have it : ∀ {A' : Around} {E : Value → Shared → Prop} {Q : Value → Shared → Prop}, Q (.ref hp.objs.size) ⟨hp.push o, g, d, tk, os⟩ → wpAny (model prog w) A' (pyIter v) Q E ⟨hp, g, d, tk, os⟩ :=
      fun q => B.iter prog w _ _ ⟨hp, g, d, tk, os⟩ _ h1 q
    wp_walk using it
    refine wpAny_stack_any fun st => wpAny_pure ?_
    split
    · rename_i c _ _ _ _ _
      cases (c == Value.type "enumerate") <;> (wp_walk using it; exact ⟨_, rfl, h⟩)
    · wp_walk using it
      exact ⟨_, rfl, h⟩
section
variable {prog : Program} {w : World} {A : Around} {E : Value → Shared → Prop} {s : Shared}
theorem enum1_begins {v : Value} {o : Obj} {G : Heap → Prop} {Q : Value → Shared → Prop} (B : Begins v o G) (h1 : G s.heap)
    (h : ∀ h', IsEnum h' (s.heap.objs.size + 1) s.heap.objs.size 0 .none → h'.get? s.heap.objs.size = some o → (∀ b o, s.heap.get? b = some o → h'.get? b = some o) → Q (.ref (s.heap.objs.size + 1)) { s with heap := h' }) :
    wpAny (model prog w) A (call (.type "enumerate") [v]) Q E s := by
  refine callType_new F.called_enumerate (by decide) (F.typeCall_enumerate_1 _) (F.newCall_enumerate_1 _) (fun obj => F.args_object_init_2 obj _) F.entry_enumerate_new (enum1_new B) ⟨h1, ?_⟩
  have hz : (s.heap.push o).objs.size = s.heap.objs.size + 1 := Heap.size_push ..
  have he := Heap.get?_push_size (s.heap.push o) (o := { cls := .type "enumerate", data := .fields #[.none, .bool false, .ref s.heap.objs.size, rawInt 0, .none, .none] }) rfl
  show _ ∧ _
  rw [hz] at he ⊢
  exact ⟨⟨_, he, rfl⟩, h _ he (Heap.get?_push_of_some _ (Heap.get?_push_size _ B.free)) fun b o x => Heap.get?_push_of_some _ (Heap.get?_push_of_some _ x)⟩
end
/-- the items in new pairs with their index -/
def Iek (K : PySem.W.Frag) (k : Bool) (a : Addr) : It :=
  ⟨fun i H => ∃ (xs : List V) (x : V), Sqk K k H a xs ∧ xs[i]? = some x, fun i H v H' => ∃ T x, v = .ref T ∧ H T = none ∧ H' = upd H T (.tup [.int (i : Nat), x]) ∧ ∀ xs, Sqk K k H a xs → xs[i]? = some x, fun i H => ∃ xs : List V, Sqk K k H a xs ∧ xs.length = i⟩
theorem turn_ek {P : Program} {w : World} {K : PySem.W.Frag} {elts : List Expr} {kk : Nat} {tpos : Pos} {k : Bool} {a e it : Addr} (n1 : a ≠ it) (n2 : e ≠ it) (n3 : e ≠ a) :
    Turn P w K (.Tuple elts kk tpos) (Iek K k a) [e, it] e (fun i h => (∃ old, IsEnum h e it ((i : Nat) : Int) old) ∧ ItK k h it a i) where
  mem := by simp
  obj := fun i h st c hc => by
    obtain ⟨⟨old, he⟩, hi⟩ := st
    have e' : c = e ∨ c = it := by simpa using hc
    rcases e' with q | q
    · rw [q]; exact ⟨_, he, fun v q => nomatch q⟩
    · rw [q]; exact hi.obj
  keep := fun i h h' st k => ⟨st.1.imp fun old he => k e (by simp) _ he, st.2.at fun o q => k it (by simp) o q⟩
  item := by
    intro X hP hw hK hc i pins s σ H E I hf st hg
    subst hP hw hK
    obtain ⟨xs, x, hqx, hx⟩ := hg
    obtain ⟨its, rv, p⟩ := invK I hqx
    obtain ⟨u, hu, ru⟩ := rv.get hx
    have D := drawsK (prog := X.prog) (w := X.w) (A := X.A.in1) (I.ok.hd hc) k it a n1 its.toArray
    have l1 : i < its.length := (List.getElem?_eq_some_iff.mp hu).1
    have W := GoesN.enumFrom (elts := elts) (x1 := kk) (pos := tpos) 0 D e n2 (by simp [n2, n3]) (by simp)
    have st0 : (∃ old, IsEnum s.heap e it (0 + ((i : Nat) : Int)) old) ∧ ItK k s.heap it a i ∧ SeqK k s.heap a its.toArray := by
      rw [Int.zero_add]
      exact ⟨st.1, st.2, p⟩
    refine W.goes i s (fun v s2 => ∃ x H', Inv X pins σ H' s2 ∧ RelV x v ∧ (Iek X.K k a).yld i H x H' ∧ ((∃ old, IsEnum s2.heap e it ((i + 1 : Nat) : Int) old) ∧ ItK k s2.heap it a (i + 1)) ∧ ∀ b ∈ [e, it], H' b = none) E (by simpa using l1) st0 fun v h' tk hY st' hk htk => ?_
    obtain ⟨T, tk0, v1, rfl, hT, e1, hTu⟩ := hY
    have q1 : v1 = u := by
      have e1' : its[i]? = some v1 := by simpa using e1
      rw [hu] at e1'; exact (Option.some.inj e1').symm
    subst q1
    have new : ObjOk X.prog X.w (upd H T (.tup [.int (i : Nat), x])) h' T (.tup [.int (i : Nat), x]) :=
      ⟨by show 2 ≤ sizeLine; decide, [.int (0 + (i : Int)) tk0, v1], .cons ⟨tk0, by rw [Int.zero_add]⟩ (.cons ru .nil), hTu⟩
    have I1 : Inv X pins σ (upd H T (.tup [.int (i : Nat), x])) { s with heap := h', toks := tk } :=
      I.turnedNew (t' := tk) (ch := [e, it]) (fun c o hb q => hk c o hb q) hf hT new
    refine ⟨.ref T, _, I1, rfl, ⟨T, x, rfl, I.hok.fresh hT, rfl, fun l hl => by rw [injK I hl hqx]; exact hx⟩, ⟨by have z := st'.1; rw [Int.zero_add] at z; exact z, st'.2.1⟩, fun c hcm => ?_⟩
    have hlt : c < s.heap.objs.size := by
      obtain ⟨⟨old, he⟩, hi⟩ := st
      have e' : c = e ∨ c = it := by simpa using hcm
      rcases e' with q | q
      · rw [q]; exact Heap.lt_size he
      · rw [q]; obtain ⟨_, e1, _⟩ := hi.obj; exact Heap.lt_size e1
    rw [upd_ne (Nat.ne_of_lt (Nat.lt_of_lt_of_le hlt hT))]
    exact (hf c hcm).1
  done := by
    intro X hP hw hK hc i pins s σ H E I hf st hg
    subst hP hw hK
    obtain ⟨xs, hqx, hi⟩ := hg
    obtain ⟨its, rv, p⟩ := invK I hqx
    have D := drawsK (prog := X.prog) (w := X.w) (A := X.A.in1) (I.ok.hd hc) k it a n1 its.toArray
    have W := GoesN.enumFrom (elts := elts) (x1 := kk) (pos := tpos) 0 D e n2 (by simp [n2, n3]) (by simp)
    have en : its.toArray.size = i := by
      have := rv.length
      simp only [List.size_toArray]
      omega
    have st0 : (∃ old, IsEnum s.heap e it (0 + ((its.toArray.size : Nat) : Int)) old) ∧ ItK k s.heap it a its.toArray.size ∧ SeqK k s.heap a its.toArray := by
      rw [en, Int.zero_add]
      exact ⟨st.1, st.2, p⟩
    refine W.stops s (fun s1 => Inv X pins σ H s1) E st0 fun h' tk hk htk => ?_
    exact I.turnedL (t' := tk) (ch := [e, it]) (fun c o hb q => hk c o (fun hm => hb (by simpa using hm)) q) hf
  self := fun A i s Q E st h => let ⟨⟨_, he⟩, _⟩ := st; wpAny_pyIter_enum he h
def YEn (xs : List V) : Nat → Hp → V → Hp → Prop := fun i H v H' => ∃ T x, v = .ref T ∧ H T = none ∧ H' = upd H T (.tup [.int (i : Nat), x]) ∧ xs[i]? = some x
theorem YEn.same {xs : List V} {i : Nat} {x : V} {H H' : Hp} (h : YEn xs i H x H') : Same H H' := by
  obtain ⟨T, y, _, hT, rfl, _⟩ := h
  exact Same.new hT
theorem walk_en {K : PySem.W.Frag} {k : Bool} {a : Addr} {xs : List V} : Walk (Iek K k a) xs.length (fun H => Sqh k H a xs) (YEn xs) := by
  refine ⟨fun i _ hi q => ⟨xs, xs[i], q.sqk, List.getElem?_eq_getElem hi⟩, fun _ q => ⟨xs, q.sqk, rfl⟩, fun i H v H' _ q y => ?_⟩
  obtain ⟨T, x, h1, h2, h3, h4⟩ := y
  exact ⟨T, x, h1, h2, h3, h4 xs q.sqk⟩
def iEnH (ta : TA) : TI := fun σ H R => ta σ H fun vs H1 => ∃ a, vs = [.ref a] ∧ ∃ (k : Bool) (xs : List V), Sqh k H1 a xs ∧ ∀ J : It, Walk J xs.length (fun H => Sqh k H a xs) (YEn xs) → R J H1
theorem pi_enH {X : Cx} {e : Expr} {ta : TA} {p pos tpos : Pos} {elts : List Expr} {kk : Nat} (hg : Gl X "enumerate") (hm : X.mg "enumerate" = none) (ha : PA X [e] ta) (hs : starEach [e] X.env = [(false, eval e X.env)] := by rfl) :
    PI X (.Tuple elts kk tpos) (.Call (.Name "enumerate" p) [e] [] pos) (iEnH ta) := by
  refine ⟨fun pins s σ H R I h => ?_⟩
  refine Call_ (ld_blt I hg hm boot_enumerate (PyProof.Rows.callWith_type1 (thn (ha.run pos pins s σ H _ I h) fun us s1 ⟨vs, H1, I1, r1, q1⟩ => ?_) hs rfl))
  obtain ⟨a, ex, k, xs, hq, q⟩ := q1
  subst ex
  have q := q (Iek X.K k a) walk_en
  cases r1 with
  | cons r rr =>
    cases rr
    cases r
    obtain ⟨its, rv, p'⟩ := invK I1 (hq.sqk (K := X.K))
    have la : a < s1.heap.objs.size := p'.lt
    refine enum1_begins (begK k a its.toArray) p' fun h' he hit hk => wpAny_pyIter_enum he ?_
    have I2 : Inv X pins σ H1 { s1 with heap := h' } := I1.kept (t' := s1.toks) hk
    refine ⟨s1.heap.objs.size + 1, [s1.heap.objs.size + 1, s1.heap.objs.size], _, _, H1, rfl, I2, turn_ek (k := k) (a := a) (Nat.ne_of_lt la) (Nat.succ_ne_self _) (Nat.ne_of_gt (Nat.lt_succ_of_lt la)), ⟨⟨.none, he⟩, ItK.new hit⟩, fun b hb => ?_, q⟩
    have e' : b = s1.heap.objs.size + 1 ∨ b = s1.heap.objs.size := by simpa using hb
    have hle : s1.heap.objs.size ≤ b := by
      rcases e' with z | z
      · rw [z]; exact Nat.le_add_right _ _
      · rw [z]; exact Nat.le_refl _
    exact I1.fpOk hle (I1.hok.fresh hle)
end Cs

namespace Cs
open PySem PySem.Spec PyProof.Rows L2
/-! ### readings that name the frame, for use within comprehensions -/
section
variable {X : Cx} {K : PySem.W.Frag}
theorem op_eqDK (h : X.K = K) (hu : X.A.units + 64 < cLine) : OpR X (compareOp .Eq) (rEqD K) := by subst h; exact op_eqD hu
theorem op_neDK (h : X.K = K) (hu : X.A.units + 64 < cLine) : OpR X (compareOp .NotEq) (rNeD K) := by subst h; exact op_neD hu
theorem op_inDK (h : X.K = K) (hu : X.A.units + 65 < cLine) : OpR X (compareOp .In) (rInD K) := by subst h; exact op_inD hu
theorem op_notInDK (h : X.K = K) (hu : X.A.units + 65 < cLine) : OpR X (compareOp .NotIn) (rNotInD K) := by subst h; exact op_notInD hu
theorem sl_listK (h : X.K = K) : SlR X (rSlL K) := by subst h; exact sl_list
theorem op_repAK (h : X.K = K) : OpR X (binaryOp .Mult) (rRepA K) := by subst h; exact op_repA
/-- xs[::-1] of a list -/
theorem pe_revLK (h : X.K = K) {e : Expr} {te : TE} {k : Nat} {p1 p2 p3 pos : Pos} (he : PE X e te) : PE X (.Subscript e (.Slice none none (some (.UnaryOp .USub (.Constant (.int 1) k p1) p2)) p3) pos) (tRevL K te) := by subst h; exact pe_revL he
end
end Cs

namespace Cs
open PySem PySem.Spec PyProof.Rows L2
/-! ### flat data -/
def dOf : V → PyData
  | .bl b => .bool b
  | .int i => .int i
  | .str x => .str x
  | _ => .none
def Flat0 : V → Prop
  | .non => True
  | .bl _ => True
  | .int _ => True
  | .str x => PyData.canLay0 (.str x) = true
  | _ => False
theorem dp_one {K : PySem.W.Frag} {H : Hp} : ∀ {v : V}, Flat0 v → Dp K H v (dOf v)
  | .non, _ => .non
  | .bl b, _ => .bl b
  | .int i, _ => .int i
  | .str x, _ => .str x
theorem dp_flat {K : PySem.W.Frag} {H : Hp} : ∀ {xs : List V}, (∀ v ∈ xs, Flat0 v) → DpAll K H xs (xs.map dOf)
  | [], _ => .nil
  | x :: xs, h => .cons (dp_one (h x (List.mem_cons_self ..))) (dp_flat fun v hv => h v (List.mem_cons_of_mem _ hv))
theorem lay_one {v : V} (h : Flat0 v) : PyData.canLay0 (dOf v) = true := by
  cases v with
  | str x => exact h
  | _ => rfl
theorem depth_one (v : V) : PyData.depth (dOf v) = 0 := by cases v <;> rfl
theorem lay_flat : ∀ {xs : List V}, (∀ v ∈ xs, Flat0 v) → PyData.canLayAll0 (xs.map dOf) = true
  | [], _ => rfl
  | v :: xs, h => by
    show (PyData.canLay0 (dOf v) && PyData.canLayAll0 (xs.map dOf)) = true
    rw [lay_one (h v (List.mem_cons_self ..)), lay_flat fun u hu => h u (List.mem_cons_of_mem _ hu)]
    rfl
theorem depth_flat : ∀ xs : List V, PyData.depthAll (xs.map dOf) = 0
  | [] => rfl
  | v :: xs => by
    show max (PyData.depth (dOf v)) (PyData.depthAll (xs.map dOf)) = 0
    rw [depth_one, depth_flat xs]
    rfl
theorem shaped_flat {xs : List V} (h : ∀ v ∈ xs, Flat0 v) : SeqAt.shaped (.list (xs.map dOf)) = true := by
  have h1 : PyData.canLay0 (.list (xs.map dOf)) = true := lay_flat h
  have h2 : PyData.depth (.list (xs.map dOf)) ≤ 64 := by
    show PyData.depthAll (xs.map dOf) + 1 ≤ 64
    rw [depth_flat]
    decide
  unfold SeqAt.shaped
  rw [h1, decide_eq_true h2]
  rfl
/-- xs != ys, two lists of the same flat things -/
theorem neD_flat {K : PySem.W.Frag} {H : Hp} {a b : Addr} {xs : List V} {Q : VK} (h1 : H a = some (.lst xs)) (h2 : H b = some (.lst xs)) (hf : ∀ v ∈ xs, Flat0 v) (q : Q (.bl false) H) : rNeD K (.ref a) (.ref b) H Q := by
  refine ⟨_, _, .lst (.inl (.inl h1)) (dp_flat hf), .lst (.inl (.inl h2)) (dp_flat hf), shaped_flat hf, shaped_flat hf, ?_⟩
  have e : PyData.eqv (.list (xs.map dOf)) (.list (xs.map dOf)) = true := SeqAt.eqv_refl _ (lay_flat hf)
  rw [e]
  exact q
theorem eqD_flat {K : PySem.W.Frag} {H : Hp} {a b : Addr} {xs : List V} {Q : VK} (h1 : H a = some (.lst xs)) (h2 : H b = some (.lst xs)) (hf : ∀ v ∈ xs, Flat0 v) (q : Q (.bl true) H) : rEqD K (.ref a) (.ref b) H Q := by
  refine ⟨_, _, .lst (.inl (.inl h1)) (dp_flat hf), .lst (.inl (.inl h2)) (dp_flat hf), shaped_flat hf, shaped_flat hf, ?_⟩
  have e : PyData.eqv (.list (xs.map dOf)) (.list (xs.map dOf)) = true := SeqAt.eqv_refl _ (lay_flat hf)
  rw [e]
  exact q
/-! ### t[::-1] of a tuple -/
section
variable {P : Program} {w : World} {A : Around} {E : Value → Shared → Prop} {s : Shared}
theorem back_adjust (n : Nat) : Builtin.Slice.sliceAdjust none none (-1) (n : Int) = ((n : Int) - 1, -1) := by
  have neg1 : ((-1 : Int) < 0) := by decide
  unfold Builtin.Slice.sliceAdjust
  simp only [neg1, if_true]
theorem back_places (n : Nat) : Builtin.Slice.slicePlaces ((n : Int) - 1) (-1) (-1) = n := by
  unfold Builtin.Slice.slicePlaces
  by_cases h : n = 0
  · subst h; decide
  · have e : ¬ ((-1 : Int) > 0) := by decide
    simp only [e, if_false, Int.neg_neg, Int.ediv_one]
    split <;> omega
theorem filterMap_cong {α β : Type} {f g : α → Option β} : ∀ {l : List α}, (∀ x ∈ l, f x = g x) → l.filterMap f = l.filterMap g
  | [], _ => rfl
  | x :: l, h => by
    rw [List.filterMap_cons, List.filterMap_cons, h x (List.mem_cons_self ..), filterMap_cong fun y hy => h y (List.mem_cons_of_mem _ hy)]
theorem back_pick (xs : Array Value) : ((List.range xs.size).filterMap fun (k : Nat) => xs[((xs.size : Int) - 1 + (k : Int) * (-1)).toNat]?).toArray = xs.toList.reverse.toArray := by
  have e : ((List.range xs.size).filterMap fun (k : Nat) => xs[((xs.size : Int) - 1 + (k : Int) * (-1)).toNat]?) = ((List.range xs.size).map fun k => xs.size - 1 - k).filterMap (xs[·]?) := by
    rw [List.filterMap_map]
    refine filterMap_cong fun k hk => ?_
    have hk := List.mem_range.mp hk
    show xs[((xs.size : Int) - 1 + (k : Int) * (-1)).toNat]? = xs[xs.size - 1 - k]?
    congr 1
    omega
  rw [e, PySem.W.krv_range, List.filterMap_reverse, PySem.W.krv_all]
theorem back_parts {sl : Addr} {vs : Value} {n : Nat} {Q : Int × Int × Nat → Shared → Prop} (hs : s.heap.IsSliceOf sl .none .none vs) (pt : IsPart vs (some (-1)))
    (q : Q ((n : Int) - 1, -1, n) s) : wpAny (model P w) A (Builtin.Slice.sliceApplied (.ref sl) (pure (n : Int))) Q E s := by
  obtain ⟨ob, g1, _, g3⟩ := id hs
  unfold Builtin.Slice.sliceApplied Builtin.Slice.sliceFields
  refine wpAny_bind (wpAny_bind ?_)
  refine wpAny_field g1 g3 (x := .none) rfl (wpAny_bind ?_)
  refine wpAny_field g1 g3 (x := .none) rfl (wpAny_bind ?_)
  refine wpAny_field g1 g3 (x := vs) rfl (wpAny_pure ?_)
  refine wpAny_bind (HT.slicePart_ pt ?_)
  show wpAny _ _ (if ((-1 : Int) == 0) = true then _ else _) _ _ s
  rw [if_neg (show ¬ ((-1 : Int) == 0) = true by decide)]
  refine wpAny_bind (HT.slicePart_ .none (wpAny_bind (HT.slicePart_ .none ?_)))
  refine wpAny_bind (wpAny_pure ?_)
  show wpAny _ _ (match Builtin.Slice.sliceAdjust none none (-1) (n : Int) with | (x, y) => pure (x, (-1 : Int), Builtin.Slice.slicePlaces x y (-1))) _ _ s
  rw [back_adjust]
  show wpAny _ _ (pure ((n : Int) - 1, (-1 : Int), Builtin.Slice.slicePlaces ((n : Int) - 1) (-1) (-1))) _ _ s
  rw [back_places]
  exact wpAny_pure q
theorem back_tuple {t sl : Addr} {xs : Array Value} {vs : Value} {Q : Value → Shared → Prop} (ht : IsTup s.heap t xs) (hs : s.heap.IsSliceOf sl .none .none vs) (pt : IsPart vs (some (-1))) (hz : xs.size ≤ sizeLine)
    (q : Q (.ref s.heap.objs.size) { s with heap := s.heap.push { cls := .type "tuple", data := .seq xs.toList.reverse.toArray } }) : wpAny (model P w) A (getItem (.ref t) (.ref sl)) Q E s := by
  have fits : sizeOk (.seq xs.toList.reverse.toArray) := by
    show xs.toList.reverse.toArray.size ≤ sizeLine
    simpa using hz
  obtain ⟨ob, g1, g2, _⟩ := id hs
  have isSl : s.TypeIs (.ref sl) "slice" := ⟨ob, g1, g2⟩
  unfold getItem
  try with_reducible refine wpAny_holding ?_
  first | refine wpAny_bind (wpAny_pure ?_) | skip
  refine wpAny_bind (wpAny_sequenceKey ht.typeIs (by decide) ?_)
  refine wpAny_bind (wpAny_callSpecial?_slot (name := Str.ofString "__getitem__") ht.typeIs PyProof.Rows.slot_tuple_getitem (wpAny_call_entry PyProof.Rows.slot_tuple_getitem ht.typeIs entry_tuple_getitem ?_ (args_tuple_getitem _ _)))
  show wpAny _ _ (Builtin.Tuple.tupleItemsOf (.ref t) >>= _) _ _ s
  refine wpAny_bind (tupleItemsOf_ ht (wpAny_bind (wpAny_typeOf isSl ?_)))
  rw [if_pos (show (Value.type "slice" == Value.type "slice") = true by decide)]
  refine wpAny_bind (back_parts hs pt ?_)
  show wpAny _ _ (if (((xs.size : Int) - 1) == 0 && (-1 : Int) == 1 && xs.size == xs.size) = true then _ else _) _ _ s
  have no : ¬ ((((xs.size : Int) - 1) == 0 && (-1 : Int) == 1 && xs.size == xs.size) = true) := by
    rw [show ((-1 : Int) == 1) = false by decide, Bool.and_false, Bool.false_and]
    decide
  rw [if_neg no, back_pick]
  first
    | exact wpAny_bind (m := Builtin.Tuple.tupleExact _) (wpAny_newObj_type (wpAny_pure ⟨_, rfl, wpAny_pure q⟩) fits)
    | exact wpAny_bind (m := Builtin.Tuple.tupleExact _) (wpAny_newObj_type (wpAny_bind (wpAny_pure (wpAny_pure ⟨_, rfl, wpAny_pure q⟩))) fits)
    | exact wpAny_bind (wpAny_bind (m := Builtin.Tuple.tupleExact _) (wpAny_newObj_type (wpAny_pure (wpAny_pure ⟨_, rfl, wpAny_pure q⟩)) fits))
    | exact wpAny_bind (wpAny_bind (m := Builtin.Tuple.tupleExact _) (wpAny_newObj_type (wpAny_pure ⟨_, rfl, wpAny_pure q⟩) fits))
end
theorem op_catTK {X : Cx} {K : PySem.W.Frag} (h : X.K = K) : OpR X (binaryOp .Add) (rCatT K) := by subst h; exact op_catT
/-- t[::-1] of a tuple -/
def tRevT (K : PySem.W.Frag) (te : TE) : TE := fun σ H Q => te σ H fun x H1 => ∃ a, x = .ref a ∧ ∃ xs, H1 a = some (.tup xs) ∧ ∀ p, H1 p = none → Q (.ref p) (upd H1 p (.tup xs.reverse))
theorem pe_revT {X : Cx} {K : PySem.W.Frag} (hK : X.K = K) {e : Expr} {te : TE} {k : Nat} {p1 p2 p3 pos : Pos} (he : PE X e te) : PE X (.Subscript e (.Slice none none (some (.UnaryOp .USub (.Constant (.int 1) k p1) p2)) p3) pos) (tRevT K te) := by
  subst hK
  refine ⟨fun pins s0 σ H Q I h => Subscript_ (thn (he.run pins s0 σ H _ I h) fun v s x => ?_)⟩
  obtain ⟨_, H1, I1, r1, a, rfl, xs, hx, q⟩ := x
  cases r1
  have minus : PO X (some (.UnaryOp .USub (.Constant (.int 1) k p1) p2)) (tPart (tUn (rU fun i => .int (-i)) (tC (.int 1)))) := po_some (pe_un un_neg pe_int)
  refine wpAny_Slice (thn (po_none.run pins s σ H1 (fun o G => o = none ∧ G = H1) I1 ⟨rfl, rfl⟩) fun l1 s1 x => ?_)
  obtain ⟨_, _, I2, pl, rfl, rfl⟩ := x
  refine thn (po_none.run pins s1 σ _ (fun o G => o = none ∧ G = _) I2 ⟨rfl, rfl⟩) fun l2 s2 x => ?_
  obtain ⟨_, _, I3, pu, rfl, rfl⟩ := x
  refine thn (minus.run pins s2 σ _ (fun o G => o = some (-1) ∧ G = _) I3 ⟨1, rfl, -1, rfl, rfl, rfl⟩) fun l3 s3 x => ?_
  obtain ⟨_, H4, I4, pt, rfl, rfl⟩ := x
  cases pl
  cases pu
  generalize hs4 : ({ s3 with heap := s3.heap.push { cls := .type "slice", data := .fields #[.none, .none, l3] } } : Shared) = s4
  have I5 : Inv X pins σ H4 s4 := by
    rw [← hs4]
    exact I4.kept (t' := s3.toks) fun b ob y => Heap.get?_push_of_some _ y
  have isl : s4.heap.IsSliceOf s3.heap.objs.size .none .none l3 := by
    rw [← hs4]
    exact Heap.IsSliceOf.new s3.heap .none .none l3
  obtain ⟨its, r, ht, hz⟩ := I5.tuple (.inl (.inl hx))
  have hlen := r.length
  refine tail_any (ops := [.ref a, .ref s3.heap.objs.size]) ht.typeIs PyProof.Rows.slot_tuple_getitem.lookup ?_ (by with_unfolding_all rfl)
  refine back_tuple ht isl pt (by rw [List.size_toArray]; omega) ?_
  refine ⟨.ref s4.heap.objs.size, _, I5.laid (t' := s4.toks) (o := .tup xs.reverse) (fun b ob y => Heap.get?_push_of_some _ y) (Nat.le_refl _) ?_, rfl, q _ (I5.hok.fresh (Nat.le_refl _))⟩
  exact ⟨by rw [List.length_reverse]; exact hz, _, r.reverse, IsTup.new _ _⟩
end Cs

namespace Cs
open PySem PySem.Spec PyProof.Rows L2
/-! ### f(k = e, ..), no argument by its place -/
section
variable {X : Cx} {CX : CXT} {k : Nat} {f : Addr} {fd : FuncData} {ps ks : List Str} {sp : Sp} {E : XK} {x : Str} {p pos : Pos} {kws : List Keyword} {tk : TA} {g : List Value → List Value → List Value} {gV : List V → List V → List V}
def tCallK0 (j : Nat) (sp : Sp) (gV : List V → List V → List V) (E : XK) (tk : TA) : TE := fun σ H Q => tk σ H fun zs H1 => zs.length = j ∧ sp (gV [] zs) H1 Q E
theorem pe_callK0 (F : FnOk X.prog X.w X.K X.mg X.base CX k f fd ps sp) (hr : Room k X.A) (hg : Gl X x) (hm : X.mg x = some (.ref f)) (hk : PySem.W.keepIn X.K (.ref f) = true) (hb : KBn X.K fd ps 0 ks g gV) (hx : Passes CX X E) (hkw : PK X kws tk)
    (hall : (backToKw pos (keywordEach kws X.env)).all (·.1.isSome) = true := by rfl) (hks : (backToKw pos (keywordEach kws X.env)).filterMap (·.1) = ks := by rfl) (hdb : (x == ("__debug__" : Str)) = false := by decide)
    (hpl : ((backTo pos (starEach [] X.env)).any (·.1) || (backToKw pos (keywordEach kws X.env)).any (·.1.isNone)) = false := by rfl) : PE X (.Call (.Name x p) [] kws pos) (tCallK0 ks.length sp gV E tk) := by
  refine ⟨fun pins s σ H Q I h => wpAny_Call_Name_kw (ld_glob I hg hm ?_ hdb)⟩
  refine PySem.W.callWith_KW0 (h₀ := X.base) (first := []) I.ok.mod.kin hk hall ?_ hpl
  refine thn (hkw.run pos pins s σ H _ I h) fun ws s2 ⟨zs, H2, I2, rz, l2, q2⟩ => ⟨I2.kIn, ?_⟩
  rw [hks]
  exact run_fnN (us := []) (vs := []) F hr hb hx I2 .nil rz rfl l2 q2
end
end Cs

/-! Ck: l.extend(list); tuple + tuple of any length with K fixed. -/
namespace Cs
open PySem PySem.Spec PyProof.Rows L2
theorem op_catAK {X : Cx} {K : PySem.W.Frag} (h : X.K = K) : OpR X (binaryOp .Add) (rCatA K) := by subst h; exact op_catA
section
variable {X : Cx}
/-- l.extend(e), e a list -/
def tExtend (to : TE) (t : TA) : TE := fun σ H Q => to σ H fun x H1 => ∃ p, x = .ref p ∧ ∃ xs, H1 p = some (.lst xs) ∧ t σ H1 fun vs H2 => ∃ b, vs = [.ref b] ∧ ∃ ys zs, H2 p = some (.lst ys) ∧ H2 b = some (.lst zs) ∧ ys.length + zs.length ≤ sizeLine ∧ Q .non (upd H2 p (.lst (ys ++ zs)))
theorem pe_extendL {o e : Expr} {to : TE} {t : TA} {apos cpos : Pos} (ho : PE X o to) (ha : PA X [e] t)
    (hbase : attributeBase o "extend" X.env (eval o X.env) = eval o X.env := by rfl)
    (hfew : ((backTo cpos (starEach [e] X.env)).all (fun x => !x.1) && (backToKw cpos (keywordEach [] X.env)).all (fun x => x.1.isSome)
      && decide (([e] : List Expr).length + ([] : List Keyword).length + (if ([] : List Keyword).isEmpty then 0 else 1) < 30)) = true := by rfl)
    (hline : (apos.endLine == cpos.line) = true := by rfl) (hs : starEach [e] X.env = (false, eval e X.env) :: starEach [] X.env := by rfl) :
    PE X (.Call (.Attribute o "extend" apos) [e] [] cpos) (tExtend to t) := by
  refine ⟨fun pins s σ H Q I h => ?_⟩
  refine wpAny_Call_method_late hbase hfew hline rfl (thn (ho.run pins s σ H _ I h) fun v s1 ⟨x, H1, I1, r1, p, ex, xs, hp, q1⟩ => ?_)
  subst ex
  have ty : tyV X.K "list" (.ref p) H1 := .inl ⟨rfl, xs, .inl (.inl hp)⟩
  obtain ⟨h1, h2⟩ := tyV_is I1 r1 ty
  refine ⟨"list", _, PySem.F.plainAttrs_list, PySem.F.slot_list_extend, PySem.F.type_list_extend, h1, h2, ?_⟩
  have hA := ha.run cpos pins s1 σ H1 _ I1 q1
  rw [hs] at hA ⊢
  refine Calls.callWith_builtin (by rfl) (Calls.evalArgs_plain ?_)
  refine thn hA fun us s2 ⟨vs, H2, I2, r2, b, e2, ys, zs, hp2, hb, hz, q2⟩ => ?_
  exact mt_extend pins s2 σ H2 (.ref p) vs v us Q I2 r1 r2 ⟨p, b, ys, zs, rfl, e2, hp2, hb, hz, q2⟩
end
end Cs

namespace Cs
open PySem PySem.Spec PyProof.Rows L2
/-! ### set(xs) of a list of ints -/
section
variable {P : Program} {w : World} {A : Around} {E : Value → Shared → Prop} {s : Shared}
abbrev bareSet (w : World) : Obj := { cls := .type "set", dict := none, data := .set #[] 0 (.fresh 0 0 (!w.params.followText "set-order")) }
/-- the heap with a new set -/
abbrev withSet (w : World) (h : Heap) : Heap := h.push (bareSet w)
/-- what stood still stands; the set at n holds what ns holds -/
def Filled (w : World) (s : Shared) (ns : List Int) (s2 : Shared) : Prop := ∃ h' tk c, s2 = { s with heap := h', toks := tk } ∧ SetR w h' s.heap.objs.size (fun j => decide (j ∈ ns)) c ∧ c ≤ ns.length ∧ ∀ b o, s.heap.get? b = some o → h'.get? b = some o
theorem call_setL {l : Addr} {items : Array Value} {ns : List Int} {Q : Value → Shared → Prop} (calm : A.handled = none) (hl : s.heap.IsList l items) (vals : IntsAre items.toList ns) (few : ns.length + 1 < scanBound)
    (q : ∀ s2, Filled w s ns s2 → Q (.ref s.heap.objs.size) s2) : wpAny (model P w) A (call (.type "set") [.ref l]) Q E s := by
  have count : items.size = ns.length := by have e := IntsAre.length vals; rwa [Array.length_toList] at e
  obtain ⟨_, _, hmro⟩ := F.called_set.mro
  have hmade := F.called_set.made; have hsub := F.called_set.sub
  refine wpAny_call (codeAny_of_tree (show wpAny _ _ (callAny (.type "set") _) _ _ _ from ?_))
  refine wpAny_pure ⟨Code.quiet_builtin _ (show _ by decide +kernel), codeAny_builtin F.entry_type_call ?_⟩
  rw [Around.under_plain (weight_type_call_type "set" [Value.ref l] []) rfl]
  have u1 := F.called_set.notType; have u2 := F.called_set.canCreate; have u3 := F.typeCall_set_1 (.ref l)
  repeat (any_goals (first | assumption | wp_step))
  refine codeAny_mono (code_set_led1 (.ref l) (E := E) (Q₁ := fun x s1 => x = .ref s.heap.objs.size ∧ s1 = { s with heap := withSet w s.heap }) ⟨rfl, rfl⟩) fun r s1 hr => ?_
  match r, hr with
  | .error e, hr => exact hr
  | .ok (.ret x), hr =>
    obtain ⟨rfl, rfl⟩ := hr
    have fS : (withSet w s.heap).get? s.heap.objs.size = some (bareSet w) := Heap.get?_push_size _ rfl
    have tS : Shared.TypeIs { s with heap := withSet w s.heap } (.ref s.heap.objs.size) "set" := ⟨_, fS, rfl⟩
    have u4 := F.called_set.init.lookup; have u5 := F.called_set.init.bind (.ref s.heap.objs.size)
    repeat (any_goals (first | assumption | wp_step))
    refine codeAny_mono (codeAny_call_builtin (R := wants (fun r s2 => r = .none ∧ Filled w s ns s2) E) F.called_set.init.plain F.entry_set_init (check_set_init_1 tS ?_)) fun r s2 hr => ?_
    · obtain ⟨⟨cl, dc, dt, sl⟩, fl, e1, nl, e2⟩ := hl
      simp only at e1 e2
      subst e1 e2
      have fl2 : (withSet w s.heap).get? l = some { cls := .type "list", dict := dc, data := .seq items nl, slots := sl } := Heap.get?_push_of_some _ fl
      have v1 := F.sub_list_set; have v2 := F.sub_list_frozenset; have v3 : (Value.type "list" == Value.type "dict") = false := by decide
      have isl : (withSet w s.heap).IsList l items := ⟨_, fl2, rfl, nl, rfl⟩
      unfold Builtin.«set.__init__» noKeywords Builtin.Frozenset.updateFrom
      generalize hPI : pyIter = PI
      wp_walk
      subst hPI
      refine wpAny_pyIter_list isl (wpAny_bind (wpAny_runValue ?_))
      have lt := Heap.lt_size fl
      have size1 : (withSet w s.heap).objs.size = s.heap.objs.size + 1 := Heap.size_push ..
      have nI : l ≠ (withSet w s.heap).objs.size := by rw [size1]; exact Nat.ne_of_lt (Nat.lt_succ_of_lt lt)
      have nS : s.heap.objs.size ∉ [(withSet w s.heap).objs.size, l] := by
        rw [size1]
        intro hm
        rcases List.mem_cons.mp hm with e | hm
        · exact Nat.ne_of_lt (Nat.lt_succ_self _) e
        · exact Nat.ne_of_gt lt (List.mem_singleton.mp hm)
      have read : ∀ (i : Nat) (v : Value), items[i]? = some v → ∃ k t, ns[i]? = some k ∧ v = .int k t := by
        intro i v hv
        have hi := (Array.getElem?_eq_some_iff.mp hv).1
        rw [count] at hi
        obtain ⟨t, e⟩ := PyProof.Rows.IntsAre.int_at vals i v (by rw [Array.getElem?_toList]; exact hv)
        exact ⟨ns[i], t, List.getElem?_eq_getElem hi, by rw [e, List.getD_eq_getElem?_getD, List.getElem?_eq_getElem hi] <;> rfl⟩
      refine set_update_ints ((Walks.list (by simp [calm]) _ l nI items).toS) s.heap.objs.size nS ns count few read (items.size - 0) 0 _ (by omega) (Nat.zero_le _) ⟨⟨_, Heap.get?_push_size _ rfl, rfl, rfl⟩, isl.push _⟩ ?start ?last
      case start =>
        exact ⟨0, Nat.le_refl 0, setR_new_at (Heap.get?_push_of_some _ fS)⟩
      case last =>
        rintro ⟨h2, g2, d2, t2, o2⟩ c mv few2 full
        obtain rfl : g2 = s.gens := mv.gens
        obtain rfl : d2 = s.drawn := mv.drawn
        obtain rfl : o2 = s.os := mv.os
        show wpAny _ _ _ _ _ _
        refine wpAny_pure (show wpAny _ _ (ret Value.none) _ _ _ from ?_)
        refine wpAny_pure ⟨rfl, h2, t2, c, rfl, full, by rw [← count]; exact few2, fun b o e => ?_⟩
        have lb := Heap.lt_size e
        refine mv.heap b o (fun hm => ?_) (Heap.get?_push_of_some _ (Heap.get?_push_of_some _ e))
        rcases List.mem_cons.mp hm with e | hm
        · exact Nat.ne_of_lt lb e
        · have e := List.mem_singleton.mp hm
          rw [size1] at e
          exact Nat.ne_of_lt (Nat.lt_succ_of_lt lb) e
    · match r, hr with
      | .error e, hr => exact hr
      | .ok (.ret x), hr =>
        obtain ⟨rfl, fil⟩ := hr
        have Qe := q s2 fil
        obtain ⟨h2, t2, c2, rfl, f1, f2, f3⟩ := id fil
        repeat (any_goals (first | assumption | wp_step))
      | .ok .next, hr => exact hr.elim
      | .ok .brk, hr => exact hr.elim
      | .ok .cont, hr => exact hr.elim
  | .ok .next, hr => exact hr.elim
  | .ok .brk, hr => exact hr.elim
  | .ok .cont, hr => exact hr.elim
end
/-- set(xs) of a list of ints -/
def rSetLI (w : World) : List V → Hp → VK → Prop := fun vs H Q => ∃ l : Addr, vs = [.ref l] ∧ ∃ ns : List Int, H l = some (.lst (ns.map V.int)) ∧ ns.length ≤ 1000 ∧ ∀ p c, H p = none → c ≤ ns.length → Q (.ref p) (upd H p (SetO w p (fun j => decide (j ∈ ns)) c))
theorem cr_setLI {X : Cx} (hc : X.calm = true) : CallR X (.type "set") (rSetLI X.w) := by
  intro pins s σ H vs us Q I r h
  obtain ⟨l, rfl, ns, hl, few, q⟩ := h
  rw [Vals.ref1 r]
  obtain ⟨its, r2, ht, hz⟩ := I.list (.inl (.inl hl))
  refine call_setL (I.ok.hd hc) ht.isList (intsAre_of r2) (Nat.lt_of_le_of_lt (Nat.succ_le_succ few) (by decide)) fun s2 fil => ?_
  obtain ⟨h2, t2, c, rfl, f1, f2, f3⟩ := fil
  exact ⟨.ref _, _, I.laid (t' := t2) f3 (Nat.le_refl _) (setO_new f1), rfl, q _ c (I.hok.fresh (Nat.le_refl _)) f2⟩
/-- sorted(set) -/
def rSortLI (w : World) : List V → Hp → VK → Prop := fun vs H Q => ∃ (a : Addr) (S : Int → Bool) (n : Nat), vs = [V.ref a] ∧ H a = some (SetO w a S n) ∧ n < 64 ∧ ∀ (ns : List Int) (p : Addr), ns.Pairwise (· < ·) → (∀ k : Int, k ∈ ns ↔ S k = true) → ns.length = n → H p = none → Q (.ref p) (upd H p (.lst (ns.map V.int)))
theorem cr_sortLI {X : Cx} (hc : X.calm = true) : CallR X (.builtin "sorted") (rSortLI X.w) := cr_sortedSet hc
end Cs

/-! Cl: l.clear(), l.reverse(), l.pop(); set(xs) of a list or a tuple of tuples of ints. -/
namespace Cs
open PySem PySem.Spec PyProof.Rows L2
section
variable {X : Cx}
/-- o.name(), o a list -/
theorem list0_run {name : Str} {id : String} {r : V → List V → Hp → VK → Prop} {o : Expr} {to : TE} {apos cpos : Pos} (slot : Slot "list" name id) (hty : typeOf (.builtin id) = pure (.type "method_descriptor")) (hm : MtR X id r) (ho : PE X o to)
    (hbase : attributeBase o name X.env (eval o X.env) = eval o X.env) (hline : (apos.endLine == cpos.line) = true) :
    PE X (.Call (.Attribute o name apos) [] [] cpos) (fun σ H Q => to σ H fun x H1 => ∃ p, x = .ref p ∧ ∃ xs, H1 p = some (.lst xs) ∧ r (.ref p) [] H1 Q) := by
  refine ⟨fun pins s σ H Q I h => wpAny_Call_method0_late hbase hline (thn (ho.run pins s σ H _ I h) fun v s1 y => ?_)⟩
  obtain ⟨x, H1, I1, r1, p, rfl, xs, hp, q⟩ := y
  have ty : tyV X.K "list" (.ref p) H1 := .inl ⟨rfl, xs, .inl (.inl hp)⟩
  obtain ⟨g1, g2⟩ := tyV_is I1 r1 ty
  exact ⟨"list", id, PySem.F.plainAttrs_list, slot, hty, g1, g2, Calls.callWith_builtin rfl (PySem.evalArgs_none (hm pins s1 σ H1 (.ref p) [] v [] Q I1 r1 .nil q))⟩
theorem _root_.L2.PE.weak {e : Expr} {t t' : TE} (h : PE X e t) (m : ∀ σ H Q, t' σ H Q → t σ H Q) : PE X e t' := ⟨fun pins s σ H Q I q => h.run pins s σ H Q I (m σ H Q q)⟩
end
/-- readings of to are monotone in what is wanted -/
def MonT (to : TE) : Prop := ∀ σ H (Q Q' : VK), (∀ x H1, Q x H1 → Q' x H1) → to σ H Q → to σ H Q'
theorem mon_var (i : Nat) : MonT (tVar i) := fun σ H Q Q' m ⟨v, e, q⟩ => ⟨v, e, m _ _ q⟩
def tClear (to : TE) : TE := fun σ H Q => to σ H fun x H1 => ∃ p, x = .ref p ∧ ∃ xs, H1 p = some (.lst xs) ∧ Q .non (upd H1 p (.lst []))
def tRever (to : TE) : TE := fun σ H Q => to σ H fun x H1 => ∃ p, x = .ref p ∧ ∃ xs, H1 p = some (.lst xs) ∧ Q .non (upd H1 p (.lst xs.reverse))
def tPop0 (to : TE) : TE := fun σ H Q => to σ H fun x H1 => ∃ p, x = .ref p ∧ ∃ xs, H1 p = some (.lst xs) ∧ ∃ y, xs[xs.length - 1]? = some y ∧ Q y (upd H1 p (.lst xs.dropLast))
section
variable {X : Cx} {o : Expr} {to : TE} {apos cpos : Pos}
theorem pe_clearL (ho : PE X o to) (mo : MonT to) (hbase : attributeBase o "clear" X.env (eval o X.env) = eval o X.env := by rfl) (hline : (apos.endLine == cpos.line) = true := by rfl) : PE X (.Call (.Attribute o "clear" apos) [] [] cpos) (tClear to) :=
  (list0_run PySem.F.slot_list_clear PySem.F.type_list_clear mt_clear ho hbase hline).weak fun σ H Q h => mo σ H _ _ (fun x H1 ⟨p, e, xs, hp, q⟩ => ⟨p, e, xs, hp, p, xs, rfl, rfl, hp, q⟩) h
theorem pe_reverL (ho : PE X o to) (mo : MonT to) (hbase : attributeBase o "reverse" X.env (eval o X.env) = eval o X.env := by rfl) (hline : (apos.endLine == cpos.line) = true := by rfl) : PE X (.Call (.Attribute o "reverse" apos) [] [] cpos) (tRever to) :=
  (list0_run PySem.F.slot_list_reverse PySem.F.type_list_reverse mt_reverse ho hbase hline).weak fun σ H Q h => mo σ H _ _ (fun x H1 ⟨p, e, xs, hp, q⟩ => ⟨p, e, xs, hp, p, xs, rfl, rfl, hp, q⟩) h
theorem pe_popL (ho : PE X o to) (mo : MonT to) (hbase : attributeBase o "pop" X.env (eval o X.env) = eval o X.env := by rfl) (hline : (apos.endLine == cpos.line) = true := by rfl) : PE X (.Call (.Attribute o "pop" apos) [] [] cpos) (tPop0 to) :=
  (list0_run PySem.F.slot_list_pop PySem.F.type_list_pop mt_pop ho hbase hline).weak fun σ H Q h => mo σ H _ _ (fun x H1 ⟨p, e, xs, hp, y, hy, q⟩ => ⟨p, e, xs, hp, p, xs, y, rfl, rfl, hp, hy, q⟩) h
end
/-! ### set(xs), xs a tuple of tuples of ints -/
section
variable {P : Program} {w : World} {A : Around} {E : Value → Shared → Prop} {s : Shared}
/-- what stood still stands; the set at the new place holds what ks holds -/
def FilledT (P : Program) (w : World) (s : Shared) (ks : List (Addr × List Int)) (s2 : Shared) : Prop := ∃ h' tk L es ep t, s2 = { s with heap := h', toks := tk } ∧ SetTR P w h' s.heap.objs.size L es ep t ∧ Got ks ks.length L ∧ ∀ b o, s.heap.get? b = some o → h'.get? b = some o
theorem call_setTT {l : Addr} {items : Array Value} {ks : List (Addr × List Int)} {Q : Value → Shared → Prop} (calm : A.handled = none) (hl : s.heap.IsTuple l items) (vals : items.toList = ks.map fun p => Value.ref p.1) (tups : ∀ p ∈ ks, IsT P w s.heap p.2 p.1) (few : ks.length < 64) (hu : A.units + 3 < cLine)
    (q : ∀ s2, FilledT P w s ks s2 → Q (.ref s.heap.objs.size) s2) : wpAny (model P w) A (call (.type "set") [.ref l]) Q E s := by
  have count : items.size = ks.length := by have e := congrArg List.length vals; rwa [Array.length_toList, List.length_map] at e
  obtain ⟨_, _, hmro⟩ := F.called_set.mro
  have hmade := F.called_set.made; have hsub := F.called_set.sub
  refine wpAny_call (codeAny_of_tree (show wpAny _ _ (callAny (.type "set") _) _ _ _ from ?_))
  refine wpAny_pure ⟨Code.quiet_builtin _ (show _ by decide +kernel), codeAny_builtin F.entry_type_call ?_⟩
  rw [Around.under_plain (weight_type_call_type "set" [Value.ref l] []) rfl]
  have u1 := F.called_set.notType; have u2 := F.called_set.canCreate; have u3 := F.typeCall_set_1 (.ref l)
  repeat (any_goals (first | assumption | wp_step))
  refine codeAny_mono (code_set_led1 (.ref l) (E := E) (Q₁ := fun x s1 => x = .ref s.heap.objs.size ∧ s1 = { s with heap := withSet w s.heap }) ⟨rfl, rfl⟩) fun r s1 hr => ?_
  match r, hr with
  | .error e, hr => exact hr
  | .ok (.ret x), hr =>
    obtain ⟨rfl, rfl⟩ := hr
    have fS : (withSet w s.heap).get? s.heap.objs.size = some (bareSet w) := Heap.get?_push_size _ rfl
    have tS : Shared.TypeIs { s with heap := withSet w s.heap } (.ref s.heap.objs.size) "set" := ⟨_, fS, rfl⟩
    have u4 := F.called_set.init.lookup; have u5 := F.called_set.init.bind (.ref s.heap.objs.size)
    repeat (any_goals (first | assumption | wp_step))
    refine codeAny_mono (codeAny_call_builtin (R := wants (fun r s2 => r = .none ∧ FilledT P w s ks s2) E) F.called_set.init.plain F.entry_set_init (check_set_init_1 tS ?_)) fun r s2 hr => ?_
    · obtain ⟨⟨cl, dc, dt, sl⟩, fl, e1, nl, e2⟩ := hl
      simp only at e1 e2
      subst e1 e2
      have fl2 : (withSet w s.heap).get? l = some { cls := .type "tuple", dict := dc, data := .seq items nl, slots := sl } := Heap.get?_push_of_some _ fl
      have v1 := F.sub_tuple_set; have v2 := F.sub_tuple_frozenset; have v3 : (Value.type "tuple" == Value.type "dict") = false := by decide
      have isl : (withSet w s.heap).IsTuple l items := ⟨_, fl2, rfl, nl, rfl⟩
      unfold Builtin.«set.__init__» noKeywords Builtin.Frozenset.updateFrom
      generalize hPI : pyIter = PI
      wp_walk
      subst hPI
      refine wpAny_pyIter_tuple isl (wpAny_bind (wpAny_runValue ?_))
      have lt := Heap.lt_size fl
      have size1 : (withSet w s.heap).objs.size = s.heap.objs.size + 1 := Heap.size_push ..
      have nI : l ≠ (withSet w s.heap).objs.size := by rw [size1]; exact Nat.ne_of_lt (Nat.lt_succ_of_lt lt)
      have nS : s.heap.objs.size ∉ [(withSet w s.heap).objs.size, l] := by
        rw [size1]
        intro hm
        rcases List.mem_cons.mp hm with e | hm
        · exact Nat.ne_of_lt (Nat.lt_succ_self _) e
        · exact Nat.ne_of_gt lt (List.mem_singleton.mp hm)
      have read : ∀ (i : Nat) (v : Value), items[i]? = some v → ∃ p, ks[i]? = some p ∧ v = .ref p.1 := by
        intro i v hv
        have e : items.toList[i]? = some v := by rw [Array.getElem?_toList]; exact hv
        rw [vals, List.getElem?_map, Option.map_eq_some_iff] at e
        obtain ⟨p, h1, h2⟩ := e
        exact ⟨p, h1, h2.symm⟩
      have nowhere : ∀ b, s.heap.objs.size ≤ b → s.heap.get? b = none := fun b hb => by
        cases e : s.heap.get? b with
        | none => rfl
        | some o => exact absurd (Heap.lt_size e) (Nat.not_lt.mpr hb)
      refine set_update_tups ((Walks.tuple (by simp [calm]) _ l nI items).toS) s.heap.objs.size nS ks count few read s.heap tups (nowhere _ (Nat.le_refl _)) (fun b hb => nowhere b (by rw [List.mem_singleton.mp hb, size1]; exact Nat.le_succ _)) hu
        (items.size - 0) 0 _ (by omega) (Nat.zero_le _) ⟨⟨_, Heap.get?_push_size _ rfl, rfl, rfl⟩, isl.push _⟩ (fun b o e => Heap.get?_push_of_some _ (Heap.get?_push_of_some _ e)) ?start ?last
      case start =>
        exact ⟨[], #[], 0, _, setTR_fresh (Heap.get?_push_of_some _ fS), Got.zero ks⟩
      case last =>
        rintro ⟨h2, g2, d2, t2, o2⟩ L es ep t mv full got kept
        obtain rfl : g2 = s.gens := mv.gens
        obtain rfl : d2 = s.drawn := mv.drawn
        obtain rfl : o2 = s.os := mv.os
        show wpAny _ _ _ _ _ _
        refine wpAny_pure (show wpAny _ _ (ret Value.none) _ _ _ from ?_)
        exact wpAny_pure ⟨rfl, h2, t2, L, es, ep, t, rfl, full, by rw [← count]; exact got, kept⟩
    · match r, hr with
      | .error e, hr => exact hr
      | .ok (.ret x), hr =>
        obtain ⟨rfl, fil⟩ := hr
        have Qe := q s2 fil
        obtain ⟨h2, t2, L, es, ep, t, rfl, f1, f2, f3⟩ := id fil
        repeat (any_goals (first | assumption | wp_step))
      | .ok .next, hr => exact hr.elim
      | .ok .brk, hr => exact hr.elim
      | .ok .cont, hr => exact hr.elim
  | .ok .next, hr => exact hr.elim
  | .ok .brk, hr => exact hr.elim
  | .ok .cont, hr => exact hr.elim
end
theorem zip_refs : ∀ {as : List Addr} {gs : List (List Int)}, as.length = gs.length → (as.zip gs).map (fun p => V.ref p.1) = as.map V.ref
  | [], [], _ => rfl
  | [], _ :: _, h => by simp at h
  | _ :: _, [], h => by simp at h
  | a :: as, g :: gs, h => by
    rw [List.zip_cons_cons, List.map_cons, List.map_cons, zip_refs (by simpa using h)]
theorem zip_at {H : Hp} {as : List Addr} {gs : List (List Int)} (h : AsT H as gs) : ∀ p ∈ as.zip gs, H p.1 = some (.tup (p.2.map V.int)) := fun p hp => by
  obtain ⟨i, hi, e⟩ := List.getElem_of_mem hp
  rw [List.getElem_zip] at e
  rw [← e]
  rw [List.length_zip] at hi
  exact h.2 i _ _ (List.getElem?_eq_getElem (by omega)) (List.getElem?_eq_getElem (by omega))
/-- set(xs), xs a list or a tuple of tuples of ints -/
def rSetTT (P : Program) (w : World) : List V → Hp → VK → Prop := fun vs H Q => ∃ (l : Addr) (k : Bool) (as : List Addr) (gs : List (List Int)), vs = [.ref l] ∧ Sqh k H l (as.map V.ref) ∧ AsT H as gs ∧ gs.length < 64 ∧
  ∀ a L, H a = none → (∀ p ∈ L, H p.1 = some (.tup (p.2.map V.int))) → (∀ g, g ∈ L.map (·.2) ↔ g ∈ gs) → Q (.ref a) (upd H a (SetTO P w a L))
theorem cr_setTT {X : Cx} (hc : X.calm = true) (hu : X.A.units + 64 < cLine) : CallR X (.type "set") (rSetTT X.prog X.w) := by
  intro pins s σ H vs us Q I r h
  obtain ⟨l, k, as, gs, rfl, hl, hA, few, q⟩ := h
  have hz := zip_refs hA.1
  have hzl : (as.zip gs).length = gs.length := by rw [List.length_zip, hA.1, Nat.min_self]
  have hzs : (as.zip gs).map (·.2) = gs := List.map_snd_zip (by rw [hA.1]; exact Nat.le_refl _)
  have fin : ∀ a L, H a = none → (∀ p ∈ L, p ∈ as.zip gs) → (∀ p ∈ as.zip gs, p.2 ∈ L.map (·.2)) → Q (.ref a) (upd H a (SetTO X.prog X.w a L)) := fun a L ha h1 h2 => by
    refine q a L ha (fun p hp => zip_at hA p (h1 p hp)) fun g => ⟨fun hg => ?_, fun hg => ?_⟩
    · obtain ⟨p, hp, rfl⟩ := List.mem_map.mp hg
      exact (List.of_mem_zip (h1 p hp)).2
    · rw [← hzs] at hg
      obtain ⟨p, hp, rfl⟩ := List.mem_map.mp hg
      exact h2 p hp
  cases k with
  | true =>
    have hl' : H l = some (.lst (as.map V.ref)) := hl
    exact cr_setOfT hc hu pins s σ H _ us Q I r ⟨l, as.zip gs, rfl, .inl (.inl (by rw [hz]; exact hl')), fun p hp => .inl (.inl (zip_at hA p hp)), by rw [hzl]; exact few, fin⟩
  | false =>
    have hl' : H l = some (.tup (as.map V.ref)) := hl
    rw [Vals.ref1 r]
    obtain ⟨its, rv, ht, hz2⟩ := I.tuple (.inl (.inl hl'))
    rw [← hz] at rv
    refine call_setTT (ks := as.zip gs) (I.ok.hd hc) (show s.heap.IsTuple l its.toArray from ht) (by simpa using refs_of_vals rv) (fun p hp => I.isT (.inl (.inl (zip_at hA p hp)))) (by rw [hzl]; exact few) (by omega) fun s2 fil => ?_
    obtain ⟨h2, t2, L, es, ep, t, rfl, f1, f2, f3⟩ := fil
    refine ⟨.ref _, _, I.laid (t' := t2) f3 (Nat.le_refl _) (setTO_new f1.t0), rfl, fin _ L (I.hok.fresh (Nat.le_refl _)) (fun p hp => ?_) fun p hp => ?_⟩
    · exact List.mem_of_mem_take (f2.sub p hp)
    · exact f2.all p (by rw [List.take_length]; exact hp)
end Cs

/-! Cm: zip of two of different lengths; sorted(list of tuples of ints). -/
namespace Cs
open PySem PySem.Spec PyProof.Rows L2
/-! ### for a, b in zip(x, y), the shorter one ends it -/
def Iz2m (K : PySem.W.Frag) (k1 k2 : Bool) (a b : Addr) : It := ⟨(Iz2 K k1 k2 a b).go, (Iz2 K k1 k2 a b).yld, fun i H => ∃ xs ys : List V, Sqk K k1 H a xs ∧ Sqk K k2 H b ys ∧ min xs.length ys.length = i⟩
theorem turn_z2m {P : Program} {w : World} {K : PySem.W.Frag} {elts : List Expr} {kk : Nat} {tpos : Pos} {k1 k2 : Bool} {a b z TI TO i1 i2 : Addr} (S : ZipSep2 z TI TO i1 i2 [i1, a] [i2, b]) (n1 : a ≠ i1) (n2 : b ≠ i2) :
    Turn P w K (.Tuple elts kk tpos) (Iz2m K k1 k2 a b) [z, TI, TO, i1, i2] z (fun i h => IsZip h z TI TO .none ∧ IsTupOf2 h TI (.ref i1) (.ref i2) ∧ (∃ x y, IsTupOf2 h TO x y) ∧ ItK k1 h i1 a i ∧ ItK k2 h i2 b i) where
  mem := (turn_z2 (P := P) (w := w) (K := K) (elts := elts) (kk := kk) (tpos := tpos) (k1 := k1) (k2 := k2) S n1 n2).mem
  obj := (turn_z2 (P := P) (w := w) (K := K) (elts := elts) (kk := kk) (tpos := tpos) (k1 := k1) (k2 := k2) S n1 n2).obj
  keep := (turn_z2 (P := P) (w := w) (K := K) (elts := elts) (kk := kk) (tpos := tpos) (k1 := k1) (k2 := k2) S n1 n2).keep
  item := (turn_z2 (P := P) (w := w) (K := K) (elts := elts) (kk := kk) (tpos := tpos) (k1 := k1) (k2 := k2) S n1 n2).item
  done := by
    intro X hP hw hK hc i pins s σ H E I hf st hg
    subst hP hw hK
    obtain ⟨xs, ys, hqx, hqy, hi⟩ := hg
    obtain ⟨its, rv, p⟩ := invK I hqx
    obtain ⟨its2, rv2, p2⟩ := invK I hqy
    have hh : X.A.handled = none := I.ok.hd hc
    have D1 := drawsK (prog := X.prog) (w := X.w) (A := X.A.in1) hh k1 i1 a n1 its.toArray
    have D2 := drawsK (prog := X.prog) (w := X.w) (A := X.A.in1) hh k2 i2 b n2 its2.toArray
    have W := GoesN.zip2 (elts := elts) (x1 := kk) (pos := tpos) S D1 D2
    have l1 := rv.length
    have l2 := rv2.length
    have en : min its.toArray.size its2.toArray.size = i := by simp only [List.size_toArray]; omega
    have g1 : ItK k1 s.heap i1 a (min its.toArray.size its2.toArray.size) := by rw [en]; exact st.2.2.2.1
    have g2 : ItK k2 s.heap i2 b (min its.toArray.size its2.toArray.size) := by rw [en]; exact st.2.2.2.2
    refine W.stops s (fun s1 => Inv X pins σ H s1) E ⟨st.1, st.2.1, st.2.2.1, ⟨g1, p⟩, g2, p2⟩ fun h' tk hk htk => ?_
    refine I.turnedL (t' := tk) (ch := [z, TI, TO, i1, i2]) (fun c o hb q => hk c o (fun hm => hb ?_) q) hf
    simp only [List.mem_cons, List.mem_nil_iff, or_false] at hm ⊢
    rcases hm with q | q | q | q <;> simp [q]
  self := (turn_z2 (P := P) (w := w) (K := K) (elts := elts) (kk := kk) (tpos := tpos) (k1 := k1) (k2 := k2) S n1 n2).self
theorem walk_z2m {K : PySem.W.Frag} {k1 k2 : Bool} {a b : Addr} {xs ys : List V} : Walk (Iz2m K k1 k2 a b) (min xs.length ys.length) (fun H => Sqk K k1 H a xs ∧ Sqk K k2 H b ys) (YPair (fun i => xs[i]?) (fun i => ys[i]?)) := by
  refine ⟨fun i _ hi q => ?_, fun _ q => ⟨xs, ys, q.1, q.2, rfl⟩, fun i H v H' _ q y => ?_⟩
  · have h1 : i < xs.length := by omega
    have h2 : i < ys.length := by omega
    exact ⟨xs, ys, xs[i], ys[i], q.1, q.2, by simp [h1], by simp [h2]⟩
  · obtain ⟨T, x, z, h1, h2, h3, h4, h5⟩ := y
    exact ⟨T, x, z, h1, h2, h3, h4 xs q.1, h5 ys q.2⟩
def iZ2M (ta : TA) : TI := fun σ H R => ta σ H fun vs H1 => ∃ a b, vs = [.ref a, .ref b] ∧ ∃ (k1 k2 : Bool) (xs ys : List V), Sqh k1 H1 a xs ∧ Sqh k2 H1 b ys ∧ ∀ J : It, Walk J (min xs.length ys.length) (fun H => Sqh k1 H a xs ∧ Sqh k2 H b ys) (YPair (fun i => xs[i]?) (fun i => ys[i]?)) → R J H1
theorem pi_z2M {X : Cx} {e e2 : Expr} {ta : TA} {p pos tpos : Pos} {elts : List Expr} {kk : Nat} (hg : Gl X "zip") (hm : X.mg "zip" = none) (ha : PA X [e, e2] ta)
    (hs : starEach [e, e2] X.env = (false, eval e X.env) :: starEach [e2] X.env := by rfl) (hpl : (backTo pos (starEach [e2] X.env)).any (·.1) = false := by rfl) :
    PI X (.Tuple elts kk tpos) (.Call (.Name "zip" p) [e, e2] [] pos) (iZ2M ta) := by
  refine ⟨fun pins s σ H R I h => ?_⟩
  refine Call_ (ld_blt I hg hm PyProof.Rows.boot_zip (PyProof.Rows.callWith_type1 (thn (ha.run pos pins s σ H _ I h) fun us s1 ⟨vs, H1, I1, r1, q1⟩ => ?_) hs hpl))
  obtain ⟨a, b, ex, k1, k2, xs, ys, tx, ty, q⟩ := q1
  subst ex
  have q := q (Iz2m X.K k1 k2 a b) ((walk_z2m (K := X.K) (k1 := k1) (k2 := k2) (a := a) (b := b) (xs := xs) (ys := ys)).mono (fun H h => ⟨h.1.sqk, h.2.sqk⟩) fun _ _ _ _ _ _ y => y)
  have tx : Sqk X.K k1 H1 a xs := tx.sqk
  have ty : Sqk X.K k2 H1 b ys := ty.sqk
  cases r1 with
  | cons r rr =>
    cases rr with
    | cons r' rr =>
      cases rr
      cases r
      cases r'
      obtain ⟨its, rv, p1⟩ := invK I1 tx
      obtain ⟨its2, rv2, p2⟩ := invK I1 ty
      have la : a < s1.heap.objs.size := p1.lt
      have lb : b < s1.heap.objs.size := p2.lt
      refine zip_begins2 (begK k1 a its.toArray) (begK k2 b its2.toArray) p1 p2 fun h' hz hTI hTO h1 h2 hsz hk => wpAny_pyIter_zip hz ?_
      have I2 : Inv X pins σ H1 { s1 with heap := h' } := I1.kept (t' := s1.toks) hk
      refine ⟨s1.heap.objs.size + 4, [s1.heap.objs.size + 4, s1.heap.objs.size + 2, s1.heap.objs.size + 3, s1.heap.objs.size, s1.heap.objs.size + 1], _, _, H1, rfl, I2,
        turn_z2m (zip_sep2 (fun b hb => by simp at hb; rw [hb]; exact la) (fun b hb => by simp at hb; rw [hb]; exact lb)) (Nat.ne_of_lt la) (Nat.ne_of_lt (Nat.lt_succ_of_lt lb)), ⟨hz, hTI, ⟨_, _, hTO⟩, ItK.new h1, ItK.new h2⟩, fun c hcm => ?_, q⟩
      have e' : c = s1.heap.objs.size + 4 ∨ c = s1.heap.objs.size + 2 ∨ c = s1.heap.objs.size + 3 ∨ c = s1.heap.objs.size ∨ c = s1.heap.objs.size + 1 := by simpa using hcm
      have hle : s1.heap.objs.size ≤ c := by
        rcases e' with z | z | z | z | z
        · rw [z]; exact Nat.le_add_right _ _
        · rw [z]; exact Nat.le_add_right _ _
        · rw [z]; exact Nat.le_add_right _ _
        · rw [z]; exact Nat.le_refl _
        · rw [z]; exact Nat.le_add_right _ _
      exact I1.fpOk hle (I1.hok.fresh hle)
/-! ### sorted(xs), xs a list of tuples of ints -/
/-- ascending tuples of one length, of ints from 0 on -/
def SrtT (hs : List (List Int)) : Prop := hs.Pairwise fun x y => TS.code (2 ^ 1000) x ≤ TS.code (2 ^ 1000) y
theorem code_inj {B : Int} : ∀ {x y : List Int}, x.length = y.length → TS.Bd B x → TS.Bd B y → TS.code B x = TS.code B y → x = y
  | [], [], _, _, _, _ => rfl
  | [], _ :: _, h, _, _, _ => by simp at h
  | _ :: _, [], h, _, _, _ => by simp at h
  | d :: r, e :: q, h, h1, h2, hc => by
    have hl : r.length = q.length := by simpa using h
    rcases Int.lt_trichotomy d e with c | c | c
    · have := TS.code_lt hl h1.tail h2.tail c
      omega
    · subst c
      have e1 : ¬ TS.code B r < TS.code B q := fun z => by have := (TS.code_same (d := d) hl).mpr z; omega
      have e2 : ¬ TS.code B q < TS.code B r := fun z => by have := (TS.code_same (d := d) hl.symm).mpr z; omega
      rw [code_inj hl h1.tail h2.tail (by omega)]
    · have := TS.code_lt hl.symm h2.tail h1.tail c
      omega
theorem srt_same {d : Nat} : ∀ {hs ks : List (List Int)}, hs.Perm ks → SrtT hs → SrtT ks → (∀ g ∈ hs, g.length = d ∧ TS.Bd (2 ^ 1000) g) → hs = ks
  | [], ks, p, _, _, _ => by rw [List.nil_perm.mp p]
  | x :: hs, [], p, _, _, _ => by simpa using p.length_eq
  | x :: hs, y :: ks, p, h1, h2, hb => by
    have hxk : x ∈ y :: ks := p.mem_iff.mp (List.mem_cons_self ..)
    have hyh : y ∈ x :: hs := p.mem_iff.mpr (List.mem_cons_self ..)
    have e1 : TS.code (2 ^ 1000) y ≤ TS.code (2 ^ 1000) x := by
      rcases List.mem_cons.mp hxk with e | e
      · rw [e]; exact Int.le_refl _
      · exact (List.pairwise_cons.mp h2).1 x e
    have e2 : TS.code (2 ^ 1000) x ≤ TS.code (2 ^ 1000) y := by
      rcases List.mem_cons.mp hyh with e | e
      · rw [e]; exact Int.le_refl _
      · exact (List.pairwise_cons.mp h1).1 y e
    have bx := hb x (List.mem_cons_self ..)
    have byy := hb y hyh
    have e3 : x = y := code_inj (by rw [bx.1, byy.1]) bx.2 byy.2 (by omega)
    subst e3
    rw [srt_same (List.Perm.cons_inv p) (List.pairwise_cons.mp h1).2 (List.pairwise_cons.mp h2).2 fun g hg => hb g (List.mem_cons_of_mem _ hg)]
theorem perm_lift {α β : Type} {f : α → β} {ys xs : List β} (p : ys.Perm xs) : ∀ l : List α, l.map f = xs → ∃ l' : List α, l'.Perm l ∧ l'.map f = ys := by
  induction p with
  | nil => intro l e; exact ⟨[], by rw [List.map_eq_nil_iff.mp e], rfl⟩
  | cons x p ih =>
    intro l e
    cases l with
    | nil => simp at e
    | cons z l =>
      simp only [List.map_cons, List.cons.injEq] at e
      obtain ⟨l', h1, h2⟩ := ih l e.2
      exact ⟨z :: l', h1.cons z, by rw [List.map_cons, e.1, h2]⟩
  | swap x y l0 =>
    intro l e
    match l, e with
    | a :: b :: l, e =>
      simp only [List.map_cons, List.cons.injEq] at e
      exact ⟨b :: a :: l, List.Perm.swap .., by rw [List.map_cons, List.map_cons, e.1, e.2.1, e.2.2]⟩
    | [_], e => simp at e
    | [], e => simp at e
  | trans _ _ ih1 ih2 =>
    intro l e
    obtain ⟨l1, h1, e1⟩ := ih2 l e
    obtain ⟨l2, h2, e2⟩ := ih1 l1 e1
    exact ⟨l2, h2.trans h1, e2⟩
def rSortTT : List V → Hp → VK → Prop := fun vs H Q => ∃ (l : Addr) (as : List Addr) (gs : List (List Int)) (d : Nat), vs = [.ref l] ∧ H l = some (.lst (as.map V.ref)) ∧ AsT H as gs ∧ gs.length < 64 ∧ 1 ≤ d ∧ (∀ g ∈ gs, g.length = d ∧ TS.Bd (2 ^ 1000) g) ∧
  ∀ p bs hs, H p = none → AsT H bs hs → hs.Perm gs → SrtT hs → Q (.ref p) (upd H p (.lst (bs.map V.ref)))
theorem cr_sortTT {X : Cx} : CallR X (.builtin "sorted") rSortTT := by
  intro pins s σ H vs us Q I r h
  obtain ⟨l, as, gs, d, rfl, hl, hA, few, d1, hb, q⟩ := h
  have hzl : (as.zip gs).map (·.2) = gs := List.map_snd_zip (by rw [hA.1]; exact Nat.le_refl _)
  refine cr_sortT (d := d) (B := 2 ^ 1000) d1 pins s σ H _ us Q I r ⟨l, as.map V.ref, rfl, .inl (.inl hl), by rw [List.length_map, hA.1]; exact few, fun x hx => ?_, fun ys p hperm hpw hp => ?_⟩
  · obtain ⟨a, ha, rfl⟩ := List.mem_map.mp hx
    obtain ⟨i, hi, e⟩ := List.getElem_of_mem ha
    have hi2 : i < gs.length := by rw [← hA.1]; exact hi
    have hg := List.getElem_mem hi2
    exact ⟨gs[i], ⟨a, rfl, .inl (.inl (hA.2 i a _ (by rw [List.getElem?_eq_getElem hi, e]) (List.getElem?_eq_getElem hi2)))⟩, (hb _ hg).1, (hb _ hg).2⟩
  · obtain ⟨zs, hz, rfl⟩ := perm_lift (f := fun p : Addr × List Int => V.ref p.1) hperm (as.zip gs) (zip_refs hA.1)
    have hzat : ∀ z ∈ zs, H z.1 = some (.tup (z.2.map V.int)) := fun z hz2 => zip_at hA z (hz.mem_iff.mp hz2)
    have q' := q p (zs.map (·.1)) (zs.map (·.2)) hp ⟨by simp, fun i t g h1 h2 => ?_⟩ ?_ ?_
    · rw [List.map_map] at q'
      exact q'
    · simp only [List.getElem?_map, Option.map_eq_some_iff] at h1 h2
      obtain ⟨z, hz1, rfl⟩ := h1
      obtain ⟨z', hz2, rfl⟩ := h2
      rw [hz1] at hz2
      obtain rfl := Option.some.inj hz2
      exact hzat z (List.mem_of_getElem? hz1)
    · have := hz.map (·.2)
      rw [hzl] at this
      exact this
    · unfold SrtT
      rw [List.pairwise_map] at hpw ⊢
      exact List.Pairwise.imp_of_mem (fun {a b} ha hb h => h a.2 b.2 ⟨a.1, rfl, .inl (.inl (hzat a ha))⟩ ⟨b.1, rfl, .inl (.inl (hzat b hb))⟩) hpw
end Cs

/-! Cp: list(zip(x, y)), its tuples kept. -/
namespace Cs
open PySem PySem.Spec PyProof.Rows L2
section
variable {prog : Program} {w : World} {A : Around} {E : Value → Shared → Prop} {s : Shared} {z TI TO T i1 i2 : Addr} {f : Bool} {oT : Obj} {fp1 fp2 : List Addr} {n1 n2 i : Nat} {P1 P2 : Nat → Value → Prop} {St1 St2 : Nat → Heap → Prop}
theorem zl_held_item {Q : Value → Shared → Prop} (S : ZipSep2 z TI TO i1 i2 fp1 fp2) (D1 : Draws prog w A i1 fp1 n1 P1 St1) (D2 : Draws prog w A i2 fp2 n2 P2 St2)
    (hz : IsZipHeld s.heap z TI TO T f) (hT : s.heap.get? T = some oT) (hTI : IsTupOf2 s.heap TI (.ref i1) (.ref i2)) (st1 : St1 i s.heap) (st2 : St2 i s.heap) (hlt1 : i < n1) (hlt2 : i < n2)
    (hQ : ∀ x1 x2 h' tk, P1 i x1 → P2 i x2 → IsZipHeld h' z TI TO T true → St1 (i + 1) h' → St2 (i + 1) h' → IsTupOf2 h' s.heap.objs.size x1 x2 → h'.objs.size = s.heap.objs.size + 1 →
      (∀ c o, c ≠ z → c ≠ i1 → c ≠ i2 → s.heap.get? c = some o → h'.get? c = some o) → Q (.ref s.heap.objs.size) { s with heap := h', toks := tk }) :
    wpAny (model prog w) A (Builtin.«zip.__next__» ⟨[.ref z], []⟩) (fun fin s' => ∃ v, fin = .done (.ret v) ∧ Q v s') E s := by
  obtain ⟨hp, g, d, tk0, os⟩ := s
  show wpAny _ _ (field (.ref z) 2 >>= _) _ _ _
  refine wpAny_bind (wpAny_field hz rfl (x := .bool false) rfl ?_)
  show wpAny _ _ (field (.ref z) 3 >>= _) _ _ _
  refine wpAny_bind (wpAny_field hz rfl (x := .ref TI) rfl ?_)
  refine wpAny_bind (wpAny_seqItems hTI rfl ?_)
  show wpAny _ _ (Builtin.SmallTypes.ownedTupleIsFree (.ref z) >>= _) _ _ _
  refine wpAny_bind (wpAny_tupleHeld_zip hz hT fun h₁ hz₁ hs₁ => ?_)
  replace hs₁ : Heap.SameBut z hp h₁ := hs₁
  simp only [Bool.false_eq_true, if_false]
  refine wpAny_bind ?_
  rw [← Array.forIn_toList]
  simp only [List.forIn_cons, List.forIn_nil]
  refine wpAny_bind (wpAny_bind (wpAny_holding ?_))
  show wpAny _ _ (Builtin.SmallTypes.nextOf (.ref i1) >>= _) _ _ ⟨h₁, g, d, tk0, os⟩
  refine wpAny_bind (D1.item i _ _ _ hlt1 (D1.over st1 hs₁ S.zf1) fun x1 h₂ tk1 hx1 sn1 hs₂ => wpAny_pure ?_)
  replace hs₂ : Heap.SameBut i1 h₁ h₂ := hs₂
  refine wpAny_pure ?_
  refine wpAny_bind (wpAny_bind (wpAny_holding ?_))
  show wpAny _ _ (Builtin.SmallTypes.nextOf (.ref i2) >>= _) _ _ ⟨h₂, g, d, tk1, os⟩
  refine wpAny_bind (D2.item i _ _ _ hlt2 (D2.over (D2.over st2 hs₁ S.zf2) hs₂ S.sep1_2) fun x2 h₃ tk2 hx2 sn2 hs₃ => wpAny_pure ?_)
  replace hs₃ : Heap.SameBut i2 h₂ h₃ := hs₃
  refine wpAny_pure (wpAny_pure ?_)
  show wpAny _ _ (newTuple [x1, x2] >>= _) _ _ ⟨h₃, g, d, tk2, os⟩
  refine wpAny_bind (wpAny_newTuple ?_)
  have hsz : h₃.objs.size = hp.objs.size := by rw [hs₃.1, hs₂.1, hs₁.1]
  have hz₃ : IsZipHeld h₃ z TI TO T true := hs₃.extBut _ _ S.zi2 (hs₂.extBut _ _ S.zi1 hz₁)
  have hk : ∀ c o, c ≠ z → c ≠ i1 → c ≠ i2 → hp.get? c = some o → h₃.get? c = some o := fun c o c1 c2 c3 e => hs₃.extBut _ _ c3 (hs₂.extBut _ _ c2 (hs₁.extBut _ _ c1 e))
  refine wpAny_pure ⟨_, rfl, ?_⟩
  show Q (.ref h₃.objs.size) _
  have hp' : IsTupOf2 (h₃.push { cls := .type "tuple", data := .seq #[x1, x2] }) h₃.objs.size x1 x2 := Heap.get?_push_size _ rfl
  have hz4 : (h₃.push { cls := .type "tuple", data := .seq #[x1, x2] }).objs.size = h₃.objs.size + 1 := Heap.size_push ..
  rw [hsz] at hp' hz4 ⊢
  exact hQ x1 x2 _ tk2 hx1 hx2 (Heap.get?_push_of_some _ hz₃) (D1.frame _ _ _ (D1.over sn1 hs₃ S.sep2_1) fun b _ o e => Heap.get?_push_of_some _ e) (D2.frame _ _ _ sn2 fun b _ o e => Heap.get?_push_of_some _ e) hp' hz4 fun c o c1 c2 c3 e => Heap.get?_push_of_some _ (hk c o c1 c2 c3 e)
theorem zl_held_end {Q : Fin → Shared → Prop} (S : ZipSep2 z TI TO i1 i2 fp1 fp2) (D1 : Draws prog w A i1 fp1 n1 P1 St1)
    (hz : IsZipHeld s.heap z TI TO T f) (hT : s.heap.get? T = some oT) (hTI : IsTupOf2 s.heap TI (.ref i1) (.ref i2)) (st1 : St1 n1 s.heap)
    (hE : ∀ h' e, (∀ c o, c ≠ z → c ≠ i1 → c ≠ i2 → s.heap.get? c = some o → h'.get? c = some o) → (∃ o, h'.get? e = some o ∧ o.cls = .type "StopIteration") → E (.ref e) { s with heap := h' }) :
    wpAny (model prog w) A (Builtin.«zip.__next__» ⟨[.ref z], []⟩) Q E s := by
  obtain ⟨hp, g, d, tk0, os⟩ := s
  show wpAny _ _ (field (.ref z) 2 >>= _) _ _ _
  refine wpAny_bind (wpAny_field hz rfl (x := .bool false) rfl ?_)
  show wpAny _ _ (field (.ref z) 3 >>= _) _ _ _
  refine wpAny_bind (wpAny_field hz rfl (x := .ref TI) rfl ?_)
  refine wpAny_bind (wpAny_seqItems hTI rfl ?_)
  show wpAny _ _ (Builtin.SmallTypes.ownedTupleIsFree (.ref z) >>= _) _ _ _
  refine wpAny_bind (wpAny_tupleHeld_zip hz hT fun h₁ hz₁ hs₁ => ?_)
  replace hs₁ : Heap.SameBut z hp h₁ := hs₁
  simp only [Bool.false_eq_true, if_false]
  refine wpAny_bind ?_
  rw [← Array.forIn_toList]
  simp only [List.forIn_cons, List.forIn_nil]
  refine wpAny_bind (wpAny_bind (wpAny_holding ?_))
  show wpAny _ _ (Builtin.SmallTypes.nextOf (.ref i1) >>= _) _ _ ⟨h₁, g, d, tk0, os⟩
  refine wpAny_bind (D1.done ⟨h₁, g, d, tk0, os⟩ _ _ (D1.over st1 hs₁ S.zf1) fun h₂ e hs₂ he => ?_)
  exact hE h₂ e (fun c o c1 c2 _ x => hs₂ _ _ c2 (hs₁.extBut _ _ c1 x)) he
/-- the zip between its turns: its last tuple is held -/
def ZlSt (z TI TO i1 i2 S : Addr) (St1 St2 : Nat → Heap → Prop) (i : Nat) (h : Heap) : Prop := IsTupOf2 h TI (.ref i1) (.ref i2) ∧ St1 i h ∧ St2 i h ∧
  ((IsZip h z TI TO .none ∧ ∃ a b, IsTupOf2 h TO a b) ∨ ∃ T f oT, IsZipHeld h z TI TO T f ∧ h.get? T = some oT ∧ T ≠ z ∧ T ≠ i1 ∧ T ≠ i2 ∧ T ≠ S)
theorem ZlSt.keep {S : Addr} {h h' : Heap} (Z : ZipSep2 z TI TO i1 i2 fp1 fp2) (D1 : Draws prog w A i1 fp1 n1 P1 St1) (D2 : Draws prog w A i2 fp2 n2 P2 St2) (x : ZlSt z TI TO i1 i2 S St1 St2 i h) (hk : ∀ b o, b ≠ S → h.get? b = some o → h'.get? b = some o)
    (n1' : z ≠ S) (n2' : TI ≠ S) (n3' : TO ≠ S) (m1 : S ∉ fp1) (m2 : S ∉ fp2) : ZlSt z TI TO i1 i2 S St1 St2 i h' := by
  obtain ⟨hTI, s1, s2, hz⟩ := x
  refine ⟨hk _ _ n2' hTI, D1.frame _ _ _ s1 fun b hb o e => hk b o (fun q => m1 (q ▸ hb)) e, D2.frame _ _ _ s2 fun b hb o e => hk b o (fun q => m2 (q ▸ hb)) e, ?_⟩
  rcases hz with ⟨hz, a, b, hTO⟩ | ⟨T, f, oT, hz, hT, r1, r2, r3, r4⟩
  · exact .inl ⟨hk _ _ n1' hz, a, b, hk _ _ n3' hTO⟩
  · exact .inr ⟨T, f, oT, hk _ _ n1' hz, hk _ _ r4 hT, r1, r2, r3, r4⟩
theorem zl_item {S : Addr} {Q : Option Value → Shared → Prop} (Z : ZipSep2 z TI TO i1 i2 fp1 fp2) (D1 : Draws prog w A.in1 i1 fp1 n1 P1 St1) (D2 : Draws prog w A.in1 i2 fp2 n2 P2 St2) (hst : ZlSt z TI TO i1 i2 S St1 St2 i s.heap) (hS : S < s.heap.objs.size) (hlt1 : i < n1) (hlt2 : i < n2)
    (hQ : ∀ x1 x2 h' tk, P1 i x1 → P2 i x2 → ZlSt z TI TO i1 i2 S St1 St2 (i + 1) h' → IsTupOf2 h' s.heap.objs.size x1 x2 → h'.objs.size = s.heap.objs.size + 1 →
      (∀ c o, c ≠ z → c ≠ TO → c ≠ i1 → c ≠ i2 → s.heap.get? c = some o → h'.get? c = some o) → Q (some (.ref s.heap.objs.size)) { s with heap := h', toks := tk }) :
    wpAny (model prog w) A (pyNext (.ref z)) Q E s := by
  obtain ⟨hTI, st1, st2, hz⟩ := hst
  have lt : ∀ {c o}, s.heap.get? c = some o → s.heap.objs.size ≠ c := fun e => Nat.ne_of_gt (Heap.lt_size e)
  obtain ⟨o1, e1⟩ := D1.live _ _ st1
  obtain ⟨o2, e2⟩ := D2.live _ _ st2
  rcases hz with ⟨hz, a, b, hTO⟩ | ⟨T, f, oT, hz, hT, r1, r2, r3, r4⟩
  · refine wpAny_pyNext_zipD2_item Z D1 D2 hz hTI hTO st1 st2 hlt1 hlt2 fun x1 x2 h' tk p1 p2 b1 b2 d1 d2 b5 b6 b7 => hQ x1 x2 h' tk p1 p2 ⟨b7 _ _ Z.TIz Z.TITO Z.TIi1 Z.TIi2 hTI, d1, d2, .inr ⟨_, false, _, b1, b5, lt hz, lt e1, lt e2, Nat.ne_of_gt hS⟩⟩ b5 b6 b7
  · have hTy : s.TypeIs (.ref z) "zip" := ⟨_, hz, rfl⟩
    unfold pyNext
    exact wpAny_bind (wpAny_attempt (wpAny_callSpecial?_slot (name := Str.ofString "__next__") hTy F.slot_zip_next
      (wpAny_call_entry F.slot_zip_next hTy F.entry_zip_next
        (zl_held_item Z D1 D2 hz hT hTI st1 st2 hlt1 hlt2 fun x1 x2 h' tk p1 p2 b1 d1 d2 b5 b6 b7 => wpAny_pure (hQ x1 x2 h' tk p1 p2 ⟨b7 _ _ Z.TIz Z.TIi1 Z.TIi2 hTI, d1, d2, .inr ⟨T, true, oT, b1, b7 _ _ r1 r2 r3 hT, r1, r2, r3, r4⟩⟩ b5 b6 fun c o c1 _ c3 c4 => b7 c o c1 c3 c4)) (F.args_zip_next_1 _))))
theorem zl_done {S : Addr} {Q : Option Value → Shared → Prop} (Z : ZipSep2 z TI TO i1 i2 fp1 fp2) (D1 : Draws prog w A.in1 i1 fp1 n1 P1 St1) (D2 : Draws prog w A.in1 i2 fp2 n1 P2 St2) (hst : ZlSt z TI TO i1 i2 S St1 St2 n1 s.heap)
    (hQ : ∀ h' tk, (∀ c o, c ≠ z → c ≠ TO → c ≠ i1 → c ≠ i2 → s.heap.get? c = some o → h'.get? c = some o) → Q none { s with heap := h', toks := tk }) :
    wpAny (model prog w) A (pyNext (.ref z)) Q E s := by
  obtain ⟨hTI, st1, st2, hz⟩ := hst
  rcases hz with ⟨hz, a, b, hTO⟩ | ⟨T, f, oT, hz, hT, r1, r2, r3, r4⟩
  · exact wpAny_pyNext_zipD2_end Z D1 D2 hz hTI hTO st1 st2 (Nat.le_refl _) (Nat.le_refl _) (.inl rfl) hQ
  · have hTy : s.TypeIs (.ref z) "zip" := ⟨_, hz, rfl⟩
    unfold pyNext
    refine wpAny_bind (wpAny_attempt (wpAny_callSpecial?_slot (name := Str.ofString "__next__") hTy F.slot_zip_next
      (wpAny_call_entry F.slot_zip_next hTy F.entry_zip_next (zl_held_end Z D1 hz hT hTI st1 fun h' e hk he => ?_) (F.args_zip_next_1 _))))
    obtain ⟨o, ho, hc⟩ := he
    refine wpAny_bind (wpAny_isInstance (T := "StopIteration") (b := true) ⟨o, ho, hc⟩ isSubtype_stop ?_)
    exact wpAny_pure (hQ _ s.toks fun c o c1 _ c3 c4 => hk c o c1 c3 c4)
end

structure ZlG (P1 P2 : Nat → Value → Prop) (lo : Addr) (h : Heap) (as : List Addr) : Prop where
  rise : as.Pairwise (· < ·)
  above : ∀ a ∈ as, lo ≤ a
  pairs : ∀ (j : Nat) (a : Addr), as[j]? = some a → ∃ x1 x2, P1 j x1 ∧ P2 j x2 ∧ IsTupOf2 h a x1 x2
section
variable {prog : Program} {w : World} {A : Around} {s : Shared} {R : Result → Shared → Prop} {z TI TO i1 i2 : Addr} {fp1 fp2 : List Addr} {n : Nat} {P1 P2 : Nat → Value → Prop} {St1 St2 : Nat → Heap → Prop}
theorem ZlG.there {lo : Addr} {h : Heap} {as : List Addr} (g : ZlG P1 P2 lo h as) {a : Addr} (ha : a ∈ as) : a < h.objs.size := by
  obtain ⟨j, hj⟩ := List.mem_iff_getElem?.mp ha
  obtain ⟨_, _, _, _, e⟩ := g.pairs j a hj
  exact Heap.lt_size e
theorem zl_loop {S lo : Addr} (Z : ZipSep2 z TI TO i1 i2 fp1 fp2) (D1 : Draws prog w A.in1.in1 i1 fp1 n P1 St1) (D2 : Draws prog w A.in1.in1 i2 fp2 n P2 St2) (hz : z ≠ S) (hTI : TI ≠ S) (hTO : TO ≠ S) (m1 : S ∉ fp1) (m2 : S ∉ fp2)
    (lS : S < lo) (lz : z < lo) (lT : TO < lo) (l1 : i1 < lo) (l2 : i2 < lo) (hn : n ≤ sizeLine) (res : Value) {h₁ : Heap}
    (hR : ∀ h' tk acc c as, (∀ b o, b ≠ S → b ≠ z → b ≠ TO → b ≠ i1 → b ≠ i2 → h₁.get? b = some o → h'.get? b = some o) → h'.get? S = some { cls := .type "list", dict := none, data := .seq acc c, slots := #[] } → as.length = n → ZlG P1 P2 lo h' as →
      acc.toList = as.map Value.ref → R (.ok (.ret res)) { s with heap := h', toks := tk }) :
    ∀ (k i : Nat) (h : Heap) (tk c : Nat) (acc : Array Value) (as : List Addr), n - i = k → i ≤ n → ZlSt z TI TO i1 i2 S St1 St2 i h → (∀ b o, b ≠ S → b ≠ z → b ≠ TO → b ≠ i1 → b ≠ i2 → h₁.get? b = some o → h.get? b = some o) →
      h.get? S = some { cls := .type "list", dict := none, data := .seq acc c, slots := #[] } → acc.toList = as.map Value.ref → as.length = i → ZlG P1 P2 lo h as → lo ≤ h.objs.size →
      codeAny (model prog w) A (.builtin "list.extend.loop" ⟨[.ref S, .ref z, res], []⟩) R { s with heap := h, toks := tk } := by
  intro k
  induction k with
  | zero =>
    intro i h tk c acc as hk hi hst hkeep hS hacc hal hG hIs
    have hin : i = n := by omega
    refine codeAny_builtin PySem.F.entry_extend_loop ?_
    rw [Around.under_plainId PySem.F.plain_extend_loop _]
    show wpAny _ A.in1 (pyNext (.ref z) >>= _) _ _ _
    refine wpAny_bind (zl_done (s := { s with heap := h, toks := tk }) (A := A.in1) Z D1 D2 (by rw [← hin]; exact hst) fun h' tk' he => ?_)
    refine wpAny_pure (hR h' tk' acc c as (fun b o h1 h2 h3 h4 h5 e => he b o h2 h3 h4 h5 (hkeep b o h1 h2 h3 h4 h5 e)) (he S _ (Ne.symm hz) (Ne.symm hTO) (fun q => m1 (q ▸ Z.mem1)) (fun q => m2 (q ▸ Z.mem2)) hS) (by omega) ⟨hG.rise, hG.above, fun j a hj => ?_⟩ hacc)
    obtain ⟨x1, x2, e1, e2, e3⟩ := hG.pairs j a hj
    have ha := hG.above a (List.mem_of_getElem? hj)
    exact ⟨x1, x2, e1, e2, he a _ (Nat.ne_of_gt (Nat.lt_of_lt_of_le lz ha)) (Nat.ne_of_gt (Nat.lt_of_lt_of_le lT ha)) (Nat.ne_of_gt (Nat.lt_of_lt_of_le l1 ha)) (Nat.ne_of_gt (Nat.lt_of_lt_of_le l2 ha)) e3⟩
  | succ k ih =>
    intro i h tk c acc as hk hi hst hkeep hS hacc hal hG hIs
    have hlt : i < n := by omega
    have hsz : acc.size = i := by rw [← Array.length_toList, hacc, List.length_map, hal]
    refine codeAny_builtin PySem.F.entry_extend_loop ?_
    rw [Around.under_plainId PySem.F.plain_extend_loop _]
    show wpAny _ A.in1 (pyNext (.ref z) >>= _) _ _ _
    refine wpAny_bind (zl_item (s := { s with heap := h, toks := tk }) (S := S) (A := A.in1) Z D1 D2 hst (Heap.lt_size hS) hlt hlt fun x1 x2 h' tk' p1 p2 hst' ht hz' hkp => ?_)
    dsimp only at ht hz' hkp ⊢
    have hS' := hkp S _ (Ne.symm hz) (Ne.symm hTO) (fun q => m1 (q ▸ Z.mem1)) (fun q => m2 (q ▸ Z.mem2)) hS
    have up : ∀ b o, b ≠ S → h'.get? b = some o → (h'.update S (Obj.mapSeq (·.push (Value.ref h.objs.size)))).get? b = some o := fun b o hb e => (Heap.get?_update_other _ _ (Ne.symm hb)).trans e
    have hSl : S < h.objs.size := Heap.lt_size hS
    show wpAny _ A.in1 (updateSeq S (·.push (Value.ref h.objs.size)) >>= _) _ _ _
    refine wpAny_bind ?_
    refine wpAny_updateSeq hS' rfl (wpAny_pure ⟨plainId_quiet PySem.F.plain_extend_loop _, ih (i + 1) _ tk' _ (acc.push (Value.ref h.objs.size)) (as ++ [h.objs.size]) (by omega) hlt (hst'.keep Z D1 D2 up hz hTI hTO m1 m2)
      (fun b o h1 h2 h3 h4 h5 e => up b o h1 (hkp b o h2 h3 h4 h5 (hkeep b o h1 h2 h3 h4 h5 e))) (Heap.get?_update_self _ hS' rfl) (by rw [Array.toList_push, hacc, List.map_append]; rfl) (by rw [List.length_append, hal]; rfl) ⟨?_, ?_, ?_⟩ ?_⟩) (by rw [hsz]; omega) (by show (acc.push (Value.ref h.objs.size)).size ≤ sizeLine + 1; rw [Array.size_push, hsz]; omega)
    · refine List.pairwise_append.mpr ⟨hG.rise, List.pairwise_singleton _ _, fun a ha b hb => ?_⟩
      rw [List.mem_singleton.mp hb]
      exact hG.there ha
    · intro a ha
      rcases List.mem_append.mp ha with ha | ha
      · exact hG.above a ha
      · rw [List.mem_singleton.mp ha]; exact hIs
    · intro j b hj
      rcases Nat.lt_trichotomy j as.length with h1 | h1 | h1
      · rw [List.getElem?_append_left h1] at hj
        obtain ⟨x1', x2', e1, e2, e3⟩ := hG.pairs j b hj
        have hb := hG.above b (List.mem_of_getElem? hj)
        exact ⟨x1', x2', e1, e2, up b _ (Nat.ne_of_gt (Nat.lt_of_lt_of_le lS hb)) (hkp b _ (Nat.ne_of_gt (Nat.lt_of_lt_of_le lz hb)) (Nat.ne_of_gt (Nat.lt_of_lt_of_le lT hb)) (Nat.ne_of_gt (Nat.lt_of_lt_of_le l1 hb)) (Nat.ne_of_gt (Nat.lt_of_lt_of_le l2 hb)) e3)⟩
      · subst h1
        have hb : h.objs.size = b := by simpa using hj
        subst hb
        exact ⟨x1, x2, by rw [hal]; exact p1, by rw [hal]; exact p2, up _ _ (Nat.ne_of_gt hSl) ht⟩
      · have hnone : (as ++ [h.objs.size])[j]? = none := List.getElem?_eq_none (by rw [List.length_append, List.length_singleton]; omega)
        rw [hnone] at hj; cases hj
    · have e : (h'.update S (Obj.mapSeq (·.push (Value.ref h.objs.size)))).get? h.objs.size = _ := up _ _ (Nat.ne_of_gt hSl) ht
      exact Nat.le_of_lt (Nat.lt_of_le_of_lt hIs (Heap.lt_size e))
theorem zip_no_len : typeLookup (.type "zip") "__len__" = pure none := am_miss_of_fast (by decide +kernel)
theorem zip_no_hint : typeLookup (.type "zip") "__length_hint__" = pure none := am_miss_of_fast (by decide +kernel)
theorem zl_extend {S lo : Addr} (Z : ZipSep2 z TI TO i1 i2 fp1 fp2) (D1 : Draws prog w A.in1.in1 i1 fp1 n P1 St1) (D2 : Draws prog w A.in1.in1 i2 fp2 n P2 St2) (hz : z ≠ S) (hTI : TI ≠ S) (hTO : TO ≠ S) (m1 : S ∉ fp1) (m2 : S ∉ fp2)
    (lS : S < lo) (lz : z < lo) (lT : TO < lo) (l1 : i1 < lo) (l2 : i2 < lo) (hn : n ≤ sizeLine) (res : Value) (hlo : lo ≤ s.heap.objs.size) (hzip : IsZip s.heap z TI TO .none) (hst : ZlSt z TI TO i1 i2 S St1 St2 0 s.heap) (c₀ : Nat) (hS : s.heap.get? S = some { cls := .type "list", data := .seq #[] c₀ })
    (hR : ∀ h' tk acc c as, (∀ b o, b ≠ S → b ≠ z → b ≠ TO → b ≠ i1 → b ≠ i2 → s.heap.get? b = some o → h'.get? b = some o) → h'.get? S = some { cls := .type "list", dict := none, data := .seq acc c, slots := #[] } → as.length = n → ZlG P1 P2 lo h' as →
      acc.toList = as.map Value.ref → R (.ok (.ret res)) { s with heap := h', toks := tk }) :
    wpAny (model prog w) A.in1 (Builtin.List.listExtendWith (.ref S) (.ref z) res)
      (fun fin s' => match fin with | .done f => R (.ok f) s' | .again c' => c'.quiet = true ∧ codeAny (model prog w) A c' R s') (fun e s' => R (.error e) s') s := by
  have hTy : s.TypeIs (.ref z) "zip" := ⟨_, hzip, rfl⟩
  unfold Builtin.List.listExtendWith
  refine wpAny_bind (wpAny_typeOf hTy ?_)
  have h1 : Builtin.List.listSameRef (.ref S) (.ref z) = false := by simp [Builtin.List.listSameRef, Ne.symm hz]
  have h2 : (Value.type "zip" == Value.type "list") = false := by decide
  have h3 : (Value.type "zip" == Value.type "tuple") = false := by decide
  simp only [h1, h2, h3, Bool.or_false, Bool.false_eq_true, if_false]
  refine wpAny_bind (wpAny_pyIter_zip hzip ?_)
  refine wpAny_bind (wpAny_holding ?_)
  unfold Builtin.List.listLengthHint
  refine wpAny_bind (wpAny_specialOf hTy zip_no_len ?_)
  show wpAny _ A.in1 (specialOf (Value.ref z) (Str.ofString "__length_hint__") >>= _) _ _ _
  refine wpAny_bind (wpAny_specialOf hTy zip_no_hint ?_)
  refine wpAny_pure ?_
  show wpAny _ A.in1 (rule "list.extend.makes-room" >>= fun _ => Builtin.List.listTouch (.ref S) >>= fun _ =>
    again (.builtin "list.extend.loop" ⟨[.ref S, .ref z, res], []⟩)) _ _ _
  refine wpAny_bind (wpAny_rule ?_)
  refine wpAny_bind ?_
  show wpAny _ A.in1 (updateSeq S (·.push .none) >>= fun _ => updateSeq S (·.pop)) _ _ _
  refine wpAny_bind (wpAny_updateSeq hS rfl ?_)
  have hS₂ := Heap.get?_update_self (Obj.mapSeq (·.push Value.none)) hS rfl
  refine wpAny_updateSeq (hz := by seq_fits) hS₂ rfl ?_
  have hS₃ := Heap.get?_update_self (Obj.mapSeq (·.pop)) hS₂ rfl
  have oth : ∀ b o, b ≠ S → s.heap.get? b = some o → ((s.heap.update S (Obj.mapSeq (·.push Value.none))).update S (Obj.mapSeq (·.pop))).get? b = some o :=
    fun b o hb e => (Heap.get?_update_other _ _ (Ne.symm hb)).trans ((Heap.get?_update_other _ _ (Ne.symm hb)).trans e)
  have hsz : ((s.heap.update S (Obj.mapSeq (·.push Value.none))).update S (Obj.mapSeq (·.pop))).objs.size = s.heap.objs.size := ((Heap.SameBut.update ..).1).trans ((Heap.SameBut.update ..).1)
  refine wpAny_pure ⟨plainId_quiet PySem.F.plain_extend_loop _, zl_loop (h₁ := s.heap) Z D1 D2 hz hTI hTO m1 m2 lS lz lT l1 l2 hn res hR n 0 _ s.toks _ _ [] rfl (Nat.zero_le _) (hst.keep Z D1 D2 oth hz hTI hTO m1 m2) (fun b o hb _ _ _ _ e => oth b o hb e) hS₃ rfl rfl ⟨List.Pairwise.nil, (fun _ ha => nomatch ha), (fun j a hj => by simp at hj)⟩ (by rw [hsz]; exact hlo)⟩
theorem zl_init {S : Addr} (Z : ZipSep2 z TI TO i1 i2 fp1 fp2) (D1 : Draws prog w A.in1.in1 i1 fp1 n P1 St1) (D2 : Draws prog w A.in1.in1 i2 fp2 n P2 St2) (hz : z ≠ S) (hTI : TI ≠ S) (hTO : TO ≠ S) (m1 : S ∉ fp1) (m2 : S ∉ fp2)
    (hn : n ≤ sizeLine) (hzip : IsZip s.heap z TI TO .none) (hst : ZlSt z TI TO i1 i2 S St1 St2 0 s.heap) (lT : TO < s.heap.objs.size) (hS : s.heap.get? S = some { cls := .type "list", data := .seq #[] })
    (hR : ∀ h' tk acc c as, (∀ b o, b ≠ S → b ≠ z → b ≠ TO → b ≠ i1 → b ≠ i2 → s.heap.get? b = some o → h'.get? b = some o) → h'.get? S = some { cls := .type "list", dict := none, data := .seq acc c, slots := #[] } → as.length = n → ZlG P1 P2 s.heap.objs.size h' as →
      acc.toList = as.map Value.ref → R (.ok (.ret .none)) { s with heap := h', toks := tk }) :
    wpAny (model prog w) A.in1 (Builtin.«list.__init__» ⟨[.ref S, .ref z], []⟩)
      (fun fin s' => match fin with | .done f => R (.ok f) s' | .again c' => c'.quiet = true ∧ codeAny (model prog w) A c' R s') (fun e s' => R (.error e) s') s := by
  show wpAny _ _ (do let old ← Builtin.List.listItems (.ref S); Builtin.List.listUpdate (.ref S) (fun _ => #[]); letGo old.toList.reverse; Builtin.List.listExtendWith (.ref S) (.ref z) .none) _ _ s
  refine wpAny_bind ?_
  unfold Builtin.List.listItems
  refine wpAny_bind (wpAny_seqItems hS rfl (wpAny_pure ?_))
  show wpAny _ _ (updateSeq S (fun _ => #[]) >>= fun _ => letGo (#[] : Array Value).toList.reverse >>= fun _ => Builtin.List.listExtendWith (.ref S) (.ref z) .none) _ _ s
  refine wpAny_bind (wpAny_updateSeq hS rfl ?_)
  have hS₂ := Heap.get?_update_self (Obj.mapSeq (fun _ => (#[] : Array Value))) hS rfl
  have oth : ∀ b o, b ≠ S → s.heap.get? b = some o → (s.heap.update S (Obj.mapSeq (fun _ => (#[] : Array Value)))).get? b = some o :=
    fun b o hb e => (Heap.get?_update_other _ _ (Ne.symm hb)).trans e
  have hsz : (s.heap.update S (Obj.mapSeq (fun _ => (#[] : Array Value)))).objs.size = s.heap.objs.size := (Heap.SameBut.update ..).1
  refine wpAny_bind (wpAny_letGo ?_)
  obtain ⟨o1, e1⟩ := D1.live _ _ hst.2.1
  obtain ⟨o2, e2⟩ := D2.live _ _ hst.2.2.1
  refine zl_extend (lo := s.heap.objs.size) Z D1 D2 hz hTI hTO m1 m2 (Heap.lt_size hS) (Heap.lt_size hzip) lT (Heap.lt_size e1) (Heap.lt_size e2) hn .none (by show s.heap.objs.size ≤ _; rw [hsz]; exact Nat.le_refl _) (oth _ _ hz hzip) (hst.keep Z D1 D2 oth hz hTI hTO m1 m2) _ hS₂ (fun h' tk acc c as hk hS' hl hG hacc => ?_)
  exact hR h' tk acc c as (fun b o hb h1 h2 h3 h4 e => hk b o hb h1 h2 h3 h4 (oth b o hb e)) hS' hl hG hacc
end
section
variable {prog : Program} {w : World} {A : Around} {E : Value → Shared → Prop} {s : Shared} {z TI TO i1 i2 : Addr} {fp1 fp2 : List Addr} {n : Nat} {P1 P2 : Nat → Value → Prop} {St1 St2 : Nat → Heap → Prop}
theorem zl_call {Q : Value → Shared → Prop} (Z : ZipSep2 z TI TO i1 i2 fp1 fp2) (D1 : Draws prog w A.in1.in1.in1 i1 fp1 n P1 St1) (D2 : Draws prog w A.in1.in1.in1 i2 fp2 n P2 St2) (f1 : ∀ b ∈ fp1, b < s.heap.objs.size) (f2 : ∀ b ∈ fp2, b < s.heap.objs.size) (hn : n ≤ sizeLine) (hzip : IsZip s.heap z TI TO .none) (hTI : IsTupOf2 s.heap TI (.ref i1) (.ref i2)) (hTO : ∃ a b, IsTupOf2 s.heap TO a b) (st1 : St1 0 s.heap) (st2 : St2 0 s.heap)
    (hQ : ∀ h' tk acc c as, (∀ b o, b ≠ z → b ≠ TO → b ≠ i1 → b ≠ i2 → s.heap.get? b = some o → h'.get? b = some o) → h'.get? s.heap.objs.size = some { cls := .type "list", dict := none, data := .seq acc c, slots := #[] } → as.length = n → ZlG P1 P2 (s.heap.objs.size + 1) h' as →
      acc.toList = as.map Value.ref → Q (.ref s.heap.objs.size) { s with heap := h', toks := tk }) :
    wpAny (model prog w) A (call (.type "list") [.ref z]) Q E s := by
  refine callType_codes (Q₁ := fun obj s₁ => obj = .ref s.heap.objs.size ∧ s₁ = { s with heap := s.heap.push { cls := .type "list", data := .seq #[] } }) PySem.F.called_list (PySem.F.typeCall_list_1 _) PySem.F.entry_list_init
    (code_list_new _ ⟨rfl, rfl⟩) fun obj s₁ h₁ => ?_
  obtain ⟨rfl, rfl⟩ := h₁
  have hS : (s.heap.push { cls := .type "list", data := .seq #[] }).get? s.heap.objs.size = some { cls := .type "list", data := .seq #[] } := Heap.get?_push_size _ rfl
  obtain ⟨ta, tb, hTO⟩ := hTO
  have up : ∀ b o, s.heap.get? b = some o → (s.heap.push { cls := .type "list", data := .seq #[] }).get? b = some o := fun b o e => Heap.get?_push_of_some _ e
  refine ⟨⟨_, hS, rfl⟩, PySem.F.args_list_init_2 _ _, zl_init (A := A.in1) Z D1 D2 (Nat.ne_of_lt (Heap.lt_size hzip)) (Nat.ne_of_lt (Heap.lt_size hTI)) (Nat.ne_of_lt (Heap.lt_size hTO)) (fun m => Nat.lt_irrefl _ (f1 _ m)) (fun m => Nat.lt_irrefl _ (f2 _ m)) hn (up _ _ hzip)
    ⟨up _ _ hTI, D1.frame _ _ _ st1 fun b _ o e => up b o e, D2.frame _ _ _ st2 fun b _ o e => up b o e, .inl ⟨up _ _ hzip, ta, tb, up _ _ hTO⟩⟩ (Heap.lt_size (up _ _ hTO)) hS (fun h' tk acc c as hk hS' hl hG hacc => ?_)⟩
  refine ⟨rfl, hQ h' tk acc c as (fun b o h1 h2 h3 h4 e => hk b o (Nat.ne_of_lt (Heap.lt_size e)) h1 h2 h3 h4 (up b o e)) hS' hl ?_ hacc⟩
  have e : (s.heap.push { cls := .type "list", data := .seq #[] }).objs.size = s.heap.objs.size + 1 := Heap.size_push ..
  show ZlG P1 P2 (s.heap.objs.size + 1) h' as
  rw [← e]
  exact hG
end

/-- the tuples tracked at their addresses -/
def putZ : Hp → List Addr → List (V × V) → Hp
  | H, a :: as, p :: kvs => putZ (upd H a (.tup [p.1, p.2])) as kvs
  | H, _, _ => H
theorem putZ_off {b : Addr} : ∀ (as : List Addr) (kvs : List (V × V)) (H : Hp), b ∉ as → putZ H as kvs b = H b
  | [], _, _, _ => rfl
  | _ :: _, [], _, _ => rfl
  | a :: as, p :: kvs, H, h => by
    show putZ (upd H a (.tup [p.1, p.2])) as kvs b = H b
    rw [putZ_off as kvs _ (fun z => h (List.mem_cons_of_mem _ z)), upd_ne (fun z => h (by rw [z]; exact List.mem_cons_self))]
theorem putZ_at : ∀ (as : List Addr) (kvs : List (V × V)) (H : Hp), as.length = kvs.length → as.Nodup → ∀ (i : Nat) (t : Addr) (p : V × V), as[i]? = some t → kvs[i]? = some p → putZ H as kvs t = some (.tup [p.1, p.2])
  | [], _, _, _, _, i, t, p, h, _ => by simp at h
  | _ :: _, [], _, h, _, _, _, _, _, _ => by cases h
  | a :: as, q :: kvs, H, h, hn, i, t, p, e1, e2 => by
    have hn' := List.nodup_cons.mp hn
    show putZ (upd H a (.tup [q.1, q.2])) as kvs t = _
    cases i with
    | zero =>
      simp only [List.getElem?_cons_zero, Option.some.injEq] at e1 e2
      subst e1 e2
      rw [putZ_off as kvs _ hn'.1, upd_same]
    | succ i =>
      simp only [List.getElem?_cons_succ] at e1 e2
      exact putZ_at as kvs _ (Nat.succ.inj h) hn'.2 i t p e1 e2
theorem vals_refs : ∀ as : List Addr, Vals (as.map V.ref) (as.map Value.ref)
  | [] => .nil
  | _ :: as => .cons rfl (vals_refs as)
section
variable {X : Cx}
/-- list(zip(x, y)), x and y of one length -/
def tListZip (K : PySem.W.Frag) (ta : TA) : TE := fun σ H Q => ta σ H fun vs H1 => ∃ (k1 k2 : Bool) (a b : Addr) (xs ys : List V), vs = [.ref a, .ref b] ∧ Sqk K k1 H1 a xs ∧ Sqk K k2 H1 b ys ∧ xs.length = ys.length ∧ xs.length ≤ sizeLine ∧
  ∀ (H' : Hp) (p : Addr) (ts : List Addr), Same H1 H' → H1 p = none → (∀ t ∈ ts, H1 t = none) → p ∉ ts → ts.Nodup → ts.length = xs.length → H' p = some (.lst (ts.map V.ref)) →
    (∀ (i : Nat) t x y, ts[i]? = some t → xs[i]? = some x → ys[i]? = some y → H' t = some (.tup [x, y])) → Q (.ref p) H'
theorem zl_laid {pins : List (Addr × Obj)} {σ : L2.St} {H : Hp} {s : Shared} {h' : Heap} {tk : Nat} {xs ys : List V} {its its2 : List Value} {acc : Array Value} {c : Nat} {as : List Addr} (I : Inv X pins σ H s) (hz : xs.length ≤ sizeLine) (r1 : Vals xs its) (r2 : Vals ys its2) (hl2 : xs.length = ys.length)
    (hk : ∀ b o, s.heap.get? b = some o → h'.get? b = some o) (p : Addr) (hp : s.heap.objs.size ≤ p) (hS : h'.get? p = some { cls := .type "list", dict := none, data := .seq acc c, slots := #[] }) (hl : as.length = xs.length) (hG : ZlG (fun i v => its[i]? = some v) (fun i v => its2[i]? = some v) (p + 1) h' as) (hacc : acc.toList = as.map Value.ref) :
    ∃ H' : Hp, Same H H' ∧ H p = none ∧ (∀ t ∈ as, H t = none) ∧ p ∉ as ∧ as.Nodup ∧ H' p = some (.lst (as.map V.ref)) ∧ (∀ (i : Nat) t x y, as[i]? = some t → xs[i]? = some x → ys[i]? = some y → H' t = some (.tup [x, y])) ∧ Inv X pins σ H' { s with heap := h', toks := tk } := by
  have hSn : p ∉ as := fun z => absurd (hG.above _ z) (Nat.not_le.mpr (Nat.lt_succ_self _))
  have nd : as.Nodup := List.Pairwise.imp (fun {a b} (h : a < b) => Nat.ne_of_lt h) hG.rise
  have new : ∀ t ∈ as, H t = none := fun t ht => I.hok.fresh (Nat.le_trans hp (Nat.le_of_lt (hG.above t ht)))
  have newS : H p = none := I.hok.fresh hp
  have lk : as.length = (xs.zip ys).length := by rw [List.length_zip]; omega
  have atP := putZ_at as (xs.zip ys) (upd H p (.lst (as.map V.ref))) lk nd
  have off : ∀ b, b ∉ as → b ≠ p → putZ (upd H p (.lst (as.map V.ref))) as (xs.zip ys) b = H b := fun b h1 h2 => by rw [putZ_off as _ _ h1, upd_ne h2]
  have low : ∀ b o, s.heap.get? b = some o → b ∉ as ∧ b ≠ p := fun b o e => ⟨fun z => absurd (Heap.lt_size e) (Nat.not_lt.mpr (Nat.le_trans hp (Nat.le_of_lt (hG.above b z)))), Nat.ne_of_lt (Nat.lt_of_lt_of_le (Heap.lt_size e) hp)⟩
  have kp : ∀ b u, H b = some u → (putZ (upd H p (.lst (as.map V.ref))) as (xs.zip ys)) b = some u := fun b u e => by
    rw [off b (fun z => by rw [new b z] at e; cases e) (fun z => by rw [z, newS] at e; cases e)]
    exact e
  have eS : putZ (upd H p (.lst (as.map V.ref))) as (xs.zip ys) p = some (.lst (as.map V.ref)) := by rw [putZ_off as _ _ hSn, upd_same]
  refine ⟨putZ (upd H p (.lst (as.map V.ref))) as (xs.zip ys), kp, newS, new, hSn, nd, eS, fun i t x y e1 e2 e3 => atP i t (x, y) e1 (by rw [List.getElem?_zip_eq_some]; exact ⟨e2, e3⟩), ?_⟩
  refine I.call' (ch := []) rfl ⟨fun b o q _ _ _ => hk b o q, fun b o q _ _ _ => ⟨o.slots, hk b o q⟩, fun b o q n _ => ?_, fun b o q _ => ⟨o, hk b o q⟩, fun b xs q => kp b _ q, fun b o u q => kp b _ q, fun b ps q => ⟨#[], by rw [kp b _ q]; simp⟩⟩ (fun b u q => ?_) I.bare fun b z => by simp at z
  · obtain ⟨z1, z2⟩ := low b o q
    rw [off b z1 z2]
    exact n
  · by_cases hb : b ∈ as
    · obtain ⟨j, hj⟩ := List.mem_iff_getElem?.mp hb
      have jl : j < as.length := (List.getElem?_eq_some_iff.mp hj).1
      have j1 : j < xs.length := by omega
      have j2 : j < ys.length := by omega
      have e3 := atP j b (xs[j], ys[j]) hj (by rw [List.getElem?_zip_eq_some]; exact ⟨List.getElem?_eq_getElem j1, List.getElem?_eq_getElem j2⟩)
      rw [e3] at q
      cases q
      obtain ⟨x1, x2, f1, f2, f3⟩ := hG.pairs j b hj
      obtain ⟨u1, g1, g2⟩ := r1.get (List.getElem?_eq_getElem j1)
      obtain ⟨u2, g3, g4⟩ := r2.get (List.getElem?_eq_getElem j2)
      rw [f1] at g1
      rw [f2] at g3
      cases g1
      cases g3
      exact ⟨by show 2 ≤ sizeLine; decide, [x1, x2], .cons g2 (.cons g4 .nil), ⟨_, f3, rfl, _, rfl⟩⟩
    · by_cases hb2 : b = p
      · rw [hb2] at q ⊢
        rw [eS] at q
        cases q
        refine ⟨by rw [List.length_map]; omega, acc.toList, c, by rw [hacc]; exact vals_refs as, ?_⟩
        rw [Array.toArray_toList]
        exact hS
      · rw [off b hb hb2] at q
        exact (I.hok b u q).stay (fun d v _ y => hk d v y) (fun d y => kp d _ y) fun d xs y => kp d _ y
theorem pe_listZip {e e2 : Expr} {ta : TA} {p pos zp zpos : Pos} (hc : X.calm = true) (hg : Gl X "list") (hm : X.mg "list" = none) (hgz : Gl X "zip") (hmz : X.mg "zip" = none) (ha : PA X [e, e2] ta)
    (hs : starEach [e, e2] X.env = (false, eval e X.env) :: starEach [e2] X.env := by rfl) (hpl : (backTo zpos (starEach [e2] X.env)).any (·.1) = false := by rfl)
    (hl : starEach [.Call (.Name "zip" zp) [e, e2] [] zpos] X.env = (false, eval (.Call (.Name "zip" zp) [e, e2] [] zpos) X.env) :: starEach [] X.env := by rfl) :
    PE X (.Call (.Name "list" p) [.Call (.Name "zip" zp) [e, e2] [] zpos] [] pos) (tListZip X.K ta) := by
  refine ⟨fun pins s σ H Q I h => ?_⟩
  refine Call_ (ld_blt I hg hm boot_list (PyProof.Rows.callWith_type1 ?_ hl))
  rw [hl]
  show wpAny _ _ (spliced ((false, eval (.Call (.Name "zip" zp) [e, e2] [] zpos) X.env) :: backTo pos (starEach [] X.env))) _ _ s
  refine Calls.spliced_cons ?_
  refine Call_ (ld_blt I hgz hmz PyProof.Rows.boot_zip (PyProof.Rows.callWith_type1 (thn (ha.run zpos pins s σ H _ I h) fun us s1 ⟨vs, H1, I1, r1, q1⟩ => ?_) hs hpl))
  obtain ⟨k1, k2, a, b, xs, ys, ex, hqx, hqy, hxy, hn, q⟩ := q1
  subst ex
  cases r1 with
  | cons r rr =>
    cases rr with
    | cons r' rr =>
      cases rr
      cases r
      cases r'
      obtain ⟨its, rv, p1⟩ := invK I1 hqx
      obtain ⟨its2, rv2, p2⟩ := invK I1 hqy
      have la : a < s1.heap.objs.size := p1.lt
      have lb : b < s1.heap.objs.size := p2.lt
      refine zip_begins2 (begK k1 a its.toArray) (begK k2 b its2.toArray) p1 p2 fun h' hz hTI hTO h1 h2 hsz hk => Calls.spliced_nil ?_
      have I2 : Inv X pins σ H1 { s1 with heap := h' } := I1.kept (t' := s1.toks) hk
      have hh : X.A.handled = none := I1.ok.hd hc
      have n1 : a ≠ s1.heap.objs.size := Nat.ne_of_lt la
      have n2 : b ≠ s1.heap.objs.size + 1 := Nat.ne_of_lt (Nat.lt_succ_of_lt lb)
      have el : its.length = xs.length := rv.length.symm
      have el2 : its2.toArray.size = its.toArray.size := by have := rv2.length; simp only [List.size_toArray]; omega
      have D1 := drawsK (prog := X.prog) (w := X.w) (A := X.A.in1.in1.in1) hh k1 s1.heap.objs.size a n1 its.toArray
      have D2 := drawsK (prog := X.prog) (w := X.w) (A := X.A.in1.in1.in1) hh k2 (s1.heap.objs.size + 1) b n2 its2.toArray
      rw [el2] at D2
      have lim : ∀ c ≤ s1.heap.objs.size + 4, c < h'.objs.size := fun c hc' => Nat.lt_of_le_of_lt hc' (Heap.lt_size hz)
      refine zl_call (n := its.toArray.size) (zip_sep2 (fun b hb => by simp at hb; rw [hb]; exact la) (fun b hb => by simp at hb; rw [hb]; exact lb)) D1 D2 (fun c hm => ?_) (fun c hm => ?_) (by rw [List.size_toArray]; omega) hz hTI ⟨_, _, hTO⟩ ⟨ItK.new h1, ?_⟩ ⟨ItK.new h2, ?_⟩ fun h2' tk acc c as hk2 hS hl3 hG hacc => ?_
      · simp only [List.mem_cons, List.not_mem_nil, or_false] at hm
        refine lim c ?_
        rcases hm with e | e
        · rw [e]; exact Nat.le_add_right _ _
        · rw [e]; exact Nat.le_trans (Nat.le_of_lt la) (Nat.le_add_right _ _)
      · simp only [List.mem_cons, List.not_mem_nil, or_false] at hm
        refine lim c ?_
        rcases hm with e | e
        · rw [e]; exact Nat.add_le_add_left (by decide) _
        · rw [e]; exact Nat.le_trans (Nat.le_of_lt lb) (Nat.le_add_right _ _)
      · cases k1 with
        | true => exact PySem.Heap.IsList.at p1 fun o e => hk _ o e
        | false => exact PySem.Heap.IsTuple.at p1 fun o e => hk _ o e
      · cases k2 with
        | true => exact PySem.Heap.IsList.at p2 fun o e => hk _ o e
        | false => exact PySem.Heap.IsTuple.at p2 fun o e => hk _ o e
      · have hk3 : ∀ b o, s1.heap.get? b = some o → h2'.get? b = some o := fun b o e => by
          have := Heap.lt_size e
          exact hk2 b o (Nat.ne_of_lt (Nat.lt_of_lt_of_le this (Nat.le_add_right _ _))) (Nat.ne_of_lt (Nat.lt_of_lt_of_le this (Nat.le_add_right _ _))) (Nat.ne_of_lt this) (Nat.ne_of_lt (Nat.lt_of_lt_of_le this (Nat.le_add_right _ _))) (hk b o e)
        have hle : s1.heap.objs.size ≤ h'.objs.size := by have := lim _ (Nat.le_refl _); omega
        obtain ⟨H', z1, z2, z3, z4, z5, z6, z7, J⟩ := zl_laid (tk := tk) I1 hn rv rv2 hxy hk3 h'.objs.size hle hS (by rw [hl3, List.size_toArray, el]) ⟨hG.rise, hG.above, fun j a hj => by
          obtain ⟨x1, x2, f1, f2, f3⟩ := hG.pairs j a hj
          exact ⟨x1, x2, by simpa using f1, by simpa using f2, f3⟩⟩ hacc
        exact ⟨.ref h'.objs.size, H', J, rfl, q H' _ as z1 z2 z3 z4 z5 (by rw [hl3, List.size_toArray, el]) z6 z7⟩
end
end Cs

namespace Cs
open PySem PySem.W PySem.Calls PyProof.Rows PySem.Builtin PySem.Builtin.Int PySem.Builtin.Float
def binStr (n : Nat) : PySem.Str := ⟨((Nat.toDigits 2 n).map Char.toNat).toArray⟩
section
variable {prog : Program} {w : World} {A : Around} {E : Value → Shared → Prop} {s : Shared}
theorem formatField_bin {a : Int} {t : Tok} {Q : Value → Shared → Prop} (h0 : 0 ≤ a) (hz : (Nat.toDigits 2 a.natAbs).length ≤ sizeLine) (h : ∀ t' k, Q (.str (binStr a.natAbs) t') { s with toks := k }) : wpAny (model prog w) A (formatField (.int a t) ("b" : PySem.Str)) Q E s := by
  refine KXf.field_int (y := binStr a.natAbs) (spec' := ("b" : PySem.Str)) rfl (by decide +kernel) (by decide +kernel) (fun u => ?_) h
  apply KPc.meets_of
  intro pr w2 A2 s2 Q2 E2 hq
  unfold Builtin.«int.__format__»
  refine wpAny_bind (wpAny_of_eq (a := (_, _)) rfl ?_)
  refine wpAny_bind (wpAny_of_eq (a := _) rfl ?_)
  kxf_if
  refine wpAny_bind (wpAny_typeNameOf (T := "str") (typeIs_str _ _ _) (by decide) fun _ => ?_)
  refine wpAny_bind (wpAny_of_eq (a := some _) rfl ?_)
  kxf_if
  kxf_if
  refine wpAny_bind (wpAny_typeNameOfCut_int ?_)
  have hp : parseFormatSpec (Str.ofString "b").cps.toList "int" 62 = .ok { align := 62, type := some 98 } := by rfl
  rw [hp]
  dsimp only
  refine wpAny_ite (KPc.ite_yes (by decide +kernel) ?_)
  have e98 : (some 98).getD (if ((Str.ofString "b").cps.back? == some 0) = true then 0 else 100) = 98 := rfl
  rw [e98]
  wp_delta
  refine wpAny_ite (KPc.ite_no (by decide) ?_)
  dsimp only
  refine wpAny_ite (KPc.ite_no (by decide) ?_)
  refine wpAny_ite (KPc.ite_no (by decide) ?_)
  simp only [show ((98 : Nat) == 98) = true from rfl, if_true]
  refine wpAny_ite (KPc.ite_no (by decide) ?_)
  refine wpAny_ite (KPc.ite_no (by decide) ?_)
  have ea : decide (a < 0) = false := decide_eq_false (by omega)
  rw [ea]
  have em : (List.map (fun c : Char => (if ((98 : Nat) == 88) = true then c.toUpper else c).toNat) (Nat.toDigits 2 a.natAbs)) = (Nat.toDigits 2 a.natAbs).map Char.toNat := rfl
  rw [em]
  have hne : ((Nat.toDigits 2 a.natAbs).map Char.toNat).isEmpty = false := by
    have := tDigits_len_ge 2 a.natAbs
    cases h : Nat.toDigits 2 a.natAbs with
    | nil => rw [h] at this; simp at this
    | cons x xs => rfl
  have key : ∀ ds : List Nat, ds.isEmpty = false → PyProof.Rows.intField' { align := 62, type := some 98 } false [] ds [] 4 = ⟨ds.toArray⟩ := fun ds hne => by
    unfold PyProof.Rows.intField'
    simp [hne]
  have hk := key _ hne
  have hL : (PyProof.Rows.intField' { align := 62, type := some 98 } false [] ((Nat.toDigits 2 a.natAbs).map Char.toNat) [] 4).length ≤ sizeLine := by
    rw [hk]
    show (List.toArray _).size ≤ sizeLine
    rw [List.size_toArray, List.length_map]
    exact hz
  exact KXf.ret_text (T := binStr a.natAbs) hk hL hq
end
end Cs

/-! Cr: x |= y; f"{x:b}"; bits. -/
namespace Cs
open PySem PySem.Spec PyProof.Rows L2
section
variable {X : Cx}
def rOrI : V → V → Hp → VK → Prop := fun x y H Q => ∃ i j, x = .int i ∧ y = .int j ∧ Q (.int (Builtin.bitOr i j)) H
theorem in_or : InOp X .BitOr rOrI := fun pins s σ H x y u v Q I rx ry h => iop_or pins s σ H x y u v Q I rx ry h
theorem ip_or : PIp X .BitOr (ipI fun i j => Builtin.bitOr i j) := by
  intro pins s σ H x y v u Q I r1 r2 h
  obtain ⟨i, j, e1, e2, q⟩ := h
  subst e1; subst e2
  obtain ⟨t, rfl⟩ := r1
  obtain ⟨t', rfl⟩ := r2
  exact ior_int ⟨.int _, H, I.tok _, ⟨_, rfl⟩, q⟩
/-- {x:b} -/
def tFmtB (te : TE) : TE := fun σ H Q => te σ H fun x H1 => ∃ i : Int, x = .int i ∧ 0 ≤ i ∧ (Nat.toDigits 2 i.natAbs).length ≤ sizeLine ∧ Q (.str (binStr i.natAbs)) H1
theorem pe_fmtB {e : Expr} {te : TE} {pos p1 p2 : Pos} {k : Nat} (he : PE X e te) : PE X (.FormattedValue e (-1) (some (.JoinedStr [.Constant (.str "b") k p1] p2)) pos) (tFmtB te) := by
  refine ⟨fun pins s σ H Q I h => ?_⟩
  refine wpAny_FormattedValue_spec (thn (he.run pins s σ H _ I h) fun v s1 hv => ?_)
  obtain ⟨x, H1, I1, r1, i, rfl, h0, hz, q⟩ := hv
  obtain ⟨t, rfl⟩ := r1
  refine thn ((pe_joined1 (X := X) (pos := p2) (pe_str (pos := p1) (j := k) (x := ("b" : Str)))).run pins s1 σ H1 (fun y H2 => y = .str ("b" : Str) ∧ H2 = H1) I1 ⟨rfl, rfl⟩) fun r s2 hr => ?_
  obtain ⟨y, H2, I2, r2, ey, eh⟩ := hr
  subst ey eh
  obtain ⟨t2, rfl⟩ := r2
  refine ⟨_, t2, rfl, formatField_bin h0 hz fun t' tk => ⟨.str (binStr i.natAbs), _, I2.tok _, ⟨_, rfl⟩, q⟩⟩
end
/-! ### bits -/
theorem bitNot_ofNat (a : Nat) : Builtin.bitNot (a : Int) = -(a : Int) - 1 := by
  unfold Builtin.bitNot; omega
theorem bitOr_nat (a b : Nat) : Builtin.bitOr (a : Int) (b : Int) = ((a ||| b : Nat) : Int) := by
  unfold Builtin.bitOr Builtin.bitAnd
  rw [bitNot_ofNat, bitNot_ofNat, decide_eq_false (by omega), decide_eq_false (by omega)]
  show Builtin.bitNot (Builtin.bitNot (((Builtin.bitNot (-(a : Int) - 1)).toNat ||| (Builtin.bitNot (-(b : Int) - 1)).toNat : Nat) : Int)) = _
  have e : ∀ c : Nat, (Builtin.bitNot (-(c : Int) - 1)).toNat = c := fun c => by unfold Builtin.bitNot; omega
  rw [e, e]
  unfold Builtin.bitNot
  omega
theorem bitAnd_nat (a b : Nat) : Builtin.bitAnd (a : Int) (b : Int) = ((a &&& b : Nat) : Int) := by
  unfold Builtin.bitAnd
  rw [decide_eq_true (by omega), decide_eq_true (by omega)]
  simp
theorem bin_get : ∀ (L n : Nat), 2 ^ L ≤ n → n < 2 ^ (L + 1) → (Nat.toDigits 2 n).length = L + 1 ∧ ∀ i, i ≤ L → (Nat.toDigits 2 n)[i]? = some (if n.testBit (L - i) then '1' else '0')
  | 0, n, h1, h2 => by
    have : n = 1 := by omega
    subst this
    exact ⟨by decide, fun i hi => by have : i = 0 := by omega
                                     subst this; decide⟩
  | L + 1, n, h1, h2 => by
    have hp : 0 < 2 ^ L := Nat.pow_pos (by decide)
    have e1 : 2 ^ (L + 1) = 2 * 2 ^ L := by rw [Nat.pow_succ, Nat.mul_comm]
    have e2 : 2 ^ (L + 1 + 1) = 2 * 2 ^ (L + 1) := by rw [Nat.pow_succ, Nat.mul_comm]
    have hn : 2 ≤ n := by omega
    obtain ⟨l, g⟩ := bin_get L (n / 2) (by omega) (by omega)
    rw [Nat.toDigits_of_base_le (by decide) hn]
    refine ⟨by rw [List.length_append, l]; rfl, fun i hi => ?_⟩
    by_cases hL : i ≤ L
    · rw [List.getElem?_append_left (by omega), g i hL, Nat.testBit_div_two, show L - i + 1 = L + 1 - i by omega]
    · have : i = L + 1 := by omega
      subst this
      rw [List.getElem?_append_right (by omega), l, Nat.sub_self]
      show some (n % 2).digitChar = some (if n.testBit 0 then '1' else '0')
      rw [Nat.testBit_zero]
      rcases Nat.mod_two_eq_zero_or_one n with h | h <;> rw [h] <;> rfl
/-- the sign of a text of bits -/
theorem binStr_get {L n i : Nat} (h1 : 2 ^ L ≤ n) (h2 : n < 2 ^ (L + 1)) (hi : i ≤ L) : (binStr n).length = L + 1 ∧ (binStr n).cps[i]? = some (if n.testBit (L - i) then 49 else 48) := by
  obtain ⟨l, g⟩ := bin_get L n h1 h2
  unfold binStr
  refine ⟨by show (List.toArray _).size = _; rw [List.size_toArray, List.length_map, l], ?_⟩
  show (List.toArray _)[i]? = _
  rw [List.getElem?_toArray, List.getElem?_map, g i hi]
  cases n.testBit (L - i) <;> rfl
theorem one_str : ("1" : Str) = ⟨#[49]⟩ := by decide +kernel
end Cs

/-! Su: seats of rings as codes, sets of them as bits. -/
namespace Cs
def room : List Nat → Nat
  | [] => 1
  | s :: ss => 2 * s * room ss
def cod : List Nat → List Nat → Nat
  | _ :: ss, d :: ds => d * room ss + cod ss ds
  | _, _ => 0
def cnt : List Nat → Nat
  | [] => 1
  | s :: ss => s * cnt ss
def ixo : List Nat → List Nat → Nat
  | _ :: ss, d :: ds => d * cnt ss + ixo ss ds
  | _, _ => 0
def seatsF : List Nat → List (List Nat)
  | [] => [[]]
  | s :: ss => (List.range s).flatMap fun d => (seatsF ss).map (d :: ·)
/-- a digit below m times its size, for each ring -/
inductive Dg (m : Nat) : List Nat → List Nat → Prop
  | nil : Dg m [] []
  | cons {s d : Nat} {ss ds : List Nat} : d < m * s → Dg m ss ds → Dg m (s :: ss) (d :: ds)
theorem Dg.len {m : Nat} {ss ds : List Nat} (h : Dg m ss ds) : ds.length = ss.length := by
  induction h with
  | nil => rfl
  | cons _ _ ih => simp [ih]
theorem Dg.mono {m : Nat} {ss ds : List Nat} (h : Dg 1 ss ds) (hm : 1 ≤ m) : Dg m ss ds := by
  induction h with
  | nil => exact .nil
  | @cons s d ss ds h _ ih => exact .cons (Nat.lt_of_lt_of_le h (Nat.mul_le_mul_right _ hm)) ih
theorem cod_lt {ss es : List Nat} (h : Dg 2 ss es) : cod ss es < room ss := by
  induction h with
  | nil => decide
  | @cons s d ss ds h _ ih =>
    show d * room ss + cod ss ds < 2 * s * room ss
    have : (d + 1) * room ss ≤ 2 * s * room ss := Nat.mul_le_mul_right _ h
    rw [Nat.add_mul, Nat.one_mul] at this
    omega
theorem cod_inj {ss es fs : List Nat} (h : Dg 2 ss es) (g : Dg 2 ss fs) (e : cod ss es = cod ss fs) : es = fs := by
  induction h generalizing fs with
  | nil => cases g; rfl
  | @cons s d ss ds h hd ih =>
    cases g with
    | @cons _ d' _ ds' g gd =>
      have l1 := cod_lt hd
      have l2 := cod_lt gd
      have e' : d * room ss + cod ss ds = d' * room ss + cod ss ds' := e
      have hp : 0 < room ss := by omega
      have q : ∀ {k c : Nat}, c < room ss → (k * room ss + c) / room ss = k := fun {k c} hc => by
        rw [Nat.mul_comm, Nat.mul_add_div hp, Nat.div_eq_of_lt hc, Nat.add_zero]
      have ed : d = d' := by
        have := q (k := d) l1
        rw [e', q l2] at this
        exact this.symm
      subst ed
      rw [ih gd (by omega)]
theorem mem_seatsF {ss ds : List Nat} : ds ∈ seatsF ss ↔ Dg 1 ss ds := by
  induction ss generalizing ds with
  | nil =>
    constructor
    · intro h
      have : ds = [] := by simpa [seatsF] using h
      subst this
      exact .nil
    · intro h
      cases h
      simp [seatsF]
  | cons s ss ih =>
    simp only [seatsF, List.mem_flatMap, List.mem_range, List.mem_map]
    constructor
    · rintro ⟨d, hd, t, ht, rfl⟩
      exact .cons (by omega) (ih.mp ht)
    · intro h
      cases h with
      | @cons _ d _ t h ht => exact ⟨d, by omega, t, ih.mpr ht, rfl⟩
theorem seatsF_len (ss : List Nat) : (seatsF ss).length = cnt ss := by
  induction ss with
  | nil => rfl
  | cons s ss ih =>
    simp only [seatsF, cnt, List.length_flatMap, List.length_map, ih]
    have : ∀ n c : Nat, (List.map (fun _ => c) (List.range n)).sum = n * c := fun n c => by
      rw [List.map_const', List.length_range]
      induction n with
      | zero => simp
      | succ n ih => rw [List.replicate_succ, List.sum_cons, ih, Nat.succ_mul, Nat.add_comm]
    exact this s (cnt ss)
theorem flat_get {α β : Type} (f : α → List β) (c : Nat) : ∀ (l : List α), (∀ x ∈ l, (f x).length = c) → ∀ (k r : Nat), r < c → (l.flatMap f)[k * c + r]? = l[k]?.bind fun x => (f x)[r]?
  | [], _, k, r, _ => by simp
  | a :: l, h, 0, r, hr => by
    have ha := h a (by simp)
    rw [List.flatMap_cons, Nat.zero_mul, Nat.zero_add, List.getElem?_append_left (by omega)]
    simp
  | a :: l, h, k + 1, r, hr => by
    have ha := h a (by simp)
    rw [List.flatMap_cons, List.getElem?_append_right (by rw [ha, Nat.succ_mul]; omega), ha, show (k + 1) * c + r - c = k * c + r by rw [Nat.succ_mul]; omega, flat_get f c l (fun x hx => h x (by simp [hx])) k r hr]
    simp
theorem ixo_at {ss ds : List Nat} (h : Dg 1 ss ds) : ixo ss ds < cnt ss ∧ (seatsF ss)[ixo ss ds]? = some ds := by
  induction h with
  | nil => exact ⟨by decide, rfl⟩
  | @cons s d ss ds h _ ih =>
    obtain ⟨h1, h2⟩ := ih
    rw [Nat.one_mul] at h
    refine ⟨?_, ?_⟩
    · show d * cnt ss + ixo ss ds < s * cnt ss
      have : (d + 1) * cnt ss ≤ s * cnt ss := Nat.mul_le_mul_right _ h
      rw [Nat.add_mul, Nat.one_mul] at this
      omega
    · show ((List.range s).flatMap fun d => (seatsF ss).map (d :: ·))[d * cnt ss + ixo ss ds]? = _
      rw [flat_get _ (cnt ss) _ (fun x _ => by rw [List.length_map, seatsF_len]) _ _ h1, List.getElem?_range h]
      simp [h2]
/-- the seat of an index -/
def stt (ss : List Nat) (i : Nat) : List Nat := (seatsF ss).getD i []
theorem at_ixo : ∀ (ss : List Nat) (i : Nat), i < cnt ss → ∃ ds, Dg 1 ss ds ∧ ixo ss ds = i
  | [], i, h => ⟨[], .nil, by simp only [cnt] at h; show 0 = i; omega⟩
  | s :: ss, i, h => by
    have hc : 0 < cnt ss := by
      rcases Nat.eq_zero_or_pos (cnt ss) with z | z
      · simp [cnt, z] at h
      · exact z
    obtain ⟨ds, h1, h2⟩ := at_ixo ss (i % cnt ss) (Nat.mod_lt _ hc)
    refine ⟨i / cnt ss :: ds, .cons (by rw [Nat.one_mul]; exact Nat.div_lt_of_lt_mul (by rw [Nat.mul_comm]; exact h)) h1, ?_⟩
    show i / cnt ss * cnt ss + ixo ss ds = i
    rw [h2, Nat.mul_comm]
    exact Nat.div_add_mod _ _
theorem stt_ok {ss : List Nat} {i : Nat} (h : i < cnt ss) : Dg 1 ss (stt ss i) ∧ ixo ss (stt ss i) = i ∧ (seatsF ss)[i]? = some (stt ss i) := by
  obtain ⟨ds, h1, h2⟩ := at_ixo ss i h
  obtain ⟨h3, h4⟩ := ixo_at h1
  rw [h2] at h4
  have : stt ss i = ds := by unfold stt; rw [List.getD_eq_getElem?_getD, h4]; rfl
  rw [this]
  exact ⟨h1, h2, h4⟩
theorem stt_ixo {ss ds : List Nat} (h : Dg 1 ss ds) : stt ss (ixo ss ds) = ds := by
  unfold stt
  rw [List.getD_eq_getElem?_getD, (ixo_at h).2]
  rfl
theorem ixo_inj {ss ds es : List Nat} (h : Dg 1 ss ds) (g : Dg 1 ss es) (e : ixo ss ds = ixo ss es) : ds = es := by
  rw [← stt_ixo h, e, stt_ixo g]
/-! digits of doubles, of mirrors, of partners -/
def dbd : List Nat → List Nat → List Nat
  | s :: ss, x :: xs => 2 * x % s :: dbd ss xs
  | _, _ => []
def mrd : List Nat → List Nat → List Nat
  | s :: ss, a :: as => (s - a) :: mrd ss as
  | _, _ => []
def adg : List Nat → List Nat → List Nat
  | x :: xs, y :: ys => (x + y) :: adg xs ys
  | _, _ => []
def mdd : List Nat → List Nat → List Nat
  | s :: ss, x :: xs => x % s :: mdd ss xs
  | _, _ => []
/-- the other move where one goes from x to a -/
def prt (ss x a : List Nat) : List Nat := mdd ss (adg (dbd ss x) (mrd ss a))
theorem cod_add : ∀ (ss xs ys : List Nat), xs.length = ss.length → ys.length = ss.length → cod ss (adg xs ys) = cod ss xs + cod ss ys
  | [], [], [], _, _ => rfl
  | s :: ss, x :: xs, y :: ys, h, g => by
    show (x + y) * room ss + cod ss (adg xs ys) = x * room ss + cod ss xs + (y * room ss + cod ss ys)
    rw [cod_add ss xs ys (by simpa using h) (by simpa using g), Nat.add_mul]
    omega
  | [], _ :: _, _, h, _ => by simp at h
  | [], [], _ :: _, _, h => by simp at h
  | _ :: _, [], _, h, _ => by simp at h
  | _ :: _, _ :: _, [], _, h => by simp at h
theorem dbd_dg {ss x : List Nat} (h : Dg 1 ss x) : Dg 1 ss (dbd ss x) := by
  induction h with
  | nil => exact .nil
  | @cons s d ss ds h _ ih => exact .cons (by rw [Nat.one_mul] at h ⊢; exact Nat.mod_lt _ (by omega)) ih
theorem sum_dg {ss x a : List Nat} (h : Dg 1 ss x) (g : Dg 1 ss a) : Dg 2 ss (adg (dbd ss x) (mrd ss a)) := by
  induction h generalizing a with
  | nil => cases g; exact .nil
  | @cons s d ss ds h _ ih =>
    cases g with
    | @cons _ a _ as g ga =>
      refine .cons ?_ (ih ga)
      have := Nat.mod_lt (2 * d) (show 0 < s by omega)
      omega
theorem mdd_dg {m : Nat} {ss x : List Nat} (h : Dg m ss x) : Dg 1 ss (mdd ss x) := by
  induction h with
  | nil => exact .nil
  | @cons s d ss ds h _ ih =>
    refine .cons ?_ ih
    rw [Nat.one_mul]
    refine Nat.mod_lt _ ?_
    rcases Nat.eq_zero_or_pos s with z | z
    · subst z; simp at h
    · exact z
theorem prt_dg {ss x a : List Nat} (h : Dg 1 ss x) (g : Dg 1 ss a) : Dg 1 ss (prt ss x a) := mdd_dg (sum_dg h g)
theorem mrd_len : ∀ {ss a : List Nat}, a.length = ss.length → (mrd ss a).length = ss.length
  | [], [], _ => rfl
  | _ :: ss, _ :: as, h => by show (mrd ss as).length + 1 = ss.length + 1; rw [mrd_len (by simpa using h)]
  | [], _ :: _, h => by simp at h
  | _ :: _, [], h => by simp at h
theorem cod_sum {ss x a : List Nat} (h : Dg 1 ss x) (g : Dg 1 ss a) : cod ss (mrd ss a) + cod ss (dbd ss x) = cod ss (adg (dbd ss x) (mrd ss a)) := by
  rw [cod_add ss _ _ (dbd_dg h).len (mrd_len g.len), Nat.add_comm]
/-! wide sets -/
def wid : List Nat → Nat → Nat
  | [], u => u
  | s :: ss, u => wid ss (u ||| u <<< (s * room ss))
/-- each digit is 0 or its size -/
inductive Qd : List Nat → List Nat → Prop
  | nil : Qd [] []
  | zero {s : Nat} {ss qs : List Nat} : Qd ss qs → Qd (s :: ss) (0 :: qs)
  | one {s : Nat} {ss qs : List Nat} : Qd ss qs → Qd (s :: ss) (s :: qs)
theorem Qd.len {ss q : List Nat} (h : Qd ss q) : q.length = ss.length := by
  induction h with
  | nil => rfl
  | zero _ ih => simp [ih]
  | one _ ih => simp [ih]
theorem wid_bits : ∀ (ss : List Nat) (u c : Nat), (wid ss u).testBit c = true ↔ ∃ q, Qd ss q ∧ cod ss q ≤ c ∧ u.testBit (c - cod ss q) = true
  | [], u, c => by
    constructor
    · intro h
      exact ⟨[], .nil, Nat.zero_le _, h⟩
    · rintro ⟨q, hq, _, h⟩
      cases hq
      exact h
  | s :: ss, u, c => by
    show (wid ss (u ||| u <<< (s * room ss))).testBit c = true ↔ _
    rw [wid_bits ss]
    constructor
    · rintro ⟨q, hq, hc, h⟩
      rw [Nat.testBit_or, Bool.or_eq_true, Nat.testBit_shiftLeft] at h
      rcases h with h | h
      · refine ⟨0 :: q, .zero hq, ?_, ?_⟩
        · show 0 * room ss + cod ss q ≤ c; omega
        · show u.testBit (c - (0 * room ss + cod ss q)) = true
          rw [Nat.zero_mul, Nat.zero_add]; exact h
      · rw [Bool.and_eq_true, decide_eq_true_eq] at h
        refine ⟨s :: q, .one hq, ?_, ?_⟩
        · show s * room ss + cod ss q ≤ c; omega
        · show u.testBit (c - (s * room ss + cod ss q)) = true
          rw [show c - (s * room ss + cod ss q) = c - cod ss q - s * room ss by omega]; exact h.2
    · rintro ⟨q, hq, hc, h⟩
      cases hq with
      | @zero _ _ q hq =>
        have hc : 0 * room ss + cod ss q ≤ c := hc
        have h : u.testBit (c - (0 * room ss + cod ss q)) = true := h
        rw [Nat.zero_mul, Nat.zero_add] at hc h
        refine ⟨q, hq, hc, ?_⟩
        rw [Nat.testBit_or, h, Bool.true_or]
      | @one _ _ q hq =>
        have hc : s * room ss + cod ss q ≤ c := hc
        have h : u.testBit (c - (s * room ss + cod ss q)) = true := h
        refine ⟨q, hq, by omega, ?_⟩
        rw [Nat.testBit_or, Nat.testBit_shiftLeft, decide_eq_true (by omega : c - cod ss q ≥ s * room ss), Bool.true_and, show c - cod ss q - s * room ss = c - (s * room ss + cod ss q) by omega, h, Bool.or_true]
theorem addq_dg {ss p q : List Nat} (h : Dg 1 ss p) (g : Qd ss q) : Dg 2 ss (adg p q) ∧ mdd ss (adg p q) = p := by
  induction h generalizing q with
  | nil => cases g; exact ⟨.nil, rfl⟩
  | @cons s d ss ds h _ ih =>
    rw [Nat.one_mul] at h
    cases g with
    | zero g =>
      obtain ⟨i1, i2⟩ := ih g
      exact ⟨.cons (by omega) i1, by show (d + 0) % s :: _ = _; rw [i2, Nat.add_zero, Nat.mod_eq_of_lt h]⟩
    | one g =>
      obtain ⟨i1, i2⟩ := ih g
      exact ⟨.cons (by omega) i1, by show (d + s) % s :: _ = _; rw [i2, Nat.add_mod_right, Nat.mod_eq_of_lt h]⟩
theorem split_q {ss e : List Nat} (h : Dg 2 ss e) : ∃ q, Qd ss q ∧ adg (mdd ss e) q = e := by
  induction h with
  | nil => exact ⟨[], .nil, rfl⟩
  | @cons s d ss ds h _ ih =>
    obtain ⟨q, h1, h2⟩ := ih
    by_cases hd : d < s
    · exact ⟨0 :: q, .zero h1, by show (d % s + 0) :: _ = _; rw [h2, Nat.mod_eq_of_lt hd, Nat.add_zero]⟩
    · refine ⟨s :: q, .one h1, ?_⟩
      show (d % s + s) :: _ = _
      rw [h2]
      have : d % s = d - s := by rw [Nat.mod_eq_sub_mod (by omega), Nat.mod_eq_of_lt (by omega)]
      rw [this, show d - s + s = d by omega]
/-- all members are codes of seats -/
def OnlyC (ss : List Nat) (u : Nat) : Prop := ∀ c, u.testBit c = true → ∃ p, Dg 1 ss p ∧ c = cod ss p
theorem wid_mem {ss : List Nat} {u : Nat} (ho : OnlyC ss u) (c : Nat) : (wid ss u).testBit c = true ↔ ∃ e, Dg 2 ss e ∧ c = cod ss e ∧ u.testBit (cod ss (mdd ss e)) = true := by
  rw [wid_bits]
  constructor
  · rintro ⟨q, hq, hc, h⟩
    obtain ⟨p, hp, e⟩ := ho _ h
    obtain ⟨h1, h2⟩ := addq_dg hp hq
    refine ⟨adg p q, h1, ?_, ?_⟩
    · rw [cod_add ss p q hp.len hq.len]; omega
    · rw [h2, ← e]; exact h
  · rintro ⟨e, he, rfl, h⟩
    obtain ⟨q, hq, eq⟩ := split_q he
    have e1 := cod_add ss (mdd ss e) q (mdd_dg he).len hq.len
    rw [eq] at e1
    exact ⟨q, hq, by omega, by rw [show cod ss e - cod ss q = cod ss (mdd ss e) by omega]; exact h⟩
theorem wid_lt {ss : List Nat} {u : Nat} (ho : OnlyC ss u) : wid ss u < 2 ^ room ss := by
  refine Nat.lt_pow_two_of_testBit _ fun c hc => ?_
  rw [Bool.eq_false_iff]
  intro h
  obtain ⟨e, he, rfl, _⟩ := (wid_mem ho c).mp h
  have := cod_lt he
  omega
theorem wid_cod {ss : List Nat} {u : Nat} (ho : OnlyC ss u) {e : List Nat} (he : Dg 2 ss e) : (wid ss u).testBit (cod ss e) = u.testBit (cod ss (mdd ss e)) := by
  rw [Bool.eq_iff_iff, wid_mem ho]
  constructor
  · rintro ⟨f, hf, ef, h⟩
    rw [cod_inj he hf ef]
    exact h
  · intro h
    exact ⟨e, he, rfl, h⟩
/-! sets as bits -/
def bitsOf (l : List Nat) : Nat := l.foldl (fun u c => u ||| 1 <<< c) 0
theorem bitsOf_snoc (l : List Nat) (c : Nat) : bitsOf (l ++ [c]) = bitsOf l ||| 1 <<< c := by unfold bitsOf; rw [List.foldl_append]; rfl
theorem testBit_one_shl (c d : Nat) : (1 <<< c).testBit d = decide (d = c) := by
  rw [Nat.one_shiftLeft, Nat.testBit_two_pow, Bool.eq_iff_iff, decide_eq_true_eq, decide_eq_true_eq]
  exact eq_comm
theorem testBit_foldl (l : List Nat) (u d : Nat) : (l.foldl (fun u c => u ||| 1 <<< c) u).testBit d = (u.testBit d || decide (d ∈ l)) := by
  induction l generalizing u with
  | nil => simp
  | cons c l ih =>
    rw [List.foldl_cons, ih, Nat.testBit_or, testBit_one_shl, Bool.or_assoc]
    congr 1
    rw [Bool.eq_iff_iff, Bool.or_eq_true, decide_eq_true_eq, decide_eq_true_eq, decide_eq_true_eq, List.mem_cons]
theorem testBit_bitsOf (l : List Nat) (d : Nat) : (bitsOf l).testBit d = decide (d ∈ l) := by
  unfold bitsOf
  rw [testBit_foldl, Nat.zero_testBit, Bool.false_or]
/-! by indexes -/
def cdx (ss : List Nat) (i : Nat) : Nat := cod ss (stt ss i)
def dbx (ss : List Nat) (i : Nat) : Nat := cod ss (dbd ss (stt ss i))
def mrx (ss : List Nat) (i : Nat) : Nat := cod ss (mrd ss (stt ss i))
def prx (ss : List Nat) (x a : Nat) : Nat := ixo ss (prt ss (stt ss x) (stt ss a))
/-- the bits of a set of seats -/
def Bits (f : Nat → Nat) (U : Nat → Bool) (N u : Nat) : Prop := ∀ c, u.testBit c = true ↔ ∃ i, i < N ∧ U i = true ∧ f i = c
theorem Bits.uniq {f : Nat → Nat} {U : Nat → Bool} {N u v : Nat} (h : Bits f U N u) (g : Bits f U N v) : u = v := Nat.eq_of_testBit_eq fun c => by rw [Bool.eq_iff_iff, h c, g c]
theorem Bits.only {ss : List Nat} {U : Nat → Bool} {u : Nat} (h : Bits (cdx ss) U (cnt ss) u) : OnlyC ss u := fun c hc => by
  obtain ⟨i, hi, _, e⟩ := (h c).mp hc
  exact ⟨_, (stt_ok hi).1, e.symm⟩
theorem cdx_inj {ss : List Nat} {i j : Nat} (hi : i < cnt ss) (hj : j < cnt ss) (e : cdx ss i = cdx ss j) : i = j := by
  have := cod_inj ((stt_ok hi).1.mono (by decide)) ((stt_ok hj).1.mono (by decide)) e
  rw [← (stt_ok hi).2.1, this, (stt_ok hj).2.1]
theorem prx_lt {ss : List Nat} {x a : Nat} (hx : x < cnt ss) (ha : a < cnt ss) : prx ss x a < cnt ss := (ixo_at (prt_dg (stt_ok hx).1 (stt_ok ha).1)).1
theorem Bits.at {ss : List Nat} {U : Nat → Bool} {u : Nat} (h : Bits (cdx ss) U (cnt ss) u) {p : List Nat} (hp : Dg 1 ss p) : u.testBit (cod ss p) = U (ixo ss p) := by
  rw [Bool.eq_iff_iff, h]
  constructor
  · rintro ⟨i, hi, hU, e⟩
    have := cod_inj ((stt_ok hi).1.mono (by decide)) (hp.mono (by decide)) e
    rw [← this, (stt_ok hi).2.1]
    exact hU
  · intro hU
    exact ⟨_, (ixo_at hp).1, hU, by unfold cdx; rw [stt_ixo hp]⟩
/-- from x to a, and on the other side to a seat of U -/
theorem wide_bit {ss : List Nat} {U : Nat → Bool} {u x a : Nat} (h : Bits (cdx ss) U (cnt ss) u) (hx : x < cnt ss) (ha : a < cnt ss) : (wid ss u).testBit (mrx ss a + dbx ss x) = U (prx ss x a) := by
  have d1 := (stt_ok hx).1
  have d2 := (stt_ok ha).1
  unfold mrx dbx
  rw [cod_sum d1 d2, wid_cod h.only (sum_dg d1 d2)]
  exact h.at (prt_dg d1 d2)
theorem dbx_lt {ss : List Nat} {x : Nat} (hx : x < cnt ss) : dbx ss x < room ss := cod_lt ((dbd_dg (stt_ok hx).1).mono (by decide))
theorem cdx_lt {ss : List Nat} {x : Nat} (hx : x < cnt ss) : cdx ss x < room ss := cod_lt ((stt_ok hx).1.mono (by decide))
end Cs

/-! Sv: the numbers of calls, level by level. -/
namespace Cs
theorem mod_self' {s x : Nat} (hx : x < s) : (2 * x % s + (s - x)) % s = x := by
  by_cases h : 2 * x < s
  · rw [Nat.mod_eq_of_lt h, show 2 * x + (s - x) = x + s by omega, Nat.add_mod_right, Nat.mod_eq_of_lt hx]
  · rw [Nat.mod_eq_sub_mod (by omega : 2 * x ≥ s), Nat.mod_eq_of_lt (by omega : 2 * x - s < s), show 2 * x - s + (s - x) = x by omega, Nat.mod_eq_of_lt hx]
theorem mod_back {s r a : Nat} (hr : r < s) (ha : a < s) : (r + (s - (r + (s - a)) % s)) % s = a := by
  by_cases h : a ≤ r
  · rw [show r + (s - a) = (r - a) + s by omega, Nat.add_mod_right, Nat.mod_eq_of_lt (by omega : r - a < s), show r + (s - (r - a)) = a + s by omega, Nat.add_mod_right, Nat.mod_eq_of_lt ha]
  · rw [Nat.mod_eq_of_lt (by omega : r + (s - a) < s), show r + (s - (r + (s - a))) = a by omega, Nat.mod_eq_of_lt ha]
theorem prt_self {ss x : List Nat} (h : Dg 1 ss x) : prt ss x x = x := by
  induction h with
  | nil => rfl
  | @cons s d ss ds h _ ih =>
    show (2 * d % s + (s - d)) % s :: prt ss ds ds = _
    rw [ih, mod_self' (by omega)]
theorem prt_back {ss x a : List Nat} (h : Dg 1 ss x) (g : Dg 1 ss a) : prt ss x (prt ss x a) = a := by
  induction h generalizing a with
  | nil => cases g; rfl
  | @cons s d ss ds h _ ih =>
    cases g with
    | @cons _ a _ as g ga =>
      show (2 * d % s + (s - (2 * d % s + (s - a)) % s)) % s :: prt ss ds (prt ss ds as) = _
      rw [ih ga, mod_back (Nat.mod_lt _ (by omega)) (by omega)]
section
variable {ss : List Nat} {x a : Nat}
theorem prx_self (hx : x < cnt ss) : prx ss x x = x := by
  unfold prx
  rw [prt_self (stt_ok hx).1, (stt_ok hx).2.1]
theorem prx_back (hx : x < cnt ss) (ha : a < cnt ss) : prx ss x (prx ss x a) = a := by
  unfold prx
  rw [stt_ixo (prt_dg (stt_ok hx).1 (stt_ok ha).1), prt_back (stt_ok hx).1 (stt_ok ha).1, (stt_ok ha).2.1]
end
/-- n calls suffice from x -/
def Un (ss : List Nat) (T : Nat → Bool) : Nat → Nat → Bool
  | 0, x => T x
  | n + 1, x => (List.range (cnt ss)).any fun a => Un ss T n a && Un ss T n (prx ss x a)
section
variable {ss : List Nat} {T : Nat → Bool} {n m x a : Nat}
theorem un_succ : Un ss T (n + 1) x = true ↔ ∃ a, a < cnt ss ∧ Un ss T n a = true ∧ Un ss T n (prx ss x a) = true := by
  simp only [Un, List.any_eq_true, List.mem_range, Bool.and_eq_true]
theorem un_mono (hx : x < cnt ss) (h : Un ss T n x = true) : Un ss T (n + 1) x = true := un_succ.mpr ⟨x, hx, h, by rw [prx_self hx]; exact h⟩
theorem un_le (hx : x < cnt ss) (hnm : n ≤ m) (h : Un ss T n x = true) : Un ss T m x = true := by
  induction m with
  | zero => rw [show n = 0 by omega] at h; exact h
  | succ m ih =>
    rcases Nat.lt_or_ge m n with q | q
    · rw [show n = m + 1 by omega] at h; exact h
    · exact un_mono hx (ih q)
/-- no new seat: never again -/
theorem un_stable (h : ∀ i, i < cnt ss → Un ss T (n + 1) i = true → Un ss T n i = true) (hnm : n ≤ m) (hx : x < cnt ss) (hm : Un ss T m x = true) : Un ss T n x = true := by
  induction m generalizing x with
  | zero => rw [show n = 0 by omega]; exact hm
  | succ m ih =>
    rcases Nat.lt_or_ge m n with q | q
    · rw [show n = m + 1 by omega]; exact hm
    · obtain ⟨a, ha, h1, h2⟩ := un_succ.mp hm
      exact h x hx (un_succ.mpr ⟨a, ha, ih q ha h1, ih q (prx_lt hx ha) h2⟩)
/-- the known, the new, the waiting seats -/
def Kn (ss : List Nat) (T : Nat → Bool) (n : Nat) : List Nat := (List.range (cnt ss)).filter (Un ss T n)
def Wn (ss : List Nat) (T : Nat → Bool) (n : Nat) : List Nat := (List.range (cnt ss)).filter fun i => !Un ss T n i
def Rn (ss : List Nat) (T : Nat → Bool) : Nat → List Nat
  | 0 => Kn ss T 0
  | n + 1 => (List.range (cnt ss)).filter fun i => Un ss T (n + 1) i && !Un ss T n i
theorem mem_Kn : x ∈ Kn ss T n ↔ x < cnt ss ∧ Un ss T n x = true := by simp [Kn]
theorem mem_Wn : x ∈ Wn ss T n ↔ x < cnt ss ∧ Un ss T n x = false := by simp [Wn]
theorem mem_Rn : x ∈ Rn ss T n ↔ x < cnt ss ∧ Un ss T n x = true ∧ ∀ m, m < n → Un ss T m x = false := by
  cases n with
  | zero => simp [Rn, Kn]
  | succ n =>
    simp only [Rn, List.mem_filter, List.mem_range, Bool.and_eq_true, Bool.not_eq_true']
    constructor
    · rintro ⟨h, h1, h2⟩
      refine ⟨h, h1, fun m hm => ?_⟩
      rw [Bool.eq_false_iff]
      intro h3
      rw [un_le h (by omega : m ≤ n) h3] at h2
      cases h2
    · rintro ⟨h, h1, h2⟩
      exact ⟨h, h1, h2 n (by omega)⟩
theorem Rn_asc : (Rn ss T n).Pairwise (· < ·) := by
  cases n with
  | zero => exact List.Pairwise.filter _ List.pairwise_lt_range
  | succ n => exact List.Pairwise.filter _ List.pairwise_lt_range
theorem Wn_nodup : (Wn ss T n).Nodup := List.Pairwise.filter _ List.nodup_range
theorem Kn_nodup : (Kn ss T n).Nodup := List.Pairwise.filter _ List.nodup_range
theorem kw_len : (Kn ss T n).length + (Wn ss T n).length = cnt ss := by
  unfold Kn Wn
  generalize hN : cnt ss = N
  have := List.length_range (n := N)
  generalize List.range N = l at *
  rw [← this]
  clear this
  induction l with
  | nil => rfl
  | cons a l ih =>
    by_cases h : Un ss T n a = true
    · simp [h]; omega
    · simp [h]; omega
theorem Wn_succ : Wn ss T (n + 1) = (Wn ss T n).filter fun i => !Un ss T (n + 1) i := by
  unfold Wn
  rw [List.filter_filter]
  refine List.filter_congr fun i hi => ?_
  have hi := List.mem_range.mp hi
  cases h : Un ss T n i with
  | false => simp
  | true => rw [un_mono hi h]; rfl
theorem Rn_succ : Rn ss T (n + 1) = (Wn ss T n).filter fun i => Un ss T (n + 1) i := by
  unfold Wn
  rw [List.filter_filter]
  rfl
/-- more than half are known: all the others are next -/
theorem half (h : 2 * (Wn ss T n).length < cnt ss) (hx : x < cnt ss) : Un ss T (n + 1) x = true := by
  have hk := kw_len (ss := ss) (T := T) (n := n)
  apply Classical.byContradiction
  intro hn
  have dis : ∀ a, a ∈ Kn ss T n → prx ss x a ∉ Kn ss T n := fun a ha hb => by
    have ha := mem_Kn.mp ha
    exact hn (un_succ.mpr ⟨a, ha.1, ha.2, (mem_Kn.mp hb).2⟩)
  have nd : (Kn ss T n ++ (Kn ss T n).map (prx ss x)).Nodup := by
    rw [List.nodup_append]
    refine ⟨Kn_nodup, ?_, ?_⟩
    · refine List.pairwise_map.mpr (List.Pairwise.imp_of_mem ?_ Kn_nodup)
      intro a b ha hb hab e
      refine hab ?_
      have := congrArg (prx ss x) e
      rwa [prx_back hx (mem_Kn.mp ha).1, prx_back hx (mem_Kn.mp hb).1] at this
    · intro a ha b hb e
      subst e
      obtain ⟨c, hc, rfl⟩ := List.mem_map.mp hb
      exact dis c hc ha
  have := List.Nodup.length_le_of_subset (l₂ := List.range (cnt ss)) nd (fun b hb => by
    rcases List.mem_append.mp hb with hb | hb
    · exact List.mem_range.mpr (mem_Kn.mp hb).1
    · obtain ⟨c, hc, rfl⟩ := List.mem_map.mp hb
      exact List.mem_range.mpr (prx_lt hx (mem_Kn.mp hc).1))
  rw [List.length_append, List.length_map, List.length_range] at this
  omega
/-- the number of a seat, if it is at most d -/
def nmb (ss : List Nat) (T : Nat → Bool) (d i : Nat) : Option Nat := (List.range (d + 1)).find? fun n => Un ss T n i
theorem nmb_succ (d i : Nat) : nmb ss T (d + 1) i = (nmb ss T d i).or (if Un ss T (d + 1) i then some (d + 1) else none) := by
  unfold nmb
  rw [List.range_succ, List.find?_append]
  congr 1
  cases h : Un ss T (d + 1) i <;> simp [h]
theorem nmb_none {d i : Nat} (hi : i < cnt ss) : nmb ss T d i = none ↔ Un ss T d i = false := by
  unfold nmb
  rw [List.find?_eq_none]
  constructor
  · intro h
    have := h d (List.mem_range.mpr (by omega))
    simpa using this
  · intro h n hn h2
    rw [un_le hi (by have := List.mem_range.mp hn; omega : n ≤ d) h2] at h
    cases h
theorem nmb_some {d i n : Nat} : nmb ss T d i = some n ↔ n ≤ d ∧ Un ss T n i = true ∧ ∀ m, m < n → Un ss T m i = false := by
  unfold nmb
  rw [List.find?_range_eq_some]
  constructor
  · rintro ⟨h1, h2, h3⟩
    exact ⟨by have := List.mem_range.mp h2; omega, h1, fun m hm => by have := h3 m hm; simpa using this⟩
  · rintro ⟨h1, h2, h3⟩
    exact ⟨h2, List.mem_range.mpr (by omega), fun m hm => by rw [h3 m hm]; rfl⟩
/-- nonempty levels are few -/
theorem lev_few (h : ∀ m, m ≤ n → Rn ss T m ≠ []) : n + 1 ≤ (Kn ss T n).length := by
  induction n with
  | zero =>
    have := h 0 (Nat.le_refl _)
    exact List.length_pos_iff.mpr this
  | succ n ih =>
    have i1 := ih fun m hm => h m (by omega)
    obtain ⟨x, hx⟩ := List.exists_mem_of_ne_nil _ (h (n + 1) (Nat.le_refl _))
    obtain ⟨x1, x2, x3⟩ := mem_Rn.mp hx
    have nd : (x :: Kn ss T n).Nodup := List.nodup_cons.mpr ⟨fun hm => (by
      have := (mem_Kn.mp hm).2
      rw [x3 n (by omega)] at this
      exact absurd this (by decide)), Kn_nodup⟩
    have := List.Nodup.length_le_of_subset (l₂ := Kn ss T (n + 1)) nd (fun b hb => by
      rcases List.mem_cons.mp hb with rfl | hb
      · exact mem_Kn.mpr ⟨x1, x2⟩
      · have := mem_Kn.mp hb
        exact mem_Kn.mpr ⟨this.1, un_mono this.1 this.2⟩)
    simp only [List.length_cons] at this
    omega
end
/-! what the lists hold -/
theorem foldl_ext (h : Nat → Nat → Nat) : ∀ (ss : List Nat) (xs : List Nat), (ss.foldl (fun cs s => cs.flatMap fun c => (List.range s).map fun d => 2 * s * c + h s d) xs) =
    xs.flatMap fun x => (seatsF ss).map fun ds => x * room ss + cod ss (List.zipWith h ss ds)
  | [], xs => by
    simp [seatsF, room, cod]
  | s :: ss, xs => by
    rw [List.foldl_cons, foldl_ext h ss, List.flatMap_assoc]
    congr 1
    funext x
    simp only [seatsF, List.map_flatMap, List.flatMap_map, List.map_map]
    congr 1
    funext d
    congr 1
    funext ds
    show (2 * s * x + h s d) * room ss + cod ss (List.zipWith h ss ds) = x * (2 * s * room ss) + (h s d * room ss + cod ss (List.zipWith h ss ds))
    rw [Nat.add_mul, Nat.mul_comm (2 * s) x, Nat.mul_assoc x, Nat.add_assoc]
theorem zw_cod : ∀ (ss ds : List Nat), ds.length = ss.length → List.zipWith (fun _ d => d) ss ds = ds
  | [], [], _ => rfl
  | _ :: ss, d :: ds, h => by show d :: _ = _; rw [zw_cod ss ds (by simpa using h)]
  | [], _ :: _, h => by simp at h
  | _ :: _, [], h => by simp at h
theorem zw_dbd : ∀ (ss ds : List Nat), List.zipWith (fun s d => 2 * d % s) ss ds = dbd ss ds
  | [], _ => by simp [dbd]
  | _ :: _, [] => by simp [dbd]
  | s :: ss, d :: ds => by show _ :: _ = _ :: _; rw [zw_dbd ss ds]
theorem zw_mrd : ∀ (ss ds : List Nat), List.zipWith (fun s d => s - d) ss ds = mrd ss ds
  | [], _ => by simp [mrd]
  | _ :: _, [] => by simp [mrd]
  | s :: ss, d :: ds => by show _ :: _ = _ :: _; rw [zw_mrd ss ds]
/-- a list of all seats, by their indexes -/
theorem seats_map (ss : List Nat) (f : List Nat → Nat) : (seatsF ss).map f = (List.range (cnt ss)).map fun i => f (stt ss i) := by
  refine List.ext_getElem? fun i => ?_
  rw [List.getElem?_map, List.getElem?_map]
  by_cases hi : i < cnt ss
  · rw [(stt_ok hi).2.2, List.getElem?_range hi]; rfl
  · rw [List.getElem?_eq_none (by rw [seatsF_len]; omega), List.getElem?_eq_none (by rw [List.length_range]; omega)]; rfl
theorem codes_eq (ss : List Nat) : ss.foldl (fun cs s => cs.flatMap fun c => (List.range s).map fun d => 2 * s * c + d) [0] = (List.range (cnt ss)).map (cdx ss) := by
  rw [foldl_ext (fun _ d => d) ss [0]]
  simp only [List.flatMap_cons, List.flatMap_nil, List.append_nil, Nat.zero_mul, Nat.zero_add]
  refine Eq.trans (List.map_congr_left fun ds hd => ?_) (seats_map ss (cod ss))
  rw [zw_cod ss ds (mem_seatsF.mp hd).len]
theorem doubles_eq (ss : List Nat) : ss.foldl (fun cs s => cs.flatMap fun c => (List.range s).map fun d => 2 * s * c + 2 * d % s) [0] = (List.range (cnt ss)).map (dbx ss) := by
  rw [foldl_ext (fun s d => 2 * d % s) ss [0]]
  simp only [List.flatMap_cons, List.flatMap_nil, List.append_nil, Nat.zero_mul, Nat.zero_add, zw_dbd]
  exact seats_map ss fun ds => cod ss (dbd ss ds)
theorem mirrors_eq (ss : List Nat) : ss.foldl (fun cs s => cs.flatMap fun c => (List.range s).map fun d => 2 * s * c + (s - d)) [0] = (List.range (cnt ss)).map (mrx ss) := by
  rw [foldl_ext (fun s d => s - d) ss [0]]
  simp only [List.flatMap_cons, List.flatMap_nil, List.append_nil, Nat.zero_mul, Nat.zero_add, zw_mrd]
  exact seats_map ss fun ds => cod ss (mrd ss ds)
end Cs

/-! Sw: the grid's and the spread's lists. -/
namespace Cs
open PySem L2
def nV (l : List Nat) : List V := l.map fun n => V.int (n : Nat)
def lgr (cs ds : List Nat) (s : Nat) : List Nat := cs.flatMap fun c => ds.map fun d => 2 * s * c + d
theorem nV_get {l : List Nat} {i : Nat} {x : V} (h : (nV l)[i]? = some x) : ∃ n, l[i]? = some n ∧ x = .int (n : Nat) := by
  unfold nV at h
  rw [List.getElem?_map, Option.map_eq_some_iff] at h
  obtain ⟨n, h1, h2⟩ := h
  exact ⟨n, h1, h2.symm⟩
/-- sizes of rings, few and small -/
structure SmS (ss : List Nat) : Prop where
  len : ss.length ≤ 4
  pos : ∀ s ∈ ss, 1 ≤ s
  cnt : cnt ss ≤ 2000
def strd : List Nat → List Nat
  | [] => []
  | _ :: ss => room ss :: strd ss
theorem strd_snoc : ∀ (ps : List Nat) (s : Nat), strd (ps ++ [s]) = (strd ps).map (fun c => 2 * s * c) ++ [1]
  | [], s => rfl
  | p :: ps, s => by
    show room (ps ++ [s]) :: strd (ps ++ [s]) = _
    rw [strd_snoc ps s]
    have : ∀ ps : List Nat, room (ps ++ [s]) = 2 * s * room ps := fun ps => by
      induction ps with
      | nil => show 2 * s * 1 = 2 * s * 1; rfl
      | cons p ps ih =>
        show 2 * p * room (ps ++ [s]) = 2 * s * (2 * p * room ps)
        rw [ih, Nat.mul_left_comm]
    rw [this]
    rfl
theorem room_snoc (s : Nat) : ∀ (ps : List Nat), room (ps ++ [s]) = room ps * 2 * s
  | [] => by show 2 * s * 1 = 1 * 2 * s; omega
  | p :: ps => by
    show 2 * p * room (ps ++ [s]) = 2 * p * room ps * 2 * s
    rw [room_snoc s ps, Nat.mul_assoc, Nat.mul_assoc, Nat.mul_assoc, Nat.mul_assoc, Nat.mul_assoc]
theorem cnt_snoc (s : Nat) : ∀ (ps : List Nat), cnt (ps ++ [s]) = cnt ps * s
  | [] => by show s * 1 = 1 * s; omega
  | p :: ps => by
    show p * cnt (ps ++ [s]) = p * cnt ps * s
    rw [cnt_snoc s ps, Nat.mul_assoc]
theorem room_cnt : ∀ ss : List Nat, room ss = 2 ^ ss.length * cnt ss
  | [] => rfl
  | s :: ss => by
    show 2 * s * room ss = 2 ^ (ss.length + 1) * (s * cnt ss)
    rw [room_cnt ss, Nat.pow_succ, Nat.mul_left_comm (2 ^ ss.length * 2), Nat.mul_comm 2 s, Nat.mul_assoc, ← Nat.mul_assoc 2, Nat.mul_comm 2 (2 ^ ss.length)]
theorem cnt_take {ss : List Nat} (h : ∀ s ∈ ss, 1 ≤ s) (i : Nat) : cnt (ss.take i) ≤ cnt ss ∧ 1 ≤ cnt (ss.take i) := by
  induction ss generalizing i with
  | nil => rw [List.take_nil]; exact ⟨Nat.le_refl _, Nat.le_refl _⟩
  | cons s ss ih =>
    cases i with
    | zero =>
      have h1 := (ih (fun x hx => h x (List.mem_cons_of_mem _ hx)) 0).1
      have hs := h s (List.mem_cons_self ..)
      refine ⟨?_, by show 1 ≤ 1; omega⟩
      show 1 ≤ s * cnt ss
      have : 1 * 1 ≤ s * cnt ss := Nat.mul_le_mul hs h1
      omega
    | succ i =>
      obtain ⟨h1, h2⟩ := ih (fun x hx => h x (List.mem_cons_of_mem _ hx)) i
      have hs := h s (List.mem_cons_self ..)
      refine ⟨Nat.mul_le_mul_left s h1, ?_⟩
      show 1 ≤ s * cnt (ss.take i)
      have : 1 * 1 ≤ s * cnt (ss.take i) := Nat.mul_le_mul hs h2
      omega
theorem SmS.take {ss : List Nat} (z : SmS ss) (i : Nat) : SmS (ss.take i) := ⟨by have := z.len; rw [List.length_take]; omega, fun s hs => z.pos s (List.mem_of_mem_take hs), Nat.le_trans (cnt_take z.pos i).1 z.cnt⟩
theorem SmS.room {ss : List Nat} (z : SmS ss) : room ss ≤ 32000 := by
  rw [room_cnt]
  have h1 : 2 ^ ss.length ≤ 2 ^ 4 := Nat.pow_le_pow_right (by decide) z.len
  have := Nat.mul_le_mul h1 z.cnt
  omega
theorem SmS.mem {ss : List Nat} (z : SmS ss) {s : Nat} (hs : s ∈ ss) : s ≤ 2000 := by
  have h := z.cnt
  have hp := z.pos
  clear z
  have : ∀ ss : List Nat, (∀ s ∈ ss, 1 ≤ s) → s ∈ ss → s ≤ Cs.cnt ss := fun ss => by
    induction ss with
    | nil => intro _ h; cases h
    | cons t ss ih =>
      intro hp hs
      have h1 : 1 ≤ Cs.cnt ss := (cnt_take (fun x hx => hp x (List.mem_cons_of_mem _ hx)) 0).1
      have ht := hp t (List.mem_cons_self ..)
      rcases List.mem_cons.mp hs with rfl | hs
      · show s ≤ s * Cs.cnt ss
        exact Nat.le_mul_of_pos_right _ h1
      · have := ih (fun x hx => hp x (List.mem_cons_of_mem _ hx)) hs
        show s ≤ t * Cs.cnt ss
        exact Nat.le_trans this (Nat.le_mul_of_pos_left _ ht)
  exact Nat.le_trans (this ss hp hs) h
/-- a grid at g, none of its lists among F -/
def GridAt (C : Addr) (F : List Addr) (H : Hp) (g : Addr) (ss : List Nat) : Prop := ∃ (dx r c d m sp : Addr) (ts : List Addr), H g = some (.ins C dx [("rings", .ref r), ("codes", .ref c), ("doubles", .ref d), ("mirrors", .ref m), ("first_bit", .int ((2 ^ room ss : Nat) : Int)), ("spots", .ref sp)]) ∧
  H c = some (.lst (nV ((List.range (cnt ss)).map (cdx ss)))) ∧ H d = some (.lst (nV ((List.range (cnt ss)).map (dbx ss)))) ∧ H m = some (.lst (nV ((List.range (cnt ss)).map (mrx ss)))) ∧ H sp = some (.lst (nV ((List.range (cnt ss)).map fun i => room ss - dbx ss i))) ∧
  H r = some (.lst (ts.map V.ref)) ∧ ts.length = ss.length ∧ (∀ i t s, ts[i]? = some t → ss[i]? = some s → H t = some (.tup [.int (room (ss.drop (i + 1)) : Nat), .int (s : Nat)])) ∧
  g ∉ F ∧ r ∉ F ∧ c ∉ F ∧ d ∉ F ∧ m ∉ F ∧ sp ∉ F ∧ ∀ t ∈ ts, t ∉ F

theorem nV_len (l : List Nat) : (nV l).length = l.length := by unfold nV; rw [List.length_map]
theorem seq_or {k : Bool} {H : Hp} {a : Addr} {xs : List V} {Z : It → Prop} (h : Sqh k H a xs) (q : ∀ J, Walk J xs.length (fun H => Sqh k H a xs) (YAt xs) → Z J) :
    (∃ xs, H a = some (.lst xs) ∧ ∀ J, Walk J xs.length (fun H => H a = some (.lst xs)) (YAt xs) → Z J) ∨ (∃ xs, H a = some (.tup xs) ∧ ∀ J, Walk J xs.length (fun H => H a = some (.tup xs)) (YAt xs) → Z J) := by
  cases k with
  | true => exact .inl ⟨xs, h, q⟩
  | false => exact .inr ⟨xs, h, q⟩
theorem rgV_nV (n : Nat) : rgV 0 (n : Int) = nV (List.range n) := by
  unfold rgV nV
  rw [show ((n : Int) - 0).toNat = n by omega]
  refine List.map_congr_left fun i _ => ?_
  rw [Int.zero_add]
theorem none_of {H H' : Hp} {p : Addr} (s : Same H H') (h : H' p = none) : H p = none := by
  cases e : H p with
  | none => rfl
  | some o => rw [s _ _ e] at h; cases h
theorem ext_codes {s : Nat} (h : Nat → Nat) (cs : List Nat) : lgr cs ((List.range s).map h) s = cs.flatMap fun c => (List.range s).map fun d => 2 * s * c + h d := by
  unfold lgr
  congr 1
  funext c
  rw [List.map_map]
  rfl
theorem foldl_take {α : Type} (f : List α → Nat → List α) (x : List α) {ss : List Nat} {i s : Nat} (h : ss[i]? = some s) : (ss.take (i + 1)).foldl f x = f ((ss.take i).foldl f x) s := by
  rw [List.take_add_one, h, List.foldl_append]
  rfl
theorem take_snoc {ss : List Nat} {i s : Nat} (h : ss[i]? = some s) : ss.take (i + 1) = ss.take i ++ [s] := by rw [List.take_add_one, h]; rfl
theorem codes_snoc (ps : List Nat) (n : Nat) : lgr ((List.range (cnt ps)).map (cdx ps)) (List.range n) n = (List.range (cnt (ps ++ [n]))).map (cdx (ps ++ [n])) := by
  rw [← codes_eq, ← codes_eq, List.foldl_append]
  rfl
theorem doubles_snoc (ps : List Nat) (n : Nat) : lgr ((List.range (cnt ps)).map (dbx ps)) ((List.range n).map fun d => 2 * d % n) n = (List.range (cnt (ps ++ [n]))).map (dbx (ps ++ [n])) := by
  rw [← doubles_eq, ← doubles_eq, List.foldl_append, ext_codes]
  rfl
theorem mirrors_snoc (ps : List Nat) (n : Nat) : lgr ((List.range (cnt ps)).map (mrx ps)) ((List.range n).map fun d => n - d) n = (List.range (cnt (ps ++ [n]))).map (mrx (ps ++ [n])) := by
  rw [← mirrors_eq, ← mirrors_eq, List.foldl_append, ext_codes]
  rfl
theorem strd_len : ∀ ss : List Nat, (strd ss).length = ss.length
  | [] => rfl
  | _ :: ss => by show (strd ss).length + 1 = ss.length + 1; rw [strd_len ss]
theorem strd_get : ∀ (ss : List Nat) (i : Nat), i < ss.length → (strd ss)[i]? = some (room (ss.drop (i + 1)))
  | [], i, h => by simp at h
  | _ :: ss, 0, h => rfl
  | _ :: ss, i + 1, h => by show (strd ss)[i]? = _; rw [strd_get ss i (by simpa using h)]; rfl
theorem range_get_nV {n i : Nat} {f : Nat → Nat} {y : V} (hi : i < n) (h : (nV ((List.range n).map f))[i]? = some y) : y = .int (f i : Nat) := by
  unfold nV at h
  rw [List.map_map, List.getElem?_map, List.getElem?_range hi] at h
  exact (Option.some.inj h).symm
end Cs

/-! Sx1: the spread's state. -/
namespace Cs
open PySem L2
/-- all that was tracked is as it was, but what stands at F -/
def Sm (F : List Addr) (H H' : Hp) : Prop := ∀ b o, b ∉ F → H b = some o → H' b = some o
theorem Sm.refl {F : List Addr} {H : Hp} : Sm F H H := fun _ _ _ h => h
theorem Sm.trans {F : List Addr} {H H1 H2 : Hp} (x : Sm F H H1) (y : Sm F H1 H2) : Sm F H H2 := fun b o n h => y b o n (x b o n h)
theorem Sm.of {F : List Addr} {H H' : Hp} (x : Same H H') : Sm F H H' := fun b o _ h => x b o h
theorem Sm.put {F : List Addr} {H : Hp} {a : Addr} {o : HO} (h : a ∈ F) : Sm F H (upd H a o) := fun b u n e => by
  rw [upd_ne (fun q => n (by rw [q]; exact h))]; exact e
theorem Sm.sx {F : List Addr} {H H' : Hp} {a : Addr} (x : Sx a H H') (h : a ∈ F) : Sm F H H' := fun b o n e => x b o (fun q => n (q ▸ h)) e
theorem GridAt.sm {C : Addr} {F : List Addr} {H H' : Hp} {g : Addr} {ss : List Nat} (h : GridAt C F H g ss) (x : Sm F H H') : GridAt C F H' g ss := by
  obtain ⟨dx, r, c, d, m, sp, ts, h1, h2, h3, h4, h5, h6, h7, h8, n1, n2, n3, n4, n5, n6, n7⟩ := h
  exact ⟨dx, r, c, d, m, sp, ts, x _ _ n1 h1, x _ _ n3 h2, x _ _ n4 h3, x _ _ n5 h4, x _ _ n6 h5, x _ _ n2 h6, h7, fun i t s e1 e2 => x _ _ (n7 t (List.mem_of_getElem? e1)) (h8 i t s e1 e2), n1, n2, n3, n4, n5, n6, n7⟩
theorem GridAt.weak {C : Addr} {F : List Addr} {H : Hp} {g : Addr} {ss : List Nat} (h : GridAt C F H g ss) : GridAt C [] H g ss := by
  obtain ⟨dx, r, c, d, m, sp, ts, h1, h2, h3, h4, h5, h6, h7, h8, _⟩ := h
  exact ⟨dx, r, c, d, m, sp, ts, h1, h2, h3, h4, h5, h6, h7, h8, by simp, by simp, by simp, by simp, by simp, by simp, by simp⟩
/-- no list of the grid is among new ones -/
theorem GridAt.off {C : Addr} {H : Hp} {g : Addr} {ss : List Nat} {F : List Addr} (h : GridAt C [] H g ss) (hF : ∀ f ∈ F, H f = none ∨ ∃ D dx, H f = some (.ins D dx [])) : GridAt C F H g ss := by
  obtain ⟨dx, r, c, d, m, sp, ts, h1, h2, h3, h4, h5, h6, h7, h8, _⟩ := h
  have q : ∀ {a o}, H a = some o → (∀ D dx, o ≠ .ins D dx []) → a ∉ F := fun {a o} e hk hm => by
    rcases hF a hm with z | ⟨D, dx, z⟩
    · rw [z] at e; cases e
    · rw [z] at e
      exact hk D dx (Option.some.inj e).symm
  have l : ∀ {a xs}, H a = some (.lst xs) → a ∉ F := fun e => q e (fun _ _ z => by cases z)
  refine ⟨dx, r, c, d, m, sp, ts, h1, h2, h3, h4, h5, h6, h7, h8, q h1 (fun _ _ z => by cases z), l h6, l h2, l h3, l h4, l h5, fun t ht => ?_⟩
  obtain ⟨i, hi⟩ := List.mem_iff_getElem?.mp ht
  have hl := (List.getElem?_eq_some_iff.mp hi).1
  have := h8 i t _ hi (List.getElem?_eq_getElem (by omega : i < ss.length))
  exact q this (fun _ _ z => by cases z)
section
variable (ss : List Nat) (T : Nat → Bool)
def Uq : Nat → Nat → Bool
  | 0, _ => false
  | c + 1, x => Un ss T c x
def Wq (c : Nat) : List Nat := (List.range (cnt ss)).filter fun i => !Uq ss T c i
def nmq (c i : Nat) : Option Nat := (List.range c).find? fun n => Un ss T n i
def numV : Option Nat → V
  | none => .non
  | some n => .int (n : Nat)
def nbL (c : Nat) : List V := (List.range (cnt ss)).map fun i => numV (nmq ss T c i)
end
def spF (g nb wt rw st : Addr) (k m u : Nat) : List (Str × V) := [("_grid", .ref g), ("_numbers", .ref nb), ("_waiting", .ref wt), ("_rows", .ref rw), ("_sets", .ref st), ("_known", .int (k : Nat)), ("_mirrored", .int (m : Nat)), ("_sums", .int (u : Nat))]
structure SpD (C CG : Addr) (ss : List Nat) (T : Nat → Bool) (H : Hp) (s g nb rw st : Addr) (c e : Nat) (cl : Bool) (dx wt : Addr) (rs ts : List Addr) (k m u : Nat) : Prop where
  self : H s = some (.ins C dx (spF g nb wt rw st k m u))
  grid : GridAt CG [s, nb, rw, st] H g ss
  nbv : H nb = some (.lst (nbL ss T c))
  wtv : H wt = some (.lst (nV (if cl then [] else Wq ss T c)))
  wtn : wt ∉ [s, nb, rw, st]
  rwv : H rw = some (.lst (rs.map V.ref))
  rsl : rs.length = c
  rsv : ∀ (n : Nat) r, rs[n]? = some r → r ∉ [s, nb, rw, st] ∧ H r = some (.lst (nV (Rn ss T n)))
  stv : H st = some (.lst (ts.map V.ref))
  tsl : ts.length = if Wq ss T c = [] then c - 1 else c
  tsv : ∀ (n : Nat) t, ts[n]? = some t → t ∉ [s, nb, rw, st] ∧ ∃ kn mn : Nat, H t = some (.tup [.int (wid ss kn : Nat), .int (mn : Nat)]) ∧ Bits (cdx ss) (Un ss T n) (cnt ss) kn ∧ Bits (mrx ss) (Un ss T n) (cnt ss) mn
  bits : Wq ss T c ≠ [] → Bits (cdx ss) (Uq ss T c) (cnt ss) k ∧ Bits (mrx ss) (Uq ss T c) (cnt ss) m
  ul : u < 2 ^ room ss
  us : cnt ss ≤ 2 * (Wq ss T c).length → cl = false → ∀ x, x < cnt ss → (u.testBit (dbx ss x) = true ↔ ∃ n a, n < e ∧ a ∈ Rn ss T n ∧ Un ss T n (prx ss x a) = true)
  cls : cl = true → ∀ i, i < cnt ss → Un ss T c i = true → Uq ss T c i = true
  ne : ∀ n, n < c → Rn ss T n ≠ []
  d1 : nb ≠ rw
  d2 : nb ≠ st
  d3 : rw ≠ st
def SpAt (C CG : Addr) (ss : List Nat) (T : Nat → Bool) (H : Hp) (s g nb rw st : Addr) (c e : Nat) (cl : Bool) : Prop := ∃ dx wt rs ts k m u, SpD C CG ss T H s g nb rw st c e cl dx wt rs ts k m u
/-- the number of a seat, as the program answers -/
def NumOf (ss : List Nat) (T : Nat → Bool) (x : Nat) (v : V) : Prop := (∃ n : Nat, v = .int (n : Nat) ∧ Un ss T n x = true ∧ ∀ m, m < n → Un ss T m x = false) ∨ (v = .non ∧ ∀ n, Un ss T n x = false)
section
variable {ss : List Nat} {T : Nat → Bool} {c x i : Nat}
theorem uq_mono (hx : x < cnt ss) (h : Uq ss T c x = true) : Un ss T c x = true := by
  cases c with
  | zero => cases h
  | succ c => exact un_mono hx h
theorem mem_Wq : x ∈ Wq ss T c ↔ x < cnt ss ∧ Uq ss T c x = false := by simp [Wq]
theorem Wq_succ : Wq ss T (c + 1) = (Wq ss T c).filter fun i => !Un ss T c i := by
  unfold Wq
  rw [List.filter_filter]
  refine List.filter_congr fun i hi => ?_
  have hi := List.mem_range.mp hi
  show (!Un ss T c i) = (!Un ss T c i && !Uq ss T c i)
  cases h : Uq ss T c i with
  | false => simp
  | true => rw [uq_mono hi h]; rfl
theorem Rn_Wq : Rn ss T c = (Wq ss T c).filter fun i => Un ss T c i := by
  unfold Wq
  rw [List.filter_filter]
  cases c with
  | zero =>
    refine List.filter_congr fun i _ => ?_
    show Un ss T 0 i = (Un ss T 0 i && !false)
    simp
  | succ c => rfl
theorem mem_Rq : x ∈ Rn ss T c ↔ x < cnt ss ∧ Un ss T c x = true ∧ Uq ss T c x = false := by
  rw [Rn_Wq, List.mem_filter, mem_Wq]
  constructor
  · rintro ⟨⟨a, b⟩, d⟩; exact ⟨a, d, b⟩
  · rintro ⟨a, b, d⟩; exact ⟨⟨a, d⟩, b⟩
theorem nmq_succ : nmq ss T (c + 1) i = (nmq ss T c i).or (if Un ss T c i then some c else none) := by
  unfold nmq
  rw [List.range_succ, List.find?_append]
  congr 1
  cases h : Un ss T c i <;> simp [h]
theorem nmq_none (hi : i < cnt ss) : nmq ss T c i = none ↔ Uq ss T c i = false := by
  cases c with
  | zero => simp [nmq, Uq]
  | succ c => exact nmb_none (d := c) hi
theorem nmq_some {n : Nat} (h : nmq ss T c i = some n) : n < c ∧ Un ss T n i = true ∧ ∀ m, m < n → Un ss T m i = false := by
  cases c with
  | zero => simp [nmq] at h
  | succ c => have := nmb_some.mp h; exact ⟨by omega, this.2⟩
theorem nmq_next (hi : i < cnt ss) : numV (nmq ss T (c + 1) i) = if i ∈ Rn ss T c then V.int (c : Nat) else numV (nmq ss T c i) := by
  rw [nmq_succ]
  cases h : nmq ss T c i with
  | none =>
    have h1 := (nmq_none hi).mp h
    cases h2 : Un ss T c i with
    | true => rw [if_pos (c := i ∈ Rn ss T c) (mem_Rq.mpr ⟨hi, h2, h1⟩)]; rfl
    | false => rw [if_neg (c := i ∈ Rn ss T c) (fun hm => by rw [(mem_Rq.mp hm).2.1] at h2; cases h2)]; rfl
  | some n =>
    have h1 : Uq ss T c i = true := by
      cases hq : Uq ss T c i with
      | true => rfl
      | false => rw [(nmq_none hi).mpr hq] at h; cases h
    rw [if_neg (c := i ∈ Rn ss T c) (fun hm => by rw [(mem_Rq.mp hm).2.2] at h1; cases h1)]
    cases Un ss T c i <;> rfl
theorem nbL_len : (nbL ss T c).length = cnt ss := by unfold nbL; rw [List.length_map, List.length_range]
theorem nbL_get (hi : i < cnt ss) : (nbL ss T c)[i]? = some (numV (nmq ss T c i)) := by
  unfold nbL
  rw [List.getElem?_map, List.getElem?_range hi]
  rfl
theorem Rn_lt {n : Nat} (h : x ∈ Rn ss T n) : x < cnt ss := (mem_Rn.mp h).1
/-- pairs of known seats, by the row of the later one -/
theorem pair_rows {d : Nat} (hx : x < cnt ss) : Un ss T (d + 1) x = true ↔ ∃ n a, n < d + 1 ∧ a ∈ Rn ss T n ∧ Un ss T n (prx ss x a) = true := by
  constructor
  · intro h
    obtain ⟨a, ha, h1, h2⟩ := un_succ.mp h
    have hb := prx_lt hx ha
    have least : ∀ y, Un ss T d y = true → y < cnt ss → ∃ n, n ≤ d ∧ y ∈ Rn ss T n := fun y hy hyl => by
      cases e : nmb ss T d y with
      | none => rw [(nmb_none hyl).mp e] at hy; cases hy
      | some n => have := nmb_some.mp e; exact ⟨n, this.1, mem_Rn.mpr ⟨hyl, this.2.1, this.2.2⟩⟩
    obtain ⟨n, n1, n2⟩ := least a h1 ha
    obtain ⟨m, m1, m2⟩ := least _ h2 hb
    rcases Nat.le_total m n with q | q
    · exact ⟨n, a, by omega, n2, un_le hb q (mem_Rn.mp m2).2.1⟩
    · exact ⟨m, prx ss x a, by omega, m2, by rw [prx_back hx ha]; exact un_le ha q (mem_Rn.mp n2).2.1⟩
  · rintro ⟨n, a, hn, h1, h2⟩
    have ha := Rn_lt h1
    exact un_succ.mpr ⟨a, ha, un_le ha (by omega : n ≤ d) (mem_Rn.mp h1).2.1, un_le (prx_lt hx ha) (by omega : n ≤ d) h2⟩
theorem Bits.add {f : Nat → Nat} {U V : Nat → Bool} {N u : Nat} {l : List Nat} (h : Bits f U N u) (hl : ∀ x ∈ l, x < N) (hV : ∀ i, i < N → (V i = true ↔ U i = true ∨ i ∈ l)) : Bits f V N ((l.map f).foldl (fun u c => u ||| 1 <<< c) u) := fun c => by
  rw [testBit_foldl, Bool.or_eq_true, h c, decide_eq_true_eq, List.mem_map]
  constructor
  · rintro (⟨i, hi, hu, e⟩ | ⟨i, hi, e⟩)
    · exact ⟨i, hi, (hV i hi).mpr (.inl hu), e⟩
    · exact ⟨i, hl i hi, (hV i (hl i hi)).mpr (.inr hi), e⟩
  · rintro ⟨i, hi, hv, e⟩
    rcases (hV i hi).mp hv with q | q
    · exact .inl ⟨i, hi, q, e⟩
    · exact .inr ⟨i, q, e⟩
/-- what a meeting tells -/
theorem meet_ne {kn mn n : Nat} (hk : Bits (cdx ss) (Un ss T n) (cnt ss) kn) (hm : Bits (mrx ss) (Un ss T n) (cnt ss) mn) (hx : x < cnt ss) : (mn <<< dbx ss x &&& wid ss kn) ≠ 0 ↔ Un ss T (n + 1) x = true := by
  constructor
  · intro h
    obtain ⟨c, hc⟩ := Nat.exists_testBit_of_ne_zero h
    rw [Nat.testBit_and, Nat.testBit_shiftLeft, Bool.and_eq_true, Bool.and_eq_true, decide_eq_true_eq] at hc
    obtain ⟨⟨h1, h2⟩, h3⟩ := hc
    obtain ⟨a, ha, hu, e⟩ := (hm _).mp h2
    have : c = mrx ss a + dbx ss x := by omega
    rw [this, wide_bit hk hx ha] at h3
    exact un_succ.mpr ⟨a, ha, hu, h3⟩
  · intro h e
    obtain ⟨a, ha, h1, h2⟩ := un_succ.mp h
    have : (mn <<< dbx ss x &&& wid ss kn).testBit (mrx ss a + dbx ss x) = true := by
      rw [Nat.testBit_and, Nat.testBit_shiftLeft, wide_bit hk hx ha, h2, decide_eq_true (by omega), Nat.add_sub_cancel, (hm _).mpr ⟨a, ha, h1, rfl⟩]
      rfl
    rw [e, Nat.zero_testBit] at this
    cases this
end
theorem mrd_dg {ss a : List Nat} (h : Dg 1 ss a) : Dg 2 ss (mrd ss a) := by
  induction h with
  | nil => exact .nil
  | @cons s d ss ds h _ ih => exact .cons (by omega) ih
theorem mrx_lt {ss : List Nat} {x : Nat} (hx : x < cnt ss) : mrx ss x < room ss := cod_lt (mrd_dg (stt_ok hx).1)
theorem Bits.lt {f : Nat → Nat} {U : Nat → Bool} {N u L : Nat} (h : Bits f U N u) (hf : ∀ i, i < N → f i < L) : u < 2 ^ L := by
  refine Nat.lt_pow_two_of_testBit _ fun c hc => ?_
  rw [Bool.eq_false_iff]
  intro hb
  obtain ⟨i, hi, _, rfl⟩ := (h c).mp hb
  have := hf i hi
  omega
open PySem.Spec PyProof.Rows in
theorem pe_fldK {X : Cx} {K : PySem.W.Frag} {e : Expr} {f : Str} {pos : Pos} {ta : TE} (h : X.K = K) (he : PE X e ta) (hb : attributeBase e f X.env (eval e X.env) = eval e X.env) : PE X (.Attribute e f pos) (tFld K ta f) := by subst h; exact pe_fld he hb
open PySem.Spec PyProof.Rows in
/-- [y for y in l if pr y], l of numbers -/
theorem lcr_filtN {J : It} {a : Addr} {l : List Nat} {H1 : Hp} (w : Walk J (nV l).length (fun H => H a = some (.lst (nV l))) (YAt (nV l))) {g : TG} {tt : TT} {te : TE} {vs : List Nat} {σ : L2.St} {Q : VK} (pr : Nat → Bool) (hn : l.length < sizeLine) (ha : H1 a = some (.lst (nV l)))
    (hs : ∀ y H (Qn : Hp → Prop) (Qy : VK), y ∈ l → Same H1 H → (pr y = false → Qn H) → (pr y = true → Qy (.int (y : Nat)) H) → g (.int (y : Nat)) (wipe σ vs) H fun σ2 H2 => wipe σ2 vs = wipe σ vs ∧ tt σ2 H2 fun b H3 => if b = true then te σ2 H3 Qy else Qn H3)
    (hd : ∀ D H, H1 D = none → Same H1 H → H D = some (.lst (nV (l.filter pr))) → Q (.ref D) H) : LcR J g tt te vs σ H1 Q := by
  refine lcr_if w (fun D i acc H => Same H1 H ∧ acc = nV ((l.take i).filter pr)) (by rw [nV_len]; exact hn) (fun D hD => ⟨Same.new hD, rfl⟩) (fun D i acc H hD hi h e => h.1 _ _ ha) (fun D i acc H l hD h hne => ⟨fun b o e => by rw [upd_ne (ne_some e hD)]; exact h.1 b o e, h.2⟩) ?_ ?_
  · rintro D i acc x H H' Qn Qy hD hi ⟨s1, rfl⟩ e ⟨rfl, hx⟩ hqn hqy
    obtain ⟨y, hx', rfl⟩ := nV_get hx
    refine hs y _ Qn Qy (List.mem_of_getElem? hx') s1 (fun hf => hqn _ e ⟨s1, ?_⟩) fun ht => hqy _ _ e ⟨s1, ?_⟩
    · rw [List.take_add_one, hx', List.filter_append]
      simp [hf]
    · rw [List.take_add_one, hx', List.filter_append]
      unfold nV
      rw [List.map_append]
      simp [ht]
  · rintro D acc H hD hl2 ⟨s1, rfl⟩ e
    rw [nV_len, List.take_length] at e
    exact hd D H hD s1 e
theorem ixN_n {n j : Nat} (h : j < n) : ixN n (j : Int) = some j := by
  unfold ixN
  rw [if_pos (by omega), if_pos (by omega), Int.toNat_natCast]
theorem or_shl_one (u c : Nat) : Builtin.bitOr (u : Int) (1 * 2 ^ ((c : Nat) : Int).toNat) = ((u ||| 1 <<< c : Nat) : Int) := by
  rw [← bitOr_nat, Int.one_mul, Int.toNat_natCast, Nat.one_shiftLeft, Int.natCast_pow]
  rfl
theorem atI_last {α : Type} {xs : List α} {x : α} (h : xs[xs.length - 1]? = some x) : atI xs (-1) = some x := by
  have hl := (List.getElem?_eq_some_iff.mp h).1
  unfold atI ixN
  rw [if_neg (by decide), if_pos (by omega)]
  show xs[(-1 + (xs.length : Int)).toNat]? = some x
  rw [show (-1 + (xs.length : Int)).toNat = xs.length - 1 by omega]
  exact h
theorem asc_uniq {l m : List Nat} (h : l.Pairwise (· < ·)) (g : m.Pairwise (· < ·)) (e : ∀ x, x ∈ l ↔ x ∈ m) : l = m := by
  refine List.Perm.eq_of_pairwise (le := (· < ·)) (fun a b _ _ h1 h2 => absurd (Nat.lt_trans h1 h2) (Nat.lt_irrefl _)) h g ?_
  rw [List.perm_iff_count]
  intro a
  have nl : l.Nodup := h.imp fun h => Nat.ne_of_lt h
  have nm : m.Nodup := g.imp fun h => Nat.ne_of_lt h
  rw [nl.count, nm.count]
  by_cases ha : a ∈ l
  · rw [if_pos ha, if_pos ((e a).mp ha)]
  · rw [if_neg ha, if_neg fun h => ha ((e a).mpr h)]
end Cs

/-! Sy: one ring: n calls suffice where 2^n times the place is a sum of 2^n targets. -/
namespace Cs
def isum : List Int → Int
  | [] => 0
  | x :: l => x + isum l
theorem isum_append : ∀ l m : List Int, isum (l ++ m) = isum l + isum m
  | [], m => by show isum m = 0 + isum m; omega
  | x :: l, m => by show x + isum (l ++ m) = x + isum l + isum m; rw [isum_append l m]; omega
theorem isum_perm {l m : List Int} (h : l.Perm m) : isum l = isum m := by
  induction h with
  | nil => rfl
  | cons x _ ih => show x + _ = x + _; rw [ih]
  | swap x y l => show y + (x + isum l) = x + (y + isum l); omega
  | trans _ _ h1 h2 => rw [h1, h2]
/-- pairs of one parity -/
theorem pair_up {α : Type} (f : α → Int) : ∀ (k : Nat) (l : List α), 2 * k + 1 ≤ l.length → ∃ (ps : List (α × α)) (rest : List α), ps.length = k ∧ (∀ p ∈ ps, (f p.1 + f p.2) % 2 = 0) ∧ l.Perm (ps.flatMap (fun p => [p.1, p.2]) ++ rest)
  | 0, l, _ => ⟨[], l, rfl, (fun p hp => by cases hp), List.Perm.refl _⟩
  | k + 1, l, h => by
    match l, h with
    | [], h => simp at h
    | [_], h => simp at h
    | [_, _], h => simp at h; omega
    | a :: b :: c :: l, h =>
      have go : ∀ (x y z : α), (a :: b :: c :: l).Perm (x :: y :: z :: l) → (f x + f y) % 2 = 0 → ∃ (ps : List (α × α)) (rest : List α), ps.length = k + 1 ∧ (∀ p ∈ ps, (f p.1 + f p.2) % 2 = 0) ∧ (a :: b :: c :: l).Perm (ps.flatMap (fun p => [p.1, p.2]) ++ rest) := fun x y z hp he => by
        obtain ⟨ps, rest, h1, h2, h3⟩ := pair_up f k (z :: l) (by simp only [List.length_cons] at h ⊢; omega)
        refine ⟨(x, y) :: ps, rest, by rw [List.length_cons, h1], fun p hp => ?_, ?_⟩
        · rcases List.mem_cons.mp hp with rfl | hp
          · exact he
          · exact h2 p hp
        · refine hp.trans ?_
          rw [List.flatMap_cons]
          exact List.Perm.cons _ (List.Perm.cons _ h3)
      by_cases h1 : (f a + f b) % 2 = 0
      · exact go a b c (List.Perm.refl _) h1
      · by_cases h2 : (f a + f c) % 2 = 0
        · exact go a c b (List.Perm.cons _ (List.Perm.swap _ _ _)) h2
        · exact go b c a ((List.Perm.swap _ _ _).trans (List.Perm.cons _ (List.Perm.swap _ _ _))) (by omega)
theorem fl_len {α : Type} (ps : List (α × α)) : (ps.flatMap (fun p => [p.1, p.2])).length = 2 * ps.length := by
  induction ps with
  | nil => rfl
  | cons p ps ih => rw [List.flatMap_cons, List.length_append, ih, List.length_cons]; simp; omega
/-- 2^n of them with a sum that 2^n divides -/
theorem egz : ∀ (n : Nat) {α : Type} (f : α → Int) (l : List α), 2 ^ (n + 1) ≤ l.length + 1 → ∃ A B, l.Perm (A ++ B) ∧ A.length = 2 ^ n ∧ ((2 : Int) ^ n) ∣ isum (A.map f)
  | 0, α, f, l, h => by
    match l, h with
    | [], h => simp at h
    | a :: l, _ => exact ⟨[a], l, List.Perm.refl _, rfl, by rw [Int.pow_zero]; exact Int.one_dvd _⟩
  | n + 1, α, f, l, h => by
    have hp : 0 < 2 ^ (n + 1) := Nat.pow_pos (by decide)
    have e2 : 2 ^ (n + 1 + 1) = 2 * 2 ^ (n + 1) := by rw [Nat.pow_succ, Nat.mul_comm]
    obtain ⟨ps, rest, h1, h2, h3⟩ := pair_up f (2 ^ (n + 1) - 1) l (by omega)
    obtain ⟨PA, PB, k1, k2, k3⟩ := egz n (fun p : α × α => (f p.1 + f p.2) / 2) ps (by omega)
    refine ⟨PA.flatMap (fun p => [p.1, p.2]), PB.flatMap (fun p => [p.1, p.2]) ++ rest, ?_, ?_, ?_⟩
    · refine h3.trans ?_
      rw [← List.append_assoc, ← List.flatMap_append]
      exact List.Perm.append_right _ (List.Perm.flatMap_right _ k1)
    · rw [fl_len, k2, Nat.pow_succ, Nat.mul_comm]
    · have e : ∀ PA : List (α × α), (∀ p ∈ PA, (f p.1 + f p.2) % 2 = 0) → isum ((PA.flatMap (fun p => [p.1, p.2])).map f) = 2 * isum (PA.map fun p => (f p.1 + f p.2) / 2) := fun PA => by
        induction PA with
        | nil => intro _; rfl
        | cons p PA ih =>
          intro hm
          have h0 := hm p (List.mem_cons_self ..)
          have h1 := ih fun q hq => hm q (List.mem_cons_of_mem _ hq)
          rw [List.flatMap_cons, List.map_append, isum_append, h1]
          show f p.1 + (f p.2 + 0) + _ = 2 * ((f p.1 + f p.2) / 2 + isum _)
          omega
      rw [e PA fun p hp => h2 p (k1.mem_iff.mpr (List.mem_append_left _ hp)), Int.pow_succ, Int.mul_comm]
      exact Int.mul_dvd_mul (Int.dvd_refl 2) k3
/-! ### one ring -/
def tgB (ns : List Nat) (i : Nat) : Bool := decide (i ∈ ns)
def nsum (l : List Nat) : Int := isum (l.map fun t : Nat => (t : Int))
theorem nsum_one (t : Nat) : nsum [t] = t := by show (t : Int) + 0 = t; omega
theorem nsum_append (l m : List Nat) : nsum (l ++ m) = nsum l + nsum m := by unfold nsum; rw [List.map_append, isum_append]
def IsSum (s : Nat) (ns : List Nat) (n : Nat) (y : Int) : Prop := ∃ l : List Nat, (∀ t ∈ l, t ∈ ns) ∧ l.length = 2 ^ n ∧ (s : Int) ∣ nsum l - 2 ^ n * y
theorem cnt_one (s : Nat) : cnt [s] = s := by show s * 1 = s; omega
theorem stt_one {s x : Nat} (h : x < s) : stt [s] x = [x] := by
  have h1 : Dg 1 [s] [x] := .cons (by omega) .nil
  have h2 : ixo [s] [x] = x := by show x * 1 + 0 = x; omega
  have := stt_ixo h1
  rwa [h2] at this
theorem prx_one {s x a : Nat} (hx : x < s) (ha : a < s) : prx [s] x a = (2 * x % s + (s - a)) % s := by
  unfold prx
  rw [stt_one hx, stt_one ha]
  show (2 * x % s + (s - a)) % s * 1 + 0 = _
  omega
theorem prx_dvd {s x a : Nat} (hx : x < s) (ha : a < s) : (s : Int) ∣ (a : Int) + (prx [s] x a : Nat) - 2 * (x : Int) := by
  rw [prx_one hx ha]
  have h1 := Nat.div_add_mod (2 * x) s
  have h2 := Nat.div_add_mod (2 * x % s + (s - a)) s
  refine ⟨1 - ((2 * x / s : Nat) : Int) - (((2 * x % s + (s - a)) / s : Nat) : Int), ?_⟩
  generalize 2 * x % s = r at *
  generalize (r + (s - a)) / s = q2 at *
  generalize (r + (s - a)) % s = r2 at *
  generalize 2 * x / s = q1 at *
  have e1 : (s : Int) * q1 + r = 2 * x := by exact_mod_cast h1
  have e2 : (s : Int) * q2 + r2 = r + (s - a) := by
    have : ((s * q2 + r2 : Nat) : Int) = ((r + (s - a) : Nat) : Int) := by rw [h2]
    rw [Int.natCast_add, Int.natCast_mul, Int.natCast_add, Int.natCast_sub (by omega)] at this
    exact this
  rw [Int.mul_sub, Int.mul_sub, Int.mul_one]
  omega
theorem un_sum {s : Nat} {ns : List Nat} (hns : ∀ t ∈ ns, t < s) : ∀ (n x : Nat), x < s → (Un [s] (tgB ns) n x = true ↔ IsSum s ns n x)
  | 0, x, hx => by
    constructor
    · intro h
      have h : x ∈ ns := of_decide_eq_true h
      exact ⟨[x], fun t ht => by rw [List.mem_singleton.mp ht]; exact h, rfl, ⟨0, by rw [nsum_one, Int.pow_zero]; omega⟩⟩
    · rintro ⟨l, h1, h2, h3⟩
      match l, h2 with
      | [t], _ =>
        have ht := h1 t (List.mem_singleton.mpr rfl)
        have e : nsum [t] - 2 ^ 0 * (x : Int) = (t : Int) - x := by rw [nsum_one, Int.pow_zero]; omega
        rw [e] at h3
        have htl := hns t ht
        have : (t : Int) - x = 0 := by
          apply Classical.byContradiction
          intro hne
          have := Nat.le_of_dvd (by omega) (Int.natAbs_dvd_natAbs.mpr h3)
          omega
        have : t = x := by omega
        subst this
        exact decide_eq_true ht
  | n + 1, x, hx => by
    have ih := un_sum hns n
    rw [un_succ, cnt_one]
    have p2 : (2 : Int) ^ (n + 1) = 2 * 2 ^ n := by rw [Int.pow_succ, Int.mul_comm]
    constructor
    · rintro ⟨a, ha, h1, h2⟩
      have hb : prx [s] x a < s := by have := prx_lt (ss := [s]) (x := x) (a := a) (by rw [cnt_one]; exact hx) (by rw [cnt_one]; exact ha); rwa [cnt_one] at this
      obtain ⟨la, a1, a2, k1, a3⟩ := (ih a ha).mp h1
      obtain ⟨lb, b1, b2, k2, b3⟩ := (ih _ hb).mp h2
      obtain ⟨k3, c3⟩ := prx_dvd hx ha
      generalize (prx [s] x a : Int) = b at *
      refine ⟨la ++ lb, fun t ht => (List.mem_append.mp ht).elim (a1 t) (b1 t), by rw [List.length_append, a2, b2, Nat.pow_succ]; omega, ⟨k1 + k2 + 2 ^ n * k3, ?_⟩⟩
      rw [nsum_append, p2, Int.mul_add, Int.mul_add, ← a3, ← b3, Int.mul_left_comm, ← c3, Int.mul_sub, Int.mul_add, Int.mul_assoc, Int.mul_left_comm]
      omega
    · rintro ⟨l, h1, h2, k, h3⟩
      obtain ⟨A, B, g1, g2, q, g3⟩ := egz n (fun t : Nat => (t : Int)) l (by rw [h2]; omega)
      have eA : nsum A = 2 ^ n * q := g3
      have eS : nsum l = nsum A + nsum B := by
        rw [← nsum_append]
        exact isum_perm (g1.map _)
      have lB : B.length = 2 ^ n := by
        have := g1.length_eq
        rw [List.length_append, h2, g2, Nat.pow_succ] at this
        omega
      have hs : (0 : Int) < s := by omega
      have ea := Int.emod_add_mul_ediv q s
      obtain ⟨a, hae⟩ := Int.eq_ofNat_of_zero_le (Int.emod_nonneg q (by omega : (s : Int) ≠ 0))
      have hal := Int.emod_lt_of_pos q hs
      rw [hae] at ea hal
      have ha : a < s := by omega
      have hb : prx [s] x a < s := by have := prx_lt (ss := [s]) (x := x) (a := a) (by rw [cnt_one]; exact hx) (by rw [cnt_one]; exact ha); rwa [cnt_one] at this
      obtain ⟨k3, c3⟩ := prx_dvd hx ha
      refine ⟨a, ha, (ih a ha).mpr ⟨A, fun t ht => h1 t (g1.mem_iff.mpr (List.mem_append_left _ ht)), g2, ⟨2 ^ n * (q / s), ?_⟩⟩, (ih _ hb).mpr ⟨B, fun t ht => h1 t (g1.mem_iff.mpr (List.mem_append_right _ ht)), lB, ⟨k - 2 ^ n * (q / s) - 2 ^ n * k3, ?_⟩⟩⟩
      · rw [eA, ← Int.mul_sub, Int.mul_left_comm]
        congr 1
        omega
      · generalize (prx [s] x a : Int) = b at *
        generalize q / (s : Int) = d at *
        rw [eS, eA, p2] at h3
        rw [Int.mul_sub, Int.mul_sub, ← h3, Int.mul_left_comm (s : Int), Int.mul_left_comm (s : Int), ← c3]
        have e1 : (s : Int) * d = q - a := by omega
        rw [e1]
        simp only [Int.mul_sub, Int.mul_add, Int.mul_assoc]
        rw [Int.mul_left_comm (2 ^ n) 2 (x : Int)]
        omega
end Cs

/-! Sz: sums of targets on rings that are transformed; how many calls are needed at most. -/
namespace Cs
theorem nsum_map {c k : Int} {m : Int} {φ : Nat → Nat} : ∀ (l : List Nat), (∀ t ∈ l, m ∣ (φ t : Int) - (c * t + k)) → m ∣ nsum (l.map φ) - (c * nsum l + k * l.length)
  | [], _ => ⟨0, by show (0 : Int) - (c * 0 + k * ((0 : Nat) : Int)) = m * 0; simp⟩
  | t :: l, h => by
    have h1 := h t (List.mem_cons_self ..)
    have h2 := nsum_map l fun u hu => h u (List.mem_cons_of_mem _ hu)
    have := Int.dvd_add h1 h2
    have e : nsum ((t :: l).map φ) - (c * nsum (t :: l) + k * ((t :: l).length : Nat)) = (φ t : Int) - (c * t + k) + (nsum (l.map φ) - (c * nsum l + k * (l.length : Nat))) := by
      show (φ t : Int) + nsum (l.map φ) - (c * ((t : Int) + nsum l) + k * ((l.length + 1 : Nat) : Int)) = _
      rw [Int.natCast_add, Int.mul_add, Int.mul_add]
      omega
    rw [e]
    exact this
/-- the targets and the place moved by z to c z + k -/
theorem isSum_map {s s' : Nat} {ns : List Nat} {c k : Int} {φ : Nat → Nat} {x x' : Int} (h1 : ∀ t ∈ ns, (s' : Int) ∣ (φ t : Int) - (c * t + k)) (h2 : (s' : Int) ∣ x' - (c * x + k)) (h3 : ∀ z : Int, (s' : Int) ∣ c * z ↔ (s : Int) ∣ z) (n : Nat) :
    IsSum s' (ns.map φ) n x' ↔ IsSum s ns n x := by
  have key : ∀ l : List Nat, (∀ t ∈ l, t ∈ ns) → l.length = 2 ^ n → ((s' : Int) ∣ nsum (l.map φ) - 2 ^ n * x' ↔ (s : Int) ∣ nsum l - 2 ^ n * x) := fun l hl hn => by
    have d1 := nsum_map l fun t ht => h1 t (hl t ht)
    have d2 := Int.dvd_mul_of_dvd_right (b := (2 : Int) ^ n) h2
    rw [← h3]
    rw [hn] at d1
    have ep : ((2 ^ n : Nat) : Int) = 2 ^ n := Int.natCast_pow 2 n
    rw [ep] at d1
    have d3 := Int.dvd_sub d1 d2
    have e : nsum (l.map φ) - (c * nsum l + k * 2 ^ n) - 2 ^ n * (x' - (c * x + k)) = (nsum (l.map φ) - 2 ^ n * x') - c * (nsum l - 2 ^ n * x) := by
      rw [Int.mul_sub, Int.mul_add, Int.mul_sub, Int.mul_comm k, Int.mul_left_comm (2 ^ n) c x]
      omega
    rw [e] at d3
    constructor
    · intro h
      have := Int.dvd_sub h d3
      rwa [show (nsum (l.map φ) - 2 ^ n * x') - ((nsum (l.map φ) - 2 ^ n * x') - c * (nsum l - 2 ^ n * x)) = c * (nsum l - 2 ^ n * x) by omega] at this
    · intro h
      have := Int.dvd_add d3 h
      rwa [show (nsum (l.map φ) - 2 ^ n * x') - c * (nsum l - 2 ^ n * x) + c * (nsum l - 2 ^ n * x) = nsum (l.map φ) - 2 ^ n * x' by omega] at this
  constructor
  · rintro ⟨l, a1, a2, a3⟩
    have : ∃ m : List Nat, (∀ t ∈ m, t ∈ ns) ∧ m.map φ = l := by
      clear a2 a3
      induction l with
      | nil => exact ⟨[], (fun t ht => by cases ht), rfl⟩
      | cons t l ih =>
        obtain ⟨m, b1, b2⟩ := ih fun u hu => a1 u (List.mem_cons_of_mem _ hu)
        obtain ⟨u, hu, e⟩ := List.mem_map.mp (a1 t (List.mem_cons_self ..))
        exact ⟨u :: m, fun v hv => (List.mem_cons.mp hv).elim (fun e => by rw [e]; exact hu) (b1 v), by rw [List.map_cons, e, b2]⟩
    obtain ⟨m, b1, rfl⟩ := this
    rw [List.length_map] at a2
    exact ⟨m, b1, a2, (key m b1 a2).mp a3⟩
  · rintro ⟨l, a1, a2, a3⟩
    exact ⟨l.map φ, fun t ht => by
      obtain ⟨u, hu, rfl⟩ := List.mem_map.mp ht
      exact List.mem_map.mpr ⟨u, a1 u hu, rfl⟩, by rw [List.length_map, a2], (key l a1 a2).mpr a3⟩
theorem isSum_more {s : Nat} {ns ms : List Nat} (h : ∀ t ∈ ns, t ∈ ms) {n : Nat} {x : Int} (hs : IsSum s ns n x) : IsSum s ms n x := by
  obtain ⟨l, h1, h2, h3⟩ := hs
  exact ⟨l, fun t ht => h t (h1 t ht), h2, h3⟩
/-- two targets -/
theorem isSum_two {s f g : Nat} {n : Nat} {x : Int} : IsSum s [f, g] n x ↔ ∃ j : Int, 0 ≤ j ∧ j ≤ 2 ^ n ∧ (s : Int) ∣ j * ((g : Int) - f) - 2 ^ n * (x - f) := by
  constructor
  · rintro ⟨l, h1, h2, h3⟩
    have : ∀ l : List Nat, (∀ t ∈ l, t ∈ [f, g]) → ∃ j : Int, 0 ≤ j ∧ j ≤ l.length ∧ nsum l = l.length * f + j * ((g : Int) - f) := fun l => by
      induction l with
      | nil => intro _; exact ⟨0, by omega, by simp, by show (0 : Int) = ((0 : Nat) : Int) * f + 0 * _; simp⟩
      | cons t l ih =>
        intro hm
        obtain ⟨j, a1, a2, a3⟩ := ih fun u hu => hm u (List.mem_cons_of_mem _ hu)
        have e : nsum (t :: l) = t + nsum l := rfl
        have hl : ((t :: l).length : Int) = l.length + 1 := by rw [List.length_cons]; omega
        rcases List.mem_cons.mp (hm t (List.mem_cons_self ..)) with rfl | h
        · exact ⟨j, a1, by omega, by rw [e, a3, hl, Int.add_mul]; omega⟩
        · have : t = g := by simpa using h
          subst this
          refine ⟨j + 1, by omega, by omega, ?_⟩
          rw [e, a3, hl, Int.add_mul, Int.add_mul]
          omega
    obtain ⟨j, a1, a2, a3⟩ := this l h1
    have ep : (l.length : Int) = 2 ^ n := by rw [h2]; exact Int.natCast_pow 2 n
    rw [ep] at a2 a3
    refine ⟨j, a1, a2, ?_⟩
    rw [a3] at h3
    rwa [show (2 : Int) ^ n * f + j * ((g : Int) - f) - 2 ^ n * x = j * ((g : Int) - f) - 2 ^ n * (x - f) by rw [Int.mul_sub (2 ^ n)]; omega] at h3
  · rintro ⟨j, h1, h2, h3⟩
    obtain ⟨k, rfl⟩ := Int.eq_ofNat_of_zero_le h1
    have ep : ((2 ^ n : Nat) : Int) = 2 ^ n := Int.natCast_pow 2 n
    have hk : k ≤ 2 ^ n := by omega
    have er : ∀ (m t : Nat), nsum (List.replicate m t) = m * t := fun m t => by
      induction m with
      | zero => show (0 : Int) = ((0 : Nat) : Int) * t; simp
      | succ m ih => show (t : Int) + nsum (List.replicate m t) = _; rw [ih, Int.natCast_add, Int.add_mul]; simp; omega
    refine ⟨List.replicate (2 ^ n - k) f ++ List.replicate k g, fun t ht => ?_, by rw [List.length_append, List.length_replicate, List.length_replicate]; omega, ?_⟩
    · rcases List.mem_append.mp ht with h | h
      · rw [(List.mem_replicate.mp h).2]; simp
      · rw [(List.mem_replicate.mp h).2]; simp
    · rw [nsum_append, er, er, Int.natCast_sub hk, ep]
      rwa [show ((2 : Int) ^ n - k) * f + k * g - 2 ^ n * x = k * ((g : Int) - f) - 2 ^ n * (x - f) by rw [Int.mul_sub, Int.mul_sub, Int.sub_mul]; omega]
/-! how many calls at most -/
def dsum (z : Nat) (l : List Nat) : Int := nsum l - l.length * z
theorem dsum_append (z : Nat) (l m : List Nat) : dsum z (l ++ m) = dsum z l + dsum z m := by
  unfold dsum
  rw [nsum_append, List.length_append, Int.natCast_add, Int.add_mul]
  omega
/-- fewer than s terms do -/
theorem fewer {s : Nat} (hs : 0 < s) (z : Nat) : ∀ (k : Nat) (l : List Nat), l.length ≤ k → ∃ m : List Nat, (∀ t ∈ m, t ∈ l) ∧ m.length < s ∧ (s : Int) ∣ dsum z m - dsum z l
  | 0, l, h => ⟨l, fun t ht => ht, by omega, ⟨0, by omega⟩⟩
  | k + 1, l, h => by
    by_cases hl : l.length < s
    · exact ⟨l, fun t ht => ht, hl, ⟨0, by omega⟩⟩
    · have : ∃ i j, i < j ∧ j ≤ s ∧ dsum z (l.take i) % (s : Int) = dsum z (l.take j) % (s : Int) := by
        apply Classical.byContradiction
        intro hn
        have nd : ((List.range (s + 1)).map fun i => (dsum z (l.take i) % (s : Int)).toNat).Nodup := by
          refine List.pairwise_map.mpr (List.Pairwise.imp_of_mem ?_ List.pairwise_lt_range)
          intro a b ha hb hab e
          have := Int.emod_nonneg (dsum z (l.take a)) (by omega : (s : Int) ≠ 0)
          have := Int.emod_nonneg (dsum z (l.take b)) (by omega : (s : Int) ≠ 0)
          exact hn ⟨a, b, hab, by have := List.mem_range.mp hb; omega, by omega⟩
        have := List.Nodup.length_le_of_subset (l₂ := List.range s) nd (fun b hb => by
          obtain ⟨a, _, rfl⟩ := List.mem_map.mp hb
          have := Int.emod_nonneg (dsum z (l.take a)) (by omega : (s : Int) ≠ 0)
          have := Int.emod_lt_of_pos (dsum z (l.take a)) (by omega : (0 : Int) < s)
          exact List.mem_range.mpr (by omega))
        rw [List.length_map, List.length_range, List.length_range] at this
        omega
      obtain ⟨i, j, hij, hj, e⟩ := this
      have hd : (s : Int) ∣ dsum z (l.take i ++ l.drop j) - dsum z l := by
        have e1 : dsum z l = dsum z (l.take j) + dsum z (l.drop j) := by rw [← dsum_append, List.take_append_drop]
        rw [dsum_append, e1, show dsum z (l.take i) + dsum z (l.drop j) - (dsum z (l.take j) + dsum z (l.drop j)) = dsum z (l.take i) - dsum z (l.take j) by omega]
        exact Int.dvd_of_emod_eq_zero (Int.emod_eq_emod_iff_emod_sub_eq_zero.mp e)
      obtain ⟨m, h1, h2, h3⟩ := fewer hs z k (l.take i ++ l.drop j) (by rw [List.length_append, List.length_take, List.length_drop]; omega)
      refine ⟨m, fun t ht => ?_, h2, ?_⟩
      · rcases List.mem_append.mp (h1 t ht) with h | h
        · exact List.mem_of_mem_take h
        · exact List.mem_of_mem_drop h
      · have := Int.dvd_add h3 hd
        rwa [show dsum z m - dsum z (l.take i ++ l.drop j) + (dsum z (l.take i ++ l.drop j) - dsum z l) = dsum z m - dsum z l by omega] at this
theorem copies (z : Nat) (l : List Nat) : ∀ w : Nat, dsum z (List.replicate w l).flatten = w * dsum z l
  | 0 => by show (0 : Int) - ((0 : Nat) : Int) * z = ((0 : Nat) : Int) * _; simp
  | w + 1 => by
    show dsum z (l ++ (List.replicate w l).flatten) = _
    rw [dsum_append, copies z l w, Int.natCast_add, Int.add_mul]
    simp
    omega
theorem odd_part : ∀ (k s : Nat), 1 ≤ s → s ≤ k → ∃ a o, s = 2 ^ a * o ∧ o % 2 = 1
  | 0, s, h1, h2 => by omega
  | k + 1, s, h1, h2 => by
    by_cases h : s % 2 = 1
    · exact ⟨0, s, by simp, h⟩
    · obtain ⟨a, o, e1, e2⟩ := odd_part k (s / 2) (by omega) (by omega)
      exact ⟨a + 1, o, by rw [Nat.pow_succ, Nat.mul_right_comm, ← e1]; omega, e2⟩
theorem pow_one_mod {o : Int} (x : Int) (h : o ∣ x - 1) : ∀ k : Nat, o ∣ x ^ k - 1
  | 0 => by rw [Int.pow_zero]; exact ⟨0, by omega⟩
  | k + 1 => by
    have ih := pow_one_mod x h k
    have := Int.dvd_add (Int.dvd_mul_of_dvd_right (b := x ^ k) h) ih
    rw [Int.pow_succ]
    rwa [show x ^ k * (x - 1) + (x ^ k - 1) = x ^ k * x - 1 by rw [Int.mul_sub]; omega] at this
/-- w times 2^n is 2^m -/
theorem scale_to {s m n : Nat} (hs : 1 ≤ s) (hm : s ≤ 2 ^ m) : ∃ w : Nat, (s : Int) ∣ w * 2 ^ n - 2 ^ m := by
  by_cases h : n ≤ m
  · refine ⟨2 ^ (m - n), ⟨0, ?_⟩⟩
    rw [Int.natCast_pow, show ((2 : Nat) : Int) = 2 from rfl, ← Int.pow_add, Nat.sub_add_cancel h]
    omega
  · obtain ⟨a, o, e1, e2⟩ := odd_part s s hs (Nat.le_refl _)
    have ho : 1 ≤ o := by omega
    have ha : a ≤ m := by
      apply Classical.byContradiction
      intro hn
      have h1 : 2 ^ (m + 1) ≤ 2 ^ a := Nat.pow_le_pow_right (by decide) (by omega)
      have h2 : 2 ^ a * 1 ≤ 2 ^ a * o := Nat.mul_le_mul_left _ ho
      have h3 : 2 ^ (m + 1) = 2 * 2 ^ m := by rw [Nat.pow_succ, Nat.mul_comm]
      have : 0 < 2 ^ m := Nat.pow_pos (by decide)
      omega
    refine ⟨((o + 1) / 2) ^ (n - m), ?_⟩
    have e3 : (((o + 1) / 2) ^ (n - m) : Nat) * 2 ^ n = 2 ^ m * (o + 1) ^ (n - m) := by
      have : n = m + (n - m) := by omega
      conv => lhs; rw [this, Nat.pow_add]
      rw [show m + (n - m) - m = n - m by omega, Nat.mul_left_comm, ← Nat.mul_pow, show (o + 1) / 2 * 2 = o + 1 by omega]
    have e4 : (((((o + 1) / 2) ^ (n - m) : Nat)) : Int) * 2 ^ n - 2 ^ m = 2 ^ m * (((o + 1 : Nat) : Int) ^ (n - m) - 1) := by
      have : ((((o + 1) / 2) ^ (n - m) * 2 ^ n : Nat) : Int) = ((2 ^ m * (o + 1) ^ (n - m) : Nat) : Int) := by rw [e3]
      rw [Int.natCast_mul, Int.natCast_mul, Int.natCast_pow 2 n, Int.natCast_pow 2 m, Int.natCast_pow (o + 1)] at this
      rw [Int.mul_sub, Int.mul_one]
      have e5 : ((2 : Nat) : Int) = 2 := rfl
      rw [e5] at this
      omega
    rw [e4, e1, Int.natCast_mul]
    refine Int.mul_dvd_mul ?_ (pow_one_mod _ ⟨1, by omega⟩ _)
    rw [Int.natCast_pow]
    exact ⟨2 ^ (m - a), by rw [show ((2 : Nat) : Int) = 2 from rfl, ← Int.pow_add, Nat.add_sub_cancel' ha]⟩
theorem isSum_bound {s m n : Nat} {ns : List Nat} {x : Int} (hs : 1 ≤ s) (hm : s ≤ 2 ^ m) (h : IsSum s ns n x) : IsSum s ns m x := by
  obtain ⟨l, h1, h2, h3⟩ := h
  match l, h2 with
  | [], h2 => simp at h2; exact absurd h2.symm (Nat.ne_of_gt (Nat.pow_pos (by decide)))
  | z :: l', h2 =>
    have hz := h1 z (List.mem_cons_self ..)
    generalize hl : z :: l' = l at *
    have ep : (l.length : Int) = 2 ^ n := by rw [h2]; exact Int.natCast_pow 2 n
    have d0 : (s : Int) ∣ dsum z l - 2 ^ n * (x - z) := by
      unfold dsum
      rwa [ep, show nsum l - 2 ^ n * z - 2 ^ n * (x - z) = nsum l - 2 ^ n * x by rw [Int.mul_sub]; omega]
    obtain ⟨w, hw⟩ := scale_to (n := n) hs hm
    obtain ⟨r, r1, r2, r3⟩ := fewer (by omega : 0 < s) z _ (List.replicate w l).flatten (Nat.le_refl _)
    rw [copies] at r3
    have er : ∀ (m t : Nat), nsum (List.replicate m t) = m * t := fun m t => by
      induction m with
      | zero => show (0 : Int) = ((0 : Nat) : Int) * t; simp
      | succ m ih => show (t : Int) + nsum (List.replicate m t) = _; rw [ih, Int.natCast_add, Int.add_mul]; simp; omega
    have hp : ((2 ^ m : Nat) : Int) = 2 ^ m := Int.natCast_pow 2 m
    refine ⟨r ++ List.replicate (2 ^ m - r.length) z, fun t ht => ?_, by rw [List.length_append, List.length_replicate]; omega, ?_⟩
    · rcases List.mem_append.mp ht with h | h
      · have := r1 t h
        obtain ⟨q, hq, ht'⟩ := List.mem_flatten.mp this
        rw [(List.mem_replicate.mp hq).2] at ht'
        exact h1 t ht'
      · rw [(List.mem_replicate.mp h).2]; exact hz
    · rw [nsum_append, er, Int.natCast_sub (by omega), hp]
      have e : nsum r + ((2 : Int) ^ m - r.length) * z - 2 ^ m * x = (dsum z r - w * dsum z l) + w * (dsum z l - 2 ^ n * (x - z)) + (w * 2 ^ n - 2 ^ m) * (x - z) := by
        unfold dsum
        rw [Int.sub_mul, Int.sub_mul, Int.mul_sub (w : Int) _ ((2 : Int) ^ n * (x - z)), ← Int.mul_assoc (w : Int), Int.mul_sub (2 ^ m)]
        omega
      rw [e]
      exact Int.dvd_add (Int.dvd_add r3 (Int.dvd_mul_of_dvd_right d0)) (Int.dvd_mul_of_dvd_left hw)
/-! the numbers -/
open PySem L2
theorem numOf_same {ss ss' : List Nat} {T T' : Nat → Bool} {x x' : Nat} {v v' : V} (h : ∀ n, Un ss T n x = true ↔ Un ss' T' n x' = true) (a : NumOf ss T x v) (b : NumOf ss' T' x' v') : v = v' := by
  have hf : ∀ n, Un ss T n x = Un ss' T' n x' := fun n => by rw [Bool.eq_iff_iff]; exact h n
  rcases a with ⟨n, rfl, a1, a2⟩ | ⟨rfl, a1⟩ <;> rcases b with ⟨m, rfl, b1, b2⟩ | ⟨rfl, b1⟩
  · rcases Nat.lt_trichotomy n m with q | q | q
    · have := b2 n q; rw [← hf, a1] at this; cases this
    · rw [q]
    · have := a2 m q; rw [hf, b1] at this; cases this
  · have := b1 n; rw [← hf, a1] at this; cases this
  · have := a1 m; rw [hf, b1] at this; cases this
  · rfl
open PySem.Spec PyProof.Rows in
theorem op_notInK {X : Cx} {K : PySem.W.Frag} (h : X.K = K) : OpR X (compareOp .NotIn) (rIn K true) := by subst h; exact op_notIn_seq
theorem inV_nV {l : List Nat} {n : Nat} : inV (V.int (n : Nat)) (nV l) = decide (n ∈ l) := by
  unfold inV nV
  rw [List.any_map, Bool.eq_iff_iff, List.any_eq_true, decide_eq_true_eq]
  constructor
  · rintro ⟨m, hm, h⟩
    have : (m : Int) = n := by simpa [eqV] using h
    have : m = n := by omega
    rw [← this]; exact hm
  · intro h
    exact ⟨n, h, by simp [eqV]⟩
theorem flat_nV (l : List Nat) : (nV l).all flatV = true := by
  unfold nV
  rw [List.all_map, List.all_eq_true]
  intro x _
  rfl
theorem nodup_map {l : List Nat} {φ : Nat → Nat} (h : l.Nodup) (hi : ∀ a ∈ l, ∀ b ∈ l, φ a = φ b → a = b) : (l.map φ).Nodup :=
  List.pairwise_map.mpr (List.Pairwise.imp_of_mem (fun ha hb hn e => hn (hi _ ha _ hb e)) h)
theorem lt_w {a : Nat} (h : a + 65 < PySem.cLine) : a + 1 < PySem.cLine := by omega
open PySem PySem.Spec PyProof.Rows L2 in
theorem sl_tupK {X : Cx} {K : PySem.W.Frag} (h : X.K = K) : SlR X (rSlT K) := by subst h; exact sl_tup
open PySem PySem.Spec PyProof.Rows L2 in
theorem sl_tupAK {X : Cx} {K : PySem.W.Frag} (h : X.K = K) : SlR X (rSlA K) := by subst h; exact sl_tupA
section
open PySem PySem.Spec PyProof.Rows L2
theorem cr_maxK {X : Cx} {K : PySem.W.Frag} (h : X.K = K) (hc : X.calm = true) : CallR X (.builtin "max") (rMax K) := by subst h; exact cr_max hc
/-- range(i, j), whatever walks it -/
def iRng2H (ta : TA) : TI := fun σ H R => ta σ H fun vs H1 => ∃ i j : Int, vs = [.int i, .int j] ∧ (-(2 ^ 62) ≤ i ∧ i < 2 ^ 62 ∧ -(2 ^ 62) ≤ j ∧ j < 2 ^ 62) ∧ ∀ J : It, Walk J (j - i).toNat (fun _ => True) (YFn fun k => .int (i + (k : Nat))) → R J H1
theorem pi_range2H {X : Cx} {a b tg : Expr} {ta : TA} {p pos : Pos} (hg : Gl X "range") (hm : X.mg "range" = none) (ha : PA X [a, b] ta) (hs : starEach [a, b] X.env = [(false, eval a X.env), (false, eval b X.env)] := by rfl) (hs2 : starEach [b] X.env = [(false, eval b X.env)] := by rfl) : PI X tg (.Call (.Name "range" p) [a, b] [] pos) (iRng2H ta) := by
  have h2 : PA X [a, b] fun σ H Q => ∃ Q0, ta σ H Q0 ∧ ∀ vs H1, Q0 vs H1 → Q vs H1 := ⟨fun pos pins s σ H Q I ⟨Q0, h0, imp⟩ => thn (ha.run pos pins s σ H Q0 I h0) fun us s1 ⟨vs, H1, I1, r1, q1⟩ => ⟨vs, H1, I1, r1, imp _ _ q1⟩⟩
  exact ⟨fun pins s σ H R I h => (pi_range2 hg hm h2 hs hs2).run pins s σ H R I ⟨_, h, fun vs H1 ⟨i, j, e, b, hR⟩ => ⟨i, j, e, b, hR _ (walk_range.mono (fun _ _ => trivial) fun _ _ _ _ _ _ y => ⟨y.1, y.2⟩)⟩⟩⟩
end
end Cs

/-! Da: dict(list of pairs whose keys are tuples of ints or words). -/
namespace Cs
open PySem PySem.Spec PyProof.Rows L2
section
variable {P : Program} {w : World} {A : Around} {E : Value → Shared → Prop}
theorem keyT_keep {h h' : Heap} {k : List Key} {a : Addr} (x : (tupleKind (mixKind P w)).is h k a) (e : ∀ o, h.get? a = some o → h'.get? a = some o) : (tupleKind (mixKind P w)).is h' k a := by
  obtain ⟨o, its, n, h1, h2, h3, h4⟩ := x
  exact ⟨o, its, n, e _ h1, h2, h3, h4⟩
theorem dictT_keep {h h' : Heap} {d : Addr} {xs : List (List Key × Addr × Value)} (x : h.DictOfH (tupleKind (mixKind P w)) d xs) (e : ∀ o, h.get? d = some o → h'.get? d = some o) (ek : ∀ y ∈ xs, ∀ o, h.get? y.2.1 = some o → h'.get? y.2.1 = some o) : h'.DictOfH (tupleKind (mixKind P w)) d xs := by
  obtain ⟨o, es, ep, h1, h2, h3, h4, h5, h6⟩ := x
  exact ⟨o, es, ep, e _ h1, h2, h3, h4, fun y hy => keyT_keep (h5 y hy) (ek y hy), h6⟩
theorem stored_in {xs : List (List Key × Addr × Value)} {k : List Key} {a : Addr} {v : Value} {y : List Key × Addr × Value} (h : y ∈ storedH xs k a v) : y.2.1 = a ∨ ∃ x ∈ xs, y.2.1 = x.2.1 := by
  unfold storedH at h
  split at h
  · obtain ⟨x, hx, rfl⟩ := List.mem_map.mp h
    refine .inr ⟨x, hx, ?_⟩
    unfold putAt
    split <;> rfl
  · rcases List.mem_append.mp h with h | h
    · exact .inr ⟨y, h, rfl⟩
    · rw [List.mem_singleton.mp h]
      exact .inl rfl
theorem stored_len {xs : List (List Key × Addr × Value)} {k : List Key} {a : Addr} {v : Value} : (storedH xs k a v).length ≤ xs.length + 1 := by
  unfold storedH
  split
  · rw [List.length_map]; omega
  · rw [List.length_append]; exact Nat.le_refl _
/-- pairs put one by one -/
def mrgH (xs more : List (List Key × Addr × Value)) : List (List Key × Addr × Value) := more.foldl (fun acc q => storedH acc q.1 q.2.1 q.2.2) xs
theorem updT_loop {R : Result → Shared → Prop} {S I l : Addr} {items : Array Value} {res : Value} (hh : A.handled = none) (hu : A.units + 1 < cLine) (hlI : l ≠ I) (hSI : S ≠ I) (hSl : S ≠ l) :
    ∀ (rest : List (List Key × Addr × Value)) (i : Nat) (acc : List (List Key × Addr × Value)) (ix : Int) (t : Tok) (s : Shared), items.size = i + rest.length → acc.length + rest.length ≤ sizeLine →
      (∀ (j : Nat) q, rest[j]? = some q → ∃ b, items[i + j]? = some (.ref b) ∧ b ≠ S ∧ b ≠ I ∧ q.2.1 ≠ S ∧ q.2.1 ≠ I ∧ IsTup s.heap b #[.ref q.2.1, q.2.2] ∧ (tupleKind (mixKind P w)).is s.heap q.1 q.2.1) →
      (∀ y ∈ acc, y.2.1 ≠ S ∧ y.2.1 ≠ I) → s.heap.IsListIter I l i → s.heap.IsList l items → s.heap.DictOfH (tupleKind (mixKind P w)) S acc →
      (∀ h' tk, h'.DictOfH (tupleKind (mixKind P w)) S (mrgH acc rest) → (∀ b o, b ≠ S → b ≠ I → s.heap.get? b = some o → h'.get? b = some o) → R (.ok (.ret res)) { s with heap := h', toks := tk }) →
      codeAny (model P w) A (.builtin "dict.update.loop" ⟨[.ref S, .ref I, .int ix t, res], []⟩) R s
  | [], i, acc, ix, t, s, hsz, hln, ht, ha, hit, hl, hm, hR => by
    refine codeAny_builtin ud_entry ?_
    rw [Around.under_plainId ud_plain _]
    show wpAny _ A.in1 (pyNext (.ref I) >>= _) _ _ s
    refine wpAny_bind (wpAny_pyNext_list_end (A := A.in1) hh hit hl (by first | exact Array.getElem?_eq_none (Nat.le_of_eq hsz) | (simp at hsz; simp; omega)) fun h' he => ?_)
    show wpAny _ A.in1 (Builtin.Dict.addKeywords S [] >>= _) _ _ _
    refine wpAny_bind (wpAny_pure (wpAny_pure ?_))
    exact hR h' s.toks (dictT_keep hm (fun o e => he S o hSI e) fun y hy o e => he _ o (ha y hy).2 e) fun b o _ hb e => he b o hb e
  | q :: rest, i, acc, ix, t, s, hsz, hln, ht, ha, hit, hl, hm, hR => by
    obtain ⟨b, hb, hbS, hbI, hkS, hkI, htup, hk⟩ := ht 0 q rfl
    rw [List.length_cons] at hsz hln
    refine codeAny_builtin ud_entry ?_
    rw [Around.under_plainId ud_plain _]
    show wpAny _ A.in1 (pyNext (.ref I) >>= _) _ _ s
    refine wpAny_bind (wpAny_pyNext_list_item (x := .ref b) hit hl (by simpa using hb) fun h1 hit1 hs1 => ?_)
    have ht1 : IsTup h1 b #[.ref q.2.1, q.2.2] := htup.extBut hs1.extBut hbI
    have hl1 : h1.IsList l items := hl.extBut hs1.extBut hlI
    have hm1 : h1.DictOfH (tupleKind (mixKind P w)) S acc := dictT_keep hm (fun o e => hs1.extBut S o hSI e) fun y hy o e => hs1.extBut _ o (ha y hy).2 e
    have hk1 : (tupleKind (mixKind P w)).is h1 q.1 q.2.1 := keyT_keep hk fun o e => hs1.extBut _ o hkI e
    obtain ⟨o, ho, hc, n, hd⟩ := id ht1
    show wpAny _ A.in1 (holding [Value.ref b] _ >>= _) _ _ _
    refine wpAny_bind (wpAny_holding ?_)
    refine wpAny_bind (wpAny_tryCatch ?_)
    unfold Builtin.Dict.pairItems
    refine wpAny_bind (wpAny_typeOf (T := "tuple") ⟨o, ho, hc⟩ ?_)
    rw [if_pos (by first | decide | rfl | simp)]
    refine wpAny_bind (wpAny_seqItems ho hd (wpAny_pure ?_))
    show wpAny _ A.in1 (holding [.ref q.2.1, q.2.2] (dictSet S (.ref q.2.1) q.2.2)) _ _ _
    refine wpAny_holding (wpAny_dictSet_heap (knd := tupleKind (mixKind P w)) (k := q.1) hu hk1 hm1 (fun h2 hm2 hs2 => ?_) (by omega))
    refine wpAny_pure ⟨plainId_quiet ud_plain _, updT_loop (items := items) hh hu hlI hSI hSl rest (i + 1) (storedH acc q.1 q.2.1 q.2.2) (ix + 1) 0 _ (show items.size = i + 1 + rest.length by omega) ?_ (fun j q' e => ?_) (fun y hy => ?_) ?_ ?_ hm2 fun h' tk hd' k => ?_⟩
    · have z := stored_len (xs := acc) (k := q.1) (a := q.2.1) (v := q.2.2)
      omega
    · obtain ⟨b', hb', hbS', hbI', hkS', hkI', htup', hk'⟩ := ht (j + 1) q' (by simpa using e)
      refine ⟨b', ?_, hbS', hbI', hkS', hkI', (htup'.extBut hs1.extBut hbI').extBut hs2.extBut hbS', keyT_keep hk' fun o e => hs2.extBut _ o hkS' (hs1.extBut _ o hkI' e)⟩
      rw [show i + 1 + j = i + (j + 1) by omega]
      exact hb'
    · rcases stored_in hy with e | ⟨x, hx, e⟩
      · rw [e]; exact ⟨hkS, hkI⟩
      · rw [e]; exact ha x hx
    · exact hit1.at fun o' e => hs2.extBut I o' (Ne.symm hSI) e
    · exact hl1.extBut hs2.extBut (Ne.symm hSl)
    · exact hR h' tk hd' fun c oc h3 h4 e => k c oc h3 h4 (hs2.extBut c oc h3 (hs1.extBut c oc h4 e))
end
section
variable {P : Program} {w : World} {A : Around} {E : Value → Shared → Prop}
theorem call_dict_tups {s : Shared} {l : Addr} {ol : Obj} {items : Array Value} {n : Nat} {prs : List (List Key × Addr × Value)} {Q : Value → Shared → Prop} (hh : A.handled = none) (hu : A.units + 2 < cLine) (hl : s.heap.get? l = some ol) (hc : ol.cls = .type "list") (hd : ol.dict = none)
    (hdat : ol.data = .seq items n) (hsz : items.size = prs.length) (hln : prs.length ≤ sizeLine)
    (ht : ∀ (j : Nat) q, prs[j]? = some q → ∃ b, items[j]? = some (.ref b) ∧ IsTup s.heap b #[.ref q.2.1, q.2.2] ∧ (tupleKind (mixKind P w)).is s.heap q.1 q.2.1)
    (h : ∀ h' tk, h'.DictOfH (tupleKind (mixKind P w)) s.heap.objs.size (mrgH [] prs) → (∀ b o, s.heap.get? b = some o → h'.get? b = some o) → Q (.ref s.heap.objs.size) { s with heap := h', toks := tk }) :
    wpAny (model P w) A (call (.type "dict") [.ref l]) Q E s := by
  refine callType_codes (Q₁ := fun obj s₁ => obj = .ref s.heap.objs.size ∧ s₁ = { s with heap := s.heap.push { cls := .type "dict", data := .dict #[] } }) PySem.F.kt_called_dict (PySem.F.kt_typeCall_dict_1 _) PySem.F.entry_dict_init (kt_code_dict_new _ ⟨rfl, rfl⟩) ?_
  rintro obj s₁ ⟨rfl, rfl⟩
  have hnew : (s.heap.push { cls := .type "dict", data := .dict #[] }).DictOfH (tupleKind (mixKind P w)) s.heap.objs.size [] := Heap.DictOfH.new s.heap
  have k0 : ∀ b o, s.heap.get? b = some o → (s.heap.push { cls := .type "dict", data := .dict #[] }).get? b = some o := fun b o e => Heap.get?_push_of_some _ e
  refine ⟨hnew.typeIs, PySem.F.args_dict_init_2 _ _, ?_⟩
  unfold Builtin.«dict.__init__»
  refine wpAny_bind ?_
  unfold Builtin.Dict.selfAndRest
  refine wpAny_bind (wpAny_notOrdered_dict hnew.typeIs ?_)
  show wpAny _ _ (pure (s.heap.objs.size, [Value.ref l])) _ _ _
  refine wpAny_pure ?_
  show wpAny _ _ (Builtin.Dict.updateFrom "dict.__init__" s.heap.objs.size (.ref l) [] .none) _ _ _
  unfold Builtin.Dict.updateFrom
  refine wpAny_bind (wpAny_typeOf (T := "list") ⟨ol, k0 _ _ hl, hc⟩ ?_)
  rw [if_pos (by first | decide | rfl | simp)]
  refine wpAny_bind (miss_list (k0 _ _ hl) hc hdat hd hh fun h1 tk1 hk1 => ?_)
  rw [if_pos (show (none : Option Value).isNone = true from rfl)]
  refine wpAny_bind (wpAny_rule ?_)
  have hl1 : h1.IsList l items := ⟨ol, hk1 _ _ (k0 _ _ hl), hc, n, hdat⟩
  have hS1 : s.heap.objs.size < h1.objs.size := by
    have e : (s.heap.push { cls := .type "dict", data := .dict #[] }).get? s.heap.objs.size = some { cls := .type "dict", data := .dict #[] } := Heap.get?_push_size _ rfl
    exact Heap.lt_size (hk1 _ _ e)
  refine wpAny_bind (wpAny_pyIter_list hl1 ?_)
  have k2 : ∀ b o, h1.get? b = some o → (h1.push { cls := .type "list_iterator", data := .fields #[.ref l, .int 0 0] }).get? b = some o := fun b o e => Heap.get?_push_of_some _ e
  have k3 : ∀ b o, s.heap.get? b = some o → (h1.push { cls := .type "list_iterator", data := .fields #[.ref l, .int 0 0] }).get? b = some o := fun b o e => k2 _ _ (hk1 _ _ (k0 _ _ e))
  have hlt : l < s.heap.objs.size := Heap.lt_size hl
  have key := updT_loop (P := P) (w := w) (A := A.in1) (R := wants (fun r s₂ => r = .none ∧ Q (.ref s.heap.objs.size) s₂) E) (S := s.heap.objs.size) (I := h1.objs.size) (l := l) (items := items) (res := Value.none) hh (show A.units + 1 + 1 < cLine by omega)
    (Nat.ne_of_lt (Nat.lt_trans hlt hS1)) (Nat.ne_of_lt hS1) (Nat.ne_of_gt hlt) prs 0 [] 0 0
    { s with heap := h1.push { cls := .type "list_iterator", data := .fields #[.ref l, .int 0 0] }, toks := tk1 } (by rw [hsz, Nat.zero_add]) (by rw [List.length_nil, Nat.zero_add]; exact hln)
    (fun j q e => by
      obtain ⟨b, e1, e2, e3⟩ := ht j q e
      have hb : b < s.heap.objs.size := e2.lt
      have hk : q.2.1 < s.heap.objs.size := by
        obtain ⟨o, its, m, h1, _⟩ := id e3
        exact Heap.lt_size h1
      exact ⟨b, by rw [Nat.zero_add]; exact e1, Nat.ne_of_lt hb, Nat.ne_of_lt (Nat.lt_trans hb hS1), Nat.ne_of_lt hk, Nat.ne_of_lt (Nat.lt_trans hk hS1), e2.keeps fun c o z => k3 _ _ z, keyT_keep e3 fun o z => k3 _ _ z⟩)
    (fun y hy => nomatch hy) ⟨_, Heap.get?_push_size _ rfl, rfl, rfl⟩ (hl1.at fun o e => k2 _ _ e) (dictT_keep hnew (fun o e => k2 _ _ (hk1 _ _ e)) fun y hy => nomatch hy)
    (fun h' tk hd' k => ⟨rfl, h h' tk hd' fun b o e => k b o (Nat.ne_of_lt (Heap.lt_size e)) (Nat.ne_of_lt (Nat.lt_trans (Heap.lt_size e) hS1)) (k3 _ _ e)⟩)
  first
    | exact wpAny_pure ⟨plainId_quiet ud_plain _, key⟩
    | exact wpAny_bind (wpAny_pure (wpAny_pure ⟨plainId_quiet ud_plain _, key⟩))
end
def mergeT (kvs more : List (List Key × V)) : List (List Key × V) := more.foldl (fun acc kv => putK acc kv.1 kv.2) kvs
theorem length_mergeT : ∀ (more kvs : List (List Key × V)), (mergeT kvs more).length ≤ kvs.length + more.length
  | [], kvs => by show kvs.length ≤ kvs.length + 0; omega
  | p :: r, kvs => by
    have h1 := length_mergeT r (putK kvs p.1 p.2)
    have h2 := length_putK kvs p.1 p.2
    show (mergeT (putK kvs p.1 p.2) r).length ≤ kvs.length + (r.length + 1)
    omega
section
variable {X : Cx}
theorem mergeT_rel {H : Hp} : ∀ {more : List (List Key × V)} {rs : List (List Key × Addr × Value)} {kvs : List (List Key × V)} {xs : List (List Key × Addr × Value)}, KT H more rs → KT H kvs xs → KT H (mergeT kvs more) (mrgH xs rs) := by
  intro more rs kvs xs r
  induction r generalizing kvs xs with
  | nil => exact fun h => h
  | @cons p q ps qs hq t ih =>
    intro h
    obtain ⟨e1, e2, e3⟩ := hq
    show KT H (mergeT (putK kvs p.1 p.2) ps) (mrgH (storedH xs q.1 q.2.1 q.2.2) qs)
    rw [← e1]
    exact ih (h.put p.1 e2 e3)
/-- a pair (tuple, value) at p -/
def PairT (K : PySem.W.Frag) (H : Hp) (p : Addr) (kv : List Key × V) : Prop := ∃ b, SqT K H p [V.ref b, kv.2] ∧ H b = some (.tup (kv.1.map kV))
theorem tups_of {pins : List (Addr × Obj)} {σ : L2.St} {H : Hp} {s : Shared} (I : Inv X pins σ H s) : ∀ {ps : List Addr} {kvs : List (List Key × V)}, Paired (PairT X.K H) ps kvs →
    ∃ prs : List (List Key × Addr × Value), KT H kvs prs ∧ prs.length = ps.length ∧ ∀ (j : Nat) q, prs[j]? = some q → ∃ b, ps[j]? = some b ∧ IsTup s.heap b #[.ref q.2.1, q.2.2] ∧ (tupleKind (mixKind X.prog X.w)).is s.heap q.1 q.2.1
  | _, _, .nil => ⟨[], .nil, rfl, fun j q e => by simp at e⟩
  | _, _, .cons (a := p) (b := kv) h t => by
    obtain ⟨prs, r, hl, hp⟩ := tups_of I t
    obtain ⟨b, hs, hb⟩ := h
    obtain ⟨its, rv, ht, _⟩ := I.tuple hs
    obtain ⟨u, y, ei, ru, ry⟩ := vals2 rv
    subst ei
    obtain rfl : u = Value.ref b := ru
    refine ⟨(kv.1, b, y) :: prs, .cons ⟨rfl, hb, ry⟩ r, by rw [List.length_cons, List.length_cons, hl], fun j q e => ?_⟩
    cases j with
    | zero =>
      have e' : (kv.1, b, y) = q := Option.some.inj e
      subst e'
      exact ⟨p, rfl, ht, key_of I.hok hb⟩
    | succ j =>
      obtain ⟨b', e1, e2, e3⟩ := hp j q (by simpa using e)
      exact ⟨b', by simpa using e1, e2, e3⟩
def rDictT (K : PySem.W.Frag) : List V → Hp → VK → Prop := fun xs H Q => ∃ (a : Addr) (ps : List Addr) (kvs : List (List Key × V)), xs = [.ref a] ∧ SqL K H a (ps.map V.ref) ∧ Paired (PairT K H) ps kvs ∧ ∀ p, H p = none → Q (.ref p) (upd H p (.dT (mergeT [] kvs)))
/-- dict(l), l a list of pairs with tuples as keys -/
theorem call_dictT (hcalm : X.calm = true) (hu : X.A.units + 64 < cLine) : CallR X (.type "dict") (rDictT X.K) := by
  intro pins s σ H xs us Q I r q
  obtain ⟨a, ps, kvs, ex, hq, hp, q⟩ := q
  subst ex
  obtain ⟨u, eu, rx⟩ := vals1 r
  subst eu
  cases rx
  obtain ⟨its, rv, pl, hz⟩ := I.list hq
  have ei := refs_at rv
  subst ei
  rw [List.length_map] at hz
  obtain ⟨prs, rel, hl, hpr⟩ := tups_of I hp
  obtain ⟨o, n, ho, hc, hd, hdat⟩ := pl
  refine call_dict_tups (prs := prs) (I.ok.hd hcalm) (by omega) ho hc hd hdat (by simp [hl]) (by rw [hl]; exact hz) (fun j q' e => ?_) fun h' tk hd' k => ?_
  · obtain ⟨b, e1, e2, e3⟩ := hpr j q' e
    exact ⟨b, by simp [e1], e2, e3⟩
  · have hm : (s.heap.objs.size == sysModules) = false := beq_eq_false_iff_ne.mpr (Nat.ne_of_gt I.big)
    have hlen : (mergeT [] kvs).length ≤ sizeLine := by
      refine Nat.le_trans (length_mergeT kvs []) ?_
      rw [List.length_nil, Nat.zero_add, Paired.length rel, hl]
      exact hz
    obtain ⟨od, es, ep, h1, h2, h3, h4, _, h6⟩ := hd'
    have fr := I.hok.fresh (Nat.le_refl s.heap.objs.size)
    exact ⟨.ref s.heap.objs.size, upd H s.heap.objs.size (.dT (mergeT [] kvs)), I.laid (t' := tk) k (Nat.le_refl _) (show ObjOk X.prog X.w _ _ _ (.dT (mergeT [] kvs)) from ⟨hlen, hm, mrgH [] prs, (mergeT_rel rel .nil).keeps fun c ys ec => by rw [upd_ne (ne_some ec fr)]; exact ec, od, es, ep, h1, h2, h3, h4, h6⟩), rfl, q _ fr⟩
end
theorem call_dictTK {X : Cx} {K : PySem.W.Frag} (h : X.K = K) (hcalm : X.calm = true) (hu : X.A.units + 64 < cLine) : CallR X (.type "dict") (rDictT K) := by subst h; exact call_dictT hcalm hu
/-! d.update(e), d not empty -/
section
variable {P : Program} {w : World} {A : Around} {E : Value → Shared → Prop} {s : Shared}
theorem setHashedT {d a : Addr} {xs : List (List Key × Addr × Value)} {k : List Key} {v : Value} {Q : Unit → Shared → Prop} (hu : A.units < cLine) (hkey : (tupleKind (mixKind P w)).is s.heap k a) (hm : s.heap.DictOfH (tupleKind (mixKind P w)) d xs)
    (hQ : ∀ h', h'.DictOfH (tupleKind (mixKind P w)) d (storedH xs k a v) → Heap.SameBut d s.heap h' → Q () { s with heap := h' }) (hsz : xs.length ≤ sizeLine) :
    wpAny (model P w) A (dictSetHashed d (.ref a) ((tupleKind (mixKind P w)).hash k) v) Q E s := by
  obtain ⟨o, es, ep, ho, hc, hd, he, his, hn⟩ := hm
  have kp : ∀ {h' : Heap} {y : List Key × Addr × Value}, Heap.SameBut d s.heap h' → y ∈ xs → (tupleKind (mixKind P w)).is h' y.1 y.2.1 := fun {h' y} sb hy => (tupleKind (mixKind P w)).keeps (his y hy) ho hd sb
  unfold dictSetHashed
  try with_reducible refine wpAny_holding ?_
  refine wpAny_bind (wpAny_dictFind_heap (knd := tupleKind (mixKind P w)) hu hkey ho hd he his hn (fun hno => ?_) fun j p hj => ?_)
  · have e0 := storedH_new (atKey_none_of_get hno) a v
    refine wpAny_bind (wpAny_rule (wpAny_updateDictKeys (hz := by have e := size_of_entries he; omega) ho hd (hQ _ ⟨_, _, ep + 1, Heap.get?_update_self _ ho (Obj.isFreed_of_dict (Obj.data_mapDictKeys hd _)), hc.mapDictKeys _, Obj.data_mapDictKeys hd _, ?_, fun y hy => ?_, ?_⟩ (Heap.SameBut.update ..))))
    · rw [e0]
      simp [he, entryOfKey]
    · rw [e0] at hy
      rcases List.mem_append.mp hy with hy | hy
      · exact kp (Heap.SameBut.update ..) hy
      · rw [List.mem_singleton.mp hy]
        exact (tupleKind (mixKind P w)).keeps hkey ho hd (Heap.SameBut.update ..)
    · rw [e0, List.map_append, List.nodup_append]
      exact ⟨hn, by simp, fun x hx y hy e => not_mem_keys_of_get hno (by rw [List.map_singleton, List.mem_singleton] at hy; have h3 : x = k := e.trans hy; exact h3 ▸ hx)⟩
  · have e0 := storedH_old (atKey_of_get hn hj) a v
    refine wpAny_bind (wpAny_rule (wpAny_bind (wpAny_updateDict ho hd (wpAny_point (hQ _ ⟨_, _, ep, Heap.get?_update_self _ ho (Obj.isFreed_of_dict (Obj.data_mapDict hd _)), hc.mapDict _, Obj.data_mapDict hd _, ?_, fun y hy => ?_, ?_⟩ (Heap.SameBut.update ..))))))
    · rw [e0]
      have := modify_map_putAt (entryOfKey (tupleKind (mixKind P w))) (fun e : DictEntry => { e with val := v }) k v (fun _ _ => rfl) hn hj
      rw [← he] at this
      obtain ⟨l⟩ := es
      simpa using this
    · rw [e0] at hy
      obtain ⟨z, hz, rfl⟩ := List.mem_map.mp hy
      unfold putAt
      split
      · exact kp (y := z) (Heap.SameBut.update ..) hz
      · exact kp (y := z) (Heap.SameBut.update ..) hz
    · rw [e0, keys_map_putAt]
      exact hn
theorem mrgH_take {xs more : List (List Key × Addr × Value)} {i : Nat} {q : List Key × Addr × Value} (h : more[i]? = some q) : mrgH xs (more.take (i + 1)) = storedH (mrgH xs (more.take i)) q.1 q.2.1 q.2.2 := by
  unfold mrgH
  rw [List.take_add_one, h, List.foldl_append]
  rfl
theorem mrgH_len : ∀ (more xs : List (List Key × Addr × Value)), (mrgH xs more).length ≤ xs.length + more.length
  | [], xs => by show xs.length ≤ xs.length + 0; omega
  | q :: r, xs => by
    have h1 := mrgH_len r (storedH xs q.1 q.2.1 q.2.2)
    have h2 := stored_len (xs := xs) (k := q.1) (a := q.2.1) (v := q.2.2)
    show (mrgH (storedH xs q.1 q.2.1 q.2.2) r).length ≤ xs.length + (r.length + 1)
    omega
theorem mergeDictT {nm : String} {d o : Addr} {xs more : List (List Key × Addr × Value)} {Q : Unit → Shared → Prop} (hu : A.units < cLine) (hdo : d ≠ o) (hoS : (o == sysModules) = false) (hx : xs ≠ [])
    (hd : s.heap.DictOfH (tupleKind (mixKind P w)) d xs) (ho : s.heap.DictOfH (tupleKind (mixKind P w)) o more)
    (hQ : ∀ h', h'.DictOfH (tupleKind (mixKind P w)) d (mrgH xs more) → Heap.SameBut d s.heap h' → Q () { s with heap := h' }) (hsz : xs.length + more.length ≤ sizeLine) :
    wpAny (model P w) A (Builtin.Dict.mergeDict nm d o) Q E s := by
  obtain ⟨od, esd, epd, hod, hcd, hdd, hed, hid, hnd⟩ := id hd
  obtain ⟨oo, eso, epo, hoo, hco, hdo', heo, hio, hno⟩ := id ho
  have hne : esd.isEmpty = false := by
    have := size_of_entries hed
    have h0 : xs.length ≠ 0 := fun e => hx (List.length_eq_zero_iff.mp e)
    cases hh : esd.isEmpty with
    | false => rfl
    | true =>
      have h1 := Array.isEmpty_iff.mp hh
      rw [h1] at this
      exact absurd (show xs.length = 0 from this.symm) h0
  have hlen : eso.size = more.length := size_of_entries heo
  unfold Builtin.Dict.mergeDict
  rw [if_neg (by simpa using hdo)]
  unfold Builtin.Dict.showsAll
  rw [if_neg (by rw [hoS]; exact Bool.false_ne_true)]
  refine wpAny_bind (wpAny_pure ?_)
  refine wpAny_bind (wpAny_dictEntries hoo hdo' ?_)
  have loop : wpAny (model P w) A (do
      let epoch ← dictEpoch o
      let l ← dictEntries o
      forIn [:l.size] PUnit.unit fun i (_ : PUnit) => (do
          let l' ← dictEntries o
          match l'[i]? with
            | some e => do
              holding [e.key, e.val] (dictSetHashed d e.key e.hash e.val)
              let ep' ← dictEpoch o
              if (ep' != epoch) = true then do
                  (unsupported (toString nm ++ toString ":source-changed-during-callback") : Sem PUnit)
                  pure (ForInStep.yield PUnit.unit)
                else pure (ForInStep.yield PUnit.unit)
            | _ => do
              (unsupported "internal:dict-merge" : Sem PUnit)
              pure (ForInStep.yield PUnit.unit) : Sem (ForInStep PUnit))
      pure ()) Q E s := by
    refine wpAny_bind (wpAny_dictEpoch hoo hdo' ?_)
    refine wpAny_bind (wpAny_dictEntries hoo hdo' ?_)
    refine wpAny_bind ?_
    rw [Std.Legacy.Range.forIn_eq_forIn_range']
    simp only [Std.Legacy.Range.size, Nat.sub_zero, Nat.add_sub_cancel, Nat.div_one]
    refine wpAny_forIn_list _
      (fun rest _ s' => ∃ h' i, s' = { s with heap := h' } ∧ rest = List.range' i (eso.size - i) ∧ i ≤ eso.size ∧ h'.DictOfH (tupleKind (mixKind P w)) d (mrgH xs (more.take i)) ∧ h'.get? o = some oo ∧ Heap.SameBut d s.heap h')
      _ ?_ ?_ _ _ ⟨s.heap, 0, rfl, by simp, Nat.zero_le _, by simpa [mrgH] using hd, hoo, Heap.SameBut.refl _ _⟩
    · rintro x rest b s' ⟨h', i, rfl, hr, hi, hd', hoo', hs'⟩
      have hlt : i < eso.size := by
        rcases Nat.lt_or_ge i eso.size with h | h
        · exact h
        · rw [Nat.sub_eq_zero_of_le h] at hr; simp at hr
      obtain ⟨rfl, hrest⟩ : x = i ∧ rest = List.range' (i + 1) (eso.size - (i + 1)) := by
        have e : eso.size - i = (eso.size - (i + 1)) + 1 := by omega
        rw [e, List.range'_succ] at hr
        injection hr with h1 h2
        exact ⟨h1, h2⟩
      refine wpAny_bind (wpAny_dictEntries hoo' hdo' ?_)
      have hm : more[x]? = some more[x] := List.getElem?_eq_getElem (by omega)
      have he : eso[x]? = some (entryOfKey (tupleKind (mixKind P w)) more[x]) := by rw [entry_at heo, hm]; rfl
      rw [he]
      have hk0 := hio more[x] (List.getElem_mem _)
      have hk : (tupleKind (mixKind P w)).is h' more[x].1 more[x].2.1 := (tupleKind (mixKind P w)).keeps hk0 hod hdd hs'
      show wpAny _ _ (holding [Value.ref more[x].2.1, more[x].2.2] (dictSetHashed d (.ref more[x].2.1) ((tupleKind (mixKind P w)).hash more[x].1) more[x].2.2) >>= _) _ _ _
      have hmx : (mrgH xs (more.take x)).length ≤ sizeLine := by
        have e1 := mrgH_len (more.take x) xs
        have e2 : (more.take x).length ≤ more.length := by rw [List.length_take]; omega
        omega
      refine wpAny_bind (wpAny_holding (setHashedT (s := { s with heap := h' }) hu hk hd' (fun h'' hd'' hs'' => ?_) hmx))
      have hoo'' : h''.get? o = some oo := (hs''.2 o (Ne.symm hdo)).trans hoo'
      refine wpAny_bind (wpAny_dictEpoch hoo'' hdo' ?_)
      rw [if_neg (by simp)]
      exact wpAny_pure ⟨h'', x + 1, rfl, hrest, hlt, by rw [mrgH_take hm]; exact hd'', hoo'', hs'.trans hs''⟩
    · rintro b s' ⟨h', i, rfl, hr, hi, hd', hoo', hs'⟩
      have hin : i = eso.size := by
        rcases Nat.lt_or_ge i eso.size with h | h
        · have e : eso.size - i = (eso.size - (i + 1)) + 1 := by omega
          rw [e, List.range'_succ] at hr; exact nomatch hr
        · exact Nat.le_antisymm hi h
      refine wpAny_pure (hQ h' ?_ hs')
      rw [hin, hlen, List.take_length] at hd'
      exact hd'
  dsimp only
  split
  · refine wpAny_bind (wpAny_dictEntries hod hdd ?_)
    rw [if_neg (by rw [hne]; exact Bool.false_ne_true)]
    exact loop
  · exact loop
/-- d.update(e): d not empty -/
theorem meetsUpdT (d o : Addr) (hdo : d ≠ o) (hoS : (o == sysModules) = false) :
    MeetsIn P w (Builtin.«dict.update» ⟨[.ref d, .ref o], []⟩) (fun A R s => A.units + 1 < cLine ∧ ∃ xs more, xs ≠ [] ∧ s.heap.DictOfH (tupleKind (mixKind P w)) d xs ∧ s.heap.DictOfH (tupleKind (mixKind P w)) o more ∧ xs.length + more.length ≤ sizeLine ∧
      ∀ h', h'.DictOfH (tupleKind (mixKind P w)) d (mrgH xs more) → Heap.SameBut d s.heap h' → R (.ok (.ret .none)) { s with heap := h' }) :=
  .of_wp fun A R s ⟨hu, xs, more, hx, hd, ho, hsz, h⟩ => by
    unfold Builtin.«dict.update»
    refine wpAny_bind ?_
    unfold Builtin.Dict.selfAndRest
    refine wpAny_bind (wpAny_notOrdered_dict hd.typeIs ?_)
    show wpAny _ _ (pure (d, [Value.ref o])) _ _ s
    refine wpAny_pure ?_
    show wpAny _ _ (Builtin.Dict.updateFrom "dict.update" d (.ref o) [] .none) _ _ s
    unfold Builtin.Dict.updateFrom
    refine wpAny_bind (wpAny_typeOf ho.typeIs ?_)
    rw [if_neg (by decide)]
    refine wpAny_bind ?_
    unfold Builtin.Dict.merge
    refine wpAny_bind ?_
    · unfold Builtin.Dict.readDirectly
      refine wpAny_bind (wpAny_isInstance ho.typeIs isSubtype_dict_dict ?_)
      simp only [Bool.not_true, Bool.false_eq_true, if_false]
      refine wpAny_bind (wpAny_specialOf ho.typeIs F.slot_dict_iter.lookup (wpAny_pure ?_))
      simp only [beq_self_eq_true, if_true]
      refine wpAny_bind (wpAny_pure ?_)
      refine mergeDictT (by first | exact hu | omega) hdo hoS hx hd ho (fun h' hd' hs' => ?_) hsz
      show wpAny _ _ (Builtin.Dict.addKeywords d [] >>= _) _ _ _
      exact wpAny_bind (wpAny_pure (wpAny_pure ⟨.none, rfl, h h' hd' hs'⟩))
end
section
variable {X : Cx}
def rUpdT : V → List V → Hp → VK → Prop := fun x xs H Q => ∃ (a b : Addr) (kvs more : List (List Key × V)), x = .ref a ∧ xs = [.ref b] ∧ a ≠ b ∧ kvs ≠ [] ∧ H a = some (.dT kvs) ∧ H b = some (.dT more) ∧ kvs.length + more.length ≤ sizeLine ∧ Q .non (upd H a (.dT (mergeT kvs more)))
theorem mt_updT (hu : X.A.units + 64 < cLine) : MtR X "dict.update" rUpdT := by
  intro pins s σ H x xs v us Q I rx rxs h
  obtain ⟨a, b, kvs, more, rfl, rfl, hab, hne, ha, hb, hz, q⟩ := h
  cases rx
  obtain ⟨u, rfl, r1⟩ := vals1 rxs
  cases r1
  obtain ⟨z, hd, xs', rel, dd⟩ := dt_of I.hok ha
  obtain ⟨z2, hd2, ys, rel2, dd2⟩ := dt_of I.hok hb
  have e1 : kvs.length = xs'.length := Paired.length rel
  have e2 : more.length = ys.length := Paired.length rel2
  refine call_meetsIn PySem.F.slot_dict_update dd.typeIs PySem.F.entry_dict_update (PySem.F.args_dict_update_2 _ _) (meetsUpdT a b hab hd2)
    ⟨by omega, xs', ys, fun e => hne (List.length_eq_zero_iff.mp (by rw [e1, e]; rfl)), dd, dd2, by omega, fun h' dd' hs => ?_⟩
  obtain ⟨o, es, ep, hq, h2, h3, h4, _, h5⟩ := dd'
  have I2 : Inv X pins σ (upd H a (.dT (mergeT kvs more))) { s with heap := h', toks := s.toks } :=
    d_write I (by rw [ha]; exact True.intro) hs ⟨o, hq⟩ ⟨Nat.le_trans (length_mergeT more kvs) hz, hd, _, (mergeT_rel rel2 rel).keeps (fun c ys ec => (by rw [upd_ne (ne_of ec ha (fun z => nomatch z))]; exact ec)), o, es, ep, hq, h2, h3, h4, h5⟩
  exact ⟨.non, _, I2, rfl, q⟩
def tUpdT (to : TE) (t : TA) : TE := fun σ H Q => to σ H fun x H1 => (∃ a, x = V.ref a ∧ IsD H1 a) ∧ t σ H1 fun xs H2 => rUpdT x xs H2 Q
variable {o e : Expr} {to : TE} {t : TA} {apos cpos : Pos}
theorem pe_updT (hu : X.A.units + 64 < cLine) (ho : PE X o to) (ha : PA X [e] t)
    (hbase : attributeBase o "update" X.env (eval o X.env) = eval o X.env := by rfl)
    (hfew : ((backTo cpos (starEach [e] X.env)).all (fun x => !x.1) && (backToKw cpos (keywordEach [] X.env)).all (fun x => x.1.isSome)
      && decide (([e] : List Expr).length + ([] : List Keyword).length + (if ([] : List Keyword).isEmpty then 0 else 1) < 30)) = true := by rfl)
    (hline : (apos.endLine == cpos.line) = true := by rfl) (hs : starEach [e] X.env = (false, eval e X.env) :: starEach [] X.env := by rfl) :
    PE X (.Call (.Attribute o "update" apos) [e] [] cpos) (tUpdT to t) := by
  refine ⟨fun pins s σ H Q I h => wpAny_Call_method_late hbase hfew hline rfl (thn (ho.run pins s σ H _ I h) fun v s1 ⟨x, H1, I1, r1, ty, q1⟩ => ?_)⟩
  obtain ⟨a, rfl, hka⟩ := ty
  obtain ⟨t1, t2, _⟩ := isD_at I1 hka
  cases r1
  refine ⟨"dict", "dict.update", PySem.F.plainAttrs_dict, PySem.F.slot_dict_update, PySem.F.type_dict_update, t1, t2, ?_⟩
  have hA := ha.run cpos pins s1 σ H1 _ I1 q1
  rw [hs] at hA ⊢
  refine Calls.callWith_builtin rfl (Calls.evalArgs_plain ?_)
  exact thn hA fun us s2 ⟨vs, H2, I2, r2, q2⟩ => mt_updT hu pins s2 σ H2 (.ref a) vs (.ref a) us Q I2 rfl r2 q2
end
end Cs

/-! Db: sorted(list of tuples of ints, all of one length), any number of them. -/
namespace Cs
open PySem PySem.Spec PyProof.Rows L2
section
variable {prog : Program} {w : World} {A : Around} {E : Value → Shared → Prop} {s : Shared}
theorem swo_key (k : Value → Int) : SrtO.Swo fun v u => decide (k v < k u) := by
  refine ⟨fun x y h => ?_, fun x y z h1 h2 => ?_⟩
  · have a := of_decide_eq_true h
    exact decide_eq_false (by omega)
  · have a := of_decide_eq_false h1
    have b := of_decide_eq_false h2
    exact decide_eq_false (by omega)
theorem swo_keyV (k : V → Int) : SrtO.Swo fun v u => decide (k v < k u) := by
  refine ⟨fun x y h => ?_, fun x y z h1 h2 => ?_⟩
  · have a := of_decide_eq_true h
    exact decide_eq_false (by omega)
  · have a := of_decide_eq_false h1
    have b := of_decide_eq_false h2
    exact decide_eq_false (by omega)
theorem tups_cmp {d : Nat} {B : Int} {vs : List Value} {k : Value → Int} (hp : ∀ v ∈ vs, ∃ ns, TS.TupInts s.heap v ns ∧ ns.length = d ∧ TS.Bd B ns ∧ k v = TS.code B ns) : SrtO.Cmp prog w A s (tuples' true) (fun p => p.1 ∈ vs) (SrtO.lt2 fun v u => decide (k v < k u)) := by
  intro p q hm hm'
  obtain ⟨ns, tp, lp, bp, kp⟩ := hp _ hm
  obtain ⟨ms, tq, lq, bq, kq⟩ := hp _ hm'
  show wpAny (model prog w) A (keyLt' (tuples' true) p.1 q.1) (fun r s' => s' = s ∧ r = decide (k p.1 < k q.1)) (fun _ _ => False) s
  rw [kp, kq]
  obtain ⟨a, xs, e1, ⟨o, ho, hc, n, hdt⟩, i⟩ := tp
  obtain ⟨a', ys, e2, ⟨o', ho', hc', n', hdt'⟩, i'⟩ := tq
  rw [e1, e2]
  refine PySem.W.kat_lt ho hdt ho' hdt' ?_
  have sz : decide (xs.size < ys.size) = false := by
    have l1 := i.length
    have l2 := i'.length
    rw [Array.length_toList] at l1 l2
    exact decide_eq_false (by omega)
  rw [sz]
  exact TS.lex_ints 0 i i' (by omega) bp bq ⟨rfl, rfl⟩
theorem tups_sortable {a : Addr} {d : Nat} {B : Int} {vs : List Value} {k : Value → Int} (hd : 1 ≤ d) (h0 : 0 < vs.length) (hp : ∀ v ∈ vs, ∃ ns, TS.TupInts s.heap v ns ∧ ns.length = d ∧ TS.Bd B ns ∧ k v = TS.code B ns) (ha : ∀ o, s.heap.get? a = some o → o.cls ≠ .type "tuple") :
    SrtO.SortableO prog w A s a vs fun v u => decide (k v < k u) := by
  intro h' keep
  have hp' : ∀ v ∈ vs, ∃ ns, TS.TupInts h' v ns ∧ ns.length = d ∧ TS.Bd B ns ∧ k v = TS.code B ns := fun v hm => by
    obtain ⟨ns, t, r⟩ := hp v hm
    exact ⟨ns, t.keeps fun b o e c => keep b o (fun z => by subst z; exact ha o e c) e, r⟩
  obtain ⟨fs, h1, h2, h3⟩ := TS.firsts_of (B := B) hd vs fun v hv => by
    obtain ⟨ns, t, l, b, _⟩ := hp' v hv
    exact ⟨ns, t, l, b⟩
  refine ⟨tuples' true, fun Q E hq => ?_, tups_cmp hp'⟩
  refine PySem.W.kat_kind (T := .type "int") h1 (by omega) (fun f hm => ?_) (by rfl) ?_
  · obtain ⟨x, t, rfl⟩ := h3 f hm
    exact PySem.W.Looks.now
  · have e : (Value.type "int" != Value.type "tuple") = true := by first | decide +kernel | rfl | decide
    rw [e]
    exact hq
/-- sorted(l) of tuples of ints, any number of them -/
theorem sorted_tupsO {l : Addr} {d : Nat} {B : Int} {vs : List Value} {k : Value → Int} {Q : Value → Shared → Prop} (hd : 1 ≤ d) (hl : s.heap.IsList l vs.toArray) (hz : vs.length ≤ sizeLine) (hp : ∀ v ∈ vs, ∃ ns, TS.TupInts s.heap v ns ∧ ns.length = d ∧ TS.Bd B ns ∧ k v = TS.code B ns)
    (h : ∀ (h' : Heap) (d : Addr) (out : List Value), SrtO.Srtd (fun v u => decide (k v < k u)) out → SrtO.Stb (fun v u => decide (k v < k u)) out vs → (∀ b o, s.heap.get? b = some o → h'.get? b = some o) → s.heap.objs.size ≤ d → (∃ n, h'.get? d = some (seqObj "list" out.toArray n)) → Q (.ref d) { s with heap := h' }) :
    wpAny (model prog w) A (call (.builtin "sorted") [.ref l]) Q E s := by
  refine SrtO.sorted_ord (swo_key k) hl hz (fun h2 h₁ a ha kk => ?_) fun out hs hb => ?_
  · refine tups_sortable (B := B) (s := { s with heap := h₁ }) hd (by omega) (fun v hm => ?_) fun o e => ?_
    · obtain ⟨ns, t, r⟩ := hp v hm
      exact ⟨ns, t.keeps fun b o e _ => (kk b o e).2, r⟩
    · have e' : some o = some (seqObj "list" vs.toArray 0) := e.symm.trans ha
      cases e'
      intro c
      exact absurd (Value.type.inj c) (by decide)
  · exact h _ _ out hs hb (fun b o e => sortedAll_old e) (Nat.le_succ _) (sortedAll_at s.heap vs out.toArray)
end
def intV : V → Int
  | .int i => i
  | _ => 0
theorem intV_map (ns : List Int) : (ns.map V.int).map intV = ns := by
  rw [List.map_map]
  exact Eq.trans (List.map_congr_left fun _ _ => rfl) (List.map_id _)
/-- the code of the tuple that a value stands for -/
def keyT (H : Hp) : V → Int
  | .ref t => match H t with
    | some (.tup xs) => TS.code (2 ^ 1000) (xs.map intV)
    | _ => 0
  | _ => 0
theorem keyT_at {H : Hp} {t : Addr} {ns : List Int} (h : H t = some (.tup (ns.map V.int))) : keyT H (.ref t) = TS.code (2 ^ 1000) ns := by
  show (match H t with | some (.tup xs) => TS.code (2 ^ 1000) (xs.map intV) | _ => 0) = _
  rw [h]
  show TS.code (2 ^ 1000) ((ns.map V.int).map intV) = _
  rw [intV_map]
/-- sorted(list of tuples of ints, all of one length), any number of them -/
def rSortTL : List V → Hp → VK → Prop := fun vs H Q => ∃ (l : Addr) (as : List Addr) (gs : List (List Int)) (d : Nat), vs = [.ref l] ∧ H l = some (.lst (as.map V.ref)) ∧ AsT H as gs ∧ 1 ≤ d ∧ (∀ g ∈ gs, g.length = d ∧ TS.Bd (2 ^ 1000) g) ∧
  ∀ p bs hs, H p = none → AsT H bs hs → hs.Perm gs → SrtT hs → Q (.ref p) (upd H p (.lst (bs.map V.ref)))
theorem cr_sortTL {X : Cx} : CallR X (.builtin "sorted") rSortTL := by
  intro pins s σ H vs us Q I r h
  obtain ⟨l, as, gs, d, rfl, hl, hA, d1, hb, q⟩ := h
  have hs : SqL X.K H l (as.map V.ref) := .inl (.inl hl)
  obtain ⟨its, rv, hl2, hz⟩ := I.list hs
  obtain ⟨u, rfl, ru⟩ := vals1 r
  obtain rfl : u = Value.ref l := ru
  have hin : ∀ x ∈ as.map V.ref, ∃ (t : Addr) (g : List Int), x = V.ref t ∧ H t = some (.tup (g.map V.int)) ∧ g.length = d ∧ TS.Bd (2 ^ 1000) g := fun x hx => by
    obtain ⟨t, ht, rfl⟩ := List.mem_map.mp hx
    obtain ⟨i, hi, e⟩ := List.getElem_of_mem ht
    have hi2 : i < gs.length := by rw [← hA.1]; exact hi
    have hg := List.getElem_mem hi2
    exact ⟨t, gs[i], rfl, hA.2 i t _ (by rw [List.getElem?_eq_getElem hi, e]) (List.getElem?_eq_getElem hi2), (hb _ hg).1, (hb _ hg).2⟩
  obtain ⟨e1, e2⟩ := refs_back rv fun x m => by
    obtain ⟨t, g, e, _⟩ := hin x m
    exact ⟨t, e⟩
  refine sorted_tupsO (d := d) (B := 2 ^ 1000) (k := fun u => keyT H (backV u)) d1 hl2.isList (by rw [← rv.length]; exact hz) (fun v hv => ?_) fun h' dd out h1 h2 kp hd hn => ?_
  · obtain ⟨t, rfl⟩ := e2 v hv
    have hm : V.ref t ∈ as.map V.ref := by rw [e1]; exact List.mem_map.mpr ⟨_, hv, rfl⟩
    obtain ⟨t', g, e, ht, hgl, hgb⟩ := hin _ hm
    cases e
    obtain ⟨_, its2, r2, ht2⟩ := I.hok _ _ ht
    refine ⟨g, ⟨t, its2.toArray, rfl, ?_, ?_⟩, hgl, hgb, keyT_at ht⟩
    · exact ht2
    · exact r2.ints
  · have h3 : ∀ u ∈ out, ∃ a, u = Value.ref a := fun u hu => e2 u (h2.perm.mem_iff.mp hu)
    obtain ⟨n, hn⟩ := hn
    have hb2 : SrtO.Stb (fun v u => decide (keyT H v < keyT H u)) (out.map backV) (as.map V.ref) := by
      rw [e1]
      exact SrtO.Stb.map (swo_keyV (keyT H)) backV h2
    have hsr := SrtO.srtd_map (lt := fun v u => decide (keyT H v < keyT H u)) (f := backV) h1
    have hzl : (as.zip gs).map (·.2) = gs := List.map_snd_zip (by rw [hA.1]; exact Nat.le_refl _)
    obtain ⟨zs, hzp, ez⟩ := perm_lift (f := fun p : Addr × List Int => V.ref p.1) hb2.perm (as.zip gs) (zip_refs hA.1)
    have hzat : ∀ z ∈ zs, H z.1 = some (.tup (z.2.map V.int)) := fun z hz2 => zip_at hA z (hzp.mem_iff.mp hz2)
    have q' := q dd (zs.map (·.1)) (zs.map (·.2)) (I.hok.fresh hd) ⟨by simp, fun i t g h1 h2 => ?_⟩ ?_ ?_
    · rw [List.map_map] at q'
      have ez' : zs.map (V.ref ∘ fun p : Addr × List Int => p.1) = out.map backV := ez
      rw [ez'] at q'
      refine ⟨.ref dd, upd H dd (.lst (out.map backV)), I.laid (t' := s.toks) kp hd ⟨?_, out, n, vals_back h3, hn⟩, rfl, q'⟩
      rw [hb2.len]
      exact hz
    · simp only [List.getElem?_map, Option.map_eq_some_iff] at h1 h2
      obtain ⟨z, hz1, rfl⟩ := h1
      obtain ⟨z', hz2, rfl⟩ := h2
      rw [hz1] at hz2
      obtain rfl := Option.some.inj hz2
      exact hzat z (List.mem_of_getElem? hz1)
    · have := hzp.map (·.2)
      rw [hzl] at this
      exact this
    · rw [← ez] at hsr
      unfold SrtT
      rw [List.pairwise_map]
      have hsr2 := List.pairwise_map.mp hsr
      refine List.Pairwise.imp_of_mem (fun {a b} ha hb h => ?_) hsr2
      have h := of_decide_eq_false h
      rw [keyT_at (hzat a ha), keyT_at (hzat b hb)] at h
      omega
end Cs

/-! Dc: l.pop(i) within a comprehension. -/
namespace Cs
open PySem PySem.Spec PyProof.Rows L2
/-- l.pop(i), l tracked -/
def tPopI (to : TE) (t : TA) : TE := fun σ H Q => to σ H fun x H1 => ∃ p, x = .ref p ∧ (∃ ys, H1 p = some (.lst ys)) ∧ t σ H1 fun vs H2 => rPopAt (.ref p) vs H2 Q
theorem pe_popI {X : Cx} {o e : Expr} {to : TE} {t : TA} {apos cpos : Pos} (ho : PE X o to) (ha : PA X [e] t)
    (hbase : attributeBase o "pop" X.env (eval o X.env) = eval o X.env := by rfl)
    (hfew : ((backTo cpos (starEach [e] X.env)).all (fun x => !x.1) && (backToKw cpos (keywordEach [] X.env)).all (fun x => x.1.isSome)
      && decide (([e] : List Expr).length + ([] : List Keyword).length + (if ([] : List Keyword).isEmpty then 0 else 1) < 30)) = true := by rfl)
    (hline : (apos.endLine == cpos.line) = true := by rfl) (hs : starEach [e] X.env = (false, eval e X.env) :: starEach [] X.env := by rfl) :
    PE X (.Call (.Attribute o "pop" apos) [e] [] cpos) (tPopI to t) := by
  refine ⟨fun pins s σ H Q I h => ?_⟩
  refine wpAny_Call_method_late hbase hfew hline rfl (thn (ho.run pins s σ H _ I h) fun v s1 ⟨x, H1, I1, r1, p, ex, ⟨ys, hp⟩, q1⟩ => ?_)
  subst ex
  have ty : tyV X.K "list" (.ref p) H1 := .inl ⟨rfl, ys, .inl (.inl hp)⟩
  obtain ⟨h1, h2⟩ := tyV_is I1 r1 ty
  refine ⟨"list", _, PySem.F.plainAttrs_list, PySem.F.slot_list_pop, PySem.F.type_list_pop, h1, h2, ?_⟩
  have hA := ha.run cpos pins s1 σ H1 _ I1 q1
  rw [hs] at hA ⊢
  refine Calls.callWith_builtin (by rfl) (Calls.evalArgs_plain ?_)
  exact thn hA fun us s2 ⟨vs, H2, I2, r2, q2⟩ => mt_popAt pins s2 σ H2 (.ref p) vs v us Q I2 r1 r2 q2
end Cs

/-! Co: the head with facts by names and by tests of one's own, nothing written out; the law's end over it. -/
namespace Cs
open PySem PySem.Spec PyProof.Rows L2 He
/-- facts fa, tests xs, defs fn, read off a part of the heap -/
def obsM (fa : List Fa) (xs : List (PySem.W.Frag → Bool)) (fn : List FnD) (K : PySem.W.Frag) : Al := (((fa.all fun f => f.ok K) && xs.all fun f => f K) && fn.all fun d => (Fa.code d.at_ d.qual).ok K, fn.map fun d => fnObs K d.at_)
def SaysM (fa : List Fa) (xs : List (PySem.W.Frag → Bool)) (fn : List FnD) (K : PySem.W.Frag) : Prop := obsM fa xs fn K = valE fn
def refsC (o : Obj) : List Addr := match o.data with
  | .cls cd => [cd.ns]
  | _ => []
def codeC (o : Obj) : List Addr := match o.data with
  | .func fd => refV fd.code
  | _ => []
def atG {α : Type} (g : Addr → Option Obj) (f : Obj → List α) (a : Addr) : List α := match g a with
  | some o => f o
  | none => []
/-- the names' objects, the dicts of the classes cs, what stands in them, the codes of all these -/
def asX (g : Addr → Option Obj) (cs : List Str) : List Addr :=
  (fun as1 ns => (fun fs => mainGlobals :: (as1 ++ (ns ++ (fs ++ (as1 ++ fs).flatMap (atG g codeC))))) (ns.flatMap (atG g refsO)))
    (atG g refsO mainGlobals) (cs.flatMap fun x => atG g refsC (ga (frG g [mainGlobals]) x))
def obsMG (n : List Str) (fa : List Fa) (xs : List (PySem.W.Frag → Bool)) (fn : List FnD) (g : Addr → Option Obj) : Al := obsM fa xs fn (frG g (asX g n))
def hookM (n : List Str) (fa : List Fa) (xs : List (PySem.W.Frag → Bool)) (fn : List FnD) : PySem.W.Hook where
  α := Al
  obs := fun s => obsMG n fa xs fn s.heap.get?
  val := fun _ => valE fn
  says := fun _ h => ∃ K : PySem.W.Frag, K.In h ∧ SaysM fa xs fn K
  of := fun _ _ e => ⟨_, frG_in, e⟩
  keeps := fun _ _ _ ⟨K, hK, c⟩ k => ⟨K, PySem.W.Frag.In.keeps hK k, c⟩
theorem obsMG_eq {n : List Str} {fa : List Fa} {xs : List (PySem.W.Frag → Bool)} {fn : List FnD} {g : Addr → Option Obj} {s : Shared} (h : ∀ a, g a = s.heap.get? a) : obsMG n fa xs fn g = (hookM n fa xs fn).obs s := by
  have e : g = s.heap.get? := funext h
  rw [e] <;> rfl
section
variable {fa : List Fa} {xs : List (PySem.W.Frag → Bool)} {fn : List FnD} {K : PySem.W.Frag}
theorem SaysM.all (c : SaysM fa xs fn K) : (((fa.all fun f => f.ok K) && xs.all fun f => f K) && fn.all fun d => (Fa.code d.at_ d.qual).ok K) = true := congrArg (fun z : Al => z.1) c
theorem SaysM.fact (c : SaysM fa xs fn K) (i : Nat) {f : Fa} (h : fa[i]? = some f := by rfl) : f.ok K = true :=
  List.all_eq_true.mp (ba (ba c.all).1).1 f (List.mem_of_getElem? h)
theorem SaysM.test (c : SaysM fa xs fn K) (i : Nat) {f : PySem.W.Frag → Bool} (h : xs[i]? = some f := by rfl) : f K = true :=
  List.all_eq_true.mp (ba (ba c.all).1).2 f (List.mem_of_getElem? h)
theorem SaysM.def_ (c : SaysM fa xs fn K) (i : Nat) {d : FnD} (h : fn[i]? = some d := by rfl) :
    ∃ oc od osl kV doc pm an cdv ct, K.lookup (fAd K d.at_) = some ⟨oc, od, .func (PySem.W.fnOf d.name d.qual d.params d.body d.scope .none kV doc pm an cdv ct), osl⟩ ∧ PySem.W.codeIn K cdv d.qual = true := by
  have e : fn.map (fun d => fnObs K d.at_) = fn.map FnD.val := congrArg (fun z : Al => z.2) c
  have e2 : (fn.map fun d => fnObs K d.at_)[i]? = (fn.map FnD.val)[i]? := by rw [e]
  rw [List.getElem?_map, List.getElem?_map, h] at e2
  exact fn_ok (Option.some.inj e2) (List.all_eq_true.mp (ba c.all).2 d (List.mem_of_getElem? h))
end
theorem keep_of {K : PySem.W.Frag} {x : Str} (c : (Fa.keep x).ok K = true) : PySem.W.keepIn K (.ref (fAd K (x, none))) = true := c
theorem glo_of {K : PySem.W.Frag} {x : Str} (c : (Fa.glo x).ok K = true) : PySem.W.nsIn K mainGlobals x = some (some (.ref (ga K x))) := eqO_ok c
theorem free_of {K : PySem.W.Frag} {x : Str} (c : (Fa.free x).ok K = true) : PySem.W.nsIn K mainGlobals x = some none := eqO_ok c
theorem int_of {K : PySem.W.Frag} {x : Str} {i : Int} (c : (Fa.int x i).ok K = true) : ∃ v, PySem.W.nsIn K mainGlobals x = some (some v) ∧ RelV (.int i) v := by
  have c2 : (match PySem.W.nsIn K mainGlobals x with
    | some (some (.int j _)) => decide (j = i)
    | _ => false) = true := c
  cases e : PySem.W.nsIn K mainGlobals x with
  | none => rw [e] at c2; cases c2
  | some o =>
    rw [e] at c2
    cases o with
    | none => cases c2
    | some v =>
      cases v with
      | int j t =>
        have ej : j = i := of_decide_eq_true c2
        rw [ej] at e ⊢
        exact ⟨_, rfl, t, rfl⟩
      | _ => cases c2
/-- the law's end over facts, the script's ints bounded -/
theorem walk_ofBE {l : PySem.W.OpenLaw} {n k : Nat} {q : Program} {loose : List Str} {XP : (Str → Option Value) → Heap → Prop} {YP : World → Heap → Prop} {d : DefRec} {CX : CXT} {x : Str}
    (hn : l.most = some n) (hn2 : n ≤ sizeLine) (hdf : d.params.defaults = []) (hr : Room k callerA)
    (F : ∀ (w : World) (mg : Str → Option Value) (fa : Addr) (h : Heap), YP w h → h.Ns mainGlobals mg → mg d.name = some (.ref fa) →
      ∃ (K : PySem.W.Frag) (fd : FuncData) (sp : Sp), K.In h ∧ (∀ (s : Shared) (u : Value), BindsTo s fd ⟨[u], []⟩ [(x, u)]) ∧
        (∀ (H : Hp) (a : Addr) (ns : List Int), ns.length ≤ n → (∀ z ∈ ns, Builtin.Int.intBits z ≤ 1048576) → Only H → SqL K H a (ns.map V.int) → sp [.ref a] H (fun v _ => v = .bl true) fun _ _ _ => False) ∧
        ∀ base : Heap, K.In base → base.Ns mainGlobals mg → FnOk l.prog w K mg base CX k fa fd [x] sp)
    (hCX : ∀ (H : Hp) (s : Shared) (e : Value) (s' : Shared), CX [] H s (fun _ _ _ => False) e s' → False) :
    PySem.W.WalkO q loose XP YP l.row.toRowW d [] (fun f vs => PySem.call f vs) := by
  refine Att.attach_callB hn hdf fun w s₀ s₁ mg mb fa o pm cd doc a vs ns G Y ho hd hcd hmg hobj hints hlen hbits hg => ?_
  obtain ⟨K, fd, sp, KX, hb, hsp, hF⟩ := F w mg fa _ Y G.T.g hmg
  exact law_call KX G.T.g G.T.b G.T.builtins G.T.nolimit hg hobj hints (Nat.le_trans hlen hn2) hr hF hb (fun H hO hS => hsp H a ns hlen hbits hO hS) fun H e s' => hCX H s₁ e s'
end Cs

/-! Cj: own exceptions over an own base: its __init__ by the base's name; clauses of a try one by one, with or without 'as'. -/
namespace Cs
open PySem PySem.Spec PyProof.Rows L2

/-! ### Base.__init__(self, ..), Base an own class over ValueError -/
/-- what the text has of such a base -/
structure BaseI (K : PySem.W.Frag) (B : Addr) : Prop where
  ga : PySem.W.specialIn K (.ref B) "__getattribute__" = some (some (.builtin "type.__getattribute__"))
  rd : PySem.W.readsIn K B (.type "type") = true
  at_ : PySem.W.findCls K (.ref B) (.type "type") "__init__" = some (.val (.builtin "ValueError.__init__"))
section
variable {X : Cx} {e : Expr} {es : List Expr} {ta : TA} {n : Str} {B : Addr} {p1 p2 pos : Pos}
theorem pe_baseinit {pl : Sem Bool} (T : BaseI X.K B) (hg : Gl X n) (hm : X.mg n = some (.ref B)) (ha : PA X (e :: es) ta)
    (hc : eval (.Call (.Attribute (.Name n p1) "__init__" p2) (e :: es) [] pos) X.env = (do
      let ov ← eval (.Name n p1) X.env
      standAt p2.atName
      let (f, first) ← holding [ov] (getMethod ov "__init__" pl)
      callWith pos f first (backTo pos (starEach (e :: es) X.env)) (backToKw pos (keywordEach [] X.env))) := by rfl)
    (hdb : (n == ("__debug__" : Str)) = false := by decide)
    (he : starEach (e :: es) X.env = (false, eval e X.env) :: starEach es X.env := by rfl) (hpl : (backTo pos (starEach es X.env)).any (·.1) = false := by rfl) :
    PE X (.Call (.Attribute (.Name n p1) "__init__" p2) (e :: es) [] pos) (tVeI X.K ta) := by
  refine ⟨fun pins s σ H Q I h => ?_⟩
  refine PySem.W.methodCall_KW (ld_glob I hg hm ?_ hdb) hc
  refine PySem.W.method_cls I.kIn T.ga (PySem.W.cls_value I.kIn T.rd T.at_ (by decide +kernel) ?_)
  show wpAny _ _ (callWith pos (Value.builtin "ValueError.__init__") [] (backTo pos (starEach (e :: es) X.env)) []) _ _ _
  refine PyProof.Rows.callWith_method1 (thn (ha.run pos pins _ σ H _ (I.tok _) h) fun us s1 ⟨vs, H1, I1, r1, q0⟩ => ?_) he hpl
  obtain ⟨a, C, ws, ev, hl, T1, ea, q⟩ := q0
  subst ev
  cases r1 with
  | @cons _ u0 _ ur ra rw' =>
    obtain rfl : u0 = Value.ref a := ra
    have hlen : ur.length ≤ sizeLine := by
      rw [← Paired.length rw', sizeLine_eq]
      omega
    exact oinit_ok T1 I1 ea hlen fun s' J => ⟨.non, H1, J, rfl, q⟩
end

/-! ### the clauses of a try, one by one -/
/-- a caught exception, before a clause is asked -/
def Got (X : Cx) (pins : List (Addr × Obj)) (a : Addr) (cls : Value) (d : Option Addr) (σ : L2.St) (H : Hp) (s : Shared) : Prop :=
  ∃ (B : Heap) (sI : Shared), Inv X pins σ H sI ∧ (∀ b o, sI.heap.get? b = some o → b ∉ frs X.stack → B.get? b = some o) ∧ sI.heap.UpToSlots s.heap ∧
    HandSPX.FlyingZ B X.stack a (Zc cls d) s.heap ∧ s.os = sI.os ∧ AllBare s.gens ∧ H a = none
/-- what the clauses hds do with what W wishes -/
def Hdl (X : Cx) (hds : List ExceptHandler) (W : Ends → WX) : Prop :=
  ∀ (pins : List (Addr × Obj)) (a : Addr) (cls : Value) (d : Option Addr) (σ : L2.St) (H : Hp) (s : Shared) (D : Ends), Got X pins a cls d σ H s → W D cls d σ H →
    wpAny (model X.prog X.w) X.A (handleBy (.ref a) X.env hds) (SP X pins D) X.xe s
/-- except c: ts -/
def wAny (K : PySem.W.Frag) (c : Value) (ts : Addr → Value → Option Addr → TS) (W : Ends → WX) : Ends → WX := fun D cls d σ H =>
  ∃ b, PySem.W.exmOne K cls c = some b ∧ (b = true → ∀ a, H a = none → ts a cls d D σ H) ∧ (b = false → W D cls d σ H)
/-- the ends of a suite behind which slot i is empty -/
def endsAs (i : Nat) (D : Ends) : Ends := { nx := fun σ' H' => D.nx (σ'.set i none) H', rt := D.rt, bk := fun σ' H' => D.bk (σ'.set i none) H', ct := fun σ' H' => D.ct (σ'.set i none) H' }
/-- except c as (slot i): ts -/
def wNam (K : PySem.W.Frag) (c : Value) (i : Nat) (ts : Addr → Value → Option Addr → TS) (W : Ends → WX) : Ends → WX := fun D cls d σ H =>
  ∃ b, PySem.W.exmOne K cls c = some b ∧ (b = true → ∀ a, H a = none → ts a cls d (endsAs i D) (σ.set i (some (.ref a))) H) ∧ (b = false → W D cls d σ H)
section
variable {X : Cx} {pins : List (Addr × Obj)} {a : Addr} {cls : Value} {d : Option Addr} {σ : L2.St} {H : Hp} {s : Shared} {D : Ends}
theorem Got.on {h' : Heap} {B : Heap} {sI : Shared} (I : Inv X pins σ H sI) (nb : ∀ b o, sI.heap.get? b = some o → b ∉ frs X.stack → B.get? b = some o) (up : sI.heap.UpToSlots h')
    (fl : HandSPX.FlyingZ B X.stack a (Zc cls d) h') (os : s.os = sI.os) (ag : AllBare s.gens) (na : H a = none) : Got X pins a cls d σ H { s with heap := h' } := ⟨B, sI, I, nb, up, fl, os, ag, na⟩
/-- a suite's context at such a point -/
theorem Got.suite (hs : X.stack = X.env :: X.outer) (hf : X.env.frame = some X.env.locals) (g : Got X pins a cls d σ H s) :
    ∃ oe vs, s.heap.get? a = some oe ∧ Zc cls d oe ∧ oe.data = .fields vs ∧ Inv X pins σ H s ∧ Inv (X.suite a ((a, oe) :: (X.pn ++ pins))) [] σ H s := by
  obtain ⟨B, sI, I, nb, up, fl, os, ag, na⟩ := g
  have J : Inv X pins σ H { s with heap := s.heap } := I.landed nb fl.1 up os ag
  obtain ⟨oe, vs, he, hz, hd⟩ := fl.there
  have out : a ∉ frs X.stack := fun m => by
    obtain ⟨_, o', e', no⟩ := fl.2.2.1.mem m
    rw [he] at e'
    cases e'
    exact no _ hd
  rw [hs] at out
  have nL : a ≠ X.env.locals := fun z => out (List.mem_filterMap.mpr ⟨X.env, List.mem_cons_self, by rw [hf, z]⟩)
  have nF : a ∉ X.fs := fun m => by
    obtain ⟨v, hv, q⟩ := List.mem_filterMap.mp m
    exact out (List.mem_filterMap.mpr ⟨v, List.mem_cons_of_mem _ hv, q⟩)
  exact ⟨oe, vs, he, hz, hd, J, J.suite he hd na nL nF⟩
/-- the exception's flight is ended once more -/
theorem Got.again {Q : Unit → Shared → Prop} {M : Model} {A : Around} {E : Value → Shared → Prop} (g : Got X pins a cls d σ H s) (h : ∀ h', Got X pins a cls d σ H { s with heap := h' } → Q () { s with heap := h' }) :
    wpAny M A (setFlight (.ref a) none) Q E s := by
  obtain ⟨B, sI, I, nb, up, fl, os, ag, na⟩ := g
  exact HandSPX.lands_againZ fl fun h4 fl4 up4 => h h4 ⟨B, sI, I, nb, up.trans up4, fl4, os, ag, na⟩
/-- a clause's test -/
theorem Got.test {x : Str} {c : Value} {np : Pos} {E : Value → Shared → Prop} {Q : Value → Shared → Prop} (hs : X.stack = X.env :: X.outer) (hf : X.env.frame = some X.env.locals) (g : Got X pins a cls d σ H s) (hc : Names X x c) (q : Q c s) :
    wpAny (model X.prog X.w) (X.A.mark (some (.ref a))) (eval (.Name x np) X.env) Q E s := by
  obtain ⟨oe, vs, he, hz, hd, J, S⟩ := g.suite hs hf
  obtain ⟨hg, hdbg, hm | ⟨hm, hv, hnn⟩⟩ := hc
  · exact ld_glob (X := X.suite a ((a, oe) :: (X.pn ++ pins))) S hg hm q hdbg
  · exact ld_blt (X := X.suite a ((a, oe) :: (X.pn ++ pins))) S hg hm hv q hnn hdbg
theorem Got.type (hs : X.stack = X.env :: X.outer) (hf : X.env.frame = some X.env.locals) (g : Got X pins a cls d σ H s) {M : Model} : PySem.W.Looks M s.heap (typeOf (.ref a)) cls := by
  obtain ⟨oe, vs, he, hz, hd, J, S⟩ := g.suite hs hf
  exact fun A Q E s' k q => wpAny_typeOf_ref (k _ _ he) (by rw [hz.1]; exact q)
theorem Got.kIn (hs : X.stack = X.env :: X.outer) (hf : X.env.frame = some X.env.locals) (g : Got X pins a cls d σ H s) : X.K.In s.heap := by
  obtain ⟨oe, vs, he, hz, hd, J, S⟩ := g.suite hs hf
  exact J.kIn
end
section
variable {X : Cx} {x n : Str} {c : Value} {i : Nat} {suite body : List Stmt} {b₀ : Stmt} {np pos pos' : Pos} {hds : List ExceptHandler} {W : Ends → WX} {Wout : WX} {ts : Addr → Value → Option Addr → TS} {tb : WX → TS}
theorem hdl_nil (hs : X.stack = X.env :: X.outer) (hf : X.env.frame = some X.env.locals) (tk : Takes X Wout) : Hdl X [] (fun _ => Wout) := by
  intro pins a cls d σ H s D g w
  obtain ⟨B, sI, I, nb, up, fl, os, ag, na⟩ := g
  refine wpAny_handleBy_nil ?_
  obtain ⟨_, _, _, oe, vs, T, oT, ts', he, hz, hd, h1, hr⟩ := id fl
  unfold PySem.passOn
  refine wpAny_bind (wpAny_field he hd h1 ?_)
  rw [if_neg (show ¬ ((Value.ref T == Value.none) = true) from by simp)]
  have fin : wpAny (model X.prog X.w) X.A (setFlight (.ref a) X.env.frame) (fun _ s4 => wpAny (model X.prog X.w) X.A (throw (.ref a) : Sem Flow) (SP X pins D) X.xe s4) X.xe s := by
    rw [hf]
    refine HandSPX.setFlight_upZ (by rw [hs] at fl; exact fl) fun h4 hh4 up4 => wpAny_throw (tk _ _ ?_)
    exact ⟨a, B, sI, pins, σ, H, cls, d, rfl, I, nb, up.trans up4, .inr (.inr (by rw [hs]; exact hh4)), na, os, ag, w⟩
  first
    | exact wpAny_bind (wpAny_pure (wpAny_bind fin))
    | exact wpAny_bind fin
theorem hdl_any (hs : X.stack = X.env :: X.outer) (hf : X.env.frame = some X.env.locals) (hc : Names X x c)
    (hsu : ∀ (a : Addr) (oe : Obj) (cls : Value) (d : Option Addr) (pn : List (Addr × Obj)), Zc cls d oe → (∃ vs, oe.data = .fields vs) → PSs (X.suite a ((a, oe) :: pn)) (b₀ :: suite) (ts a cls d))
    (r : Hdl X hds W) : Hdl X (.ExceptHandler (some (.Name x np)) none (b₀ :: suite) pos' :: hds) (wAny X.K c ts W) := by
  intro pins a cls d σ H s D g w
  obtain ⟨b, hb1, hyes, hno⟩ := w
  have LM := PySem.W.exm_one (M := model X.prog X.w) (g.kIn hs hf) (g.type hs hf) hb1
  refine wpAny_handleBy_cons (codeAny_handlers_test ?_) (by intro q; cases q)
  refine g.test hs hf hc (LM.here ?_)
  cases b with
  | true =>
    refine codeAny_handlers_suite (g.again fun h4 g4 => ?_)
    obtain ⟨oe, vs, he, hz, hd, J, S⟩ := g4.suite hs hf
    have ok := J.ok
    obtain ⟨_, _, _, _, _, _, _, _, na⟩ := g4
    refine wpAny_mono ((hsu a oe cls d (X.pn ++ pins) hz ⟨_, hd⟩).run [] _ _ H _ S (hyes rfl a na)) (fun f s6 hsp => ?_) (fun _ _ z => False.elim z)
    cases f with
    | ret u =>
      obtain ⟨v6, σ6, H6, S6, r6, q6⟩ := hsp
      exact ⟨_, _, _, S6.unsuite ok, r6, q6⟩
    | _ =>
      obtain ⟨σ6, H6, S6, q6⟩ := hsp
      exact ⟨_, _, S6.unsuite ok, q6⟩
  | false => exact r pins a cls d σ H s D g (hno rfl)
theorem hdl_as (hs : X.stack = X.env :: X.outer) (hf : X.env.frame = some X.env.locals) (hN : X.N.Nodup) (hi : X.N[i]? = some n) (hln : X.env.kindOf n = some .local) (hc : Names X x c)
    (hsu : ∀ (a : Addr) (oe : Obj) (cls : Value) (d : Option Addr) (pn : List (Addr × Obj)), Zc cls d oe → (∃ vs, oe.data = .fields vs) → PSs (X.suite a ((a, oe) :: pn)) (b₀ :: suite) (ts a cls d))
    (r : Hdl X hds W) : Hdl X (.ExceptHandler (some (.Name x np)) (some n) (b₀ :: suite) pos' :: hds) (wNam X.K c i ts W) := by
  intro pins a cls d σ H s D g w
  obtain ⟨b, hb1, hyes, hno⟩ := w
  have LM := PySem.W.exm_one (M := model X.prog X.w) (g.kIn hs hf) (g.type hs hf) hb1
  refine wpAny_handleBy_cons (codeAny_handlers_test ?_) (by intro q; cases q)
  refine g.test hs hf hc (LM.here ?_)
  cases b with
  | true =>
    refine codeAny_handlers_suite_as (g.again fun h4 g4 => ?_)
    obtain ⟨oe, vs, he, hz, hd, J, S⟩ := g4.suite hs hf
    have ok := J.ok
    obtain ⟨_, _, _, _, _, _, _, _, na⟩ := g4
    have hloc : Loc X.env.scope n := .inl hln
    refine store_ok (X := X.suite a ((a, oe) :: (X.pn ++ pins))) (v := .ref a) S hN hi hloc rfl (fun s5 S5 => ?_) (.inr hln)
    refine wpAny_mono ((hsu a oe cls d (X.pn ++ pins) hz ⟨_, hd⟩).run [] s5 _ H _ S5 (hyes rfl a na)) (fun f s6 hsp => ?_) (fun _ _ z => False.elim z)
    cases f with
    | ret u =>
      obtain ⟨v6, σ6, H6, S6, r6, q6⟩ := hsp
      exact gone_ok (S6.unsuite ok) hN hi hln fun s7 J7 => ⟨_, _, _, J7, r6, q6⟩
    | _ =>
      obtain ⟨σ6, H6, S6, q6⟩ := hsp
      exact gone_ok (S6.unsuite ok) hN hi hln fun s7 J7 => ⟨_, _, J7, q6⟩
  | false => exact r pins a cls d σ H s D g (hno rfl)
/-- try: body, and its clauses -/
theorem ps_tryH {h₀ : ExceptHandler} (hs : X.stack = X.env :: X.outer) (hf : X.env.frame = some X.env.locals)
    (hb : ∀ (W : WX) (pn : List (Addr × Obj)) (xe : Value → Shared → Prop), Takes (X.tr pn xe) W → PSs (X.tr pn xe) body (tb W))
    (hh : Hdl X (h₀ :: hds) W) : PS X (.Try body (h₀ :: hds) [] [] pos) (fun D σ H => tb (W D) D σ H) := by
  refine ⟨fun pins s σ H D I h => ?_⟩
  have ok := I.ok
  have hfr : X.A.frames = some (X.env :: X.outer) := by rw [ok.frames, hs]
  refine wpAny_Try_except ?_
  refine wpAny_mono ((hb (W D) (X.pn ++ pins) (fun e s₁ => wpAny (model X.prog X.w) X.A (noteFrame e X.env) (fun _ s₂ => wpAny (model X.prog X.w) X.A (setFlight e none) (fun _ s₃ =>
    wpAny (model X.prog X.w) X.A (handleBy e X.env (h₀ :: hds)) (SP X pins D) X.xe s₃) X.xe s₂) X.xe s₁) (fun u s' xx => ?_)).run [] s σ H D (I.toTry _) h) (fun f s1 hsp => ?_) (fun e s1 he => he)
  · obtain ⟨a, B, sI, pins', σ', H', cls, d, rfl, J', nb, up, sky, na, os, ag, w⟩ := xx
    have sky' : Sky B (X.env :: X.outer) a (Zc cls d) X.env.locals s'.heap := by rw [← hs]; exact sky
    show wpAny (model X.prog X.w) X.A (noteFrame (.ref a) X.env) _ _ _
    refine Sky.land Zc.steady hfr hf sky' fun h3 fl3 up3 => ?_
    exact hh pins a cls d σ' H' _ D ⟨B, sI, J'.ofTry ok, nb, up.trans up3, by rw [hs]; exact fl3, os, ag, na⟩ w
  · cases f with
    | next =>
      obtain ⟨σ', H', J', q⟩ := hsp
      exact wpAny_execs_nil ⟨σ', H', J'.ofTry ok, q⟩
    | ret u =>
      obtain ⟨v, σ', H', J', r, q⟩ := hsp
      exact ⟨v, σ', H', J'.ofTry ok, r, q⟩
    | _ =>
      obtain ⟨σ', H', J', q⟩ := hsp
      exact ⟨σ', H', J'.ofTry ok, q⟩
end

/-! ### what a clause says of a class, and what a raise leaves -/
theorem exm_at {K : PySem.W.Frag} {C D : Addr} {b : Bool} (h1 : PySem.W.subIn K (.ref D) (.type "BaseException") = some true) (h2 : PySem.W.isClsIn K D = true) (h3 : PySem.W.typeIn K (.ref D) = some (.type "type")) (h4 : PySem.W.subIn K (.ref C) (.ref D) = some b) :
    PySem.W.exmOne K (.ref C) (.ref D) = some b := by
  have h2' : (PySem.W.clsIn K D).isSome = true := h2
  unfold PySem.W.exmOne
  rw [h1, if_pos (by rfl)]
  show (if ((PySem.W.clsIn K D).isSome && PySem.W.typeIn K (.ref D) == some (.type "type")) = true then PySem.W.subIn K (.ref C) (.ref D) else none) = some b
  rw [h2', h3, if_pos (by rfl)]
  exact h4
/-- C.__init__(self, y): nothing but the field f -/
def spX (C : Addr) (f : Str) : Sp := fun vs H Q _ => ∃ (e : Addr) (y : V), vs = [.ref e, y] ∧ H e = some (exo e C none) ∧ ∀ dx, H dx = none → dx ≠ e → Q .non (upd (upd H dx (exd dx [(f, y)])) e (exo e C (some dx)))
theorem spX_made {C : Addr} {f : Str} {y : V} {H : Hp} {Q : XK} (q : ∀ d : Addr, H d = none → Q (.ref C) (some d) (upd H d (.xd [(f, y)]))) (a : Addr) (ha : H a = none) :
    spX C f [.ref a, y] (upd H a (exo a C none)) (fun v H2 => v = .non ∧ ∃ (d : Addr) (fs : List (Str × V)), H2 a = some (exo a C (some d)) ∧ H2 d = some (exd d fs) ∧ H d = none ∧ Q (.ref C) (some d) (upd (del H2 a) d (.xd fs))) (fun _ _ _ => False) := by
  refine ⟨a, y, rfl, upd_same, fun dx hdx ne => ⟨rfl, dx, [(f, y)], upd_same, by rw [upd_ne ne]; exact upd_same, ?_, ?_⟩⟩
  · rw [upd_ne ne] at hdx
    exact hdx
  · rw [upd_ne ne] at hdx
    have e : upd (del (upd (upd (upd H a (exo a C none)) dx (exd dx [(f, y)])) a (exo a C (some dx))) a) dx (.xd [(f, y)]) = upd H dx (.xd [(f, y)]) := by
      funext b
      by_cases h1 : b = dx
      · rw [h1, upd_same, upd_same]
      · rw [upd_ne h1, upd_ne h1]
        by_cases h2 : b = a
        · rw [h2, del_same, ha]
        · rw [del_ne h2, upd_ne h2, upd_ne h1, upd_ne h2]
    rw [e]
    exact q dx hdx
/-- C(x), x a name -/
theorem mkV {C : Addr} {f : Str} {i : Nat} {y : V} {σ : L2.St} {H : Hp} {Q : XK} (e : σ[i]? = some (some y)) (q : ∀ d : Addr, H d = none → Q (.ref C) (some d) (upd H d (.xd [(f, y)]))) : tMkO C (spX C f) [] (tCons (tVar i) tNil) σ H Q := by
  exact ⟨y, e, (by decide : 1 ≤ 1000), fun a ha => spX_made q a ha⟩
theorem mkC {C : Addr} {f : Str} {y : V} {σ : L2.St} {H : Hp} {Q : XK} (q : ∀ d : Addr, H d = none → Q (.ref C) (some d) (upd H d (.xd [(f, y)]))) : tMkO C (spX C f) [] (tCons (tC y) tNil) σ H Q := by
  exact ⟨(by decide : 1 ≤ 1000), fun a ha => spX_made q a ha⟩
end Cs

/-! Dd: defs that show values (repr): their promise holds where nothing is being shown around the call; FnG in FnOk's place, from the law down to them. -/
namespace Cs
open PySem PySem.Spec PyProof.Rows L2
/-- a promise kept where nothing is being shown around the call, and no exception leaves -/
structure FnG (P : Program) (w : World) (K : PySem.W.Frag) (mg : Str → Option Value) (base : Heap) (k : Nat) (f : Addr) (fd : FuncData) (ps : List Str) (sp : Sp) : Prop where
  many : ∀ vs H Q E, sp vs H Q E → vs.length = ps.length
  goes : ∀ (A : Around) (up : List Env) (s : Shared) (H : Hp) (ar : Args) (us : List Value) (vs : List V) (Q : VK) (E : XK), Room k A → A.guards = some [] → Env0 P w K mg base A up s H → BindsTo s fd ar (ps.zip us) → Vals vs us → sp vs H Q E →
    codeAny (model P w) A (.call (.ref f) ar) (CR CX0 up P w H s Q E) s
section
variable {P : Program} {w : World} {K : PySem.W.Frag} {mg : Str → Option Value} {base : Heap}
theorem funG {x qual : Str} {st : Stmt} {f : Addr} {fd : FuncData} {N ps : List Str} {k : Nat} {sp : Sp} (F : Fun K x qual st f fd) (S : FnScope N ps (defScope st)) (many : ∀ vs H Q E, sp vs H Q E → vs.length = ps.length)
    (bd : ∀ (cdv : Value) (A : Around) (up : List Env) (s : Shared) (H : Hp) (vs : List V) (Q : VK) (E : XK), Room k (A.deeper (envOfC qual (defScope st) s.heap.objs.size f cdv)) → A.guards = some [] → sp vs H Q E →
      ∃ t, PSs (cxOf CX0 P w K mg base N qual (defScope st) f cdv A up s H E).nox (defBody st) t ∧ t { nx := fun _ H' => Q .non H', rt := Q } (start N vs) H) : FnG P w K mg base (k + 1) f fd ps sp := by
  obtain ⟨oc, od, kV, doc, pm, an, cdv, ct, osl, rfl, lk, cod⟩ := F.ex
  refine ⟨many, fun A up s H ar us vs Q E room gd e0 bnd rel want => ?_⟩
  have inK : K.In s.heap := e0.mod.kin.keeps fun a u eu => (e0.bs a u eu).1
  have noL : s.heap.NoLimit := e0.mod.nolimit.keeps fun a u eu => (e0.bs a u eu).1
  have kinds : ∀ y ∈ ps.zip us, (defScope st).names.lookup y.1 = some .local ∨ ((defScope st).names.lookup y.1 = some .cell ∧ ((cellsFrom (s.heap.objs.size + 1) (defScope st).names []).lookup y.1).isSome = true) := by
    rintro ⟨nm, val⟩ hy
    have := S.par nm (List.of_mem_zip hy).1
    exact this.imp id fun c => ⟨c, PySem.W.cellsFrom_some _ _ _ (.inl c)⟩
  refine codeAny_call_function room.depth (inK _ _ lk) rfl S.co S.gen rfl (PySem.W.codeRec_of inK cod) (bnd _ _ _ _ (wpAny_newFunctionEnv_cells S.kind kinds fun env ev s1 ic => ?_))
  subst ev
  obtain ⟨t, body, reads⟩ := bd cdv A up s H vs Q E (room.deeper _) gd want
  have J0 : Inv (cxOf CX0 P w K mg base N qual (defScope st) f cdv A up s H E) [] (start N vs) H s1 := inv_start S room.hd e0 (many _ _ _ _ want) rel ic
  refine ⟨noL.keeps ic.toInCall.keep, codeAny_func (wpAny_mono (body.nox.run [] s1 (start N vs) H _ J0 reads) (fun fl s2 end_ => ?_) fun _ _ z => z)⟩
  match fl, end_ with
  | .ret u, ⟨v, σ2, H2, J, rv, q⟩ => exact ⟨v, H2, J.os, J.bare, J.base, J.hok, rv, q⟩
  | .next, ⟨σ2, H2, J, q⟩ => exact ⟨.non, H2, J.os, J.bare, J.base, J.hok, rfl, q⟩
  | .brk, ⟨_, _, _, q⟩ => exact q.elim
  | .cont, ⟨_, _, _, q⟩ => exact q.elim
end
section
variable {X : Cx} {k : Nat} {f : Addr} {fd : FuncData} {ps : List Str} {sp : Sp} {dvs : List V} {ds : List Value} {E : XK} {x : Str} {p pos : Pos} {e : Expr} {es : List Expr} {t : TA}
theorem runG {pins : List (Addr × Obj)} {σ : L2.St} {H : Hp} {s : Shared} {Q : VK} {us : List Value} {vs : List V} (F : FnG X.prog X.w X.K X.mg X.base k f fd ps sp) (room : Room k X.A) (gd : X.A.guards = some []) (hb : Binds X.K fd ps ds) (dv : Vals dvs ds)
    (J : Inv X pins σ H s) (rel : Vals vs us) (want : sp (vs ++ dvs) H Q E) : wpAny (model X.prog X.w) X.A (call (.ref f) us) (EP X pins σ Q) X.xe s := by
  have rel2 := rel.append dv
  have len2 : (us ++ ds).length = ps.length := rel2.length ▸ F.many _ _ _ _ want
  refine wpAny_call (codeAny_mono (F.goes X.A X.stack s H ⟨us, []⟩ _ _ Q E room gd J.env0 (hb s us J.kIn len2) rel2 want) fun r s2 hq => ?_)
  match r, hq with
  | .error _, hq => exact hq.elim
  | .ok (.ret u), hq => exact J.after hq
/-- f(e, ..), f a def that shows values -/
theorem pe_callG (F : FnG X.prog X.w X.K X.mg X.base k f fd ps sp) (room : Room k X.A) (gd : X.A.guards = some []) (hg : Gl X x) (hm : X.mg x = some (.ref f)) (kp : PySem.W.keepIn X.K (.ref f) = true) (hb : Binds X.K fd ps ds) (dv : Vals dvs ds)
    (ha : PA X (e :: es) t) (hdb : (x == ("__debug__" : Str)) = false := by decide) (hst : starEach (e :: es) X.env = (false, eval e X.env) :: starEach es X.env := by rfl) (hno : (backTo pos (starEach es X.env)).any (·.1) = false := by rfl) :
    PE X (.Call (.Name x p) (e :: es) [] pos) (tCall sp dvs E t) := by
  refine ⟨fun pins s σ H Q J want => wpAny_Call_Name_kw (ld_glob J hg hm (PySem.W.callWith_K (h₀ := X.base) J.ok.mod.kin kp ?_ hst hno) hdb)⟩
  exact thn (ha.run pos pins s σ H _ J want) fun us s1 ⟨vs, H1, J1, rel, q⟩ => ⟨J1.kIn, runG F room gd hb dv J1 rel q⟩
/-- repr(x), x a list, a tuple .. of data -/
def rRepr (K : PySem.W.Frag) : List V → Hp → VK → Prop := fun vs H Q => ∃ (a : Addr) (d : PyData), vs = [.ref a] ∧ Dp K H (.ref a) d ∧ d.showable = true ∧ d.hasDict = false ∧ d.depth ≤ 60 ∧ d.shown.length ≤ sizeLine ∧ Q (.str d.shown) H
theorem cr_repr (gd : X.A.guards = some []) (hu : X.A.units + 64 < cLine) : CallR X (.builtin "repr") (rRepr X.K) := by
  intro pins s σ H vs us Q J rel h
  obtain ⟨a, d, rfl, hd, h1, h2, h3, h4, q⟩ := h
  obtain ⟨u, rfl, ru⟩ := vals1 rel
  obtain ⟨as, rd⟩ := Dp.reads J d _ u hd ru
  obtain rfl : u = Value.ref a := ru
  exact repr_of_reads' rd h1 (fun z => by rw [h2] at z; cases z) gd (by omega) (fun _ _ z => z) (fun h' u tk hk => ⟨.str d.shown, H, J.kept (t' := tk) hk, ⟨_, rfl⟩, q⟩) h4
theorem cr_reprK {K : PySem.W.Frag} (h : X.K = K) (gd : X.A.guards = some []) (hu : X.A.units + 64 < cLine) : CallR X (.builtin "repr") (rRepr K) := by subst h; exact cr_repr gd hu
end
/-! ### the law's end -/
section
variable {P : Program} {w : World} {K : PySem.W.Frag} {mg mb : Str → Option Value} {k : Nat} {fa a : Addr} {fd : FuncData} {x : Str} {sp : Sp} {s1 : Shared} {vs : List Value} {ns : List Int}
/-- the law's call in an abstract heap where the script alone may be tracked -/
theorem goes_in {H : Hp} (inK : K.In s1.heap) (nsm : s1.heap.Ns mainGlobals mg) (nsb : s1.heap.Ns builtinsNs mb) (boot : ∀ y : Str, y ≠ "__name__" → mb y = bootBuiltins y) (noL : s1.heap.NoLimit) (gens : s1.gens = #[])
    (scr : s1.heap.get? a = some { cls := .type "list", data := .seq vs.toArray }) (room : Room k callerA) (F : ∀ base : Heap, K.In base → base.Ns mainGlobals mg → FnG P w K mg base k fa fd [x] sp) (bnd : ∀ (s : Shared) (u : Value), BindsTo s fd ⟨[u], []⟩ [(x, u)])
    (want : sp [.ref a] H (fun v _ => v = .bl true) fun _ _ _ => False) (hok : HOk P w H s1.heap) (only : ∀ b, H b = none ∨ (b = a ∧ K.lookup a = none ∧ ∃ ob xs, H b = some (.frz ob (.lst xs)))) :
    codeAny (model P w) callerA (.call (.ref fa) ⟨[.ref a], []⟩) (fun r s2 => r = .ok (.ret (.bool true)) ∧ OldK s1.heap s2.heap ∧ s2.os = s1.os ∧ AllBare s2.gens) s1 := by
  have hid : ∀ {b : Addr} {o : Obj}, s1.heap.get? b = some o → (b = a → K.lookup a ≠ none) → (hidT s1.heap H).get? b = some o := fun {b o} eb nb => by
    refine hidT_get eb ?_
    rcases only b with z | ⟨z1, z2, _⟩
    · exact z
    · exact absurd z2 (nb z1)
  have hidD : ∀ {b : Addr} {m : Str → Option Value}, s1.heap.Ns b m → (hidT s1.heap H).Ns b m := by
    rintro b m ⟨o, es, ep, eo, dat, rest⟩
    refine ⟨o, es, ep, hidT_get eo ?_, dat, rest⟩
    rcases only b with z | ⟨z1, _, _⟩
    · exact z
    · rw [z1, scr] at eo
      obtain rfl := Option.some.inj eo
      exact absurd dat (by simp)
  have inB : K.In (hidT s1.heap H) := fun b o eb => hid (inK b o eb) fun ba => by rw [← ba, eb]; simp
  obtain ⟨mc, nc1, nc2⟩ := noL
  have e0 : Env0 P w K mg (hidT s1.heap H) callerA [] s1 H := { frames := rfl, mod := ⟨inB, hidD nsm, ⟨mb, hidD nsb, boot⟩, ⟨mc, hidD nc1, nc2⟩⟩, bs := fun b o eb => of_hidT eb, bsz := Nat.le_of_eq (hidT_size _ _), funs := trivial, frf := (fun b hb => absurd hb (by simp [frs])), hok := hok, bare := .of_eq gens }
  refine codeAny_mono ((F _ inB (hidD nsm)).goes callerA [] s1 H ⟨[.ref a], []⟩ [.ref a] [.ref a] _ _ room rfl e0 (bnd s1 (.ref a)) (.cons rfl .nil) want) fun r s2 end_ => ?_
  match r, end_ with
  | .error _, end_ => exact end_.elim
  | .ok (.ret u), ⟨v, H2, os, bare, un, hok2, rv, q⟩ =>
    have q : v = .bl true := q
    subst q
    obtain rfl : u = Value.bool true := rv
    refine ⟨rfl, OldK.of_keep fun b o eb => ?_, os, bare⟩
    rcases only b with z | ⟨_, _, ob, xs, z⟩
    · exact un.keep b o eb z (fun y => by cases y) (by simp)
    · obtain ⟨y1, _⟩ := hok b _ z
      obtain ⟨y2, _⟩ := hok2 b _ (un.frzs b ob _ z)
      rw [y1] at eb
      obtain rfl := Option.some.inj eb
      exact y2
theorem goes_law (inK : K.In s1.heap) (nsm : s1.heap.Ns mainGlobals mg) (nsb : s1.heap.Ns builtinsNs mb) (boot : ∀ y : Str, y ≠ "__name__" → mb y = bootBuiltins y) (noL : s1.heap.NoLimit) (gens : s1.gens = #[])
    (scr : s1.heap.get? a = some { cls := .type "list", data := .seq vs.toArray }) (are : IntsAre vs ns) (few : ns.length ≤ sizeLine) (room : Room k callerA) (F : ∀ base : Heap, K.In base → base.Ns mainGlobals mg → FnG P w K mg base k fa fd [x] sp) (bnd : ∀ (s : Shared) (u : Value), BindsTo s fd ⟨[u], []⟩ [(x, u)])
    (want : ∀ H : Hp, Only H → SqL K H a (ns.map V.int) → sp [.ref a] H (fun v _ => v = .bl true) fun _ _ _ => False) :
    codeAny (model P w) callerA (.call (.ref fa) ⟨[.ref a], []⟩) (fun r s2 => r = .ok (.ret (.bool true)) ∧ OldK s1.heap s2.heap ∧ s2.os = s1.os ∧ AllBare s2.gens) s1 := by
  have rel := vals_ints are
  by_cases own : K.lookup a = none
  · have at_ : (if a = a then some (HO.frz { cls := .type "list", data := .seq vs.toArray } (.lst (ns.map V.int))) else none) = some (HO.frz { cls := .type "list", data := .seq vs.toArray } (.lst (ns.map V.int))) := if_pos rfl
    refine goes_in (H := fun b => if b = a then some (.frz { cls := .type "list", data := .seq vs.toArray } (.lst (ns.map V.int))) else none) inK nsm nsb boot noL gens scr room F bnd (want _ (fun b => ?_) (.inl (.inr ⟨_, at_⟩))) (fun b u hb => ?_) fun b => ?_
    · by_cases c : b = a
      · exact .inr ⟨_, _, if_pos c⟩
      · exact .inl (if_neg c)
    · by_cases c : b = a
      · subst c
        obtain rfl := Option.some.inj (at_.symm.trans hb)
        exact ⟨scr, by rw [List.length_map]; exact few, vs, _, rel, scr⟩
      · exact absurd ((if_neg c).symm.trans hb) (by simp)
    · by_cases c : b = a
      · exact .inr ⟨c, own, _, _, if_pos c⟩
      · exact .inl (if_neg c)
  · obtain ⟨o, eo⟩ := Option.ne_none_iff_exists'.mp own
    have same := (inK a o eo).symm.trans scr
    obtain rfl := Option.some.inj same
    exact goes_in (H := fun _ => none) inK nsm nsb boot noL gens scr room F bnd (want _ (fun _ => .inl rfl) (.inr ⟨_, vs.toArray, _, eo, rfl, rfl, rfl, by rw [List.size_toArray, are.length]; exact few, by simpa using rel⟩)) (fun b u hb => by cases hb) fun b => .inl rfl
end
theorem walk_ofBG {l : PySem.W.OpenLaw} {n k : Nat} {q : Program} {loose : List Str} {XP : (Str → Option Value) → Heap → Prop} {YP : World → Heap → Prop} {d : DefRec} {K : Params → PySem.W.Frag} {sp : World → Sp} {x : Str}
    (hn : l.most = some n) (hn2 : n ≤ sizeLine) (hdf : d.params.defaults = []) (room : Room k callerA) (inK : ∀ (w : World) (h : Heap), YP w h → (K w.params).In h)
    (F : ∀ (w : World) (mg : Str → Option Value) (fa : Addr) (h : Heap), (K w.params).In h → h.Ns mainGlobals mg → mg d.name = some (.ref fa) →
      ∃ fd : FuncData, (∀ (s : Shared) (u : Value), BindsTo s fd ⟨[u], []⟩ [(x, u)]) ∧ ∀ base : Heap, (K w.params).In base → base.Ns mainGlobals mg → FnG l.prog w (K w.params) mg base k fa fd [x] (sp w))
    (want : ∀ (w : World) (H : Hp) (a : Addr) (ns : List Int), ns.length ≤ n → (∀ z ∈ ns, Builtin.Int.intBits z ≤ 1048576) → Only H → SqL (K w.params) H a (ns.map V.int) → sp w [.ref a] H (fun v _ => v = .bl true) fun _ _ _ => False) :
    PySem.W.WalkO q loose XP YP l.row.toRowW d [] (fun f vs => PySem.call f vs) := by
  refine Att.attach_callB hn hdf fun w s0 s1 mg mb fa o pm cd doc a vs ns G Y _ _ _ hm scr are few bits gens => ?_
  obtain ⟨fd, bnd, FG⟩ := F w mg fa _ (inK w _ Y) G.T.g hm
  exact goes_law (inK w _ Y) G.T.g G.T.b G.T.builtins G.T.nolimit gens scr are (Nat.le_trans few hn2) room FG bnd fun H on sq => want w H a ns few bits on sq
theorem walk_ofBEG {l : PySem.W.OpenLaw} {n k : Nat} {q : Program} {loose : List Str} {XP : (Str → Option Value) → Heap → Prop} {YP : World → Heap → Prop} {d : DefRec} {x : Str}
    (hn : l.most = some n) (hn2 : n ≤ sizeLine) (hdf : d.params.defaults = []) (room : Room k callerA)
    (F : ∀ (w : World) (mg : Str → Option Value) (fa : Addr) (h : Heap), YP w h → h.Ns mainGlobals mg → mg d.name = some (.ref fa) →
      ∃ (K : PySem.W.Frag) (fd : FuncData) (sp : Sp), K.In h ∧ (∀ (s : Shared) (u : Value), BindsTo s fd ⟨[u], []⟩ [(x, u)]) ∧
        (∀ (H : Hp) (a : Addr) (ns : List Int), ns.length ≤ n → (∀ z ∈ ns, Builtin.Int.intBits z ≤ 1048576) → Only H → SqL K H a (ns.map V.int) → sp [.ref a] H (fun v _ => v = .bl true) fun _ _ _ => False) ∧
        ∀ base : Heap, K.In base → base.Ns mainGlobals mg → FnG l.prog w K mg base k fa fd [x] sp) :
    PySem.W.WalkO q loose XP YP l.row.toRowW d [] (fun f vs => PySem.call f vs) := by
  refine Att.attach_callB hn hdf fun w s0 s1 mg mb fa o pm cd doc a vs ns G Y _ _ _ hm scr are few bits gens => ?_
  obtain ⟨K, fd, sp, inK, bnd, want, FG⟩ := F w mg fa _ Y G.T.g hm
  exact goes_law inK G.T.g G.T.b G.T.builtins G.T.nolimit gens scr are (Nat.le_trans few hn2) room FG bnd fun H on sq => want H a ns few bits on sq
end Cs

/-! De: max(d.values()) of a dict with tuples as keys and ints as values. -/
namespace Cs
open PySem PySem.Spec PyProof.Rows L2
section
variable {X : Cx}
theorem kt_at {H : Hp} : ∀ {kvs : List (List Key × V)} {xs : List (List Key × Addr × Value)}, KT H kvs xs → ∀ {i : Nat} {y : List Key × Addr × Value}, xs[i]? = some y → ∃ x, kvs[i]? = some (y.1, x) ∧ RelV x y.2.2
  | _, _, .nil, _, _, h => by simp at h
  | _, _, .cons (a := a) (b := b) h t, 0, y, e => by
    obtain rfl := Option.some.inj e
    obtain ⟨e1, _, e3⟩ := h
    exact ⟨a.2, congrArg some (Prod.ext e1 rfl), e3⟩
  | _, _, .cons h t, i + 1, y, e => kt_at t (i := i) (by simpa using e)
theorem kt_len {H : Hp} : ∀ {kvs : List (List Key × V)} {xs : List (List Key × Addr × Value)}, KT H kvs xs → kvs.length = xs.length
  | _, _, .nil => rfl
  | _, _, .cons _ t => by rw [List.length_cons, List.length_cons, kt_len t]
/-- max(o.values()) -/
def tMaxVals (td : TE) : TE := fun σ H Q => td σ H fun x H1 => ∃ (a : Addr) (kvs : List (List Key × V)) (is : List Int), x = .ref a ∧ H1 a = some (.dT kvs) ∧ kvs.map (·.2) = is.map V.int ∧ is ≠ [] ∧ ∀ m, m ∈ is → (∀ j ∈ is, j ≤ m) → Q (.int m) H1
theorem pe_maxVals {o : Expr} {p pos apos mpos : Pos} {td : TE} (calm : X.calm = true) (hg : Gl X "max") (hm : X.mg "max" = none) (hd : PE X o td) (hbase : attributeBase o "values" X.env (eval o X.env) = eval o X.env := by rfl) (hline : (apos.endLine == mpos.line) = true := by rfl)
    (hse : starEach [Expr.Call (.Attribute o "values" apos) [] [] mpos] X.env = [(false, eval (Expr.Call (.Attribute o "values" apos) [] [] mpos) X.env)] := by rfl) :
    PE X (.Call (.Name "max" p) [.Call (.Attribute o "values" apos) [] [] mpos] [] pos) (tMaxVals td) := by
  refine ⟨fun pins s σ H Q J want => wpAny_Call_Name_kw (ld_blt J hg hm (u := .builtin "max") (by first | rfl | decide +kernel) ?_ (by first | decide +kernel | decide) (by first | decide +kernel | decide))⟩
  rw [hse]
  refine PySem.callWith_builtin1 (wpAny_Call_method0_late hbase hline (thn (hd.run pins s σ H _ J want) fun v s1 ⟨x, H1, J1, rel, a, kvs, is, ex, ha, hv, hne, q⟩ => ?_))
  subst ex
  obtain rfl : v = Value.ref a := rel
  obtain ⟨_, hsys, xs, kt, dh⟩ := dt_of J1.hok ha
  obtain ⟨es, ep, raw, hsz, hes⟩ := dh.raw
  obtain ⟨ob, hob, cl, dat⟩ := id raw
  have ty : s1.TypeIs (.ref a) "dict" := ⟨ob, hob, cl.1⟩
  refine ⟨"dict", "dict.values", F.plainAttrs_dict, F.slot_dict_values, F.type_dict_values, ty, fun b e => ?_, Calls.callWith_builtin rfl (PySem.evalArgs_none (call_meetsIn F.slot_dict_values ty F.entry_dict_values (F.args_dict_values_1 _) (meets_dict_values_raw a hsys) ⟨⟨es, ep, raw⟩, ?_⟩))⟩
  · cases e
    exact ⟨ob, hob, cl.2.1⟩
  have hlt : a < s1.heap.objs.size := Heap.lt_size hob
  have old1 : ∀ b u, s1.heap.get? b = some u → (s1.heap.push { cls := .type "dict_values", data := .fields #[.ref a] }).get? b = some u := fun b u e => Heap.get?_push_of_some _ e
  have raw1 := raw.at fun u e => old1 a u e
  have hsz1 : (s1.heap.push { cls := .type "dict_values", data := .fields #[.ref a] }).objs.size = s1.heap.objs.size + 1 := Heap.size_push _ _
  have hkl : es.size = is.length := by
    have l1 := kt_len kt
    have l2 := congrArg List.length hv
    rw [List.length_map, List.length_map] at l2
    omega
  have hval : ∀ (i : Nat) (v : Value), (∃ hi : i < es.size, v = es[i].val) → ∃ t, v = Value.int (is.getD i 0) t := by
    rintro i v ⟨hi, rfl⟩
    obtain ⟨y, hy, _, e2, _⟩ := hes i hi
    obtain ⟨x, hx, rx⟩ := kt_at kt hy
    have e3 : (kvs.map (·.2))[i]? = some x := by rw [List.getElem?_map, hx]; rfl
    rw [hv, List.getElem?_map] at e3
    obtain ⟨j, hj, rfl⟩ := Option.map_eq_some_iff.mp e3
    obtain ⟨t, e4⟩ := rx
    exact ⟨t, by rw [e2, e4, List.getD_eq_getElem?_getD, hj]; rfl⟩
  refine call_max_walk (wpAny_pyIter_values_raw (v := s1.heap.objs.size) (d := a) ⟨_, Heap.get?_push_size _ rfl, rfl, rfl⟩ raw1 ?_)
  refine ⟨_, _, _, _, _, _, _, rfl, Walks.rawValues (A := X.A.in1) (J.ok.hd calm) _ a (by rw [hsz1]; exact Nat.ne_of_lt (Nat.lt_succ_of_lt hlt)) es ep,
    ⟨⟨_, Heap.get?_push_size _ rfl, rfl, rfl⟩, raw1.at fun u e => Heap.get?_push_of_some _ e⟩, fun b hb => ?_, by rw [hkl]; exact List.length_pos_iff.mpr hne, CmpOf.ints_gt (fun i => is.getD i 0) hval, fun v h' tk hP hk => ?_⟩
  · rw [Heap.size_push, hsz1]
    rcases List.mem_cons.mp hb with z | hb
    · rw [z, hsz1]
      exact Nat.lt_succ_self _
    · rw [List.mem_singleton.mp hb]
      exact Nat.lt_succ_of_lt (Nat.lt_succ_of_lt hlt)
  · obtain ⟨t, rfl⟩ := hval _ v hP
    obtain ⟨b1, b2⟩ := argBest_gt (fun i => is.getD i 0) (es.size - 1)
    have hpos := List.length_pos_iff.mpr hne
    refine ⟨.int _, H1, J1.kept (t' := tk) fun b u e => hk b u (fun hmem => ?_) (Heap.get?_push_of_some _ (old1 b u e)), ⟨t, rfl⟩, q _ (PySem.getD_mem (by omega)) fun j hj => ?_⟩
    · have e1 := List.mem_singleton.mp hmem
      have e2 := Heap.lt_size e
      rw [hsz1] at e1
      rw [e1] at e2
      exact absurd e2 (Nat.not_lt.mpr (Nat.le_succ _))
    · obtain ⟨i, hi, e⟩ := List.mem_iff_getElem.mp hj
      have e2 : is.getD i 0 = j := by rw [List.getD_eq_getElem?_getD, List.getElem?_eq_getElem hi, ← e]; rfl
      rw [← e2]
      exact b2 i (by omega)
end
end Cs

/-! Df: sorted(a tuple or a list of ints). -/
namespace Cs
open PySem PySem.Spec PyProof.Rows L2 SrtO
section
variable {prog : Program} {w : World} {A : Around} {E : Value → Shared → Prop} {s : Shared}
theorem sorted_tupI {t : Addr} {vs : List Value} {ns : List Int} {Q : Value → Shared → Prop} (ht : IsTup s.heap t vs.toArray) (hi : IntsAre vs ns) (hz : vs.length ≤ sizeLine)
    (q : ∀ (p : Addr) (h' : Heap) (out : List Value) (e : Nat), (∀ b o, s.heap.get? b = some o → h'.get? b = some o) → s.heap.get? p = none → h'.get? p = some (seqObj "list" out.toArray e) → Srtd ltIv out → Stb ltIv out vs → Q (.ref p) { s with heap := h' }) :
    wpAny (model prog w) A (call (.builtin "sorted") [.ref t]) Q E s := by
  obtain ⟨o, ho, hc, n, hd⟩ := ht
  refine Calls.call_function_entry kind_sorted plain_sorted entry_sorted (args_sorted1 _) ?_
  unfold Builtin.«sorted»
  refine wpAny_bind (m := checkCount "sorted" 1 1 _) (wpAny_pure ?_)
  refine wpAny_bind (PySem.wpAny_collect_seq t (.inr rfl) ho hc hd (fun h1 k1 => ?_) (by rw [List.size_toArray]; exact hz))
  have k12 : ∀ b o, s.heap.get? b = some o → (h1.push (seqObj "list" vs.toArray 0)).get? b = some o := fun b o e => Heap.get?_push_of_some _ (k1 b o e)
  refine wpAny_bind (wpAny_newList ?_ hz)
  have new : (h1.push (seqObj "list" vs.toArray 0)).get? h1.objs.size = some (seqObj "list" vs.toArray 0) := Heap.get?_push_size _ rfl
  refine wpAny_bind (wpAny_holding (wpAny_call_entry slot_list_sort ⟨_, new, rfl⟩ entry_list_sort (list_sort_ord swo_int new hz (fun h2 => ints_sortable hi h2) fun out hs hb => ⟨_, rfl, ?_⟩) (args_list_sort _)))
  obtain ⟨e, he⟩ := sortedHeap_at (vs := vs) (out := out.toArray) new
  have gone : s.heap.get? h1.objs.size = none := by
    cases c : s.heap.get? h1.objs.size with
    | none => rfl
    | some u => exact absurd (Heap.lt_size (k1 _ _ c)) (Nat.lt_irrefl _)
  refine wpAny_pure ⟨_, rfl, q h1.objs.size _ out e (fun b u eb => ?_) gone he hs hb⟩
  have lt := Heap.lt_size (k1 _ _ eb)
  refine (sortedHeap_old (Nat.ne_of_lt lt) ?_).trans (k12 b u eb)
  rw [size_push']
  exact Nat.lt_succ_of_lt lt
end
/-- sorted(xs), xs a list or a tuple of ints -/
def rSortedQ (K : PySem.W.Frag) : List V → Hp → VK → Prop := fun vs H Q => ∃ (a : Addr) (ns : List Int), vs = [V.ref a] ∧ (SqL K H a (ns.map V.int) ∨ SqT K H a (ns.map V.int)) ∧
  ∀ (ns' : List Int) (p : Addr), ns'.Perm ns → ns'.Pairwise (· ≤ ·) → H p = none → Q (.ref p) (upd H p (.lst (ns'.map V.int)))
section
variable {X : Cx}
theorem cr_sortedQ : CallR X (.builtin "sorted") (rSortedQ X.K) := by
  intro pins s σ H vs us Q I r h
  obtain ⟨a, ns, rfl, hs | hs, q⟩ := h
  · exact cr_sortedI pins s σ H _ us Q I r ⟨a, ns, rfl, hs, q⟩
  obtain ⟨its, rv, ht, hz⟩ := I.tuple hs
  rw [Vals.ref1 r]
  have hi := rv.ints
  refine sorted_tupI ht hi (by rw [← rv.length]; exact hz) fun p h' out e k hp he h1 h2 => ?_
  obtain ⟨k1, k2, k3⟩ := ints_out hi h1 h2
  have hlen : ((out.map iv).map V.int).length ≤ sizeLine := by
    rw [List.length_map, k2.length_eq]
    rw [List.length_map] at hz
    exact hz
  have hn := I.hok.gone hp
  exact ⟨.ref p, upd H p (.lst ((out.map iv).map V.int)), I.laidN (t' := s.toks) k hp hn ⟨hlen, out, e, vals_of_ints k1, he⟩, rfl, q _ _ k2 k3 hn⟩
end
end Cs

/-! Dg: d.update(list of pairs), d with ints or texts as keys. -/
namespace Cs
open PySem PySem.Spec PyProof.Rows L2
section
variable {X : Cx}
theorem pairs_qs {pins : List (Addr × Obj)} {σ : L2.St} {H : Hp} {s : Shared} (I : Inv X pins σ H s) : ∀ {ps : List Addr} {kvs : List (Key × V)}, Paired (fun p kv => SqT X.K H p [kV kv.1, kv.2]) ps kvs →
    ∃ (prs : List (Key × Value)) (qs : List (Value × Value)), KV kvs prs ∧ prs.length = ps.length ∧ qs.length = ps.length ∧ ∀ (j : Nat) u y, qs[j]? = some (u, y) → ∃ k b, prs[j]? = some (k, y) ∧ keyIs k u = true ∧ ps[j]? = some b ∧ IsTup s.heap b #[u, y]
  | _, _, .nil => ⟨[], [], .nil, rfl, rfl, fun j u y e => by simp at e⟩
  | _, _, .cons (a := p) (b := kv) h t => by
    obtain ⟨prs, qs, r, l1, l2, hp⟩ := pairs_qs I t
    obtain ⟨its, rv, ht, _⟩ := I.tuple h
    obtain ⟨u, y, rfl, ru, ry⟩ := vals2 rv
    refine ⟨(kv.1, y) :: prs, (u, y) :: qs, .cons ⟨rfl, ry⟩ r, congrArg (· + 1) l1, congrArg (· + 1) l2, fun j u' y' e => ?_⟩
    cases j with
    | zero =>
      obtain ⟨rfl, rfl⟩ := Prod.mk.inj (Option.some.inj e)
      exact ⟨kv.1, p, rfl, kV_is (P := X.prog) (w := X.w) ru, rfl, ht⟩
    | succ j => exact hp j u' y' e
/-- what d.update(l) asks: l a list of pairs -/
def rUpdP (K : PySem.W.Frag) : V → List V → Hp → VK → Prop := fun x xs H Q => ∃ (a b : Addr) (kvs : List (Key × V)) (ps : List Addr) (more : List (Key × V)), x = .ref a ∧ xs = [.ref b] ∧ H a = some (.dK kvs) ∧ SqL K H b (ps.map V.ref) ∧ Paired (fun p kv => SqT K H p [kV kv.1, kv.2]) ps more ∧
  kvs.length + more.length ≤ sizeLine ∧ Q .non (upd H a (.dK (mergeK kvs more)))
theorem mt_updP (hcalm : X.calm = true) : MtR X "dict.update" (rUpdP X.K) := by
  intro pins s σ H x xs v us Q I rx rxs h
  obtain ⟨a, b, kvs, ps, more, rfl, rfl, ha, hb, hp, hz, q⟩ := h
  cases rx
  obtain ⟨u, rfl, r1⟩ := vals1 rxs
  cases r1
  obtain ⟨z, hd, xs', rel, dd⟩ := dk_of I.hok ha
  obtain ⟨its, rv, pl, hz2⟩ := I.list hb
  obtain rfl := refs_at rv
  obtain ⟨prs, qs, rp, l1, l2, hq⟩ := pairs_qs I hp
  obtain ⟨o, n, ho, hc, hdi, hdat⟩ := id pl
  obtain ⟨od, ed, epd, hod, hex, _⟩ := id dd
  have hab : a ≠ b := fun e => by
    subst e
    rw [ho] at hod
    obtain rfl := Option.some.inj hod
    rw [hex.1] at hc
    simp at hc
  have e1 := rel.length
  have e2 := rp.length
  have hPI : PairItems s.heap (ps.map Value.ref).toArray (fun j => ps.getD j 0) qs := by
    refine ⟨by simp [l2], fun j k y e => ?_⟩
    obtain ⟨k', b', h1, h2, h3, h4⟩ := hq j k y e
    refine ⟨by simp [List.getD_eq_getElem?_getD, h3], .inl ?_⟩
    show s.heap.IsTuple (ps.getD j 0) #[k, y]
    rw [List.getD_eq_getElem?_getD, h3]
    exact h4
  refine call_update_pairs (knd := mixKind X.prog X.w) (acc := xs') (kvs := prs) (PairArg.list b (ps.map Value.ref).toArray (fun j => ps.getD j 0) qs) (I.ok.hd hcalm) ⟨⟨o, n, ho, hc, hdi, hdat⟩, hPI⟩ (fun hm => ?_) ⟨by rw [l1, l2], fun i key y e => ?_⟩ dd (by rw [l2, ← l1]; omega) fun h' tk dd' k => ?_
  · rcases List.mem_cons.mp hm with e | hm
    · exact hab e
    · obtain ⟨j, hj, e⟩ := List.mem_map.mp hm
      have e : ps.getD j 0 = a := e
      have th : ∃ o2, s.heap.get? (ps.getD j 0) = some o2 ∧ (o2.cls = .type "tuple" ∨ o2.cls = .type "list") := by
        have hj2 := List.getElem?_eq_getElem (List.mem_range.mp hj)
        obtain ⟨_, b', _, _, h3, ⟨o2, q1, q2, _⟩⟩ := hq j _ _ hj2
        exact ⟨o2, by rw [List.getD_eq_getElem?_getD, h3]; exact q1, .inl q2⟩
      obtain ⟨o2, ho2, hc2⟩ := th
      rw [e, hod] at ho2
      obtain rfl := Option.some.inj ho2
      rw [hex.1] at hc2
      rcases hc2 with h | h <;> simp at h
  · obtain ⟨k', b', h1, h2, h3, h4⟩ := hq i key y e
    exact ⟨k', h1, h2⟩
  · obtain ⟨o2, es2, ep2, g1, g2⟩ := id dd'
    have I2 : Inv X pins σ (upd H a (.dK (mergeK kvs more))) { s with heap := h', toks := tk } :=
      I.write (x := a) (e := a) (by rw [ha]; exact True.intro) (.inl rfl) (fun b u hb z => k b u hb (by simp) z) ⟨o2, g1⟩
        (show ObjOk X.prog X.w _ _ _ (.dK (mergeK kvs more)) from ⟨Nat.le_trans (length_mergeK more kvs) hz, hd, merged xs' prs, KV.merge rp rel, dd'⟩)
    exact ⟨.non, _, I2, rfl, q⟩
def tUpdP (K : PySem.W.Frag) (to : TE) (t : TA) : TE := fun σ H Q => to σ H fun x H1 => (∃ a, x = V.ref a ∧ IsD H1 a) ∧ t σ H1 fun xs H2 => rUpdP K x xs H2 Q
variable {o e : Expr} {to : TE} {t : TA} {apos cpos : Pos}
theorem pe_updP {K : PySem.W.Frag} (hK : X.K = K) (hcalm : X.calm = true) (ho : PE X o to) (ha : PA X [e] t)
    (hb : attributeBase o "update" X.env (eval o X.env) = eval o X.env := by rfl)
    (hf : ((backTo cpos (starEach [e] X.env)).all (fun x => !x.1) && (backToKw cpos (keywordEach [] X.env)).all (fun x => x.1.isSome) && decide (([e] : List Expr).length + ([] : List Keyword).length + (if ([] : List Keyword).isEmpty then 0 else 1) < 30)) = true := by rfl)
    (hl : (apos.endLine == cpos.line) = true := by rfl) (hs : starEach [e] X.env = (false, eval e X.env) :: starEach [] X.env := by rfl) :
    PE X (.Call (.Attribute o "update" apos) [e] [] cpos) (tUpdP K to t) := by
  subst hK
  refine ⟨fun pins s σ H Q I h => wpAny_Call_method_late hb hf hl rfl (thn (ho.run pins s σ H _ I h) fun v s1 ⟨x, H1, I1, r1, ty, q1⟩ => ?_)⟩
  obtain ⟨a, rfl, hd⟩ := ty
  have ⟨t1, t2, _⟩ := isD_at I1 hd
  cases r1
  have hA := ha.run cpos pins s1 σ H1 _ I1 q1
  rw [hs] at hA
  refine ⟨"dict", "dict.update", PySem.F.plainAttrs_dict, PySem.F.slot_dict_update, PySem.F.type_dict_update, t1, t2, ?_⟩
  rw [hs]
  exact Calls.callWith_builtin rfl (Calls.evalArgs_plain (thn hA fun us s2 ⟨vs, H2, I2, r2, q2⟩ => mt_updP hcalm pins s2 σ H2 (.ref a) vs (.ref a) us Q I2 rfl r2 q2))
end
end Cs

/-! Dh: {k: v for target in iter}, k tuples: a new dict with tuple keys. -/
namespace Cs
open PySem PySem.Spec PyProof.Rows L2
section
variable {X : Cx}
/-- a key that is a tuple is put into the new dict -/
theorem put_tup {ps : List (Addr × Obj)} {τ : L2.St} {G : Hp} {t : Shared} {Er : Value → Shared → Prop} {d b : Addr} {old : List (List Key × V)} {ks : List Key} {y : V} {u : Value} {R : Unit → Shared → Prop} (hu : X.A.units + 1 < cLine) (J : Inv X ps τ G t) (ed : G d = some (.dT old)) (few : old.length < sizeLine)
    (eb : G b = some (.tup (ks.map kV))) (ry : RelV y u) (go : ∀ t', Inv X ps τ (upd G d (.dT (putK old ks y))) t' → R () t') : wpAny (model X.prog X.w) X.A (dictSet d (.ref b) u) R Er t := by
  obtain ⟨_, hsys, xs, rel, dd⟩ := dt_of J.hok ed
  have hx : xs.length ≤ sizeLine := by rw [← Paired.length rel]; omega
  refine wpAny_dictSet_heap (knd := tupleKind (mixKind X.prog X.w)) (show X.A.units < cLine by omega) (key_of J.hok eb) dd (fun h' dd' hs => go _ ?_) hx
  obtain ⟨o, es, ep, hq, h2, h3, h4, _, h5⟩ := dd'
  have hl : (putK old ks y).length ≤ sizeLine := by have := length_putK old ks y; omega
  refine d_write J (by rw [ed]; exact True.intro) hs ⟨o, hq⟩ ⟨hl, hsys, storedH xs ks b u, ?_, o, es, ep, hq, h2, h3, h4, h5⟩
  exact (KT.put rel ks eb ry).keeps fun c ys ec => (by rw [upd_ne (ne_of ec ed (fun z => nomatch z))]; exact ec)
/-- {k: v for target in iter}: tk gives tuples; W by the turn and a measure, as in tDc -/
def tDcT (wi : TI) (g : TG) (tk tv : TE) (vs : List Nat) : TE := fun τ G R => wi τ G fun J G1 => ∀ d, G1 d = none → ∃ W : Nat → Nat → Hp → Prop, (∃ m, W 0 m (upd G1 d (.dT []))) ∧ ∀ i m G2, W i m G2 →
  (J.stop i G2 ∧ R (.ref d) G2) ∨ (J.go i G2 ∧ ∃ Nx : Hp → Prop, (∀ G3, Nx G3 → ∃ m', m' < m ∧ W (i + 1) m' G3) ∧ ∀ x G3, J.yld i G2 x G3 → g x (wipe τ vs) G3 fun τ4 G4 => wipe τ4 vs = wipe τ vs ∧
    tk τ4 G4 fun y G5 => tv τ4 G5 fun z G6 => ∃ b old ks, y = .ref b ∧ G6 b = some (.tup (ks.map kV)) ∧ G6 d = some (.dT old) ∧ old.length < sizeLine ∧ Nx (upd G6 d (.dT (putK old ks z))))
theorem dcT_core {ps : List (Addr × Obj)} {t : Shared} {τ : L2.St} {G : Hp} {R : VK} {kx vx tg iter : Expr} {scope : Scope} {own : List (Str × Nat)} {pos pos' : Pos} {wi : TI} {g : TG} {tk tv : TE} {use : Option (Value → Sem Unit)} {Qf : Value → Shared → Prop} (calm : X.calm = true) (hu : X.A.units + 1 < cLine) (nd : X.N.Nodup) (J0 : Inv X ps τ G t) (hi : PI X tg iter wi) (ok : BlkOk X.N X.env.scope scope own)
    (hg : ∀ (t : Shared) (G : Hp) (c : Addr) (cl : List (Str × Addr)) (fp : List Addr), PG (X.blk t G scope (compEnvC scope cl c X.env) fp) tg g)
    (hk : ∀ (t : Shared) (G : Hp) (c : Addr) (cl : List (Str × Addr)) (fp : List Addr), PE (X.blk t G scope (compEnvC scope cl c X.env) fp) kx tk)
    (hv : ∀ (t : Shared) (G : Hp) (c : Addr) (cl : List (Str × Addr)) (fp : List Addr), PE (X.blk t G scope (compEnvC scope cl c X.env) fp) vx tv) (hf : ∀ x, foldedSetIterable iter X.env x = pure x) (want : tDcT wi g tk tv (own.map (·.2)) τ G R)
    (fin : ∀ d c t' m G', Inv X ps τ G' t' → R (.ref d) G' → t'.heap.Ns c m → FpOk X ps G' c → compPost (model X.prog X.w) X.A X.xe use Qf (.ref d) c (.ok .next) t') :
    wpAny (model X.prog X.w) X.A (comprehension (.DictComp kx vx [⟨tg, iter, [], 0⟩] scope pos) scope X.env pos' newDict false (eval iter X.env) use) Qf X.xe t := by
  have hfree : ∀ y ∈ scope.names, y.2 = .free → ∃ c, X.env.cells.lookup y.1 = some c := fun y hy e => (ok.free y hy e).elim (fun k => J0.ok.has _ (.inl k)) fun k => J0.ok.has _ (.inr k)
  refine wpAny_comprehension_free (use := use) rfl hf (closure_ok hfree) ok.kind (fun y hy e => by rw [ok.uniq y hy, e]) (thn (hi.run ps t τ G _ J0 want) fun xv t1 hx => thn hx fun itv t2 h2 => ?_)
  obtain ⟨it, fp, tn, It, G2, rfl, J2, T, st2, f2, q⟩ := h2
  refine wpAny_newObj_type (newEnv_comp ?_)
  generalize ed : t2.heap.objs.size = d
  obtain ⟨W, ⟨m0, w0⟩, turn⟩ := q d (J2.hok.fresh (Nat.le_of_eq ed))
  generalize e3 : ({ t2 with heap := t2.heap.push { cls := .type "dict", data := .dict #[] } } : Shared) = t3
  have J3 : Inv X ps τ (upd G2 d (.dT [])) t3 := by
    rw [← e3]
    refine J2.laid (t' := t2.toks) (fun b o e => Heap.get?_push_of_some _ e) (Nat.le_of_eq ed) ?_
    rw [← ed]
    exact dt_empty t2.heap J2.big
  have hp3 : t3.heap = t2.heap.push { cls := .type "dict", data := .dict #[] } := by rw [← e3]
  have grow : ∀ b o, t2.heap.get? b = some o → t3.heap.get? b = some o := fun b o e => by
    rw [hp3]
    exact Heap.get?_push_of_some _ e
  have f3 : ∀ b ∈ fp, FpOk X ps (upd G2 d (.dT [])) b ∧ b < t3.heap.objs.size := fun b hb => by
    obtain ⟨o, e, _⟩ := T.obj _ _ st2 b hb
    have lt := Heap.lt_size e
    exact ⟨⟨by rw [upd_ne (fun z => Nat.lt_irrefl _ (by rw [z, ← ed] at lt; exact lt))]; exact (f2 b hb).1, (f2 b hb).2⟩, Heap.lt_size (grow b o e)⟩
  have st3 : tn 0 t3.heap := T.keep _ _ _ st2 fun b _ o e => grow b o e
  have J4 := block_start J3 ok nd f3
  generalize ecl : cellsFrom (t3.heap.objs.size + 1) scope.names (cloFrom X.env.cells scope.names []) = cl at J4
  have rg := hg t3 (upd G2 d (.dT [])) t3.heap.objs.size cl fp
  have rk := hk t3 (upd G2 d (.dT [])) t3.heap.objs.size cl fp
  have rv := hv t3 (upd G2 d (.dT [])) t3.heap.objs.size cl fp
  have clean : ∀ b ∈ fp, (upd G2 d (.dT [])) b = none := fun b hb => (f3 b hb).1.1
  show codeAny _ _ (.compStart (.DictComp kx vx [⟨tg, iter, [], 0⟩] scope pos) 0 (.ref it) (.ref d) (compEnvC scope cl t3.heap.objs.size X.env)) (compPost (model X.prog X.w) X.A X.xe use Qf (.ref d) t3.heap.objs.size) { t3 with heap := pushCells (t3.heap.push { cls := .type "dict", data := .dict #[] }) scope.names }
  generalize ec : compEnvC scope cl t3.heap.objs.size X.env = ce at J4 rg rk rv ⊢
  have loc : ce.locals = t3.heap.objs.size := by subst ec; rfl
  generalize eG : upd G2 d (.dT []) = G3 at J3 J4 rg rk rv w0 clean f3
  generalize e4 : ({ t3 with heap := pushCells (t3.heap.push { cls := .type "dict", data := .dict #[] }) scope.names } : Shared) = t4 at J4 ⊢
  have st4 : tn 0 t4.heap := T.keep _ _ _ st3 fun b _ o e => by
    rw [← e4]
    exact pushCells_keeps _ _ _ _ (Heap.get?_push_of_some _ e)
  have fpok : ∀ {τ' : L2.St} {G' : Hp} {t' : Shared}, Inv (X.blk t3 G3 scope ce fp) [] τ' G' t' → (∀ b ∈ fp, G' b = none) → ∀ b ∈ fp, FpOk (X.blk t3 G3 scope ce fp) [] G' b := fun J' hn b hb =>
    ⟨hn b hb, (J'.ok.exf b hb).1, J'.ok.exfs b hb, .inl hb, fun x c e => (J'.ok.exf b hb).2 x c e, fun p hp => absurd (show p ∈ ([] : List (Addr × Obj)) ++ [] from hp) (by simp)⟩
  have turns : codeAny (model X.prog X.w) X.A (.compLoop (.DictComp kx vx [⟨tg, iter, [], 0⟩] scope pos) 0 (.ref it) (.ref d) ce) (compPost (model X.prog X.w) X.A X.xe use Qf (.ref d) t3.heap.objs.size) t4 := by
    refine compLoop_anyD (fun n t' => ∃ i G', Inv (X.blk t3 G3 scope ce fp) [] (wipe τ (own.map (·.2))) G' t' ∧ tn i t'.heap ∧ (∀ b ∈ fp, G' b = none) ∧ W i n G') ?_ m0 ⟨0, G3, J4, st4, clean, w0⟩
    rintro n t5 ⟨i, G5, J5, st5, n5, w5⟩
    rcases turn i n G5 w5 with ⟨halt, done⟩ | ⟨going, Nx, less, step⟩
    · refine thnF (T.done (X.blk t3 G3 scope ce fp) rfl rfl rfl calm i [] t5 _ G5 (fun _ _ => False) J5 (fpok J5 n5) st5 halt) fun r t6 ⟨er, J6⟩ => ?_
      subst er
      have J7 : Inv X ps τ G5 t6 := J3.call' (ch := fp) J6.os J6.base J6.hok J6.bare fun b hb => ⟨(f3 b hb).1.2.2.2.1, (f3 b hb).1.2.1, (f3 b hb).1.2.2.2.2.1, (f3 b hb).1.2.2.2.2.2⟩
      have hole : G5 ce.locals = none := J6.free
      obtain ⟨m, hm, _⟩ := J6.loc
      have hm : t6.heap.Ns ce.locals m := hm
      rw [loc] at hole hm
      exact fin d t3.heap.objs.size t6 m G5 J7 done hm (J3.fpOk (Nat.le_refl _) hole)
    · refine thnF (T.item (X.blk t3 G3 scope ce fp) rfl rfl rfl calm i [] t5 _ G5 (fun _ _ => False) J5 (fpok J5 n5) st5 going) fun r t6 ⟨u, er, h6⟩ => ?_
      subst er
      refine thnF h6 fun _ t7 ⟨x, G7, J7, r7, y7, st7, n7⟩ => ?_
      have P7 := J7.pinned (fpok J7 n7) (T.obj _ _ st7)
      refine thnF (rg.run _ t7 _ G7 x u _ P7 r7 (step x G7 y7)) fun _ t8 ⟨τ8, G8, J8, hw8, q8⟩ => ?_
      have next : ∀ {t' : Shared} {G' : Hp}, Inv (X.blk t3 G3 scope ce fp) ([] ++ pinsAt fp t7.heap) τ8 G' t' → Nx G' → ∃ m, m < n ∧ ∃ i G', Inv (X.blk t3 G3 scope ce fp) [] (wipe τ (own.map (·.2))) G' t' ∧ tn i t'.heap ∧ (∀ b ∈ fp, G' b = none) ∧ W i m G' := fun {t' G'} J' nx => by
        obtain ⟨m', lt, w'⟩ := less G' nx
        have kept : ∀ b ∈ fp, ∀ o, t7.heap.get? b = some o → t'.heap.get? b = some o ∧ G' b = none := fun b hb o e => by
          have z := J'.pin (b, o) (List.mem_append_right _ (List.mem_append_right _ (mem_pinsAt hb e)))
          exact ⟨z.1, z.2.1⟩
        refine ⟨m', lt, i + 1, G', (J'.unpinned (pins := [])).weak (by rw [← hw8, wipe_length]) (fun j v e => ?_), T.keep _ _ _ st7 fun b hb o e => (kept b hb o e).1, fun b hb => ?_, w'⟩
        · rw [← hw8] at e
          exact (wipe_some e).1
        · obtain ⟨o, e, _⟩ := T.obj _ _ st7 b hb
          exact (kept b hb o e).2
      show wpAny _ _ (forIn [] true _) _ _ t8
      refine wpAny_pure ?_
      rw [if_pos rfl]
      refine thnF (rk.run _ t8 τ8 G8 _ J8 q8) fun z9 t9 ⟨y9, G9, J9, ry9, q9⟩ => ?_
      refine thnF (rv.run _ t9 τ8 G9 _ J9 q9) fun z10 t10 ⟨y10, G10, J10, ry10, b, old, ks, ey, eb, eD, few, nx⟩ => ?_
      subst ey
      obtain rfl : z9 = Value.ref b := ry9
      exact put_tup (X := X.blk t3 G3 scope ce fp) hu J10 eD few eb ry10 fun t11 J11 => next J11 nx
  exact codeAny_compStart_dict turns (T.self X.A 0 _ _ _ st4 turns)
theorem pe_dcT {kx vx tg iter : Expr} {scope : Scope} {own : List (Str × Nat)} {pos : Pos} {wi : TI} {g : TG} {tk tv : TE} (calm : X.calm = true) (hu : X.A.units + 1 < cLine) (nd : X.N.Nodup) (hi : PI X tg iter wi) (ok : BlkOk X.N X.env.scope scope own)
    (hg : ∀ (t : Shared) (G : Hp) (c : Addr) (cl : List (Str × Addr)) (fp : List Addr), PG (X.blk t G scope (compEnvC scope cl c X.env) fp) tg g)
    (hk : ∀ (t : Shared) (G : Hp) (c : Addr) (cl : List (Str × Addr)) (fp : List Addr), PE (X.blk t G scope (compEnvC scope cl c X.env) fp) kx tk)
    (hv : ∀ (t : Shared) (G : Hp) (c : Addr) (cl : List (Str × Addr)) (fp : List Addr), PE (X.blk t G scope (compEnvC scope cl c X.env) fp) vx tv) (hf : ∀ x, foldedSetIterable iter X.env x = pure x := by intro _; rfl) :
    PE X (.DictComp kx vx [⟨tg, iter, [], 0⟩] scope pos) (tDcT wi g tk tv (own.map (·.2))) := by
  refine ⟨fun ps t τ G R J0 want => ?_⟩
  rw [arm_eval_DictComp]
  refine dcT_core calm hu nd J0 hi ok hg hk hv hf want fun d c t' m G' J q hm fo => ⟨m, hm, fun h'' sb => ?_⟩
  obtain ⟨p0, p1, _, p3, p4, p5⟩ := fo
  exact ⟨.ref d, G', J.turned (t' := t'.toks) (fun b o hb e => (sb.2 b hb).trans e) p0 p1 p3 p4 p5, rfl, q⟩
/-- name = {k: v for ..} on one line, the name a local -/
theorem ps_setDcT {i : Nat} {y : Str} {py : Pos} {kx vx tg iter : Expr} {scope : Scope} {own : List (Str × Nat)} {pos spos : Pos} {wi : TI} {g : TG} {tk tv : TE} (calm : X.calm = true) (hu : X.A.units + 1 < cLine) (nd : X.N.Nodup) (hy : X.N[i]? = some y) (loc : X.env.scope.names.lookup y = some .local)
    (sw : swapsWith (.DictComp kx vx [⟨tg, iter, [], 0⟩] scope pos) (some (.Name y py)) spos.line X.env = pure true) (hi : PI X tg iter wi) (ok : BlkOk X.N X.env.scope scope own)
    (hg : ∀ (t : Shared) (G : Hp) (c : Addr) (cl : List (Str × Addr)) (fp : List Addr), PG (X.blk t G scope (compEnvC scope cl c X.env) fp) tg g)
    (hk : ∀ (t : Shared) (G : Hp) (c : Addr) (cl : List (Str × Addr)) (fp : List Addr), PE (X.blk t G scope (compEnvC scope cl c X.env) fp) kx tk)
    (hv : ∀ (t : Shared) (G : Hp) (c : Addr) (cl : List (Str × Addr)) (fp : List Addr), PE (X.blk t G scope (compEnvC scope cl c X.env) fp) vx tv) (hf : ∀ x, foldedSetIterable iter X.env x = pure x := by intro _; rfl) :
    PS X (.Assign [.Name y py] (.DictComp kx vx [⟨tg, iter, [], 0⟩] scope pos) spos) (tAsg (tDcT wi g tk tv (own.map (·.2))) (gName i)) := by
  refine ⟨fun ps t τ G D J0 want => ?_⟩
  rw [exec_Assign_Name_used _ _ _ _ sw]
  refine wpAny_bind (wpAny_standAt (wpAny_bind ?_))
  show wpAny _ X.A (do let _ ← comprehension (.DictComp kx vx [⟨tg, iter, [], 0⟩] scope pos) scope X.env (firstIterPos [⟨tg, iter, [], 0⟩] pos) newDict false (eval iter X.env) (some (assign (.Name y py) X.env))) _ _ t
  have want : tDcT wi g tk tv (own.map (·.2)) τ G (fun x G1 => gName i x τ G1 D.nx) := want
  refine wpAny_bind (thn (dcT_core (Qf := fun _ t' => SP X ps D .next t') calm hu nd J0 hi ok hg hk hv hf want fun d c t' m G' J q hm fo => ?_) fun _ t' hq => wpAny_pure (wpAny_pure hq))
  show wpAny _ _ (assign (.Name y py) X.env (.ref d)) _ _ _
  refine wpAny_assign_Name (store_ok2 (v := V.ref d) J nd hy (.inl loc) rfl (fun t2 J2 ⟨a, sb, ha⟩ => ?_) (.inr loc))
  obtain ⟨p0, p1, _, p3, p4, p5⟩ := fo
  have off : c ≠ a := by
    rcases ha with z | z
    · rw [z]
      exact p1
    · exact fun e => p4 y a z e.symm
  exact ⟨m, hm.sameBut sb off, fun h3 sb3 => ⟨_, G', J2.turned (t' := t2.toks) (fun b o hb e => (sb3.2 b hb).trans e) p0 p1 p3 p4 p5, q⟩⟩
theorem sw_dict {kx vx : Expr} {gs : List Comprehension} {scope : Scope} {pos py : Pos} {y : Str} {l : Nat} {env : Env} (fn : env.scope.kind = .function) (loc : env.scope.names.lookup y = some .local) (ln : (py.line == pos.line) = true)
    (own : (scope.names.any fun (n, k) => n == y && (k == .local || k == .cell)) = false) : swapsWith (.DictComp kx vx gs scope pos) (some (.Name y py)) l env = pure true := by
  have k1 : env.kindOf y = some .local := loc
  have k2 : env.blockKind = .function := by
    unfold Env.blockKind
    rw [fn]
    rfl
  unfold swapsWith
  simp only [k2, k1, own, Expr.pos, ln]
  rfl
end
end Cs

/-! Dl: for v in d.values(), the dict's keys tuples. -/
namespace Cs
open PySem PySem.Spec PyProof.Rows L2
section
variable {X : Cx} {pins : List (Addr × Obj)} {σ : L2.St} {H : Hp} {s : Shared} {d : Addr} {o : Obj}
theorem frzTV {kvs : List (List Key × V)} (I : Inv X pins σ H s) (h : H d = some (.frz o (.dT kvs))) :
    (d == sysModules) = false ∧ s.heap.get? d = some o ∧ o.ExactDict ∧ ∃ (es : Array DictEntry) (ep : Nat), o.data = .dict es ep ∧ es.size = kvs.length ∧
      ∀ (i : Nat) (k : List Key) (v : V), kvs[i]? = some (k, v) → ∃ en : DictEntry, es[i]? = some en ∧ RelV v en.val := by
  obtain ⟨hd, z, hs, xs, pr, o', es, ep, ho, hx, hdt, he, _⟩ := I.hok d _ h
  rw [hd] at ho
  cases ho
  refine ⟨hs, hd, hx, es, ep, hdt, ?_, fun i k v e => ?_⟩
  · have l1 : es.size = xs.length := size_of_entries he
    have l2 : kvs.length = xs.length := Paired.length pr
    omega
  · obtain ⟨b, hb, e1, e2, e3⟩ := paired_get pr e
    have q := entry_at he i
    rw [hb] at q
    exact ⟨_, q, e3⟩
end
/-- the values of the locked dict with tuple keys -/
def Itdt (d : Addr) (o : Obj) (kvs : List (List Key × V)) : It :=
  ⟨fun i H => H d = some (.frz o (.dT kvs)) ∧ i < kvs.length, fun i H x H' => H' = H ∧ ∃ k, kvs[i]? = some (k, x), fun i H => H d = some (.frz o (.dT kvs)) ∧ kvs.length ≤ i⟩
theorem walk_valuesT {d : Addr} {o : Obj} {kvs : List (List Key × V)} : Walk (Itdt d o kvs) kvs.length (fun H => H d = some (.frz o (.dT kvs))) (fun i H x H' => H' = H ∧ ∃ k, kvs[i]? = some (k, x)) :=
  ⟨fun _ _ hi q => ⟨q, hi⟩, fun _ q => ⟨q, Nat.le_refl _⟩, fun _ _ _ _ _ _ y => y⟩
section
variable {P : Program} {w : World} {K : PySem.W.Frag} {tg : Expr} {d : Addr} {o : Obj} {es : Array DictEntry} {ep : Nat}
theorem turn_valsT {kvs : List (List Key × V)} (it : Addr) (hod : o.data = .dict es ep) : Turn P w K tg (Itdt d o kvs) [it] it (fun i h => h.IsValIter it d i kvs.length ep) where
  mem := by simp
  obj := fun i h st b hb => by
    have e : b = it := by simpa using hb
    subst e
    obtain ⟨oi, e, c, dd⟩ := st
    exact ⟨oi, e, fun v z => by rw [dd] at z; cases z⟩
  keep := fun i h h' st k => st.at fun oi e => k it (by simp) oi e
  item := by
    intro X hP hw hK hc i pins s σ H E I hf st hg
    subst hP hw hK
    obtain ⟨hd, hi⟩ := hg
    obtain ⟨f0, f1, f2, f3, f4, f5⟩ := hf it (by simp)
    obtain ⟨hs, hgd, hx, es', ep', hdt, hsz, ent⟩ := frzTV I hd
    obtain ⟨rfl, rfl⟩ := dict_ep hod hdt
    obtain ⟨⟨k, v⟩, hkv⟩ : ∃ p, kvs[i]? = some p := ⟨kvs[i], List.getElem?_eq_getElem hi⟩
    obtain ⟨en, hen, ru⟩ := ent i k v hkv
    have hie : i < es'.size := by rw [hsz]; exact hi
    obtain rfl : es'[i] = en := by rw [Array.getElem?_eq_getElem hie] at hen; exact Option.some.inj hen
    rw [← hsz] at st
    refine wpAny_pyNext_values_item_raw st ⟨o, hgd, hx, hdt⟩ hie fun h' st' sb => ?_
    have I1 : Inv X pins σ H { s with heap := h' } := I.turned (t' := s.toks) (fun b ob hb e => (sb.2 b hb).trans e) f0 f1 f3 f4 f5
    obtain ⟨oi, e, c, dd⟩ := id st'
    refine ⟨_, rfl, go_of (s := { s with heap := h' }) e c dd (by decide) ⟨v, H, I1, ru, ⟨rfl, k, hkv⟩, ?_, fun b hb => (hf b hb).1⟩⟩
    show h'.IsValIter it d (i + 1) kvs.length _
    rw [← hsz]
    exact st'
  done := by
    intro X hP hw hK hc i pins s σ H E I hf st hg
    subst hP hw hK
    obtain ⟨hd, hi⟩ := hg
    obtain ⟨f0, f1, f2, f3, f4, f5⟩ := hf it (by simp)
    obtain ⟨hs, hgd, hx, es', ep', hdt, hsz, ent⟩ := frzTV I hd
    obtain ⟨rfl, rfl⟩ := dict_ep hod hdt
    rw [← hsz] at st
    exact wpAny_pyNext_values_end_raw (I.ok.hd hc) st ⟨o, hgd, hx, hdt⟩ (by omega) fun h' eb => ⟨rfl, I.turned (t' := s.toks) (fun b ob hb e => eb b ob hb e) f0 f1 f3 f4 f5⟩
  self := fun A i s Q E st h => wpAny_pyIter_valiter st h
end
def iValsT (td : TE) : TI := fun σ H R => td σ H fun x H1 => ∃ d o kvs, x = .ref d ∧ H1 d = some (.frz o (.dT kvs)) ∧ R (Itdt d o kvs) H1
section
variable {X : Cx} {tg e : Expr} {td : TE} {apos cpos : Pos}
theorem pi_valuesT (he : PE X e td) (hbase : attributeBase e "values" X.env (eval e X.env) = eval e X.env := by rfl) (hline : (apos.endLine == cpos.line) = true := by rfl) : PI X tg (.Call (.Attribute e "values" apos) [] [] cpos) (iValsT td) := by
  refine ⟨fun pins s σ H R I h => ?_⟩
  refine wpAny_Call_method (T := "dict") (id := "dict.values") hbase rfl hline F.plainAttrs_dict F.slot_dict_values F.type_dict_values (thn (he.run pins s σ H _ I h) fun u s1 ⟨x, H1, I1, rx, d, o, kvs, ex, hd, q⟩ => ?_)
  subst ex
  obtain rfl : u = Value.ref d := rx
  obtain ⟨hs, hgd, hx, es, ep, hdt, hsz, ent⟩ := frzTV I1 hd
  have raw : s1.heap.DictRaw d es ep := ⟨o, hgd, hx, hdt⟩
  refine ⟨raw.typeIs, fun ob e => ?_, ?_⟩
  · cases e
    exact ⟨o, hgd, hx.2.1⟩
  have I2 : Inv X pins σ H1 { s1 with heap := s1.heap.push { cls := .type "dict_values", data := .fields #[.ref d] } } := I1.kept (t' := s1.toks) fun b ob q => Heap.get?_push_of_some _ q
  have raw2 : (s1.heap.push { cls := .type "dict_values", data := .fields #[.ref d] }).DictRaw d es ep := raw.at fun u e => Heap.get?_push_of_some _ e
  have fin : wpAny (model X.prog X.w) X.A (pyIter (.ref s1.heap.objs.size)) (PIE X pins σ tg R) X.xe { s1 with heap := s1.heap.push { cls := .type "dict_values", data := .fields #[.ref d] } } := by
    refine wpAny_pyIter_values_raw (d := d) ⟨_, Heap.get?_push_size _ rfl, rfl, rfl⟩ raw2 (pi_one (tk := s1.toks) I2 _ (turn_valsT _ hdt) ⟨_, Heap.get?_push_size _ rfl, rfl, ?_⟩ q)
    rw [hsz] <;> rfl
  show wpAny _ _ (callWith cpos (.builtin "dict.values") [.ref d] [] []) _ X.xe s1
  exact method_meetsIn F.slot_dict_values F.entry_dict_values rfl (PySem.evalArgs_none ⟨rfl, raw.typeIs, F.args_dict_values_1 _, _, meets_dict_values_raw d hs, ⟨⟨es, ep, raw⟩, fin⟩⟩)
end
end Cs

/-! Dm: sorted(list of pairs of a tuple of ints and an int). -/
namespace Cs
open PySem PySem.Spec PyProof.Rows L2 SrtO
theorem code_snoc (B m : Int) : ∀ ns : List Int, TS.code B (ns ++ [m]) = TS.code B ns * B + m
  | [] => by
    show m * B ^ 0 + 0 = 0 * B + m
    rw [Int.pow_zero]
    omega
  | d :: r => by
    show d * B ^ (r ++ [m]).length + TS.code B (r ++ [m]) = (d * B ^ r.length + TS.code B r) * B + m
    rw [code_snoc B m r, List.length_append, Int.add_mul, Int.mul_assoc, ← Int.pow_succ]
    exact (Int.add_assoc ..).symm
theorem lex_tri {B : Int} : ∀ {ns ms : List Int}, ns.length = ms.length → TS.Bd B ns → TS.Bd B ms → (HT.lexLt ns ms = true ∧ TS.code B ns < TS.code B ms) ∨ ns = ms ∨ (HT.lexLt ns ms = false ∧ TS.code B ms < TS.code B ns)
  | [], [], _, _, _ => .inr (.inl rfl)
  | x :: xs, y :: ys, hl, h1, h2 => by
    have hl' : xs.length = ys.length := by simpa using hl
    rw [HT.lexLt_cons]
    by_cases e : x = y
    · subst e
      rw [if_pos rfl]
      rcases lex_tri hl' h1.tail h2.tail with ⟨a, b⟩ | a | ⟨a, b⟩
      · exact .inl ⟨a, (TS.code_same hl').mpr b⟩
      · exact .inr (.inl (by rw [a]))
      · exact .inr (.inr ⟨a, (TS.code_same hl'.symm).mpr b⟩)
    · rw [if_neg e]
      by_cases h : x < y
      · exact .inl ⟨decide_eq_true h, TS.code_lt hl' h1.tail h2.tail h⟩
      · exact .inr (.inr ⟨decide_eq_false h, TS.code_lt hl'.symm h2.tail h1.tail (by omega)⟩)
  | [], _ :: _, h, _, _ => by simp at h
  | _ :: _, [], h, _, _ => by simp at h
/-- a pair of a tuple of ints and an int -/
def NT (P : Program) (w : World) (h : Heap) (v : Value) (ns : List Int) (m : Int) : Prop := ∃ (r : Addr) (o : Obj) (n : Nat) (a : Addr) (t : Tok), v = .ref r ∧ h.get? r = some o ∧ o.cls = .type "tuple" ∧ o.data = .seq #[.ref a, .int m t] n ∧ IsTupleKey (intKind P w) h ns a
theorem NT.keep {P : Program} {w : World} {h h' : Heap} {v : Value} {ns : List Int} {m : Int} (x : NT P w h v ns m) (k : ∀ b o, h.get? b = some o → o.cls = .type "tuple" → h'.get? b = some o) : NT P w h' v ns m := by
  obtain ⟨r, o, n, a, t, e, ho, hc, hd, o2, items, n2, h2, c2, d2, i2⟩ := x
  exact ⟨r, o, n, a, t, e, k _ _ ho hc, hc, hd, o2, items, n2, k _ _ h2 c2, c2, d2, i2⟩
section
variable {prog : Program} {w : World} {A : Around} {E : Value → Shared → Prop} {s : Shared}
theorem nt_cmp {d : Nat} {B : Int} {vs : List Value} {k : Value → Int} (hu : A.units < cLine) (hp : ∀ v ∈ vs, ∃ ns m, NT prog w s.heap v ns m ∧ ns.length = d ∧ TS.Bd B ns ∧ (0 ≤ m ∧ m < B) ∧ k v = TS.code B (ns ++ [m])) : SrtO.Cmp prog w A s (tuples' false) (fun p => p.1 ∈ vs) (SrtO.lt2 fun v u => decide (k v < k u)) := by
  intro p q hm hm'
  obtain ⟨ns, x, tp, lp, bp, xp, kp⟩ := hp _ hm
  obtain ⟨ms, y, tq, lq, bq, yq, kq⟩ := hp _ hm'
  show wpAny (model prog w) A (keyLt' (tuples' false) p.1 q.1) (fun r s' => s' = s ∧ r = decide (k p.1 < k q.1)) (fun _ _ => False) s
  rw [kp, kq, code_snoc, code_snoc]
  obtain ⟨r, o, n, a, t, e1, ho, hc, hdt, ia⟩ := tp
  obtain ⟨r', o', n', a', t', e2, ho', hc', hdt', ib⟩ := tq
  rw [e1, e2]
  refine PySem.W.kat_lt ho hdt ho' hdt' ?_
  rw [show decide ((#[Value.ref a, Value.int x t] : Array Value).size < (#[Value.ref a', Value.int y t'] : Array Value).size) = false from rfl]
  show PySem.W.KatLex prog w A false false _ [(Value.ref a, Value.ref a'), (Value.int x t, Value.int y t')] 0 s
  refine PySem.W.kat_cons (wpAny_eqBool_tuple hu ia ib ?_)
  by_cases e : ns = ms
  · subst e
    rw [decide_eq_true rfl]
    refine PySem.W.kat_yes (PySem.W.kat_cons (wpAny_eqBool_int ?_))
    by_cases e3 : x = y
    · subst e3
      rw [beq_self_eq_true]
      refine PySem.W.kat_yes (PySem.W.kat_nil ⟨rfl, ?_⟩)
      exact (decide_eq_false (Int.lt_irrefl _)).symm
    · rw [show (x == y) = false by simpa using e3]
      refine PySem.W.kat_no (TS.oneLt_ints _ ⟨rfl, ?_⟩)
      exact decide_eq_decide.mpr (by omega)
  · rw [decide_eq_false e]
    obtain ⟨oa, items, na, ga, ca, da, ita⟩ := ia
    obtain ⟨ob, items', nb, gb, cb, db, itb⟩ := ib
    refine PySem.W.kat_no (PySem.W.kat_one _ _ (HT.lt_tupInts (l := a) (b := a') ⟨oa, ga, ca, na, da⟩ ⟨ob, gb, cb, nb, db⟩ (ints_of_items ita) (ints_of_items itb) hu ?_))
    show s = s ∧ HT.lexLt ns ms = _
    refine ⟨rfl, ?_⟩
    rcases lex_tri (B := B) (by rw [lp, lq]) bp bq with ⟨g, h⟩ | h | ⟨g, h⟩
    · rw [g]
      refine (decide_eq_true ?_).symm
      have h1 := Int.mul_le_mul_of_nonneg_right (show TS.code B ns + 1 ≤ TS.code B ms by omega) (show 0 ≤ B by omega)
      rw [Int.add_mul, Int.one_mul] at h1
      omega
    · exact absurd h e
    · rw [g]
      refine (decide_eq_false ?_).symm
      have h1 := Int.mul_le_mul_of_nonneg_right (show TS.code B ms + 1 ≤ TS.code B ns by omega) (show 0 ≤ B by omega)
      rw [Int.add_mul, Int.one_mul] at h1
      omega
theorem nt_firsts : ∀ vs : List Value, (∀ v ∈ vs, ∃ ns m, NT prog w s.heap v ns m) → ∃ fs, PySem.W.KatTups s.heap vs fs ∧ fs.length = vs.length ∧ ∀ f ∈ fs, ∃ (a : Addr) (o : Obj), f = .ref a ∧ s.heap.get? a = some o ∧ o.cls = .type "tuple"
  | [], _ => ⟨[], PySem.W.KatTups.nil, rfl, fun f h => by cases h⟩
  | v :: vs, h => by
    obtain ⟨fs, h1, h2, h3⟩ := nt_firsts vs fun u hu => h u (List.mem_cons_of_mem _ hu)
    obtain ⟨ns, m, r, o, n, a, t, rfl, ho, hc, hd, oa, items, na, ga, ca, _⟩ := h v (List.mem_cons_self ..)
    refine ⟨.ref a :: fs, PySem.W.KatTups.cons ho hc hd rfl h1, by rw [List.length_cons, List.length_cons, h2], fun f hf => ?_⟩
    rcases List.mem_cons.mp hf with rfl | hf
    · exact ⟨a, oa, rfl, ga, ca⟩
    · exact h3 f hf
theorem nt_sortable {a : Addr} {d : Nat} {B : Int} {vs : List Value} {k : Value → Int} (hu : A.units < cLine) (h0 : 0 < vs.length) (hp : ∀ v ∈ vs, ∃ ns m, NT prog w s.heap v ns m ∧ ns.length = d ∧ TS.Bd B ns ∧ (0 ≤ m ∧ m < B) ∧ k v = TS.code B (ns ++ [m])) (ha : ∀ o, s.heap.get? a = some o → o.cls ≠ .type "tuple") :
    SrtO.SortableO prog w A s a vs fun v u => decide (k v < k u) := by
  intro h' keep
  have hp' : ∀ v ∈ vs, ∃ ns m, NT prog w h' v ns m ∧ ns.length = d ∧ TS.Bd B ns ∧ (0 ≤ m ∧ m < B) ∧ k v = TS.code B (ns ++ [m]) := fun v hm => by
    obtain ⟨ns, m, t, r⟩ := hp v hm
    exact ⟨ns, m, t.keep fun b o e c => keep b o (fun z => by subst z; exact ha o e c) e, r⟩
  obtain ⟨fs, h1, h2, h3⟩ := nt_firsts (prog := prog) (w := w) (s := { s with heap := h' }) vs fun v hv => by
    obtain ⟨ns, m, t, _⟩ := hp' v hv
    exact ⟨ns, m, t⟩
  refine ⟨tuples' false, fun Q E hq => ?_, nt_cmp (s := { s with heap := h' }) hu hp'⟩
  refine PySem.W.kat_kind (T := .type "tuple") h1 (by omega) (fun f hm => ?_) (by rfl) ?_
  · obtain ⟨b, o, rfl, ho, hc⟩ := h3 f hm
    have := (show PySem.W.Looks (model prog w) h' (typeOf (.ref b)) o.cls from (PySem.W.Looks.ld ho).andThen .now)
    rw [hc] at this
    exact this
  · have e : (Value.type "tuple" != Value.type "tuple") = false := by first | decide +kernel | rfl | decide
    rw [e]
    exact hq
/-- sorted(l) of such pairs -/
theorem sorted_nt {l : Addr} {d : Nat} {B : Int} {vs : List Value} {k : Value → Int} {Q : Value → Shared → Prop} (hu : A.units + 2 < cLine) (hl : s.heap.IsList l vs.toArray) (hz : vs.length ≤ sizeLine) (hp : ∀ v ∈ vs, ∃ ns m, NT prog w s.heap v ns m ∧ ns.length = d ∧ TS.Bd B ns ∧ (0 ≤ m ∧ m < B) ∧ k v = TS.code B (ns ++ [m]))
    (h : ∀ (h' : Heap) (d : Addr) (out : List Value), SrtO.Srtd (fun v u => decide (k v < k u)) out → SrtO.Stb (fun v u => decide (k v < k u)) out vs → (∀ b o, s.heap.get? b = some o → h'.get? b = some o) → s.heap.objs.size ≤ d → (∃ n, h'.get? d = some (seqObj "list" out.toArray n)) → Q (.ref d) { s with heap := h' }) :
    wpAny (model prog w) A (call (.builtin "sorted") [.ref l]) Q E s := by
  refine SrtO.sorted_ord (swo_key k) hl hz (fun h2 h₁ a ha kk => ?_) fun out hs hb => ?_
  · refine nt_sortable (A := A.in1.in1) (d := d) (B := B) (s := { s with heap := h₁ }) (by simp only [Around.in1_units]; omega) (by omega) (fun v hm => ?_) fun o e => ?_
    · obtain ⟨ns, m, t, r⟩ := hp v hm
      exact ⟨ns, m, t.keep fun b o e _ => (kk b o e).2, r⟩
    · have e' : some o = some (seqObj "list" vs.toArray 0) := e.symm.trans ha
      cases e'
      intro c
      exact absurd (Value.type.inj c) (by decide)
  · exact h _ _ out hs hb (fun b o e => sortedAll_old e) (Nat.le_succ _) (sortedAll_at s.heap vs out.toArray)
end
/-- the code of the pair that a value stands for -/
def keyN (H : Hp) : V → Int
  | .ref r => match H r with
    | some (.tup [.ref a, .int m]) => match H a with
      | some (.tup xs) => TS.code (2 ^ 1000) (xs.map intV ++ [m])
      | _ => 0
    | _ => 0
  | _ => 0
/-- a pair of a tuple of ints and an int -/
def PT (H : Hp) (y : V) (z : List Int × Int) : Prop := ∃ r a, y = .ref r ∧ H r = some (.tup [.ref a, .int z.2]) ∧ H a = some (.tup (z.1.map V.int))
def cdN (z : List Int × Int) : Int := TS.code (2 ^ 1000) (z.1 ++ [z.2])
theorem keyN_at {H : Hp} {y : V} {z : List Int × Int} (h : PT H y z) : keyN H y = cdN z := by
  obtain ⟨r, a, rfl, h1, h2⟩ := h
  unfold keyN cdN
  simp only [h1, h2, intV_map]
/-- sorted(list of pairs of a tuple of ints and an int) -/
def rSortNT : List V → Hp → VK → Prop := fun vs H Q => ∃ (l : Addr) (zs : List (V × (List Int × Int))) (d : Nat), vs = [.ref l] ∧ H l = some (.lst (zs.map (·.1))) ∧ (∀ z ∈ zs, PT H z.1 z.2 ∧ z.2.1.length = d ∧ TS.Bd (2 ^ 1000) z.2.1 ∧ 0 ≤ z.2.2 ∧ z.2.2 < 2 ^ 1000) ∧
  ∀ (p : Addr) (hs : List (V × (List Int × Int))), H p = none → hs.Perm zs → (hs.map (·.2)).Pairwise (fun x y => cdN x ≤ cdN y) → Q (.ref p) (upd H p (.lst (hs.map (·.1))))
theorem cr_sortNT {X : Cx} (hu : X.A.units + 64 < cLine) : CallR X (.builtin "sorted") rSortNT := by
  intro pins s σ H vs us Q I r h
  obtain ⟨l, zs, d, rfl, hl, hz, q⟩ := h
  have hs : SqL X.K H l (zs.map (·.1)) := .inl (.inl hl)
  obtain ⟨its, rv, hl2, hsz⟩ := I.list hs
  obtain ⟨u, rfl, ru⟩ := vals1 r
  obtain rfl : u = Value.ref l := ru
  obtain ⟨e1, e2⟩ := refs_back rv fun x m => by
    obtain ⟨z, hz2, rfl⟩ := List.mem_map.mp m
    obtain ⟨⟨t, a, e, _⟩, _⟩ := hz z hz2
    exact ⟨t, e⟩
  refine sorted_nt (d := d) (B := 2 ^ 1000) (k := fun u => keyN H (backV u)) (by omega) hl2.isList (by rw [← rv.length]; exact hsz) (fun v hv => ?_) fun h' dd out h1 h2 kp hd hn => ?_
  · obtain ⟨t, rfl⟩ := e2 v hv
    have hm : V.ref t ∈ zs.map (·.1) := by rw [e1]; exact List.mem_map.mpr ⟨_, hv, rfl⟩
    obtain ⟨z, hz2, ez⟩ := List.mem_map.mp hm
    obtain ⟨hPT, hzl, hzb, hz0, hz1⟩ := hz z hz2
    have hk := keyN_at hPT
    obtain ⟨r, a, er, g1, g2⟩ := hPT
    rw [er] at ez
    cases ez
    obtain ⟨_, its2, r2, o, ho, hc, n, hdt⟩ := I.hok _ _ g1
    obtain ⟨u1, u2, rfl, ru1, ru2⟩ : ∃ u1 u2, its2 = [u1, u2] ∧ RelV (.ref a) u1 ∧ RelV (.int z.2.2) u2 := by
      cases r2 with
      | cons x1 y1 => cases y1 with
        | cons x2 y2 => cases y2 with
          | nil => exact ⟨_, _, rfl, x1, x2⟩
    obtain rfl : u1 = Value.ref a := ru1
    obtain ⟨tk, rfl⟩ := ru2
    refine ⟨z.2.1, z.2.2, ⟨_, o, n, a, tk, rfl, ho, hc, hdt, I.isT (.inl (.inl g2))⟩, hzl, hzb, ⟨hz0, hz1⟩, ?_⟩
    show keyN H (.ref _) = _
    rw [← er]
    exact hk
  · have h3 : ∀ u ∈ out, ∃ a, u = Value.ref a := fun u hu => e2 u (h2.perm.mem_iff.mp hu)
    obtain ⟨n, hn⟩ := hn
    have hb2 : SrtO.Stb (fun v u => decide (keyN H v < keyN H u)) (out.map backV) (zs.map (·.1)) := by
      rw [e1]
      exact SrtO.Stb.map (swo_keyV (keyN H)) backV h2
    have hsr := SrtO.srtd_map (lt := fun v u => decide (keyN H v < keyN H u)) (f := backV) h1
    obtain ⟨hs, hsp, ez⟩ := perm_lift (f := fun p : V × (List Int × Int) => p.1) hb2.perm zs rfl
    have hhat : ∀ z ∈ hs, PT H z.1 z.2 := fun z hz2 => (hz z (hsp.mem_iff.mp hz2)).1
    have q' := q dd hs (I.hok.fresh hd) hsp ?_
    · have ez' : hs.map (·.1) = out.map backV := ez
      rw [ez'] at q'
      refine ⟨.ref dd, upd H dd (.lst (out.map backV)), I.laid (t' := s.toks) kp hd ⟨?_, out, n, vals_back h3, hn⟩, rfl, q'⟩
      rw [hb2.len]
      exact hsz
    · rw [← ez] at hsr
      rw [List.pairwise_map]
      have hsr2 := List.pairwise_map.mp hsr
      refine List.Pairwise.imp_of_mem (fun {a b} ha hb h => ?_) hsr2
      have h := of_decide_eq_false h
      rw [keyN_at (hhat a ha), keyN_at (hhat b hb)] at h
      omega
end Cs

namespace Lw
open PySem PySem.Spec PyProof.Rows L2 Cs
def top (i : Nat) : Stmt := PySem.Challenge.pw_calledseats_k25_whole_one_target.main.body.getD i (.Pass ⟨0, 0, 0, 0⟩)
abbrev d_is_integer : Stmt := top 12
abbrev N_is_integer : List Str := ["number"]
theorem sc_is_integer : FnScope N_is_integer ["number"] (defScope d_is_integer) := ⟨rfl, rfl, rfl, by decide +kernel, rfl, by decide +kernel, by decide +kernel⟩
abbrev d_is_seat : Stmt := top 13
abbrev N_is_seat : List Str := ["sizes", "seat", "place", "size"]
theorem sc_is_seat : FnScope N_is_seat ["sizes", "seat"] (defScope d_is_seat) := ⟨rfl, rfl, rfl, by decide +kernel, rfl, by decide +kernel, by decide +kernel⟩
abbrev d_is_call : Stmt := top 14
abbrev N_is_call : List Str := ["sizes", "call", "part"]
theorem sc_is_call : FnScope N_is_call ["sizes", "call"] (defScope d_is_call) := ⟨rfl, rfl, rfl, by decide +kernel, rfl, by decide +kernel, by decide +kernel⟩
abbrev d_require_seat : Stmt := top 16
abbrev N_require_seat : List Str := ["sizes", "seat"]
theorem sc_require_seat : FnScope N_require_seat ["sizes", "seat"] (defScope d_require_seat) := ⟨rfl, rfl, rfl, by decide +kernel, rfl, by decide +kernel, by decide +kernel⟩
abbrev d_require_seats : Stmt := top 19
abbrev N_require_seats : List Str := ["sizes", "seats", "seen", "index", "seat"]
theorem sc_require_seats : FnScope N_require_seats ["sizes", "seats"] (defScope d_require_seats) := ⟨rfl, rfl, rfl, by decide +kernel, rfl, by decide +kernel, by decide +kernel⟩
abbrev d_require_targets : Stmt := top 20
abbrev N_require_targets : List Str := ["sizes", "targets"]
theorem sc_require_targets : FnScope N_require_targets ["sizes", "targets"] (defScope d_require_targets) := ⟨rfl, rfl, rfl, by decide +kernel, rfl, by decide +kernel, by decide +kernel⟩
abbrev d_Table_init : Stmt := inClass (top 24) 0
abbrev N_Table_init : List Str := ["self", "rings"]
theorem sc_Table_init : FnScope N_Table_init ["self", "rings"] (defScope d_Table_init) := ⟨rfl, rfl, rfl, by decide +kernel, rfl, by decide +kernel, by decide +kernel⟩
abbrev d_Table_sizes : Stmt := inClass (top 24) 1
abbrev N_Table_sizes : List Str := ["self"]
theorem sc_Table_sizes : FnScope N_Table_sizes ["self"] (defScope d_Table_sizes) := ⟨rfl, rfl, rfl, by decide +kernel, rfl, by decide +kernel, by decide +kernel⟩
abbrev d_Table_count : Stmt := inClass (top 24) 2
abbrev N_Table_count : List Str := ["self", "seats", "size"]
theorem sc_Table_count : FnScope N_Table_count ["self"] (defScope d_Table_count) := ⟨rfl, rfl, rfl, by decide +kernel, rfl, by decide +kernel, by decide +kernel⟩
abbrev d_sizes_of : Stmt := top 25
abbrev N_sizes_of : List Str := ["table"]
theorem sc_sizes_of : FnScope N_sizes_of ["table"] (defScope d_sizes_of) := ⟨rfl, rfl, rfl, by decide +kernel, rfl, by decide +kernel, by decide +kernel⟩
abbrev d_both_moves : Stmt := top 26
abbrev N_both_moves : List Str := ["sizes", "seat", "call", "forward", "backward", "place", "part", "size"]
theorem sc_both_moves : FnScope N_both_moves ["sizes", "seat", "call"] (defScope d_both_moves) := ⟨rfl, rfl, rfl, by decide +kernel, rfl, by decide +kernel, by decide +kernel⟩
abbrev d_stepped : Stmt := top 27
abbrev N_stepped : List Str := ["sizes", "seat", "call", "direction", "forward", "backward"]
theorem sc_stepped : FnScope N_stepped ["sizes", "seat", "call", "direction"] (defScope d_stepped) := ⟨rfl, rfl, rfl, by decide +kernel, rfl, by decide +kernel, by decide +kernel⟩
abbrev d_require_small : Stmt := top 28
abbrev N_require_small : List Str := ["table"]
theorem sc_require_small : FnScope N_require_small ["table"] (defScope d_require_small) := ⟨rfl, rfl, rfl, by decide +kernel, rfl, by decide +kernel, by decide +kernel⟩
abbrev d_all_seats : Stmt := top 29
abbrev N_all_seats : List Str := ["sizes", "size"]
theorem sc_all_seats : FnScope N_all_seats ["sizes"] (defScope d_all_seats) := ⟨rfl, rfl, rfl, by decide +kernel, rfl, by decide +kernel, by decide +kernel⟩
abbrev d_all_choices : Stmt := top 30
abbrev N_all_choices : List Str := ["options", "found", "parts", "chosen", "part"]
theorem sc_all_choices : FnScope N_all_choices ["options"] (defScope d_all_choices) := ⟨rfl, rfl, rfl, by decide +kernel, rfl, by decide +kernel, by decide +kernel⟩
abbrev d_are_sizes : Stmt := top 31
abbrev N_are_sizes : List Str := ["rings", "size"]
theorem sc_are_sizes : FnScope N_are_sizes ["rings"] (defScope d_are_sizes) := ⟨rfl, rfl, rfl, by decide +kernel, rfl, by decide +kernel, by decide +kernel⟩
abbrev d_Grid_init : Stmt := inClass (top 33) 0
abbrev N_Grid_init : List Str := ["self", "sizes", "codes", "doubles", "mirrors", "strides", "room", "size", "place", "stride", "double"]
theorem sc_Grid_init : FnScope N_Grid_init ["self", "sizes"] (defScope d_Grid_init) := ⟨rfl, rfl, rfl, by decide +kernel, rfl, by decide +kernel, by decide +kernel⟩
abbrev d_Grid_index_of : Stmt := inClass (top 33) 1
abbrev N_Grid_index_of : List Str := ["self", "seat", "at", "place", "_", "size"]
theorem sc_Grid_index_of : FnScope N_Grid_index_of ["self", "seat"] (defScope d_Grid_index_of) := ⟨rfl, rfl, rfl, by decide +kernel, rfl, by decide +kernel, by decide +kernel⟩
abbrev d_Grid_widened : Stmt := inClass (top 33) 2
abbrev N_Grid_widened : List Str := ["self", "seats", "stride", "size"]
theorem sc_Grid_widened : FnScope N_Grid_widened ["self", "seats"] (defScope d_Grid_widened) := ⟨rfl, rfl, rfl, by decide +kernel, rfl, by decide +kernel, by decide +kernel⟩
abbrev d_Spread_init : Stmt := inClass (top 34) 0
abbrev N_Spread_init : List Str := ["self", "grid", "targets"]
theorem sc_Spread_init : FnScope N_Spread_init ["self", "grid", "targets"] (defScope d_Spread_init) := ⟨rfl, rfl, rfl, by decide +kernel, rfl, by decide +kernel, by decide +kernel⟩
abbrev d_Spread_all_rows : Stmt := inClass (top 34) 1
abbrev N_Spread_all_rows : List Str := ["self", "row"]
theorem sc_Spread_all_rows : FnScope N_Spread_all_rows ["self"] (defScope d_Spread_all_rows) := ⟨rfl, rfl, rfl, by decide +kernel, rfl, by decide +kernel, by decide +kernel⟩
abbrev d_Spread_number_of : Stmt := inClass (top 34) 2
abbrev N_Spread_number_of : List Str := ["self", "at"]
theorem sc_Spread_number_of : FnScope N_Spread_number_of ["self", "at"] (defScope d_Spread_number_of) := ⟨rfl, rfl, rfl, by decide +kernel, rfl, by decide +kernel, by decide +kernel⟩
abbrev d_Spread_call_from : Stmt := inClass (top 34) 3
abbrev N_Spread_call_from : List Str := ["self", "at", "number", "meeting", "goal", "code", "stride", "size"]
theorem sc_Spread_call_from : FnScope N_Spread_call_from ["self", "at"] (defScope d_Spread_call_from) := ⟨rfl, rfl, rfl, by decide +kernel, rfl, by decide +kernel, by decide +kernel⟩
abbrev d_Spread_meeting : Stmt := inClass (top 34) 4
abbrev N_Spread_meeting : List Str := ["self", "number", "at", "wide", "mirrored"]
theorem sc_Spread_meeting : FnScope N_Spread_meeting ["self", "number", "at"] (defScope d_Spread_meeting) := ⟨rfl, rfl, rfl, by decide +kernel, rfl, by decide +kernel, by decide +kernel⟩
abbrev d_Spread_grow : Stmt := inClass (top 34) 5
abbrev N_Spread_grow : List Str := ["self", "row"]
theorem sc_Spread_grow : FnScope N_Spread_grow ["self"] (defScope d_Spread_grow) := ⟨rfl, rfl, rfl, by decide +kernel, rfl, by decide +kernel, by decide +kernel⟩
abbrev d_Spread_next_row : Stmt := inClass (top 34) 6
abbrev N_Spread_next_row : List Str := ["self", "wide", "_", "sums", "at", "bits", "spots"]
theorem sc_Spread_next_row : FnScope N_Spread_next_row ["self"] (defScope d_Spread_next_row) := ⟨rfl, rfl, rfl, by decide +kernel, rfl, by decide +kernel, by decide +kernel⟩
abbrev d_Spread_enter : Stmt := inClass (top 34) 7
abbrev N_Spread_enter : List Str := ["self", "row", "number", "at"]
theorem sc_Spread_enter : FnScope N_Spread_enter ["self", "row"] (defScope d_Spread_enter) := ⟨rfl, rfl, rfl, by decide +kernel, rfl, by decide +kernel, by decide +kernel⟩
abbrev d_spread_from : Stmt := top 35
abbrev N_spread_from : List Str := ["grid", "targets", "target"]
theorem sc_spread_from : FnScope N_spread_from ["grid", "targets"] (defScope d_spread_from) := ⟨rfl, rfl, rfl, by decide +kernel, rfl, by decide +kernel, by decide +kernel⟩
abbrev d_longer : Stmt := top 36
abbrev N_longer : List Str := ["codes", "size", "digits", "bases", "code", "base", "digit"]
theorem sc_longer : FnScope N_longer ["codes", "size", "digits"] (defScope d_longer) := ⟨rfl, rfl, rfl, by decide +kernel, rfl, by decide +kernel, by decide +kernel⟩
abbrev d_min_calls : Stmt := top 38
abbrev N_min_calls : List Str := ["table", "targets", "seat", "spread", "at"]
theorem sc_min_calls : FnScope N_min_calls ["table", "targets", "seat"] (defScope d_min_calls) := ⟨rfl, rfl, rfl, by decide +kernel, rfl, by decide +kernel, by decide +kernel⟩
abbrev d_layers : Stmt := top 39
abbrev N_layers : List Str := ["table", "targets", "rows", "seats", "row", "at"]
theorem sc_layers : FnScope N_layers ["table", "targets"] (defScope d_layers) := ⟨rfl, rfl, rfl, by decide +kernel, rfl, by decide +kernel, by decide +kernel⟩
abbrev d_plan_depths : Stmt := top 40
abbrev N_plan_depths : List Str := ["table", "targets", "plan", "sizes", "depths", "rows", "index", "entry", "depth", "target"]
theorem sc_plan_depths : FnScope N_plan_depths ["table", "targets", "plan"] (defScope d_plan_depths) := ⟨rfl, rfl, rfl, by decide +kernel, rfl, by decide +kernel, by decide +kernel⟩
abbrev d_make_plan : Stmt := top 41
abbrev N_make_plan : List Str := ["table", "targets", "spread", "rows", "seats", "row", "at"]
theorem sc_make_plan : FnScope N_make_plan ["table", "targets"] (defScope d_make_plan) := ⟨rfl, rfl, rfl, by decide +kernel, rfl, by decide +kernel, by decide +kernel⟩
abbrev d_spread_for_all : Stmt := top 42
abbrev N_spread_for_all : List Str := ["table", "targets", "sizes"]
theorem sc_spread_for_all : FnScope N_spread_for_all ["table", "targets"] (defScope d_spread_for_all) := ⟨rfl, rfl, rfl, by decide +kernel, rfl, by decide +kernel, by decide +kernel⟩
abbrev d_spread_for_seat : Stmt := top 43
abbrev N_spread_for_seat : List Str := ["table", "targets", "seat", "sizes", "grid"]
theorem sc_spread_for_seat : FnScope N_spread_for_seat ["table", "targets", "seat"] (defScope d_spread_for_seat) := ⟨rfl, rfl, rfl, by decide +kernel, rfl, by decide +kernel, by decide +kernel⟩
abbrev d_depth_of : Stmt := top 44
abbrev N_depth_of : List Str := ["sizes", "depths", "entry", "seat", "call", "forward", "backward", "ahead", "behind"]
theorem sc_depth_of : FnScope N_depth_of ["sizes", "depths", "entry"] (defScope d_depth_of) := ⟨rfl, rfl, rfl, by decide +kernel, rfl, by decide +kernel, by decide +kernel⟩
abbrev d_law_mix : Stmt := top 46
abbrev N_law_mix : List Str := ["_law_cell", "_law_turn", "_law_low"]
theorem sc_law_mix : FnScope N_law_mix ["_law_cell", "_law_turn"] (defScope d_law_mix) := ⟨rfl, rfl, rfl, by decide +kernel, rfl, by decide +kernel, by decide +kernel⟩
abbrev d_law_source : Stmt := top 47
abbrev N_law_source : List Str := ["_law_cell"]
theorem sc_law_source : FnScope N_law_source ["_law_cell"] (defScope d_law_source) := ⟨rfl, rfl, rfl, by decide +kernel, rfl, by decide +kernel, by decide +kernel⟩
abbrev d_law_draw : Stmt := top 48
abbrev N_law_draw : List Str := ["_law_source_here", "_law_limit", "_law_digit"]
theorem sc_law_draw : FnScope N_law_draw ["_law_source_here", "_law_limit"] (defScope d_law_draw) := ⟨rfl, rfl, rfl, by decide +kernel, rfl, by decide +kernel, by decide +kernel⟩
abbrev d_law_rings : Stmt := top 49
abbrev N_law_rings : List Str := ["_law_source_here", "_law_high", "_law_found", "_law_room", "_law_index", "_law_size"]
theorem sc_law_rings : FnScope N_law_rings ["_law_source_here", "_law_high"] (defScope d_law_rings) := ⟨rfl, rfl, rfl, by decide +kernel, rfl, by decide +kernel, by decide +kernel⟩
abbrev d_law_seats : Stmt := top 50
abbrev N_law_seats : List Str := ["_law_rings_here", "_law_found", "_law_size", "_law_longer", "_law_start", "_law_place"]
theorem sc_law_seats : FnScope N_law_seats ["_law_rings_here"] (defScope d_law_seats) := ⟨rfl, rfl, rfl, by decide +kernel, rfl, by decide +kernel, by decide +kernel⟩
abbrev d_law_order : Stmt := top 51
abbrev N_law_order : List Str := ["_law_rings_here", "_law_spot", "_law_total", "_law_found", "_law_one", "_law_place", "_law_size"]
theorem sc_law_order : FnScope N_law_order ["_law_rings_here", "_law_spot"] (defScope d_law_order) := ⟨rfl, rfl, rfl, by decide +kernel, rfl, by decide +kernel, by decide +kernel⟩
abbrev d_law_due : Stmt := top 52
abbrev N_law_due : List Str := ["_law_rings_here", "_law_spot", "_law_goal", "_law_apart", "_law_found", "_law_one", "_law_other", "_law_size"]
theorem sc_law_due : FnScope N_law_due ["_law_rings_here", "_law_spot", "_law_goal"] (defScope d_law_due) := ⟨rfl, rfl, rfl, by decide +kernel, rfl, by decide +kernel, by decide +kernel⟩
abbrev d_law_table_is_right : Stmt := top 53
abbrev N_law_table_is_right : List Str := ["_law_source_here", "_law_rings_here", "_law_spots", "_law_goal", "_law_grid", "_law_due_here", "_law_most_calls", "_law_rows", "_law_depths", "_law_some", "_law_spot", "_law_one", "_law_depth", "_law_index"]
theorem sc_law_table_is_right : FnScope N_law_table_is_right ["_law_source_here", "_law_rings_here"] (defScope d_law_table_is_right) := ⟨rfl, rfl, rfl, by decide +kernel, rfl, by decide +kernel, by decide +kernel⟩
abbrev d_law : Stmt := top 54
abbrev N_law : List Str := ["_law_script", "_law_k", "_law_cell", "_law_source_here", "_law_rings_here", "_law_wider", "_law_total", "_law_size"]
theorem sc_law : FnScope N_law ["_law_script"] (defScope d_law) := ⟨rfl, rfl, rfl, by decide +kernel, rfl, by decide +kernel, by decide +kernel⟩
structure Tx (K : PySem.W.Frag) (mg : Str → Option Value) : Type where
  f_is_integer : Addr
  fd_is_integer : FuncData
  F_is_integer : Fun K "is_integer" "is_integer" d_is_integer f_is_integer fd_is_integer
  b_is_integer : Binds K fd_is_integer ["number"] []
  g_is_integer : mg "is_integer" = some (.ref f_is_integer)
  f_is_seat : Addr
  fd_is_seat : FuncData
  F_is_seat : Fun K "is_seat" "is_seat" d_is_seat f_is_seat fd_is_seat
  b_is_seat : Binds K fd_is_seat ["sizes", "seat"] []
  g_is_seat : mg "is_seat" = some (.ref f_is_seat)
  f_is_call : Addr
  fd_is_call : FuncData
  F_is_call : Fun K "is_call" "is_call" d_is_call f_is_call fd_is_call
  b_is_call : Binds K fd_is_call ["sizes", "call"] []
  g_is_call : mg "is_call" = some (.ref f_is_call)
  f_require_seat : Addr
  fd_require_seat : FuncData
  F_require_seat : Fun K "require_seat" "require_seat" d_require_seat f_require_seat fd_require_seat
  b_require_seat : Binds K fd_require_seat ["sizes", "seat"] []
  g_require_seat : mg "require_seat" = some (.ref f_require_seat)
  f_require_seats : Addr
  fd_require_seats : FuncData
  F_require_seats : Fun K "require_seats" "require_seats" d_require_seats f_require_seats fd_require_seats
  b_require_seats : Binds K fd_require_seats ["sizes", "seats"] []
  g_require_seats : mg "require_seats" = some (.ref f_require_seats)
  f_require_targets : Addr
  fd_require_targets : FuncData
  F_require_targets : Fun K "require_targets" "require_targets" d_require_targets f_require_targets fd_require_targets
  b_require_targets : Binds K fd_require_targets ["sizes", "targets"] []
  g_require_targets : mg "require_targets" = some (.ref f_require_targets)
  f_Table_init : Addr
  fd_Table_init : FuncData
  F_Table_init : Fun K "__init__" "Table.__init__" d_Table_init f_Table_init fd_Table_init
  b_Table_init : Binds K fd_Table_init ["self", "rings"] []
  f_Table_sizes : Addr
  fd_Table_sizes : FuncData
  F_Table_sizes : Fun K "sizes" "Table.sizes" d_Table_sizes f_Table_sizes fd_Table_sizes
  b_Table_sizes : Binds K fd_Table_sizes ["self"] []
  f_Table_count : Addr
  fd_Table_count : FuncData
  F_Table_count : Fun K "count" "Table.count" d_Table_count f_Table_count fd_Table_count
  b_Table_count : Binds K fd_Table_count ["self"] []
  f_sizes_of : Addr
  fd_sizes_of : FuncData
  F_sizes_of : Fun K "sizes_of" "sizes_of" d_sizes_of f_sizes_of fd_sizes_of
  b_sizes_of : Binds K fd_sizes_of ["table"] []
  g_sizes_of : mg "sizes_of" = some (.ref f_sizes_of)
  f_both_moves : Addr
  fd_both_moves : FuncData
  F_both_moves : Fun K "both_moves" "both_moves" d_both_moves f_both_moves fd_both_moves
  b_both_moves : Binds K fd_both_moves ["sizes", "seat", "call"] []
  g_both_moves : mg "both_moves" = some (.ref f_both_moves)
  f_stepped : Addr
  fd_stepped : FuncData
  F_stepped : Fun K "stepped" "stepped" d_stepped f_stepped fd_stepped
  b_stepped : Binds K fd_stepped ["sizes", "seat", "call", "direction"] []
  g_stepped : mg "stepped" = some (.ref f_stepped)
  f_require_small : Addr
  fd_require_small : FuncData
  F_require_small : Fun K "require_small" "require_small" d_require_small f_require_small fd_require_small
  b_require_small : Binds K fd_require_small ["table"] []
  g_require_small : mg "require_small" = some (.ref f_require_small)
  f_all_seats : Addr
  fd_all_seats : FuncData
  F_all_seats : Fun K "all_seats" "all_seats" d_all_seats f_all_seats fd_all_seats
  b_all_seats : Binds K fd_all_seats ["sizes"] []
  g_all_seats : mg "all_seats" = some (.ref f_all_seats)
  f_all_choices : Addr
  fd_all_choices : FuncData
  F_all_choices : Fun K "all_choices" "all_choices" d_all_choices f_all_choices fd_all_choices
  b_all_choices : Binds K fd_all_choices ["options"] []
  g_all_choices : mg "all_choices" = some (.ref f_all_choices)
  f_are_sizes : Addr
  fd_are_sizes : FuncData
  F_are_sizes : Fun K "_are_sizes" "_are_sizes" d_are_sizes f_are_sizes fd_are_sizes
  b_are_sizes : Binds K fd_are_sizes ["rings"] []
  g_are_sizes : mg "_are_sizes" = some (.ref f_are_sizes)
  f_Grid_init : Addr
  fd_Grid_init : FuncData
  F_Grid_init : Fun K "__init__" "Grid.__init__" d_Grid_init f_Grid_init fd_Grid_init
  b_Grid_init : Binds K fd_Grid_init ["self", "sizes"] []
  f_Grid_index_of : Addr
  fd_Grid_index_of : FuncData
  F_Grid_index_of : Fun K "index_of" "Grid.index_of" d_Grid_index_of f_Grid_index_of fd_Grid_index_of
  b_Grid_index_of : Binds K fd_Grid_index_of ["self", "seat"] []
  f_Grid_widened : Addr
  fd_Grid_widened : FuncData
  F_Grid_widened : Fun K "widened" "Grid.widened" d_Grid_widened f_Grid_widened fd_Grid_widened
  b_Grid_widened : Binds K fd_Grid_widened ["self", "seats"] []
  f_Spread_init : Addr
  fd_Spread_init : FuncData
  F_Spread_init : Fun K "__init__" "Spread.__init__" d_Spread_init f_Spread_init fd_Spread_init
  b_Spread_init : Binds K fd_Spread_init ["self", "grid", "targets"] []
  f_Spread_all_rows : Addr
  fd_Spread_all_rows : FuncData
  F_Spread_all_rows : Fun K "all_rows" "Spread.all_rows" d_Spread_all_rows f_Spread_all_rows fd_Spread_all_rows
  b_Spread_all_rows : Binds K fd_Spread_all_rows ["self"] []
  f_Spread_number_of : Addr
  fd_Spread_number_of : FuncData
  F_Spread_number_of : Fun K "number_of" "Spread.number_of" d_Spread_number_of f_Spread_number_of fd_Spread_number_of
  b_Spread_number_of : Binds K fd_Spread_number_of ["self", "at"] []
  f_Spread_call_from : Addr
  fd_Spread_call_from : FuncData
  F_Spread_call_from : Fun K "call_from" "Spread.call_from" d_Spread_call_from f_Spread_call_from fd_Spread_call_from
  b_Spread_call_from : Binds K fd_Spread_call_from ["self", "at"] []
  f_Spread_meeting : Addr
  fd_Spread_meeting : FuncData
  F_Spread_meeting : Fun K "_meeting" "Spread._meeting" d_Spread_meeting f_Spread_meeting fd_Spread_meeting
  b_Spread_meeting : Binds K fd_Spread_meeting ["self", "number", "at"] []
  f_Spread_grow : Addr
  fd_Spread_grow : FuncData
  F_Spread_grow : Fun K "_grow" "Spread._grow" d_Spread_grow f_Spread_grow fd_Spread_grow
  b_Spread_grow : Binds K fd_Spread_grow ["self"] []
  f_Spread_next_row : Addr
  fd_Spread_next_row : FuncData
  F_Spread_next_row : Fun K "_next_row" "Spread._next_row" d_Spread_next_row f_Spread_next_row fd_Spread_next_row
  b_Spread_next_row : Binds K fd_Spread_next_row ["self"] []
  f_Spread_enter : Addr
  fd_Spread_enter : FuncData
  F_Spread_enter : Fun K "_enter" "Spread._enter" d_Spread_enter f_Spread_enter fd_Spread_enter
  b_Spread_enter : Binds K fd_Spread_enter ["self", "row"] []
  f_spread_from : Addr
  fd_spread_from : FuncData
  F_spread_from : Fun K "spread_from" "spread_from" d_spread_from f_spread_from fd_spread_from
  b_spread_from : Binds K fd_spread_from ["grid", "targets"] []
  g_spread_from : mg "spread_from" = some (.ref f_spread_from)
  f_longer : Addr
  fd_longer : FuncData
  F_longer : Fun K "_longer" "_longer" d_longer f_longer fd_longer
  b_longer : Binds K fd_longer ["codes", "size", "digits"] []
  g_longer : mg "_longer" = some (.ref f_longer)
  f_min_calls : Addr
  fd_min_calls : FuncData
  F_min_calls : Fun K "min_calls" "min_calls" d_min_calls f_min_calls fd_min_calls
  b_min_calls : Binds K fd_min_calls ["table", "targets", "seat"] []
  g_min_calls : mg "min_calls" = some (.ref f_min_calls)
  f_layers : Addr
  fd_layers : FuncData
  F_layers : Fun K "layers" "layers" d_layers f_layers fd_layers
  b_layers : Binds K fd_layers ["table", "targets"] []
  g_layers : mg "layers" = some (.ref f_layers)
  f_plan_depths : Addr
  fd_plan_depths : FuncData
  F_plan_depths : Fun K "plan_depths" "plan_depths" d_plan_depths f_plan_depths fd_plan_depths
  b_plan_depths : Binds K fd_plan_depths ["table", "targets", "plan"] []
  g_plan_depths : mg "plan_depths" = some (.ref f_plan_depths)
  f_make_plan : Addr
  fd_make_plan : FuncData
  F_make_plan : Fun K "make_plan" "make_plan" d_make_plan f_make_plan fd_make_plan
  b_make_plan : Binds K fd_make_plan ["table", "targets"] []
  g_make_plan : mg "make_plan" = some (.ref f_make_plan)
  f_spread_for_all : Addr
  fd_spread_for_all : FuncData
  F_spread_for_all : Fun K "_spread_for_all" "_spread_for_all" d_spread_for_all f_spread_for_all fd_spread_for_all
  b_spread_for_all : Binds K fd_spread_for_all ["table", "targets"] []
  g_spread_for_all : mg "_spread_for_all" = some (.ref f_spread_for_all)
  f_spread_for_seat : Addr
  fd_spread_for_seat : FuncData
  F_spread_for_seat : Fun K "_spread_for_seat" "_spread_for_seat" d_spread_for_seat f_spread_for_seat fd_spread_for_seat
  b_spread_for_seat : Binds K fd_spread_for_seat ["table", "targets", "seat"] []
  g_spread_for_seat : mg "_spread_for_seat" = some (.ref f_spread_for_seat)
  f_depth_of : Addr
  fd_depth_of : FuncData
  F_depth_of : Fun K "_depth_of" "_depth_of" d_depth_of f_depth_of fd_depth_of
  b_depth_of : Binds K fd_depth_of ["sizes", "depths", "entry"] []
  g_depth_of : mg "_depth_of" = some (.ref f_depth_of)
  f_law_mix : Addr
  fd_law_mix : FuncData
  F_law_mix : Fun K "_law_mix" "_law_mix" d_law_mix f_law_mix fd_law_mix
  b_law_mix : Binds K fd_law_mix ["_law_cell", "_law_turn"] []
  g_law_mix : mg "_law_mix" = some (.ref f_law_mix)
  f_law_source : Addr
  fd_law_source : FuncData
  F_law_source : Fun K "_law_source" "_law_source" d_law_source f_law_source fd_law_source
  b_law_source : Binds K fd_law_source ["_law_cell"] []
  g_law_source : mg "_law_source" = some (.ref f_law_source)
  f_law_draw : Addr
  fd_law_draw : FuncData
  F_law_draw : Fun K "_law_draw" "_law_draw" d_law_draw f_law_draw fd_law_draw
  b_law_draw : Binds K fd_law_draw ["_law_source_here", "_law_limit"] []
  g_law_draw : mg "_law_draw" = some (.ref f_law_draw)
  f_law_rings : Addr
  fd_law_rings : FuncData
  F_law_rings : Fun K "_law_rings" "_law_rings" d_law_rings f_law_rings fd_law_rings
  b_law_rings : Binds K fd_law_rings ["_law_source_here", "_law_high"] []
  g_law_rings : mg "_law_rings" = some (.ref f_law_rings)
  f_law_seats : Addr
  fd_law_seats : FuncData
  F_law_seats : Fun K "_law_seats" "_law_seats" d_law_seats f_law_seats fd_law_seats
  b_law_seats : Binds K fd_law_seats ["_law_rings_here"] []
  g_law_seats : mg "_law_seats" = some (.ref f_law_seats)
  f_law_order : Addr
  fd_law_order : FuncData
  F_law_order : Fun K "_law_order" "_law_order" d_law_order f_law_order fd_law_order
  b_law_order : Binds K fd_law_order ["_law_rings_here", "_law_spot"] []
  g_law_order : mg "_law_order" = some (.ref f_law_order)
  f_law_due : Addr
  fd_law_due : FuncData
  F_law_due : Fun K "_law_due" "_law_due" d_law_due f_law_due fd_law_due
  b_law_due : Binds K fd_law_due ["_law_rings_here", "_law_spot", "_law_goal"] []
  g_law_due : mg "_law_due" = some (.ref f_law_due)
  f_law_table_is_right : Addr
  fd_law_table_is_right : FuncData
  F_law_table_is_right : Fun K "_law_table_is_right" "_law_table_is_right" d_law_table_is_right f_law_table_is_right fd_law_table_is_right
  b_law_table_is_right : Binds K fd_law_table_is_right ["_law_source_here", "_law_rings_here"] []
  g_law_table_is_right : mg "_law_table_is_right" = some (.ref f_law_table_is_right)
  f_law : Addr
  fd_law : FuncData
  F_law : Fun K "law" "law" d_law f_law fd_law
  b_law : Binds K fd_law ["_law_script"] []
  g_law : mg "law" = some (.ref f_law)
  c_Table : Addr
  g_Table : mg "Table" = some (.ref c_Table)
  cl_Table : Cls K c_Table
  M_Table : Mk K c_Table f_Table_init
  m_Table_sizes : Meth K c_Table "sizes" f_Table_sizes
  m_Table_count : Meth K c_Table "count" f_Table_count
  no_Table_sizes : NoAttr K c_Table "_sizes"
  ins_Table : C8.InsC K c_Table
  c_Grid : Addr
  g_Grid : mg "Grid" = some (.ref c_Grid)
  cl_Grid : Cls K c_Grid
  M_Grid : Mk K c_Grid f_Grid_init
  m_Grid_index_of : Meth K c_Grid "index_of" f_Grid_index_of
  m_Grid_widened : Meth K c_Grid "widened" f_Grid_widened
  no_Grid_rings : NoAttr K c_Grid "rings"
  no_Grid_codes : NoAttr K c_Grid "codes"
  no_Grid_doubles : NoAttr K c_Grid "doubles"
  no_Grid_mirrors : NoAttr K c_Grid "mirrors"
  no_Grid_first_bit : NoAttr K c_Grid "first_bit"
  no_Grid_spots : NoAttr K c_Grid "spots"
  c_Spread : Addr
  g_Spread : mg "Spread" = some (.ref c_Spread)
  cl_Spread : Cls K c_Spread
  M_Spread : Mk K c_Spread f_Spread_init
  m_Spread_all_rows : Meth K c_Spread "all_rows" f_Spread_all_rows
  m_Spread_number_of : Meth K c_Spread "number_of" f_Spread_number_of
  m_Spread_call_from : Meth K c_Spread "call_from" f_Spread_call_from
  m_Spread_meeting : Meth K c_Spread "_meeting" f_Spread_meeting
  m_Spread_grow : Meth K c_Spread "_grow" f_Spread_grow
  m_Spread_next_row : Meth K c_Spread "_next_row" f_Spread_next_row
  m_Spread_enter : Meth K c_Spread "_enter" f_Spread_enter
  no_Spread_grid : NoAttr K c_Spread "_grid"
  no_Spread_numbers : NoAttr K c_Spread "_numbers"
  no_Spread_waiting : NoAttr K c_Spread "_waiting"
  no_Spread_rows : NoAttr K c_Spread "_rows"
  no_Spread_sets : NoAttr K c_Spread "_sets"
  no_Spread_known : NoAttr K c_Spread "_known"
  no_Spread_mirrored : NoAttr K c_Spread "_mirrored"
  no_Spread_sums : NoAttr K c_Spread "_sums"
  v_MAX_RINGS : Value
  g_MAX_RINGS : mg "MAX_RINGS" = some v_MAX_RINGS
  r_MAX_RINGS : RelV (.int 4) v_MAX_RINGS
  v_SMALL_COUNT : Value
  g_SMALL_COUNT : mg "SMALL_COUNT" = some v_SMALL_COUNT
  r_SMALL_COUNT : RelV (.int 300) v_SMALL_COUNT
  n_abs : mg "abs" = none
  n_all : mg "all" = none
  n_bool : mg "bool" = none
  n_dict : mg "dict" = none
  n_enumerate : mg "enumerate" = none
  n_int : mg "int" = none
  n_isinstance : mg "isinstance" = none
  n_len : mg "len" = none
  n_list : mg "list" = none
  n_max : mg "max" = none
  n_range : mg "range" = none
  n_set : mg "set" = none
  n_sorted : mg "sorted" = none
  n_tuple : mg "tuple" = none
  n_zip : mg "zip" = none
-- RD5
local macro_rules | `(tactic| walk_at "rd") => `(tactic| simp only [cxOf, Cx.nox, Cx.wish, L2.start, tVar, tC, t2I, tIsN, tNotN, tB, tAnd, tOr, tNot, tAndV, tOrV, tNotV, L2.tIf, tNext, tSeq, tBreak, tCont, tDrop, tRet, tRetN, tIfS, tNever, gName, gNil, gCons, gTup, gSub, tAsg, tPar, tPar3, tAug, ipI, tOp, tUn, rI, rI0, rU, rEq, rNe, tTest, tChain, tFld, tCon, sFld, tNil, tCons, tTup, tLst, tCall, tMeth, tMake, tMakeK, tMethK, tCallK, tCallN, tCB, tNoPart, tPart, tSl, rIxL, rIxT, rSetL, rSlL, rAppend, rAll, rIsI, rIsA, tAppend, tLc_eq, tLc2_eq, tFor_eq, tStarH, tRevL, tRevT, tBits, tFmtB, tListZip, tAsg3, sFldAug, rOrI, tDGet, tDIn, tDNotIn, tDGet1, tDGet2, sDPut, tDNewT, tDNewK, tPopI, tMaxVals, tUpdP, tDcT, tLock, tLockE, iKeys, tUpdT, tCallK0, tExtend, tClear, tRever, tPop0, tLstRg, tBM, rGcd, rLcm, iSeqH, iSeqS, iZ2H, iZ3H, iEnH, iRevR, tRg1, tRg2, iRng1H, iRng2H, gTupH, tYes, wipe, scal_int, scal_str, scal_bl, List.map_cons, List.map_nil, List.replicate, List.length_cons, List.length_nil, List.cons_append, List.nil_append, List.append_nil, List.getElem?_cons_zero, List.getElem?_cons_succ, List.set_cons_zero, List.set_cons_succ, Option.some.injEq, V.int.injEq, V.bl.injEq, V.ref.injEq, V.str.injEq, V.ty.injEq, HO.lst.injEq, HO.tup.injEq, HO.ins.injEq, List.cons.injEq, and_true, true_and, and_assoc, exists_and_left, exists_and_right, exists_eq_left, exists_eq_left', exists_eq_right, exists_const, exists_eq, exists_eq', exists_false, exists_prop, false_and, and_false, false_or, or_false, true_or, or_true, List.length_map, Int.natCast_inj, Bool.not_eq_true', decide_eq_false_iff_not, decide_eq_true_eq, List.getElem?_map, Option.map_some, Option.map_none, Option.map_eq_some_iff, upd_same, sz_le, atI_0, atI_1, atI_2, ixN_30, ixN_31, ixN_32, cpow_10, cdivW_small, Int.reduceToNat, Int.reducePow, Int.reduceAdd, Int.reduceSub, Int.reduceMul, Int.reduceNeg, Int.reduceLT, Int.reduceLE, ge_iff_le, gt_iff_lt, Nat.reduceLeDiff, putF_one, lookup_one, Bool.not_true, Bool.not_false, if_true, if_false, Bool.false_eq_true, ite_true, ite_false, Nat.reduceAdd, Nat.reduceSub, Nat.add_zero, Nat.zero_add, Nat.sub_self, reduceCtorEq, decide_true, decide_false, Bool.or_false, Bool.or_true, Bool.and_true, Bool.and_false])
local macro_rules | `(tactic| walk_at "rh") => `(tactic| simp only [cxOf, Cx.nox, Cx.wish, L2.start, tVar, tC, t2I, tIsN, tNotN, tB, tAnd, tOr, tNot, tAndV, tOrV, tNotV, L2.tIf, tNext, tSeq, tBreak, tCont, tDrop, tRet, tRetN, tIfS, tNever, gName, gNil, gCons, gTup, gSub, tAsg, tPar, tPar3, tAug, ipI, tOp, tUn, rI, rI0, rU, rEq, rNe, tTest, tChain, tFld, tCon, sFld, tNil, tCons, tTup, tLst, tCall, tMeth, tMake, tMakeK, tMethK, tCallK, tCallN, tCB, tNoPart, tPart, tSl, rIxL, rIxT, rSetL, rSlL, rAppend, rAll, rIsI, rIsA, tAppend, tLc_eq, tLc2_eq, tFor_eq, tStarH, tRevL, tRevT, tBits, tFmtB, tListZip, tAsg3, sFldAug, rOrI, tDGet, tDIn, tDNotIn, tDGet1, tDGet2, sDPut, tDNewT, tDNewK, tPopI, tMaxVals, tUpdP, tDcT, tLock, tLockE, iKeys, tUpdT, tCallK0, tExtend, tClear, tRever, tPop0, tLstRg, tBM, rGcd, rLcm, iSeqH, iSeqS, iZ2H, iZ3H, iEnH, iRevR, tRg1, tRg2, iRng1H, iRng2H, gTupH, tYes, wipe, scal_int, scal_str, scal_bl, List.map_cons, List.map_nil, List.replicate, List.length_cons, List.length_nil, List.cons_append, List.nil_append, List.append_nil, List.getElem?_cons_zero, List.getElem?_cons_succ, List.set_cons_zero, List.set_cons_succ, Option.some.injEq, V.int.injEq, V.bl.injEq, V.ref.injEq, V.str.injEq, V.ty.injEq, HO.lst.injEq, HO.tup.injEq, HO.ins.injEq, List.cons.injEq, and_true, true_and, and_assoc, exists_and_left, exists_and_right, exists_eq_left, exists_eq_left', exists_eq_right, exists_const, exists_eq, exists_eq', exists_false, exists_prop, false_and, and_false, false_or, or_false, true_or, or_true, List.length_map, Int.natCast_inj, Bool.not_eq_true', decide_eq_false_iff_not, decide_eq_true_eq, List.getElem?_map, Option.map_some, Option.map_none, Option.map_eq_some_iff, upd_same, sz_le, atI_0, atI_1, atI_2, ixN_30, ixN_31, ixN_32, cpow_10, cdivW_small, Int.reduceToNat, Int.reducePow, Int.reduceAdd, Int.reduceSub, Int.reduceMul, Int.reduceNeg, Int.reduceLT, Int.reduceLE, ge_iff_le, gt_iff_lt, Nat.reduceLeDiff, putF_one, lookup_one, Bool.not_true, Bool.not_false, if_true, if_false, Bool.false_eq_true, ite_true, ite_false, Nat.reduceAdd, Nat.reduceSub, Nat.add_zero, Nat.zero_add, Nat.sub_self, reduceCtorEq, decide_true, decide_false, Bool.or_false, Bool.or_true, Bool.and_true, Bool.and_false, *])

/-! ### what the program's checks answer -/
theorem TyOf.same {K : PySem.W.Frag} {H H' : Hp} {x : V} {t : Value} (e : Same H H') (h : TyOf K H x t) : TyOf K H' x t := by
  cases h with
  | non => exact .non
  | bl b => exact .bl b
  | int i => exact .int i
  | str y => exact .str y
  | flt y => exact .flt y
  | lst ea => exact .lst (e _ _ ea)
  | frz ea => exact .frz (e _ _ ea)
  | tup ea => exact .tup (e _ _ ea)
  | dK ea => exact .dK (e _ _ ea)
  | dT ea => exact .dT (e _ _ ea)
  | ins ea cl ha hn htk hm => exact .ins (e _ _ ea) cl ha hn htk hm
theorem TyX.same {K : PySem.W.Frag} {H H' : Hp} {x : V} {t : Value} (e : Same H H') (h : TyX K H x t) : TyX K H' x t := by
  cases h with
  | base b => exact .base (TyOf.same e b)
  | byt b => exact .byt b
  | set ea => exact .set (e _ _ ea)
  | kList a b => exact .kList a b
  | kTuple a b => exact .kTuple a b
  | kDict a b => exact .kDict a b
  | fTuple ea => exact .fTuple (e _ _ ea)
  | fDict ea => exact .fDict (e _ _ ea)
theorem IsI.same {K : PySem.W.Frag} {H H' : Hp} {x c : V} {b : Bool} (e : Same H H') (h : IsI K H x c b) : IsI K H' x c b := by
  obtain ⟨t, u, h1, h2, h3⟩ := h
  exact ⟨t, u, h1, TyX.same e h2, h3⟩
theorem IsA.same {K : PySem.W.Frag} {H H' : Hp} {x : V} {cs : List V} {b : Bool} (e : Same H H') (h : IsA K H x cs b) : IsA K H' x cs b := by
  obtain ⟨t, us, h1, h2, h3⟩ := h
  exact ⟨t, us, h1, TyX.same e h2, h3⟩
/-- is_integer(x) is b -/
def IsInt (K : PySem.W.Frag) (H : Hp) (x : V) (b : Bool) : Prop := ∃ b1 b2, IsI K H x (.ty "int") b1 ∧ (b1 = true → IsI K H x (.ty "bool") b2) ∧ b = (b1 && !b2)
theorem IsInt.same {K : PySem.W.Frag} {H H' : Hp} {x : V} {b : Bool} (e : Same H H') (h : IsInt K H x b) : IsInt K H' x b := by
  obtain ⟨b1, b2, h1, h2, h3⟩ := h
  exact ⟨b1, b2, IsI.same e h1, fun z => IsI.same e (h2 z), h3⟩
theorem isInt_int {K : PySem.W.Frag} {H : Hp} (n : Int) : IsInt K H (.int n) true := ⟨true, false, isI_ty (.base (.int n)) (by decide +kernel), fun _ => isI_ty (.base (.int n)) (by decide +kernel), rfl⟩
/-- is_integer(x) and 0 <= x < s is c -/
def PlaceB (K : PySem.W.Frag) (H : Hp) (x : V) (s : Int) (c : Bool) : Prop := (IsInt K H x false ∧ c = false) ∨ ∃ n, x = .int n ∧ c = (decide (0 ≤ n) && decide (n < s))
theorem PlaceB.same {K : PySem.W.Frag} {H H' : Hp} {x : V} {s : Int} {c : Bool} (e : Same H H') (h : PlaceB K H x s c) : PlaceB K H' x s c := by
  rcases h with ⟨h, q⟩ | h
  · exact .inl ⟨IsInt.same e h, q⟩
  · exact .inr h
/-- is_seat(sizes, x) is b -/
def SeatB (K : PySem.W.Frag) (H : Hp) (ss : List Int) (x : V) (b : Bool) : Prop := (IsI K H x (.ty "tuple") false ∧ b = false) ∨ ∃ p xs, x = .ref p ∧ H p = some (.tup xs) ∧ ((xs.length ≠ ss.length ∧ b = false) ∨
  (xs.length = ss.length ∧ xs.length ≤ sizeLine ∧ ∃ bs : List Bool, bs.length = xs.length ∧ b = bs.all id ∧ ∀ (i : Nat) x s c, xs[i]? = some x → ss[i]? = some s → bs[i]? = some c → PlaceB K H x s c))
/-- is_call(sizes, x) is b -/
def CallB (K : PySem.W.Frag) (H : Hp) (n : Nat) (x : V) (b : Bool) : Prop := (IsI K H x (.ty "tuple") false ∧ b = false) ∨ ∃ p xs, x = .ref p ∧ H p = some (.tup xs) ∧ ((xs.length ≠ n ∧ b = false) ∨
  (xs.length = n ∧ xs.length ≤ sizeLine ∧ ∃ bs : List Bool, bs.length = xs.length ∧ b = bs.all id ∧ ∀ (i : Nat) x c, xs[i]? = some x → bs[i]? = some c → IsInt K H x c))
/-- is_direction(x) is b -/
def DirB (K : PySem.W.Frag) (H : Hp) (x : V) (b : Bool) : Prop := (IsI K H x (.ty "str") false ∧ b = false) ∨ ∃ z : Str, x = .str z ∧ b = (z == "forward" || z == "backward")
/-- _are_sizes(x) is b -/
def SizesB (K : PySem.W.Frag) (H : Hp) (x : V) (b : Bool) : Prop := (IsA K H x [.ty "list", .ty "tuple"] false ∧ b = false) ∨ ∃ k p xs, x = .ref p ∧ Sqh k H p xs ∧ ((¬ (1 ≤ xs.length ∧ xs.length ≤ 4) ∧ b = false) ∨
  (1 ≤ xs.length ∧ xs.length ≤ 4 ∧ ∃ bs : List Bool, bs.length = xs.length ∧ b = bs.all id ∧ ∀ (i : Nat) x c, xs[i]? = some x → bs[i]? = some c → (IsInt K H x false ∧ c = false) ∨ ∃ n, x = .int n ∧ c = decide (1 ≤ n)))
/-- a table at a, of the sizes ss -/
def TabAt (C : Addr) (H : Hp) (a : Addr) (ss : List Int) : Prop := ∃ dx t, H a = some (.ins C dx [("_sizes", .ref t)]) ∧ H t = some (.tup (ss.map V.int))
theorem TabAt.same {C : Addr} {H H' : Hp} {a : Addr} {ss : List Int} (e : Same H H') (h : TabAt C H a ss) : TabAt C H' a ss := by
  obtain ⟨dx, t, h1, h2⟩ := h
  exact ⟨dx, t, e _ _ h1, e _ _ h2⟩
section
variable {P : Program} {w : World} {K : PySem.W.Frag} {mg : Str → Option Value} {base : Heap}
def sp_is_integer (K : PySem.W.Frag) : Sp := fun vs H Q _ => ∃ x b, vs = [x] ∧ IsInt K H x b ∧ Q (.bl b) H
theorem ok_is_integer (T : Tx K mg) : FnOk P w K mg base CX0 1 T.f_is_integer T.fd_is_integer ["number"] (sp_is_integer K) := by
  refine T.F_is_integer.ok sc_is_integer (fun vs H Q E h => ?_) (fun cdv A outer s H vs Q E hr h => ?_)
  · obtain ⟨x, b, rfl, _⟩ := h; rfl
  · obtain ⟨x, b, rfl, ⟨b1, b2, h1, h2, rfl⟩, q⟩ := h
    refine ⟨_, (pss_one (ps_ret (pe_and (pe_callB (call_isIK (K := K) rfl) (by rfl) T.n_isinstance (by decide +kernel) (pa_cons (pv 0) (pa_cons (pe_bltn (v := .ty "int") (by rfl) T.n_int (by decide +kernel) rfl) pa_nil))) (pe_one (pe_not (pe_callB (call_isIK (K := K) rfl) (by rfl) T.n_isinstance (by decide +kernel) (pa_cons (pv 0) (pa_cons (pe_bltn (v := .ty "bool") (by rfl) T.n_bool (by decide +kernel) rfl) pa_nil)))))))), ?_⟩
    walk_at "rd"
    refine ⟨b1, h1, ?_⟩
    cases b1 with
    | false => walk_at "rd"; exact q
    | true =>
      walk_at "rd"
      exact ⟨b2, h2 rfl, q⟩
def sp_is_seat (K : PySem.W.Frag) : Sp := fun vs H Q _ => ∃ k a ss x b, vs = [.ref a, x] ∧ Sqh k H a (ss.map V.int) ∧ SeatB K H ss x b ∧ ∀ H', Same H H' → Q (.bl b) H'
theorem ok_is_seat (T : Tx K mg) : FnOk P w K mg base CX0 1 T.f_is_seat T.fd_is_seat ["sizes", "seat"] (sp_is_seat K) := by
  refine T.F_is_seat.ok sc_is_seat (fun vs H Q E h => ?_) (fun cdv A outer s H vs Q E hr h => ?_)
  · obtain ⟨k, a, ss, x, b, rfl, _⟩ := h; rfl
  · obtain ⟨k, a, ss, x, b, rfl, hs, hb, q⟩ := h
    refine ⟨_, (pss_cons (ps_if (PW.pt (pw_or (pt_not (pt_val (pe_callB (call_isIK (K := K) rfl) (by rfl) T.n_isinstance (by decide +kernel) (pa_cons (pv 1) (pa_cons (pe_bltn (v := .ty "tuple") (by rfl) T.n_tuple (by decide +kernel) rfl) pa_nil))))) (pw_or1 (pt_cmpR op_ne (pe_callB len_H (by rfl) T.n_len PySem.boot_len (pa_cons (pv 1) pa_nil)) (pe_callB len_H (by rfl) T.n_len PySem.boot_len (pa_cons (pv 0) pa_nil)) (nomark _))))) (pss_one (ps_ret pe_bl)) pss_nil)
      (pss_cons (ps_for PassesOwn.never rfl (pi_z2H (by rfl) T.n_zip (pa_cons (pv 1) (pa_cons (pv 0) pa_nil))) (pg_tupH (n := 2) rfl (pgs_cons (pg_name (i := 2) sc_is_seat.nd rfl (Or.inl rfl)) (pgs_cons (pg_name (i := 3) sc_is_seat.nd rfl (Or.inl rfl)) pgs_nil)))
        (pss_one (ps_if (PW.pt (pw_or (pt_not (pt_val (pe_callB (call_isIK (K := K) rfl) (by rfl) T.n_isinstance (by decide +kernel) (pa_cons (pv 2) (pa_cons (pe_bltn (v := .ty "int") (by rfl) T.n_int (by decide +kernel) rfl) pa_nil))))) (pw_or (pt_val (pe_callB (call_isIK (K := K) rfl) (by rfl) T.n_isinstance (by decide +kernel) (pa_cons (pv 2) (pa_cons (pe_bltn (v := .ty "bool") (by rfl) T.n_bool (by decide +kernel) rfl) pa_nil)))) (pw_or1 (pt_not (pt_chain op_le op_lt pe_int (pv 2) (pv 3))))))) (pss_one (ps_ret pe_bl)) pss_nil)))
      (pss_one (ps_ret pe_bl)))), ?_⟩
    walk_at "rd"
    rcases hb with ⟨h1, rfl⟩ | ⟨p, xs, rfl, hp, hb⟩
    · refine ⟨false, h1, ?_⟩
      walk_at "rd"
      exact q _ (Same.refl _)
    · refine ⟨true, isI_tup hp, ?_⟩
      have main : ∀ (hl : xs.length = ss.length) (J : It) (bs : List Bool), xs.length ≤ sizeLine → bs.length = xs.length → b = bs.all id → (∀ (i : Nat) x s c, xs[i]? = some x → ss[i]? = some s → bs[i]? = some c → PlaceB K H x s c) → Walk J xs.length (fun H => Sqh false H p xs ∧ Sqh k H a (ss.map V.int)) (YPair (fun i => xs[i]?) (fun i => (ss.map V.int)[i]?)) →
          ForR J (gTupH 2 (gCons (gName 2) (gCons (gName 3) gNil)))
                    (tIfS
                      (tOr (tNot (tB (tCB (rIsI K) (tCons (tVar 2) (tCons (tC (V.ty "int")) tNil)))))
                        (tOr (tB (tCB (rIsI K) (tCons (tVar 2) (tCons (tC (V.ty "bool")) tNil))))
                          (tNot
                            (tTest
                              (tChain (rI0 fun i j => V.bl (decide (i ≤ j))) (rI0 fun i j => V.bl (decide (i < j)))
                                (tC (V.int 0)) (tVar 2) (tVar 3))))))
                      (tRet (tC (V.bl false))) tNext)
                    { nx := tRet (tC (V.bl true)) { nx := fun x H' => Q V.non H', rt := Q }, rt := Q }
                    [some (V.ref a), some (V.ref p), none, none] H := fun hl J bs hz hbl hb hbs W => by
        subst hb
        refine forr W (fun i σ H' => Same H H' ∧ (∃ v2 v3, σ = [some (V.ref a), some (V.ref p), v2, v3]) ∧ (bs.take i).all id = true) ⟨Same.refl _, ⟨none, none, rfl⟩, rfl⟩ (fun i σ H' _ h => ⟨h.1 _ _ hp, hs.same h.1⟩) ?_ ?_
        · rintro i x σ2 H2 H3 hi ⟨s2, ⟨v2, v3, rfl⟩, hall⟩ ⟨T0, x1, y1, rfl, hT, rfl, e1, e2⟩
          simp only [List.getElem?_map, Option.map_eq_some_iff] at e1 e2
          obtain ⟨s3, hs3, rfl⟩ := e2
          have hib : i < bs.length := by rw [hbl]; exact hi
          have hc := List.getElem?_eq_getElem hib
          have sT := Same.new hT (o := .tup [x1, .int s3])
          have hpl := PlaceB.same (s2.trans sT) (hbs i x1 s3 _ e1 hs3 hc)
          have hno : bs[i] = false → bs.all id = false := fun e => by
            rw [Bool.eq_false_iff]
            intro h
            have := List.all_eq_true.mp h _ (List.getElem_mem hib)
            simp [e] at this
          have hyes : bs[i] = true → (bs.take (i + 1)).all id = true := fun e => by
            rw [List.take_add_one, hc, List.all_append, hall]
            simp [e]
          walk_at "rd"
          generalize upd H2 T0 (HO.tup [x1, V.int s3]) = H3 at sT hpl ⊢
          rcases hpl with ⟨⟨b1, b2, h1, h2, h3⟩, h0⟩ | ⟨n, rfl, h0⟩
          · rw [hno h0] at q
            refine ⟨b1, h1, ?_⟩
            cases b1 with
            | false => walk_at "rd"; exact q _ (s2.trans sT)
            | true =>
              walk_at "rd"
              refine ⟨b2, h2 rfl, ?_⟩
              cases b2 with
              | true => walk_at "rd"; exact q _ (s2.trans sT)
              | false => cases h3
          · rw [isI_int_int]
            walk_at "rd"
            rw [isI_int_bool]
            walk_at "rd"
            by_cases h4 : 0 ≤ n
            · rw [if_pos h4]
              rw [decide_eq_true h4, Bool.true_and] at h0
              by_cases h5 : n < s3
              · rw [if_neg (by omega)]
                exact ⟨s2.trans sT, hyes (by rw [h0, decide_eq_true h5])⟩
              · rw [if_pos (by omega)]
                rw [hno (by rw [h0, decide_eq_false h5])] at q
                exact q _ (s2.trans sT)
            · rw [if_neg h4]
              rw [decide_eq_false h4, Bool.false_and] at h0
              rw [hno h0] at q
              exact q _ (s2.trans sT)
        · rintro σ2 H2 ⟨s2, ⟨v2, v3, rfl⟩, hall⟩
          walk_at "rd"
          rw [← hbl, List.take_length] at hall
          rw [hall] at q
          exact q _ s2
      cases k with
      | true =>
        have hs' : H a = some (.lst (ss.map V.int)) := hs
        walk_at "rh"
        rcases hb with ⟨hl, rfl⟩ | ⟨hl, hz, bs, hbl, e, hbs⟩
        · rw [if_pos hl]; exact q _ (Same.refl _)
        · rw [if_neg (fun h => h hl)]
          exact ⟨false, true, xs, hp, _, hs, by rw [List.length_map]; exact hl, fun J W => main hl J bs hz hbl e hbs W⟩
      | false =>
        have hs' : H a = some (.tup (ss.map V.int)) := hs
        walk_at "rh"
        rcases hb with ⟨hl, rfl⟩ | ⟨hl, hz, bs, hbl, e, hbs⟩
        · rw [if_pos hl]; exact q _ (Same.refl _)
        · rw [if_neg (fun h => h hl)]
          exact ⟨false, false, xs, hp, _, hs, by rw [List.length_map]; exact hl, fun J W => main hl J bs hz hbl e hbs W⟩
/-- is_place(size, x) -/
def sp_is_place (K : PySem.W.Frag) : Sp := fun vs H Q _ => ∃ s x c, vs = [.int s, x] ∧ PlaceB K H x s c ∧ Q (.bl c) H
def sp_is_call (K : PySem.W.Frag) : Sp := fun vs H Q _ => ∃ k a ss x b, vs = [.ref a, x] ∧ Sqh k H a ss ∧ CallB K H ss.length x b ∧ ∀ H', Same H H' → Q (.bl b) H'
theorem ok_is_call (T : Tx K mg) : FnOk P w K mg base CX0 1 T.f_is_call T.fd_is_call ["sizes", "call"] (sp_is_call K) := by
  refine T.F_is_call.ok sc_is_call (fun vs H Q E h => ?_) (fun cdv A outer s H vs Q E hr h => ?_)
  · obtain ⟨k, a, ss, x, b, rfl, _⟩ := h; rfl
  · obtain ⟨k, a, ss, x, b, rfl, hs, hb, q⟩ := h
    refine ⟨_, (pss_cons (ps_if (PW.pt (pw_or (pt_not (pt_val (pe_callB (call_isIK (K := K) rfl) (by rfl) T.n_isinstance (by decide +kernel) (pa_cons (pv 1) (pa_cons (pe_bltn (v := .ty "tuple") (by rfl) T.n_tuple (by decide +kernel) rfl) pa_nil))))) (pw_or1 (pt_cmpR op_ne (pe_callB len_H (by rfl) T.n_len PySem.boot_len (pa_cons (pv 1) pa_nil)) (pe_callB len_H (by rfl) T.n_len PySem.boot_len (pa_cons (pv 0) pa_nil)) (nomark _))))) (pss_one (ps_ret pe_bl)) pss_nil)
      (pss_cons (ps_for PassesOwn.never rfl (pi_seqH (pv 1)) (pg_name (i := 2) sc_is_call.nd rfl (Or.inl rfl))
        (pss_one (ps_if (PW.pt (pw_or (pt_not (pt_val (pe_callB (call_isIK (K := K) rfl) (by rfl) T.n_isinstance (by decide +kernel) (pa_cons (pv 2) (pa_cons (pe_bltn (v := .ty "int") (by rfl) T.n_int (by decide +kernel) rfl) pa_nil))))) (pw_or1 (pt_val (pe_callB (call_isIK (K := K) rfl) (by rfl) T.n_isinstance (by decide +kernel) (pa_cons (pv 2) (pa_cons (pe_bltn (v := .ty "bool") (by rfl) T.n_bool (by decide +kernel) rfl) pa_nil))))))) (pss_one (ps_ret pe_bl)) pss_nil)))
      (pss_one (ps_ret pe_bl)))), ?_⟩
    walk_at "rd"
    rcases hb with ⟨h1, rfl⟩ | ⟨p, xs, rfl, hp, hb⟩
    · refine ⟨false, h1, ?_⟩
      walk_at "rd"
      exact q _ (Same.refl _)
    · refine ⟨true, isI_tup hp, ?_⟩
      have main : ∀ (J : It) (bs : List Bool), xs.length ≤ sizeLine → bs.length = xs.length → b = bs.all id → (∀ (i : Nat) x c, xs[i]? = some x → bs[i]? = some c → IsInt K H x c) → Walk J xs.length (fun H => H p = some (.tup xs)) (YAt xs) →
          ForR J (gName 2)
                    (tIfS
                      (tOr (tNot (tB (tCB (rIsI K) (tCons (tVar 2) (tCons (tC (V.ty "int")) tNil)))))
                        (tB (tCB (rIsI K) (tCons (tVar 2) (tCons (tC (V.ty "bool")) tNil)))))
                      (tRet (tC (V.bl false))) tNext)
                    { nx := tRet (tC (V.bl true)) { nx := fun x H' => Q V.non H', rt := Q }, rt := Q }
                    [some (V.ref a), some (V.ref p), none] H := fun J bs hz hbl hb hbs W => by
        subst hb
        refine forr W (fun i σ H' => Same H H' ∧ (∃ v2, σ = [some (V.ref a), some (V.ref p), v2]) ∧ (bs.take i).all id = true) ⟨Same.refl _, ⟨none, rfl⟩, rfl⟩ (fun i σ H' _ h => h.1 _ _ hp) ?_ ?_
        · rintro i x σ2 H2 H3 hi ⟨s2, ⟨v2, rfl⟩, hall⟩ ⟨rfl, e1⟩
          have hib : i < bs.length := by rw [hbl]; exact hi
          have hc := List.getElem?_eq_getElem hib
          have hno : bs[i] = false → bs.all id = false := fun e => by
            rw [Bool.eq_false_iff]
            intro h
            have := List.all_eq_true.mp h _ (List.getElem_mem hib)
            simp [e] at this
          have hyes : bs[i] = true → (bs.take (i + 1)).all id = true := fun e => by
            rw [List.take_add_one, hc, List.all_append, hall]
            simp [e]
          walk_at "rd"
          obtain ⟨b1, b2, h1, h2, h3⟩ := IsInt.same s2 (hbs i x _ e1 hc)
          refine ⟨b1, h1, ?_⟩
          cases b1 with
          | false =>
            rw [hno (by rw [h3]; rfl)] at q
            walk_at "rd"; exact q _ s2
          | true =>
            walk_at "rd"
            refine ⟨b2, h2 rfl, ?_⟩
            cases b2 with
            | true =>
              rw [hno (by rw [h3]; rfl)] at q
              walk_at "rd"; exact q _ s2
            | false =>
              walk_at "rd"
              exact ⟨s2, hyes (by rw [h3]; rfl)⟩
        · rintro σ2 H2 ⟨s2, ⟨v2, rfl⟩, hall⟩
          walk_at "rd"
          rw [← hbl, List.take_length] at hall
          rw [hall] at q
          exact q _ s2
      cases k with
      | true =>
        have hs' : H a = some (.lst ss) := hs
        walk_at "rh"
        rcases hb with ⟨hl, rfl⟩ | ⟨hl, hz, bs, hbl, e, hbs⟩
        · rw [if_pos hl]; exact q _ (Same.refl _)
        · rw [if_neg (fun h => h hl)]
          exact fun J W => main J bs hz hbl e hbs W
      | false =>
        have hs' : H a = some (.tup ss) := hs
        walk_at "rh"
        rcases hb with ⟨hl, rfl⟩ | ⟨hl, hz, bs, hbl, e, hbs⟩
        · rw [if_pos hl]; exact q _ (Same.refl _)
        · rw [if_neg (fun h => h hl)]
          exact fun J W => main J bs hz hbl e hbs W
def sp_is_direction (K : PySem.W.Frag) : Sp := fun vs H Q _ => ∃ x b, vs = [x] ∧ DirB K H x b ∧ ∀ H', Same H H' → Q (.bl b) H'
def sp_require_seat (K : PySem.W.Frag) : Sp := fun vs H Q _ => ∃ k a ss x, vs = [.ref a, x] ∧ Sqh k H a (ss.map V.int) ∧ SeatB K H ss x true ∧ ∀ H', Same H H' → Q .non H'
theorem ok_require_seat (T : Tx K mg) : FnOk P w K mg base CX0 2 T.f_require_seat T.fd_require_seat ["sizes", "seat"] (sp_require_seat K) := by
  refine T.F_require_seat.ok sc_require_seat (fun vs H Q E h => ?_) (fun cdv A outer s H vs Q E hr h => ?_)
  · obtain ⟨k, a, ss, x, rfl, _⟩ := h; rfl
  · obtain ⟨k, a, ss, x, rfl, hs, hb, q⟩ := h
    refine ⟨_, (pss_one (ps_if (pt_not (pt_val (pe_call (ok_is_seat T) (hr.mono (by decide)) (by rfl) T.g_is_seat T.F_is_seat.kp T.b_is_seat .nil pass0 (pa_cons (pv 0) (pa_cons (pv 1) pa_nil))))) (pss_one ps_never) pss_nil)), ?_⟩
    walk_at "rd"
    refine ⟨k, a, ss, x, true, rfl, hs, hb, fun H' s1 => ?_⟩
    walk_at "rd"
    exact q _ s1
def sp_require_call (K : PySem.W.Frag) : Sp := fun vs H Q _ => ∃ k a ss x, vs = [.ref a, x] ∧ Sqh k H a ss ∧ CallB K H ss.length x true ∧ ∀ H', Same H H' → Q .non H'
def sp_require_direction (K : PySem.W.Frag) : Sp := fun vs H Q _ => ∃ x, vs = [x] ∧ DirB K H x true ∧ ∀ H', Same H H' → Q .non H'
def sp_are_sizes (K : PySem.W.Frag) : Sp := fun vs H Q _ => ∃ x b, vs = [x] ∧ SizesB K H x b ∧ ∀ H', Same H H' → Q (.bl b) H'
theorem ok_are_sizes (T : Tx K mg) : FnOk P w K mg base CX0 2 T.f_are_sizes T.fd_are_sizes ["rings"] (sp_are_sizes K) := by
  refine T.F_are_sizes.ok sc_are_sizes (fun vs H Q E h => ?_) (fun cdv A outer s H vs Q E hr h => ?_)
  · obtain ⟨x, b, rfl, _⟩ := h; rfl
  · obtain ⟨x, b, rfl, hb, q⟩ := h
    refine ⟨_, (pss_cons (ps_if (PW.pt (pw_or (pt_not (pt_val (pe_callB (call_isAK (K := K) rfl) (by rfl) T.n_isinstance (by decide +kernel) (pa_cons (pv 0) (pa_cons (pe_tup (pa_cons (pe_bltn (v := .ty "list") (by rfl) T.n_list (by decide +kernel) rfl) (pa_cons (pe_bltn (v := .ty "tuple") (by rfl) T.n_tuple (by decide +kernel) rfl) pa_nil))) pa_nil))))) (pw_or1 (pt_not (pt_chain op_le op_le pe_int (pe_callB len_H (by rfl) T.n_len PySem.boot_len (pa_cons (pv 0) pa_nil)) (pe_glob (by rfl) T.g_MAX_RINGS T.r_MAX_RINGS)))))) (pss_one (ps_ret pe_bl)) pss_nil)
      (pss_one (ps_ret (pe_callB (all_H rfl) (by rfl) T.n_all (by decide +kernel) (pa_cons (pe_lc (own := [("size", 1)]) (g := (gName 1)) (tt := tYes) rfl sc_are_sizes.nd (pi_seqH (pv 0)) (blkOk_by (own := [("size", 1)]) (N := N_are_sizes) (sc := defScope d_are_sizes) (by decide +kernel)) (fun _ _ _ _ _ => (pg_name (i := 1) sc_are_sizes.nd rfl (Or.inl rfl))) (fun _ _ _ _ _ => pts_nil) (fun _ _ _ _ _ => (pe_and (pe_call (ok_is_integer T) (hr.mono (by decide)) (by rfl) T.g_is_integer T.F_is_integer.kp T.b_is_integer .nil pass0 (pa_cons (pv 1) pa_nil)) (pe_one (pe_cmpR op_ge (pv 1) pe_int (nomark _)))))) pa_nil))))), ?_⟩
    walk_at "rd"
    intro tp htp
    have s1 := Same.new htp (o := .tup [V.ty "list", V.ty "tuple"])
    generalize upd H tp (HO.tup [V.ty "list", V.ty "tuple"]) = H1 at s1 ⊢
    rcases hb with ⟨h1, rfl⟩ | ⟨k, p, xs, rfl, hs, hb⟩
    · refine ⟨false, IsA.same s1 h1, ?_⟩
      rw [if_pos rfl]
      exact q _ s1
    · have hs1 : Sqh k H1 p xs := hs.same s1
      have main : ∀ (J : It) (G : Hp → Prop) (bs : List Bool), xs.length ≤ sizeLine → bs.length = xs.length → b = bs.all id → (∀ (i : Nat) x c, xs[i]? = some x → bs[i]? = some c → (IsInt K H x false ∧ c = false) ∨ ∃ n, x = .int n ∧ c = decide (1 ≤ n)) → (∀ H2, Same H1 H2 → G H2) → Walk J xs.length G (YAt xs) →
          LcR J (gName 1) tYes (tAndV (tCall (sp_is_integer K) [] E0 (tCons (tVar 1) tNil)) (tOp (rI0 fun i j => V.bl (decide (j ≤ i))) (tVar 1) (tC (V.int 1)))) [1] [some (V.ref p), none] H1
            fun x H1 => ∃ p, x = V.ref p ∧ ∃ bs : List Bool, H1 p = some (HO.lst (List.map V.bl bs)) ∧ Q (V.bl (bs.all id)) H1 := fun J G bs hz hbl hb hbs hG W => by
        subst hb
        refine lcr_map W (bs.map V.bl) (by rw [List.length_map]; exact hbl) hz hG (fun _ _ _ _ y => YAt.same y) ?_ ?_
        · intro i x H2 H3 y Qy hi s2 hy hr hq
          obtain ⟨rfl, hx⟩ := hy
          simp only [List.getElem?_map, Option.map_eq_some_iff] at hr
          obtain ⟨c, hc, rfl⟩ := hr
          walk_at "rd"
          rcases hbs i x c hx hc with ⟨h0, rfl⟩ | ⟨n, rfl, rfl⟩
          · refine ⟨_, false, rfl, IsInt.same (s1.trans s2) h0, ?_⟩
            walk_at "rd"
            exact hq _ (Same.refl _)
          · refine ⟨_, true, rfl, isInt_int n, ?_⟩
            walk_at "rd"
            exact hq _ (Same.refl _)
        · intro D H2 hD s2 h1
          exact ⟨D, rfl, bs, h1, q _ (s1.trans s2)⟩
      cases k with
      | true =>
        have hs' : H1 p = some (.lst xs) := hs1
        refine ⟨true, isA_two (.base (.lst hs')) (b1 := true) (b2 := false) (by decide +kernel) (by decide +kernel) rfl, ?_⟩
        walk_at "rh"
        rcases hb with ⟨hl, rfl⟩ | ⟨hl, hz, bs, hbl, e, hbs⟩
        · by_cases h1 : 1 ≤ xs.length
          · rw [if_pos (by omega), if_pos (by omega)]; exact q _ s1
          · rw [if_neg (by omega)]; exact q _ s1
        · rw [if_pos (by omega), if_neg (by omega)]
          exact fun J W => main J _ bs (Nat.le_trans hz (by decide)) hbl e hbs (fun H2 s2 => s2 _ _ hs') W
      | false =>
        have hs' : H1 p = some (.tup xs) := hs1
        refine ⟨true, isA_two (.base (.tup hs')) (b1 := false) (b2 := true) (by decide +kernel) (by decide +kernel) rfl, ?_⟩
        walk_at "rh"
        rcases hb with ⟨hl, rfl⟩ | ⟨hl, hz, bs, hbl, e, hbs⟩
        · by_cases h1 : 1 ≤ xs.length
          · rw [if_pos (by omega), if_pos (by omega)]; exact q _ s1
          · rw [if_neg (by omega)]; exact q _ s1
        · rw [if_pos (by omega), if_neg (by omega)]
          exact fun J W => main J _ bs (Nat.le_trans hz (by decide)) hbl e hbs (fun H2 s2 => s2 _ _ hs') W
/-- an instance is written; all else is as it was -/
def sp_Table_init (K : PySem.W.Frag) (C : Addr) : Sp := fun vs H Q _ => ∃ (a dx : Addr) (x : V) (p : Addr) (k : Bool) (ss : List Int), vs = [.ref a, x] ∧ H a = some (.ins C dx []) ∧ x = .ref p ∧ Sqh k H p (ss.map V.int) ∧ 1 ≤ ss.length ∧ ss.length ≤ 4 ∧ (∀ n ∈ ss, 1 ≤ n) ∧
  ∀ H' t, Sx a H H' → H' a = some (.ins C dx [("_sizes", .ref t)]) → H' t = some (.tup (ss.map V.int)) → Q .non H'
theorem ok_Table_init (T : Tx K mg) : FnOk P w K mg base CX0 3 T.f_Table_init T.fd_Table_init ["self", "rings"] (sp_Table_init K T.c_Table) := by
  refine T.F_Table_init.ok sc_Table_init (fun vs H Q E h => ?_) (fun cdv A outer s H vs Q E hr h => ?_)
  · obtain ⟨a, dx, x, p, k, ss, rfl, _⟩ := h; rfl
  · obtain ⟨a, dx, x, p, k, ss, rfl, ha, rfl, hs, h1, h4, hpos, q⟩ := h
    refine ⟨_, (pss_cons (ps_if (pt_not (pt_val (pe_call (ok_are_sizes T) (hr.mono (by decide)) (by rfl) T.g_are_sizes T.F_are_sizes.kp T.b_are_sizes .nil pass0 (pa_cons (pv 1) pa_nil)))) (pss_one ps_never) pss_nil)
      (pss_one (ps_fld (pv 0) (pe_callTy tuple_H (by rfl) T.n_tuple (by decide +kernel) (pa_cons (pv 1) pa_nil)) rfl))), ?_⟩
    walk_at "rd"
    refine ⟨_, true, rfl, .inr ⟨k, p, ss.map V.int, rfl, hs, .inr ⟨by rw [List.length_map]; exact h1, by rw [List.length_map]; exact h4, List.replicate ss.length true, by simp, by simp, fun i x c hx hc => ?_⟩⟩, fun H1 s1 => ?_⟩
    · simp only [List.getElem?_map, Option.map_eq_some_iff] at hx
      obtain ⟨n, hn, rfl⟩ := hx
      have hi : i < ss.length := (List.getElem?_eq_some_iff.mp hn).1
      rw [List.getElem?_replicate, if_pos hi] at hc
      refine .inr ⟨n, rfl, ?_⟩
      rw [decide_eq_true (hpos n (List.mem_of_getElem? hn))]
      exact (Option.some.inj hc).symm
    · have ha1 := s1 _ _ ha
      have hs1 := hs.same s1
      have cl := T.cl_Table
      have no := T.no_Table_sizes
      walk_at "rd"
      cases k with
      | true =>
        have hs' : H1 p = some (.lst (ss.map V.int)) := hs1
        walk_at "rh"
        intro l hl
        have e1 : upd H1 l (.tup (ss.map V.int)) a = some (.ins T.c_Table dx []) := by rw [upd_old hl (by rw [ha1]; simp)]; exact ha1
        rw [e1]
        refine ⟨_, _, _, rfl, cl, no, by decide, ?_⟩
        have nla : l ≠ a := fun e => by rw [e, ha1] at hl; cases hl
        exact q _ l (Sx.trans (Sx.of (s1.trans (Same.new hl))) Sx.put) upd_same (by rw [upd_ne nla]; exact upd_same)
      | false =>
        have hs' : H1 p = some (.tup (ss.map V.int)) := hs1
        walk_at "rh"
        have npa : p ≠ a := ne_two hs' ha1 (by simp)
        exact ⟨by decide, q _ p (Sx.trans (Sx.of s1) Sx.put) upd_same (by rw [upd_ne npa]; exact hs')⟩
def sp_Table_sizes (K : PySem.W.Frag) (C : Addr) : Sp := fun vs H Q _ => ∃ (a : Addr) (ss : List Int), vs = [.ref a] ∧ TabAt C H a ss ∧ ∀ t, H t = some (.tup (ss.map V.int)) → Q (.ref t) H
theorem ok_Table_sizes (T : Tx K mg) : FnOk P w K mg base CX0 1 T.f_Table_sizes T.fd_Table_sizes ["self"] (sp_Table_sizes K T.c_Table) := by
  refine T.F_Table_sizes.ok sc_Table_sizes (fun vs H Q E h => ?_) (fun cdv A outer s H vs Q E hr h => ?_)
  · obtain ⟨a, ss, rfl, _⟩ := h; rfl
  · obtain ⟨a, ss, rfl, ⟨dx, t, h1, h2⟩, q⟩ := h
    refine ⟨_, (pss_one (ps_ret (pe_fld (pv 0) rfl))), ?_⟩
    have cl := T.cl_Table
    have no := T.no_Table_sizes
    walk_at "rh"
def prodI (ss : List Int) : Int := ss.foldl (fun a b => a * b) 1
theorem prodI_take {ss : List Int} {i : Nat} {n : Int} (h : ss[i]? = some n) : prodI (ss.take (i + 1)) = prodI (ss.take i) * n := by
  unfold prodI
  rw [List.take_add_one, h, List.foldl_append]
  rfl
theorem prodI_small {B : Nat} : ∀ {ss : List Int}, (∀ n ∈ ss, n.natAbs < 2 ^ B) → (prodI ss).natAbs < 2 ^ (B * ss.length + 1) := by
  have gen : ∀ (ss : List Int) (a : Int) (A : Nat), (∀ n ∈ ss, n.natAbs < 2 ^ B) → a.natAbs < 2 ^ A → (ss.foldl (fun a b => a * b) a).natAbs < 2 ^ (A + B * ss.length) := by
    intro ss
    induction ss with
    | nil => intro a A _ h; simpa using h
    | cons x r ih =>
      intro a A h ha
      have h1 : (a * x).natAbs < 2 ^ (A + B) := wide_lt ha (h x (List.mem_cons_self ..))
      have h2 := ih (a * x) (A + B) (fun n hn => h n (List.mem_cons_of_mem _ hn)) h1
      rw [List.length_cons, Nat.mul_succ, show A + (B * r.length + B) = A + B + B * r.length by omega]
      exact h2
  intro ss h
  have q := gen ss 1 1 h (by decide)
  rw [Nat.add_comm 1] at q
  exact q
/-- the sizes of a table that is used: 1 to 4, each of at most 1000 bits -/
structure Sz (ss : List Int) : Prop where
  lo : 1 ≤ ss.length
  hi : ss.length ≤ 4
  pos : ∀ n ∈ ss, 1 ≤ n
  bits : ∀ n ∈ ss, n.natAbs < 2 ^ 1000
theorem Sz.mul {ss : List Int} (z : Sz ss) {i : Nat} {n : Int} (h : ss[i]? = some n) : CMulW (prodI (ss.take i)) n := by
  have h1 := prodI_small (B := 1000) (ss := ss.take i) fun n hn => z.bits n (List.mem_of_mem_take hn)
  have h2 := z.bits n (List.mem_of_getElem? h)
  have h3 : (ss.take i).length ≤ 4 := Nat.le_trans (by rw [List.length_take]; omega) z.hi
  exact wide_mul h1 h2 (by omega) (by omega) (by omega)
def sp_Table_count (K : PySem.W.Frag) (C : Addr) : Sp := fun vs H Q _ => ∃ (a : Addr) (ss : List Int), vs = [.ref a] ∧ TabAt C H a ss ∧ Sz ss ∧ Q (.int (prodI ss)) H
theorem ok_Table_count (T : Tx K mg) : FnOk P w K mg base CX0 1 T.f_Table_count T.fd_Table_count ["self"] (sp_Table_count K T.c_Table) := by
  refine T.F_Table_count.ok sc_Table_count (fun vs H Q E h => ?_) (fun cdv A outer s H vs Q E hr h => ?_)
  · obtain ⟨a, ss, rfl, _⟩ := h; rfl
  · obtain ⟨a, ss, rfl, ⟨dx, t, h1, h2⟩, z, q⟩ := h
    refine ⟨_, (pss_cons (ps_set (i := 1) sc_Table_count.nd rfl (Or.inl rfl) pe_int)
      (pss_cons (ps_for PassesOwn.never rfl (pi_seqH (pe_fld (pv 0) rfl)) (pg_name (i := 2) sc_Table_count.nd rfl (Or.inl rfl))
        (pss_one (ps_set (i := 1) sc_Table_count.nd rfl (Or.inl rfl) (pe_op op_mulA (pv 1) (pv 2)))))
      (pss_one (ps_ret (pv 1))))), ?_⟩
    have cl := T.cl_Table
    have no := T.no_Table_sizes
    walk_at "rh"
    intro J W
    refine forr W (fun i σ H' => H' = H ∧ ∃ v, σ = [some (V.ref a), some (V.int (prodI (ss.take i))), v]) ⟨rfl, _, rfl⟩ (fun i σ H' _ hp => by rw [hp.1]; exact h2) ?_ ?_
    · rintro i x σ H1 H2 hi ⟨rfl, v, rfl⟩ ⟨rfl, hx⟩
      simp only [List.getElem?_map, Option.map_eq_some_iff] at hx
      obtain ⟨n, hn, rfl⟩ := hx
      walk_at "rd"
      refine ⟨.inr (.inr (z.mul hn)), ?_⟩
      rw [prodI_take hn]
    · rintro σ H1 ⟨rfl, v, rfl⟩
      walk_at "rd"
      rw [List.take_length]
      exact q
/-- the places of the steps -/
def mv (g : Int → Int → Int) : List Int → List Int → List Int → List Int
  | p :: ps, c :: cs, s :: ss => (g p c % s) :: mv g ps cs ss
  | _, _, _ => []
theorem mv_len {g : Int → Int → Int} : ∀ {ps cs ss : List Int}, ps.length = cs.length → cs.length = ss.length → (mv g ps cs ss).length = ps.length
  | [], [], [], _, _ => rfl
  | p :: ps, c :: cs, s :: ss, h1, h2 => by
    show (mv g ps cs ss).length + 1 = ps.length + 1
    rw [mv_len (by simpa using h1) (by simpa using h2)]
theorem mv_get {g : Int → Int → Int} : ∀ {ps cs ss : List Int} {i : Nat} {p c s : Int}, ps[i]? = some p → cs[i]? = some c → ss[i]? = some s → (mv g ps cs ss)[i]? = some (g p c % s)
  | p :: ps, c :: cs, s :: ss, 0, _, _, _, h1, h2, h3 => by
    simp only [List.getElem?_cons_zero, Option.some.injEq] at h1 h2 h3
    subst h1 h2 h3
    rfl
  | p :: ps, c :: cs, s :: ss, i + 1, _, _, _, h1, h2, h3 => mv_get (ps := ps) (cs := cs) (ss := ss) (i := i) h1 h2 h3
  | [], _, _, _, _, _, _, h, _, _ => by simp at h
  | _ :: _, [], _, _, _, _, _, _, h, _ => by simp at h
  | _ :: _, _ :: _, [], _, _, _, _, _, _, h => by simp at h
/-- ps a seat of the sizes ss -/
structure Seat (ss ps : List Int) : Prop where
  len : ps.length = ss.length
  ok : ∀ (i : Nat) p s, ps[i]? = some p → ss[i]? = some s → 0 ≤ p ∧ p < s
theorem Seat.b {K : PySem.W.Frag} {H : Hp} {ss ps : List Int} {p : Addr} (h : Seat ss ps) (z : Sz ss) (hp : H p = some (.tup (ps.map V.int))) : SeatB K H ss (.ref p) true := by
  refine .inr ⟨p, _, rfl, hp, .inr ⟨by rw [List.length_map]; exact h.len, ?_, List.replicate ps.length true, by simp, by simp, fun i x s c hx hs hc => ?_⟩⟩
  · have h4 := z.hi
    have hl := h.len
    rw [List.length_map]
    exact Nat.le_trans (by omega : ps.length ≤ 4) (by decide)
  · simp only [List.getElem?_map, Option.map_eq_some_iff] at hx
    obtain ⟨n, hn, rfl⟩ := hx
    have hi : i < ps.length := (List.getElem?_eq_some_iff.mp hn).1
    rw [List.getElem?_replicate, if_pos hi] at hc
    obtain ⟨h1, h2⟩ := h.ok i n s hn hs
    refine .inr ⟨n, rfl, ?_⟩
    rw [decide_eq_true h1, decide_eq_true h2]
    exact (Option.some.inj hc).symm
theorem call_b {K : PySem.W.Frag} {H : Hp} {cs : List Int} {n : Nat} {p : Addr} (h : cs.length = n) (hn : n ≤ 4) (hp : H p = some (.tup (cs.map V.int))) : CallB K H n (.ref p) true := by
  refine .inr ⟨p, _, rfl, hp, .inr ⟨by rw [List.length_map]; exact h, ?_, List.replicate cs.length true, by simp, by simp, fun i x c hx hc => ?_⟩⟩
  · rw [List.length_map]
    exact Nat.le_trans (by omega : cs.length ≤ 4) (by decide)
  · simp only [List.getElem?_map, Option.map_eq_some_iff] at hx
    obtain ⟨m, hm, rfl⟩ := hx
    have hi : i < cs.length := (List.getElem?_eq_some_iff.mp hm).1
    rw [List.getElem?_replicate, if_pos hi] at hc
    obtain rfl := Option.some.inj hc
    exact isInt_int m
def fw (p c : Int) : Int := p + c
def bw (p c : Int) : Int := p - c
def sp_both_moves (K : PySem.W.Frag) : Sp := fun vs H Q _ => ∃ (kt : Bool) (t p c : Addr) (ss ps cs : List Int), vs = [.ref t, .ref p, .ref c] ∧ Sqh kt H t (ss.map V.int) ∧ H p = some (.tup (ps.map V.int)) ∧ H c = some (.tup (cs.map V.int)) ∧ ps.length = cs.length ∧ cs.length = ss.length ∧ ss.length ≤ 4 ∧ (∀ n ∈ ss, 0 < n) ∧
  ∀ H' r f b, Same H H' → H' r = some (.tup [.ref f, .ref b]) → H' f = some (.tup ((mv fw ps cs ss).map V.int)) → H' b = some (.tup ((mv bw ps cs ss).map V.int)) → Q (.ref r) H'
theorem mv_snoc {g : Int → Int → Int} {ps cs ss : List Int} {i : Nat} {p c s : Int} (h1 : ps[i]? = some p) (h2 : cs[i]? = some c) (h3 : ss[i]? = some s) : (mv g ps cs ss).take (i + 1) = (mv g ps cs ss).take i ++ [g p c % s] := by
  rw [List.take_add_one, mv_get h1 h2 h3]
  rfl
theorem ok_both_moves (T : Tx K mg) : FnOk P w K mg base CX0 1 T.f_both_moves T.fd_both_moves ["sizes", "seat", "call"] (sp_both_moves K) := by
  refine T.F_both_moves.ok sc_both_moves (fun vs H Q E h => ?_) (fun cdv A outer s H vs Q E hr h => ?_)
  · obtain ⟨kt, t, p, c, ss, ps, cs, rfl, _⟩ := h; rfl
  · obtain ⟨kt, t, p, c, ss, ps, cs, rfl, ht, hp, hc, hl1, hl2, h4, pos, q⟩ := h
    refine ⟨_, (pss_cons (ps_set (i := 3) sc_both_moves.nd rfl (Or.inl rfl) (pe_lst pa_nil))
      (pss_cons (ps_set (i := 4) sc_both_moves.nd rfl (Or.inl rfl) (pe_lst pa_nil))
      (pss_cons (ps_for PassesOwn.never rfl (pi_z3H (by rfl) T.n_zip (pa_cons (pv 1) (pa_cons (pv 2) (pa_cons (pv 0) pa_nil)))) (pg_tupH (n := 3) rfl (pgs_cons (pg_name (i := 5) sc_both_moves.nd rfl (Or.inl rfl)) (pgs_cons (pg_name (i := 6) sc_both_moves.nd rfl (Or.inl rfl)) (pgs_cons (pg_name (i := 7) sc_both_moves.nd rfl (Or.inl rfl)) pgs_nil))))
        (pss_cons (ps_expr (pe_append (pv 3) (pa_cons (pe_op op_mod (pe_op op_add (pv 5) (pv 6)) (pv 7)) pa_nil)))
        (pss_one (ps_expr (pe_append (pv 4) (pa_cons (pe_op op_mod (pe_op op_sub (pv 5) (pv 6)) (pv 7)) pa_nil))))))
      (pss_one (ps_ret (pe_tup (pa_cons (pe_callTy tuple_H (by rfl) T.n_tuple (by decide +kernel) (pa_cons (pv 3) pa_nil)) (pa_cons (pe_callTy tuple_H (by rfl) T.n_tuple (by decide +kernel) (pa_cons (pv 4) pa_nil)) pa_nil)))))))), ?_⟩
    walk_at "rd"
    intro F hF
    have s1 := Same.new hF (o := .lst [])
    have f1 : (upd H F (.lst [])) F = some (.lst []) := upd_same
    generalize upd H F (HO.lst []) = H1 at s1 f1 ⊢
    intro B hB
    have s2 := Same.new hB (o := .lst [])
    have b2 : (upd H1 B (.lst [])) B = some (.lst []) := upd_same
    generalize upd H1 B (HO.lst []) = H2 at s2 b2 ⊢
    have nFB : F ≠ B := ne_some f1 hB
    have hHB : H B = none := by
      cases e : H B with
      | none => rfl
      | some u => rw [s1 _ _ e] at hB; cases hB
    have s02 := s1.trans s2
    refine ⟨false, false, kt, ps.map V.int, s02 _ _ hp, cs.map V.int, s02 _ _ hc, ss.map V.int, ht.same s02, by rw [List.length_map, List.length_map, hl1], by rw [List.length_map, List.length_map, hl2], fun J W => ?_⟩
    refine forr W (fun i σ H' => ∃ v5 v6 v7, σ = [some (V.ref t), some (V.ref p), some (V.ref c), some (V.ref F), some (V.ref B), v5, v6, v7] ∧ Same H H' ∧ H' F = some (.lst (((mv fw ps cs ss).take i).map V.int)) ∧ H' B = some (.lst (((mv bw ps cs ss).take i).map V.int))) ⟨none, none, none, rfl, s02, s2 _ _ f1, b2⟩ (fun i σ H' _ h => by
      obtain ⟨_, _, _, _, h, _⟩ := h
      exact ⟨h _ _ hp, h _ _ hc, ht.same h⟩) ?_ ?_
    · rintro i x σ3 H3 H4 hi ⟨v5, v6, v7, rfl, s3, hF3, hB3⟩ ⟨T0, x1, y1, z1, rfl, hT, rfl, e1, e2, e3⟩
      simp only [List.getElem?_map, Option.map_eq_some_iff] at e1 e2 e3
      obtain ⟨x2, hx2, rfl⟩ := e1
      obtain ⟨y2, hy2, rfl⟩ := e2
      obtain ⟨z2, hz2, rfl⟩ := e3
      rw [List.length_map] at hi
      have hz0 := pos z2 (List.mem_of_getElem? hz2)
      have sT := Same.new hT (o := .tup [V.int x2, V.int y2, V.int z2])
      walk_at "rd"
      generalize upd H3 T0 (HO.tup [V.int x2, V.int y2, V.int z2]) = H4 at sT ⊢
      have lmv : ∀ g, ((mv g ps cs ss).take i).length ≤ 4 := fun g => by
        rw [List.length_take, mv_len hl1 hl2]; omega
      refine ⟨⟨_, sT _ _ hF3⟩, hz0, _, sT _ _ hF3, ?_, ?_⟩
      · rw [List.length_map]; exact Nat.lt_of_le_of_lt (lmv _) (by decide)
      refine ⟨⟨_, by rw [upd_ne (Ne.symm nFB)]; exact sT _ _ hB3⟩, hz0, _, by rw [upd_ne (Ne.symm nFB)]; exact sT _ _ hB3, ?_, ?_⟩
      · rw [List.length_map]; exact Nat.lt_of_le_of_lt (lmv _) (by decide)
      refine ⟨fun u o hu => ?_, ?_, ?_⟩
      · rw [upd_ne (ne_some hu hHB), upd_ne (ne_some hu hF)]
        exact sT _ _ (s3 _ _ hu)
      · rw [upd_ne nFB, upd_same, mv_snoc hx2 hy2 hz2, List.map_append]
        rfl
      · rw [mv_snoc hx2 hy2 hz2, List.map_append]
        rfl
    · rintro σ3 H3 ⟨v5, v6, v7, rfl, s3, hF3, hB3⟩
      rw [List.length_map] at hF3 hB3
      have hl : ∀ g, ps.length = (mv g ps cs ss).length := fun g => (mv_len hl1 hl2).symm
      rw [hl fw, List.take_length] at hF3
      rw [hl bw, List.take_length] at hB3
      walk_at "rd"
      refine .inl ⟨_, hF3, fun f hf => ?_⟩
      have s4 := Same.new hf (o := .tup ((mv fw ps cs ss).map V.int))
      have f4 : (upd H3 f (.tup ((mv fw ps cs ss).map V.int))) f = some (.tup ((mv fw ps cs ss).map V.int)) := upd_same
      generalize upd H3 f (HO.tup ((mv fw ps cs ss).map V.int)) = H4 at s4 f4 ⊢
      refine .inl ⟨_, s4 _ _ hB3, fun b hb => ?_⟩
      have s5 := Same.new hb (o := .tup ((mv bw ps cs ss).map V.int))
      have b5 : (upd H4 b (.tup ((mv bw ps cs ss).map V.int))) b = some (.tup ((mv bw ps cs ss).map V.int)) := upd_same
      generalize upd H4 b (HO.tup ((mv bw ps cs ss).map V.int)) = H5 at s5 b5 ⊢
      intro r hr
      have s6 := Same.new hr (o := .tup [.ref f, .ref b])
      exact q _ r f b (((s3.trans s4).trans s5).trans s6) upd_same (s6 _ _ (s5 _ _ f4)) (s6 _ _ b5)
def sp_Table_moves (K : PySem.W.Frag) (C : Addr) : Sp := fun vs H Q _ => ∃ (a p c : Addr) (ss ps cs : List Int), vs = [.ref a, .ref p, .ref c] ∧ TabAt C H a ss ∧ Sz ss ∧ H p = some (.tup (ps.map V.int)) ∧ Seat ss ps ∧ H c = some (.tup (cs.map V.int)) ∧ cs.length = ss.length ∧
  ∀ H' r f b, Same H H' → H' r = some (.tup [.ref f, .ref b]) → H' f = some (.tup ((mv fw ps cs ss).map V.int)) → H' b = some (.tup ((mv bw ps cs ss).map V.int)) → Q (.ref r) H'
def sp_stepped (K : PySem.W.Frag) : Sp := fun vs H Q _ => ∃ (kt : Bool) (t p c : Addr) (z : Str) (ss ps cs : List Int), vs = [.ref t, .ref p, .ref c, .str z] ∧ Sqh kt H t (ss.map V.int) ∧ H p = some (.tup (ps.map V.int)) ∧ H c = some (.tup (cs.map V.int)) ∧ ps.length = cs.length ∧ cs.length = ss.length ∧ ss.length ≤ 4 ∧ (∀ n ∈ ss, 0 < n) ∧ (z = "forward" ∨ z = "backward") ∧
  ∀ H' f, Same H H' → H' f = some (.tup ((mv (if z = "forward" then fw else bw) ps cs ss).map V.int)) → Q (.ref f) H'
theorem ok_stepped (T : Tx K mg) : FnOk P w K mg base CX0 2 T.f_stepped T.fd_stepped ["sizes", "seat", "call", "direction"] (sp_stepped K) := by
  refine T.F_stepped.ok sc_stepped (fun vs H Q E h => ?_) (fun cdv A outer s H vs Q E hr h => ?_)
  · obtain ⟨kt, t, p, c, z, ss, ps, cs, rfl, _⟩ := h; rfl
  · obtain ⟨kt, t, p, c, zz, ss, ps, cs, rfl, ht, hp, hc, hl1, hl2, h4, pos, hz, q⟩ := h
    refine ⟨_, (pss_cons (ps_asg (pe_call (ok_both_moves T) (hr.mono (by decide)) (by rfl) T.g_both_moves T.F_both_moves.kp T.b_both_moves .nil pass0 (pa_cons (pv 0) (pa_cons (pv 1) (pa_cons (pv 2) pa_nil)))) (pg_tupH (n := 2) rfl (pgs_cons (pg_name (i := 4) sc_stepped.nd rfl (Or.inl rfl)) (pgs_cons (pg_name (i := 5) sc_stepped.nd rfl (Or.inl rfl)) pgs_nil))))
      (pss_cons (ps_if (pt_cmpR op_eq (pv 3) pe_str (nomark _)) (pss_one (ps_ret (pv 4))) pss_nil)
      (pss_one (ps_ret (pv 5))))), ?_⟩
    walk_at "rh"
    refine ⟨kt, t, p, c, ss, ps, cs, rfl, ht, hp, hc, hl1, hl2, h4, pos, fun H1 r f b s1 hr hf hb => ?_⟩
    walk_at "rh"
    rcases hz with rfl | rfl
    · rw [if_pos rfl] at q ⊢
      exact q _ f s1 hf
    · have e : ¬ (("backward" : Str) = "forward") := by decide +kernel
      rw [if_neg e] at q ⊢
      exact q _ b s1 hb
def sp_Table_step (K : PySem.W.Frag) (C : Addr) : Sp := fun vs H Q _ => ∃ (a p c : Addr) (z : Str) (ss ps cs : List Int), vs = [.ref a, .ref p, .ref c, .str z] ∧ TabAt C H a ss ∧ Sz ss ∧ H p = some (.tup (ps.map V.int)) ∧ Seat ss ps ∧ H c = some (.tup (cs.map V.int)) ∧ cs.length = ss.length ∧ (z = "forward" ∨ z = "backward") ∧
  ∀ H' f, Same H H' → H' f = some (.tup ((mv (if z = "forward" then fw else bw) ps cs ss).map V.int)) → Q (.ref f) H'
end

/-! ### the grid -/
section
variable {P : Program} {w : World} {K : PySem.W.Frag} {mg : Str → Option Value} {base : Heap}
def sp_longer (K : PySem.W.Frag) : Sp := fun vs H Q _ => ∃ (a b : Addr) (cs ds : List Nat) (s : Nat), vs = [.ref a, .int (s : Nat), .ref b] ∧ H a = some (.lst (nV cs)) ∧ H b = some (.lst (nV ds)) ∧ s < 1000000 ∧ cs.length ≤ 2000 ∧ ds.length ≤ 2000 ∧
  ∀ H' p, Same H H' → H p = none → H' p = some (.lst (nV (lgr cs ds s))) → Q (.ref p) H'
theorem ok_longer (T : Tx K mg) : FnOk P w K mg base CX0 1 T.f_longer T.fd_longer ["codes", "size", "digits"] (sp_longer K) := by
  refine T.F_longer.ok sc_longer (fun vs H Q E h => ?_) (fun cdv A outer s H vs Q E hr h => ?_)
  · obtain ⟨a, b, cs, ds, s, rfl, _⟩ := h; rfl
  · obtain ⟨a, b, cs, ds, s, rfl, ha, hb, hs, hc, hd, q⟩ := h
    refine ⟨_, (pss_cons (ps_setLc (i := 3) (own := [("code", 4)]) (g := (gName 4)) (tt := tYes) rfl sc_longer.nd rfl rfl (sw_true rfl rfl rfl (by decide +kernel)) (pi_seqH (pv 0)) (blkOk_by (own := [("code", 4)]) (N := N_longer) (sc := defScope d_longer) (by decide +kernel)) (fun _ _ _ _ _ => (pg_name (i := 4) sc_longer.nd rfl (Or.inl rfl))) (fun _ _ _ _ _ => pts_nil) (fun _ _ _ _ _ => (pe_op op_mulA (pe_op op_mulA pe_int (pv 1)) (pv 4))))
      (pss_one (ps_ret (pe_lc2 (own := [("base", 5), ("digit", 6)]) (g := (gName 5)) (tt := tYes) (vs1 := [6]) (g1 := (gName 6)) (tt1 := tYes) rfl sc_longer.nd (pi_seqH (pv 3)) (blkOk_by (own := [("base", 5), ("digit", 6)]) (N := N_longer) (sc := defScope d_longer) (by decide +kernel)) (by decide) (fun _ _ _ _ _ => (pg_name (i := 5) sc_longer.nd rfl (Or.inl rfl))) (fun _ _ _ _ _ => pts_nil) (fun _ _ _ _ _ => (pi_seqH (pv 2))) (fun _ _ _ _ _ => (pg_name (i := 6) sc_longer.nd rfl (Or.inl rfl))) (fun _ _ _ _ _ => pts_nil) (fun _ _ _ _ _ => (pe_op op_add (pv 5) (pv 6))))))), ?_⟩
    walk_at "rd"
    refine .inl ⟨_, ha, fun J W => ?_⟩
    refine lcr_map W (nV (cs.map fun c => 2 * s * c)) (by simp [nV]) (by unfold nV; rw [List.length_map, sizeLine_eq]; omega) (fun H1 s1 => s1 _ _ ha) (fun i x H H' h => YAt.same h) ?_ ?_
    · rintro i x H1 H1' y Qy hi s1 ⟨rfl, hx⟩ hy hq
      obtain ⟨n, hn, rfl⟩ := nV_get hx
      unfold nV at hy
      rw [List.getElem?_map, List.getElem?_map, hn] at hy
      cases hy
      walk_at "rd"
      refine ⟨.inl (by decide), .inl (by omega), ?_⟩
      have := hq _ (Same.refl _)
      show Qy (V.int (2 * (s : Int) * (n : Int))) _
      have this : Qy (V.int ((2 * s * n : Nat) : Int)) _ := this
      rwa [show ((2 * s * n : Nat) : Int) = 2 * (s : Int) * (n : Int) by simp [Int.natCast_mul]] at this
    · rintro D H1 hD s1 e1
      walk_at "rd"
      refine .inl ⟨_, e1, fun J2 W2 => ?_⟩
      refine lc2_gen W2 (fun D2 i acc Hx => Same H1 Hx ∧ acc = nV (lgr (cs.take i) ds s)) (fun D2 hD2 => ⟨Same.new hD2, rfl⟩) (fun D2 i acc Hx hD2 hi h e => h.1 _ _ e1) ?_ ?_
      · rintro D2 i acc x Hx Hx' Nx hD2 hi ⟨sx, rfl⟩ e ⟨rfl, hx⟩ hN
        obtain ⟨n, hn, rfl⟩ := nV_get hx
        rw [List.getElem?_map, Option.map_eq_some_iff] at hn
        obtain ⟨c, hc, rfl⟩ := hn
        walk_at "rd"
        refine .inl ⟨_, sx _ _ (s1 _ _ hb), fun J3 W3 => ?_⟩
        have ht : lgr (cs.take (i + 1)) ds s = lgr (cs.take i) ds s ++ ds.map fun d => 2 * s * c + d := by
          unfold lgr
          rw [List.take_add_one, hc, List.flatMap_append]
          simp
        refine lc1_gen W3 (fun j acc Hy => Same H1 Hy ∧ acc = nV (lgr (cs.take i) ds s ++ (ds.take j).map fun d => 2 * s * c + d)) ⟨_, ⟨sx, by simp⟩, e⟩ (fun j acc Hy hj h e => h.1 _ _ (s1 _ _ hb)) (fun j acc Hy l l0 h hn => ⟨fun b o e3 => ?_, h.2⟩) ?_ ?_ ?_
        · rw [upd_ne (ne_some e3 hD2)]; exact h.1 b o e3
        · rintro j acc Hy ⟨_, rfl⟩
          have l1 : ∀ (xs : List Nat), (lgr xs ds s).length = xs.length * ds.length := fun xs => by
            unfold lgr
            induction xs with
            | nil => simp
            | cons x xs ih => rw [List.flatMap_cons, List.length_append, ih, List.length_map, List.length_cons, Nat.succ_mul, Nat.add_comm]
          unfold nV
          rw [List.length_map, List.length_append, l1, List.length_map]
          have m1 : (cs.take i).length * ds.length ≤ 2000 * 2000 := Nat.mul_le_mul (by rw [List.length_take]; omega) hd
          have m2 : (ds.take j).length ≤ 2000 := by rw [List.length_take]; omega
          rw [sizeLine_eq]
          omega
        · rintro j acc x Hy Hy' Qy hj ⟨sy, rfl⟩ e2 ⟨rfl, hx⟩ hq
          obtain ⟨d, hd', rfl⟩ := nV_get hx
          walk_at "rd"
          have := hq (.int ((2 * s * c + d : Nat) : Int)) _ e2 ⟨sy, ?_⟩
          · rwa [show ((2 * s * c + d : Nat) : Int) = ((2 * s * c : Nat) : Int) + (d : Int) by simp] at this
          · rw [List.take_add_one, hd', List.map_append, ← List.append_assoc]
            unfold nV
            simp
        · rintro acc Hy ⟨sy, rfl⟩ e2
          refine hN _ Hy e2 ⟨sy, ?_⟩
          unfold nV
          rw [ht, List.length_map, List.take_length]
      · rintro D2 acc Hx hD2 ⟨sx, rfl⟩ e
        refine q Hx D2 (s1.trans sx) ?_ ?_
        · cases e3 : H D2 with
          | none => rfl
          | some o => rw [s1 _ _ e3] at hD2; cases hD2
        · have el : (nV (cs.map fun c => 2 * s * c)).length = cs.length := by simp [nV]
          rw [el, List.take_length] at e
          exact e
def MG (g a : Addr) (dx : Addr) (C : Addr) (ps : List Nat) (H : Hp) (σ : L2.St) (H' : Hp) : Prop := ∃ c d m st v7 v8 v9 v10, σ = [some (V.ref g), some (V.ref a), some (V.ref c), some (V.ref d), some (V.ref m), some (V.ref st), some (V.int (room ps : Nat)), v7, v8, v9, v10] ∧ Same H H' ∧
  H' c = some (.lst (nV ((List.range (cnt ps)).map (cdx ps)))) ∧ H' d = some (.lst (nV ((List.range (cnt ps)).map (dbx ps)))) ∧ H' m = some (.lst (nV ((List.range (cnt ps)).map (mrx ps)))) ∧ H' st = some (.lst (nV (strd ps)))
def sp_Grid_init (K : PySem.W.Frag) (C : Addr) : Sp := fun vs H Q _ => ∃ (g a : Addr) (dx : Addr) (k : Bool) (ss : List Nat), vs = [.ref g, .ref a] ∧ H g = some (.ins C dx []) ∧ Sqh k H a (nV ss) ∧ SmS ss ∧
  ∀ H', Sx g H H' → GridAt C [] H' g ss → Q .non H'
theorem ok_Grid_init (T : Tx K mg) : FnOk P w K mg base CX0 2 T.f_Grid_init T.fd_Grid_init ["self", "sizes"] (sp_Grid_init K T.c_Grid) := by
  refine T.F_Grid_init.ok sc_Grid_init (fun vs H Q E h => ?_) (fun cdv A outer s H vs Q E hr h => ?_)
  · obtain ⟨g, a, dx, k, ss, rfl, _⟩ := h; rfl
  · obtain ⟨g, a, dx, k, ss, rfl, hg, ha, z, q⟩ := h
    refine ⟨_, (pss_cons (ps_asg3 (pe_lst (pa_cons pe_int pa_nil)) (pg_name (i := 2) sc_Grid_init.nd rfl (Or.inl rfl)) (pg_name (i := 3) sc_Grid_init.nd rfl (Or.inl rfl)) (pg_name (i := 4) sc_Grid_init.nd rfl (Or.inl rfl)))
      (pss_cons (ps_set (i := 5) sc_Grid_init.nd rfl (Or.inl rfl) (pe_lst pa_nil))
      (pss_cons (ps_set (i := 6) sc_Grid_init.nd rfl (Or.inr rfl) pe_int)
      (pss_cons (ps_for PassesOwn.never rfl (pi_seqH (pv 1)) (pg_name (i := 7) sc_Grid_init.nd rfl (Or.inr rfl))
        (pss_cons (ps_set (i := 2) sc_Grid_init.nd rfl (Or.inl rfl) (pe_call (ok_longer T) (hr.mono (by decide)) (by rfl) T.g_longer T.F_longer.kp T.b_longer .nil pass0 (pa_cons (pv 2) (pa_cons (pv 7) (pa_cons (pe_listRg rfl (by rfl) T.n_list (prg_1 (by rfl) T.n_range (pv 7))) pa_nil)))))
        (pss_cons (ps_set (i := 3) sc_Grid_init.nd rfl (Or.inl rfl) (pe_call (ok_longer T) (hr.mono (by decide)) (by rfl) T.g_longer T.F_longer.kp T.b_longer .nil pass0 (pa_cons (pv 3) (pa_cons (pv 7) (pa_cons (pe_lc (own := [("place", 8)]) (g := (gName 8)) (tt := tYes) rfl sc_Grid_init.nd (pi_range1H (by rfl) T.n_range (pa_cons (pv 7) pa_nil)) (blkOk_by (own := [("place", 8)]) (N := N_Grid_init) (sc := defScope d_Grid_init) (by decide +kernel)) (fun _ _ _ _ _ => (pg_name (i := 8) sc_Grid_init.nd rfl (Or.inl rfl))) (fun _ _ _ _ _ => pts_nil) (fun _ _ _ _ _ => (pe_op op_mod (pe_op op_mulA pe_int (pv 8)) (pv 7)))) pa_nil)))))
        (pss_cons (ps_set (i := 4) sc_Grid_init.nd rfl (Or.inl rfl) (pe_call (ok_longer T) (hr.mono (by decide)) (by rfl) T.g_longer T.F_longer.kp T.b_longer .nil pass0 (pa_cons (pv 4) (pa_cons (pv 7) (pa_cons (pe_lc (own := [("place", 8)]) (g := (gName 8)) (tt := tYes) rfl sc_Grid_init.nd (pi_range1H (by rfl) T.n_range (pa_cons (pv 7) pa_nil)) (blkOk_by (own := [("place", 8)]) (N := N_Grid_init) (sc := defScope d_Grid_init) (by decide +kernel)) (fun _ _ _ _ _ => (pg_name (i := 8) sc_Grid_init.nd rfl (Or.inl rfl))) (fun _ _ _ _ _ => pts_nil) (fun _ _ _ _ _ => (pe_op op_sub (pv 7) (pv 8)))) pa_nil)))))
        (pss_cons (ps_setLc (i := 5) (own := [("stride", 9)]) (g := (gName 9)) (tt := tYes) rfl sc_Grid_init.nd rfl rfl (sw_true rfl rfl rfl (by decide +kernel)) (pi_seqH (pv 5)) (blkOk_by (own := [("stride", 9)]) (N := N_Grid_init) (sc := defScope d_Grid_init) (by decide +kernel)) (fun _ _ _ _ _ => (pg_name (i := 9) sc_Grid_init.nd rfl (Or.inl rfl))) (fun _ _ _ _ _ => pts_nil) (fun _ _ _ _ _ => (pe_op op_mulA (pe_op op_mulA pe_int (pv 7)) (pv 9))))
        (pss_cons (ps_expr (pe_append (pv 5) (pa_cons pe_int pa_nil)))
        (pss_one (ps_set (i := 6) sc_Grid_init.nd rfl (Or.inr rfl) (pe_op op_mulA (pe_op op_mulA (pv 6) pe_int) (pv 7))))))))))
      (pss_cons (ps_fld (pv 0) (pe_listZip rfl (by rfl) T.n_list (by rfl) T.n_zip (pa_cons (pv 5) (pa_cons (pv 1) pa_nil))) rfl)
      (pss_cons (ps_fld (pv 0) (pv 2) rfl)
      (pss_cons (ps_fld (pv 0) (pv 3) rfl)
      (pss_cons (ps_fld (pv 0) (pv 4) rfl)
      (pss_cons (ps_fld (pv 0) (pe_op op_shlW pe_int (pv 6)) rfl)
      (pss_one (ps_fld (pv 0) (pe_lc (own := [("double", 10)]) (g := (gName 10)) (tt := tYes) rfl sc_Grid_init.nd (pi_seqH (pv 3)) (blkOk_by (own := [("double", 10)]) (N := N_Grid_init) (sc := defScope d_Grid_init) (by decide +kernel)) (fun _ _ _ _ _ => (pg_name (i := 10) sc_Grid_init.nd rfl (Or.inl rfl))) (fun _ _ _ _ _ => pts_nil) (fun _ _ _ _ _ => (pe_op op_sub (pv 6) (pv 10)))) rfl))))))))))), ?_⟩
    walk_at "rd"
    intro p hp p2 hp2
    have s1 := Same.new hp (o := .lst [V.int 0])
    have f1 : (upd H p (.lst [V.int 0])) p = some (.lst [V.int 0]) := upd_same
    generalize upd H p (HO.lst [V.int 0]) = H1 at s1 f1 hp2 ⊢
    have s2 := Same.new hp2 (o := .lst [])
    have f2 : (upd H1 p2 (.lst [])) p2 = some (.lst []) := upd_same
    have f3 := s2 _ _ f1
    have s02 := s1.trans s2
    generalize upd H1 p2 (HO.lst []) = H2 at s2 s02 f2 f3 ⊢
    refine seq_or (Sqh.same s02 ha) fun J W => ?_
    refine forr W (fun i σ H' => MG g a dx T.c_Grid (ss.take i) H σ H') ⟨p, p, p, p2, none, none, none, none, rfl, s02, f3, f3, f3, f2⟩ (fun i σ H' _ h => by obtain ⟨_, _, _, _, _, _, _, _, _, s, _⟩ := h; exact Sqh.same s ha) ?_ ?_
    · rintro i x σ H3o H3 hi ⟨c, d, m, st, v7, v8, v9, v10, rfl, s3, ec, ed, em, es⟩ ⟨rfl, hx⟩
      obtain ⟨n, hn, rfl⟩ := nV_get hx
      have zt := z.take i
      have zt1 := z.take (i + 1)
      have hn1 := z.pos n (List.mem_of_getElem? hn)
      have hn2 := z.mem (List.mem_of_getElem? hn)
      have hl : ((List.range (cnt (ss.take i)))).length ≤ 2000 := by rw [List.length_range]; exact zt.cnt
      have hN : ((n : Nat) : Int).toNat = n := by omega
      walk_at "rd"
      refine ⟨RgOk.of_le (by decide) (by omega) (by decide) (by omega), fun q1 hq1 => ?_⟩
      rw [rgV_nV]
      have t1 := Same.new hq1 (o := .lst (nV (List.range n)))
      have g1 : (upd H3 q1 (.lst (nV (List.range n)))) q1 = some (.lst (nV (List.range n))) := upd_same
      generalize upd H3 q1 (HO.lst (nV (List.range n))) = H4 at t1 g1 ⊢
      refine ⟨c, q1, _, _, n, rfl, t1 _ _ ec, g1, by omega, by rw [List.length_map]; exact hl, by rw [List.length_range]; omega, fun H5 c' t2 nc' ec' => ?_⟩
      rw [codes_snoc, ← take_snoc hn] at ec'
      refine ⟨by omega, by omega, fun J2 W2 => ?_⟩
      rw [hN] at W2
      refine lcr_map W2 (nV ((List.range n).map fun d => 2 * d % n)) (by rw [nV_len, List.length_map, List.length_range]) (by rw [sizeLine_eq]; omega) (fun _ _ => trivial) (fun i x H H' h => by rw [h.1]; exact Same.refl _) ?_ ?_
      · rintro j x H6o H6 y Qy hj _ ⟨rfl, rfl⟩ hy hq
        obtain rfl := range_get_nV hj hy
        walk_at "rd"
        refine ⟨.inl (by decide), by omega, ?_⟩
        have := hq _ (Same.refl _)
        rwa [show ((2 * j % n : Nat) : Int) = 2 * (j : Int) % (n : Int) by simp] at this
      rintro D H6 hD t3 eD
      have t46 := t1.trans (t2.trans t3)
      refine ⟨d, D, _, _, n, rfl, t46 _ _ ed, eD, by omega, by rw [List.length_map]; exact hl, by rw [List.length_map, List.length_range]; omega, fun H7 d' t4 nd' ed' => ?_⟩
      rw [doubles_snoc, ← take_snoc hn] at ed'
      refine ⟨by omega, by omega, fun J3 W3 => ?_⟩
      rw [hN] at W3
      refine lcr_map W3 (nV ((List.range n).map fun d => n - d)) (by rw [nV_len, List.length_map, List.length_range]) (by rw [sizeLine_eq]; omega) (fun _ _ => trivial) (fun i x H H' h => by rw [h.1]; exact Same.refl _) ?_ ?_
      · rintro j x H8o H8 y Qy hj _ ⟨rfl, rfl⟩ hy hq
        obtain rfl := range_get_nV hj hy
        walk_at "rd"
        have := hq _ (Same.refl _)
        rwa [show ((n - j : Nat) : Int) = (n : Int) - (j : Int) by omega] at this
      rintro D2 H8 hD2 t5 eD2
      have t48 := t46.trans (t4.trans t5)
      refine ⟨m, D2, _, _, n, rfl, t48 _ _ em, eD2, by omega, by rw [List.length_map]; exact hl, by rw [List.length_map, List.length_range]; omega, fun H9 m' t6 nm' em' => ?_⟩
      rw [mirrors_snoc, ← take_snoc hn] at em'
      have t49 := t48.trans t6
      refine .inl ⟨_, t49 _ _ es, fun J4 W4 => ?_⟩
      refine lcr_map W4 (nV ((strd (ss.take i)).map fun c => 2 * n * c)) (by rw [nV_len, nV_len, List.length_map]) (by rw [nV_len, strd_len, sizeLine_eq]; have := zt.len; omega) (fun H s => s _ _ (t49 _ _ es)) (fun i x H H' h => YAt.same h) ?_ ?_
      · rintro j x H10o H10 y Qy hj _ ⟨rfl, hx⟩ hy hq
        obtain ⟨k0, hk0, rfl⟩ := nV_get hx
        unfold nV at hy
        rw [List.getElem?_map, List.getElem?_map, hk0] at hy
        cases hy
        walk_at "rd"
        refine ⟨.inl (by decide), .inl (by omega), ?_⟩
        have : Qy (V.int ((2 * n * k0 : Nat) : Int)) _ := hq _ (Same.refl _)
        rwa [show ((2 * n * k0 : Nat) : Int) = 2 * (n : Int) * (k0 : Int) by simp [Int.natCast_mul]] at this
      rintro D3 H10 hD3 t7 eD3
      have t310 := t49.trans t7
      have fc := t7 _ _ (t6 _ _ (t5 _ _ (t4 _ _ (t3 _ _ ec'))))
      have fd := t7 _ _ (t6 _ _ (t5 _ _ ed'))
      have fm := t7 _ _ em'
      walk_at "rd"
      have hr1 := zt.room
      have ner : room (ss.take (i + 1)) = room (ss.take i) * 2 * n := by rw [take_snoc hn, room_snoc]
      refine ⟨⟨_, eD3⟩, _, eD3, by rw [nV_len, List.length_map, strd_len, sizeLine_eq]; have := zt.len; omega, .inl (by omega), .inl (by omega), ?_⟩
      have c9 := t6 _ _ (t5 _ _ (t4 _ _ (t3 _ _ ec')))
      have d9 := t6 _ _ (t5 _ _ ed')
      refine ⟨c', d', m', D3, some (V.int (n : Nat)), v8, v9, v10, ?_, fun b o e => ?_, ?_, ?_, ?_, ?_⟩
      · rw [ner]; simp [Int.natCast_mul]
      · rw [upd_ne (ne_some (s3.trans t49 _ _ e) hD3)]
        exact s3.trans t310 _ _ e
      · rw [upd_ne (ne_some c9 hD3)]; exact fc
      · rw [upd_ne (ne_some d9 hD3)]; exact fd
      · rw [upd_ne (ne_some em' hD3)]; exact fm
      · rw [upd_same, take_snoc hn, strd_snoc]
        unfold nV
        simp
    · rintro σ H3 ⟨c, d, m, st, v7, v8, v9, v10, rfl, s3, ec, ed, em, es⟩
      rw [nV_len, List.take_length] at ec ed em es
      rw [nV_len, List.take_length]
      have zr := z.room
      have cl := T.cl_Grid
      have n1 := T.no_Grid_rings
      have n2 := T.no_Grid_codes
      have n3 := T.no_Grid_doubles
      have n4 := T.no_Grid_mirrors
      have n5 := T.no_Grid_first_bit
      have n6 := T.no_Grid_spots
      have hg3 := s3 _ _ hg
      walk_at "rd"
      refine ⟨true, k, _, Sqh.sqk (k := true) es, _, (Sqh.same s3 ha).sqk, by rw [nV_len, nV_len, strd_len], by rw [nV_len, strd_len, sizeLine_eq]; have := z.len; omega, fun H4 r ts s4 nr nts prts ndts lts er ets => ?_⟩
      have hg4 := s4 _ _ hg3
      have e1 : putF (Str.ofString "rings") (V.ref r) [] = ([("rings", V.ref r)] : List (Str × V)) := rfl
      have e2 : putF (Str.ofString "codes") (V.ref c) ([("rings", V.ref r)] : List (Str × V)) = ([("rings", V.ref r), ("codes", V.ref c)] : List (Str × V)) := rfl
      have e3 : putF (Str.ofString "doubles") (V.ref d) ([("rings", V.ref r), ("codes", V.ref c)] : List (Str × V)) = ([("rings", V.ref r), ("codes", V.ref c), ("doubles", V.ref d)] : List (Str × V)) := rfl
      have e4 : putF (Str.ofString "mirrors") (V.ref m) ([("rings", V.ref r), ("codes", V.ref c), ("doubles", V.ref d)] : List (Str × V)) = ([("rings", V.ref r), ("codes", V.ref c), ("doubles", V.ref d), ("mirrors", V.ref m)] : List (Str × V)) := rfl
      refine ⟨T.c_Grid, dx, [], hg4, ?_⟩
      rw [e1, e2, e3, e4]
      refine ⟨cl, n1, by simp, cl, n2, by simp, cl, n3, by simp, cl, n4, by simp, shl_ok (n := 1) (by decide) (by omega), cl, n5, by simp, ?_⟩
      have gd : g ≠ d := ne_two hg3 ed (by simp)
      have gc : g ≠ c := ne_two hg3 ec (by simp)
      have gm : g ≠ m := ne_two hg3 em (by simp)
      have gr : g ≠ r := ne_two hg4 er (by simp)
      generalize hH5 : upd (upd (upd (upd (upd H4 g _) g _) g _) g _) g _ = H5
      have sx : Sx g H4 H5 := by
        rw [← hH5]
        exact Sx.trans (Sx.trans (Sx.trans (Sx.trans Sx.put Sx.put) Sx.put) Sx.put) Sx.put
      have g5 : H5 g = some (.ins T.c_Grid dx [("rings", .ref r), ("codes", .ref c), ("doubles", .ref d), ("mirrors", .ref m), ("first_bit", .int ((2 ^ room ss : Nat) : Int))]) := by
        rw [← hH5, upd_same]
        show some (HO.ins T.c_Grid dx [("rings", .ref r), ("codes", .ref c), ("doubles", .ref d), ("mirrors", .ref m), ("first_bit", .int (1 * 2 ^ ((room ss : Nat) : Int).toNat))]) = _
        rw [Int.one_mul, Int.toNat_natCast]
        norm_cast
      clear hH5
      have d5 := sx _ _ gd.symm (s4 _ _ ed)
      refine .inl ⟨_, d5, fun J2 W2 => ?_⟩
      refine lcr_map W2 (nV ((List.range (cnt ss)).map fun i => room ss - dbx ss i)) (by rw [nV_len, nV_len, List.length_map, List.length_map]) (by rw [nV_len, List.length_map, List.length_range, sizeLine_eq]; have := z.cnt; omega) (fun H s => s _ _ d5) (fun i x H H' h => YAt.same h) ?_ ?_
      · rintro j x H6o H6 y Qy hj _ ⟨rfl, hx⟩ hy hq
        rw [nV_len, List.length_map, List.length_range] at hj
        obtain rfl := range_get_nV hj hx
        obtain rfl := range_get_nV hj hy
        have := dbx_lt hj
        walk_at "rd"
        have := hq _ (Same.refl _)
        rwa [show ((room ss - dbx ss j : Nat) : Int) = (room ss : Int) - (dbx ss j : Int) by omega] at this
      · rintro D H6 hD t6 eD
        have g6 := t6 _ _ g5
        have gD : g ≠ D := ne_two g6 eD (by simp)
        refine ⟨_, dx, _, g6, cl, n6, by simp, q _ (fun b o nb e => ?_) ⟨dx, r, c, d, m, D, ts, ?_, ?_, ?_, ?_, ?_, ?_, ?_, ?_, by simp, by simp, by simp, by simp, by simp, by simp, by simp⟩⟩
        · rw [upd_ne nb]
          exact t6 _ _ (sx _ _ nb (s4 _ _ (s3 _ _ e)))
        · rw [upd_same]; rfl
        · rw [upd_ne gc.symm]; exact t6 _ _ (sx _ _ gc.symm (s4 _ _ ec))
        · rw [upd_ne gd.symm]; exact t6 _ _ d5
        · rw [upd_ne gm.symm]; exact t6 _ _ (sx _ _ gm.symm (s4 _ _ em))
        · rw [upd_ne gD.symm]; exact eD
        · rw [upd_ne gr.symm]; exact t6 _ _ (sx _ _ gr.symm er)
        · rw [lts, nV_len, strd_len]
        · intro i t s0 h1 h2
          have hi := (List.getElem?_eq_some_iff.mp h2).1
          have e5 := ets i t (.int (room (ss.drop (i + 1)) : Nat)) (.int (s0 : Nat)) h1 (by unfold nV; rw [List.getElem?_map, strd_get _ _ hi]; rfl) (by unfold nV; rw [List.getElem?_map, h2]; rfl)
          have gt : g ≠ t := ne_two hg4 e5 (by simp)
          rw [upd_ne gt.symm]
          exact t6 _ _ (sx _ _ gt.symm e5)
end

/-! ### the spread -/
section
variable {P : Program} {w : World} {K : PySem.W.Frag} {mg : Str → Option Value} {base : Heap}
def sp_Grid_widened (K : PySem.W.Frag) (C : Addr) : Sp := fun vs H Q _ => ∃ (g : Addr) (F : List Addr) (ss : List Nat) (u : Nat), vs = [.ref g, .int (u : Nat)] ∧ GridAt C F H g ss ∧ SmS ss ∧ u < 2 ^ 50000 ∧ ∀ H', Same H H' → Q (.int (wid ss u : Nat)) H'
theorem shl_nat (u k : Nat) : (u : Int) * 2 ^ k = ((u <<< k : Nat) : Int) := by
  rw [Nat.shiftLeft_eq, Int.natCast_mul, Int.natCast_pow]
  rfl
theorem ok_Grid_widened (T : Tx K mg) : FnOk P w K mg base CX0 1 T.f_Grid_widened T.fd_Grid_widened ["self", "seats"] (sp_Grid_widened K T.c_Grid) := by
  refine T.F_Grid_widened.ok sc_Grid_widened (fun vs H Q E h => ?_) (fun cdv A outer s H vs Q E hr h => ?_)
  · obtain ⟨g, F, ss, u, rfl, _⟩ := h; rfl
  · obtain ⟨g, F, ss, u, rfl, hG, z, hu, q⟩ := h
    refine ⟨_, (pss_cons (ps_for PassesOwn.never rfl (pi_seqH (pe_fld (pv 0) rfl)) (pg_tupH (n := 2) rfl (pgs_cons (pg_name (i := 2) sc_Grid_widened.nd rfl (Or.inl rfl)) (pgs_cons (pg_name (i := 3) sc_Grid_widened.nd rfl (Or.inl rfl)) pgs_nil)))
        (pss_one (ps_set (i := 1) sc_Grid_widened.nd rfl (Or.inl rfl) (pe_op op_or (pv 1) (pe_op op_shlW (pv 1) (pe_op op_mulA (pv 3) (pv 2)))))))
      (pss_one (ps_ret (pv 1)))), ?_⟩
    obtain ⟨dx, r, c, d, m, sp, ts, h1, h2, h3, h4, h5, h6, h7, h8, _⟩ := hG
    have cl := T.cl_Grid
    have n1 := T.no_Grid_rings
    walk_at "rd"
    refine ⟨_, _, _, h1, cl, n1, V.ref r, rfl, r, rfl, .inl ⟨_, h6, fun J W => ?_⟩⟩
    have zr := z.room
    refine forr W (fun i σ H' => Same H H' ∧ ∃ (v : Nat) (v2 v3 : Option V), σ = [some (V.ref g), some (V.int (v : Nat)), v2, v3] ∧ wid (ss.drop i) v = wid ss u ∧ v < 2 ^ (50000 + 40000 * i)) ⟨Same.refl _, u, none, none, rfl, rfl, hu⟩ (fun i σ H' _ h => h.1 _ _ h6) ?_ ?_
    · rintro i x σ H1o H1 hi ⟨s1, v, v2, v3, rfl, ew, hv⟩ ⟨rfl, hx⟩
      rw [List.getElem?_map, Option.map_eq_some_iff] at hx
      obtain ⟨t, ht, rfl⟩ := hx
      rw [List.length_map, h7] at hi
      have hs0 := List.getElem?_eq_getElem hi
      have e8 := s1 _ _ (h8 i t _ ht hs0)
      have hd : ss.drop i = ss[i] :: ss.drop (i + 1) := by rw [List.drop_eq_getElem_cons hi]
      have hrr : ss[i] * room (ss.drop (i + 1)) ≤ 32000 := by
        have h9 : room (ss.drop i) ≤ room ss := by
          clear hu q hv ew h1 h2 h3 h4 h5 h6 h7 h8 W s1 e8 ht hs0 hd
          have hp := z.pos
          have : ∀ (ss : List Nat) (i : Nat), (∀ s ∈ ss, 1 ≤ s) → room (ss.drop i) ≤ room ss := fun ss => by
            induction ss with
            | nil => intro i _; rw [List.drop_nil]; exact Nat.le_refl _
            | cons s ss ih =>
              intro i hp
              cases i with
              | zero => exact Nat.le_refl _
              | succ i =>
                have := ih i fun x hx => hp x (List.mem_cons_of_mem _ hx)
                have hs := hp s (List.mem_cons_self ..)
                show room (ss.drop i) ≤ 2 * s * room ss
                exact Nat.le_trans this (Nat.le_mul_of_pos_left _ (by omega))
          exact this ss i hp
        rw [hd] at h9
        have h10 : 2 * ss[i] * room (ss.drop (i + 1)) ≤ room ss := h9
        rw [Nat.mul_assoc] at h10
        omega
      walk_at "rd"
      have ek : ((ss[i] : Nat) : Int) * (room (ss.drop (i + 1)) : Nat) = ((ss[i] * room (ss.drop (i + 1)) : Nat) : Int) := by rw [Int.natCast_mul]
      have hsm := z.mem (List.getElem_mem hi)
      refine ⟨_, e8, rfl, _, _, rfl, _, _, rfl, rfl, _, rfl, _, rfl, .inl (by omega), ?_, s1, ?_⟩
      · rw [ek]
        refine shl_ok (n := 50000 + 40000 * i) (by rw [Int.natAbs_natCast]; exact hv) ?_
        have := z.len
        omega
      · rw [ek, Int.toNat_natCast, shl_nat, bitOr_nat]
        refine ⟨_, rfl, ?_, ?_⟩
        · rw [← ew, hd]; rfl
        · refine Nat.or_lt_two_pow (Nat.lt_of_lt_of_le hv (Nat.pow_le_pow_right (by decide) (by omega))) ?_
          rw [Nat.shiftLeft_eq, show 50000 + 40000 * (i + 1) = (50000 + 40000 * i) + 40000 by omega, Nat.pow_add]
          exact Nat.mul_lt_mul_of_lt_of_le hv (Nat.pow_le_pow_right (by decide) (by omega)) (Nat.pow_pos (by decide))
    · rintro σ H1 ⟨s1, v, v2, v3, rfl, ew, hv⟩
      rw [List.length_map, h7, List.drop_length] at ew
      walk_at "rd"
      rw [show v = wid ss u from ew]
      exact q _ s1
abbrev Fr4 (s nb rw st : Addr) : List Addr := [s, nb, rw, st]
theorem cdx_get {l : List V} {ss : List Nat} {f : Nat → Nat} {i : Nat} (hi : i < cnt ss) : (nV ((List.range (cnt ss)).map f))[i]? = some (V.int (f i : Nat)) := by
  unfold nV
  rw [List.map_map, List.getElem?_map, List.getElem?_range hi]
  rfl
def sp_Spread_meeting (K : PySem.W.Frag) (C CG : Addr) : Sp := fun vs H Q _ => ∃ (s g nb rw st : Addr) (ss : List Nat) (U : Nat → Bool) (c e : Nat) (cl : Bool) (n x : Nat), vs = [.ref s, .int (n : Nat), .int (x : Nat)] ∧ SpAt C CG ss U H s g nb rw st c e cl ∧ SmS ss ∧ n < (if Wq ss U c = [] then c - 1 else c) ∧ x < cnt ss ∧
  ∀ kn mn : Nat, Bits (cdx ss) (Un ss U n) (cnt ss) kn → Bits (mrx ss) (Un ss U n) (cnt ss) mn → Q (.int ((mn <<< dbx ss x &&& wid ss kn : Nat) : Int)) H
theorem ok_Spread_meeting (T : Tx K mg) : FnOk P w K mg base CX0 1 T.f_Spread_meeting T.fd_Spread_meeting ["self", "number", "at"] (sp_Spread_meeting K T.c_Spread T.c_Grid) := by
  refine T.F_Spread_meeting.ok sc_Spread_meeting (fun vs H Q E h => ?_) (fun cdv A outer s H vs Q E hr h => ?_)
  · obtain ⟨s, g, nb, rw, st, ss, U, c, e, cl, n, x, rfl, _⟩ := h; rfl
  · obtain ⟨sp, g, nb, rw', st, ss, U, c, e, cl, n, x, rfl, ⟨dx, wt, rs, ts, k, m, u, D⟩, z, hn, hx, q⟩ := h
    refine ⟨_, (pss_cons (ps_asg (pe_ix ix_lH (pe_fld (pv 0) rfl) (pv 1) (fun _ _ => rfl)) (pg_tupH (n := 2) rfl (pgs_cons (pg_name (i := 3) sc_Spread_meeting.nd rfl (Or.inl rfl)) (pgs_cons (pg_name (i := 4) sc_Spread_meeting.nd rfl (Or.inl rfl)) pgs_nil))))
      (pss_one (ps_ret (pe_op op_and (pe_op op_shlW (pv 4) (pe_ix ix_lH (pe_fld (pe_fld (pv 0) rfl) rfl) (pv 2) (fun _ _ => rfl))) (pv 3))))), ?_⟩
    rw [← D.tsl] at hn
    have ht := List.getElem?_eq_getElem hn
    obtain ⟨_, kn, mn, e1, b1, b2⟩ := D.tsv n _ ht
    have cS := T.cl_Spread
    have cG := T.cl_Grid
    have m1 := T.no_Spread_sets
    have m2 := T.no_Spread_grid
    have m3 := T.no_Grid_doubles
    obtain ⟨gdx, r, gc, gd, gm, gsp, gts, h1, h2, h3, h4, h5, h6, h7, h8, _⟩ := D.grid
    have hself := D.self
    walk_at "rd"
    have hm := b2.lt (fun i hi => mrx_lt hi)
    have hk := wid_lt b1.only
    have zr := z.room
    have hd := dbx_lt hx
    refine ⟨_, _, _, hself, cS, m1, _, rfl, st, rfl, _, D.stv, _, atI_nat (by rw [List.getElem?_map, ht]; rfl), _, rfl, _, e1, rfl, _, _, rfl, _, _, rfl, rfl, _, _, _, hself, cS, m2, _, rfl, ?_⟩
    refine ⟨g, rfl, _, _, _, h1, cG, m3, _, rfl, _, rfl, _, h3, _, atI_nat (cdx_get (l := []) hx), _, rfl, _, rfl, shl_ok (n := room ss) (by rw [Int.natAbs_natCast]; exact hm) (by omega), _, rfl, ?_⟩
    rw [Int.toNat_natCast, shl_nat, bitAnd_nat]
    exact q kn mn b1 b2
/-- a seat of the row gets its number -/
def MEn (sp r nb : Addr) (ss : List Nat) (U : Nat → Bool) (c : Nat) (l : List Nat) (H : Hp) (σ : L2.St) (H' : Hp) : Prop := ∃ v3 xs, σ = [some (V.ref sp), some (V.ref r), some (V.int (c : Nat)), v3] ∧ Sx nb H H' ∧ H' nb = some (.lst xs) ∧ xs.length = cnt ss ∧ ∀ i, i < cnt ss → xs[i]? = some (if i ∈ l then V.int (c : Nat) else numV (nmq ss U c i))
def ME3 (C sp r g nb wt rw st dx : Addr) (rs ts : List Addr) (k m u : Nat) (ss : List Nat) (U : Nat → Bool) (c : Nat) (H : Hp) (σ : L2.St) (H' : Hp) : Prop := ∃ v3, σ = [some (V.ref sp), some (V.ref r), some (V.int (c : Nat)), v3] ∧ Sm [sp, nb, rw] H H' ∧ H' sp = some (.ins C dx (spF g nb wt rw st k m u)) ∧ H' nb = some (.lst (nbL ss U (c + 1))) ∧ H' rw = some (.lst ((rs ++ [r]).map V.ref))
def ME4 (C sp r g nb rw st dx : Addr) (rs ts : List Addr) (k m u : Nat) (ss : List Nat) (U : Nat → Bool) (c : Nat) (H : Hp) (σ : L2.St) (H' : Hp) : Prop := ∃ wt, H wt = none ∧ H' wt = some (.lst (nV (Wq ss U (c + 1)))) ∧ ME3 C sp r g nb wt rw st dx rs ts k m u ss U c H σ H'
def orL (f : Nat → Nat) (l : List Nat) (u : Nat) : Nat := (l.map f).foldl (fun u c => u ||| 1 <<< c) u
theorem orL_snoc (f : Nat → Nat) (l : List Nat) (x u : Nat) : orL f (l ++ [x]) u = orL f l u ||| 1 <<< f x := by unfold orL; rw [List.map_append, List.foldl_append]; rfl
def ME5 (C sp r g nb wt rw st dx : Addr) (rs : List Addr) (k m u : Nat) (ss : List Nat) (U : Nat → Bool) (c : Nat) (l l' : List Nat) (v3 : Option V) (H : Hp) (σ : L2.St) (H' : Hp) : Prop := σ = [some (V.ref sp), some (V.ref r), some (V.int (c : Nat)), v3] ∧ Sm [sp, nb, rw] H H' ∧ H' sp = some (.ins C dx (spF g nb wt rw st (orL (cdx ss) l k) (orL (mrx ss) l' m) u)) ∧ H' nb = some (.lst (nbL ss U (c + 1))) ∧ H' rw = some (.lst ((rs ++ [r]).map V.ref)) ∧ H' wt = some (.lst (nV (Wq ss U (c + 1))))
def ME6 (C sp r g nb wt rw st dx : Addr) (rs : List Addr) (k m u : Nat) (ss : List Nat) (U : Nat → Bool) (c : Nat) (l l' : List Nat) (H : Hp) (σ : L2.St) (H' : Hp) : Prop := ∃ v3, ME5 C sp r g nb wt rw st dx rs k m u ss U c l l' v3 H σ H'
def sp_Spread_enter (K : PySem.W.Frag) (C CG : Addr) : Sp := fun vs H Q _ => ∃ (s g nb rw st r : Addr) (ss : List Nat) (U : Nat → Bool) (c : Nat), vs = [.ref s, .ref r] ∧ SpAt C CG ss U H s g nb rw st c c false ∧ SmS ss ∧ r ∉ Fr4 s nb rw st ∧ H r = some (.lst (nV (Rn ss U c))) ∧ Rn ss U c ≠ [] ∧ c < 4000 ∧
  ∀ H', Sm (Fr4 s nb rw st) H H' → SpAt C CG ss U H' s g nb rw st (c + 1) c false → Q .non H'
theorem spF_lookup (g nb wt rw st : Addr) (k m u : Nat) : List.lookup (Str.ofString "_grid") (spF g nb wt rw st k m u) = some (.ref g) ∧ List.lookup (Str.ofString "_numbers") (spF g nb wt rw st k m u) = some (.ref nb) ∧ List.lookup (Str.ofString "_waiting") (spF g nb wt rw st k m u) = some (.ref wt) ∧ List.lookup (Str.ofString "_rows") (spF g nb wt rw st k m u) = some (.ref rw) ∧
  List.lookup (Str.ofString "_sets") (spF g nb wt rw st k m u) = some (.ref st) ∧ List.lookup (Str.ofString "_known") (spF g nb wt rw st k m u) = some (.int (k : Nat)) ∧ List.lookup (Str.ofString "_mirrored") (spF g nb wt rw st k m u) = some (.int (m : Nat)) ∧ List.lookup (Str.ofString "_sums") (spF g nb wt rw st k m u) = some (.int (u : Nat)) := ⟨rfl, rfl, rfl, rfl, rfl, rfl, rfl, rfl⟩
theorem ok_Spread_enter (T : Tx K mg) : FnOk P w K mg base CX0 2 T.f_Spread_enter T.fd_Spread_enter ["self", "row"] (sp_Spread_enter K T.c_Spread T.c_Grid) := by
  refine T.F_Spread_enter.ok sc_Spread_enter (fun vs H Q E h => ?_) (fun cdv A outer s H vs Q E hr h => ?_)
  · obtain ⟨s, g, nb, rw, st, r, ss, U, c, rfl, _⟩ := h; rfl
  · obtain ⟨sp, g, nb, rw', st, r, ss, U, c, rfl, ⟨dx, wt, rs, ts, k, m, u, D⟩, z, hrF, hrr, hne, hc, q⟩ := h
    refine ⟨_, (C8.pss_cut (ps_set (i := 2) sc_Spread_enter.nd rfl (Or.inl rfl) (pe_callB len_H (by rfl) T.n_len PySem.boot_len (pa_cons (pe_fld (pv 0) rfl) pa_nil)))
      (C8.pss_cut (ps_for PassesOwn.never rfl (pi_seqH (pv 1)) (pg_name (i := 3) sc_Spread_enter.nd rfl (Or.inl rfl))
        (pss_one (ps_asg (pv 2) (pg_sub (pe_fld (pv 0) rfl) (pv 3) set_lH))))
      (C8.pss_cut (ps_expr (pe_append (pe_fld (pv 0) rfl) (pa_cons (pv 1) pa_nil)))
      (C8.pss_cut (ps_fld (pv 0) (pe_lc (own := [("at", 3)]) (g := (gName 3)) rfl sc_Spread_enter.nd (pi_seqH (pe_fldK (K := K) rfl (pv 0) (by rfl))) (blkOk_by (own := [("at", 3)]) (N := N_Spread_enter) (sc := defScope d_Spread_enter) (by decide +kernel)) (fun _ _ _ _ _ => (pg_name (i := 3) sc_Spread_enter.nd rfl (Or.inl rfl))) (fun _ _ _ _ _ => (pts_one (pt_cmpR op_isN (pe_ix ix_lH (pe_fldK (K := K) rfl (pv 0) (by rfl)) (pv 3) (fun _ _ => rfl)) pe_non (nomark _)))) (fun _ _ _ _ _ => (pv 3))) rfl)
      (pss_one (ps_if (pt_truth (pe_fld (pv 0) rfl) (by intro _; rfl)) (C8.pss_cut (ps_for PassesOwn.never rfl (pi_seqH (pv 1)) (pg_name (i := 3) sc_Spread_enter.nd rfl (Or.inl rfl))
          (C8.pss_cut (ps_fldaug (pv 0) (pe_op op_shlW pe_int (pe_ix ix_lH (pe_fld (pe_fld (pv 0) rfl) rfl) (pv 3) (fun _ _ => rfl))) in_or)
          (pss_one (ps_fldaug (pv 0) (pe_op op_shlW pe_int (pe_ix ix_lH (pe_fld (pe_fld (pv 0) rfl) rfl) (pv 3) (fun _ _ => rfl))) in_or))))
        (pss_one (ps_expr (pe_append (pe_fld (pv 0) rfl) (pa_cons (pe_tup (pa_cons (pe_meth (pe_fld (pv 0) rfl) T.cl_Grid T.m_Grid_widened (ok_Grid_widened T) (hr.mono (by decide)) T.b_Grid_widened .nil pass0 (pa_cons (pe_fld (pv 0) rfl) pa_nil)) (pa_cons (pe_fld (pv 0) rfl) pa_nil))) pa_nil))))) pss_nil)))))), ?_⟩
    have cS := T.cl_Spread
    have cG := T.cl_Grid
    have m0 := T.no_Spread_rows
    have m1 := T.no_Spread_sets
    have m2 := T.no_Spread_grid
    have m3 := T.no_Grid_codes
    have m4 := T.no_Grid_mirrors
    have m5 := T.no_Spread_numbers
    have m6 := T.no_Spread_waiting
    have m7 := T.no_Spread_known
    have m8 := T.no_Spread_mirrored
    have hself := D.self
    have zr := z.room
    have hN1 := (cnt_take z.pos ss.length).2
    rw [List.take_length] at hN1
    simp only [Fr4, List.mem_cons, List.not_mem_nil, or_false, not_or] at hrF
    obtain ⟨r1, r2, r3, r4⟩ := hrF
    have nsn : sp ≠ nb := ne_two hself D.nbv (by simp)
    have nsr : sp ≠ rw' := ne_two hself D.rwv (by simp)
    have nss : sp ≠ st := ne_two hself D.stv (by simp)
    have d1 := D.d1
    have d2 := D.d2
    have d3 := D.d3
    obtain ⟨wn1, wn2, wn3, wn4⟩ : wt ≠ sp ∧ wt ≠ nb ∧ wt ≠ rw' ∧ wt ≠ st := by have := D.wtn; simpa using this
    refine ⟨MEn sp r nb ss U c [] H, ?_, ?_⟩
    · walk_at "rd"
      refine ⟨_, _, _, hself, cS, m0, _, rfl, rw', rfl, .inl ⟨_, D.rwv, ?_⟩⟩
      rw [List.length_map, D.rsl]
      exact ⟨none, _, rfl, Sx.refl, D.nbv, nbL_len, fun i hi => by rw [if_neg (by simp)]; exact nbL_get hi⟩
    rintro σ1 H1 ⟨v3, xs, rfl, s1, e1, l1, g1⟩
    refine ⟨MEn sp r nb ss U c (Rn ss U c) H, ?_, ?_⟩
    · walk_at "rd"
      refine .inl ⟨_, s1 _ _ r2 hrr, fun J W => ?_⟩
      refine forr W (fun i σ H' => MEn sp r nb ss U c ((Rn ss U c).take i) H σ H') ⟨v3, xs, rfl, s1, e1, l1, by simpa using g1⟩ (fun i σ H' _ h => by obtain ⟨_, _, _, h, _⟩ := h; exact h _ _ r2 hrr) ?_ ?_
      · rintro i x σ H2o H2 hi ⟨v3, xs, rfl, s2, e2, l2, g2⟩ ⟨rfl, hx⟩
        obtain ⟨n, hn, rfl⟩ := nV_get hx
        have hnl := Rn_lt (List.mem_of_getElem? hn)
        walk_at "rd"
        refine ⟨_, _, _, s2 _ _ nsn hself, cS, m5, _, rfl, nb, rfl, xs, e2, n, ixN_n (by rw [l2]; exact hnl), some (.int (n : Nat)), xs.set n (.int (c : Nat)), rfl, fun b o nbn e => ?_, upd_same, by rw [List.length_set]; exact l2, fun j hj => ?_⟩
        · rw [upd_ne nbn]; exact s2 _ _ nbn e
        · rw [List.getElem?_set, g2 j hj, List.take_add_one, hn]
          by_cases hjn : n = j
          · subst hjn
            rw [if_pos rfl, if_pos (by omega), if_pos (by simp)]
          · rw [if_neg hjn]
            by_cases hm : j ∈ (Rn ss U c).take i
            · rw [if_pos hm, if_pos (by simp [hm])]
            · rw [if_neg hm, if_neg (by simp [hm]; omega)]
      · rintro σ H2 ⟨v3, xs, rfl, s2, e2, l2, g2⟩
        rw [nV_len, List.take_length] at g2
        exact ⟨v3, xs, rfl, s2, e2, l2, g2⟩
    rintro σ2 H2 ⟨v3, xs, rfl, s2, e2, l2, g2⟩
    have ex : xs = nbL ss U (c + 1) := by
      refine List.ext_getElem? fun i => ?_
      by_cases hi : i < cnt ss
      · rw [g2 i hi, nbL_get hi, nmq_next hi]
      · rw [List.getElem?_eq_none (by omega), List.getElem?_eq_none (by rw [nbL_len]; omega)]
    subst ex
    refine ⟨ME3 T.c_Spread sp r g nb wt rw' st dx rs ts k m u ss U c H, ?_, ?_⟩
    · walk_at "rd"
      have f1 := s2 _ _ d1.symm D.rwv
      refine ⟨_, _, _, s2 _ _ nsn hself, cS, m0, _, rfl, rw', rfl, ⟨_, f1⟩, _, f1, by rw [List.length_map, D.rsl, sizeLine_eq]; omega, v3, rfl, fun b o hb e => ?_, ?_, ?_, ?_⟩
      · have hb : b ≠ sp ∧ b ≠ nb ∧ b ≠ rw' := by simpa using hb
        rw [upd_ne hb.2.2]; exact s2 _ _ hb.2.1 e
      · rw [upd_ne nsr]; exact s2 _ _ nsn hself
      · rw [upd_ne d1]; exact e2
      · rw [upd_same, List.map_append]; rfl
    rintro σ3 H3 ⟨v3, rfl, s3, e3, n3, w3⟩
    refine ⟨ME4 T.c_Spread sp r g nb rw' st dx rs ts k m u ss U c H, ?_, ?_⟩
    · walk_at "rd"
      have fw : H3 wt = some (.lst (nV (Wq ss U c))) := s3 _ _ (by simp [wn1, wn2, wn3]) D.wtv
      have lw : (Wq ss U c).length ≤ cnt ss := by unfold Wq; exact Nat.le_trans (List.length_filter_le _ _) (by rw [List.length_range]; exact Nat.le_refl _)
      refine ⟨_, _, _, e3, cS, m6, _, rfl, wt, rfl, .inl ⟨_, fw, fun J W => ?_⟩⟩
      refine lcr_filtN W (fun i => !Un ss U c i) (by rw [sizeLine_eq]; have := z.cnt; omega) fw ?_ ?_
      · intro y Hy Qn Qy hy sy hqn hqy
        obtain ⟨hyl, hyq⟩ := mem_Wq.mp hy
        walk_at "rd"
        refine ⟨_, _, _, sy _ _ e3, cS, m5, _, rfl, nb, rfl, _, sy _ _ n3, _, atI_nat (nbL_get hyl), ?_⟩
        cases hU : Un ss U c y with
        | true =>
          have : nmq ss U (c + 1) y = some c := by rw [nmq_succ, (nmq_none hyl).mpr hyq, hU]; rfl
          rw [this, if_neg (by simp [numV])]
          exact hqn (by rw [hU]; rfl)
        | false =>
          have : nmq ss U (c + 1) y = none := by rw [nmq_succ, (nmq_none hyl).mpr hyq, hU]; rfl
          rw [this, if_pos (show numV none = V.non from rfl)]
          exact hqy (by rw [hU]; rfl)
      · intro Dn Hn hDn sn eDn
        rw [← Wq_succ] at eDn
        have no : H Dn = none := by
          cases e : H Dn with
          | none => rfl
          | some o =>
            by_cases hm : Dn ∈ [sp, nb, rw']
            · simp only [List.mem_cons, List.not_mem_nil, or_false] at hm
              rcases hm with rfl | rfl | rfl
              · rw [e3] at hDn; cases hDn
              · rw [n3] at hDn; cases hDn
              · rw [w3] at hDn; cases hDn
            · rw [s3 _ _ hm e] at hDn; cases hDn
        have nDs : Dn ≠ sp := fun e => by rw [e, e3] at hDn; cases hDn
        refine ⟨_, _, _, sn _ _ e3, cS, m6, by simp [spF], Dn, no, ?_, v3, rfl, fun b o hb e => ?_, ?_, ?_, ?_⟩
        · rw [upd_ne nDs]; exact eDn
        · have hb' : b ≠ sp ∧ b ≠ nb ∧ b ≠ rw' := by simpa using hb
          rw [upd_ne hb'.1]; exact sn _ _ (s3 _ _ hb e)
        · rw [upd_same]; rfl
        · rw [upd_ne nsn.symm]; exact sn _ _ n3
        · rw [upd_ne nsr.symm]; exact sn _ _ w3
    rintro σ4 H4 ⟨wt', nw, hw, v3, rfl, s4, e4, n4, w4⟩
    have nwF : wt' ∉ [sp, nb, rw', st] := by
      simp only [List.mem_cons, List.not_mem_nil, or_false, not_or]
      exact ⟨fun e => (by rw [e, hself] at nw; cases nw), fun e => (by rw [e, D.nbv] at nw; cases nw), fun e => (by rw [e, D.rwv] at nw; cases nw), fun e => (by rw [e, D.stv] at nw; cases nw)⟩
    obtain ⟨w1, w2, w3', w4'⟩ : wt' ≠ sp ∧ wt' ≠ nb ∧ wt' ≠ rw' ∧ wt' ≠ st := by simpa using nwF
    have sF : ∀ {H'}, Sm [sp, nb, rw'] H H' → Sm [sp, nb, rw', st] H H' := fun {H'} h b o hb e => h b o (fun hm => hb (by simp only [List.mem_cons, List.not_mem_nil, or_false] at hm ⊢; rcases hm with h | h | h <;> simp [h])) e
    have lR : ∀ {H'}, Sm [sp, nb, rw', st] H H' → ∀ (n : Nat) t, (rs ++ [r])[n]? = some t → t ∉ [sp, nb, rw', st] ∧ H' t = some (.lst (nV (Rn ss U n))) := fun {H'} sh n t ht => by
      rcases Nat.lt_trichotomy n c with h | h | h
      · rw [List.getElem?_append_left (by rw [D.rsl]; exact h)] at ht
        obtain ⟨a1, a2⟩ := D.rsv n t ht
        exact ⟨a1, sh _ _ a1 a2⟩
      · subst h
        rw [List.getElem?_append_right (by rw [D.rsl]; exact Nat.le_refl _), D.rsl, Nat.sub_self] at ht
        have : r = t := by simpa using ht
        subst this
        exact ⟨by simp [r1, r2, r3, r4], sh _ _ (by simp [r1, r2, r3, r4]) hrr⟩
      · rw [List.getElem?_eq_none (by rw [List.length_append, D.rsl]; simp; omega)] at ht
        cases ht
    have hne' : ∀ n, n < c + 1 → Rn ss U n ≠ [] := fun n hn => by
      by_cases h : n < c
      · exact D.ne n h
      · rw [show n = c by omega]; exact hne
    have wne : Wq ss U c ≠ [] := fun e => hne (by rw [Rn_Wq, e]; rfl)
    have us' : cnt ss ≤ 2 * (Wq ss U (c + 1)).length → false = false → ∀ x, x < cnt ss → (u.testBit (dbx ss x) = true ↔ ∃ n a, n < c ∧ a ∈ Rn ss U n ∧ Un ss U n (prx ss x a) = true) := fun h1 h2 => D.us (by
      have : (Wq ss U (c + 1)).length ≤ (Wq ss U c).length := by rw [Wq_succ]; exact List.length_filter_le _ _
      omega) h2
    have tsl0 : ts.length = c := by rw [D.tsl, if_neg wne]
    walk_at "rd"
    refine ⟨_, _, _, e4, cS, m6, _, rfl, !(nV (Wq ss U (c + 1))).isEmpty, .inl ⟨_, .inl (.inl hw), rfl⟩, ?_⟩
    cases hW : Wq ss U (c + 1) with
    | nil =>
      refine q _ (sF s4) ⟨dx, wt', rs ++ [r], ts, k, m, u, e4, D.grid.sm (sF s4), n4, by rw [hw]; rfl, nwF, w4, by rw [List.length_append, D.rsl]; rfl, lR (sF s4), s4 _ _ (by simp [nss.symm, d2.symm, d3.symm]) D.stv, by rw [tsl0, hW]; rfl, fun n t ht => ?_, fun h => absurd hW h, D.ul, us', (fun h => by cases h), hne', d1, d2, d3⟩
      obtain ⟨a1, kn, mn, a2, a3⟩ := D.tsv n t ht
      exact ⟨a1, kn, mn, sF s4 _ _ a1 a2, a3⟩
    | cons y ys =>
      rw [show (!(nV (y :: ys)).isEmpty) = true from rfl, if_pos rfl]
      have wne' : Wq ss U (c + 1) ≠ [] := by rw [hW]; simp
      refine ⟨ME6 T.c_Spread sp r g nb wt' rw' st dx rs k m u ss U c (Rn ss U c) (Rn ss U c) H, ?_, ?_⟩
      · walk_at "rd"
        refine .inl ⟨_, sF s4 _ _ (by simp [r1, r2, r3, r4]) hrr, fun J W => ?_⟩
        refine forr W (fun i σ H' => ME6 T.c_Spread sp r g nb wt' rw' st dx rs k m u ss U c ((Rn ss U c).take i) ((Rn ss U c).take i) H σ H') ⟨v3, rfl, s4, e4, n4, w4, hw⟩ (fun i σ H' _ h => by obtain ⟨_, _, h, _⟩ := h; exact sF h _ _ (by simp [r1, r2, r3, r4]) hrr) ?_ ?_
        · rintro i x σ H5o H5 hi ⟨v3, rfl, s5, e5, n5, w5, x5⟩ ⟨rfl, hx⟩
          obtain ⟨n, hn, rfl⟩ := nV_get hx
          have hnl := Rn_lt (List.mem_of_getElem? hn)
          have t1 : (Rn ss U c).take (i + 1) = (Rn ss U c).take i ++ [n] := by rw [List.take_add_one, hn]; rfl
          obtain ⟨gdx, gr, gc, gd, gm, gsp, gts, h1, h2, h3, h4, h5, h6, h7, h8, f1, f2, f3, f4, f5, f6, f7⟩ := D.grid.sm (sF s5)
          refine ⟨ME5 T.c_Spread sp r g nb wt' rw' st dx rs k m u ss U c ((Rn ss U c).take (i + 1)) ((Rn ss U c).take i) (some (.int (n : Nat))) H, ?_, ?_⟩
          · walk_at "rd"
            have hcl := cdx_lt hnl
            refine ⟨_, _, _, e5, cS, m7, _, rfl, _, _, _, e5, cS, m2, _, rfl, g, rfl, _, _, _, h1, cG, m3, _, rfl, _, rfl, _, h2, _, atI_nat (cdx_get (l := []) hnl), _, rfl, shl_ok (n := 1) (by decide) (by omega), ?_⟩
            refine ⟨_, rfl, _, _, e5, by simp [spF], rfl, fun b o hb e => ?_, ?_, ?_, ?_, ?_⟩
            · rw [upd_ne (by simp only [List.mem_cons, not_or] at hb; exact hb.1)]; exact s5 _ _ hb e
            · rw [upd_same, or_shl_one, t1, orL_snoc]; rfl
            · rw [upd_ne nsn.symm]; exact n5
            · rw [upd_ne nsr.symm]; exact w5
            · rw [upd_ne w1]; exact x5
          rintro σ6 H6 ⟨rfl, s6, e6, n6, w6, x6⟩
          obtain ⟨gdx, gr, gc, gd, gm, gsp, gts, h1, h2, h3, h4, h5, h6, h7, h8, f1, f2, f3, f4, f5, f6, f7⟩ := D.grid.sm (sF s6)
          walk_at "rd"
          have hml := mrx_lt hnl
          refine ⟨_, _, _, e6, cS, m8, _, rfl, _, _, _, e6, cS, m2, _, rfl, g, rfl, _, _, _, h1, cG, m4, _, rfl, _, rfl, _, h4, _, atI_nat (cdx_get (l := []) hnl), _, rfl, shl_ok (n := 1) (by decide) (by omega), ?_⟩
          refine ⟨_, rfl, _, _, e6, by simp [spF], _, rfl, fun b o hb e => ?_, ?_, ?_, ?_, ?_⟩
          · rw [upd_ne (by simp only [List.mem_cons, not_or] at hb; exact hb.1)]; exact s6 _ _ hb e
          · rw [upd_same, or_shl_one, t1, orL_snoc, orL_snoc]; rfl
          · rw [upd_ne nsn.symm]; exact n6
          · rw [upd_ne nsr.symm]; exact w6
          · rw [upd_ne w1]; exact x6
        · rintro σ H5 h
          rw [nV_len, List.take_length] at h
          exact h
      rintro σ5 H5 ⟨v3, rfl, s5, e5, n5, w5, x5⟩
      have st5 := s5 _ _ (by simp [nss.symm, d2.symm, d3.symm]) D.stv
      have g5 := D.grid.sm (sF s5)
      have hbit := D.bits wne
      have bk : Bits (cdx ss) (Uq ss U (c + 1)) (cnt ss) (orL (cdx ss) (Rn ss U c) k) := hbit.1.add (fun x hx => Rn_lt hx) fun i hi => ⟨fun h => by
        cases hq : Uq ss U c i with
        | true => exact .inl rfl
        | false => exact .inr (mem_Rq.mpr ⟨hi, h, hq⟩), fun h => by
        rcases h with h | h
        · exact uq_mono hi h
        · exact (mem_Rq.mp h).2.1⟩
      have bm : Bits (mrx ss) (Uq ss U (c + 1)) (cnt ss) (orL (mrx ss) (Rn ss U c) m) := hbit.2.add (fun x hx => Rn_lt hx) fun i hi => ⟨fun h => by
        cases hq : Uq ss U c i with
        | true => exact .inl rfl
        | false => exact .inr (mem_Rq.mpr ⟨hi, h, hq⟩), fun h => by
        rcases h with h | h
        · exact uq_mono hi h
        · exact (mem_Rq.mp h).2.1⟩
      obtain ⟨gdx, gr, gc, gd, gm, gsp, gts, h1, _⟩ := id g5
      walk_at "rd"
      have kl := bk.lt (fun i hi => cdx_lt hi)
      refine ⟨_, _, _, e5, cS, m1, _, rfl, st, rfl, ⟨_, st5⟩, _, _, _, e5, cS, m2, _, rfl, g, rfl, _, _, h1, rfl, _, _, _, e5, cS, m7, _, rfl, g, _, ss, _, rfl, g5, z, Nat.lt_of_lt_of_le kl (Nat.pow_le_pow_right (by decide) (by omega)), fun H6 s6 => ?_⟩
      have e6 := s6 _ _ e5
      show ∃ x_1 x_2 x_3, _
      refine ⟨_, _, _, e6, cS, m8, _, rfl, fun t ht => ?_⟩
      have st6 := s6 _ _ st5
      have nts : st ≠ t := ne_some st6 ht
      refine ⟨_, by rw [upd_ne nts]; exact st6, by rw [List.length_map, tsl0, sizeLine_eq]; omega, ?_⟩
      have sA : Sm [sp, nb, rw', st] H H6 := (sF s5).trans (Sm.of s6)
      have sB : Same H6 (upd H6 t (.tup [V.int (wid ss (orL (cdx ss) (Rn ss U c) k) : Nat), V.int (orL (mrx ss) (Rn ss U c) m : Nat)])) := Same.new ht
      have sC : Sm [sp, nb, rw', st] H (upd (upd H6 t (.tup [V.int (wid ss (orL (cdx ss) (Rn ss U c) k) : Nat), V.int (orL (mrx ss) (Rn ss U c) m : Nat)])) st (.lst (ts.map V.ref ++ [V.ref t]))) := (sA.trans (Sm.of sB)).trans (Sm.put (by simp))
      have up : ∀ b o, b ≠ st → H6 b = some o → (upd (upd H6 t (.tup [V.int (wid ss (orL (cdx ss) (Rn ss U c) k) : Nat), V.int (orL (mrx ss) (Rn ss U c) m : Nat)])) st (.lst (ts.map V.ref ++ [V.ref t]))) b = some o := fun b o hb e => by
        rw [upd_ne hb]; exact sB _ _ e
      have nt : H6 t = none := ht
      have ntF : t ∉ [sp, nb, rw', st] := by
        simp only [List.mem_cons, List.not_mem_nil, or_false, not_or]
        exact ⟨fun e => (by rw [e, e6] at nt; cases nt), fun e => (by rw [e, s6 _ _ n5] at nt; cases nt), fun e => (by rw [e, s6 _ _ w5] at nt; cases nt), fun e => (by rw [e, st6] at nt; cases nt)⟩
      refine q _ sC ⟨dx, wt', rs ++ [r], ts ++ [t], _, _, u, up _ _ nss e6, D.grid.sm sC, up _ _ d2 (s6 _ _ n5), up _ _ w4' (s6 _ _ x5), nwF, up _ _ d3 (s6 _ _ w5), by rw [List.length_append, D.rsl]; rfl, lR sC, ?_, by rw [List.length_append, tsl0, if_neg wne']; rfl, fun n t' ht' => ?_, fun _ => ⟨bk, bm⟩, D.ul, us', (fun h => by cases h), hne', d1, d2, d3⟩
      · rw [upd_same, List.map_append]; rfl
      · rcases Nat.lt_trichotomy n c with h | h | h
        · rw [List.getElem?_append_left (by rw [tsl0]; exact h)] at ht'
          obtain ⟨a1, kn, mn, a2, a3⟩ := D.tsv n t' ht'
          exact ⟨a1, kn, mn, sC _ _ a1 a2, a3⟩
        · subst h
          rw [List.getElem?_append_right (by rw [tsl0]; exact Nat.le_refl _), tsl0, Nat.sub_self] at ht'
          have : t = t' := by simpa using ht'
          subst this
          exact ⟨ntF, _, _, by rw [upd_ne nts.symm, upd_same], bk, bm⟩
        · rw [List.getElem?_eq_none (by rw [List.length_append, tsl0]; simp; omega)] at ht'
          cases ht'
end

section
variable {P : Program} {w : World} {K : PySem.W.Frag} {mg : Str → Option Value} {base : Heap}
def shrL (ss : List Nat) (wd : Nat) (l : List Nat) (u : Nat) : Nat := l.foldl (fun u a => u ||| wd >>> mrx ss a) u
theorem shrL_snoc (ss : List Nat) (wd : Nat) (l : List Nat) (x u : Nat) : shrL ss wd (l ++ [x]) u = shrL ss wd l u ||| wd >>> mrx ss x := by unfold shrL; rw [List.foldl_append]; rfl
theorem shrL_bit (ss : List Nat) (wd : Nat) (l : List Nat) (u c : Nat) : (shrL ss wd l u).testBit c = true ↔ u.testBit c = true ∨ ∃ a ∈ l, wd.testBit (mrx ss a + c) = true := by
  unfold shrL
  induction l generalizing u with
  | nil => simp
  | cons a l ih =>
    rw [List.foldl_cons, ih, Nat.testBit_or, Bool.or_eq_true, Nat.testBit_shiftRight, or_assoc]
    simp
theorem shrL_lt {ss : List Nat} {wd L : Nat} (hw : wd < 2 ^ L) (l : List Nat) {u : Nat} (hu : u < 2 ^ L) : shrL ss wd l u < 2 ^ L := by
  unfold shrL
  induction l generalizing u with
  | nil => exact hu
  | cons a l ih =>
    rw [List.foldl_cons]
    exact ih (Nat.or_lt_two_pow hu (Nat.lt_of_le_of_lt (Nat.shiftRight_le _ _) hw))
theorem shr_int (wd c : Nat) : (wd : Int) / 2 ^ ((c : Nat) : Int).toNat = ((wd >>> c : Nat) : Int) := by
  rw [Int.toNat_natCast, Nat.shiftRight_eq_div_pow, Int.natCast_ediv, Int.natCast_pow]
  rfl
def sp_Spread_next_row (K : PySem.W.Frag) (C CG : Addr) : Sp := fun vs H Q _ => ∃ (s g nb rw st : Addr) (ss : List Nat) (U : Nat → Bool) (d : Nat) (cl : Bool), vs = [.ref s] ∧ SpAt C CG ss U H s g nb rw st (d + 1) d cl ∧ SmS ss ∧ d < 4000 ∧
  ∀ H' r, Sm (Fr4 s nb rw st) H H' → r ∉ Fr4 s nb rw st → H' r = some (.lst (nV (if cl then [] else Rn ss U (d + 1)))) → SpAt C CG ss U H' s g nb rw st (d + 1) (d + 1) cl → Q (.ref r) H'
theorem ok_Spread_next_row (T : Tx K mg) : FnOk P w K mg base CX0 1 T.f_Spread_next_row T.fd_Spread_next_row ["self"] (sp_Spread_next_row K T.c_Spread T.c_Grid) := by
  refine T.F_Spread_next_row.ok sc_Spread_next_row (fun vs H Q E h => ?_) (fun cdv A outer s H vs Q E hr h => ?_)
  · obtain ⟨s, g, nb, rw, st, ss, U, d, cl, rfl, _⟩ := h; rfl
  · obtain ⟨sp, g, nb, rw', st, ss, U, d, cl, rfl, ⟨dx, wt, rs, ts, k, m, u, D⟩, z, hd, q⟩ := h
    refine ⟨_, (pss_cons (ps_if (pt_cmpR op_lt (pe_op op_mulA pe_int (pe_callB len_H (by rfl) T.n_len PySem.boot_len (pa_cons (pe_fld (pv 0) rfl) pa_nil))) (pe_callB len_H (by rfl) T.n_len PySem.boot_len (pa_cons (pe_fld (pv 0) rfl) pa_nil)) (nomark _)) (pss_one (ps_ret (pe_fld (pv 0) rfl))) pss_nil)
      (pss_cons (ps_asg (pe_ix ix_lH (pe_fld (pv 0) rfl) (pe_un un_neg pe_int) (fun _ _ => rfl)) (pg_tupH (n := 2) rfl (pgs_cons (pg_name (i := 1) sc_Spread_next_row.nd rfl (Or.inl rfl)) (pgs_cons (pg_name (i := 2) sc_Spread_next_row.nd rfl (Or.inl rfl)) pgs_nil))))
      (pss_cons (ps_set (i := 3) sc_Spread_next_row.nd rfl (Or.inl rfl) (pe_fld (pv 0) rfl))
      (pss_cons (ps_for PassesOwn.never rfl (pi_seqH (pe_ix ix_lH (pe_fld (pv 0) rfl) (pe_un un_neg pe_int) (fun _ _ => rfl))) (pg_name (i := 4) sc_Spread_next_row.nd rfl (Or.inl rfl))
        (pss_one (ps_aug (i := 3) sc_Spread_next_row.nd rfl (.inl rfl) (pe_op op_shr (pv 1) (pe_ix ix_lH (pe_fld (pe_fld (pv 0) rfl) rfl) (pv 4) (fun _ _ => rfl))) ip_or)))
      (pss_cons (ps_fld (pv 0) (pv 3) rfl)
      (pss_cons (ps_set (i := 5) sc_Spread_next_row.nd rfl (Or.inr rfl) (pe_joined1 (pe_fmtB (pe_op op_or (pv 3) (pe_fld (pe_fld (pv 0) rfl) rfl)))))
      (pss_cons (ps_set (i := 6) sc_Spread_next_row.nd rfl (Or.inr rfl) (pe_fld (pe_fld (pv 0) rfl) rfl))
      (pss_one (ps_ret (pe_lc (own := [("at", 4)]) (g := (gName 4)) rfl sc_Spread_next_row.nd (pi_seqH (pe_fldK (K := K) rfl (pv 0) (by rfl))) (blkOk_by (own := [("at", 4)]) (N := N_Spread_next_row) (sc := defScope d_Spread_next_row) (by decide +kernel)) (fun _ _ _ _ _ => (pg_name (i := 4) sc_Spread_next_row.nd rfl (Or.inl rfl))) (fun _ _ _ _ _ => (pts_one (pt_cmpR op_eq (pe_item_str (pv 5) (pe_ix ix_lH (pv 6) (pv 4) (fun _ _ => rfl)) (fun _ _ => rfl)) pe_str (nomark _)))) (fun _ _ _ _ _ => (pv 4)))))))))))), ?_⟩
    have cS := T.cl_Spread
    have cG := T.cl_Grid
    have m0 := T.no_Spread_rows
    have m1 := T.no_Spread_sets
    have m2 := T.no_Spread_grid
    have m3 := T.no_Grid_mirrors
    have m4 := T.no_Grid_first_bit
    have m5 := T.no_Spread_numbers
    have m6 := T.no_Spread_waiting
    have m7 := T.no_Spread_sums
    have m8 := T.no_Grid_spots
    have hself := D.self
    have zr := z.room
    have hN1 := (cnt_take z.pos ss.length).2
    rw [List.take_length] at hN1
    have nsn : sp ≠ nb := ne_two hself D.nbv (by simp)
    have nsr : sp ≠ rw' := ne_two hself D.rwv (by simp)
    have nss : sp ≠ st := ne_two hself D.stv (by simp)
    obtain ⟨wn1, wn2, wn3, wn4⟩ : wt ≠ sp ∧ wt ≠ nb ∧ wt ≠ rw' ∧ wt ≠ st := by have := D.wtn; simpa using this
    obtain ⟨gdx, gr, gc, gd, gm, gsp, gts, h1, h2, h3, h4, h5, h6, h7, h8, f1, f2, f3, f4, f5, f6, f7⟩ := D.grid
    walk_at "rd"
    refine ⟨_, _, _, hself, cS, m6, _, rfl, wt, rfl, .inl ⟨_, D.wtv, ?_⟩⟩
    refine ⟨.inl (by decide), _, _, _, hself, cS, m5, _, rfl, nb, rfl, .inl ⟨_, D.nbv, ?_⟩⟩
    rw [nV_len, nbL_len]
    have hRW : Rn ss U (d + 1) = (Wq ss U (d + 1)).filter fun i => Un ss U (d + 1) i := Rn_Wq
    have wl : (Wq ss U (d + 1)).length ≤ cnt ss := by unfold Wq; exact Nat.le_trans (List.length_filter_le _ _) (by rw [List.length_range]; exact Nat.le_refl _)
    by_cases hlt : 2 * (if cl = true then ([] : List Nat) else Wq ss U (d + 1)).length < cnt ss
    · rw [if_pos (by omega)]
      refine ⟨_, _, _, hself, cS, m6, _, rfl, q H wt Sm.refl (by simp [wn1, wn2, wn3, wn4]) ?_ ⟨dx, wt, rs, ts, k, m, u, { D with us := fun h1 h2 => ?_ }⟩⟩
      · cases cl with
        | true => exact D.wtv
        | false =>
          rw [D.wtv]
          show some (HO.lst (nV (Wq ss U (d + 1)))) = some (HO.lst (nV (Rn ss U (d + 1))))
          rw [hRW, List.filter_eq_self.mpr fun i hi => half (n := d) (by show 2 * (Wq ss U (d + 1)).length < cnt ss; simpa using hlt) (mem_Wq.mp hi).1]
      · subst h2
        simp only [Bool.false_eq_true, if_false] at hlt
        omega
    rw [if_neg (by omega)]
    have hcl : cl = false := by
      cases cl with
      | false => rfl
      | true => simp at hlt; omega
    subst hcl
    simp only [Bool.false_eq_true, if_false] at hlt
    have wne : Wq ss U (d + 1) ≠ [] := fun e => by rw [e] at hlt; simp at hlt; omega
    have tsl0 : ts.length = d + 1 := by rw [D.tsl, if_neg wne]
    obtain ⟨td, htd⟩ : ∃ t, ts[d]? = some t := ⟨_, List.getElem?_eq_getElem (by omega : d < ts.length)⟩
    obtain ⟨tF, kn, mn, e1, b1, b2⟩ := D.tsv d _ htd
    obtain ⟨rd, hrd⟩ : ∃ t, rs[d]? = some t := ⟨_, List.getElem?_eq_getElem (by rw [D.rsl]; omega : d < rs.length)⟩
    obtain ⟨rF, er⟩ := D.rsv d _ hrd
    have wlt := wid_lt b1.only
    refine ⟨_, _, _, hself, cS, m1, _, rfl, st, rfl, _, D.stv, _, atI_last (by rw [List.length_map, tsl0, List.getElem?_map]; show Option.map V.ref ts[d]? = _; rw [htd]; rfl), _, rfl, _, e1, rfl, _, _, rfl, _, _, rfl, rfl, _, _, _, hself, cS, m7, _, rfl, _, _, _, hself, cS, m0, _, rfl, rw', rfl, _, D.rwv, _, atI_last (by rw [List.length_map, D.rsl, List.getElem?_map]; show Option.map V.ref rs[d]? = _; rw [hrd]; rfl), _, rfl, .inl ⟨_, er, fun J W => ?_⟩⟩
    refine forr W (fun i σ H' => H' = H ∧ ∃ v4 v5 v6, σ = [some (V.ref sp), some (V.int (wid ss kn : Nat)), some (V.int (mn : Nat)), some (V.int (shrL ss (wid ss kn) ((Rn ss U d).take i) u : Nat)), v4, v5, v6]) ⟨rfl, none, none, none, rfl⟩ (fun i σ H' _ h => by rw [h.1]; exact er) ?_ ?_
    · rintro i x σ H1o H1 hi ⟨rfl, v4, v5, v6, rfl⟩ ⟨rfl, hx⟩
      obtain ⟨n, hn, rfl⟩ := nV_get hx
      have hnl := Rn_lt (List.mem_of_getElem? hn)
      walk_at "rd"
      refine ⟨_, _, _, hself, cS, m2, _, rfl, g, rfl, _, _, _, h1, cG, m3, _, rfl, _, rfl, _, h4, _, atI_nat (cdx_get (l := []) hnl), ?_⟩
      refine ⟨_, rfl, by omega, ?_⟩
      rw [shr_int, bitOr_nat, List.take_add_one, hn]
      exact congrArg (fun z : Nat => (z : Int)) (shrL_snoc _ _ _ _ _).symm
    · rintro σ H1 ⟨rfl, v4, v5, v6, rfl⟩
      rw [nV_len, List.take_length]
      walk_at "rd"
      have hsl := shrL_lt (ss := ss) wlt (Rn ss U d) D.ul
      generalize hv : shrL ss (wid ss kn) (Rn ss U d) u = v at hsl ⊢
      have hpf : putF (Str.ofString "_sums") (V.int (v : Nat)) (spF g nb wt rw' st k m u) = spF g nb wt rw' st k m v := rfl
      refine ⟨_, _, _, hself, cS, m7, by simp [spF], cS, m2, _, rfl, g, rfl, ?_⟩
      rw [hpf]
      generalize hH2 : upd H1 sp (HO.ins T.c_Spread dx (spF g nb wt rw' st k m v)) = H2
      have sx : Sm [sp, nb, rw', st] H1 H2 := by rw [← hH2]; exact Sm.put (by simp)
      have e2 : H2 sp = some (.ins T.c_Spread dx (spF g nb wt rw' st k m v)) := by rw [← hH2, upd_same]
      have up : ∀ b o, b ≠ sp → H1 b = some o → H2 b = some o := fun b o hb e => by rw [← hH2, upd_ne hb]; exact e
      clear hH2
      have hor : (v ||| 2 ^ room ss) < 2 ^ (room ss + 1) := Nat.or_lt_two_pow (Nat.lt_trans hsl (Nat.pow_lt_pow_right (by decide) (by omega))) (Nat.pow_lt_pow_right (by decide) (by omega))
      have hge : 2 ^ room ss ≤ (v ||| 2 ^ room ss) := Nat.right_le_or
      have wf := up _ _ wn1 D.wtv
      refine ⟨_, _, _, sx _ _ f1 h1, cG, m4, _, rfl, _, rfl, ?_⟩
      rw [bitOr_nat, Int.natAbs_natCast]
      have hbb := bin_get (room ss) _ hge hor
      have hbits : ∀ x, x < cnt ss → (v.testBit (dbx ss x) = true ↔ ∃ n a, n < d + 1 ∧ a ∈ Rn ss U n ∧ Un ss U n (prx ss x a) = true) := fun x hx => by
        rw [← hv, shrL_bit, D.us (by omega) rfl x hx]
        constructor
        · rintro (⟨n, a, h1, h2⟩ | ⟨a, h1, h2⟩)
          · exact ⟨n, a, by omega, h2⟩
          · rw [wide_bit b1 hx (Rn_lt h1)] at h2
            exact ⟨d, a, by omega, h1, h2⟩
        · rintro ⟨n, a, h1, h2, h3⟩
          by_cases hn : n < d
          · exact .inl ⟨n, a, hn, h2, h3⟩
          · rw [show n = d by omega] at h2 h3
            exact .inr ⟨a, h2, by rw [wide_bit b1 hx (Rn_lt h2)]; exact h3⟩
      refine ⟨by omega, by rw [hbb.1, sizeLine_eq]; omega, cS, m2, _, rfl, g, rfl, _, _, _, sx _ _ f1 h1, cG, m8, _, rfl, cS, m6, _, rfl, wt, rfl, .inl ⟨_, wf, fun J2 W2 => ?_⟩⟩
      refine lcr_filtN W2 (fun i => Un ss U (d + 1) i) (by rw [sizeLine_eq]; have := z.cnt; show (Wq ss U (d + 1)).length < _; omega) wf ?_ ?_
      · intro y Hy Qn Qy hy sy hqn hqy
        obtain ⟨hyl, hyq⟩ := mem_Wq.mp hy
        have hdb := dbx_lt hyl
        walk_at "rd"
        refine ⟨_, sy _ _ (sx _ _ f6 h5), _, atI_nat (cdx_get (l := []) hyl), ?_⟩
        obtain ⟨hz1, hz2⟩ := binStr_get (i := room ss - dbx ss y) hge hor (by omega)
        rw [show room ss - (room ss - dbx ss y) = dbx ss y by omega] at hz2
        refine ⟨_, rfl, by omega, by omega, by rw [hz1]; omega, _, by rw [Int.toNat_natCast]; exact hz2, ?_⟩
        have htb : (v ||| 2 ^ room ss).testBit (dbx ss y) = v.testBit (dbx ss y) := by
          rw [Nat.testBit_or, Nat.testBit_two_pow_of_ne (by omega), Bool.or_false]
        have hUn : v.testBit (dbx ss y) = Un ss U (d + 1) y := by
          rw [Bool.eq_iff_iff, hbits y hyl, pair_rows hyl]
        rw [htb, hUn, show (Str.ofString "1") = (⟨#[49]⟩ : Str) from one_str]
        cases hU : Un ss U (d + 1) y with
        | true => rw [if_pos rfl]; exact hqy hU
        | false => rw [if_neg (by decide)]; exact hqn hU
      · intro Dn Hn hDn sn eDn
        have eDn : Hn Dn = some (HO.lst (nV (Rn ss U (d + 1)))) := by rw [hRW]; exact eDn
        have sA : Sm [sp, nb, rw', st] H1 Hn := sx.trans (Sm.of sn)
        refine q Hn Dn sA ?_ eDn ⟨dx, wt, rs, ts, k, m, v, sn _ _ e2, D.grid.sm sA, sn _ _ (up _ _ nsn.symm D.nbv), sn _ _ wf, D.wtn, sn _ _ (up _ _ nsr.symm D.rwv), D.rsl, fun n t ht => ?_, sn _ _ (up _ _ nss.symm D.stv), D.tsl, fun n t ht => ?_, D.bits, hsl, fun g1 g2 x hx => ?_, D.cls, D.ne, D.d1, D.d2, D.d3⟩
        · simp only [Fr4, List.mem_cons, List.not_mem_nil, or_false, not_or]
          exact ⟨fun e => (by rw [e, e2] at hDn; cases hDn), fun e => (by rw [e, up _ _ nsn.symm D.nbv] at hDn; cases hDn), fun e => (by rw [e, up _ _ nsr.symm D.rwv] at hDn; cases hDn), fun e => (by rw [e, up _ _ nss.symm D.stv] at hDn; cases hDn)⟩
        · obtain ⟨a1, a2⟩ := D.rsv n t ht
          exact ⟨a1, sA _ _ a1 a2⟩
        · obtain ⟨a1, kn, mn, a2, a3⟩ := D.tsv n t ht
          exact ⟨a1, kn, mn, sA _ _ a1 a2, a3⟩
        · exact hbits x hx
end

section
variable {P : Program} {w : World} {K : PySem.W.Frag} {mg : Str → Option Value} {base : Heap}
theorem _root_.Cs.SpD.few {C CG : Addr} {ss : List Nat} {U : Nat → Bool} {H : Hp} {s g nb rw st : Addr} {d e : Nat} {cl : Bool} {dx wt : Addr} {rs ts : List Addr} {k m u : Nat} (D : SpD C CG ss U H s g nb rw st (d + 1) e cl dx wt rs ts k m u) : d + 1 ≤ cnt ss := by
  have h1 := lev_few (ss := ss) (T := U) (n := d) fun m hm => D.ne m (by omega)
  have h2 : (Kn ss U d).length ≤ cnt ss := by unfold Kn; exact Nat.le_trans (List.length_filter_le _ _) (by rw [List.length_range]; exact Nat.le_refl _)
  omega
def sp_Spread_grow (K : PySem.W.Frag) (C CG : Addr) : Sp := fun vs H Q _ => ∃ (s g nb rw st : Addr) (ss : List Nat) (U : Nat → Bool) (d : Nat) (cl : Bool), vs = [.ref s] ∧ SpAt C CG ss U H s g nb rw st (d + 1) d cl ∧ SmS ss ∧
  (∀ H', Sm (Fr4 s nb rw st) H H' → SpAt C CG ss U H' s g nb rw st (d + 1) d true → Q (.bl false) H') ∧ (∀ H', Sm (Fr4 s nb rw st) H H' → SpAt C CG ss U H' s g nb rw st (d + 2) (d + 1) false → Q (.bl true) H')
theorem ok_Spread_grow (T : Tx K mg) : FnOk P w K mg base CX0 3 T.f_Spread_grow T.fd_Spread_grow ["self"] (sp_Spread_grow K T.c_Spread T.c_Grid) := by
  refine T.F_Spread_grow.ok sc_Spread_grow (fun vs H Q E h => ?_) (fun cdv A outer s H vs Q E hr h => ?_)
  · obtain ⟨s, g, nb, rw, st, ss, U, d, cl, rfl, _⟩ := h; rfl
  · obtain ⟨sp, g, nb, rw', st, ss, U, d, cl, rfl, hS, z, q1, q2⟩ := h
    refine ⟨_, (pss_cons (ps_set (i := 1) sc_Spread_grow.nd rfl (Or.inl rfl) (pe_meth0 (pv 0) T.cl_Spread T.m_Spread_next_row (ok_Spread_next_row T) (hr.mono (by decide)) T.b_Spread_next_row .nil pass0))
      (pss_cons (ps_if (pt_not (pt_truth (pv 1) (by intro _; rfl))) (pss_cons (ps_fld (pv 0) (pe_lst pa_nil) rfl)
        (pss_one (ps_ret pe_bl))) pss_nil)
      (pss_cons (ps_expr (pe_meth (pv 0) T.cl_Spread T.m_Spread_enter (ok_Spread_enter T) (hr.mono (by decide)) T.b_Spread_enter .nil pass0 (pa_cons (pv 1) pa_nil)))
      (pss_one (ps_ret pe_bl))))), ?_⟩
    have cS := T.cl_Spread
    have m6 := T.no_Spread_waiting
    have hd : d < 4000 := by
      obtain ⟨dx, wt, rs, ts, k, m, u, D⟩ := hS
      have := D.few
      have := z.cnt
      omega
    obtain ⟨dx0, h0⟩ : ∃ dx fs, H sp = some (.ins T.c_Spread dx fs) ∧ fs.lookup (Str.ofString "_next_row") = none ∧ True := by
      obtain ⟨dx, wt, rs, ts, k, m, u, D⟩ := hS
      exact ⟨dx, _, D.self, rfl, trivial⟩
    obtain ⟨fs0, h1, h2, _⟩ := h0
    walk_at "rd"
    refine ⟨_, _, h1, h2, sp, g, nb, rw', st, ss, U, d, cl, rfl, hS, z, hd, fun H1 r s1 hr hrr hS1 => ?_⟩
    obtain ⟨dx, wt, rs, ts, k, m, u, D⟩ := hS1
    refine ⟨_, .inl ⟨_, .inl (.inl hrr), rfl⟩, ?_⟩
    have nsn : sp ≠ nb := ne_two D.self D.nbv (by simp)
    have nsr : sp ≠ rw' := ne_two D.self D.rwv (by simp)
    have nss : sp ≠ st := ne_two D.self D.stv (by simp)
    by_cases hemp : (if cl = true then ([] : List Nat) else Rn ss U (d + 1)) = []
    · rw [hemp, if_pos (by rfl)]
      intro p hp
      refine ⟨_, _, _, Same.new hp _ _ D.self, cS, m6, by simp [spF], ?_⟩
      have np : p ∉ [sp, nb, rw', st] := by
        simp only [List.mem_cons, List.not_mem_nil, or_false, not_or]
        exact ⟨fun e => (by rw [e, D.self] at hp; cases hp), fun e => (by rw [e, D.nbv] at hp; cases hp), fun e => (by rw [e, D.rwv] at hp; cases hp), fun e => (by rw [e, D.stv] at hp; cases hp)⟩
      have sB : Sm [sp, nb, rw', st] H1 (upd (upd H1 p (.lst [])) sp (.ins T.c_Spread dx (spF g nb p rw' st k m u))) := (Sm.of (Same.new hp)).trans (Sm.put (by simp))
      have up : ∀ b o, b ≠ sp → H1 b = some o → (upd (upd H1 p (.lst [])) sp (.ins T.c_Spread dx (spF g nb p rw' st k m u))) b = some o := fun b o hb e => by rw [upd_ne hb]; exact Same.new hp _ _ e
      refine q1 _ (s1.trans sB) ⟨dx, p, rs, ts, k, m, u, by rw [upd_same]; rfl, D.grid.sm sB, up _ _ nsn.symm D.nbv, ?_, np, up _ _ nsr.symm D.rwv, D.rsl, fun n t ht => ?_, up _ _ nss.symm D.stv, D.tsl, fun n t ht => ?_, D.bits, D.ul, (fun _ h => by cases h), fun _ i hi h => ?_, D.ne, D.d1, D.d2, D.d3⟩
      · rw [upd_ne (by simp only [List.mem_cons, not_or] at np; exact np.1), upd_same]; rfl
      · obtain ⟨a1, a2⟩ := D.rsv n t ht
        exact ⟨a1, sB _ _ a1 a2⟩
      · obtain ⟨a1, kn, mn, a2, a3⟩ := D.tsv n t ht
        exact ⟨a1, kn, mn, sB _ _ a1 a2, a3⟩
      · cases cl with
        | true => exact D.cls rfl i hi h
        | false =>
          cases hq : Uq ss U (d + 1) i with
          | true => rfl
          | false =>
            have : i ∈ Rn ss U (d + 1) := mem_Rq.mpr ⟨hi, h, hq⟩
            have he : Rn ss U (d + 1) = [] := hemp
            rw [he] at this
            cases this
    · have hcl : cl = false := by
        cases cl with
        | false => rfl
        | true => exact absurd rfl hemp
      subst hcl
      simp only [Bool.false_eq_true, if_false] at hemp hrr
      rw [if_neg (by cases h : Rn ss U (d + 1) with
        | nil => exact absurd h hemp
        | cons a l => simp [h, nV])]
      have h3 := D.self
      refine ⟨_, _, h3, rfl, sp, g, nb, rw', st, r, ss, U, d + 1, rfl, ⟨dx, wt, rs, ts, k, m, u, D⟩, z, hr, hrr, hemp, (by have := D.few; have := z.cnt; omega), fun H2 s2 hS2 => ?_⟩
      exact q2 _ (s1.trans s2) hS2
def sp_Spread_number_of (K : PySem.W.Frag) (C CG : Addr) : Sp := fun vs H Q _ => ∃ (s g nb rw st : Addr) (ss : List Nat) (U : Nat → Bool) (d : Nat) (cl : Bool) (x : Nat), vs = [.ref s, .int (x : Nat)] ∧ SpAt C CG ss U H s g nb rw st (d + 1) d cl ∧ SmS ss ∧ x < cnt ss ∧
  ∀ H' d' cl' v, Sm (Fr4 s nb rw st) H H' → SpAt C CG ss U H' s g nb rw st (d' + 1) d' cl' → NumOf ss U x v → (∀ n : Nat, v = .int (n : Nat) → n < d' + 1 ∨ (n = d' + 1 ∧ Wq ss U (d' + 1) ≠ [])) → (Un ss U d x = true → H' = H) → Q v H'
theorem ok_Spread_number_of (T : Tx K mg) : FnOk P w K mg base CX0 4 T.f_Spread_number_of T.fd_Spread_number_of ["self", "at"] (sp_Spread_number_of K T.c_Spread T.c_Grid) := by
  refine T.F_Spread_number_of.ok sc_Spread_number_of (fun vs H Q E h => ?_) (fun cdv A outer s H vs Q E hr h => ?_)
  · obtain ⟨s, g, nb, rw, st, ss, U, d, cl, x, rfl, _⟩ := h; rfl
  · obtain ⟨sp, g, nb, rw', st, ss, U, d, cl, x, rfl, hS, z, hx, q⟩ := h
    refine ⟨_, (pss_cons (ps_while PassesOwn.never (pt_cmpR op_isN (pe_ix ix_lH (pe_fld (pv 0) rfl) (pv 1) (fun _ _ => rfl)) pe_non (nomark _)) (pss_cons (ps_if (pt_cmpR op_ne (pe_meth (pv 0) T.cl_Spread T.m_Spread_meeting (ok_Spread_meeting T) (hr.mono (by decide)) T.b_Spread_meeting .nil pass0 (pa_cons (pe_op op_sub (pe_callB len_H (by rfl) T.n_len PySem.boot_len (pa_cons (pe_fld (pv 0) rfl) pa_nil)) pe_int) (pa_cons (pv 1) pa_nil))) pe_int (nomark _)) (pss_one (ps_ret (pe_callB len_H (by rfl) T.n_len PySem.boot_len (pa_cons (pe_fld (pv 0) rfl) pa_nil)))) pss_nil)
        (pss_one (ps_if (pt_not (pt_val (pe_meth0 (pv 0) T.cl_Spread T.m_Spread_grow (ok_Spread_grow T) (hr.mono (by decide)) T.b_Spread_grow .nil pass0))) (pss_one (ps_ret pe_non)) pss_nil))))
      (pss_one (ps_ret (pe_ix ix_lH (pe_fld (pv 0) rfl) (pv 1) (fun _ _ => rfl))))), ?_⟩
    have cS := T.cl_Spread
    have m5 := T.no_Spread_numbers
    have m0 := T.no_Spread_rows
    refine while_by (fun σ H' => ∃ d1 cl, σ = [some (V.ref sp), some (V.int (x : Nat))] ∧ Sm [sp, nb, rw', st] H H' ∧ SpAt T.c_Spread T.c_Grid ss U H' sp g nb rw' st (d1 + 1) d1 cl ∧ d ≤ d1 ∧ (Un ss U d x = true → H' = H)) (fun _ H' => match H' rw' with | some (.lst xs) => 4000 - xs.length | _ => 0) ⟨d, cl, rfl, Sm.refl, hS, Nat.le_refl _, fun _ => rfl⟩ ?_ ?_
    · rintro σ H1 ⟨d, cl, rfl, s1, hS1, hd0, heq⟩
      obtain ⟨dx, wt, rs, ts, k, m, u, D⟩ := id hS1
      have hself := D.self
      walk_at "rd"
      refine ⟨_, _, _, hself, cS, m5, _, rfl, nb, rfl, _, D.nbv, _, atI_nat (nbL_get hx), ?_⟩
      cases hn : nmq ss U (d + 1) x with
      | some n =>
        have h1 := nmq_some hn
        rw [if_neg (by simp [numV])]
        exact ⟨_, _, _, hself, cS, m5, _, rfl, nb, rfl, _, D.nbv, _, atI_nat (nbL_get hx), q H1 d cl _ s1 hS1 (.inl ⟨n, by rw [hn]; rfl, h1.2.1, h1.2.2⟩) (fun n' e => .inl (by rw [hn] at e; simp only [numV, V.int.injEq] at e; omega)) heq⟩
      | none =>
        have hq := (nmq_none hx).mp hn
        have wne : Wq ss U (d + 1) ≠ [] := fun e => by
          have : x ∈ Wq ss U (d + 1) := mem_Wq.mpr ⟨hx, hq⟩
          rw [e] at this
          cases this
        rw [if_pos (show numV none = V.non from rfl)]
        refine ⟨_, _, hself, rfl, _, _, _, hself, cS, m0, _, rfl, rw', rfl, .inl ⟨_, D.rwv, ?_⟩⟩
        rw [List.length_map, D.rsl]
        have lt : ∀ y m, m ≤ d → y < cnt ss → Un ss U d y = false → Un ss U m y = false := fun y m hm hy h => by
          cases e : Un ss U m y with
          | false => rfl
          | true => rw [un_le hy hm e] at h; cases h
        refine ⟨sp, g, nb, rw', st, ss, U, d + 1, d, cl, d, x, by rw [show ((d + 1 : Nat) : Int) - 1 = (d : Nat) by omega], hS1, z, by rw [if_neg wne]; omega, hx, fun kn mn b1 b2 => ⟨rfl, ?_⟩⟩
        have hme := meet_ne b1 b2 hx
        by_cases hU : Un ss U (d + 1) x = true
        · have hne := hme.mpr hU
          rw [if_pos (by simp only [V.int.injEq]; omega)]
          refine ⟨_, _, _, hself, cS, m0, _, rfl, rw', rfl, .inl ⟨_, D.rwv, ?_⟩⟩
          rw [List.length_map, D.rsl]
          exact q H1 d cl _ s1 hS1 (.inl ⟨d + 1, rfl, hU, fun m hm => lt x m (by omega) hx hq⟩) (fun n' e => .inr ⟨by simp only [V.int.injEq] at e; omega, wne⟩) fun hU0 => absurd (un_le hx hd0 hU0) (by rw [show Un ss U d x = false from hq]; decide)
        · have he : (mn <<< dbx ss x &&& wid ss kn) = 0 := by
            apply Classical.byContradiction
            exact fun h => hU (hme.mp h)
          rw [if_neg (by rw [he]; simp)]
          refine ⟨_, _, hself, rfl, sp, g, nb, rw', st, ss, U, d, cl, rfl, hS1, z, fun H2 s2 hS2 => ⟨false, rfl, ?_⟩, fun H2 s2 hS2 => ⟨true, rfl, ?_⟩⟩
          · rw [if_pos rfl]
            refine q H2 d true _ (s1.trans s2) hS2 (.inr ⟨rfl, fun n => ?_⟩) (fun n' e => nomatch e) fun hU0 => absurd (un_le hx hd0 hU0) (by rw [show Un ss U d x = false from hq]; decide)
            obtain ⟨dx2, wt2, rs2, ts2, k2, m2, u2, D2⟩ := hS2
            cases hU2 : Un ss U n x with
            | false => rfl
            | true =>
              rcases Nat.lt_or_ge n (d + 1) with hn | hn
              · rw [lt x n (by omega) hx hq] at hU2; cases hU2
              · have h3 : Un ss U d x = true := un_stable (n := d) (fun i hi h => D2.cls rfl i hi h) (by omega : d ≤ n) hx hU2
                have h4 : Un ss U d x = false := hq
                rw [h4] at h3; cases h3
          · rw [if_neg (by decide)]
            refine ⟨s1.trans s2, ⟨_, ⟨_, hS2⟩, by omega, fun hU0 => absurd (un_le hx hd0 hU0) (by rw [show Un ss U d x = false from hq]; decide)⟩, ?_⟩
            obtain ⟨dx2, wt2, rs2, ts2, k2, m2, u2, D2⟩ := hS2
            rw [D2.rwv, D.rwv]
            show 4000 - (rs2.map V.ref).length < 4000 - (rs.map V.ref).length
            rw [List.length_map, List.length_map, D2.rsl, D.rsl]
            have := D.few
            have := z.cnt
            omega
    · intro σ H1 Q1 Q2 h hq
      obtain ⟨v, e, a, C, dx, fs, w0, e1, e2, e3, e4, e5, v2, e6, p, i, e7, e8, xs, e9, v3, e10, e11, kk, e12, hq⟩ := hq
      exact ⟨v, e, a, C, dx, fs, w0, e1, e2, e3, e4, e5, v2, e6, p, i, e7, e8, xs, e9, v3, e10, e11, kk, e12, h _ _ hq⟩
end

section
variable {P : Program} {w : World} {K : PySem.W.Frag} {mg : Str → Option Value} {base : Heap}
def sp_Spread_init (K : PySem.W.Frag) (C CG : Addr) : Sp := fun vs H Q _ => ∃ (s g t dx : Addr) (ss ns : List Nat), vs = [.ref s, .ref g, .ref t] ∧ H s = some (.ins C dx []) ∧ GridAt CG [] H g ss ∧ SmS ss ∧ H t = some (.lst (nV ns)) ∧ ns ≠ [] ∧ ns.Nodup ∧ (∀ n ∈ ns, n < cnt ss) ∧
  ∀ H' nb rw st, Sx s H H' → H nb = none → H rw = none → H st = none → SpAt C CG ss (tgB ns) H' s g nb rw st 1 0 false → Q .non H'
theorem ok_Spread_init (T : Tx K mg) : FnOk P w K mg base CX0 3 T.f_Spread_init T.fd_Spread_init ["self", "grid", "targets"] (sp_Spread_init K T.c_Spread T.c_Grid) := by
  refine T.F_Spread_init.ok sc_Spread_init (fun vs H Q E h => ?_) (fun cdv A outer s H vs Q E hr h => ?_)
  · obtain ⟨s, g, t, dx, ss, ns, rfl, _⟩ := h; rfl
  · obtain ⟨sp, g, t, dx, ss, ns, rfl, hs, hg, z, ht, hne, hnd, hlt, q⟩ := h
    refine ⟨_, (pss_cons (ps_fld (pv 0) (pv 1) rfl)
      (pss_cons (ps_fld (pv 0) (pe_op op_rep (pe_lst (pa_cons pe_non pa_nil)) (pe_callB len_H (by rfl) T.n_len PySem.boot_len (pa_cons (pe_fld (pv 1) rfl) pa_nil))) rfl)
      (pss_cons (ps_fld (pv 0) (pe_listRg rfl (by rfl) T.n_list (prg_1 (by rfl) T.n_range (pe_callB len_H (by rfl) T.n_len PySem.boot_len (pa_cons (pe_fld (pv 1) rfl) pa_nil)))) rfl)
      (pss_cons (ps_fld (pv 0) (pe_lst pa_nil) rfl)
      (pss_cons (ps_fld (pv 0) (pe_lst pa_nil) rfl)
      (pss_cons (ps_fld (pv 0) pe_int rfl)
      (pss_cons (ps_fld (pv 0) pe_int rfl)
      (pss_cons (ps_fld (pv 0) pe_int rfl)
      (pss_one (ps_expr (pe_meth (pv 0) T.cl_Spread T.m_Spread_enter (ok_Spread_enter T) (hr.mono (by decide)) T.b_Spread_enter .nil pass0 (pa_cons (pe_callB cr_sortedI (by rfl) T.n_sorted (by decide +kernel) (pa_cons (pv 2) pa_nil)) pa_nil)))))))))))), ?_⟩
    have cS := T.cl_Spread
    have cG := T.cl_Grid
    have n1 := T.no_Spread_grid
    have n2 := T.no_Spread_numbers
    have n3 := T.no_Spread_waiting
    have n4 := T.no_Spread_rows
    have n5 := T.no_Spread_sets
    have n6 := T.no_Spread_known
    have n7 := T.no_Spread_mirrored
    have n8 := T.no_Spread_sums
    have m3 := T.no_Grid_codes
    obtain ⟨gdx, gr, gc, gd, gm, gsp, gts, h1, h2, h3, h4, h5, h6, h7, h8, f1, f2, f3, f4, f5, f6, f7⟩ := id hg
    walk_at "rd"
    have gs : g ≠ sp := ne_two h1 hs (by simp)
    refine ⟨_, dx, _, hs, cS, n1, by decide, fun p hp => ?_⟩
    rw [putF_one] at hp ⊢
    have s1 : Sx sp H (upd H sp (.ins T.c_Spread dx [("_grid", .ref g)])) := Sx.put
    have e1 : (upd H sp (.ins T.c_Spread dx [("_grid", .ref g)])) sp = some (.ins T.c_Spread dx [("_grid", .ref g)]) := upd_same
    generalize upd H sp (HO.ins T.c_Spread dx [(Str.ofString "_grid", V.ref g)]) = H1 at s1 e1 hp ⊢
    have s2 : Same H1 (upd H1 p (.lst [V.non])) := Same.new hp
    have e2 : (upd H1 p (.lst [V.non])) p = some (.lst [V.non]) := upd_same
    generalize upd H1 p (HO.lst [V.non]) = H2 at s2 e2 ⊢
    have g2 : H2 g = _ := s2 _ _ (s1 _ _ gs h1)
    have c2 := s2 _ _ (s1 _ _ (ne_two h2 hs (by simp)) h2)
    refine ⟨_, _, _, g2, cG, m3, _, rfl, _, rfl, .inl ⟨_, c2, p, _, _, rfl, rfl, e2, by omega, ?_, ?_, fun nb hnb => ?_⟩⟩
    · rw [nV_len, List.length_map, List.length_range]; have := z.cnt; omega
    · rw [nV_len, List.length_map, List.length_range, sizeLine_eq, Int.toNat_natCast]; have := z.cnt; simp; omega
    rw [nV_len, List.length_map, List.length_range, Int.toNat_natCast]
    have efl : (List.replicate (cnt ss) [V.non]).flatten = nbL ss (tgB ns) 0 := by
      unfold nbL
      rw [List.flatten_replicate_singleton]
      refine List.ext_getElem? fun i => ?_
      rw [List.getElem?_map, List.getElem?_replicate]
      by_cases hi : i < cnt ss
      · rw [if_pos hi, List.getElem?_range hi]; rfl
      · rw [if_neg hi, List.getElem?_eq_none (by rw [List.length_range]; omega)]; rfl
    rw [efl]
    have s3 : Same H2 (upd H2 nb (.lst (nbL ss (tgB ns) 0))) := Same.new hnb
    have e3 : (upd H2 nb (.lst (nbL ss (tgB ns) 0))) nb = some (.lst (nbL ss (tgB ns) 0)) := upd_same
    generalize upd H2 nb (HO.lst (nbL ss (tgB ns) 0)) = H3 at s3 e3 ⊢
    have e3s := s3 _ _ (s2 _ _ e1)
    have nbs : nb ≠ sp := fun e => by rw [e, s2 _ _ e1] at hnb; cases hnb
    refine ⟨_, dx, _, e3s, cS, n2, by simp, ?_⟩
    generalize hX : upd H3 sp _ = H4
    have s4 : Sx sp H3 H4 := by rw [← hX]; exact Sx.put
    have e4 : H4 sp = some (.ins T.c_Spread dx [("_grid", .ref g), ("_numbers", .ref nb)]) := by rw [← hX, upd_same]; rfl
    clear hX
    have x04 : Sx sp H H4 := ((s1.trans (Sx.of s2)).trans (Sx.of s3)).trans s4
    have c4 := x04 _ _ (ne_two h2 hs (by simp)) h2
    have nb4 := s4 _ _ nbs e3
    refine ⟨_, _, _, x04 _ _ gs h1, cG, m3, _, rfl, _, rfl, .inl ⟨_, c4, ?_⟩⟩
    rw [nV_len, List.length_map, List.length_range]
    refine ⟨RgOk.of_le (by decide) (by have := z.cnt; omega) (by decide) (by omega), fun wt hwt => ?_⟩
    rw [rgV_nV]
    have s5 : Same H4 (upd H4 wt (.lst (nV (List.range (cnt ss))))) := Same.new hwt
    have e5 : (upd H4 wt (.lst (nV (List.range (cnt ss))))) wt = some (.lst (nV (List.range (cnt ss)))) := upd_same
    generalize upd H4 wt (HO.lst (nV (List.range (cnt ss)))) = H5 at s5 e5 ⊢
    have wts : wt ≠ sp := fun e => by rw [e, e4] at hwt; cases hwt
    have wtn : nb ≠ wt := ne_some nb4 hwt
    refine ⟨_, dx, _, s5 _ _ e4, cS, n3, by simp, ?_⟩
    generalize hX : upd H5 sp _ = H6
    have s6 : Sx sp H5 H6 := by rw [← hX]; exact Sx.put
    have e6 : H6 sp = some (.ins T.c_Spread dx [("_grid", .ref g), ("_numbers", .ref nb), ("_waiting", .ref wt)]) := by rw [← hX, upd_same]; rfl
    clear hX
    have nb6 := s6 _ _ nbs (s5 _ _ nb4)
    have wt6 := s6 _ _ wts e5
    intro rw' hrw
    have s7 : Same H6 (upd H6 rw' (.lst [])) := Same.new hrw
    have e7 : (upd H6 rw' (.lst [])) rw' = some (.lst []) := upd_same
    generalize upd H6 rw' (HO.lst []) = H7 at s7 e7 ⊢
    have rws : rw' ≠ sp := fun e => by rw [e, e6] at hrw; cases hrw
    have rwn : nb ≠ rw' := ne_some nb6 hrw
    have rww : wt ≠ rw' := ne_some wt6 hrw
    refine ⟨_, dx, _, s7 _ _ e6, cS, n4, by simp, ?_⟩
    generalize hX : upd H7 sp _ = H8
    have s8 : Sx sp H7 H8 := by rw [← hX]; exact Sx.put
    have e8 : H8 sp = some (.ins T.c_Spread dx [("_grid", .ref g), ("_numbers", .ref nb), ("_waiting", .ref wt), ("_rows", .ref rw')]) := by rw [← hX, upd_same]; rfl
    clear hX
    have nb8 := s8 _ _ nbs (s7 _ _ nb6)
    have wt8 := s8 _ _ wts (s7 _ _ wt6)
    have rw8 := s8 _ _ rws e7
    intro st hst
    have s9 : Same H8 (upd H8 st (.lst [])) := Same.new hst
    have e9 : (upd H8 st (.lst [])) st = some (.lst []) := upd_same
    generalize upd H8 st (HO.lst []) = H9 at s9 e9 ⊢
    have sts : st ≠ sp := fun e => by rw [e, e8] at hst; cases hst
    have stn : nb ≠ st := ne_some nb8 hst
    have stw : wt ≠ st := ne_some wt8 hst
    have str : rw' ≠ st := ne_some rw8 hst
    refine ⟨_, dx, _, s9 _ _ e8, ?_⟩
    have p5 : putF (Str.ofString "_sets") (V.ref st) ([("_grid", .ref g), ("_numbers", .ref nb), ("_waiting", .ref wt), ("_rows", .ref rw')] : List (Str × V)) = ([("_grid", .ref g), ("_numbers", .ref nb), ("_waiting", .ref wt), ("_rows", .ref rw'), ("_sets", .ref st)] : List (Str × V)) := rfl
    have p6 : putF (Str.ofString "_known") (V.int 0) ([("_grid", .ref g), ("_numbers", .ref nb), ("_waiting", .ref wt), ("_rows", .ref rw'), ("_sets", .ref st)] : List (Str × V)) = ([("_grid", .ref g), ("_numbers", .ref nb), ("_waiting", .ref wt), ("_rows", .ref rw'), ("_sets", .ref st), ("_known", .int 0)] : List (Str × V)) := rfl
    have p7 : putF (Str.ofString "_mirrored") (V.int 0) ([("_grid", .ref g), ("_numbers", .ref nb), ("_waiting", .ref wt), ("_rows", .ref rw'), ("_sets", .ref st), ("_known", .int 0)] : List (Str × V)) = ([("_grid", .ref g), ("_numbers", .ref nb), ("_waiting", .ref wt), ("_rows", .ref rw'), ("_sets", .ref st), ("_known", .int 0), ("_mirrored", .int 0)] : List (Str × V)) := rfl
    have p8 : putF (Str.ofString "_sums") (V.int 0) ([("_grid", .ref g), ("_numbers", .ref nb), ("_waiting", .ref wt), ("_rows", .ref rw'), ("_sets", .ref st), ("_known", .int 0), ("_mirrored", .int 0)] : List (Str × V)) = spF g nb wt rw' st 0 0 0 := rfl
    rw [p5, p6, p7, p8]
    refine ⟨cS, n5, by simp, cS, n6, by simp, cS, n7, by simp, cS, n8, by simp, rfl, rfl, ?_⟩
    generalize hX : upd (upd (upd (upd H9 sp _) sp _) sp _) sp _ = H10
    have s10 : Sx sp H9 H10 := by rw [← hX]; exact ((Sx.put.trans Sx.put).trans Sx.put).trans Sx.put
    have e10 : H10 sp = some (.ins T.c_Spread dx (spF g nb wt rw' st 0 0 0)) := by rw [← hX, upd_same]
    clear hX
    have x10 : Sx sp H H10 := ((((((x04.trans (Sx.of s5)).trans s6).trans (Sx.of s7)).trans s8).trans (Sx.of s9)).trans s10)
    have nb10 := s10 _ _ nbs (s9 _ _ nb8)
    have wt10 := s10 _ _ wts (s9 _ _ wt8)
    have rw10 := s10 _ _ rws (s9 _ _ rw8)
    have st10 := s10 _ _ sts e9
    have t10 := x10 _ _ (ne_two ht hs (by simp)) ht
    have en : nV ns = (ns.map fun n : Nat => (n : Int)).map V.int := by unfold nV; rw [List.map_map]; rfl
    refine ⟨t, ns.map fun n : Nat => (n : Int), rfl, .inl (.inl (by rw [← en]; exact t10)), fun ns' r hp hasc hr => ?_⟩
    have nH : ∀ {b}, b ≠ sp → (∀ o, H b = some o → False) → H b = none := fun {b} _ h => by
      cases e : H b with
      | none => rfl
      | some o => exact absurd (h o e) id
    have enb : H nb = none := nH nbs fun o e => by
      have := s2 _ _ (s1 _ _ nbs e)
      rw [this] at hnb; cases hnb
    have erw : H rw' = none := nH rws fun o e => by
      have := s6 _ _ rws (s5 _ _ (x04 _ _ rws e))
      rw [this] at hrw; cases hrw
    have est : H st = none := nH sts fun o e => by
      have := s8 _ _ sts (s7 _ _ (s6 _ _ sts (s5 _ _ (x04 _ _ sts e))))
      rw [this] at hst; cases hst
    have hr0 : ns' = (Rn ss (tgB ns) 0).map fun n : Nat => (n : Int) := by
      have hnn : ∀ x ∈ ns', ∃ n : Nat, n ∈ ns ∧ x = (n : Int) := fun x hx => by
        obtain ⟨n, h1, h2⟩ := List.mem_map.mp (hp.mem_iff.mp hx)
        exact ⟨n, h1, h2.symm⟩
      have e : ns' = (ns'.map Int.toNat).map fun n : Nat => (n : Int) := by
        rw [List.map_map]
        conv => lhs; rw [← List.map_id ns']
        refine List.map_congr_left fun x hx => ?_
        obtain ⟨n, _, rfl⟩ := hnn x hx
        rfl
      rw [e]
      congr 1
      have nd : (ns'.map Int.toNat).Nodup := by
        have h1 : (ns'.map Int.toNat).Perm ns := by
          have := hp.map Int.toNat
          rw [List.map_map] at this
          have e2 : (ns.map (Int.toNat ∘ fun n : Nat => (n : Int))) = ns := by
            conv => rhs; rw [← List.map_id ns]
            exact List.map_congr_left fun x _ => rfl
          rwa [e2] at this
        exact h1.symm.nodup hnd
      refine asc_uniq ?_ Rn_asc fun x => ?_
      · have h1 : (ns'.map Int.toNat).Pairwise (· ≤ ·) := List.pairwise_map.mpr (hasc.imp fun h => Int.toNat_le_toNat h)
        exact List.Pairwise.imp₂ (fun a b h1 h2 => Nat.lt_of_le_of_ne h1 h2) h1 nd
      · rw [mem_Rn]
        constructor
        · intro hx
          obtain ⟨y, hy, rfl⟩ := List.mem_map.mp hx
          obtain ⟨n, hn, rfl⟩ := hnn y hy
          exact ⟨hlt n hn, decide_eq_true hn, fun m hm => by omega⟩
        · rintro ⟨h1, h2, _⟩
          have h3 : x ∈ ns := of_decide_eq_true h2
          exact List.mem_map.mpr ⟨(x : Int), hp.mem_iff.mpr (List.mem_map.mpr ⟨x, h3, rfl⟩), rfl⟩
    have er : ns'.map V.int = nV (Rn ss (tgB ns) 0) := by rw [hr0]; unfold nV; rw [List.map_map]; rfl
    rw [er]
    have sr : Same H10 (upd H10 r (.lst (nV (Rn ss (tgB ns) 0)))) := Same.new hr
    have er1 : (upd H10 r (.lst (nV (Rn ss (tgB ns) 0)))) r = some (.lst (nV (Rn ss (tgB ns) 0))) := upd_same
    generalize upd H10 r (HO.lst (nV (Rn ss (tgB ns) 0))) = H11 at sr er1 ⊢
    have x11 : Sx sp H H11 := x10.trans (Sx.of sr)
    have rF : r ∉ Fr4 sp nb rw' st := by
      simp only [Fr4, List.mem_cons, List.not_mem_nil, or_false, not_or]
      exact ⟨fun e => (by rw [e, e10] at hr; cases hr), fun e => (by rw [e, nb10] at hr; cases hr), fun e => (by rw [e, rw10] at hr; cases hr), fun e => (by rw [e, st10] at hr; cases hr)⟩
    have hR : Rn ss (tgB ns) 0 ≠ [] := fun e => by
      obtain ⟨n, hn⟩ := List.exists_mem_of_ne_nil _ hne
      have : n ∈ Rn ss (tgB ns) 0 := mem_Rn.mpr ⟨hlt n hn, decide_eq_true hn, fun m hm => by omega⟩
      rw [e] at this
      cases this
    have gF : GridAt T.c_Grid [sp, nb, rw', st] H11 g ss := by
      have h0 : GridAt T.c_Grid [sp, nb, rw', st] H g ss := hg.off fun f hf => by
        simp only [List.mem_cons, List.not_mem_nil, or_false] at hf
        rcases hf with rfl | rfl | rfl | rfl
        · exact .inr ⟨_, _, hs⟩
        · exact .inl enb
        · exact .inl erw
        · exact .inl est
      exact h0.sm (Sm.sx x11 (by simp))
    have eW : Wq ss (tgB ns) 0 = List.range (cnt ss) := by
      unfold Wq
      exact List.filter_eq_self.mpr fun i _ => rfl
    have hN1 := (cnt_take z.pos ss.length).2
    rw [List.take_length] at hN1
    have wne : Wq ss (tgB ns) 0 ≠ [] := by
      rw [eW]
      intro h
      have := congrArg List.length h
      rw [List.length_range] at this
      simp at this
      omega
    have b0 : ∀ f, Bits f (Uq ss (tgB ns) 0) (cnt ss) 0 := fun f c => by
      rw [Nat.zero_testBit]
      constructor
      · intro h; cases h
      · rintro ⟨_, _, h, _⟩; cases h
    refine ⟨sp, g, nb, rw', st, r, ss, tgB ns, 0, rfl, ⟨dx, wt, [], [], 0, 0, 0, sr _ _ e10, gF, sr _ _ nb10, ?_, ?_, sr _ _ rw10, rfl, fun n r' h => by simp at h, sr _ _ st10, by rw [if_neg wne]; rfl, fun n t' h => by simp at h, fun _ => ⟨b0 _, b0 _⟩, Nat.pow_pos (by decide), fun _ _ x _ => ⟨(fun h => by rw [Nat.zero_testBit] at h; cases h), fun ⟨n, a, h, _⟩ => absurd h (Nat.not_lt_zero _)⟩, (fun h => by cases h), fun n h => by omega, rwn, stn, str⟩, z, rF, er1, hR, by decide, fun H12 s12 hS => ?_⟩
    · rw [sr _ _ wt10]
      show some (HO.lst (nV (List.range (cnt ss)))) = some (HO.lst (nV (Wq ss (tgB ns) 0)))
      rw [eW]
    · simp only [List.mem_cons, List.not_mem_nil, or_false, not_or]
      exact ⟨wts, wtn.symm, rww, stw⟩
    · refine q H12 nb rw' st (fun b o hb e => ?_) enb erw est hS
      refine s12 b o ?_ (x11 b o hb e)
      simp only [Fr4, List.mem_cons, List.not_mem_nil, or_false, not_or]
      exact ⟨hb, fun h => (by rw [h, enb] at e; cases e), fun h => (by rw [h, erw] at e; cases e), fun h => (by rw [h, est] at e; cases e)⟩
end

/-- lists of ints at the addresses as -/
def AsL (H : Hp) (as : List Addr) (rows : List (List Int)) : Prop := as.length = rows.length ∧ ∀ (i : Nat) t r, as[i]? = some t → rows[i]? = some r → H t = some (.lst (r.map V.int))
theorem AsL.same {H H' : Hp} {as : List Addr} {rows : List (List Int)} (e : Same H H') (h : AsL H as rows) : AsL H' as rows := ⟨h.1, fun i t r h1 h2 => e _ _ (h.2 i t r h1 h2)⟩
theorem AsL.nil {H : Hp} : AsL H [] [] := ⟨rfl, fun i t r h _ => by simp at h⟩
theorem AsL.snoc {H : Hp} {as : List Addr} {rows : List (List Int)} {t : Addr} {r : List Int} (h : AsL H as rows) (ht : H t = some (.lst (r.map V.int))) : AsL H (as ++ [t]) (rows ++ [r]) := by
  refine ⟨by rw [List.length_append, List.length_append, h.1]; rfl, fun i u g h1 h2 => ?_⟩
  by_cases hlt : i < as.length
  · rw [List.getElem?_append_left hlt] at h1
    rw [List.getElem?_append_left (by rw [← h.1]; exact hlt)] at h2
    exact h.2 i u g h1 h2
  · rw [List.getElem?_append_right (by omega)] at h1
    rw [List.getElem?_append_right (by rw [← h.1]; omega), ← h.1] at h2
    cases hk : i - as.length with
    | zero =>
      rw [hk] at h1 h2
      simp only [List.getElem?_cons_zero, Option.some.injEq] at h1 h2
      rw [← h1, ← h2]; exact ht
    | succ m => rw [hk] at h1; simp at h1
theorem AsL.put {H : Hp} {as : List Addr} {rows : List (List Int)} {D : Addr} {o : HO} (h : AsL H as rows) (hd : ∀ t ∈ as, t ≠ D) : AsL (upd H D o) as rows :=
  ⟨h.1, fun i t r h1 h2 => by rw [upd_ne (hd t (List.mem_of_getElem? h1))]; exact h.2 i t r h1 h2⟩
theorem row_ne {H : Hp} {t D : Addr} {r : List Int} {bs : List Addr} (h1 : H t = some (.lst (r.map V.int))) (h2 : H D = some (.lst (bs.map V.ref))) (h : r ≠ []) : t ≠ D := fun e => by
  rw [e, h2] at h1
  have h3 : bs.map V.ref = r.map V.int := by
    have := Option.some.inj h1
    injection this
  cases r with
  | nil => exact h rfl
  | cons x r => cases bs <;> simp at h3
theorem AsL.ne {H : Hp} {as : List Addr} {rows : List (List Int)} {D : Addr} {bs : List Addr} (h : AsL H as rows) (hD : H D = some (.lst (bs.map V.ref))) (hr : ∀ r ∈ rows, r ≠ []) : ∀ t ∈ as, t ≠ D := fun t ht => by
  obtain ⟨i, hi, e⟩ := List.getElem_of_mem ht
  have hi2 : i < rows.length := by rw [← h.1]; exact hi
  exact row_ne (h.2 i t rows[i] (by rw [List.getElem?_eq_getElem hi, e]) (List.getElem?_eq_getElem hi2)) hD (hr _ (List.getElem_mem hi2))
/-- a list of lists of ints, at a -/
def LstL (H : Hp) (a : Addr) (rows : List (List Int)) : Prop := ∃ as : List Addr, H a = some (.lst (as.map V.ref)) ∧ AsL H as rows
theorem LstL.same {H H' : Hp} {a : Addr} {rows : List (List Int)} (e : Same H H') (h : LstL H a rows) : LstL H' a rows := by
  obtain ⟨as, h1, h2⟩ := h
  exact ⟨as, e _ _ h1, h2.same e⟩

/-! ### targets -/
/-- targets gs at tg -/
def TgtAt (k : Bool) (H : Hp) (tg : Addr) (gs : List (List Int)) : Prop := ∃ as : List Addr, Sqh k H tg (as.map V.ref) ∧ AsT H as gs
theorem TgtAt.same {k : Bool} {H H' : Hp} {tg : Addr} {gs : List (List Int)} (e : Same H H') (h : TgtAt k H tg gs) : TgtAt k H' tg gs := by
  obtain ⟨as, h1, h2⟩ := h
  exact ⟨as, h1.same e, h2.same e⟩
theorem ix_seq {k : Bool} {H : Hp} {p : Addr} {xs : List V} {i : Int} {v : V} {R : V → Prop} (h : Sqh k H p xs) (hv : atI xs i = some v) (q : R v) :
    (∃ xs, H p = some (HO.lst xs) ∧ ∃ v, atI xs i = some v ∧ R v) ∨ ∃ xs, H p = some (HO.tup xs) ∧ ∃ v, atI xs i = some v ∧ R v := by
  cases k with
  | true => exact .inl ⟨xs, h, v, hv, q⟩
  | false => exact .inr ⟨xs, h, v, hv, q⟩
/-- valid targets -/
structure Tgts (ss : List Int) (gs : List (List Int)) : Prop where
  ne : gs ≠ []
  nd : gs.Nodup
  few : gs.length < 60
  ok : ∀ g ∈ gs, Seat ss g

/-! ### the sizes of a table -/
section
variable {P : Program} {w : World} {K : PySem.W.Frag} {mg : Str → Option Value} {base : Heap}
theorem isI_own {C a dx : Addr} {fs : List (Str × V)} {H : Hp} (c : C8.InsC K C) (ha : H a = some (.ins C dx fs)) : IsI K H (.ref a) (.ref C) true := ⟨_, _, .own C, .base (.ins ha c.cl c.ha c.hn c.htk c.hm), c.me⟩
def sp_sizes_of (K : PySem.W.Frag) (C : Addr) : Sp := fun vs H Q _ => ∃ (a : Addr) (ss : List Int), vs = [.ref a] ∧ TabAt C H a ss ∧ ∀ t, H t = some (.tup (ss.map V.int)) → Q (.ref t) H
theorem ok_sizes_of (T : Tx K mg) : FnOk P w K mg base CX0 2 T.f_sizes_of T.fd_sizes_of ["table"] (sp_sizes_of K T.c_Table) := by
  refine T.F_sizes_of.ok sc_sizes_of (fun vs H Q E h => ?_) (fun cdv A outer s H vs Q E hr h => ?_)
  · obtain ⟨a, ss, rfl, _⟩ := h; rfl
  · obtain ⟨a, ss, rfl, hT, q⟩ := h
    refine ⟨_, (pss_cons (ps_if (pt_not (pt_val (pe_callB (call_isIK (K := K) rfl) (by rfl) T.n_isinstance (by decide +kernel) (pa_cons (pv 0) (pa_cons (pe_glob (v := .ref T.c_Table) (by rfl) T.g_Table rfl) pa_nil))))) (pss_one ps_never) pss_nil)
      (pss_one (ps_ret (pe_meth0 (pv 0) T.cl_Table T.m_Table_sizes (ok_Table_sizes T) (hr.mono (by decide)) T.b_Table_sizes .nil pass0)))), ?_⟩
    obtain ⟨dx, t, h1, h2⟩ := id hT
    walk_at "rd"
    refine ⟨true, isI_own T.ins_Table h1, ?_⟩
    rw [if_neg (by decide)]
    have e : (("sizes" : Str) == ("_sizes" : Str)) = false := by decide +kernel
    exact ⟨_, _, h1, by simp [List.lookup, e], a, ss, rfl, hT, q⟩
end

section
variable {P : Program} {w : World} {K : PySem.W.Frag} {mg : Str → Option Value} {base : Heap}
theorem or_seq {k : Bool} {H : Hp} {p : Addr} {xs : List V} {R : List V → Prop} (h : Sqh k H p xs) (r : R xs) : (∃ xs, H p = some (HO.lst xs) ∧ R xs) ∨ ∃ xs, H p = some (HO.tup xs) ∧ R xs := by
  cases k with
  | true => exact .inl ⟨xs, h, r⟩
  | false => exact .inr ⟨xs, h, r⟩
def sp_require_seats (K : PySem.W.Frag) : Sp := fun vs H Q _ => ∃ (kz k : Bool) (z tg : Addr) (ss : List Int) (gs : List (List Int)), vs = [.ref z, .ref tg] ∧ Sqh kz H z (ss.map V.int) ∧ TgtAt k H tg gs ∧ gs.Nodup ∧ gs.length < 60 ∧ (∀ g ∈ gs, Seat ss g) ∧ Sz ss ∧ ∀ H', Same H H' → Q .non H'
theorem ok_require_seats (T : Tx K mg) : FnOk P w K mg base CX0 2 T.f_require_seats T.fd_require_seats ["sizes", "seats"] (sp_require_seats K) := by
  refine T.F_require_seats.ok sc_require_seats (fun vs H Q E h => ?_) (fun cdv A outer s H vs Q E hr h => ?_)
  · obtain ⟨kz, k, z, tg, ss, gs, rfl, _⟩ := h; rfl
  · obtain ⟨kz, k, zz, tg, ss, gs, rfl, hz, ⟨as, htg, hA⟩, hnd, h60, hSt, z, q⟩ := h
    refine ⟨_, (pss_cons (ps_if (pt_not (pt_val (pe_callB (call_isAK (K := K) rfl) (by rfl) T.n_isinstance (by decide +kernel) (pa_cons (pv 1) (pa_cons (pe_tup (pa_cons (pe_bltn (v := .ty "list") (by rfl) T.n_list (by decide +kernel) rfl) (pa_cons (pe_bltn (v := .ty "tuple") (by rfl) T.n_tuple (by decide +kernel) rfl) pa_nil))) pa_nil))))) (pss_one ps_never) pss_nil)
      (pss_cons (ps_set (i := 2) sc_require_seats.nd rfl (Or.inl rfl) (pe_callTy0 cr_set0T (by rfl) T.n_set (by decide +kernel)))
      (pss_one (ps_for PassesOwn.never rfl (pi_enH (by rfl) T.n_enumerate (pa_cons (pv 1) pa_nil)) (pg_tupH (n := 2) rfl (pgs_cons (pg_name (i := 3) sc_require_seats.nd rfl (Or.inl rfl)) (pgs_cons (pg_name (i := 4) sc_require_seats.nd rfl (Or.inl rfl)) pgs_nil)))
        (pss_cons (ps_if (PW.pt (pw_or (pt_not (pt_val (pe_call (ok_is_seat T) (hr.mono (by decide)) (by rfl) T.g_is_seat T.F_is_seat.kp T.b_is_seat .nil pass0 (pa_cons (pv 0) (pa_cons (pv 4) pa_nil))))) (pw_or1 (pt_cmpR (op_inT hr.units) (pv 4) (pv 2) rfl)))) (pss_one ps_never) pss_nil)
        (pss_one (ps_expr (pe_addT hr.units (pv 2) (pa_cons (pv 4) pa_nil))))))))), ?_⟩
    walk_at "rd"
    intro tp htp
    have s1 := Same.new htp (o := .tup [V.ty "list", V.ty "tuple"])
    generalize upd H tp (HO.tup [V.ty "list", V.ty "tuple"]) = H1 at s1 ⊢
    refine ⟨true, ?_, ?_⟩
    · cases k with
      | true => exact isA_two (b1 := true) (b2 := false) (.base (.lst (s1 _ _ htg))) (by decide +kernel) (by decide +kernel) rfl
      | false => exact isA_two (b1 := false) (b2 := true) (.base (.tup (s1 _ _ htg))) (by decide +kernel) (by decide +kernel) rfl
    rw [if_neg (by decide)]
    refine ⟨rfl, fun S hS => ?_⟩
    have s2 := Same.new hS (o := SetTO P w S [])
    have f2 : (upd H1 S (SetTO P w S [])) S = some (SetTO P w S []) := upd_same
    generalize upd H1 S (SetTO P w S []) = H2 at s2 f2 ⊢
    have s02 := s1.trans s2
    have hHS : H S = none := by
      cases e : H S with
      | none => rfl
      | some u => rw [s1 _ _ e] at hS; cases hS
    refine ⟨k, as.map V.ref, htg.same s02, fun J W => ?_⟩
    refine forr W (fun i σ H' => Same H H' ∧ ∃ L v3 v4, σ = [some (V.ref zz), some (V.ref tg), some (V.ref S), v3, v4] ∧ H' S = some (SetTO P w S L) ∧ L.length = i ∧ (∀ p ∈ L, H p.1 = some (.tup (p.2.map V.int))) ∧ ∀ g, g ∈ L.map (·.2) ↔ g ∈ gs.take i)
      ⟨s02, [], none, none, rfl, f2, rfl, by simp, by simp⟩ (fun i σ H' _ h => htg.same h.1) ?_ ?_
    · rintro i x σ3 H3 H4 hi ⟨s3, L, v3, v4, rfl, hS3, hLl, hL, hLm⟩ ⟨T0, x1, rfl, hT, rfl, hx⟩
      simp only [List.getElem?_map, Option.map_eq_some_iff] at hx
      obtain ⟨a, ha, rfl⟩ := hx
      rw [List.length_map, hA.1] at hi
      have hg := List.getElem?_eq_getElem hi
      have haH := hA.2 i a _ ha hg
      have hSg := hSt _ (List.getElem_mem hi)
      have sT := Same.new hT (o := .tup [V.int (i : Nat), V.ref a])
      walk_at "rd"
      generalize upd H3 T0 (HO.tup [V.int (i : Nat), V.ref a]) = H4 at sT ⊢
      have s04 := s3.trans sT
      refine ⟨kz, zz, ss, .ref a, true, rfl, hz.same s04, hSg.b z (s04 _ _ haH), fun H5 s5 => ⟨true, rfl, ?_⟩⟩
      rw [if_neg (by decide)]
      have s05 := s04.trans s5
      have hS5 := s5 _ _ (sT _ _ hS3)
      have hgn : gs[i] ∉ gs.take i := by
        intro hm
        obtain ⟨j, hj, e⟩ := List.getElem_of_mem hm
        rw [List.length_take] at hj
        rw [List.getElem_take] at e
        exact absurd e (List.pairwise_iff_getElem.mp hnd j i (by omega) hi (by omega))
      have hgL : gs[i] ∉ L.map (·.2) := fun h => hgn ((hLm _).mp h)
      refine ⟨a, S, gs[i], L, rfl, rfl, s05 _ _ haH, hS5, fun p hp => s05 _ _ (hL p hp), ?_⟩
      refine ⟨_, rfl, ?_⟩
      rw [if_neg Bool.false_ne_true, decide_eq_false hgL, if_neg Bool.false_ne_true]
      simp only [tAddT]
      walk_at "rd"
      refine ⟨⟨L, hS5⟩, a, S, gs[i], L, rfl, rfl, s05 _ _ haH, hS5, fun p hp => s05 _ _ (hL p hp), by omega, fun L' _ hperm => ?_⟩
      have hp := hperm hgL
      refine ⟨fun c u hc => by rw [upd_ne (ne_some hc hHS)]; exact s05 _ _ hc, L', upd_same, by rw [hp.length_eq, List.length_cons, hLl], fun p hpm => ?_, fun g => ?_⟩
      · rcases List.mem_cons.mp (hp.mem_iff.mp hpm) with rfl | h
        · exact haH
        · exact hL p h
      · rw [(hp.map _).mem_iff, List.map_cons, List.mem_cons, hLm]
        have e : gs.take (i + 1) = gs.take i ++ [gs[i]] := by rw [List.take_add_one, hg]; rfl
        rw [e, List.mem_append, List.mem_singleton]
        exact Or.comm
    · rintro σ3 H3 ⟨s3, L, v3, v4, rfl, hS3, hLl, hL, hLm⟩
      exact q _ s3
def sp_require_targets (K : PySem.W.Frag) : Sp := fun vs H Q _ => ∃ (kz k : Bool) (z tg : Addr) (ss : List Int) (gs : List (List Int)), vs = [.ref z, .ref tg] ∧ Sqh kz H z (ss.map V.int) ∧ TgtAt k H tg gs ∧ gs ≠ [] ∧ gs.Nodup ∧ gs.length < 60 ∧ (∀ g ∈ gs, Seat ss g) ∧ Sz ss ∧ ∀ H', Same H H' → Q .non H'
theorem ok_require_targets (T : Tx K mg) : FnOk P w K mg base CX0 3 T.f_require_targets T.fd_require_targets ["sizes", "targets"] (sp_require_targets K) := by
  refine T.F_require_targets.ok sc_require_targets (fun vs H Q E h => ?_) (fun cdv A outer s H vs Q E hr h => ?_)
  · obtain ⟨kz, k, z, tg, ss, gs, rfl, _⟩ := h; rfl
  · obtain ⟨kz, k, zz, tg, ss, gs, rfl, hz, hG, hne, hnd, h60, hSt, z, q⟩ := h
    refine ⟨_, (pss_cons (ps_expr (pe_call (ok_require_seats T) (hr.mono (by decide)) (by rfl) T.g_require_seats T.F_require_seats.kp T.b_require_seats .nil pass0 (pa_cons (pv 0) (pa_cons (pv 1) pa_nil))))
      (pss_one (ps_if (pt_cmpR op_eq (pe_callB len_H (by rfl) T.n_len PySem.boot_len (pa_cons (pv 1) pa_nil)) pe_int (nomark _)) (pss_one ps_never) pss_nil))), ?_⟩
    walk_at "rd"
    refine ⟨kz, k, zz, tg, ss, gs, rfl, hz, hG, hnd, h60, hSt, z, fun H1 s1 => ?_⟩
    obtain ⟨as, htg, hA⟩ := hG.same s1
    have hl0 : 0 < as.length := by rw [hA.1]; exact List.length_pos_iff.mpr hne
    refine or_seq htg ?_
    rw [if_neg (by rw [List.length_map]; omega)]
    exact q _ s1
end

section
def lowN (n : Nat) : Nat := n - (n &&& (n - 1))
theorem low_even {q : Nat} (h : 0 < q) : lowN (2 * q) = 2 * lowN q := by
  unfold lowN
  have e : (2 * q) &&& (2 * q - 1) = 2 * (q &&& (q - 1)) := by
    have h1 : ((2 * q) &&& (2 * q - 1)) / 2 = q &&& (q - 1) := by
      rw [Nat.and_div_two, show 2 * q / 2 = q by omega, show (2 * q - 1) / 2 = q - 1 by omega]
    have h2 : ((2 * q) &&& (2 * q - 1)) % 2 = 0 := by
      have h3 := Nat.and_mod_two_pow (a := 2 * q) (b := 2 * q - 1) (n := 1)
      rw [Nat.pow_one, show (2 * q) % 2 = 0 by omega, Nat.zero_and] at h3
      exact h3
    omega
  have h4 : q &&& (q - 1) ≤ q := Nat.and_le_left
  rw [e]
  omega
theorem low_odd (q : Nat) : lowN (2 * q + 1) = 1 := by
  unfold lowN
  have e : (2 * q + 1) &&& (2 * q + 1 - 1) = 2 * q := by
    have h1 : ((2 * q + 1) &&& (2 * q + 1 - 1)) / 2 = q := by
      rw [Nat.and_div_two, show (2 * q + 1) / 2 = q by omega, show (2 * q + 1 - 1) / 2 = q by omega, Nat.and_self]
    have h2 : ((2 * q + 1) &&& (2 * q + 1 - 1)) % 2 = 0 := by
      have h3 := Nat.and_mod_two_pow (a := 2 * q + 1) (b := 2 * q + 1 - 1) (n := 1)
      rw [Nat.pow_one, show (2 * q + 1 - 1) % 2 = 0 by omega, Nat.and_zero] at h3
      exact h3
    omega
  omega
def oddN (n : Nat) : Nat := n / lowN n
theorem odd_even {q : Nat} (h : 0 < q) : oddN (2 * q) = oddN q := by
  unfold oddN
  rw [low_even h, Nat.mul_div_mul_left _ _ (by decide)]
theorem odd_odd (q : Nat) : oddN (2 * q + 1) = 2 * q + 1 := by
  unfold oddN
  rw [low_odd, Nat.div_one]
/-- a size is its odd part times a power of 2 -/
theorem odd_split : ∀ n : Nat, 0 < n → ∃ k, n = oddN n * 2 ^ k ∧ oddN n % 2 = 1 := by
  intro n
  induction n using Nat.strongRecOn with
  | ind n ih =>
    intro h
    by_cases h2 : n % 2 = 0
    · obtain ⟨q, rfl⟩ : ∃ q, n = 2 * q := ⟨n / 2, by omega⟩
      obtain ⟨k, e1, e2⟩ := ih q (by omega) (by omega)
      rw [odd_even (by omega)]
      exact ⟨k + 1, by rw [Nat.pow_succ, ← Nat.mul_assoc, ← e1]; omega, e2⟩
    · obtain ⟨q, rfl⟩ : ∃ q, n = 2 * q + 1 := ⟨n / 2, by omega⟩
      rw [odd_odd]
      exact ⟨0, by simp, by omega⟩
theorem odd_pos {n : Nat} (h : 0 < n) : 0 < oddN n := by
  obtain ⟨k, _, e⟩ := odd_split n h
  omega
theorem low_pos {n : Nat} (h : 0 < n) : 0 < lowN n := by
  have h1 := odd_pos h
  unfold oddN at h1
  by_cases e : lowN n = 0
  · rw [e] at h1; simp at h1
  · omega
theorem and_neg {n : Nat} (h : 0 < n) : Builtin.bitAnd (n : Int) (-(n : Int)) = (lowN n : Nat) := by
  rw [bitAnd_pn (by omega) (by omega)]
  have e : (Builtin.bitNot (-(n : Int))).toNat = n - 1 := by
    unfold Builtin.bitNot
    omega
  rw [e, Int.toNat_natCast]
  unfold lowN
  have h4 : n &&& (n - 1) ≤ n := Nat.and_le_left
  omega
end

/-! ### order and halves -/
section
variable {P : Program} {w : World} {K : PySem.W.Frag} {mg : Str → Option Value} {base : Heap}
/-- one ring's part of an order -/
def ordS (c : Nat) (z : Int × Int) : Nat := Nat.lcm c (z.2 / ((Nat.gcd z.1.natAbs z.2.natAbs : Nat) : Int)).natAbs
def ordI (ps ss : List Int) : Nat := (ps.zip ss).foldl ordS 1
theorem ord_take {ps ss : List Int} {i : Nat} {p s : Int} (hp : ps[i]? = some p) (hs : ss[i]? = some s) : ((ps.zip ss).take (i + 1)).foldl ordS 1 = ordS (((ps.zip ss).take i).foldl ordS 1) (p, s) := by
  have h : (ps.zip ss)[i]? = some (p, s) := by
    rw [List.getElem?_zip_eq_some]
    exact ⟨hp, hs⟩
  rw [List.take_add_one, h, List.foldl_append]
  rfl
theorem ord_small {B : Nat} : ∀ (zs : List (Int × Int)) (c A : Nat), (∀ z ∈ zs, 1 ≤ z.2 ∧ z.2.natAbs < 2 ^ B) → c < 2 ^ A → zs.foldl ordS c < 2 ^ (A + B * zs.length)
  | [], c, A, _, h => by simpa using h
  | z :: zs, c, A, hz, hc => by
    obtain ⟨h1, h2⟩ := hz z (List.mem_cons_self ..)
    have hq : (z.2 / ((Nat.gcd z.1.natAbs z.2.natAbs : Nat) : Int)).natAbs ≤ z.2.natAbs := by
      have := Int.natAbs_ediv_le_natAbs z.2 ((Nat.gcd z.1.natAbs z.2.natAbs : Nat) : Int)
      exact this
    have h3 : ordS c z < 2 ^ (A + B) := by
      have e1 : ordS c z ≤ c * (z.2 / ((Nat.gcd z.1.natAbs z.2.natAbs : Nat) : Int)).natAbs := lcm_le_mul _ _
      rw [Nat.pow_add]
      exact Nat.lt_of_le_of_lt e1 (Nat.mul_lt_mul'' hc (Nat.lt_of_le_of_lt hq h2))
    have h4 := ord_small (B := B) zs (ordS c z) (A + B) (fun y hy => hz y (List.mem_cons_of_mem _ hy)) h3
    rw [List.length_cons, Nat.mul_succ, show A + (B * zs.length + B) = A + B + B * zs.length by omega]
    exact h4
theorem mem_zip_sz {ss ps : List Int} (z : Sz ss) : ∀ y ∈ ps.zip ss, 1 ≤ y.2 ∧ y.2.natAbs < 2 ^ 1000 := fun y hy => by
  obtain ⟨p, s⟩ := y
  have h := (List.of_mem_zip hy).2
  exact ⟨z.pos s h, z.bits s h⟩
def sp_Table_order (K : PySem.W.Frag) (C : Addr) : Sp := fun vs H Q _ => ∃ (a p : Addr) (ss ps : List Int), vs = [.ref a, .ref p] ∧ TabAt C H a ss ∧ Sz ss ∧ H p = some (.tup (ps.map V.int)) ∧ Seat ss ps ∧ ∀ H', Same H H' → Q (.int (ordI ps ss : Nat)) H'
/-- the halves of a place -/
def hpl (p s : Int) : List Int := ([p, p + s].filter fun d => d % 2 == 0).map fun d => d / 2
def sp_half_places (K : PySem.W.Frag) : Sp := fun vs H Q _ => ∃ p s : Int, vs = [.int p, .int s] ∧ ∀ H' l, Same H H' → H l = none → H' l = some (.lst ((hpl p s).map V.int)) → Q (.ref l) H'
def halF (found : List (List Int)) (z : Int × Int) : List (List Int) := found.flatMap fun h => (hpl z.1 z.2).map fun x => h ++ [x]
def halI (ps ss : List Int) : List (List Int) := (ps.zip ss).foldl halF [[]]
theorem hpl_len (p s : Int) : (hpl p s).length ≤ 2 := by
  unfold hpl
  rw [List.length_map]
  exact List.length_filter_le _ _
theorem flat_len (f : List Int → List (List Int)) (hf : ∀ h, (f h).length ≤ 2) : ∀ hss : List (List Int), (hss.flatMap f).length ≤ 2 * hss.length
  | [] => by simp
  | h :: hss => by
    rw [List.flatMap_cons, List.length_append, List.length_cons]
    have h1 := hf h
    have h2 := flat_len f hf hss
    omega
theorem halF_len (found : List (List Int)) (z : Int × Int) : (halF found z).length ≤ 2 * found.length := flat_len _ (fun h => by rw [List.length_map]; exact hpl_len _ _) found
theorem hal_len : ∀ (zs : List (Int × Int)) (found : List (List Int)), (zs.foldl halF found).length ≤ 2 ^ zs.length * found.length
  | [], found => by simp
  | z :: zs, found => by
    have h1 := hal_len zs (halF found z)
    have h2 := halF_len found z
    rw [List.foldl_cons, List.length_cons, Nat.pow_succ, Nat.mul_assoc]
    exact Nat.le_trans h1 (Nat.mul_le_mul_left _ h2)
theorem hal_take {ps ss : List Int} {i : Nat} {p s : Int} (hp : ps[i]? = some p) (hs : ss[i]? = some s) : ((ps.zip ss).take (i + 1)).foldl halF [[]] = halF (((ps.zip ss).take i).foldl halF [[]]) (p, s) := by
  have h : (ps.zip ss)[i]? = some (p, s) := by
    rw [List.getElem?_zip_eq_some]
    exact ⟨hp, hs⟩
  rw [List.take_add_one, h, List.foldl_append]
  rfl
theorem hal_in : ∀ (zs : List (Int × Int)) (found : List (List Int)) (k : Nat), (∀ h ∈ found, h.length ≤ k) → ∀ h ∈ zs.foldl halF found, h.length ≤ k + zs.length
  | [], found, k, hf, h, hh => by simpa using hf h hh
  | z :: zs, found, k, hf, h, hh => by
    rw [List.foldl_cons] at hh
    have h1 := hal_in zs (halF found z) (k + 1) (fun g hg => by
      simp only [halF, List.mem_flatMap, List.mem_map] at hg
      obtain ⟨f, hf1, x, hx, rfl⟩ := hg
      rw [List.length_append]
      have := hf f hf1
      simp
      omega) h hh
    rw [List.length_cons]
    omega
/-- one list's part of the choices -/
def choF (found : List (List Int)) (parts : List Int) : List (List Int) := found.flatMap fun h => parts.map fun x => h ++ [x]
def choI (rows : List (List Int)) : List (List Int) := rows.foldl choF [[]]
theorem choF_len (parts : List Int) : ∀ found : List (List Int), (choF found parts).length = found.length * parts.length
  | [] => by simp [choF]
  | h :: found => by
    have ih := choF_len parts found
    unfold choF at ih ⊢
    rw [List.flatMap_cons, List.length_append, ih, List.length_map, List.length_cons, Nat.succ_mul]
    omega
theorem cho_take {rows : List (List Int)} {i : Nat} {r : List Int} (h : rows[i]? = some r) : (rows.take (i + 1)).foldl choF [[]] = choF ((rows.take i).foldl choF [[]]) r := by
  rw [List.take_add_one, h, List.foldl_append]
  rfl
theorem cho_in : ∀ (rows found : List (List Int)) (k : Nat), (∀ h ∈ found, h.length ≤ k) → ∀ h ∈ rows.foldl choF found, h.length ≤ k + rows.length
  | [], found, k, hf, h, hh => by simpa using hf h hh
  | z :: zs, found, k, hf, h, hh => by
    rw [List.foldl_cons] at hh
    have h1 := cho_in zs (choF found z) (k + 1) (fun g hg => by
      simp only [choF, List.mem_flatMap, List.mem_map] at hg
      obtain ⟨f, hf1, x, hx, rfl⟩ := hg
      rw [List.length_append]
      have := hf f hf1
      simp
      omega) h hh
    rw [List.length_cons]
    omega
def sp_all_choices (K : PySem.W.Frag) : Sp := fun vs H Q _ => ∃ (o : Addr) (rows : List (List Int)), vs = [.ref o] ∧ LstL H o rows ∧ rows.length ≤ 4 ∧ (∀ i, ((rows.take i).foldl choF [[]]).length ≤ 1000) ∧ (∀ r ∈ rows, r.length ≤ 1000) ∧ ∀ H' l, Same H H' → H l = none → LstT H' l (choI rows) → Q (.ref l) H'
theorem ok_all_choices (T : Tx K mg) : FnOk P w K mg base CX0 1 T.f_all_choices T.fd_all_choices ["options"] (sp_all_choices K) := by
  refine T.F_all_choices.ok sc_all_choices (fun vs H Q E h => ?_) (fun cdv A outer s H vs Q E hr h => ?_)
  · obtain ⟨o, rows, rfl, _⟩ := h; rfl
  · obtain ⟨o, rows, rfl, ⟨os, ho, hO⟩, h4, hpre, hrow, q⟩ := h
    refine ⟨_, (pss_cons (ps_set (i := 1) sc_all_choices.nd rfl (Or.inl rfl) (pe_lst (pa_cons (pe_tup pa_nil) pa_nil)))
      (pss_cons (ps_for PassesOwn.never rfl (pi_seqH (pv 0)) (pg_name (i := 2) sc_all_choices.nd rfl (Or.inr rfl))
        (pss_one (ps_setLc2 (i := 1) (own := [("chosen", 3), ("part", 4)]) (g := (gName 3)) (tt := tYes) (vs1 := [4]) (g1 := (gName 4)) (tt1 := tYes) rfl sc_all_choices.nd rfl rfl (sw_true rfl rfl rfl (by decide +kernel)) (pi_seqH (pv 1)) (blkOk_by (own := [("chosen", 3), ("part", 4)]) (N := N_all_choices) (sc := defScope d_all_choices) (by decide +kernel)) (by decide) (fun _ _ _ _ _ => (pg_name (i := 3) sc_all_choices.nd rfl (Or.inl rfl))) (fun _ _ _ _ _ => pts_nil) (fun _ _ _ _ _ => (pi_seqH (pv 2))) (fun _ _ _ _ _ => (pg_name (i := 4) sc_all_choices.nd rfl (Or.inl rfl))) (fun _ _ _ _ _ => pts_nil) (fun _ _ _ _ _ => (pe_tup (pa_starH (pv 3) (pa_cons (pv 4) pa_nil)))))))
      (pss_one (ps_ret (pv 1))))), ?_⟩
    walk_at "rd"
    intro p1 hp1 p2 hp2
    have s2 := Same.new hp1 (o := .tup [])
    have f2 : (upd H p1 (.tup [])) p1 = some (.tup []) := upd_same
    generalize upd H p1 (HO.tup []) = H2 at s2 f2 hp2 ⊢
    have s3 := Same.new hp2 (o := .lst [V.ref p1])
    have f3 : (upd H2 p2 (.lst [V.ref p1])) p2 = some (.lst [V.ref p1]) := upd_same
    generalize upd H2 p2 (HO.lst [V.ref p1]) = H3 at s3 f3 ⊢
    have s03 := s2.trans s3
    have nn : ∀ {G : Hp} {u : Addr}, Same H G → G u = none → H u = none := fun {G u} e h => by
      cases e2 : H u with
      | none => rfl
      | some o => rw [e _ _ e2] at h; cases h
    refine .inl ⟨_, s03 _ _ ho, fun J W => ?_⟩
    refine forr W (fun i σ H' => Same H H' ∧ ∃ (L : Addr) (v2 v3 v4 : Option V), σ = [some (V.ref o), some (V.ref L), v2, v3, v4] ∧ H L = none ∧ LstT H' L ((rows.take i).foldl choF [[]])) ⟨s03, p2, none, none, none, rfl, nn s2 hp2, [p1], f3, rfl, fun i t' hs' h1' h2' => ?_⟩ (fun i σ H' _ h => h.1 _ _ ho) ?_ ?_
    · cases i with
      | zero =>
        simp only [List.getElem?_cons_zero, Option.some.injEq] at h1'
        simp only [List.take_zero, List.foldl_nil, List.getElem?_cons_zero, Option.some.injEq] at h2'
        rw [← h1', ← h2']
        exact s3 _ _ f2
      | succ i => simp at h1'
    · rintro i x σ H5o H5 hi ⟨s4, L, v2, v3, v4, rfl, hL, hT⟩ ⟨rfl, hx⟩
      simp only [List.getElem?_map, Option.map_eq_some_iff] at hx
      obtain ⟨ra, hra, rfl⟩ := hx
      rw [List.length_map, hO.1] at hi
      have hr := List.getElem?_eq_getElem hi
      have hl6 := s4 _ _ (hO.2 i ra _ hra hr)
      have hrl := hrow _ (List.getElem_mem hi)
      walk_at "rd"
      obtain ⟨as, hLa, hA⟩ := hT
      generalize hfound : (rows.take i).foldl choF [[]] = found at hA
      have hfl : found.length ≤ 1000 := by rw [← hfound]; exact hpre i
      generalize hparts : rows[i] = parts at *
      refine .inl ⟨as.map V.ref, hLa, fun J2 W2 => ?_⟩
      refine lc2_gen W2 (fun D i2 acc Hx => Same H5 Hx ∧ ∃ bs : List Addr, acc = bs.map V.ref ∧ AsT Hx bs (choF (found.take i2) parts)) (fun D hD => ⟨Same.new hD, [], rfl, AsT.nil⟩) (fun D i2 acc Hx hD hi2 h e => h.1 _ _ hLa) ?_ ?_
      · rintro D i2 acc x Hx Hx' Nx hD hi2 ⟨sx, bs, rfl, hB⟩ e ⟨rfl, hx⟩ hN
        rw [List.getElem?_map, Option.map_eq_some_iff] at hx
        obtain ⟨u, hu, rfl⟩ := hx
        rw [List.length_map] at hi2
        have hi3 : i2 < found.length := by rw [← hA.1]; exact hi2
        have hf : found[i2]? = some found[i2] := List.getElem?_eq_getElem hi3
        have hu6 := hA.2 i2 u _ hu hf
        have ht2 : choF (found.take (i2 + 1)) parts = choF (found.take i2) parts ++ parts.map fun x => found[i2] ++ [x] := by
          unfold choF
          rw [List.take_add_one, hf, List.flatMap_append]
          simp
        walk_at "rd"
        refine .inl ⟨_, sx _ _ hl6, fun J3 W3 => ?_⟩
        refine lc1_gen W3 (fun j acc Hy => Same H5 Hy ∧ ∃ bs : List Addr, acc = bs.map V.ref ∧ AsT Hy bs (choF (found.take i2) parts ++ (parts.take j).map fun x => found[i2] ++ [x])) ⟨_, ⟨sx, bs, rfl, by simpa using hB⟩, e⟩ (fun j acc Hy hj h e => h.1 _ _ hl6) (fun j acc Hy l' l0 h hn => ⟨fun b o e3 => ?_, ?_⟩) ?_ ?_ ?_
        · have hbD : b ≠ D := ne_some e3 hD
          rw [upd_ne hbD]; exact h.1 b o e3
        · obtain ⟨_, bs2, rfl, hB2⟩ := h
          refine ⟨bs2, rfl, hB2.1, fun i' t' hs' h1' h2' => ?_⟩
          have h3' := hB2.2 i' t' hs' h1' h2'
          rw [upd_ne (fun e => by rw [e, hn] at h3'; cases h3')]
          exact h3'
        · rintro j acc Hy ⟨_, bs2, rfl, hB2⟩
          rw [List.length_map, hB2.1, List.length_append, List.length_map, choF_len]
          have h3 : (found.take i2).length ≤ 1000 := by rw [List.length_take]; omega
          have h4 : (parts.take j).length ≤ 1000 := by rw [List.length_take]; omega
          have h5 : (found.take i2).length * parts.length ≤ 1000 * 1000 := Nat.mul_le_mul h3 hrl
          exact Nat.lt_of_le_of_lt (by omega : _ ≤ 2000000) (by decide)
        · rintro j acc y Hy Hy' Qy hj ⟨sy, bs2, rfl, hB2⟩ e3 ⟨rfl, hy⟩ hQ
          rw [List.getElem?_map, Option.map_eq_some_iff] at hy
          obtain ⟨m, hm, rfl⟩ := hy
          walk_at "rd"
          refine ⟨_, sy _ _ hu6, ?_⟩
          rw [show (found[i2].map V.int ++ [V.int m] : List V) = (found[i2] ++ [m]).map V.int by rw [List.map_append]; rfl]
          have hln : found[i2].length ≤ 4 := by
            have h3 := cho_in (rows.take i) [[]] 0 (fun h hh => by rw [List.mem_singleton] at hh; rw [hh]; decide) found[i2] (by rw [hfound]; exact List.getElem_mem hi3)
            rw [List.length_take] at h3
            omega
          refine ⟨by rw [List.length_map, List.length_append]; exact Nat.le_trans (Nat.add_le_add_right hln 1) (by decide), fun q3 hq3 => ?_⟩
          have s7 := Same.new hq3 (o := .tup ((found[i2] ++ [m]).map V.int))
          refine hQ _ _ (s7 _ _ e3) ⟨sy.trans s7, bs2 ++ [q3], by rw [List.map_append]; rfl, ?_⟩
          have e8 : (fun x => found[i2] ++ [x]) <$> (parts.take (j + 1)) = (parts.take j).map (fun x => found[i2] ++ [x]) ++ [found[i2] ++ [m]] := by
            rw [List.take_add_one, hm]
            show List.map _ _ = _
            rw [List.map_append]
            rfl
          have e9 := (hB2.same s7).snoc (t := q3) (hs := found[i2] ++ [m]) upd_same
          rw [List.append_assoc, ← e8] at e9
          exact e9
        · rintro acc Hy ⟨sy, bs2, rfl, hB2⟩ e3
          refine hN _ Hy e3 ⟨sy, bs2, rfl, ?_⟩
          rw [ht2]
          rw [List.length_map, List.take_length] at hB2
          exact hB2
      · rintro D acc Hx hD ⟨sx, bs, rfl, hB⟩ e
        have hHD : H D = none := nn s4 hD
        refine ⟨s4.trans sx, D, rfl, hHD, bs, e, ?_⟩
        rw [cho_take hr, hfound]
        rw [List.length_map, hA.1, List.take_length] at hB
        exact hB
    · rintro σ H4 ⟨s4, L, v2, v3, v4, rfl, hL, hT⟩
      walk_at "rd"
      rw [List.length_map, hO.1, List.take_length] at hT
      exact q _ L s4 hL hT
/-- a comprehension whose elements are new lists of ints -/
theorem lcr_lists {J : It} {n : Nat} {G : Hp → Prop} {Y : Nat → Hp → V → Hp → Prop} (W : Walk J n G Y) {g : TG} {te : TE} {vs : List Nat} {σ : L2.St} {H : Hp} {Q : VK} (rows : List (List Int)) (hl : rows.length = n) (hn : n ≤ sizeLine) (hG : ∀ H3, Same H H3 → G H3)
    (hY : ∀ i x H H', Y i H x H' → Same H H')
    (hte : ∀ i x H1 H2 r (Qy : VK), i < n → Same H H1 → Y i H1 x H2 → rows[i]? = some r → (∀ p H4, Same H2 H4 → H2 p = none → H4 p = some (.lst (r.map V.int)) → Qy (.ref p) H4) → g x (wipe σ vs) H2 fun σ2 H2 => wipe σ2 vs = wipe σ vs ∧ te σ2 H2 Qy)
    (hq : ∀ D H3, H D = none → Same H H3 → LstL H3 D rows → Q (.ref D) H3) : LcR J g tYes te vs σ H Q := fun D hD => by
  refine lc_gen W (fun i acc H' => Same H H' ∧ ∃ bs : List Addr, acc = bs.map V.ref ∧ AsL H' bs (rows.take i) ∧ ∀ b ∈ bs, b ≠ D) hn ⟨Same.new hD, [], rfl, AsL.nil, by simp⟩ (fun i acc H' _ h _ => hG _ h.1) (fun i acc H' l h hn => ?_) (fun i acc x H1 H2 Qy hi ha h e hy hq => ?_) (fun acc H' ha h e => ?_)
  · obtain ⟨h1, bs, rfl, hB, hb⟩ := h
    exact ⟨fun b o e => by rw [upd_ne (ne_some e hD)]; exact h1 b o e, bs, rfl, hB.put hb, hb⟩
  · obtain ⟨h1, bs, rfl, hB, hb⟩ := h
    have hi2 : i < rows.length := by omega
    have hr := List.getElem?_eq_getElem hi2
    have e2 := hY _ _ _ _ hy _ _ e
    refine hte i x H1 H2 _ _ hi h1 hy hr fun p H4 s4 hp f4 => ?_
    refine hq _ _ (s4 _ _ e2) ⟨h1.trans ((hY _ _ _ _ hy).trans s4), bs ++ [p], by rw [List.map_append]; rfl, ?_, fun b hb2 => ?_⟩
    · rw [List.take_add_one, hr]
      exact (hB.same ((hY _ _ _ _ hy).trans s4)).snoc f4
    · rcases List.mem_append.mp hb2 with h | h
      · exact hb b h
      · rw [List.mem_singleton.mp h]
        exact fun e3 => by rw [e3, e2] at hp; cases hp
  · obtain ⟨h1, bs, rfl, hB, hb⟩ := h
    rw [← hl, List.take_length] at hB
    exact hq D H' hD h1 ⟨bs, e, hB⟩
def sp_Table_halves (K : PySem.W.Frag) (C : Addr) : Sp := fun vs H Q _ => ∃ (a p : Addr) (ss ps : List Int), vs = [.ref a, .ref p] ∧ TabAt C H a ss ∧ Sz ss ∧ H p = some (.tup (ps.map V.int)) ∧ Seat ss ps ∧ ∀ H' l, Same H H' → H l = none → LstT H' l (halI ps ss) → Q (.ref l) H'
def hrows (ps ss : List Int) : List (List Int) := (ps.zip ss).map fun z => hpl z.1 z.2
theorem hrows_get {ps ss : List Int} {i : Nat} {p s : Int} (hp : ps[i]? = some p) (hs : ss[i]? = some s) : (hrows ps ss)[i]? = some (hpl p s) := by
  have h : (ps.zip ss)[i]? = some (p, s) := by
    rw [List.getElem?_zip_eq_some]
    exact ⟨hp, hs⟩
  unfold hrows
  rw [List.getElem?_map, h]
  rfl
theorem cho_hal (zs : List (Int × Int)) : ∀ found : List (List Int), (zs.map fun z => hpl z.1 z.2).foldl choF found = zs.foldl halF found := by
  induction zs with
  | nil => intro found; rfl
  | cons z zs ih => intro found; rw [List.map_cons, List.foldl_cons, List.foldl_cons, ih]; rfl
theorem hal_cho (ps ss : List Int) (i : Nat) : ((hrows ps ss).take i).foldl choF [[]] = ((ps.zip ss).take i).foldl halF [[]] := by
  unfold hrows
  rw [← List.map_take, cho_hal]
end

/-! ### the spread's other answers -/
section
variable {P : Program} {w : World} {K : PySem.W.Frag} {mg : Str → Option Value} {base : Heap}
theorem ixo_snoc {s d : Nat} : ∀ {ps ds : List Nat}, ds.length = ps.length → ixo (ps ++ [s]) (ds ++ [d]) = ixo ps ds * s + d
  | [], [], _ => by show d * 1 + 0 = 0 * s + d; omega
  | p :: ps, x :: ds, h => by
    have ih := ixo_snoc (s := s) (d := d) (ps := ps) (ds := ds) (by simpa using h)
    show x * cnt (ps ++ [s]) + ixo (ps ++ [s]) (ds ++ [d]) = (x * cnt ps + ixo ps ds) * s + d
    rw [ih, cnt_snoc, Nat.add_mul, Nat.mul_assoc]
    omega
  | [], _ :: _, h => by simp at h
  | _ :: _, [], h => by simp at h
theorem dg_take {m : Nat} {ss ds : List Nat} (h : Dg m ss ds) : ∀ i, Dg m (ss.take i) (ds.take i) := by
  induction h with
  | nil => intro i; rw [List.take_nil]; exact .nil
  | @cons s d ss ds h _ ih =>
    intro i
    cases i with
    | zero => exact .nil
    | succ i => exact .cons h (ih i)
def sp_Grid_index_of (K : PySem.W.Frag) (C : Addr) : Sp := fun vs H Q _ => ∃ (g t : Addr) (F : List Addr) (ss ds : List Nat), vs = [.ref g, .ref t] ∧ GridAt C F H g ss ∧ SmS ss ∧ H t = some (.tup (nV ds)) ∧ Dg 1 ss ds ∧ ∀ H', Same H H' → Q (.int (ixo ss ds : Nat)) H'
theorem ok_Grid_index_of (T : Tx K mg) : FnOk P w K mg base CX0 1 T.f_Grid_index_of T.fd_Grid_index_of ["self", "seat"] (sp_Grid_index_of K T.c_Grid) := by
  refine T.F_Grid_index_of.ok sc_Grid_index_of (fun vs H Q E h => ?_) (fun cdv A outer s H vs Q E hr h => ?_)
  · obtain ⟨g, t, F, ss, ds, rfl, _⟩ := h; rfl
  · obtain ⟨g, t0, F, ss, ds, rfl, hG, z, ht0, hD, q⟩ := h
    refine ⟨_, (pss_cons (ps_set (i := 2) sc_Grid_index_of.nd rfl (Or.inl rfl) pe_int)
      (pss_cons (ps_for PassesOwn.never rfl (pi_z2H (by rfl) T.n_zip (pa_cons (pv 1) (pa_cons (pe_fld (pv 0) rfl) pa_nil))) (pg_tupH (n := 2) rfl (pgs_cons (pg_name (i := 3) sc_Grid_index_of.nd rfl (Or.inl rfl)) (pgs_cons (pg_tupH (n := 2) rfl (pgs_cons (pg_name (i := 4) sc_Grid_index_of.nd rfl (Or.inl rfl)) (pgs_cons (pg_name (i := 5) sc_Grid_index_of.nd rfl (Or.inl rfl)) pgs_nil))) pgs_nil)))
        (pss_one (ps_set (i := 2) sc_Grid_index_of.nd rfl (Or.inl rfl) (pe_op op_add (pe_op op_mulA (pv 2) (pv 5)) (pv 3)))))
      (pss_one (ps_ret (pv 2))))), ?_⟩
    obtain ⟨dx, r, c, d, m, sp, ts, h1, h2, h3, h4, h5, h6, h7, h8, _⟩ := hG
    have cl := T.cl_Grid
    have n1 := T.no_Grid_rings
    walk_at "rd"
    have hl := hD.len
    refine ⟨_, _, _, h1, cl, n1, V.ref r, rfl, r, rfl, false, true, nV ds, ht0, _, h6, by rw [nV_len, List.length_map, h7, hl], fun J W => ?_⟩
    refine forr W (fun i σ H' => Same H H' ∧ ∃ (v3 v4 v5 : Option V), σ = [some (V.ref g), some (V.ref t0), some (V.int (ixo (ss.take i) (ds.take i) : Nat)), v3, v4, v5]) ⟨Same.refl _, none, none, none, rfl⟩ (fun i σ H' _ h => ⟨h.1 _ _ ht0, h.1 _ _ h6⟩) ?_ ?_
    · rintro i x σ H1o H1 hi ⟨s1, v3, v4, v5, rfl⟩ hxy
      obtain ⟨T0, x1, y1, rfl, hT, rfl, e1, e2⟩ := hxy
      obtain ⟨n, hn, rfl⟩ := nV_get e1
      simp only [List.getElem?_map, Option.map_eq_some_iff] at e2
      obtain ⟨t, ht, rfl⟩ := e2
      rw [nV_len, hl] at hi
      have hs0 := List.getElem?_eq_getElem hi
      have e8 := s1 _ _ (h8 i t _ ht hs0)
      have sT := Same.new hT (o := .tup [V.int (n : Nat), V.ref t])
      have e8' := sT _ _ e8
      have eT := upd_same (H := H1o) (a := T0) (o := .tup [V.int (n : Nat), V.ref t])
      walk_at "rd"
      generalize upd _ T0 (HO.tup [V.int (n : Nat), V.ref t]) = H2 at sT e8' eT ⊢
      have hsm := z.mem (List.getElem_mem hi)
      have hix := (ixo_at (dg_take hD i)).1
      have hct := (cnt_take z.pos i).1
      have hcn := z.cnt
      refine ⟨_, e8', rfl, _, _, rfl, _, _, rfl, rfl, _, rfl, .inl (by omega), s1.trans sT, ?_⟩
      have h1 : ss.take (i + 1) = ss.take i ++ [ss[i]] := by rw [List.take_add_one, hs0]; rfl
      have h2 : ds.take (i + 1) = ds.take i ++ [n] := by rw [List.take_add_one, hn]; rfl
      rw [h1, h2, ixo_snoc (by rw [List.length_take, List.length_take, hl]), Int.natCast_add, Int.natCast_mul]
    · rintro σ H1 ⟨s1, v3, v4, v5, rfl⟩
      rw [nV_len, List.take_of_length_le (by omega), List.take_of_length_le (by omega)]
      walk_at "rd"
      exact q _ s1
def iN (l : List Nat) : List Int := l.map fun (n : Nat) => ((n : Nat) : Int)
theorem nV_iN (l : List Nat) : nV l = (iN l).map V.int := by unfold nV iN; rw [List.map_map]; rfl
/-- d is the last level -/
structure Top (ss : List Nat) (U : Nat → Bool) (d : Nat) : Prop where
  ne : ∀ n, n < d + 1 → Rn ss U n ≠ []
  cl : ∀ i, i < cnt ss → Un ss U (d + 1) i = true → Un ss U d i = true
  few : d + 1 ≤ cnt ss
/-- all layers -/
def lyr (ss : List Nat) (U : Nat → Bool) : List (List Nat) := ((List.range (cnt ss)).map (Rn ss U)).filter fun r => !r.isEmpty
theorem lyr_of {ss : List Nat} {U : Nat → Bool} {d : Nat} (hn : ∀ n, n < d + 1 → Rn ss U n ≠ []) (hc : ∀ i, i < cnt ss → Un ss U (d + 1) i = true → Un ss U d i = true) (hd : d + 1 ≤ cnt ss) : (List.range (d + 1)).map (Rn ss U) = lyr ss U := by
  unfold lyr
  have e : List.range (cnt ss) = List.range (d + 1) ++ (List.range (cnt ss - (d + 1))).map fun i => d + 1 + i := by
    rw [show cnt ss = d + 1 + (cnt ss - (d + 1)) by omega, List.range_add, show d + 1 + (cnt ss - (d + 1)) - (d + 1) = cnt ss - (d + 1) by omega]
  have e1 : ((List.range (d + 1)).map (Rn ss U)).filter (fun r => !r.isEmpty) = (List.range (d + 1)).map (Rn ss U) := List.filter_eq_self.mpr fun r hr => by
    obtain ⟨n, hn', rfl⟩ := List.mem_map.mp hr
    have := hn n (List.mem_range.mp hn')
    cases h : Rn ss U n with
    | nil => exact absurd h this
    | cons a l => rfl
  have e2 : (((List.range (cnt ss - (d + 1))).map fun i => d + 1 + i).map (Rn ss U)).filter (fun r => !r.isEmpty) = [] := List.filter_eq_nil_iff.mpr fun r hr => by
    obtain ⟨n, hn', rfl⟩ := List.mem_map.mp hr
    obtain ⟨m, _, rfl⟩ := List.mem_map.mp hn'
    cases h : Rn ss U (d + 1 + m) with
    | nil => simp
    | cons a l =>
      have ha : a ∈ Rn ss U (d + 1 + m) := by rw [h]; exact List.mem_cons_self ..
      obtain ⟨h1, h2, h3⟩ := mem_Rn.mp ha
      have := un_stable (n := d) hc (by omega) h1 h2
      rw [h3 d (by omega)] at this
      cases this
  rw [e, List.map_append, List.filter_append, e1, e2, List.append_nil]
theorem spAt_same {C CG : Addr} {ss : List Nat} {U : Nat → Bool} {H H' : Hp} {s g nb rw st : Addr} {c e : Nat} {cl : Bool} (h : SpAt C CG ss U H s g nb rw st c e cl) (sm : Same H H') : SpAt C CG ss U H' s g nb rw st c e cl := by
  obtain ⟨dx, wt, rs, ts, k, m, u, D⟩ := h
  exact ⟨dx, wt, rs, ts, k, m, u, { D with
    self := sm _ _ D.self
    grid := D.grid.sm (Sm.of sm)
    nbv := sm _ _ D.nbv
    wtv := sm _ _ D.wtv
    rwv := sm _ _ D.rwv
    rsv := fun n r h => ⟨(D.rsv n r h).1, sm _ _ (D.rsv n r h).2⟩
    stv := sm _ _ D.stv
    tsv := fun n t h => (by
      obtain ⟨a1, kn, mn, a2, a3⟩ := D.tsv n t h
      exact ⟨a1, kn, mn, sm _ _ a2, a3⟩) }⟩
def sp_Spread_all_rows (K : PySem.W.Frag) (C CG : Addr) : Sp := fun vs H Q _ => ∃ (s g nb rw st : Addr) (ss : List Nat) (U : Nat → Bool), vs = [.ref s] ∧ SpAt C CG ss U H s g nb rw st 1 0 false ∧ SmS ss ∧
  ∀ H' D d, Sm (Fr4 s nb rw st) H H' → LstL H' D ((List.range (d + 1)).map fun n => iN (Rn ss U n)) → Top ss U d → SpAt C CG ss U H' s g nb rw st (d + 1) d true → Q (.ref D) H'
theorem ok_Spread_all_rows (T : Tx K mg) : FnOk P w K mg base CX0 4 T.f_Spread_all_rows T.fd_Spread_all_rows ["self"] (sp_Spread_all_rows K T.c_Spread T.c_Grid) := by
  refine T.F_Spread_all_rows.ok sc_Spread_all_rows (fun vs H Q E h => ?_) (fun cdv A outer s H vs Q E hr h => ?_)
  · obtain ⟨s, g, nb, rw, st, ss, U, rfl, _⟩ := h; rfl
  · obtain ⟨sp, g, nb, rw', st, ss, U, rfl, hS, z, q⟩ := h
    refine ⟨_, (pss_cons (ps_while PassesOwn.never (pt_val (pe_meth0 (pv 0) T.cl_Spread T.m_Spread_grow (ok_Spread_grow T) (hr.mono (by decide)) T.b_Spread_grow .nil pass0)) (pss_one ps_pass))
      (pss_one (ps_ret (pe_lc (own := [("row", 1)]) (g := (gName 1)) (tt := tYes) rfl sc_Spread_all_rows.nd (pi_seqH (pe_fldK (K := K) rfl (pv 0) (by rfl))) (blkOk_by (own := [("row", 1)]) (N := N_Spread_all_rows) (sc := defScope d_Spread_all_rows) (by decide +kernel)) (fun _ _ _ _ _ => (pg_name (i := 1) sc_Spread_all_rows.nd rfl (Or.inl rfl))) (fun _ _ _ _ _ => pts_nil) (fun _ _ _ _ _ => (pe_callTy list_H (by rfl) T.n_list (by decide +kernel) (pa_cons (pv 1) pa_nil))))))), ?_⟩
    have cS := T.cl_Spread
    have m0 := T.no_Spread_rows
    refine while_by (fun σ H' => ∃ d, σ = [some (V.ref sp), none] ∧ Sm [sp, nb, rw', st] H H' ∧ SpAt T.c_Spread T.c_Grid ss U H' sp g nb rw' st (d + 1) d false) (fun _ H' => match H' rw' with | some (.lst xs) => 4000 - xs.length | _ => 0) ⟨0, rfl, Sm.refl, hS⟩ ?_ ?_
    · rintro σ H1 ⟨d, rfl, s1, hS1⟩
      obtain ⟨dx, wt, rs, ts, k, m, u, D⟩ := id hS1
      have hself := D.self
      walk_at "rd"
      refine ⟨_, _, hself, rfl, sp, g, nb, rw', st, ss, U, d, false, rfl, hS1, z, fun H2 s2 hS2 => ⟨false, rfl, ?_⟩, fun H2 s2 hS2 => ⟨true, rfl, ?_⟩⟩
      · rw [if_neg (by decide)]
        obtain ⟨dx2, wt2, rs2, ts2, k2, m2, u2, D2⟩ := id hS2
        have few := D2.few
        have := z.cnt
        refine ⟨_, _, _, D2.self, cS, m0, _, rfl, rw', rfl, .inl ⟨_, D2.rwv, fun J W => ?_⟩⟩
        refine lcr_lists W ((List.range (d + 1)).map fun n => iN (Rn ss U n)) (by rw [List.length_map, List.length_map, D2.rsl, List.length_range]) (by rw [List.length_map, D2.rsl]; exact Nat.le_trans (by omega : d + 1 ≤ 2000) (by decide)) (fun H s => s _ _ D2.rwv) (fun i x H H' h => YAt.same h) ?_ ?_
        · rintro i x H3 H4 r Qy hi s3 ⟨rfl, hx⟩ hr hq
          rw [List.getElem?_map, Option.map_eq_some_iff] at hx hr
          obtain ⟨a, ha, rfl⟩ := hx
          obtain ⟨n, hn, rfl⟩ := hr
          have hin := List.getElem?_eq_some_iff.mp hn
          obtain ⟨hin, e⟩ := hin
          rw [List.getElem_range] at e
          subst e
          obtain ⟨na, ea⟩ := D2.rsv _ _ ha
          have ea := s3 _ _ ea
          rw [nV_iN] at ea
          walk_at "rd"
          exact .inl ⟨_, ea, fun l hl => hq l _ (Same.new hl) hl upd_same⟩
        · intro Dn H3 hD s3 hL
          exact q H3 Dn d (fun b o nb' e => s3 _ _ ((s1.trans s2) b o nb' e)) hL ⟨D2.ne, fun i hi h => D2.cls rfl i hi h, few⟩ (spAt_same hS2 s3)
      · rw [if_pos rfl]
        refine ⟨s1.trans s2, ⟨_, hS2⟩, ?_⟩
        obtain ⟨dx2, wt2, rs2, ts2, k2, m2, u2, D2⟩ := hS2
        rw [D2.rwv, D.rwv]
        show 4000 - (rs2.map V.ref).length < 4000 - (rs.map V.ref).length
        rw [List.length_map, List.length_map, D2.rsl, D.rsl]
        have := D.few
        have := z.cnt
        omega
    · intro σ H1 Q1 Q2 h hq
      obtain ⟨v, e, a, dx, fs, e1, e2, e3, s, g, nb, rw, st, ss, U, d, cl, e4, e5, e6, q1, q2⟩ := hq
      exact ⟨v, e, a, dx, fs, e1, e2, e3, s, g, nb, rw, st, ss, U, d, cl, e4, e5, e6, fun H' s' hS' => (q1 H' s' hS').imp fun c hc => ⟨hc.1, h _ _ hc.2⟩, fun H' s' hS' => (q2 H' s' hS').imp fun c hc => ⟨hc.1, h _ _ hc.2⟩⟩
end

/-! ### the call of a meeting -/
section
theorem room_pos : ∀ {ss : List Nat}, (∀ s ∈ ss, 1 ≤ s) → 1 ≤ room ss
  | [], _ => Nat.le_refl _
  | s :: ss, h => by
    have h1 := room_pos fun x hx => h x (List.mem_cons_of_mem _ hx)
    have h2 := h s (List.mem_cons_self ..)
    show 1 ≤ 2 * s * room ss
    exact Nat.mul_pos (by omega) h1
theorem room_drop : ∀ (ss : List Nat) (i : Nat), (∀ s ∈ ss, 1 ≤ s) → room (ss.drop i) ≤ room ss
  | [], i, _ => by rw [List.drop_nil]; exact Nat.le_refl _
  | s :: ss, 0, _ => Nat.le_refl _
  | s :: ss, i + 1, h => by
    have h1 := room_drop ss i fun x hx => h x (List.mem_cons_of_mem _ hx)
    have h2 := h s (List.mem_cons_self ..)
    show room (ss.drop i) ≤ 2 * s * room ss
    exact Nat.le_trans h1 (Nat.le_mul_of_pos_left _ (by omega))
theorem low_pow {n : Nat} : 0 < n → ∃ k, lowN n = 2 ^ k ∧ n.testBit k = true ∧ ∀ j, n.testBit j = true → k ≤ j := by
  induction n using Nat.strongRecOn with
  | ind n ih =>
    intro h
    by_cases h2 : n % 2 = 0
    · obtain ⟨q, rfl⟩ : ∃ q, n = 2 * q := ⟨n / 2, by omega⟩
      obtain ⟨k, e1, e2, e3⟩ := ih q (by omega) (by omega)
      refine ⟨k + 1, by rw [low_even (by omega), e1, Nat.pow_succ, Nat.mul_comm], ?_, fun j hj => ?_⟩
      · rw [Nat.testBit_succ, show 2 * q / 2 = q by omega]
        exact e2
      · cases j with
        | zero => rw [Nat.testBit_zero] at hj; simp at hj
        | succ j =>
          rw [Nat.testBit_succ, show 2 * q / 2 = q by omega] at hj
          have := e3 j hj
          omega
    · obtain ⟨q, rfl⟩ : ∃ q, n = 2 * q + 1 := ⟨n / 2, by omega⟩
      refine ⟨0, by rw [low_odd, Nat.pow_zero], ?_, fun j _ => Nat.zero_le _⟩
      rw [Nat.testBit_zero]
      simp
theorem low_goal {M : Nat} (h : M ≠ 0) : ∃ c : Nat, ((Builtin.Int.intBits (Builtin.bitAnd (M : Int) (-(M : Int))) : Nat) : Int) - 1 = (c : Nat) ∧ M.testBit c = true ∧ ∀ j, M.testBit j = true → c ≤ j := by
  obtain ⟨k, e1, e2, e3⟩ := low_pow (n := M) (by omega)
  refine ⟨k, ?_, e2, e3⟩
  rw [and_neg (by omega), e1]
  have : Builtin.Int.intBits ((2 ^ k : Nat) : Int) = k + 1 := by
    unfold Builtin.Int.intBits
    have hp : 0 < 2 ^ k := Nat.pow_pos (by decide)
    have h0 : ((2 ^ k : Nat) : Int) ≠ 0 := Int.ofNat_ne_zero.mpr (Nat.ne_of_gt hp)
    rw [if_neg (by rw [beq_iff_eq]; exact h0), Int.natAbs_natCast, Nat.log2_two_pow]
  rw [this]
  omega
theorem room_fac : ∀ {ss : List Nat} {i s : Nat}, ss[i]? = some s → ∃ K, room ss = room (ss.drop (i + 1)) * (s * K)
  | [], i, s, h => by simp at h
  | t :: ss, 0, s, h => by
    obtain rfl : t = s := by simpa using h
    refine ⟨2, ?_⟩
    show 2 * t * room ss = room ss * (t * 2)
    rw [Nat.mul_comm, Nat.mul_comm 2 t]
  | t :: ss, i + 1, s, h => by
    obtain ⟨K, e⟩ := room_fac (ss := ss) (i := i) (s := s) (by simpa using h)
    refine ⟨K * (2 * t), ?_⟩
    show 2 * t * room ss = room (ss.drop (i + 1)) * (s * (K * (2 * t)))
    rw [e, Nat.mul_left_comm, ← Nat.mul_assoc s, Nat.mul_comm (2 * t)]
theorem cod_digit : ∀ {ss es : List Nat}, (∀ s ∈ ss, 1 ≤ s) → Dg 2 ss es → ∀ {i s d : Nat}, ss[i]? = some s → es[i]? = some d → (cod ss es / room (ss.drop (i + 1))) % s = d % s
  | [], _, _, _, i, s, d, h, _ => by simp at h
  | t :: ss, _, hs, .cons (d := e) (ds := es) h1 h2, 0, s, d, h, g => by
    obtain rfl : t = s := by simpa using h
    obtain rfl : e = d := by simpa using g
    have hp := room_pos (ss := ss) fun x hx => hs x (List.mem_cons_of_mem _ hx)
    show ((e * room ss + cod ss es) / room ss) % t = _
    rw [Nat.mul_comm, Nat.mul_add_div hp, Nat.div_eq_of_lt (cod_lt h2), Nat.add_zero]
  | t :: ss, _, hs, .cons (d := e) (ds := es) h1 h2, i + 1, s, d, h, g => by
    have h : ss[i]? = some s := by simpa using h
    have g : es[i]? = some d := by simpa using g
    have hs' : ∀ x ∈ ss, 1 ≤ x := fun x hx => hs x (List.mem_cons_of_mem _ hx)
    have ih := cod_digit hs' h2 h g
    obtain ⟨K, ek⟩ := room_fac h
    have hp := room_pos (ss := ss.drop (i + 1)) fun x hx => hs' x (List.mem_of_mem_drop hx)
    show ((e * room ss + cod ss es) / room (ss.drop (i + 1))) % s = _
    rw [← ih, ek, show e * (room (ss.drop (i + 1)) * (s * K)) = room (ss.drop (i + 1)) * (s * (e * K)) by rw [Nat.mul_left_comm, Nat.mul_left_comm e], Nat.mul_add_div hp, Nat.mul_add_mod]
theorem mdd_get : ∀ {ss es : List Nat} {i s d : Nat}, ss[i]? = some s → es[i]? = some d → (mdd ss es)[i]? = some (d % s)
  | t :: ss, e :: es, 0, s, d, h, g => by
    obtain rfl : t = s := by simpa using h
    obtain rfl : e = d := by simpa using g
    rfl
  | t :: ss, e :: es, i + 1, s, d, h, g => mdd_get (ss := ss) (es := es) (i := i) (by simpa using h) (by simpa using g)
  | [], _, i, s, d, h, _ => by simp at h
  | _ :: _, [], i, s, d, _, g => by simp at g
/-- the goal of a meeting -/
theorem meet_goal {ss : List Nat} {T : Nat → Bool} {x kn mn n c : Nat} (hk : Bits (cdx ss) (Un ss T n) (cnt ss) kn) (hm : Bits (mrx ss) (Un ss T n) (cnt ss) mn) (hx : x < cnt ss) (hc : (mn <<< dbx ss x &&& wid ss kn).testBit c = true) :
    ∃ a, a < cnt ss ∧ Un ss T n a = true ∧ Un ss T n (prx ss x a) = true ∧ c = mrx ss a + dbx ss x := by
  rw [Nat.testBit_and, Nat.testBit_shiftLeft, Bool.and_eq_true, Bool.and_eq_true, decide_eq_true_eq] at hc
  obtain ⟨⟨h1, h2⟩, h3⟩ := hc
  obtain ⟨a, ha, hu, e⟩ := (hm _).mp h2
  have : c = mrx ss a + dbx ss x := by omega
  rw [this, wide_bit hk hx ha] at h3
  exact ⟨a, ha, hu, h3, this⟩
theorem meet_bit {ss : List Nat} {T : Nat → Bool} {x kn mn n a : Nat} (hk : Bits (cdx ss) (Un ss T n) (cnt ss) kn) (hm : Bits (mrx ss) (Un ss T n) (cnt ss) mn) (hx : x < cnt ss) (ha : a < cnt ss) (h1 : Un ss T n a = true) (h2 : Un ss T n (prx ss x a) = true) : (mn <<< dbx ss x &&& wid ss kn).testBit (mrx ss a + dbx ss x) = true := by
  rw [Nat.testBit_and, Nat.testBit_shiftLeft, wide_bit hk hx ha, h2, decide_eq_true (by omega), Nat.add_sub_cancel, (hm _).mpr ⟨a, ha, h1, rfl⟩]
  rfl
/-- a is the first of the seats that a best call from x may lead back to -/
def Fst (ss : List Nat) (U : Nat → Bool) (n x a : Nat) : Prop := a < cnt ss ∧ Un ss U n a = true ∧ Un ss U n (prx ss x a) = true ∧ ∀ a', a' < cnt ss → Un ss U n a' = true → Un ss U n (prx ss x a') = true → mrx ss a ≤ mrx ss a'
theorem mrx_inj {ss : List Nat} {a b : Nat} (ha : a < cnt ss) (hb : b < cnt ss) (e : mrx ss a = mrx ss b) : a = b := by
  have d1 := (stt_ok ha).1
  have d2 := (stt_ok hb).1
  have e2 := cod_inj (mrd_dg d1) (mrd_dg d2) e
  have key : ∀ {ss p q : List Nat}, Dg 1 ss p → Dg 1 ss q → mrd ss p = mrd ss q → p = q := fun {ss p q} hp => by
    induction hp generalizing q with
    | nil => intro hq _; cases hq; rfl
    | @cons s d ss ds h _ ih =>
      intro hq e
      cases hq with
      | @cons _ d' _ ds' h' hd' =>
        have e : (s - d) :: mrd ss ds = (s - d') :: mrd ss ds' := e
        rw [List.cons.injEq] at e
        rw [ih hd' e.2]
        congr 1
        omega
  rw [← (stt_ok ha).2.1, key d1 d2 e2, (stt_ok hb).2.1]
theorem Fst.uniq {ss : List Nat} {U : Nat → Bool} {n x a b : Nat} (h : Fst ss U n x a) (g : Fst ss U n x b) : a = b := by
  have h1 := h.2.2.2 b g.1 g.2.1 g.2.2.1
  have h2 := g.2.2.2 a h.1 h.2.1 h.2.2.1
  exact mrx_inj h.1 g.1 (by omega)
theorem goal_digit {ss : List Nat} {x a i s : Nat} (hs : ∀ s ∈ ss, 1 ≤ s) (hx : x < cnt ss) (ha : a < cnt ss) (h : ss[i]? = some s) : ((mrx ss a + dbx ss x) / room (ss.drop (i + 1))) % s = (stt ss (prx ss x a)).getD i 0 := by
  have d1 := (stt_ok hx).1
  have d2 := (stt_ok ha).1
  have dg := sum_dg d1 d2
  unfold mrx dbx
  rw [cod_sum d1 d2]
  have hi : i < (adg (dbd ss (stt ss x)) (mrd ss (stt ss a))).length := by rw [dg.len]; exact (List.getElem?_eq_some_iff.mp h).1
  have hg := List.getElem?_eq_getElem hi
  rw [cod_digit hs dg h hg]
  have e : stt ss (prx ss x a) = mdd ss (adg (dbd ss (stt ss x)) (mrd ss (stt ss a))) := stt_ixo (prt_dg d1 d2)
  rw [e, List.getD_eq_getElem?_getD, mdd_get h hg]
  rfl
theorem code_digit {ss : List Nat} {x i s : Nat} (hs : ∀ s ∈ ss, 1 ≤ s) (hx : x < cnt ss) (h : ss[i]? = some s) : (cdx ss x / room (ss.drop (i + 1))) % s = (stt ss x).getD i 0 % s := by
  have d1 := (stt_ok hx).1
  have hi : i < (stt ss x).length := by rw [d1.len]; exact (List.getElem?_eq_some_iff.mp h).1
  have hg := List.getElem?_eq_getElem hi
  unfold cdx
  rw [cod_digit hs (d1.mono (by decide)) h hg, List.getD_eq_getElem?_getD, hg]
  rfl
/-- the call from x to b -/
def cll (ss : List Nat) (x b : Nat) : List Int := (List.range ss.length).map fun i => (((stt ss b).getD i 0 : Nat) - ((stt ss x).getD i 0 : Nat) : Int) % ((ss.getD i 0 : Nat) : Int)
theorem cll_of {ss : List Nat} {x a c : Nat} (hs : ∀ s ∈ ss, 1 ≤ s) (hx : x < cnt ss) (ha : a < cnt ss) (hc : c = mrx ss a + dbx ss x) :
    ((List.range ss.length).map fun i => ((c : Int) / ((room (ss.drop (i + 1)) : Nat) : Int) - ((cdx ss x : Nat) : Int) / ((room (ss.drop (i + 1)) : Nat) : Int)) % ((ss.getD i 0 : Nat) : Int)) = cll ss x (prx ss x a) := by
  unfold cll
  refine List.map_congr_left fun i hi => ?_
  have hi := List.mem_range.mp hi
  have h := List.getElem?_eq_getElem hi
  have gd : ss.getD i 0 = ss[i] := by rw [List.getD_eq_getElem?_getD, h]; rfl
  have e1 := goal_digit hs hx ha h
  have e2 := code_digit hs hx h
  rw [← hc] at e1
  have k1 : ∀ A B C : Nat, B % ss[i] = C % ss[i] → ((A : Int) - B) % (ss[i] : Nat) = (((A % ss[i] : Nat) : Int) - C) % (ss[i] : Nat) := fun A B C e => by
    rw [← Int.sub_emod_emod (A : Int) B, ← Int.natCast_emod B, e, Int.natCast_emod, Int.sub_emod_emod, Int.natCast_emod, Int.sub_emod ((A : Int) % _), Int.emod_emod_of_dvd _ (Int.dvd_refl _), ← Int.sub_emod]
  rw [gd, ← Int.natCast_ediv, ← Int.natCast_ediv, k1 _ _ _ e2, e1]
end

/-! ### the spread's call -/
section
variable {P : Program} {w : World} {K : PySem.W.Frag} {mg : Str → Option Value} {base : Heap}
def sp_Spread_call_from (K : PySem.W.Frag) (C CG : Addr) : Sp := fun vs H Q _ => ∃ (s g nb rw st : Addr) (ss : List Nat) (U : Nat → Bool) (d : Nat) (cl : Bool) (x : Nat), vs = [.ref s, .int (x : Nat)] ∧ SpAt C CG ss U H s g nb rw st (d + 1) d cl ∧ SmS ss ∧ x < cnt ss ∧
  ∀ H' d' cl' v, Sm (Fr4 s nb rw st) H H' → SpAt C CG ss U H' s g nb rw st (d' + 1) d' cl' → ((v = .non ∧ (U x = true ∨ ∀ n, Un ss U n x = false)) ∨ (∃ (n : Nat) (t : Addr) (a : Nat), v = .ref t ∧ H' t = some (.tup ((cll ss x (prx ss x a)).map V.int)) ∧ Fst ss U n x a ∧ Un ss U (n + 1) x = true ∧ ∀ m, m < n + 1 → Un ss U m x = false)) → (Un ss U d x = true → Same H H') → Q v H'
theorem ok_Spread_call_from (T : Tx K mg) : FnOk P w K mg base CX0 5 T.f_Spread_call_from T.fd_Spread_call_from ["self", "at"] (sp_Spread_call_from K T.c_Spread T.c_Grid) := by
  refine T.F_Spread_call_from.ok sc_Spread_call_from (fun vs H Q E h => ?_) (fun cdv A outer s H vs Q E hr h => ?_)
  · obtain ⟨s, g, nb, rw, st, ss, U, d, cl, x, rfl, _⟩ := h; rfl
  · obtain ⟨sp, g, nb, rw', st, ss, U, d, cl, x, rfl, hS, z, hx, q⟩ := h
    refine ⟨_, (pss_cons (ps_set (i := 2) sc_Spread_call_from.nd rfl (Or.inl rfl) (pe_meth (pv 0) T.cl_Spread T.m_Spread_number_of (ok_Spread_number_of T) (hr.mono (by decide)) T.b_Spread_number_of .nil pass0 (pa_cons (pv 1) pa_nil)))
      (pss_cons (ps_if (PW.pt (pw_or (pt_cmpR op_isN (pv 2) pe_non (nomark _)) (pw_or1 (pt_cmpR (op_eqDK (K := K) rfl hr.units) (pv 2) pe_int (nomark _))))) (pss_one (ps_ret pe_non)) pss_nil)
      (pss_cons (ps_set (i := 3) sc_Spread_call_from.nd rfl (Or.inl rfl) (pe_meth (pv 0) T.cl_Spread T.m_Spread_meeting (ok_Spread_meeting T) (hr.mono (by decide)) T.b_Spread_meeting .nil pass0 (pa_cons (pe_op op_sub (pv 2) pe_int) (pa_cons (pv 1) pa_nil))))
      (pss_cons (ps_set (i := 4) sc_Spread_call_from.nd rfl (Or.inr rfl) (pe_op op_sub (pe_bits (pe_op op_and (pv 3) (pe_un un_neg (pv 3)))) pe_int))
      (pss_cons (ps_set (i := 5) sc_Spread_call_from.nd rfl (Or.inr rfl) (pe_ix ix_lH (pe_fld (pe_fld (pv 0) rfl) rfl) (pv 1) (fun _ _ => rfl)))
      (pss_one (ps_ret (pe_callTy tuple_H (by rfl) T.n_tuple (by decide +kernel) (pa_cons (pe_lc (own := [("stride", 6), ("size", 7)]) (g := (gTupH 2 (gCons (gName 6) (gCons (gName 7) gNil)))) (tt := tYes) rfl sc_Spread_call_from.nd (pi_seqH (pe_fldK (K := K) rfl (pe_fldK (K := K) rfl (pv 0) (by rfl)) (by rfl))) (blkOk_by (own := [("stride", 6), ("size", 7)]) (N := N_Spread_call_from) (sc := defScope d_Spread_call_from) (by decide +kernel)) (fun _ _ _ _ _ => (pg_tupH (n := 2) rfl (pgs_cons (pg_name (i := 6) sc_Spread_call_from.nd rfl (Or.inl rfl)) (pgs_cons (pg_name (i := 7) sc_Spread_call_from.nd rfl (Or.inl rfl)) pgs_nil)))) (fun _ _ _ _ _ => pts_nil) (fun _ _ _ _ _ => (pe_op op_mod (pe_op op_sub (pe_op op_fdivW (pv 4) (pv 6)) (pe_op op_fdivW (pv 5) (pv 6))) (pv 7)))) pa_nil))))))))), ?_⟩
    have cS := T.cl_Spread
    have cG := T.cl_Grid
    have look : ∀ {H : Hp} {d cl}, SpAt T.c_Spread T.c_Grid ss U H sp g nb rw' st (d + 1) d cl → ∃ dx wt k m u, H sp = some (.ins T.c_Spread dx (spF g nb wt rw' st k m u)) := fun {H d cl} h => by
      obtain ⟨dx, wt, rs, ts, k, m, u, D⟩ := h
      exact ⟨dx, wt, k, m, u, D.self⟩
    obtain ⟨dx, wt, k, m, u, h1⟩ := look hS
    walk_at "rd"
    refine ⟨_, _, h1, rfl, sp, g, nb, rw', st, ss, U, d, cl, x, rfl, hS, z, hx, fun H1 d1 cl1 v s1 hS1 hN hle heq => ?_⟩
    have h0 : Un ss U d x = true → Same H H1 := fun h => by rw [heq h]; exact Same.refl _
    dsimp only
    rcases hN with ⟨n, rfl, hn1, hn2⟩ | ⟨rfl, hn⟩
    · rw [if_neg (by simp)]
      refine ⟨_, _, .int _, .int _, rfl, rfl, _, rfl, ?_⟩
      have hN1 := look hS1
      obtain ⟨dx1, wt1, k1, m1, u1, e1⟩ := hN1
      cases n with
      | zero =>
        rw [if_pos (by simp [PyData.eqv])]
        exact q H1 d1 cl1 _ s1 hS1 (.inl ⟨rfl, .inl hn1⟩) h0
      | succ n =>
        rw [if_neg (by simp [PyData.eqv]; omega)]
        obtain ⟨dg, gr, gc, gd, gm, gsp, gts, g1, g2, g3, g4, g5, g6, g7, g8, _⟩ : GridAt T.c_Grid [sp, nb, rw', st] H1 g ss := by
          obtain ⟨dx, wt, rs, ts, k, m, u, D⟩ := id hS1
          exact D.grid
        refine ⟨_, _, e1, rfl, _, rfl, sp, g, nb, rw', st, ss, U, d1 + 1, d1, cl1, n, x, by rw [show (((n + 1 : Nat) : Int)) - 1 = ((n : Nat) : Int) by omega], hS1, z, ?_, hx, fun kn mn b1 b2 => ?_⟩
        · have := hle (n + 1) rfl
          split
          · rename_i hw
            rcases this with h | ⟨h, hw2⟩
            · omega
            · exact absurd hw hw2
          · rcases this with h | ⟨h, _⟩ <;> omega
        refine ⟨_, rfl, _, rfl, _, _, _, e1, cS, T.no_Spread_grid, .ref g, rfl, g, rfl, _, _, _, g1, cG, T.no_Grid_codes, .ref gc, rfl, gc, rfl, _, g2, ?_⟩
        refine ⟨V.int (cdx ss x : Nat), atI_nat (cdx_get (l := []) hx), _, _, _, e1, cS, T.no_Spread_grid, .ref g, rfl, g, rfl, _, _, _, g1, cG, T.no_Grid_rings, .ref gr, rfl, gr, rfl, .inl ⟨_, g6, fun J W => ?_⟩⟩
        obtain ⟨gl, egl, hgl, hmin⟩ := low_goal ((meet_ne b1 b2 hx).mpr hn1)
        obtain ⟨a, ha, hu1, hu2, hga⟩ := meet_goal b1 b2 hx hgl
        have hcs := cll_of z.pos hx ha hga
        have hfst : Fst ss U n x a := ⟨ha, hu1, hu2, fun a' h1 h2 h3 => by
          have := hmin _ (meet_bit b1 b2 hx h1 h2 h3)
          omega⟩
        rw [egl]
        have h4 := z.len
        refine lcr_map W (((List.range ss.length).map fun i => ((gl : Int) / ((room (ss.drop (i + 1)) : Nat) : Int) - ((cdx ss x : Nat) : Int) / ((room (ss.drop (i + 1)) : Nat) : Int)) % ((ss.getD i 0 : Nat) : Int)).map V.int) (by simp [g7]) (by rw [List.length_map, g7]; exact Nat.le_trans h4 (by decide)) (fun H3 s3 => s3 _ _ g6) (fun i x H H' y => YAt.same y) ?_ ?_
        · rintro i y H2 H3 v Qy hi s2 ⟨rfl, hy⟩ hv hq
          simp only [List.getElem?_map, Option.map_eq_some_iff] at hy hv
          obtain ⟨t, ht, rfl⟩ := hy
          obtain ⟨w, ⟨j, hj, rfl⟩, rfl⟩ := hv
          rw [List.length_map, g7] at hi
          rw [List.getElem?_range hi] at hj
          obtain rfl := Option.some.inj hj
          have hs0 := List.getElem?_eq_getElem hi
          have e8 := s2 _ _ (g8 i t _ ht hs0)
          have gd : ss.getD i 0 = ss[i] := by rw [List.getD_eq_getElem?_getD, hs0]; rfl
          have hs1 := z.pos _ (List.getElem_mem hi)
          have hr : room (ss.drop (i + 1)) < 2 ^ 64 ∧ 0 < room (ss.drop (i + 1)) := by
            have h1 := room_drop ss (i + 1) z.pos
            have h2 := z.room
            have h3 := room_pos (ss := ss.drop (i + 1)) fun s hs => z.pos s (List.mem_of_mem_drop hs)
            exact ⟨Nat.lt_of_le_of_lt (Nat.le_trans h1 h2) (by decide), h3⟩
          walk_at "rd"
          rw [gd] at hq
          have c1 : ∀ j : Int, CDivW j ((room (ss.drop (i + 1)) : Nat) : Int) := fun j => by rw [cdivW_small (by omega) (by omega)]; trivial
          exact ⟨_, e8, rfl, _, _, rfl, _, _, rfl, rfl, _, rfl, c1 _, _, rfl, c1 _, _, rfl, by omega, hq _ (Same.refl _)⟩
        · intro D H2 hD s2 hL
          refine ⟨D, rfl, .inl ⟨_, hL, fun t ht => ?_⟩⟩
          refine q _ d1 cl1 _ ((s1.trans (Sm.of s2)).trans (Sm.of (Same.new ht))) (spAt_same hS1 (s2.trans (Same.new ht))) (.inr ⟨n, t, a, rfl, by rw [← hcs]; exact upd_same, hfst, hn1, hn2⟩) fun hU => (h0 hU).trans (s2.trans (Same.new ht))
    · rw [if_pos rfl]
      exact q H1 d1 cl1 _ s1 hS1 (.inl ⟨rfl, .inr hn⟩) h0
end

/-! ### all seats, a spread from targets -/
section
variable {P : Program} {w : World} {K : PySem.W.Frag} {mg : Str → Option Value} {base : Heap}
/-- the seat of an index, as a tuple holds it -/
def iS (ss : List Nat) (i : Nat) : List Int := iN (stt ss i)
theorem seats_rng (ss : List Nat) : seatsF ss = (List.range (cnt ss)).map (stt ss) := by
  refine List.ext_getElem? fun i => ?_
  rw [List.getElem?_map]
  by_cases hi : i < cnt ss
  · rw [(stt_ok hi).2.2, List.getElem?_range hi]; rfl
  · rw [List.getElem?_eq_none (by rw [seatsF_len]; omega), List.getElem?_eq_none (by rw [List.length_range]; omega)]; rfl
theorem cho_seats : ∀ (ss : List Nat) (xs : List (List Int)), (ss.map fun s => iN (List.range s)).foldl choF xs = xs.flatMap fun x => (seatsF ss).map fun ds => x ++ iN ds
  | [], xs => by simp [seatsF, iN]
  | s :: ss, xs => by
    rw [List.map_cons, List.foldl_cons, cho_seats ss]
    unfold choF
    rw [List.flatMap_assoc]
    congr 1
    funext x
    simp only [seatsF, List.map_flatMap, List.flatMap_map, List.map_map, iN]
    congr 1
    funext d
    congr 1
    funext ds
    simp
theorem cho_iS (ss : List Nat) : choI (ss.map fun s => iN (List.range s)) = (List.range (cnt ss)).map (iS ss) := by
  unfold choI
  rw [cho_seats, seats_rng]
  simp only [List.flatMap_cons, List.flatMap_nil, List.append_nil, List.nil_append, List.map_map]
  rfl
theorem mem_cnt {s : Nat} : ∀ {ss : List Nat}, (∀ s ∈ ss, 1 ≤ s) → s ∈ ss → s ≤ cnt ss
  | [], _, h => by cases h
  | t :: ss, hp, hs => by
    have h1 : 1 ≤ cnt ss := (cnt_take (fun x hx => hp x (List.mem_cons_of_mem _ hx)) 0).1
    have ht := hp t (List.mem_cons_self ..)
    rcases List.mem_cons.mp hs with rfl | hs
    · exact Nat.le_mul_of_pos_right _ h1
    · have := mem_cnt (fun x hx => hp x (List.mem_cons_of_mem _ hx)) hs
      exact Nat.le_trans this (Nat.le_mul_of_pos_left _ ht)
def sp_all_seats (K : PySem.W.Frag) : Sp := fun vs H Q _ => ∃ (a : Addr) (k : Bool) (ss : List Nat), vs = [.ref a] ∧ Sqh k H a (nV ss) ∧ SmS ss ∧ cnt ss ≤ 1000 ∧ ∀ H' l, Same H H' → H l = none → LstT H' l ((List.range (cnt ss)).map (iS ss)) → Q (.ref l) H'
theorem ok_all_seats (T : Tx K mg) : FnOk P w K mg base CX0 2 T.f_all_seats T.fd_all_seats ["sizes"] (sp_all_seats K) := by
  refine T.F_all_seats.ok sc_all_seats (fun vs H Q E h => ?_) (fun cdv A outer s H vs Q E hr h => ?_)
  · obtain ⟨a, k, ss, rfl, _⟩ := h; rfl
  · obtain ⟨a, k, ss, rfl, hs, z, hc, q⟩ := h
    refine ⟨_, (pss_one (ps_ret (pe_call (ok_all_choices T) (hr.mono (by decide)) (by rfl) T.g_all_choices T.F_all_choices.kp T.b_all_choices .nil pass0 (pa_cons (pe_lc (own := [("size", 1)]) (g := (gName 1)) (tt := tYes) rfl sc_all_seats.nd (pi_seqH (pv 0)) (blkOk_by (own := [("size", 1)]) (N := N_all_seats) (sc := defScope d_all_seats) (by decide +kernel)) (fun _ _ _ _ _ => (pg_name (i := 1) sc_all_seats.nd rfl (Or.inl rfl))) (fun _ _ _ _ _ => pts_nil) (fun _ _ _ _ _ => (pe_listRg rfl (by rfl) T.n_list (prg_1 (by rfl) T.n_range (pv 1))))) pa_nil)))), ?_⟩
    walk_at "rd"
    refine seq_or hs fun J W => ?_
    have h4 := z.len
    refine lcr_lists W (ss.map fun s => iN (List.range s)) (by rw [List.length_map, nV_len]) (by rw [nV_len]; exact Nat.le_trans h4 (by decide)) (fun H3 s3 => hs.same s3) (fun i x H H' h => YAt.same h) ?_ ?_
    · rintro i x H1 H2 r Qy hi s1 ⟨rfl, hx⟩ hr hq
      obtain ⟨n, hn, rfl⟩ := nV_get hx
      rw [List.getElem?_map, hn] at hr
      obtain rfl := Option.some.inj hr
      have hb := z.mem (List.mem_of_getElem? hn)
      walk_at "rd"
      refine ⟨RgOk.of_le (by decide) (by omega) (by decide) (by omega), fun l hl => hq l _ (Same.new hl) hl ?_⟩
      rw [upd_same, rgV_nV, nV_iN]
    · intro D H3 hD s3 hL
      refine ⟨D, _, rfl, hL, by rw [List.length_map]; exact h4, fun i => ?_, fun r hr => ?_, fun H4 l s4 hl hT => q _ l (s3.trans s4) (none_of s3 hl) ?_⟩
      · rw [← List.map_take, cho_seats]
        simp only [List.flatMap_cons, List.flatMap_nil, List.append_nil, List.length_map, seatsF_len]
        exact Nat.le_trans (cnt_take z.pos i).1 hc
      · obtain ⟨s, hs', rfl⟩ := List.mem_map.mp hr
        have := mem_cnt z.pos hs'
        unfold iN
        rw [List.length_map, List.length_range]
        omega
      · rw [cho_iS] at hT
        exact hT
/-- the index of a seat -/
def sp_spread_from (K : PySem.W.Frag) (C CG : Addr) : Sp := fun vs H Q _ => ∃ (k : Bool) (g tg : Addr) (ss ns : List Nat), vs = [.ref g, .ref tg] ∧ GridAt CG [] H g ss ∧ SmS ss ∧ TgtAt k H tg (ns.map (iS ss)) ∧ ns ≠ [] ∧ ns.Nodup ∧ (∀ n ∈ ns, n < cnt ss) ∧
  ∀ H' sp nb rw st, Same H H' → H sp = none → H nb = none → H rw = none → H st = none → SpAt C CG ss (tgB ns) H' sp g nb rw st 1 0 false → Q (.ref sp) H'
theorem ok_spread_from (T : Tx K mg) : FnOk P w K mg base CX0 5 T.f_spread_from T.fd_spread_from ["grid", "targets"] (sp_spread_from K T.c_Spread T.c_Grid) := by
  refine T.F_spread_from.ok sc_spread_from (fun vs H Q E h => ?_) (fun cdv A outer s H vs Q E hr h => ?_)
  · obtain ⟨k, g, tg, ss, ns, rfl, _⟩ := h; rfl
  · obtain ⟨k, g, tg, ss, ns, rfl, hG, z, ⟨as, hL, hA⟩, hne, hnd, hlt, q⟩ := h
    refine ⟨_, (pss_one (ps_ret (pe_make T.M_Spread (ok_Spread_init T) (hr.mono (by decide)) (by rfl) T.g_Spread T.b_Spread_init .nil pass0 (pa_cons (pv 0) (pa_cons (pe_lc (own := [("target", 2)]) (g := (gName 2)) (tt := tYes) rfl sc_spread_from.nd (pi_seqH (pv 1)) (blkOk_by (own := [("target", 2)]) (N := N_spread_from) (sc := defScope d_spread_from) (by decide +kernel)) (fun _ _ _ _ _ => (pg_name (i := 2) sc_spread_from.nd rfl (Or.inl rfl))) (fun _ _ _ _ _ => pts_nil) (fun _ _ _ _ _ => (pe_meth (pv 0) T.cl_Grid T.m_Grid_index_of (ok_Grid_index_of T) (hr.mono (by decide)) T.b_Grid_index_of .nil pass0 (pa_cons (pv 2) pa_nil)))) pa_nil))))), ?_⟩
    walk_at "rd"
    refine seq_or hL fun J W => ?_
    have hlen : ns.length ≤ 2000 := by
      have h1 := List.Nodup.length_le_of_subset (l₂ := List.range (cnt ss)) hnd fun n hn => List.mem_range.mpr (hlt n hn)
      rw [List.length_range] at h1
      have := z.cnt
      omega
    refine lcr_map W (nV ns) (by rw [nV_len, List.length_map, hA.1, List.length_map]) (by rw [List.length_map, hA.1, List.length_map]; exact Nat.le_trans hlen (by decide)) (fun H3 s3 => ?_) (fun i x H H' h => YAt.same h) ?_ ?_
    · exact hL.same s3
    · rintro i x H1 H2 y Qy hi s1 ⟨rfl, hx⟩ hy hq
      obtain ⟨n, hn, rfl⟩ := nV_get hy
      rw [List.getElem?_map, Option.map_eq_some_iff] at hx
      obtain ⟨t, ht, rfl⟩ := hx
      have e := s1 _ _ (hA.2 i t (iS ss n) ht (by rw [List.getElem?_map, hn]; rfl))
      have hnl := hlt n (List.mem_of_getElem? hn)
      walk_at "rd"
      have hGs := hG.sm (Sm.of s1)
      obtain ⟨dx, r, c, d, m, sp, ts, h1, h2, _⟩ := id hGs
      refine ⟨_, _, h1, rfl, g, t, [], ss, stt ss n, rfl, hGs, z, ?_, (stt_ok hnl).1, fun H4 s4 => ?_⟩
      · rw [e, nV_iN]; rfl
      · rw [(stt_ok hnl).2.1]
        exact hq _ s4
    · intro D H3 hD s3 eD sp dx hsp hdx hne3
      have s4 : Same H3 (upd (upd H3 dx (.own sp)) sp (.ins T.c_Spread dx [])) := (Same.new hdx).trans (Same.new (by rw [upd_ne hne3.symm]; exact hsp))
      have e4 : (upd (upd H3 dx (.own sp)) sp (.ins T.c_Spread dx [])) sp = some (.ins T.c_Spread dx []) := upd_same
      generalize upd (upd H3 dx (HO.own sp)) sp (HO.ins T.c_Spread dx []) = H4 at s4 e4 ⊢
      have s14 := s3.trans s4
      refine ⟨sp, g, D, dx, ss, ns, rfl, e4, hG.sm (Sm.of s14), z, s4 _ _ eD, hne, hnd, hlt, fun H5 nb rw' st s5 n1 n2 n3 hS => ⟨rfl, q H5 sp nb rw' st (fun b o e => ?_) (none_of s3 hsp) (none_of s14 n1) (none_of s14 n2) (none_of s14 n3) hS⟩⟩
      exact s5 b o (fun h => by rw [h] at e; rw [s3 _ _ e] at hsp; cases hsp) (s14 _ _ e)
end

/-! ### the numbers of all seats -/
section
variable {P : Program} {w : World} {K : PySem.W.Frag} {mg : Str → Option Value} {base : Heap}
/-- the number of a seat -/
def lvl (ss : List Nat) (U : Nat → Bool) (i : Nat) : Option Nat := (List.range (cnt ss)).find? fun n => Un ss U n i
theorem Top.lvl {ss : List Nat} {U : Nat → Bool} {d i : Nat} (h : Top ss U d) (hi : i < cnt ss) : nmq ss U (d + 1) i = lvl ss U i := by
  unfold nmq Lw.lvl
  have e : List.range (cnt ss) = List.range (d + 1) ++ (List.range (cnt ss - (d + 1))).map fun i => d + 1 + i := by
    have := h.few
    rw [show cnt ss = d + 1 + (cnt ss - (d + 1)) by omega, List.range_add, show d + 1 + (cnt ss - (d + 1)) - (d + 1) = cnt ss - (d + 1) by omega]
  rw [e, List.find?_append]
  cases hf : (List.range (d + 1)).find? fun n => Un ss U n i with
  | some n => rfl
  | none =>
    rw [Option.none_or]
    refine (List.find?_eq_none.mpr fun n hn hu => ?_).symm
    obtain ⟨m, _, rfl⟩ := List.mem_map.mp hn
    have h1 := un_stable (n := d) (m := d + 1 + m) h.cl (by omega) hi (by simpa using hu)
    have h2 := List.find?_eq_none.mp hf d (List.mem_range.mpr (by omega))
    exact h2 h1
theorem nmq_nx {ss : List Nat} {U : Nat → Bool} {c i : Nat} (hi : i < cnt ss) : nmq ss U (c + 1) i = if i ∈ Rn ss U c then some c else nmq ss U c i := by
  have h := nmq_next (ss := ss) (T := U) (c := c) hi
  by_cases hm : i ∈ Rn ss U c
  · rw [if_pos hm] at h ⊢
    cases hq : nmq ss U (c + 1) i with
    | none => rw [hq] at h; cases h
    | some n => rw [hq] at h; simp only [numV, V.int.injEq] at h; rw [show n = c by omega]
  · rw [if_neg hm] at h ⊢
    cases hq : nmq ss U (c + 1) i with
    | none => cases hp : nmq ss U c i with
      | none => rfl
      | some m => rw [hq, hp] at h; cases h
    | some n => cases hp : nmq ss U c i with
      | none => rw [hq, hp] at h; cases h
      | some m => rw [hq, hp] at h; simp only [numV, V.int.injEq] at h; rw [show n = m by omega]
def kS (ps : List Int) : List Key := ps.map Sum.inl
theorem kS_kV (ps : List Int) : (kS ps).map kV = ps.map V.int := by unfold kS; rw [List.map_map]; rfl
theorem kS_inj {a b : List Int} (h : kS a = kS b) : a = b := by
  unfold kS at h
  exact (List.map_inj_right fun x y e => Sum.inl.inj e).mp h
theorem iN_inj {a b : List Nat} (h : iN a = iN b) : a = b := List.map_inj_right (fun x y e => Int.ofNat.inj e) |>.mp h
theorem iS_inj {ss : List Nat} {i j : Nat} (hi : i < cnt ss) (hj : j < cnt ss) (h : iS ss i = iS ss j) : i = j := by
  have := iN_inj h
  rw [← (stt_ok hi).2.1, ← (stt_ok hj).2.1, this]
/-- what the dict tells of all seats -/
def NmD (ss : List Nat) (kvs : List (List Key × V)) (f : Nat → Option Nat) : Prop := ∀ i, i < cnt ss → valV kvs (kS (iS ss i)) = (f i).map fun n => V.int (n : Nat)
def sp_numbered_seats (K : PySem.W.Frag) : Sp := fun vs H Q _ => ∃ (k : Bool) (z tg : Addr) (ss ns : List Nat), vs = [.ref z, .ref tg] ∧ H z = some (.tup (nV ss)) ∧ SmS ss ∧ cnt ss ≤ 1000 ∧ TgtAt k H tg (ns.map (iS ss)) ∧ ns ≠ [] ∧ ns.Nodup ∧ (∀ n ∈ ns, n < cnt ss) ∧
  ∀ H' D kvs, Same H H' → H' D = some (.dT kvs) → NmD ss kvs (lvl ss (tgB ns)) → Q (.ref D) H'
def sp_require_small (K : PySem.W.Frag) (C : Addr) : Sp := fun vs H Q _ => ∃ (a : Addr) (ss : List Int), vs = [.ref a] ∧ TabAt C H a ss ∧ Sz ss ∧ prodI ss ≤ 300 ∧ Q .non H
theorem ok_require_small (T : Tx K mg) : FnOk P w K mg base CX0 2 T.f_require_small T.fd_require_small ["table"] (sp_require_small K T.c_Table) := by
  refine T.F_require_small.ok sc_require_small (fun vs H Q E h => ?_) (fun cdv A outer s H vs Q E hr h => ?_)
  · obtain ⟨a, ss, rfl, _⟩ := h; rfl
  · obtain ⟨a, ss, rfl, hT, z, hp, q⟩ := h
    refine ⟨_, (pss_one (ps_if (pt_cmpR op_gt (pe_meth0 (pv 0) T.cl_Table T.m_Table_count (ok_Table_count T) (hr.mono (by decide)) T.b_Table_count .nil pass0) (pe_glob (by rfl) T.g_SMALL_COUNT T.r_SMALL_COUNT) (nomark _)) (pss_one ps_never) pss_nil)), ?_⟩
    obtain ⟨dx, t, h1, h2⟩ := id hT
    walk_at "rd"
    have e : (("count" : Str) == ("_sizes" : Str)) = false := by decide +kernel
    refine ⟨_, _, h1, by simp [List.lookup, e], a, ss, rfl, hT, z, _, rfl, ?_⟩
    rw [if_neg (by omega)]
    exact q
end

/-! ### words of directions, one step by a word -/
section
variable {P : Program} {w : World} {K : PySem.W.Frag} {mg : Str → Option Value} {base : Heap}
/-- the word of a direction -/
def offW (b : Bool) : Str := if b then "backward" else "forward"
/-- one step of a move, forward (1) or backward (-1) -/
def sgn (b : Bool) : Int := if b then -1 else 1
def mvW (b : Bool) (ps cs ss : List Int) : List Int := if b then mv bw ps cs ss else mv fw ps cs ss
theorem mvW_get {b : Bool} {ps cs ss : List Int} {i : Nat} {p c s : Int} (h1 : ps[i]? = some p) (h2 : cs[i]? = some c) (h3 : ss[i]? = some s) : (mvW b ps cs ss)[i]? = some ((p + sgn b * c) % s) := by
  cases b with
  | true =>
    show (mv bw ps cs ss)[i]? = _
    rw [mv_get h1 h2 h3]
    show some ((p - c) % s) = some ((p + -1 * c) % s)
    congr 2
    omega
  | false =>
    show (mv fw ps cs ss)[i]? = _
    rw [mv_get h1 h2 h3]
    show some ((p + c) % s) = some ((p + 1 * c) % s)
    congr 2
    omega
theorem mvW_len {b : Bool} {ps cs ss : List Int} (h1 : ps.length = ss.length) (h2 : cs.length = ss.length) : (mvW b ps cs ss).length = ss.length := by
  cases b with
  | true => show (mv bw ps cs ss).length = _; rw [mv_len (by rw [h1, h2]) h2, h1]
  | false => show (mv fw ps cs ss).length = _; rw [mv_len (by rw [h1, h2]) h2, h1]
theorem mv_seatW {g : Int → Int → Int} : ∀ {ps cs ss : List Int}, ps.length = ss.length → cs.length = ss.length → (∀ s ∈ ss, 1 ≤ s) → Seat ss (mv g ps cs ss) := fun {ps cs ss} h1 h2 h3 =>
  ⟨by rw [mv_len (by rw [h1, h2]) h2, h1], fun i p s hp hs => by
    have hi : i < ss.length := (List.getElem?_eq_some_iff.mp hs).1
    rw [mv_get (List.getElem?_eq_getElem (by omega)) (List.getElem?_eq_getElem (by omega)) hs] at hp
    obtain rfl := Option.some.inj hp
    have := h3 s (List.mem_of_getElem? hs)
    exact ⟨Int.emod_nonneg _ (by omega), Int.emod_lt_of_pos _ (by omega)⟩⟩
theorem mvW_seat {b : Bool} {ps cs ss : List Int} (h1 : ps.length = ss.length) (h2 : cs.length = ss.length) (h3 : ∀ s ∈ ss, 1 ≤ s) : Seat ss (mvW b ps cs ss) := by
  cases b with
  | true => exact mv_seatW h1 h2 h3
  | false => exact mv_seatW h1 h2 h3
theorem offW_or (b : Bool) : offW b = "forward" ∨ offW b = "backward" := by cases b <;> simp [offW]
theorem step_off (b : Bool) (ps cs ss : List Int) : mv (if offW b = "forward" then fw else bw) ps cs ss = mvW b ps cs ss := by
  cases b with
  | true =>
    have e : ¬ (offW true = ("forward" : Str)) := by decide +kernel
    rw [if_neg e]
    rfl
  | false =>
    have e : offW false = ("forward" : Str) := rfl
    rw [if_pos e]
    rfl
theorem offW_dir {K : PySem.W.Frag} {H : Hp} (b : Bool) : DirB K H (.str (offW b)) true := .inr ⟨offW b, rfl, by cases b <;> decide +kernel⟩
end

theorem seat_cons {s p : Int} {ss ps : List Int} (h : Seat (s :: ss) (p :: ps)) : (0 ≤ p ∧ p < s) ∧ Seat ss ps :=
  ⟨h.ok 0 p s rfl rfl, by simpa using h.len, fun i q t hq ht => h.ok (i + 1) q t hq ht⟩
theorem Seat.cons {s p : Int} {ss ps : List Int} (h1 : 0 ≤ p) (h2 : p < s) (h : Seat ss ps) : Seat (s :: ss) (p :: ps) :=
  ⟨by simp [h.len], fun i q t hq ht => by
    cases i with
    | zero =>
      obtain rfl := Option.some.inj hq
      obtain rfl := Option.some.inj ht
      exact ⟨h1, h2⟩
    | succ i => exact h.ok i q t hq ht⟩
theorem Seat.nil : Seat [] [] := ⟨rfl, fun i q t h _ => by simp at h⟩
theorem mv_seat {g : Int → Int → Int} : ∀ {ps cs ss : List Int}, ps.length = ss.length → cs.length = ss.length → (∀ s ∈ ss, 1 ≤ s) → Seat ss (mv g ps cs ss)
  | [], [], [], _, _, _ => .nil
  | _ :: _, _, [], h, _, _ => by simp at h
  | [], _, _ :: _, h, _, _ => by simp at h
  | _, [], _ :: _, _, h, _ => by simp at h
  | _, _ :: _, [], _, h, _ => by simp at h
  | p :: ps, c :: cs, s :: ss, h1, h2, h3 => by
    have hs := h3 s (List.mem_cons_self ..)
    exact .cons (Int.emod_nonneg _ (by omega)) (Int.emod_lt_of_pos _ (by omega)) (mv_seat (by simpa using h1) (by simpa using h2) fun t ht => h3 t (List.mem_cons_of_mem _ ht))

/-! ### seats as tuples of integers, their numbers -/
section
def toN (l : List Int) : List Nat := l.map Int.toNat
theorem iN_toN {l : List Int} (h : ∀ x ∈ l, 0 ≤ x) : iN (toN l) = l := by
  unfold iN toN
  rw [List.map_map]
  refine Eq.trans (List.map_congr_left fun x hx => ?_) (List.map_id _)
  show ((x.toNat : Nat) : Int) = x
  exact Int.toNat_of_nonneg (h x hx)
theorem toN_iN (l : List Nat) : toN (iN l) = l := by
  unfold iN toN
  rw [List.map_map]
  exact Eq.trans (List.map_congr_left fun x hx => Int.toNat_natCast x) (List.map_id _)
theorem seat_nn {ss p : List Int} (h : Seat ss p) : ∀ x ∈ p, 0 ≤ x := fun x hx => by
  obtain ⟨i, hi⟩ := List.mem_iff_getElem?.mp hx
  have hl := (List.getElem?_eq_some_iff.mp hi).1
  exact (h.ok i x _ hi (List.getElem?_eq_getElem (by rw [← h.len]; exact hl))).1
theorem seat_dg : ∀ {ss p : List Int}, Seat ss p → Dg 1 (toN ss) (toN p)
  | [], [], _ => .nil
  | [], _ :: _, h => by have := h.len; simp at this
  | _ :: _, [], h => by have := h.len; simp at this
  | s :: ss, x :: p, h => by
    obtain ⟨⟨h1, h2⟩, h3⟩ := seat_cons h
    exact .cons (by omega) (seat_dg h3)
/-- the index of a seat -/
def ix (ss p : List Int) : Nat := ixo (toN ss) (toN p)
theorem ix_lt {ss p : List Int} (h : Seat ss p) : ix ss p < cnt (toN ss) := (ixo_at (seat_dg h)).1
theorem iS_ix {ss p : List Int} (h : Seat ss p) : iS (toN ss) (ix ss p) = p := by
  unfold iS ix
  rw [stt_ixo (seat_dg h), iN_toN (seat_nn h)]
theorem ix_inj {ss p q : List Int} (h : Seat ss p) (g : Seat ss q) (e : ix ss p = ix ss q) : p = q := by
  rw [← iS_ix h, e, iS_ix g]
theorem cnt_prod : ∀ {ss : List Int}, (∀ s ∈ ss, 1 ≤ s) → ((cnt (toN ss) : Nat) : Int) = prodI ss := fun {ss} h => by
  have key : ∀ (ss : List Int) (c : Int), (∀ s ∈ ss, 1 ≤ s) → ss.foldl (fun a b => a * b) c = c * ((cnt (toN ss) : Nat) : Int) := fun ss => by
    induction ss with
    | nil => intro c _; show c = c * ((1 : Nat) : Int); omega
    | cons s ss ih =>
      intro c h
      rw [List.foldl_cons, ih _ fun x hx => h x (List.mem_cons_of_mem _ hx)]
      show c * s * _ = c * (((s.toNat * cnt (toN ss) : Nat)) : Int)
      have := h s (List.mem_cons_self ..)
      rw [Int.natCast_mul, Int.toNat_of_nonneg (by omega), Int.mul_assoc]
  have := key ss 1 h
  rw [Int.one_mul] at this
  rw [← this]
  rfl
theorem smS_of {ss : List Int} (z : Sz ss) (h : prodI ss ≤ 2000) : SmS (toN ss) := by
  refine ⟨by unfold toN; rw [List.length_map]; exact z.hi, fun s hs => ?_, ?_⟩
  · obtain ⟨n, hn, rfl⟩ := List.mem_map.mp hs
    have := z.pos n hn
    omega
  · have := cnt_prod z.pos
    omega
theorem sz_nn {ss : List Int} (z : Sz ss) : iN (toN ss) = ss := iN_toN fun x hx => by have := z.pos x hx; omega
def ixs (ss : List Int) (gs : List (List Int)) : List Nat := gs.map (ix ss)
theorem iS_ixs {ss : List Int} {gs : List (List Int)} (h : ∀ g ∈ gs, Seat ss g) : (ixs ss gs).map (iS (toN ss)) = gs := by
  unfold ixs
  rw [List.map_map]
  exact Eq.trans (List.map_congr_left fun x hx => iS_ix (h x hx)) (List.map_id _)
theorem ixs_ok {ss : List Int} {gs : List (List Int)} (h : Tgts ss gs) : ixs ss gs ≠ [] ∧ (ixs ss gs).Nodup ∧ ∀ n ∈ ixs ss gs, n < cnt (toN ss) := by
  refine ⟨fun e => h.ne (List.map_eq_nil_iff.mp e), ?_, fun n hn => ?_⟩
  · have key : ∀ gs : List (List Int), gs.Nodup → (∀ g ∈ gs, Seat ss g) → (gs.map (ix ss)).Nodup := fun gs => by
      induction gs with
      | nil => intro _ _; exact List.nodup_nil
      | cons g gs ih =>
        intro h1 h2
        obtain ⟨h3, h4⟩ := List.nodup_cons.mp h1
        refine List.nodup_cons.mpr ⟨fun hm => ?_, ih h4 fun x hx => h2 x (List.mem_cons_of_mem _ hx)⟩
        obtain ⟨x, hx, e⟩ := List.mem_map.mp hm
        rw [ix_inj (h2 x (List.mem_cons_of_mem _ hx)) (h2 g (List.mem_cons_self ..)) e] at hx
        exact h3 hx
    exact key gs h.nd h.ok
  · obtain ⟨g, hg, rfl⟩ := List.mem_map.mp hn
    exact ix_lt (h.ok g hg)
/-- the number of a seat -/
def lev (ss : List Int) (gs : List (List Int)) (p : List Int) : Option Nat := lvl (toN ss) (tgB (ixs ss gs)) (ix ss p)
theorem nmD_at {ss : List Int} {gs : List (List Int)} {kvs : List (List Key × V)} (h : NmD (toN ss) kvs (lvl (toN ss) (tgB (ixs ss gs)))) {p : List Int} (hp : Seat ss p) : valV kvs (kS p) = (lev ss gs p).map fun n => V.int (n : Nat) := by
  have := h _ (ix_lt hp)
  rwa [iS_ix hp] at this
end

/-! ### tuples that stay, lists of tuples and of moves -/
section
variable {P : Program} {w : World} {K : PySem.W.Frag} {mg : Str → Option Value} {base : Heap}
/-- all tuples stay -/
def Tp (H H' : Hp) : Prop := ∀ b xs, H b = some (.tup xs) → H' b = some (.tup xs)
theorem Tp.of {H H' : Hp} (s : Same H H') : Tp H H' := fun b xs h => s _ _ h
theorem Tp.trans {H H1 H2 : Hp} (s : Tp H H1) (t : Tp H1 H2) : Tp H H2 := fun b xs h => t _ _ (s _ _ h)
theorem Tp.sx {a : Addr} {H H' : Hp} {o : HO} (s : Sx a H H') (ha : H a = some o) (ho : ∀ xs, o ≠ .tup xs) : Tp H H' := fun b xs h => s _ _ (ne_two h ha fun e => ho _ e.symm) h
theorem Tp.put {a : Addr} {H : Hp} {o u : HO} (ha : H a = some o) (ho : ∀ xs, o ≠ .tup xs) : Tp H (upd H a u) := fun b xs h => by rw [upd_ne (ne_two h ha fun e => ho _ e.symm)]; exact h
theorem _root_.Cs.AsT.tp {H H' : Hp} {as : List Addr} {hs : List (List Int)} (h : AsT H as hs) (s : Tp H H') : AsT H' as hs := ⟨h.1, fun i t g h1 h2 => s _ _ (h.2 i t g h1 h2)⟩
theorem _root_.Cs.Sqh.sxi {k : Bool} {a g C dx : Addr} {fs : List (Str × V)} {H H' : Hp} {xs : List V} (h : Sqh k H g xs) (ha : H a = some (.ins C dx fs)) (s : Sx a H H') : Sqh k H' g xs := by
  cases k with
  | true => exact s _ _ (ne_two (show H g = some (.lst xs) from h) ha (by simp)) h
  | false => exact s _ _ (ne_two (show H g = some (.tup xs) from h) ha (by simp)) h
theorem Tp.sxi {a C dx : Addr} {fs : List (Str × V)} {H H' : Hp} (ha : H a = some (.ins C dx fs)) (s : Sx a H H') : Tp H H' := Tp.sx s ha (by simp)
/-- one more at the end of a list of tuples -/
theorem _root_.Cs.LstT.push {H : Hp} {D t : Addr} {L : List (List Int)} {gs : List Int} (h : LstT H D L) (ht : H t = some (.tup (gs.map V.int))) : ∃ as : List Addr, H D = some (.lst (as.map V.ref)) ∧ as.length = L.length ∧ LstT (upd H D (.lst (as.map V.ref ++ [V.ref t]))) D (L ++ [gs]) := by
  obtain ⟨as, h1, h2⟩ := h
  refine ⟨as, h1, h2.1, as ++ [t], by rw [upd_same, List.map_append]; rfl, ?_⟩
  exact (h2.tp (Tp.put h1 (by simp))).snoc (by rw [upd_ne (ne_two ht h1 (by simp))]; exact ht)
/-- moves mv at the addresses ms -/
def AsM (H : Hp) (ms : List Addr) (mv : List (List Int × Bool)) : Prop := ms.length = mv.length ∧ ∀ (i : Nat) m c, ms[i]? = some m → mv[i]? = some c → ∃ p, H m = some (.tup [.ref p, .str (offW c.2)]) ∧ H p = some (.tup (c.1.map V.int))
theorem AsM.tp {H H' : Hp} {ms : List Addr} {mv : List (List Int × Bool)} (h : AsM H ms mv) (s : Tp H H') : AsM H' ms mv := ⟨h.1, fun i m c h1 h2 => by
  obtain ⟨p, h3, h4⟩ := h.2 i m c h1 h2
  exact ⟨p, s _ _ h3, s _ _ h4⟩⟩
theorem AsM.same {H H' : Hp} {ms : List Addr} {mv : List (List Int × Bool)} (s : Same H H') (h : AsM H ms mv) : AsM H' ms mv := h.tp (Tp.of s)
def MovAt (k : Bool) (H : Hp) (a : Addr) (mv : List (List Int × Bool)) : Prop := ∃ ms : List Addr, Sqh k H a (ms.map V.ref) ∧ AsM H ms mv
theorem MovAt.same {k : Bool} {H H' : Hp} {a : Addr} {mv : List (List Int × Bool)} (s : Same H H') (h : MovAt k H a mv) : MovAt k H' a mv := by
  obtain ⟨ms, h1, h2⟩ := h
  exact ⟨ms, h1.same s, h2.same s⟩
theorem AsM.snoc {H : Hp} {ms : List Addr} {mv : List (List Int × Bool)} {m p : Addr} {cs : List Int} {b : Bool} (h : AsM H ms mv) (hm : H m = some (.tup [.ref p, .str (offW b)])) (hp : H p = some (.tup (cs.map V.int))) : AsM H (ms ++ [m]) (mv ++ [(cs, b)]) := by
  refine ⟨by rw [List.length_append, List.length_append, h.1]; rfl, fun i u c h1 h2 => ?_⟩
  by_cases hlt : i < ms.length
  · rw [List.getElem?_append_left hlt] at h1
    rw [List.getElem?_append_left (by rw [← h.1]; exact hlt)] at h2
    exact h.2 i u c h1 h2
  · rw [List.getElem?_append_right (by omega)] at h1
    rw [List.getElem?_append_right (by rw [← h.1]; omega), ← h.1] at h2
    cases hk : i - ms.length with
    | zero =>
      rw [hk] at h1 h2
      simp only [List.getElem?_cons_zero, Option.some.injEq] at h1 h2
      rw [← h1, ← h2]
      exact ⟨p, hm, hp⟩
    | succ m => rw [hk] at h1; simp at h1
theorem MovAt.push {H : Hp} {D m p : Addr} {mv : List (List Int × Bool)} {cs : List Int} {b : Bool} (h : MovAt true H D mv) (hm : H m = some (.tup [.ref p, .str (offW b)])) (hp : H p = some (.tup (cs.map V.int))) :
    ∃ ms : List Addr, H D = some (.lst (ms.map V.ref)) ∧ ms.length = mv.length ∧ MovAt true (upd H D (.lst (ms.map V.ref ++ [V.ref m]))) D (mv ++ [(cs, b)]) := by
  obtain ⟨ms, h1, h2⟩ := h
  have h1 : H D = some (.lst (ms.map V.ref)) := h1
  refine ⟨ms, h1, h2.1, ms ++ [m], by show _ = some (HO.lst _); rw [upd_same, List.map_append]; rfl, ?_⟩
  exact (h2.tp (Tp.put h1 (by simp))).snoc (by rw [upd_ne (ne_two hm h1 (by simp))]; exact hm) (by rw [upd_ne (ne_two hp h1 (by simp))]; exact hp)
theorem eqD_tups' {K : PySem.W.Frag} {H : Hp} {a b : Addr} {hss : List (List Int)} {Q : VK} (h1 : LstT H a hss) (h2 : LstT H b hss) (q : Q (.bl true) H) : rEqD K (.ref a) (.ref b) H Q :=
  ⟨_, _, dp_lstT h1, dp_lstT h2, shaped_tups _, shaped_tups _, by rw [show PyData.eqv (.list (hss.map tupI)) (.list (hss.map tupI)) = decide (hss = hss) from eqv_tups hss hss, decide_eq_true rfl]; exact q⟩
end

/-! ### spreads of a table -/
section
variable {P : Program} {w : World} {K : PySem.W.Frag} {mg : Str → Option Value} {base : Heap}
structure Tab (ss : List Int) (gs : List (List Int)) : Prop where
  z : Sz ss
  few : prodI ss ≤ 300
  tg : Tgts ss gs
def sp_spread_for_all (K : PySem.W.Frag) (C CS CG : Addr) : Sp := fun vs H Q _ => ∃ (t tg : Addr) (k : Bool) (ss : List Int) (gs : List (List Int)), vs = [.ref t, .ref tg] ∧ TabAt C H t ss ∧ TgtAt k H tg gs ∧ Tab ss gs ∧
  ∀ H' sp g nb rw st, Same H H' → H sp = none → H nb = none → H rw = none → H st = none → SpAt CS CG (toN ss) (tgB (ixs ss gs)) H' sp g nb rw st 1 0 false → Q (.ref sp) H'
theorem ok_spread_for_all (T : Tx K mg) : FnOk P w K mg base CX0 6 T.f_spread_for_all T.fd_spread_for_all ["table", "targets"] (sp_spread_for_all K T.c_Table T.c_Spread T.c_Grid) := by
  refine T.F_spread_for_all.ok sc_spread_for_all (fun vs H Q E h => ?_) (fun cdv A outer s H vs Q E hr h => ?_)
  · obtain ⟨t, tg, k, ss, gs, rfl, _⟩ := h; rfl
  · obtain ⟨t, tg, k, ss, gs, rfl, hT, hG, G, q⟩ := h
    refine ⟨_, (pss_cons (ps_set (i := 2) sc_spread_for_all.nd rfl (Or.inl rfl) (pe_call (ok_sizes_of T) (hr.mono (by decide)) (by rfl) T.g_sizes_of T.F_sizes_of.kp T.b_sizes_of .nil pass0 (pa_cons (pv 0) pa_nil)))
      (pss_cons (ps_expr (pe_call (ok_require_targets T) (hr.mono (by decide)) (by rfl) T.g_require_targets T.F_require_targets.kp T.b_require_targets .nil pass0 (pa_cons (pv 2) (pa_cons (pv 1) pa_nil))))
      (pss_cons (ps_expr (pe_call (ok_require_small T) (hr.mono (by decide)) (by rfl) T.g_require_small T.F_require_small.kp T.b_require_small .nil pass0 (pa_cons (pv 0) pa_nil)))
      (pss_one (ps_ret (pe_call (ok_spread_from T) (hr.mono (by decide)) (by rfl) T.g_spread_from T.F_spread_from.kp T.b_spread_from .nil pass0 (pa_cons (pe_make T.M_Grid (ok_Grid_init T) (hr.mono (by decide)) (by rfl) T.g_Grid T.b_Grid_init .nil pass0 (pa_cons (pv 2) pa_nil)) (pa_cons (pv 1) pa_nil)))))))), ?_⟩
    have smS := smS_of G.z (by have := G.few; omega)
    have hss := sz_nn G.z
    walk_at "rd"
    refine ⟨t, ss, rfl, hT, fun z hz => ⟨false, k, z, tg, ss, gs, rfl, hz, hG, G.tg.ne, G.tg.nd, G.tg.few, G.tg.ok, G.z, fun H1 s1 => ?_⟩⟩
    refine ⟨t, ss, rfl, hT.same s1, G.z, G.few, ?_⟩
    intro g dx hg hdx hne2
    have s2 : Same H1 (upd (upd H1 dx (.own g)) g (.ins T.c_Grid dx [])) := (Same.new hdx).trans (Same.new (by rw [upd_ne hne2.symm]; exact hg))
    have e2 : (upd (upd H1 dx (.own g)) g (.ins T.c_Grid dx [])) g = some (.ins T.c_Grid dx []) := upd_same
    generalize upd (upd H1 dx (HO.own g)) g (HO.ins T.c_Grid dx []) = H2 at s2 e2 ⊢
    refine ⟨g, z, dx, false, toN ss, rfl, e2, by show _ = _; rw [nV_iN, hss]; exact s2 _ _ (s1 _ _ hz), smS, fun H3 s3 hGr => ⟨rfl, ?_⟩⟩
    have s03 : Same H H3 := fun b o e => s3 b o (ne_some (s1 _ _ e) hg) (s2 _ _ (s1 _ _ e))
    obtain ⟨i1, i2, i3⟩ := ixs_ok G.tg
    refine ⟨k, g, tg, toN ss, ixs ss gs, rfl, hGr, smS, ?_, i1, i2, i3, fun H4 sp nb rw' st s4 n1 n2 n3 n4 hS => q H4 sp g nb rw' st (s03.trans s4) (none_of s03 n1) (none_of s03 n2) (none_of s03 n3) (none_of s03 n4) hS⟩
    rw [iS_ixs G.tg.ok]
    exact hG.same s03
def sp_spread_for_seat (K : PySem.W.Frag) (C CS CG : Addr) : Sp := fun vs H Q _ => ∃ (t tg p : Addr) (k : Bool) (ss ps : List Int) (gs : List (List Int)), vs = [.ref t, .ref tg, .ref p] ∧ TabAt C H t ss ∧ TgtAt k H tg gs ∧ Tab ss gs ∧ H p = some (.tup (ps.map V.int)) ∧ Seat ss ps ∧
  ∀ H' r sp g nb rw st, Same H H' → H sp = none → H nb = none → H rw = none → H st = none → SpAt CS CG (toN ss) (tgB (ixs ss gs)) H' sp g nb rw st 1 0 false → H' r = some (.tup [.ref sp, .int (ix ss ps : Nat)]) → Q (.ref r) H'
theorem ok_spread_for_seat (T : Tx K mg) : FnOk P w K mg base CX0 6 T.f_spread_for_seat T.fd_spread_for_seat ["table", "targets", "seat"] (sp_spread_for_seat K T.c_Table T.c_Spread T.c_Grid) := by
  refine T.F_spread_for_seat.ok sc_spread_for_seat (fun vs H Q E h => ?_) (fun cdv A outer s H vs Q E hr h => ?_)
  · obtain ⟨t, tg, p, k, ss, ps, gs, rfl, _⟩ := h; rfl
  · obtain ⟨t, tg, p, k, ss, ps, gs, rfl, hT, hG, G, hp, hS0, q⟩ := h
    refine ⟨_, (pss_cons (ps_set (i := 3) sc_spread_for_seat.nd rfl (Or.inl rfl) (pe_call (ok_sizes_of T) (hr.mono (by decide)) (by rfl) T.g_sizes_of T.F_sizes_of.kp T.b_sizes_of .nil pass0 (pa_cons (pv 0) pa_nil)))
      (pss_cons (ps_expr (pe_call (ok_require_targets T) (hr.mono (by decide)) (by rfl) T.g_require_targets T.F_require_targets.kp T.b_require_targets .nil pass0 (pa_cons (pv 3) (pa_cons (pv 1) pa_nil))))
      (pss_cons (ps_expr (pe_call (ok_require_seat T) (hr.mono (by decide)) (by rfl) T.g_require_seat T.F_require_seat.kp T.b_require_seat .nil pass0 (pa_cons (pv 3) (pa_cons (pv 2) pa_nil))))
      (pss_cons (ps_expr (pe_call (ok_require_small T) (hr.mono (by decide)) (by rfl) T.g_require_small T.F_require_small.kp T.b_require_small .nil pass0 (pa_cons (pv 0) pa_nil)))
      (pss_cons (ps_set (i := 4) sc_spread_for_seat.nd rfl (Or.inl rfl) (pe_make T.M_Grid (ok_Grid_init T) (hr.mono (by decide)) (by rfl) T.g_Grid T.b_Grid_init .nil pass0 (pa_cons (pv 3) pa_nil)))
      (pss_one (ps_ret (pe_tup (pa_cons (pe_call (ok_spread_from T) (hr.mono (by decide)) (by rfl) T.g_spread_from T.F_spread_from.kp T.b_spread_from .nil pass0 (pa_cons (pv 4) (pa_cons (pv 1) pa_nil))) (pa_cons (pe_meth (pv 4) T.cl_Grid T.m_Grid_index_of (ok_Grid_index_of T) (hr.mono (by decide)) T.b_Grid_index_of .nil pass0 (pa_cons (pv 2) pa_nil)) pa_nil)))))))))), ?_⟩
    have smS := smS_of G.z (by have := G.few; omega)
    have hss := sz_nn G.z
    walk_at "rd"
    refine ⟨t, ss, rfl, hT, fun z hz => ⟨false, k, z, tg, ss, gs, rfl, hz, hG, G.tg.ne, G.tg.nd, G.tg.few, G.tg.ok, G.z, fun H1 s1 => ?_⟩⟩
    refine ⟨false, z, ss, .ref p, rfl, s1 _ _ hz, hS0.b G.z (s1 _ _ hp), fun H1b s1b => ?_⟩
    have s1 := s1.trans s1b
    refine ⟨t, ss, rfl, hT.same s1, G.z, G.few, ?_⟩
    intro g dx hg hdx hne2
    have s2 : Same H1b (upd (upd H1b dx (.own g)) g (.ins T.c_Grid dx [])) := (Same.new hdx).trans (Same.new (by rw [upd_ne hne2.symm]; exact hg))
    have e2 : (upd (upd H1b dx (.own g)) g (.ins T.c_Grid dx [])) g = some (.ins T.c_Grid dx []) := upd_same
    generalize upd (upd H1b dx (HO.own g)) g (HO.ins T.c_Grid dx []) = H2 at s2 e2 ⊢
    refine ⟨g, z, dx, false, toN ss, rfl, e2, by show _ = _; rw [nV_iN, hss]; exact s2 _ _ (s1 _ _ hz), smS, fun H3 s3 hGr => ⟨rfl, ?_⟩⟩
    have s03 : Same H H3 := fun b o e => s3 b o (ne_some (s1 _ _ e) hg) (s2 _ _ (s1 _ _ e))
    obtain ⟨i1, i2, i3⟩ := ixs_ok G.tg
    refine ⟨k, g, tg, toN ss, ixs ss gs, rfl, hGr, smS, ?_, i1, i2, i3, fun H4 sp nb rw' st s4 n1 n2 n3 n4 hS => ?_⟩
    · rw [iS_ixs G.tg.ok]
      exact hG.same s03
    have s04 := s03.trans s4
    have hG4 := hGr.sm (Sm.of s4)
    obtain ⟨dxg, r, c, d, m, spo, ts, g1, _⟩ := id hG4
    refine ⟨_, _, g1, rfl, g, p, [], toN ss, toN ps, rfl, hG4, smS, ?_, seat_dg hS0, fun H5 s5 r hr => ?_⟩
    · rw [nV_iN, iN_toN (seat_nn hS0)]
      exact s04 _ _ hp
    have s5r := s5.trans (Same.new hr (o := .tup [V.ref sp, V.int ((ixo (toN ss) (toN ps) : Nat) : Int)]))
    exact q _ r sp g nb rw' st (s04.trans s5r) (none_of s03 n1) (none_of s03 n2) (none_of s03 n3) (none_of s03 n4) (spAt_same hS s5r) upd_same
theorem _root_.Cs.LstT.upd {H : Hp} {D M : Addr} {L : List (List Int)} {xs : List V} {o : HO} (h : LstT H D L) (hM : H M = some (.lst xs)) (hne : D ≠ M) : LstT (upd H M o) D L := by
  obtain ⟨as, h1, h2⟩ := h
  exact ⟨as, by rw [upd_ne hne]; exact h1, h2.tp (Tp.put hM (by simp))⟩
theorem lcr_lstf {J : It} {n : Nat} {G : Hp → Prop} {Y : Nat → Hp → V → Hp → Prop} (w : Walk J n G Y) {g : TG} {te : TE} {vs : List Nat} {σ : L2.St} {H1 : Hp} {Q : VK} (f : Nat → List (List Int)) (hn : n ≤ 1000)
    (hG : ∀ H, Same H1 H → G H) (hY : ∀ i x H H', Y i H x H' → Same H H')
    (hs : ∀ i x H H' (Qy : VK), i < n → Same H1 H → Y i H x H' → (∀ d H4, Same H' H4 → H' d = none → LstT H4 d (f i) → Qy (.ref d) H4) → g x (wipe σ vs) H' fun σ2 H2 => wipe σ2 vs = wipe σ vs ∧ te σ2 H2 Qy)
    (hd : ∀ D (ds : List Addr) H, H1 D = none → Same H1 H → H D = some (.lst (ds.map V.ref)) → ds.length = n → (∀ (j : Nat) d, ds[j]? = some d → LstT H d (f j) ∧ H1 d = none) → Q (.ref D) H) : LcR J g tYes te vs σ H1 Q := fun D hD => by
  refine lc_gen w (fun i acc H => Same H1 H ∧ (∃ ys, H D = some (.lst ys)) ∧ ∃ ds : List Addr, acc = ds.map V.ref ∧ ds.length = i ∧ ∀ (j : Nat) d, ds[j]? = some d → d ≠ D ∧ LstT H d (f j) ∧ H1 d = none) (Nat.le_trans hn (by decide)) ⟨Same.new hD, ⟨_, upd_same⟩, [], rfl, rfl, by simp⟩ (fun i acc H _ h _ => hG H h.1) (fun i acc H l h _ => ?_) (fun i acc x H H' Qy hi ha h e hy hq => ?_) (fun acc H ha h e => ?_)
  · obtain ⟨h1, ⟨ys, h2⟩, ds, h3, h4, h5⟩ := h
    exact ⟨fun b o hb => by rw [upd_ne (ne_some hb hD)]; exact h1 _ _ hb, ⟨_, upd_same⟩, ds, h3, h4, fun j d hj => ⟨(h5 j d hj).1, (h5 j d hj).2.1.upd h2 (h5 j d hj).1, (h5 j d hj).2.2⟩⟩
  · obtain ⟨h1, ⟨ys, h2⟩, ds, h3, h4, h5⟩ := h
    have sy := hY _ _ _ _ hy
    refine hs i x H H' Qy hi h1 hy fun d H4 s4 hd0 hL => ?_
    have s04 := sy.trans s4
    refine hq (.ref d) H4 (s04 _ _ e) ⟨h1.trans s04, ⟨_, s04 _ _ h2⟩, ds ++ [d], by rw [h3, List.map_append]; rfl, by rw [List.length_append, h4]; rfl, fun j b hj => ?_⟩
    by_cases hlt : j < ds.length
    · rw [List.getElem?_append_left hlt] at hj
      exact ⟨(h5 j b hj).1, (h5 j b hj).2.1.same s04, (h5 j b hj).2.2⟩
    · rw [List.getElem?_append_right (by omega)] at hj
      cases hk : j - ds.length with
      | zero =>
        rw [hk] at hj
        simp only [List.getElem?_cons_zero, Option.some.injEq] at hj
        subst hj
        have ej : j = i := by omega
        subst ej
        exact ⟨(ne_some (sy _ _ h2) hd0).symm, hL, none_of (h1.trans sy) hd0⟩
      | succ m => rw [hk] at hj; simp at hj
  · obtain ⟨h1, _, ds, h3, h4, h5⟩ := h
    exact hd D ds H hD h1 (by rw [← h3]; exact e) (by rw [h4]) fun j d hj => (h5 j d hj).2
/-- a list of layers -/
def LayL (H : Hp) (D : Addr) (rows : List (List (List Int))) : Prop := ∃ ds : List Addr, H D = some (.lst (ds.map V.ref)) ∧ ds.length = rows.length ∧ ∀ (i : Nat) d r, ds[i]? = some d → rows[i]? = some r → LstT H d r
theorem LayL.same {H H' : Hp} {D : Addr} {rows : List (List (List Int))} (s : Same H H') (h : LayL H D rows) : LayL H' D rows := by
  obtain ⟨ds, h1, h2, h3⟩ := h
  exact ⟨ds, s _ _ h1, h2, fun i d r e1 e2 => (h3 i d r e1 e2).same s⟩
/-- a list of layers, new with all its lists -/
def LayF (H0 H : Hp) (D : Addr) (rows : List (List (List Int))) : Prop := ∃ ds : List Addr, H D = some (.lst (ds.map V.ref)) ∧ ds.length = rows.length ∧ ∀ (i : Nat) d r, ds[i]? = some d → rows[i]? = some r → LstT H d r ∧ H0 d = none
theorem LayF.lay {H0 H : Hp} {D : Addr} {rows : List (List (List Int))} (h : LayF H0 H D rows) : LayL H D rows := by
  obtain ⟨ds, h1, h2, h3⟩ := h
  exact ⟨ds, h1, h2, fun i d r e1 e2 => (h3 i d r e1 e2).1⟩
/-- all layers of a table -/
def layI (ss : List Int) (gs : List (List Int)) : List (List (List Int)) := (lyr (toN ss) (tgB (ixs ss gs))).map fun r => r.map (iS (toN ss))
def sp_layers (K : PySem.W.Frag) (C : Addr) : Sp := fun vs H Q _ => ∃ (t tg : Addr) (k : Bool) (ss : List Int) (gs : List (List Int)), vs = [.ref t, .ref tg] ∧ TabAt C H t ss ∧ TgtAt k H tg gs ∧ Tab ss gs ∧ ∀ H' D, Same H H' → H D = none → LayF H H' D (layI ss gs) → Q (.ref D) H'
theorem ok_layers (T : Tx K mg) : FnOk P w K mg base CX0 7 T.f_layers T.fd_layers ["table", "targets"] (sp_layers K T.c_Table) := by
  refine T.F_layers.ok sc_layers (fun vs H Q E h => ?_) (fun cdv A outer s H vs Q E hr h => ?_)
  · obtain ⟨t, tg, k, ss, gs, rfl, _⟩ := h; rfl
  · obtain ⟨t, tg, k, ss, gs, rfl, hT, hG, G, q⟩ := h
    refine ⟨_, (pss_cons (ps_set (i := 2) sc_layers.nd rfl (Or.inl rfl) (pe_meth0 (pe_call (ok_spread_for_all T) (hr.mono (by decide)) (by rfl) T.g_spread_for_all T.F_spread_for_all.kp T.b_spread_for_all .nil pass0 (pa_cons (pv 0) (pa_cons (pv 1) pa_nil))) T.cl_Spread T.m_Spread_all_rows (ok_Spread_all_rows T) (hr.mono (by decide)) T.b_Spread_all_rows .nil pass0))
      (pss_cons (ps_set (i := 3) sc_layers.nd rfl (Or.inr rfl) (pe_call (ok_all_seats T) (hr.mono (by decide)) (by rfl) T.g_all_seats T.F_all_seats.kp T.b_all_seats .nil pass0 (pa_cons (pe_meth0 (pv 0) T.cl_Table T.m_Table_sizes (ok_Table_sizes T) (hr.mono (by decide)) T.b_Table_sizes .nil pass0) pa_nil)))
      (pss_one (ps_ret (pe_lc (own := [("row", 4)]) (g := (gName 4)) (tt := tYes) rfl sc_layers.nd (pi_seqH (pv 2)) (blkOk_by (own := [("row", 4)]) (N := N_layers) (sc := defScope d_layers) (by decide +kernel)) (fun _ _ _ _ _ => (pg_name (i := 4) sc_layers.nd rfl (Or.inl rfl))) (fun _ _ _ _ _ => pts_nil) (fun _ _ _ _ _ => (pe_lc (own := [("at", 5)]) (g := (gName 5)) (tt := tYes) rfl sc_layers.nd (pi_seqH (pv 4)) (blkOk_by (own := [("at", 5)]) (by rfl)) (fun _ _ _ _ _ => (pg_name (i := 5) sc_layers.nd rfl (by first | exact Or.inl rfl | exact Or.inr rfl))) (fun _ _ _ _ _ => pts_nil) (fun _ _ _ _ _ => (pe_ix ix_lH (pv 3) (pv 5) (fun _ _ => rfl)))))))))), ?_⟩
    have smS := smS_of G.z (by have := G.few; omega)
    have hss := sz_nn G.z
    have hcn := cnt_prod G.z.pos
    walk_at "rd"
    refine ⟨t, tg, k, ss, gs, rfl, hT, hG, G, fun H1 sp g nb rw' st s1 n1 n2 n3 n4 hS => ?_⟩
    obtain ⟨dx, h5, h6, h7⟩ : ∃ dx fs, H1 sp = some (.ins T.c_Spread dx fs) ∧ fs.lookup (Str.ofString "all_rows") = none := by
      obtain ⟨dx, wt, rs, ts, k, m, u, D⟩ := id hS
      exact ⟨dx, _, D.self, rfl⟩
    refine ⟨sp, rfl, dx, h5, h6, h7, sp, g, nb, rw', st, toN ss, tgB (ixs ss gs), rfl, hS, smS, fun H2 D d s2 hL hTop _ => ?_⟩
    have s02 : Same H H2 := fun b o e => by
      refine s2 b o ?_ (s1 _ _ e)
      simp only [Fr4, List.mem_cons, List.not_mem_nil, or_false, not_or]
      exact ⟨ne_some e n1, ne_some e n2, ne_some e n3, ne_some e n4⟩
    have hT2 := hT.same s02
    obtain ⟨dxt, z0, t1, t2⟩ := id hT2
    have e : (("sizes" : Str) == ("_sizes" : Str)) = false := by decide +kernel
    refine ⟨_, _, t1, by simp [List.lookup, e], t, ss, rfl, hT2, fun z hz => ⟨z, false, toN ss, rfl, by show _ = _; rw [nV_iN, hss]; exact hz, smS, by have := G.few; omega, fun H3 L s3 hL0 hLT => ⟨D, rfl, ?_⟩⟩⟩
    obtain ⟨rs, e1, hA1⟩ := hL.same s3
    obtain ⟨ls, e3, hA3⟩ := id hLT
    have hls : ls.length = Cs.cnt (toN ss) := by rw [hA3.1, List.length_map, List.length_range]
    have hrl : rs.length = d + 1 := by rw [hA1.1, List.length_map, List.length_range]
    have few := hTop.few
    have s03 := s02.trans s3
    refine .inl ⟨_, e1, fun J W => ?_⟩
    refine lcr_lstf W (fun n => (Rn (toN ss) (tgB (ixs ss gs)) n).map (iS (toN ss))) (by rw [List.length_map, hrl]; have := G.few; omega) (fun H4 s4 => s4 _ _ e1) (fun _ _ _ _ y => YAt.same y) ?_ ?_
    · rintro n x H4 H5 Qy hi s4 ⟨rfl, hx⟩ hq
      simp only [List.getElem?_map, Option.map_eq_some_iff] at hx
      obtain ⟨a, ha, rfl⟩ := hx
      rw [List.length_map, hrl] at hi
      have ea := s4 _ _ (hA1.2 n a _ ha (by rw [List.getElem?_map, List.getElem?_range hi]; rfl))
      rw [← nV_iN] at ea
      have hRl : (Rn (toN ss) (tgB (ixs ss gs)) n).length ≤ Cs.cnt (toN ss) := by
        have := List.Nodup.length_le_of_subset (l₁ := Rn (toN ss) (tgB (ixs ss gs)) n) (l₂ := List.range (Cs.cnt (toN ss))) (Rn_asc.imp fun h => Nat.ne_of_lt h) fun n hn => List.mem_range.mpr (Rn_lt hn)
        rwa [List.length_range] at this
      walk_at "rd"
      refine .inl ⟨_, ea, fun J2 W2 => ?_⟩
      refine lcr_map W2 ((Rn (toN ss) (tgB (ixs ss gs)) n).map fun i => V.ref (ls.getD i 0)) (by rw [List.length_map, nV_len]) (by rw [nV_len]; exact Nat.le_trans (by have := G.few; omega : (Rn (toN ss) (tgB (ixs ss gs)) n).length ≤ 1000) (by decide)) (fun H6 s6 => s6 _ _ ea) (fun _ _ _ _ y => YAt.same y) ?_ ?_
      · rintro j y H6 H7 v Qy2 hj s6 ⟨rfl, hy⟩ hv hq2
        obtain ⟨i, hi2, rfl⟩ := nV_get hy
        rw [List.getElem?_map, hi2] at hv
        obtain rfl := Option.some.inj hv
        have hic := Rn_lt (List.mem_of_getElem? hi2)
        have hli := List.getElem?_eq_getElem (by omega : i < ls.length)
        walk_at "rd"
        refine ⟨_, s6 _ _ (s4 _ _ e3), V.ref ls[i], atI_nat (by rw [List.getElem?_map, hli]; rfl), ?_⟩
        have : ls.getD i 0 = ls[i] := by rw [List.getD_eq_getElem?_getD, hli]; rfl
        have hq2 : ∀ H4, Same H7 H4 → Qy2 (V.ref (ls.getD i 0)) H4 := hq2
        rw [this] at hq2
        exact hq2 _ (Same.refl _)
      · intro D2 H6 hD2 s6 hL2
        refine hq D2 H6 s6 hD2 ⟨(Rn (toN ss) (tgB (ixs ss gs)) n).map fun i => ls.getD i 0, by rw [hL2, List.map_map]; rfl, by simp, fun j b c h1 h2 => ?_⟩
        rw [List.getElem?_map, Option.map_eq_some_iff] at h1 h2
        obtain ⟨i, hi1, rfl⟩ := h1
        obtain ⟨i', hi2, rfl⟩ := h2
        rw [hi1] at hi2
        obtain rfl := Option.some.inj hi2
        have hic := Rn_lt (List.mem_of_getElem? hi1)
        have hli := List.getElem?_eq_getElem (by omega : i < ls.length)
        have : ls.getD i 0 = ls[i] := by rw [List.getD_eq_getElem?_getD, hli]; rfl
        rw [this]
        exact s6 _ _ (s4 _ _ (hA3.2 i _ _ hli (by rw [List.getElem?_map, List.getElem?_range hic]; rfl)))
    · intro D2 ds H4 hD2 s4 e4 hdl hds
      have s04 := s03.trans s4
      refine q H4 D2 s04 (none_of s03 hD2) ⟨ds, e4, ?_, fun i dd r h1 h2 => ?_⟩
      · unfold layI
        rw [hdl, List.length_map, List.length_map, hrl, ← lyr_of hTop.ne hTop.cl hTop.few, List.length_map, List.length_range]
      · unfold layI at h2
        rw [← lyr_of hTop.ne hTop.cl hTop.few, List.map_map, List.getElem?_map, Option.map_eq_some_iff] at h2
        obtain ⟨n, hn, rfl⟩ := h2
        have hn2 := (List.getElem?_eq_some_iff.mp hn)
        obtain ⟨hn3, hn4⟩ := hn2
        rw [List.getElem_range] at hn4
        subst hn4
        exact ⟨(hds _ _ h1).1, none_of s03 (hds _ _ h1).2⟩
end

/-! ### min_calls -/
section
variable {P : Program} {w : World} {K : PySem.W.Frag} {mg : Str → Option Value} {base : Heap}
def oV (o : Option Nat) : V := match o with | none => .non | some n => .int (n : Nat)
theorem un_none {ss : List Nat} {U : Nat → Bool} (h : Rn ss U 0 = []) : ∀ n i, i < Cs.cnt ss → Un ss U n i = false
  | 0, i, hi => by
    cases e : Un ss U 0 i with
    | false => rfl
    | true =>
      have : i ∈ Rn ss U 0 := mem_Rn.mpr ⟨hi, e, fun m hm => absurd hm (Nat.not_lt_zero _)⟩
      rw [h] at this
      cases this
  | n + 1, i, hi => by
    cases e : Un ss U (n + 1) i with
    | false => rfl
    | true =>
      obtain ⟨j, hj, h1, _⟩ := un_succ.mp e
      rw [un_none h n j hj] at h1
      cases h1
theorem un_row {ss : List Nat} {U : Nat → Bool} {n x : Nat} (hx : x < Cs.cnt ss) (h : Un ss U n x = true) (hm : ∀ m, m < n → Un ss U m x = false) : ∀ m, m < n + 1 → Rn ss U m ≠ [] := fun m hmn e => by
  cases m with
  | zero =>
    rw [un_none e n x hx] at h
    cases h
  | succ m =>
    have hst : ∀ i, i < Cs.cnt ss → Un ss U (m + 1) i = true → Un ss U m i = true := fun i hi hu => by
      cases e2 : Un ss U m i with
      | true => rfl
      | false =>
        have : i ∈ Rn ss U (m + 1) := mem_Rn.mpr ⟨hi, hu, fun k hk => by
          cases e3 : Un ss U k i with
          | false => rfl
          | true => rw [un_le hi (by omega) e3] at e2; cases e2⟩
        rw [e] at this
        cases this
    have := un_stable (n := m) (m := n) hst (by omega) hx h
    rw [hm m (by omega)] at this
    cases this
theorem un_few {ss : List Nat} {U : Nat → Bool} {n x : Nat} (hx : x < Cs.cnt ss) (h : Un ss U n x = true) (hm : ∀ m, m < n → Un ss U m x = false) : n < Cs.cnt ss := by
  have h1 := lev_few (ss := ss) (T := U) (n := n) fun m hmn => un_row hx h hm m (by omega)
  have h2 : (Kn ss U n).length ≤ Cs.cnt ss := by unfold Kn; exact Nat.le_trans (List.length_filter_le _ _) (by rw [List.length_range]; exact Nat.le_refl _)
  omega
theorem lvl_some {ss : List Nat} {U : Nat → Bool} {n x : Nat} (hx : x < Cs.cnt ss) : lvl ss U x = some n ↔ Un ss U n x = true ∧ ∀ m, m < n → Un ss U m x = false := by
  unfold lvl
  constructor
  · intro h
    obtain ⟨h1, i, hi, e, h2⟩ := List.find?_eq_some_iff_getElem.mp h
    rw [List.length_range] at hi
    have e : (List.range (Cs.cnt ss))[i]'(by rw [List.length_range]; exact hi) = n := e
    rw [List.getElem_range] at e
    subst e
    refine ⟨by simpa using h1, fun m hm => ?_⟩
    have := h2 m hm
    rw [List.getElem_range] at this
    simpa using this
  · rintro ⟨h1, h2⟩
    have hn := un_few hx h1 h2
    refine List.find?_eq_some_iff_getElem.mpr ⟨by simpa using h1, n, by rw [List.length_range]; exact hn, by rw [List.getElem_range], fun j hj => ?_⟩
    rw [List.getElem_range]
    have := h2 j hj
    simp [this]
theorem lvl_none {ss : List Nat} {U : Nat → Bool} {x : Nat} (h : ∀ n, Un ss U n x = false) : lvl ss U x = none := by
  unfold lvl
  exact List.find?_eq_none.mpr fun n _ => by rw [h n]; simp
theorem numOf_lvl {ss : List Nat} {U : Nat → Bool} {x : Nat} {v : V} (hx : x < Cs.cnt ss) (h : NumOf ss U x v) : v = oV (lvl ss U x) := by
  rcases h with ⟨n, rfl, h1, h2⟩ | ⟨rfl, h⟩
  · rw [(lvl_some hx).mpr ⟨h1, h2⟩]
    rfl
  · rw [lvl_none h]
    rfl
def sp_min_calls (K : PySem.W.Frag) (C : Addr) : Sp := fun vs H Q _ => ∃ (t tg p : Addr) (k : Bool) (ss ps : List Int) (gs : List (List Int)), vs = [.ref t, .ref tg, .ref p] ∧ TabAt C H t ss ∧ TgtAt k H tg gs ∧ Tab ss gs ∧ H p = some (.tup (ps.map V.int)) ∧ Seat ss ps ∧
  ∀ H', Same H H' → Q (oV (lev ss gs ps)) H'
theorem ok_min_calls (T : Tx K mg) : FnOk P w K mg base CX0 7 T.f_min_calls T.fd_min_calls ["table", "targets", "seat"] (sp_min_calls K T.c_Table) := by
  refine T.F_min_calls.ok sc_min_calls (fun vs H Q E h => ?_) (fun cdv A outer s H vs Q E hr h => ?_)
  · obtain ⟨t, tg, p, k, ss, ps, gs, rfl, _⟩ := h; rfl
  · obtain ⟨t, tg, p, k, ss, ps, gs, rfl, hT, hG, G, hp, hS0, q⟩ := h
    refine ⟨_, (pss_cons (ps_asg (pe_call (ok_spread_for_seat T) (hr.mono (by decide)) (by rfl) T.g_spread_for_seat T.F_spread_for_seat.kp T.b_spread_for_seat .nil pass0 (pa_cons (pv 0) (pa_cons (pv 1) (pa_cons (pv 2) pa_nil)))) (pg_tupH (n := 2) rfl (pgs_cons (pg_name (i := 3) sc_min_calls.nd rfl (Or.inl rfl)) (pgs_cons (pg_name (i := 4) sc_min_calls.nd rfl (Or.inl rfl)) pgs_nil))))
      (pss_one (ps_ret (pe_meth (pv 3) T.cl_Spread T.m_Spread_number_of (ok_Spread_number_of T) (hr.mono (by decide)) T.b_Spread_number_of .nil pass0 (pa_cons (pv 4) pa_nil))))), ?_⟩
    have smS := smS_of G.z (by have := G.few; omega)
    walk_at "rd"
    refine ⟨t, tg, p, k, ss, ps, gs, rfl, hT, hG, G, hp, hS0, fun H1 r sp g nb rw' st s1 n1 n2 n3 n4 hS hr => ?_⟩
    obtain ⟨dx, h5, h6, h7⟩ : ∃ dx fs, H1 sp = some (.ins T.c_Spread dx fs) ∧ fs.lookup (Str.ofString "number_of") = none := by
      obtain ⟨dx, wt, rs, ts, k, m, u, D⟩ := id hS
      exact ⟨dx, _, D.self, rfl⟩
    refine ⟨r, rfl, _, hr, rfl, _, _, rfl, _, _, rfl, rfl, sp, rfl, dx, h5, h6, h7, sp, g, nb, rw', st, toN ss, tgB (ixs ss gs), 0, false, ix ss ps, rfl, hS, smS, ix_lt hS0, fun H2 d' cl' v s2 _ hv _ _ => ?_⟩
    rw [numOf_lvl (ix_lt hS0) hv]
    refine q H2 fun b o e => ?_
    refine s2 b o ?_ (s1 _ _ e)
    simp only [Fr4, List.mem_cons, List.not_mem_nil, or_false, not_or]
    exact ⟨ne_some e n1, ne_some e n2, ne_some e n3, ne_some e n4⟩
end

/-! ### games that are the same up to names -/
section
def MidL : List Int → List Int → List Int → List Int → Prop
  | [], [], [], [] => True
  | s :: ss, p :: ps, a :: as, b :: bs => s ∣ a + b - 2 * p ∧ MidL ss ps as bs
  | _, _, _, _ => False
theorem dvd_smod (a n : Int) : n ∣ a % n - a := ⟨-(a / n), by rw [Int.emod_def, Int.mul_neg]; omega⟩
theorem prt_mid : ∀ {ss p a b : List Int}, (∀ s ∈ ss, 1 ≤ s) → Seat ss p → Seat ss a → Seat ss b → (MidL ss p a b ↔ prt (toN ss) (toN p) (toN a) = toN b)
  | [], [], [], [], _, _, _, _ => ⟨fun _ => rfl, fun _ => trivial⟩
  | s :: ss, p :: ps, a :: as, b :: bs, hs, h1, h2, h3 => by
    obtain ⟨⟨p0, p1⟩, hp⟩ := seat_cons h1
    obtain ⟨⟨a0, a1⟩, ha⟩ := seat_cons h2
    obtain ⟨⟨b0, b1⟩, hb⟩ := seat_cons h3
    have ih := prt_mid (fun x hx => hs x (List.mem_cons_of_mem _ hx)) hp ha hb
    have hs1 := hs s (List.mem_cons_self ..)
    show s ∣ a + b - 2 * p ∧ MidL ss ps as bs ↔ (2 * p.toNat % s.toNat + (s.toNat - a.toNat)) % s.toNat :: prt (toN ss) (toN ps) (toN as) = b.toNat :: toN bs
    rw [ih, List.cons.injEq]
    refine and_congr_left fun _ => ?_
    have e : (((2 * p.toNat % s.toNat + (s.toNat - a.toNat)) % s.toNat : Nat) : Int) = (2 * p - a) % s := by
      rw [Int.natCast_emod, Int.natCast_add, Int.natCast_emod, Int.natCast_mul, Int.natCast_sub (by omega), Int.toNat_of_nonneg p0, Int.toNat_of_nonneg a0, Int.toNat_of_nonneg (by omega : 0 ≤ s), Int.emod_add_emod, show ((2 : Nat) : Int) * p + (s - a) = (2 * p - a) + s by omega, Int.add_emod_right]
    constructor
    · rintro ⟨k, hk⟩
      have : ((2 * p - a) % s) = b := by
        rw [show 2 * p - a = b + s * (-k) by rw [Int.mul_neg, ← hk]; omega, Int.add_mul_emod_self_left, Int.emod_eq_of_lt b0 b1]
      omega
    · intro h
      have : ((2 * p - a) % s) = b := by omega
      have h2 := dvd_smod (2 * p - a) s
      rw [this] at h2
      rwa [show b - (2 * p - a) = a + b - 2 * p by omega] at h2
  | [], _ :: _, _, _, _, h, _, _ => by have := h.len; simp at this
  | [], [], _ :: _, _, _, _, h, _ => by have := h.len; simp at this
  | [], [], [], _ :: _, _, _, _, h => by have := h.len; simp at this
  | _ :: _, [], _, _, _, h, _, _ => by have := h.len; simp at this
  | _ :: _, _ :: _, [], _, _, _, h, _ => by have := h.len; simp at this
  | _ :: _, _ :: _, _ :: _, [], _, _, _, h => by have := h.len; simp at this
theorem dg_seat : ∀ {ss : List Int} {d : List Nat}, (∀ s ∈ ss, 1 ≤ s) → Dg 1 (toN ss) d → Seat ss (iN d)
  | [], _, _, h => by cases h; exact .nil
  | s :: ss, _, hs, h => by
    cases h with
    | @cons _ d _ ds h hd =>
      have := hs s (List.mem_cons_self ..)
      exact .cons (by show 0 ≤ ((d : Nat) : Int); omega) (by show ((d : Nat) : Int) < s; omega) (dg_seat (fun x hx => hs x (List.mem_cons_of_mem _ hx)) hd)
theorem un_mid {ss p : List Int} {T : Nat → Bool} {n : Nat} (hs : ∀ s ∈ ss, 1 ≤ s) (hp : Seat ss p) : Un (toN ss) T (n + 1) (ix ss p) = true ↔ ∃ a b, Seat ss a ∧ Seat ss b ∧ MidL ss p a b ∧ Un (toN ss) T n (ix ss a) = true ∧ Un (toN ss) T n (ix ss b) = true := by
  rw [un_succ]
  have px : ∀ {a : List Int}, Seat ss a → prx (toN ss) (ix ss p) (ix ss a) = ixo (toN ss) (prt (toN ss) (toN p) (toN a)) := fun {a} ha => by
    unfold prx ix
    rw [stt_ixo (seat_dg hp), stt_ixo (seat_dg ha)]
  constructor
  · rintro ⟨i, hi, h1, h2⟩
    obtain ⟨d1, d2, _⟩ := stt_ok hi
    have ha := dg_seat hs d1
    have hix : ix ss (iN (stt (toN ss) i)) = i := by unfold ix; rw [toN_iN, d2]
    have hd := prt_dg (seat_dg hp) d1
    have hb := dg_seat hs hd
    have e := px ha
    rw [hix, toN_iN] at e
    refine ⟨iN (stt (toN ss) i), iN (prt (toN ss) (toN p) (stt (toN ss) i)), ha, hb, (prt_mid hs hp ha hb).mpr (by rw [toN_iN, toN_iN]), by rw [hix]; exact h1, ?_⟩
    rw [e] at h2
    unfold ix
    rw [toN_iN]
    exact h2
  · rintro ⟨a, b, ha, hb, hm, h1, h2⟩
    refine ⟨ix ss a, ix_lt ha, h1, ?_⟩
    rw [px ha, (prt_mid hs hp ha hb).mp hm]
    exact h2
/-- a renaming of seats that keeps middles -/
structure Iso (ss ss' : List Int) (F : List Int → List Int) : Prop where
  pos : ∀ s ∈ ss, 1 ≤ s
  pos' : ∀ s ∈ ss', 1 ≤ s
  cnt : cnt (toN ss') = cnt (toN ss)
  seat : ∀ p, Seat ss p → Seat ss' (F p)
  inj : ∀ p q, Seat ss p → Seat ss q → F p = F q → p = q
  sur : ∀ q, Seat ss' q → ∃ p, Seat ss p ∧ F p = q
  mid : ∀ p a b, Seat ss p → Seat ss a → Seat ss b → (MidL ss p a b ↔ MidL ss' (F p) (F a) (F b))
theorem tgB_ix {ss p : List Int} {gs : List (List Int)} (hg : ∀ g ∈ gs, Seat ss g) (hp : Seat ss p) : tgB (ixs ss gs) (ix ss p) = true ↔ p ∈ gs := by
  unfold tgB ixs
  rw [decide_eq_true_eq, List.mem_map]
  constructor
  · rintro ⟨g, h1, h2⟩
    rw [← ix_inj (hg g h1) hp h2]
    exact h1
  · intro h
    exact ⟨p, h, rfl⟩
theorem Iso.un {ss ss' : List Int} {F : List Int → List Int} (I : Iso ss ss' F) {gs gs' : List (List Int)} (hg : ∀ g ∈ gs, Seat ss g) (hg' : ∀ g ∈ gs', Seat ss' g) (hm : ∀ p, Seat ss p → (F p ∈ gs' ↔ p ∈ gs)) : ∀ (n : Nat) (p : List Int), Seat ss p → (Un (toN ss') (tgB (ixs ss' gs')) n (ix ss' (F p)) = true ↔ Un (toN ss) (tgB (ixs ss gs)) n (ix ss p) = true)
  | 0, p, hp => by
    show tgB _ _ = true ↔ tgB _ _ = true
    rw [tgB_ix hg hp, tgB_ix hg' (I.seat p hp), hm p hp]
  | n + 1, p, hp => by
    rw [un_mid I.pos hp, un_mid I.pos' (I.seat p hp)]
    constructor
    · rintro ⟨a', b', ha', hb', h1, h2, h3⟩
      obtain ⟨a, ha, rfl⟩ := I.sur a' ha'
      obtain ⟨b, hb, rfl⟩ := I.sur b' hb'
      exact ⟨a, b, ha, hb, (I.mid p a b hp ha hb).mpr h1, (I.un hg hg' hm n a ha).mp h2, (I.un hg hg' hm n b hb).mp h3⟩
    · rintro ⟨a, b, ha, hb, h1, h2, h3⟩
      exact ⟨F a, F b, I.seat a ha, I.seat b hb, (I.mid p a b hp ha hb).mp h1, (I.un hg hg' hm n a ha).mpr h2, (I.un hg hg' hm n b hb).mpr h3⟩
theorem Iso.lev {ss ss' : List Int} {F : List Int → List Int} (I : Iso ss ss' F) {gs gs' : List (List Int)} (hg : ∀ g ∈ gs, Seat ss g) (hg' : ∀ g ∈ gs', Seat ss' g) (hm : ∀ p, Seat ss p → (F p ∈ gs' ↔ p ∈ gs)) {p : List Int} (hp : Seat ss p) : Lw.lev ss' gs' (F p) = Lw.lev ss gs p := by
  unfold Lw.lev lvl
  rw [I.cnt]
  congr 1
  funext n
  have := I.un hg hg' hm n p hp
  cases h1 : Un (toN ss') (tgB (ixs ss' gs')) n (ix ss' (F p)) <;> cases h2 : Un (toN ss) (tgB (ixs ss gs)) n (ix ss p) <;> simp_all
end

/-! ### what a best call is -/
section
/-- the call from p to a -/
def dcl : List Int → List Int → List Int → List Int
  | s :: ss, p :: ps, a :: as => ((a - p) % s) :: dcl ss ps as
  | _, _, _ => []
theorem dcl_mid : ∀ {ss p a b : List Int}, (∀ s ∈ ss, 1 ≤ s) → Seat ss p → Seat ss a → Seat ss b → MidL ss p a b → Seat ss (dcl ss p a) ∧ mv fw p (dcl ss p a) ss = a ∧ mv bw p (dcl ss p a) ss = b
  | [], [], [], [], _, _, _, _, _ => ⟨Seat.nil, rfl, rfl⟩
  | s :: ss, p :: ps, a :: as, b :: bs, hs, h1, h2, h3, hm => by
    obtain ⟨⟨a0, a1⟩, ha⟩ := seat_cons h2
    obtain ⟨⟨b0, b1⟩, hb⟩ := seat_cons h3
    have hs1 := hs s (List.mem_cons_self ..)
    obtain ⟨⟨k, hk⟩, hm2⟩ := hm
    obtain ⟨hc, e1, e2⟩ := dcl_mid (fun x hx => hs x (List.mem_cons_of_mem _ hx)) (seat_cons h1).2 ha hb hm2
    refine ⟨Seat.cons (Int.emod_nonneg _ (by omega)) (Int.emod_lt_of_pos _ (by omega)) hc, ?_, ?_⟩
    · show (p + (a - p) % s) % s :: mv fw ps (dcl ss ps as) ss = _
      rw [e1, Int.add_emod_emod, show p + (a - p) = a by omega, Int.emod_eq_of_lt a0 a1]
    · show (p - (a - p) % s) % s :: mv bw ps (dcl ss ps as) ss = _
      rw [e2, Int.sub_emod_emod, show p - (a - p) = b + s * (-k) by rw [Int.mul_neg, ← hk]; omega, Int.add_mul_emod_self_left, Int.emod_eq_of_lt b0 b1]
  | [], _ :: _, _, _, _, h, _, _, _ => by have := h.len; simp at this
  | [], [], _ :: _, _, _, _, h, _, _ => by have := h.len; simp at this
  | [], [], [], _ :: _, _, _, _, h, _ => by have := h.len; simp at this
  | _ :: _, [], _, _, _, h, _, _, _ => by have := h.len; simp at this
  | _ :: _, _ :: _, [], _, _, _, h, _, _ => by have := h.len; simp at this
  | _ :: _, _ :: _, _ :: _, [], _, _, _, h, _ => by have := h.len; simp at this
theorem dcl_get : ∀ {ss ps as : List Int} {i : Nat} {s p a : Int}, ss[i]? = some s → ps[i]? = some p → as[i]? = some a → (dcl ss ps as)[i]? = some ((a - p) % s)
  | s :: ss, p :: ps, a :: as, 0, _, _, _, h1, h2, h3 => by
    simp only [List.getElem?_cons_zero, Option.some.injEq] at h1 h2 h3
    subst h1 h2 h3
    rfl
  | s :: ss, p :: ps, a :: as, i + 1, _, _, _, h1, h2, h3 => dcl_get (ss := ss) (ps := ps) (as := as) (i := i) h1 h2 h3
  | [], _, _, _, _, _, _, h, _, _ => by simp at h
  | _ :: _, [], _, _, _, _, _, _, h, _ => by simp at h
  | _ :: _, _ :: _, [], _, _, _, _, _, _, h => by simp at h
theorem dcl_len : ∀ {ss ps as : List Int}, ps.length = ss.length → as.length = ss.length → (dcl ss ps as).length = ss.length
  | [], _, _, _, _ => by cases ‹List Int› <;> rfl
  | s :: ss, p :: ps, a :: as, h1, h2 => by
    show (dcl ss ps as).length + 1 = ss.length + 1
    rw [dcl_len (by simpa using h1) (by simpa using h2)]
  | _ :: _, [], _, h, _ => by simp at h
  | _ :: _, _ :: _, [], _, h => by simp at h
theorem cll_dcl {ss : List Nat} {x b : Nat} (hx : x < Cs.cnt ss) (hb : b < Cs.cnt ss) : cll ss x b = dcl (iN ss) (iS ss x) (iS ss b) := by
  have lx := (stt_ok hx).1.len
  have lb := (stt_ok hb).1.len
  have l1 : (iS ss x).length = (iN ss).length := by unfold iS iN; rw [List.length_map, List.length_map, lx]
  have l2 : (iS ss b).length = (iN ss).length := by unfold iS iN; rw [List.length_map, List.length_map, lb]
  have l0 : (iN ss).length = ss.length := by unfold iN; rw [List.length_map]
  refine List.ext_getElem? fun i => ?_
  by_cases hi : i < ss.length
  · have h1 := List.getElem?_eq_getElem hi
    have h2 := List.getElem?_eq_getElem (by omega : i < (stt ss x).length)
    have h3 := List.getElem?_eq_getElem (by omega : i < (stt ss b).length)
    have g := dcl_get (ss := iN ss) (ps := iS ss x) (as := iS ss b) (i := i) (s := (ss[i] : Nat)) (p := ((stt ss x)[i] : Nat)) (a := ((stt ss b)[i] : Nat)) (by unfold iN; rw [List.getElem?_map, h1]; rfl) (by unfold iS iN; rw [List.getElem?_map, h2]; rfl) (by unfold iS iN; rw [List.getElem?_map, h3]; rfl)
    rw [g]
    unfold cll
    rw [List.getElem?_map, List.getElem?_range hi]
    simp only [Option.map_some, List.getD_eq_getElem?_getD, h1, h2, h3, Option.getD_some]
  · rw [List.getElem?_eq_none (by unfold cll; rw [List.length_map, List.length_range]; omega), List.getElem?_eq_none (by rw [dcl_len l1 l2, l0]; omega)]
theorem midL_comm : ∀ {ss p a b : List Int}, MidL ss p a b → MidL ss p b a
  | [], [], [], [], _ => trivial
  | s :: ss, p :: ps, a :: as, b :: bs, h => ⟨by have := h.1; rwa [show b + a - 2 * p = a + b - 2 * p by omega], midL_comm h.2⟩
/-- cs lowers the number of p in both directions -/
def BestC (ss : List Int) (gs : List (List Int)) (p cs : List Int) : Prop := ∃ (n : Nat) (a b : List Int), (∃ i, Fst (toN ss) (tgB (ixs ss gs)) n (ix ss p) i ∧ cs = cll (toN ss) (ix ss p) (prx (toN ss) (ix ss p) i)) ∧ Seat ss p ∧ Seat ss a ∧ Seat ss b ∧ Seat ss cs ∧ mv fw p cs ss = b ∧ mv bw p cs ss = a ∧ Un (toN ss) (tgB (ixs ss gs)) n (ix ss a) = true ∧ Un (toN ss) (tgB (ixs ss gs)) n (ix ss b) = true ∧ lev ss gs p = some (n + 1)
theorem best_of {ss : List Int} {gs : List (List Int)} {n x a : Nat} (z : ∀ s ∈ ss, 1 ≤ s) (hx : x < Cs.cnt (toN ss)) (hf : Fst (toN ss) (tgB (ixs ss gs)) n x a)
    (h1 : Un (toN ss) (tgB (ixs ss gs)) (n + 1) x = true) (h2 : ∀ m, m < n + 1 → Un (toN ss) (tgB (ixs ss gs)) m x = false) (hl : lev ss gs (iS (toN ss) x) = some (n + 1)) : BestC ss gs (iS (toN ss) x) (cll (toN ss) x (prx (toN ss) x a)) := by
  have hi : ∀ {i}, i < Cs.cnt (toN ss) → Seat ss (iS (toN ss) i) ∧ ix ss (iS (toN ss) i) = i := fun {i} hi => by
    obtain ⟨d1, d2, _⟩ := stt_ok hi
    exact ⟨dg_seat z d1, by unfold ix iS; rw [toN_iN, d2]⟩
  obtain ⟨ha, hu1, hu2, _⟩ := id hf
  have hb := prx_lt hx ha
  obtain ⟨sx, ex⟩ := hi hx
  obtain ⟨sa, ea⟩ := hi ha
  obtain ⟨sb, eb⟩ := hi hb
  have hiN : iN (toN ss) = ss := iN_toN fun s hs => by have := z s hs; omega
  have hm : MidL ss (iS (toN ss) x) (iS (toN ss) a) (iS (toN ss) (prx (toN ss) x a)) := by
    refine (prt_mid z sx sa sb).mpr ?_
    unfold iS
    rw [toN_iN, toN_iN, toN_iN]
    exact (stt_ixo (prt_dg (stt_ok hx).1 (stt_ok ha).1)).symm
  have hm2 : MidL ss (iS (toN ss) x) (iS (toN ss) (prx (toN ss) x a)) (iS (toN ss) a) := midL_comm hm
  obtain ⟨c1, c2, c3⟩ := dcl_mid z sx sb sa hm2
  have hfs : ∃ i, Fst (toN ss) (tgB (ixs ss gs)) n (ix ss (iS (toN ss) x)) i ∧ cll (toN ss) x (prx (toN ss) x a) = cll (toN ss) (ix ss (iS (toN ss) x)) (prx (toN ss) (ix ss (iS (toN ss) x)) i) := ⟨a, by rw [ex]; exact hf, by rw [ex]⟩
  refine ⟨n, iS (toN ss) a, iS (toN ss) (prx (toN ss) x a), hfs, sx, sa, sb, ?_⟩
  rw [cll_dcl hx hb, hiN]
  exact ⟨c1, c2, c3, by rw [ea]; exact hu1, by rw [eb]; exact hu2, hl⟩
theorem BestC.uniq {ss : List Int} {gs : List (List Int)} {p cs cs' : List Int} (h : BestC ss gs p cs) (g : BestC ss gs p cs') : cs = cs' := by
  obtain ⟨n, _, _, ⟨i, f, e⟩, _, _, _, _, _, _, _, _, l⟩ := h
  obtain ⟨n', _, _, ⟨i', f', e'⟩, _, _, _, _, _, _, _, _, l'⟩ := g
  rw [l] at l'
  have : n = n' := by
    have := Option.some.inj l'
    omega
  subst this
  rw [e, e', f.uniq f']
end

/-! ### best_call, make_plan -/
section
variable {P : Program} {w : World} {K : PySem.W.Frag} {mg : Str → Option Value} {base : Heap}
/-- the answer of best_call, but for what the call is -/
def BestV (H : Hp) (ss : List Int) (gs : List (List Int)) (p : List Int) (v : V) : Prop := (v = .non ∧ (p ∈ gs ∨ ∀ n, Un (toN ss) (tgB (ixs ss gs)) n (ix ss p) = false)) ∨ ∃ (t : Addr) (cs : List Int), v = .ref t ∧ H t = some (.tup (cs.map V.int)) ∧ BestC ss gs p cs
def sp_best_call (K : PySem.W.Frag) (C : Addr) : Sp := fun vs H Q _ => ∃ (t tg p : Addr) (k : Bool) (ss ps : List Int) (gs : List (List Int)), vs = [.ref t, .ref tg, .ref p] ∧ TabAt C H t ss ∧ TgtAt k H tg gs ∧ Tab ss gs ∧ H p = some (.tup (ps.map V.int)) ∧ Seat ss ps ∧
  ∀ H' v, Same H H' → BestV H' ss gs ps v → Q v H'
/-- an entry of a plan: its seat, and a call -/
def EntAt (ss : List Int) (gs : List (List Int)) (H : Hp) (y : V) (ps : List Int) : Prop := ∃ (r a c : Addr) (cs : List Int), y = .ref r ∧ H r = some (.tup [.ref a, .ref c]) ∧ H a = some (.tup (ps.map V.int)) ∧ H c = some (.tup (cs.map V.int)) ∧ BestC ss gs ps cs
theorem EntAt.tp {ss : List Int} {gs : List (List Int)} {H H' : Hp} {y : V} {ps : List Int} (h : EntAt ss gs H y ps) (s : Tp H H') : EntAt ss gs H' y ps := by
  obtain ⟨r, a, c, cs, h1, h2, h3, h4, h5⟩ := h
  exact ⟨r, a, c, cs, h1, s _ _ h2, s _ _ h3, s _ _ h4, h5⟩
/-- what a comprehension with two clauses has made so far -/
def AccP {β : Type} (P : Hp → V → β → Prop) (H1 : Hp) (D : Addr) (bs : List β) (acc : List V) (H : Hp) : Prop := Same H1 H ∧ (∃ ys, H D = some (.lst ys)) ∧ acc.length = bs.length ∧ ∀ (j : Nat) y b, acc[j]? = some y → bs[j]? = some b → P H y b
theorem AccP.init {β : Type} {P : Hp → V → β → Prop} {H1 : Hp} {D : Addr} (hD : H1 D = none) : AccP P H1 D [] [] (upd H1 D (.lst [])) := ⟨Same.new hD, ⟨_, upd_same⟩, rfl, fun j y b h _ => by simp at h⟩
theorem AccP.put {β : Type} {P : Hp → V → β → Prop} {H1 : Hp} {D : Addr} {bs : List β} {acc : List V} {H : Hp} {l l0 : List V} (hP : ∀ {H H' : Hp} {y b}, P H y b → Tp H H' → P H' y b) (hD : H1 D = none) (h : AccP P H1 D bs acc H) (e : H D = some (.lst l0)) : AccP P H1 D bs acc (upd H D (.lst l)) := by
  obtain ⟨h1, _, h3, h4⟩ := h
  exact ⟨fun b o hb => by rw [upd_ne (ne_some hb hD)]; exact h1 _ _ hb, ⟨_, upd_same⟩, h3, fun j y b e1 e2 => hP (h4 j y b e1 e2) (Tp.put e (by simp))⟩
theorem AccP.snoc {β : Type} {P : Hp → V → β → Prop} {H1 : Hp} {D : Addr} {bs : List β} {acc : List V} {H H' : Hp} {y : V} {b : β} (hP : ∀ {H H' : Hp} {y b}, P H y b → Tp H H' → P H' y b) (h : AccP P H1 D bs acc H) (s : Same H H') (hy : P H' y b) : AccP P H1 D (bs ++ [b]) (acc ++ [y]) H' := by
  obtain ⟨h1, ⟨ys, h2⟩, h3, h4⟩ := h
  refine ⟨h1.trans s, ⟨ys, s _ _ h2⟩, by rw [List.length_append, List.length_append, h3]; rfl, fun j y' b' e1 e2 => ?_⟩
  by_cases hlt : j < acc.length
  · rw [List.getElem?_append_left hlt] at e1
    rw [List.getElem?_append_left (by omega)] at e2
    exact hP (h4 j y' b' e1 e2) (Tp.of s)
  · rw [List.getElem?_append_right (by omega)] at e1
    rw [List.getElem?_append_right (by omega), ← h3] at e2
    cases hk : j - acc.length with
    | zero =>
      rw [hk] at e1 e2
      simp only [List.getElem?_cons_zero, Option.some.injEq] at e1 e2
      subst e1 e2
      exact hy
    | succ m => rw [hk] at e1; simp at e1
theorem cut_fromL {xs : List V} {n : Nat} (h : n ≤ xs.length) : cutV xs (some (n : Int)) none = xs.drop n := by
  have e : HT.sIx xs.length 0 (some (n : Int)) = n := by
    show (if (n : Int) < 0 then ((n : Int) + (xs.length : Int)).toNat else min (n : Int).toNat xs.length) = n
    rw [if_neg (by omega)]
    omega
  have e0 : HT.sIx xs.length xs.length none = xs.length := rfl
  unfold cutV
  rw [e, e0, List.take_of_length_le (by rw [List.length_drop]; exact Nat.le_refl _)]
/-- a plan: its entries' seats -/
def PlanL (ss : List Int) (gs : List (List Int)) (H : Hp) (D : Addr) (L : List (List Int)) : Prop := ∃ ys : List V, H D = some (.lst ys) ∧ ys.length = L.length ∧ ∀ (i : Nat) y p, ys[i]? = some y → L[i]? = some p → EntAt ss gs H y p
theorem Rn_few {ss : List Nat} {U : Nat → Bool} {n : Nat} : (Rn ss U n).length ≤ Cs.cnt ss := by
  have := List.Nodup.length_le_of_subset (l₁ := Rn ss U n) (l₂ := List.range (Cs.cnt ss)) (Rn_asc.imp fun h => Nat.ne_of_lt h) fun n hn => List.mem_range.mpr (Rn_lt hn)
  rwa [List.length_range] at this
/-- the seats of the layers behind the first, up to i of them -/
def plnF (ss : List Nat) (U : Nat → Bool) (i : Nat) : List (List Int) := ((List.range i).map fun n => (Rn ss U (n + 1)).map (iS ss)).flatten
theorem plnF_succ (ss : List Nat) (U : Nat → Bool) (i : Nat) : plnF ss U (i + 1) = plnF ss U i ++ (Rn ss U (i + 1)).map (iS ss) := by
  unfold plnF
  rw [List.range_succ, List.map_append, List.flatten_append]
  simp
theorem plnF_few (ss : List Nat) (U : Nat → Bool) : ∀ i, (plnF ss U i).length ≤ Cs.cnt ss * i
  | 0 => by simp [plnF]
  | i + 1 => by
    rw [plnF_succ, List.length_append, List.length_map]
    have := plnF_few ss U i
    have := Rn_few (ss := ss) (U := U) (n := i + 1)
    rw [Nat.mul_succ]
    omega
theorem plnF_lay {ss : List Int} {gs : List (List Int)} {d : Nat} (h : Top (toN ss) (tgB (ixs ss gs)) d) : plnF (toN ss) (tgB (ixs ss gs)) d = ((layI ss gs).drop 1).flatten := by
  unfold plnF layI
  rw [← lyr_of h.ne h.cl h.few, List.range_succ_eq_map, List.map_cons, List.map_cons, List.drop_one, List.tail_cons, List.map_map, List.map_map]
  rfl
def sp_make_plan (K : PySem.W.Frag) (C : Addr) : Sp := fun vs H Q _ => ∃ (t tg : Addr) (k : Bool) (ss : List Int) (gs : List (List Int)), vs = [.ref t, .ref tg] ∧ TabAt C H t ss ∧ TgtAt k H tg gs ∧ Tab ss gs ∧ ∀ H' D, Same H H' → H D = none → PlanL ss gs H' D ((layI ss gs).drop 1).flatten → (∃ d, Top (toN ss) (tgB (ixs ss gs)) d) → Q (.ref D) H'
theorem ok_make_plan (T : Tx K mg) : FnOk P w K mg base CX0 7 T.f_make_plan T.fd_make_plan ["table", "targets"] (sp_make_plan K T.c_Table) := by
  refine T.F_make_plan.ok sc_make_plan (fun vs H Q E h => ?_) (fun cdv A outer s H vs Q E hr h => ?_)
  · obtain ⟨t, tg, k, ss, gs, rfl, _⟩ := h; rfl
  · obtain ⟨t, tg, k, ss, gs, rfl, hT, hG, G, q⟩ := h
    refine ⟨_, (pss_cons (ps_set (i := 2) sc_make_plan.nd rfl (Or.inr rfl) (pe_call (ok_spread_for_all T) (hr.mono (by decide)) (by rfl) T.g_spread_for_all T.F_spread_for_all.kp T.b_spread_for_all .nil pass0 (pa_cons (pv 0) (pa_cons (pv 1) pa_nil))))
      (pss_cons (ps_set (i := 3) sc_make_plan.nd rfl (Or.inl rfl) (pe_meth0 (pv 2) T.cl_Spread T.m_Spread_all_rows (ok_Spread_all_rows T) (hr.mono (by decide)) T.b_Spread_all_rows .nil pass0))
      (pss_cons (ps_set (i := 4) sc_make_plan.nd rfl (Or.inr rfl) (pe_call (ok_all_seats T) (hr.mono (by decide)) (by rfl) T.g_all_seats T.F_all_seats.kp T.b_all_seats .nil pass0 (pa_cons (pe_meth0 (pv 0) T.cl_Table T.m_Table_sizes (ok_Table_sizes T) (hr.mono (by decide)) T.b_Table_sizes .nil pass0) pa_nil)))
      (pss_one (ps_ret (pe_lc2 (own := [("row", 5), ("at", 6)]) (g := (gName 5)) (tt := tYes) (vs1 := [6]) (g1 := (gName 6)) (tt1 := tYes) rfl sc_make_plan.nd (pi_seqH (pe_slice sl_list (pv 3) (po_some pe_int) po_none)) (blkOk_by (own := [("row", 5), ("at", 6)]) (N := N_make_plan) (sc := defScope d_make_plan) (by decide +kernel)) (by decide) (fun _ _ _ _ _ => (pg_name (i := 5) sc_make_plan.nd rfl (Or.inl rfl))) (fun _ _ _ _ _ => pts_nil) (fun _ _ _ _ _ => (pi_seqH (pv 5))) (fun _ _ _ _ _ => (pg_name (i := 6) sc_make_plan.nd rfl (Or.inl rfl))) (fun _ _ _ _ _ => pts_nil) (fun _ _ _ _ _ => (pe_tup (pa_cons (pe_ix ix_lH (pv 4) (pv 6) (fun _ _ => rfl)) (pa_cons (pe_meth (pv 2) T.cl_Spread T.m_Spread_call_from (ok_Spread_call_from T) (hr.mono (by decide)) T.b_Spread_call_from .nil pass0 (pa_cons (pv 6) pa_nil)) pa_nil)))))))))), ?_⟩
    have smS := smS_of G.z (by have := G.few; omega)
    have hss := sz_nn G.z
    have hcn := cnt_prod G.z.pos
    have hc3 : Cs.cnt (toN ss) ≤ 300 := by have := G.few; omega
    walk_at "rd"
    refine ⟨t, tg, k, ss, gs, rfl, hT, hG, G, fun H1 sp g nb rw' st s1 n1 n2 n3 n4 hS => ?_⟩
    obtain ⟨dx, h5, h6, h7⟩ : ∃ dx fs, H1 sp = some (.ins T.c_Spread dx fs) ∧ fs.lookup (Str.ofString "all_rows") = none := by
      obtain ⟨dx, wt, rs, ts, k, m, u, D⟩ := id hS
      exact ⟨dx, _, D.self, rfl⟩
    refine ⟨sp, rfl, dx, h5, h6, h7, sp, g, nb, rw', st, toN ss, tgB (ixs ss gs), rfl, hS, smS, fun H2 D d s2 hL hTop hS2 => ?_⟩
    have s02 : Same H H2 := fun b o e => by
      refine s2 b o ?_ (s1 _ _ e)
      simp only [Fr4, List.mem_cons, List.not_mem_nil, or_false, not_or]
      exact ⟨ne_some e n1, ne_some e n2, ne_some e n3, ne_some e n4⟩
    have hT2 := hT.same s02
    obtain ⟨dxt, z0, t1, t2⟩ := id hT2
    have e : (("sizes" : Str) == ("_sizes" : Str)) = false := by decide +kernel
    refine ⟨_, _, t1, by simp [List.lookup, e], t, ss, rfl, hT2, fun z hz => ⟨z, false, toN ss, rfl, by show _ = _; rw [nV_iN, hss]; exact hz, smS, by omega, fun H3 L s3 hL0 hLT => ?_⟩⟩
    obtain ⟨rs, e1, hA1⟩ := hL.same s3
    have hrl : rs.length = d + 1 := by rw [hA1.1, List.length_map, List.length_range]
    have few := hTop.few
    have s03 := s02.trans s3
    obtain ⟨ls, e3, hA3⟩ := id hLT
    have hls : ls.length = Cs.cnt (toN ss) := by rw [hA3.1, List.length_map, List.length_range]
    have hS3 := spAt_same hS2 s3
    refine ⟨D, rfl, _, .inl (.inl e1), fun p hp J W => ?_⟩
    have ecut : cutV (rs.map V.ref) (some 1) none = (rs.drop 1).map V.ref := by
      rw [show (some (1 : Int)) = some ((1 : Nat) : Int) from rfl, cut_fromL (by rw [List.length_map]; omega), List.map_drop]
    rw [ecut] at W ⊢
    have sp4 := Same.new hp (o := .lst ((rs.drop 1).map V.ref))
    have ep : (upd H3 p (.lst ((rs.drop 1).map V.ref))) p = some (.lst ((rs.drop 1).map V.ref)) := upd_same
    have hpl := hL0
    generalize upd H3 p (HO.lst ((rs.drop 1).map V.ref)) = H4 at sp4 ep ⊢
    have s04 := s03.trans sp4
    have hS4 := spAt_same hS3 sp4
    have hrd : ((rs.drop 1).map V.ref).length = d := by rw [List.length_map, List.length_drop, hrl]; omega
    rw [hrd] at W
    refine lc2_gen W (fun D i acc H => AccP (EntAt ss gs) H4 D (plnF (toN ss) (tgB (ixs ss gs)) i) acc H) (fun D hD => .init hD) (fun D i acc H hD hi h e => h.1 _ _ ep) ?_ ?_
    · rintro D1 i acc x H5 H6 Nx hD1 hi hI e5 ⟨rfl, hx⟩ hN
      rw [List.getElem?_map, List.getElem?_drop, Option.map_eq_some_iff] at hx
      obtain ⟨a, ha, rfl⟩ := hx
      have ea := sp4 _ _ (hA1.2 (1 + i) a _ ha (by rw [List.getElem?_map, List.getElem?_range (by omega)]; rfl))
      rw [← nV_iN] at ea
      have ea5 := hI.1 _ _ ea
      have nad : a ≠ D1 := ne_some ea hD1
      walk_at "rd"
      refine .inl ⟨_, ea5, fun J2 W2 => ?_⟩
      have hRl : (Rn (toN ss) (tgB (ixs ss gs)) (1 + i)).length ≤ 300 := Nat.le_trans Rn_few hc3
      rw [show 1 + i = i + 1 by omega] at ea ea5 W2 hRl
      refine lc1_gen W2 (fun j acc H => AccP (EntAt ss gs) H4 D1 (plnF (toN ss) (tgB (ixs ss gs)) i ++ ((Rn (toN ss) (tgB (ixs ss gs)) (i + 1)).take j).map (iS (toN ss))) acc H) ⟨acc, by simpa using hI, e5⟩ (fun j acc H hj h e => h.1 _ _ ea) (fun j acc H l l0 h e => h.put EntAt.tp hD1 e) (fun j acc H h => ?_) ?_ ?_
      · obtain ⟨_, _, h3, _⟩ := h
        rw [h3, List.length_append, List.length_map, List.length_take]
        have h4 := plnF_few (toN ss) (tgB (ixs ss gs)) i
        have h5 : Cs.cnt (toN ss) * i ≤ 300 * 300 := Nat.mul_le_mul hc3 (by omega)
        exact Nat.lt_of_le_of_lt (by omega : _ ≤ 100000) (by decide)
      · rintro j acc2 y H7 H8 Qy hj hI2 e7 ⟨rfl, hy⟩ hq2
        obtain ⟨x, hx2, rfl⟩ := nV_get hy
        have hxm := List.mem_of_getElem? hx2
        have hic := Rn_lt hxm
        have hli := List.getElem?_eq_getElem (by omega : x < ls.length)
        have es := sp4 _ _ (hA3.2 x _ (iS (toN ss) x) hli (by rw [List.getElem?_map, List.getElem?_range hic]; rfl))
        obtain ⟨m1, m2, m3⟩ := mem_Rn.mp hxm
        have hUd : Un (toN ss) (tgB (ixs ss gs)) d x = true := un_le hic (by omega) m2
        have hS7 := spAt_same hS4 hI2.1
        walk_at "rd"
        obtain ⟨dx7, fs7, b1, b2⟩ : ∃ dx fs, H8 sp = some (.ins T.c_Spread dx fs) ∧ fs.lookup (Str.ofString "call_from") = none := by
          obtain ⟨dx, wt, rs, ts, k, m, u, D⟩ := id hS7
          exact ⟨dx, _, D.self, rfl⟩
        refine ⟨_, hI2.1 _ _ (sp4 _ _ e3), V.ref ls[x], atI_nat (by rw [List.getElem?_map, hli]; rfl), dx7, fs7, b1, b2, sp, g, nb, rw', st, toN ss, tgB (ixs ss gs), d, true, x, rfl, hS7, smS, hic, fun H9 d' cl' v _ _ hv hsame => ?_⟩
        have s9 := hsame hUd
        rcases hv with ⟨_, h | h⟩ | ⟨n, t', i2, rfl, h1, hf2, hu2, hv2⟩
        · have := m3 0 (by omega)
          rw [show Un (toN ss) (tgB (ixs ss gs)) 0 x = tgB (ixs ss gs) x from rfl, h] at this
          cases this
        · rw [h (i + 1)] at m2
          cases m2
        · intro r hr
          have sr := Same.new hr (o := .tup [V.ref ls[x], V.ref t'])
          refine hq2 _ _ (sr _ _ (s9 _ _ e7)) ?_
          have hy := AccP.snoc (P := EntAt ss gs) (y := V.ref r) (b := iS (toN ss) x) EntAt.tp hI2 (s9.trans sr) ⟨r, ls[x], t', _, rfl, upd_same, sr _ _ (s9 _ _ (hI2.1 _ _ es)), sr _ _ h1, best_of G.z.pos hic hf2 hu2 hv2 (by
            have e1 : ix ss (iS (toN ss) x) = x := by unfold ix iS; rw [toN_iN, (stt_ok hic).2.1]
            show lvl _ _ (ix ss (iS (toN ss) x)) = _
            rw [e1]
            exact (lvl_some hic).mpr ⟨hu2, hv2⟩)⟩
          rw [List.take_add_one, hx2, List.map_append, ← List.append_assoc]
          exact hy
      · intro acc2 H7 hI2 e7
        refine hN acc2 H7 e7 ?_
        rw [plnF_succ]
        rw [nV_len, List.take_length] at hI2
        exact hI2
    · intro D1 acc H5 hD1 hI e5
      refine q H5 D1 (s04.trans hI.1) (none_of s04 hD1) ?_ ⟨d, hTop⟩
      rw [← plnF_lay hTop]
      exact ⟨acc, e5, hI.2.2.1, hI.2.2.2⟩
end

/-! ### plans and their depths -/
section
variable {P : Program} {w : World} {K : PySem.W.Frag} {mg : Str → Option Value} {base : Heap}
def sp_depth_of (K : PySem.W.Frag) : Sp := fun vs H Q _ => ∃ (z d y a c : Addr) (ss ps cs : List Int) (kvs : List (List Key × V)) (m1 m2 : Nat), vs = [.ref z, .ref d, .ref y] ∧ H z = some (.tup (ss.map V.int)) ∧ Sz ss ∧ H d = some (.dT kvs) ∧ H y = some (.tup [.ref a, .ref c]) ∧ H a = some (.tup (ps.map V.int)) ∧ H c = some (.tup (cs.map V.int)) ∧
  Seat ss ps ∧ cs.length = ss.length ∧ valV kvs (kS ps) = none ∧ valV kvs (kS (mv fw ps cs ss)) = some (.int (m1 : Nat)) ∧ valV kvs (kS (mv bw ps cs ss)) = some (.int (m2 : Nat)) ∧ ∀ H', Same H H' → Q (.int (1 + max m1 m2 : Nat)) H'
theorem ok_depth_of (T : Tx K mg) : FnOk P w K mg base CX0 2 T.f_depth_of T.fd_depth_of ["sizes", "depths", "entry"] (sp_depth_of K) := by
  refine T.F_depth_of.ok sc_depth_of (fun vs H Q E h => ?_) (fun cdv A outer s H vs Q E hr h => ?_)
  · obtain ⟨z, d, y, a, c, ss, ps, cs, kvs, m1, m2, rfl, _⟩ := h; rfl
  · obtain ⟨z, d, y, a, c, ss, ps, cs, kvs, m1, m2, rfl, hz, zz, hd, hy, ha, hc, hS, hcl, hn, h1, h2, q⟩ := h
    refine ⟨_, (C8.pss_cut (ps_if (PW.pt (pw_or (pt_not (pt_val (pe_callB (call_isIK (K := K) rfl) (by rfl) T.n_isinstance (by decide +kernel) (pa_cons (pv 2) (pa_cons (pe_bltn (v := .ty "tuple") (by rfl) T.n_tuple (by decide +kernel) rfl) pa_nil))))) (pw_or1 (pt_cmpR op_ne (pe_callB len_H (by rfl) T.n_len PySem.boot_len (pa_cons (pv 2) pa_nil)) pe_int (nomark _))))) (pss_one (ps_ret pe_non)) pss_nil)
      (C8.pss_cut (ps_asg (pv 2) (pg_tupH (n := 2) rfl (pgs_cons (pg_name (i := 3) sc_depth_of.nd rfl (Or.inl rfl)) (pgs_cons (pg_name (i := 4) sc_depth_of.nd rfl (Or.inl rfl)) pgs_nil))))
      (C8.pss_cut (ps_if (PW.pt (pw_or (pt_not (pt_val (pe_call (ok_is_seat T) (hr.mono (by decide)) (by rfl) T.g_is_seat T.F_is_seat.kp T.b_is_seat .nil pass0 (pa_cons (pv 0) (pa_cons (pv 3) pa_nil))))) (pw_or (pt_not (pt_val (pe_call (ok_is_call T) (hr.mono (by decide)) (by rfl) T.g_is_call T.F_is_call.kp T.b_is_call .nil pass0 (pa_cons (pv 0) (pa_cons (pv 4) pa_nil))))) (pw_or1 (pt_cmp (pc_din (lt_w hr.units1) (pv 3) (pv 1)) rfl))))) (pss_one (ps_ret pe_non)) pss_nil)
      (C8.pss_cut (ps_asg (pe_call (ok_both_moves T) (hr.mono (by decide)) (by rfl) T.g_both_moves T.F_both_moves.kp T.b_both_moves .nil pass0 (pa_cons (pv 0) (pa_cons (pv 3) (pa_cons (pv 4) pa_nil)))) (pg_tupH (n := 2) rfl (pgs_cons (pg_name (i := 5) sc_depth_of.nd rfl (Or.inl rfl)) (pgs_cons (pg_name (i := 6) sc_depth_of.nd rfl (Or.inl rfl)) pgs_nil))))
      (C8.pss_cut (ps_set (i := 7) sc_depth_of.nd rfl (Or.inl rfl) (pe_dget1 (lt_w hr.units1) (pv 1) (pv 5) ⟨by rfl, by rfl, by rfl, by rfl⟩))
      (C8.pss_cut (ps_set (i := 8) sc_depth_of.nd rfl (Or.inl rfl) (pe_dget1 (lt_w hr.units1) (pv 1) (pv 6) ⟨by rfl, by rfl, by rfl, by rfl⟩))
      (C8.pss_cut (ps_if (PW.pt (pw_or (pt_cmpR op_isN (pv 7) pe_non (nomark _)) (pw_or1 (pt_cmpR op_isN (pv 8) pe_non (nomark _))))) (pss_one (ps_ret pe_non)) pss_nil)
      (pss_one (ps_ret (pe_op op_add pe_int (pe_callB (call_max2 rfl) (by rfl) T.n_max (by decide +kernel) (pa_cons (pv 7) (pa_cons (pv 8) pa_nil))))))))))))), ?_⟩
    refine ⟨fun σ H' => σ = [some (V.ref z), some (V.ref d), some (V.ref y), none, none, none, none, none, none] ∧ H' = H, ?_, ?_⟩
    · walk_at "rd"
      refine ⟨true, isI_ty (.base (.tup hy)) (by decide +kernel), ?_⟩
      rw [if_neg (by decide)]
      refine .inr ⟨_, hy, ?_⟩
      rw [if_neg (by simp)]
      trivial
    rintro σ1 H1 ⟨rfl, rfl⟩
    refine ⟨fun σ H' => σ = [some (V.ref z), some (V.ref d), some (V.ref y), some (V.ref a), some (V.ref c), none, none, none, none] ∧ H' = H1, ?_, ?_⟩
    · walk_at "rd"
      exact ⟨_, hy, rfl, _, _, rfl, _, _, rfl, rfl, rfl, rfl⟩
    rintro σ2 H2 ⟨rfl, rfl⟩
    refine ⟨fun σ H' => σ = [some (V.ref z), some (V.ref d), some (V.ref y), some (V.ref a), some (V.ref c), none, none, none, none] ∧ Same H2 H', ?_, ?_⟩
    · walk_at "rd"
      refine ⟨false, z, ss, _, true, rfl, hz, hS.b zz ha, fun H3 s3 => ⟨true, rfl, ?_⟩⟩
      rw [if_neg (by decide)]
      refine ⟨false, z, _, _, true, rfl, s3 _ _ hz, by rw [List.length_map]; exact call_b hcl zz.hi (s3 _ _ hc), fun H4 s4 => ⟨true, rfl, ?_⟩⟩
      rw [if_neg (by decide)]
      refine ⟨_, DGet.t (k := kS ps) (s4 _ _ (s3 _ _ hd)) (by rw [kS_kV]; exact s4 _ _ (s3 _ _ ha)), ?_⟩
      rw [hn, if_neg (by decide)]
      exact s3.trans s4
    rintro σ3 H3 ⟨rfl, s3⟩
    refine ⟨fun σ H' => ∃ f b : Addr, σ = [some (V.ref z), some (V.ref d), some (V.ref y), some (V.ref a), some (V.ref c), some (V.ref f), some (V.ref b), none, none] ∧ Same H2 H' ∧ H' f = some (.tup ((mv fw ps cs ss).map V.int)) ∧ H' b = some (.tup ((mv bw ps cs ss).map V.int)), ?_, ?_⟩
    · walk_at "rd"
      refine ⟨false, z, a, c, ss, ps, cs, rfl, s3 _ _ hz, s3 _ _ ha, s3 _ _ hc, by rw [hS.len, hcl], hcl, zz.hi, fun n hn => by have := zz.pos n hn; omega, fun H4 r f b s4 hr hf hb => ⟨r, rfl, _, hr, rfl, _, _, rfl, _, _, rfl, rfl, f, rfl, b, rfl, s3.trans s4, hf, hb⟩⟩
    rintro σ4 H4 ⟨f, b, rfl, s4, hf, hb⟩
    refine ⟨fun σ H' => σ = [some (V.ref z), some (V.ref d), some (V.ref y), some (V.ref a), some (V.ref c), some (V.ref f), some (V.ref b), some (V.int (m1 : Nat)), none] ∧ H' = H4, ?_, ?_⟩
    · walk_at "rd"
      have d4 := s4 _ _ hd
      exact ⟨.inr ⟨_, .inl d4⟩, _, DGet.t (k := kS (mv fw ps cs ss)) d4 (by rw [kS_kV]; exact hf), by rw [h1]; rfl⟩
    rintro σ5 H5 ⟨rfl, rfl⟩
    refine ⟨fun σ H' => σ = [some (V.ref z), some (V.ref d), some (V.ref y), some (V.ref a), some (V.ref c), some (V.ref f), some (V.ref b), some (V.int (m1 : Nat)), some (V.int (m2 : Nat))] ∧ H' = H5, ?_, ?_⟩
    · walk_at "rd"
      have d4 := s4 _ _ hd
      exact ⟨.inr ⟨_, .inl d4⟩, _, DGet.t (k := kS (mv bw ps cs ss)) d4 (by rw [kS_kV]; exact hb), by rw [h2]; rfl⟩
    rintro σ6 H6 ⟨rfl, rfl⟩
    refine ⟨fun σ H' => σ = [some (V.ref z), some (V.ref d), some (V.ref y), some (V.ref a), some (V.ref c), some (V.ref f), some (V.ref b), some (V.int (m1 : Nat)), some (V.int (m2 : Nat))] ∧ H' = H6, ?_, ?_⟩
    · walk_at "rd"
    rintro σ7 H7 ⟨rfl, rfl⟩
    walk_at "rd"
    have e : (1 + if ((m1 : Nat) : Int) < ((m2 : Nat) : Int) then ((m2 : Nat) : Int) else ((m1 : Nat) : Int)) = ((1 + max m1 m2 : Nat) : Int) := by
      split <;> omega
    rw [e]
    exact q _ s4
theorem un_lev {ss : List Int} {gs : List (List Int)} {p : List Int} (hp : Seat ss p) : ∀ {n : Nat}, Un (toN ss) (tgB (ixs ss gs)) n (ix ss p) = true → ∃ m, m ≤ n ∧ lev ss gs p = some m
  | 0, k => ⟨0, Nat.le_refl _, (lvl_some (ix_lt hp)).mpr ⟨k, fun m hm => absurd hm (Nat.not_lt_zero _)⟩⟩
  | n + 1, k => by
    by_cases c : Un (toN ss) (tgB (ixs ss gs)) n (ix ss p) = true
    · obtain ⟨m, h1, h2⟩ := un_lev hp c
      exact ⟨m, by omega, h2⟩
    · refine ⟨n + 1, Nat.le_refl _, (lvl_some (ix_lt hp)).mpr ⟨k, fun m hm => ?_⟩⟩
      cases e : Un (toN ss) (tgB (ixs ss gs)) m (ix ss p) with
      | false => rfl
      | true => exact absurd (un_le (ix_lt hp) (by omega) e) c
theorem mid_mv2 : ∀ {ss p c : List Int}, Seat ss p → Seat ss c → MidL ss p (mv fw p c ss) (mv bw p c ss)
  | [], [], [], _, _ => trivial
  | s :: ss, p :: ps, c :: cs, h1, h2 => by
    refine ⟨?_, mid_mv2 (seat_cons h1).2 (seat_cons h2).2⟩
    obtain ⟨k1, e1⟩ := dvd_smod (p + c) s
    obtain ⟨k2, e2⟩ := dvd_smod (p - c) s
    refine ⟨k1 + k2, ?_⟩
    show (p + c) % s + (p - c) % s - 2 * p = _
    rw [Int.mul_add, ← e1, ← e2]
    omega
  | [], _ :: _, _, h, _ => by have := h.len; simp at this
  | [], [], _ :: _, _, h => by have := h.len; simp at this
  | _ :: _, [], _, h, _ => by have := h.len; simp at this
  | _ :: _, _ :: _, [], _, h => by have := h.len; simp at this
/-- a best call's moves: the greater of their numbers is one less -/
theorem best_max {ss : List Int} {gs : List (List Int)} {p cs : List Int} (z : ∀ s ∈ ss, 1 ≤ s) (h : BestC ss gs p cs) : ∃ n m1 m2, lev ss gs p = some (n + 1) ∧ Seat ss (mv fw p cs ss) ∧ Seat ss (mv bw p cs ss) ∧ lev ss gs (mv fw p cs ss) = some m1 ∧ lev ss gs (mv bw p cs ss) = some m2 ∧ 1 + max m1 m2 = n + 1 ∧
    Un (toN ss) (tgB (ixs ss gs)) n (ix ss (mv fw p cs ss)) = true ∧ Un (toN ss) (tgB (ixs ss gs)) n (ix ss (mv bw p cs ss)) = true := by
  obtain ⟨n, a, b, _, sp, sa, sb, sc, e1, e2, u1, u2, l⟩ := h
  rw [← e2] at u1 sa
  rw [← e1] at u2 sb
  obtain ⟨m1, h1, l1⟩ := un_lev sb u2
  obtain ⟨m2, h2, l2⟩ := un_lev sa u1
  refine ⟨n, m1, m2, l, sb, sa, l1, l2, ?_, u2, u1⟩
  have k1 := ((lvl_some (ix_lt sb)).mp l1).1
  have k2 := ((lvl_some (ix_lt sa)).mp l2).1
  have kp := ((lvl_some (ix_lt sp)).mp l).2
  have h3 : Un (toN ss) (tgB (ixs ss gs)) (max m1 m2 + 1) (ix ss p) = true := (un_mid z sp).mpr ⟨_, _, sb, sa, mid_mv2 sp sc, un_le (ix_lt sb) (by omega) k1, un_le (ix_lt sa) (by omega) k2⟩
  apply Classical.byContradiction
  intro hc
  rw [kp (max m1 m2 + 1) (by omega)] at h3
  cases h3
def PlanR (ss : List Int) (gs : List (List Int)) (H : Hp) (y : V) (p : List Int) : Prop := ∃ (r a : Addr) (n : Nat), y = .ref r ∧ H r = some (.tup [.ref a, .int (n : Nat)]) ∧ H a = some (.tup (p.map V.int)) ∧ lev ss gs p = some n
theorem PlanR.tp {ss : List Int} {gs : List (List Int)} {H H' : Hp} {y : V} {p : List Int} (h : PlanR ss gs H y p) (s : Tp H H') : PlanR ss gs H' y p := by
  obtain ⟨r, a, n, h1, h2, h3, h4⟩ := h
  exact ⟨r, a, n, h1, s _ _ h2, s _ _ h3, h4⟩
/-- every seat of a lower number stands ahead of p -/
def Ord (ss : List Int) (gs : List (List Int)) (L : List (List Int)) : Prop := ∀ (i : Nat) p n, L[i]? = some p → lev ss gs p = some (n + 1) → ∀ q, Seat ss q → Un (toN ss) (tgB (ixs ss gs)) n (ix ss q) = true → q ∈ gs ∨ q ∈ L.take i
def sp_plan_depths (K : PySem.W.Frag) (C : Addr) : Sp := fun vs H Q _ => ∃ (t tg pl : Addr) (k : Bool) (ss : List Int) (gs L : List (List Int)), vs = [.ref t, .ref tg, .ref pl] ∧ TabAt C H t ss ∧ TgtAt k H tg gs ∧ Tab ss gs ∧ PlanL ss gs H pl L ∧ L.Nodup ∧ (∀ p ∈ L, p ∉ gs) ∧ L.length ≤ 1000 ∧ Ord ss gs L ∧
  ∀ H' D ys, Same H H' → H D = none → H' D = some (.lst ys) → ys.length = L.length → (∀ (i : Nat) y p, ys[i]? = some y → L[i]? = some p → PlanR ss gs H' y p) → Q (.ref D) H'
theorem ok_plan_depths (T : Tx K mg) : FnOk P w K mg base CX0 4 T.f_plan_depths T.fd_plan_depths ["table", "targets", "plan"] (sp_plan_depths K T.c_Table) := by
  refine T.F_plan_depths.ok sc_plan_depths (fun vs H Q E h => ?_) (fun cdv A outer s H vs Q E hr h => ?_)
  · obtain ⟨t, tg, pl, k, ss, gs, L, rfl, _⟩ := h; rfl
  · obtain ⟨t, tg, pl, k, ss, gs, L, rfl, hT, hG, G, hP, hnd, hng, hfew, hO, q⟩ := h
    refine ⟨_, (C8.pss_cut (ps_set (i := 3) sc_plan_depths.nd rfl (Or.inl rfl) (pe_call (ok_sizes_of T) (hr.mono (by decide)) (by rfl) T.g_sizes_of T.F_sizes_of.kp T.b_sizes_of .nil pass0 (pa_cons (pv 0) pa_nil)))
      (C8.pss_cut (ps_expr (pe_call (ok_require_targets T) (hr.mono (by decide)) (by rfl) T.g_require_targets T.F_require_targets.kp T.b_require_targets .nil pass0 (pa_cons (pv 3) (pa_cons (pv 1) pa_nil))))
      (C8.pss_cut (ps_if (pt_not (pt_val (pe_callB (call_isIK (K := K) rfl) (by rfl) T.n_isinstance (by decide +kernel) (pa_cons (pv 2) (pa_cons (pe_bltn (v := .ty "list") (by rfl) T.n_list (by decide +kernel) rfl) pa_nil))))) (pss_one ps_never) pss_nil)
      (C8.pss_cut (ps_setDcT (i := 4) (own := [("target", 9)]) (g := (gName 9)) rfl (lt_w hr.units1) sc_plan_depths.nd rfl rfl (sw_dict rfl rfl rfl (by decide +kernel)) (pi_seqH (pv 1)) (blkOk_by (own := [("target", 9)]) (N := N_plan_depths) (sc := defScope d_plan_depths) (by decide +kernel)) (fun _ _ _ _ _ => (pg_name (i := 9) sc_plan_depths.nd rfl (Or.inl rfl))) (fun _ _ _ _ _ => (pv 9)) (fun _ _ _ _ _ => pe_int))
      (C8.pss_cut (ps_set (i := 5) sc_plan_depths.nd rfl (Or.inl rfl) (pe_lst pa_nil))
      (C8.pss_cut (ps_for PassesOwn.never rfl (pi_enH (by rfl) T.n_enumerate (pa_cons (pv 2) pa_nil)) (pg_tupH (n := 2) rfl (pgs_cons (pg_name (i := 6) sc_plan_depths.nd rfl (Or.inl rfl)) (pgs_cons (pg_name (i := 7) sc_plan_depths.nd rfl (Or.inl rfl)) pgs_nil)))
        (C8.pss_cut (ps_set (i := 8) sc_plan_depths.nd rfl (Or.inl rfl) (pe_call (ok_depth_of T) (hr.mono (by decide)) (by rfl) T.g_depth_of T.F_depth_of.kp T.b_depth_of .nil pass0 (pa_cons (pv 3) (pa_cons (pv 4) (pa_cons (pv 7) pa_nil)))))
        (C8.pss_cut (ps_if (pt_cmpR op_isN (pv 8) pe_non (nomark _)) (pss_one ps_never) pss_nil)
        (C8.pss_cut (ps_dput (lt_w hr.units1) (pv 4) (pe_ix ix_tH (pv 7) pe_int (fun _ _ => rfl)) (pv 8) rfl)
        (pss_one (ps_expr (pe_append (pv 5) (pa_cons (pe_tup (pa_cons (pe_ix ix_tH (pv 7) pe_int (fun _ _ => rfl)) (pa_cons (pv 8) pa_nil))) pa_nil))))))))
      (pss_one (ps_ret (pv 5))))))))), ?_⟩
    refine ⟨fun σ H' => ∃ z : Addr, σ = [some (V.ref t), some (V.ref tg), some (V.ref pl), some (V.ref z), none, none, none, none, none, none] ∧ Same H H' ∧ H' z = some (.tup (ss.map V.int)), ?_, ?_⟩
    · walk_at "rd"
      exact ⟨t, ss, rfl, hT, fun z hz => ⟨z, rfl, Same.refl _, hz⟩⟩
    rintro σ1 H1 ⟨z, rfl, s1, hz⟩
    refine ⟨fun σ H' => σ = [some (V.ref t), some (V.ref tg), some (V.ref pl), some (V.ref z), none, none, none, none, none, none] ∧ Same H1 H', ?_, ?_⟩
    · walk_at "rd"
      exact ⟨false, k, z, tg, ss, gs, rfl, hz, hG.same s1, G.tg.ne, G.tg.nd, G.tg.few, G.tg.ok, G.z, fun H2 s2 => s2⟩
    rintro σ2 H2 ⟨rfl, s2⟩
    refine ⟨fun σ H' => σ = [some (V.ref t), some (V.ref tg), some (V.ref pl), some (V.ref z), none, none, none, none, none, none] ∧ Same H1 H', ?_, ?_⟩
    · walk_at "rd"
      obtain ⟨ys, e, _⟩ := id hP
      refine ⟨true, isI_lst (s2 _ _ (s1 _ _ e)), ?_⟩
      rw [if_neg (by decide)]
      exact s2
    rintro σ3 H3 ⟨rfl, s3⟩
    refine ⟨fun σ H' => ∃ (d : Addr) (kvs : List (List Key × V)), σ = [some (V.ref t), some (V.ref tg), some (V.ref pl), some (V.ref z), some (V.ref d), none, none, none, none, none] ∧ Same H1 H' ∧ H1 d = none ∧ H' d = some (.dT kvs) ∧ kvs.length ≤ 100 ∧ ∀ p, valV kvs (kS p) = if p ∈ gs then some (V.int 0) else none, ?_, ?_⟩
    · walk_at "rd"
      have hG3 := hG.same (s1.trans s3)
      obtain ⟨as, eg, hA⟩ := hG3
      have key : ∀ (xs : List V) (J : It), xs = as.map V.ref → Walk J xs.length (fun H => Sqh k H tg xs) (YAt xs) → ∀ d, H3 d = none → ∃ W : Nat → Nat → Hp → Prop, (∃ m, W 0 m (upd H3 d (HO.dT []))) ∧ ∀ i m G2, W i m G2 →
          (J.stop i G2 ∧ Same H1 G2 ∧ H1 d = none ∧ ∃ x, G2 d = some (HO.dT x) ∧ x.length ≤ 100 ∧ ∀ p, valV x (kS p) = if p ∈ gs then some (V.int 0) else none) ∨
          J.go i G2 ∧ ∃ Nx : Hp → Prop, (∀ G3, Nx G3 → ∃ m', m' < m ∧ W (i + 1) m' G3) ∧ ∀ x G3, J.yld i G2 x G3 → ∃ b, x = V.ref b ∧ ∃ old ks, G3 b = some (HO.tup (List.map kV ks)) ∧ G3 d = some (HO.dT old) ∧ old.length < sizeLine ∧ Nx (upd G3 d (HO.dT (putK old ks (V.int 0)))) := by
        rintro xs J rfl W d hd
        have hn : (as.map V.ref).length = gs.length := by rw [List.length_map, hA.1]
        refine ⟨fun i m G => m = gs.length - i ∧ i ≤ gs.length ∧ Same H3 G ∧ ∃ x, G d = some (.dT x) ∧ x.length ≤ i ∧ ∀ p, valV x (kS p) = if p ∈ gs.take i then some (V.int 0) else none, ⟨_, rfl, Nat.zero_le _, Same.new hd, [], upd_same, Nat.le_refl _, fun p => by simp [valV]⟩, ?_⟩
        rintro i m G2 ⟨rfl, hi, sG, x, ex, hxl, hxv⟩
        have eG := eg.same sG
        by_cases hlt : i < gs.length
        · refine .inr ⟨W.goes i G2 (by rw [hn]; exact hlt) eG, fun G3 => gs.length - (i + 1) = gs.length - (i + 1) ∧ i + 1 ≤ gs.length ∧ Same H3 G3 ∧ ∃ x, G3 d = some (.dT x) ∧ x.length ≤ i + 1 ∧ ∀ p, valV x (kS p) = if p ∈ gs.take (i + 1) then some (V.int 0) else none, fun G3 h => ⟨gs.length - (i + 1), by omega, h⟩, fun v G3 y => ?_⟩
          obtain ⟨rfl, hv⟩ := W.yields i G2 v G3 (by rw [hn]; exact hlt) eG y
          rw [List.getElem?_map, Option.map_eq_some_iff] at hv
          obtain ⟨b, hb, rfl⟩ := hv
          have hg := List.getElem?_eq_getElem hlt
          refine ⟨b, rfl, x, kS gs[i], by rw [kS_kV]; exact sG _ _ (hA.2 i b _ hb hg), ex, Nat.lt_of_le_of_lt (by have := G.tg.few; omega : x.length ≤ 1000) (by decide), rfl, hlt, fun c o e => ?_, _, upd_same, ?_, fun p => ?_⟩
          · rw [upd_ne (ne_some e hd)]
            exact sG _ _ e
          · have := length_putK x (kS gs[i]) (V.int 0)
            omega
          · have hmem : p ∈ gs.take (i + 1) ↔ p ∈ gs.take i ∨ p = gs[i] := by
              rw [List.take_add_one, hg]
              exact List.mem_append.trans (by rw [show (some gs[i]).toList = [gs[i]] from rfl, List.mem_singleton])
            rw [valV_put, hxv p]
            by_cases c : p = gs[i]
            · rw [if_pos (by rw [c]), if_pos (hmem.mpr (.inr c))]
            · rw [if_neg (fun e => c (kS_inj e))]
              by_cases m : p ∈ gs.take i
              · rw [if_pos m, if_pos (hmem.mpr (.inl m))]
              · rw [if_neg m, if_neg fun h => (hmem.mp h).elim m c]
        · have hin : i = gs.length := by omega
          subst hin
          rw [List.take_length] at hxv
          exact .inl ⟨by rw [← hn]; exact W.stops G2 eG, s3.trans sG, none_of s3 hd, x, ex, by have := G.tg.few; omega, hxv⟩
      cases k with
      | true => exact .inl ⟨_, eg, fun J W => key _ J rfl W⟩
      | false => exact .inr ⟨_, eg, fun J W => key _ J rfl W⟩
    rintro σ4 H4 ⟨d, kvs, rfl, s4, hd0, hd4, hk4, hv4⟩
    refine ⟨fun σ H' => ∃ (R : Addr), σ = [some (V.ref t), some (V.ref tg), some (V.ref pl), some (V.ref z), some (V.ref d), some (V.ref R), none, none, none, none] ∧ Same H4 H' ∧ H4 R = none ∧ H' R = some (.lst []), ?_, ?_⟩
    · walk_at "rd"
      intro R hR
      exact ⟨Same.new hR, hR⟩
    rintro σ5 H5 ⟨R, rfl, s5, hR0, hR5⟩
    obtain ⟨ys, eP, hyl, hys⟩ := hP
    have s14 := s4.trans s5
    have s05 := s1.trans s14
    have ndR : d ≠ R := ne_some hd4 hR0
    have hlv : ∀ p ∈ L, ∃ n, lev ss gs p = some (n + 1) ∧ Seat ss p := fun p hp => by
      obtain ⟨i, hi⟩ := List.mem_iff_getElem?.mp hp
      have hl := (List.getElem?_eq_some_iff.mp hi).1
      obtain ⟨_, _, _, cs, _, _, _, _, n, _, _, _, c1, _, _, _, _, _, _, _, c9⟩ := hys i _ p (List.getElem?_eq_getElem (by rw [hyl]; exact hl)) hi
      exact ⟨n, c9, c1⟩
    refine ⟨fun σ H' => ∃ (v6 v7 v8 : Option V) (zs : List V), σ = [some (V.ref t), some (V.ref tg), some (V.ref pl), some (V.ref z), some (V.ref d), some (V.ref R), v6, v7, v8, none] ∧ Same H H' ∧ H' R = some (.lst zs) ∧ zs.length = L.length ∧ ∀ (i : Nat) y p, zs[i]? = some y → L[i]? = some p → PlanR ss gs H' y p, ?_, ?_⟩
    · walk_at "rd"
      have hP5 := s05 _ _ eP
      refine ⟨true, ys, hP5, fun J W => ?_⟩
      have s15 : Same H1 H5 := s14
      refine forr W (fun i σ H' => ∃ (v6 v7 v8 : Option V) (kv : List (List Key × V)) (zs : List V), σ = [some (V.ref t), some (V.ref tg), some (V.ref pl), some (V.ref z), some (V.ref d), some (V.ref R), v6, v7, v8, none] ∧ Same H1 H' ∧ H' d = some (.dT kv) ∧ kv.length ≤ 100 + i ∧ (∀ p, Seat ss p → valV kv (kS p) = if p ∈ gs then some (V.int 0) else if p ∈ L.take i then (lev ss gs p).map fun n => V.int (n : Nat) else none) ∧ H' R = some (.lst zs) ∧ zs.length = i ∧ ∀ (j : Nat) y p, zs[j]? = some y → L[j]? = some p → PlanR ss gs H' y p) ⟨none, none, none, kvs, [], rfl, s15, s5 _ _ hd4, by omega, fun p _ => by rw [hv4 p]; simp, hR5, rfl, by simp⟩ (fun i σ H' _ h => by obtain ⟨_, _, _, _, _, _, h, _⟩ := h; exact h _ _ (s1 _ _ eP)) ?_ ?_
      · rintro i x σ H6 H6' hi ⟨v6, v7, v8, kv, zs, rfl, s6, ed6, hkl, hkv, eR6, hzl, hzs⟩ ⟨T0, x1, rfl, hT0, rfl, hx1⟩
        have hil : i < L.length := by rw [← hyl]; exact hi
        have hp := List.getElem?_eq_getElem hil
        obtain ⟨r, a, c, cs, rfl, hr, ha, hc, hB⟩ := hys i x1 _ hx1 hp
        have htk : ∀ q, q ∈ L.take (i + 1) ↔ q ∈ L.take i ∨ q = L[i] := fun q => by
          rw [List.take_add_one, hp]
          exact List.mem_append.trans (by rw [show (some L[i]).toList = [L[i]] from rfl, List.mem_singleton])
        have hpn : L[i] ∉ L.take i := fun hm => by
          obtain ⟨j, hj⟩ := List.mem_iff_getElem?.mp hm
          have hjl := (List.getElem?_eq_some_iff.mp hj).1
          rw [List.length_take] at hjl
          rw [List.getElem?_take_of_lt (by omega)] at hj
          obtain ⟨g1, g2⟩ := List.getElem?_eq_some_iff.mp hj
          exact List.pairwise_iff_getElem.mp hnd j i g1 hil (by omega) g2
        have hpg := hng _ (List.getElem_mem hil)
        obtain ⟨n, m1, m2, l0, sf, sb, l1, l2, hmx, u1, u2⟩ := best_max G.z.pos hB
        have hSp : Seat ss L[i] := by obtain ⟨_, _, _, _, h, _⟩ := id hB; exact h
        have hcl : cs.length = ss.length := by obtain ⟨_, _, _, _, _, _, _, h, _⟩ := id hB; exact h.len
        have look : ∀ q m, Seat ss q → lev ss gs q = some m → Un (toN ss) (tgB (ixs ss gs)) n (ix ss q) = true → valV kv (kS q) = some (V.int (m : Nat)) := fun q m hq lq uq => by
          rw [hkv q hq]
          by_cases hg : q ∈ gs
          · rw [if_pos hg]
            have h0 := (lvl_some (ix_lt hq)).mp lq
            have hT : Un (toN ss) (tgB (ixs ss gs)) 0 (ix ss q) = true := (tgB_ix G.tg.ok hq).mpr hg
            cases m with
            | zero => rfl
            | succ m => rw [h0.2 0 (by omega)] at hT; cases hT
          · rw [if_neg hg, if_pos ((hO i _ n hp l0 q hq uq).resolve_left hg), lq]
            rfl
        have hv1 := look _ _ sf l1 u1
        have hv2 := look _ _ sb l2 u2
        have sT := Same.new hT0 (o := .tup [V.int (i : Nat), V.ref r])
        have ed7 := sT _ _ ed6
        have eR7 := sT _ _ eR6
        have s7 := s6.trans sT
        have hzs7 : ∀ (j : Nat) y p, zs[j]? = some y → L[j]? = some p → PlanR ss gs (upd H6 T0 (.tup [V.int (i : Nat), V.ref r])) y p := fun j y p h1 h2 => (hzs j y p h1 h2).tp (Tp.of sT)
        walk_at "rd"
        generalize upd H6 T0 (HO.tup [V.int (i : Nat), V.ref r]) = H7 at ed7 eR7 s7 hzs7 ⊢
        have s07 := s1.trans s7
        refine ⟨fun σ H' => σ = [some (V.ref t), some (V.ref tg), some (V.ref pl), some (V.ref z), some (V.ref d), some (V.ref R), some (V.int (i : Nat)), some (V.ref r), some (V.int (n + 1 : Nat)), none] ∧ Same H7 H', ?_, ?_⟩
        · walk_at "rd"
          refine ⟨z, d, r, a, c, ss, L[i], cs, kv, m1, m2, rfl, s7 _ _ hz, G.z, ed7, s07 _ _ hr, s07 _ _ ha, s07 _ _ hc, hSp, hcl, ?_, hv1, hv2, fun H8 s8 => ⟨by rw [hmx], s8⟩⟩
          rw [hkv _ hSp, if_neg hpg, if_neg hpn]
        rintro σ8 H8 ⟨rfl, s8⟩
        refine ⟨fun σ H' => σ = [some (V.ref t), some (V.ref tg), some (V.ref pl), some (V.ref z), some (V.ref d), some (V.ref R), some (V.int (i : Nat)), some (V.ref r), some (V.int (n + 1 : Nat)), none] ∧ Same H7 H', ?_, ?_⟩
        · walk_at "rd"
          exact s8
        rintro σ9 H9 ⟨rfl, s9⟩
        refine ⟨fun σ H' => σ = [some (V.ref t), some (V.ref tg), some (V.ref pl), some (V.ref z), some (V.ref d), some (V.ref R), some (V.int (i : Nat)), some (V.ref r), some (V.int (n + 1 : Nat)), none] ∧ ∃ H9', Same H7 H9' ∧ H' = upd H9' d (.dT (putK kv (kS L[i]) (V.int (n + 1 : Nat)))), ?_, ?_⟩
        · walk_at "rd"
          exact ⟨_, s9 _ _ (s07 _ _ hr), .ref a, by simp only [atI_0], _, DPut.t (k := kS L[i]) (s9 _ _ ed7) (by rw [kS_kV]; exact s9 _ _ (s07 _ _ ha)) (Nat.lt_of_le_of_lt (by omega : kv.length ≤ 2000) (by decide)), H9, s9, rfl⟩
        rintro σ10 H10 ⟨rfl, H9', s9', rfl⟩
        walk_at "rd"
        have eR9 := s9' _ _ eR7
        have ed9 := s9' _ _ ed7
        have hR1 : H1 R = none := none_of s4 hR0
        have hr9 := s9' _ _ (s07 _ _ hr)
        have ha9 := s9' _ _ (s07 _ _ ha)
        have hX : ∀ X : HO, Tp H9' (upd H9' d X) := fun X => Tp.put ed9 (by simp)
        have hlen := length_putK kv (kS L[i]) (V.int (n + 1 : Nat))
        have hval : ∀ q, Seat ss q → valV (putK kv (kS L[i]) (V.int (n + 1 : Nat))) (kS q) = if q ∈ gs then some (V.int 0) else if q ∈ L.take (i + 1) then (lev ss gs q).map fun n => V.int (n : Nat) else none := fun q hq => by
          rw [valV_put, hkv q hq]
          by_cases e : q = L[i]
          · rw [if_pos (by rw [e]), if_neg (by rw [e]; exact hpg), if_pos ((htk q).mpr (.inr e)), e, l0]
            rfl
          · rw [if_neg fun h => e (kS_inj h)]
            by_cases hg : q ∈ gs
            · rw [if_pos hg, if_pos hg]
            · rw [if_neg hg, if_neg hg]
              by_cases hm : q ∈ L.take i
              · rw [if_pos hm, if_pos ((htk q).mpr (.inl hm))]
              · rw [if_neg hm, if_neg fun h => ((htk q).mp h).elim hm e]
        generalize putK kv (kS L[i]) (V.int (n + 1 : Nat)) = kv' at hlen hval ⊢
        have sG : Same H1 (upd H9' d (.dT kv')) := fun b o e => by
          rw [upd_ne (ne_some e hd0)]
          exact s9' _ _ (s7 _ _ e)
        have eRG : (upd H9' d (.dT kv')) R = some (.lst zs) := by rw [upd_ne ndR.symm]; exact eR9
        have edG : (upd H9' d (.dT kv')) d = some (.dT kv') := upd_same
        have hrG := hX (.dT kv') _ _ hr9
        have haG := hX (.dT kv') _ _ ha9
        have tG : Tp H7 (upd H9' d (.dT kv')) := (Tp.of s9').trans (hX _)
        generalize upd H9' d (HO.dT kv') = G at sG eRG edG hrG haG tG ⊢
        refine ⟨⟨_, eRG⟩, _, hrG, .ref a, by simp only [atI_0], fun p2 hp2 => ?_⟩
        have sp := Same.new hp2 (o := .tup [V.ref a, V.int (n + 1 : Nat)])
        have ep : (upd G p2 (.tup [V.ref a, V.int (n + 1 : Nat)])) p2 = some (.tup [V.ref a, V.int (n + 1 : Nat)]) := upd_same
        generalize upd G p2 (HO.tup [V.ref a, V.int (n + 1 : Nat)]) = G2 at sp ep ⊢
        have eR2 := sp _ _ eRG
        have tR : ∀ X : HO, Tp G2 (upd G2 R X) := fun X => Tp.put eR2 (by simp)
        refine ⟨_, eR2, Nat.lt_of_le_of_lt (by omega : zs.length ≤ 2000) (by decide), fun b o e => ?_, kv', ?_, by omega, hval, ?_, fun j y q h1 h2 => ?_⟩
        · rw [upd_ne (ne_some e hR1)]
          exact sp _ _ (sG _ _ e)
        · rw [upd_ne ndR]
          exact sp _ _ edG
        · simp [hzl]
        · by_cases hj : j < zs.length
          · rw [List.getElem?_append_left hj] at h1
            exact ((hzs7 j y q h1 h2).tp (tG.trans (Tp.of sp))).tp (tR _)
          · rw [List.getElem?_append_right (by omega)] at h1
            cases hjk : j - zs.length with
            | succ k => rw [hjk] at h1; simp at h1
            | zero =>
              rw [hjk] at h1
              have ey : y = V.ref p2 := by simpa using h1.symm
              have ej : j = i := by omega
              subst ej
              rw [hp] at h2
              obtain rfl := Option.some.inj h2
              exact ⟨p2, a, n + 1, ey, tR _ _ _ ep, tR _ _ _ (sp _ _ haG), l0⟩
      · rintro σ H6 ⟨v6, v7, v8, kv, zs, rfl, s6, ed6, hkl, hkv, eR6, hzl, hzs⟩
        rw [hyl] at hzl
        exact ⟨⟨_, _, _, rfl⟩, s1.trans s6, zs, eR6, hzl, hzs⟩
    rintro σ6 H6 ⟨v6, v7, v8, zs, rfl, s6, eR, hzl, hzs⟩
    walk_at "rd"
    exact q H6 R zs s6 (none_of s1 (none_of s4 hR0)) eR hzl hzs
theorem plnF_mem {ss : List Int} {gs : List (List Int)} (z : ∀ s ∈ ss, 1 ≤ s) {q : List Int} : ∀ {n : Nat}, q ∈ plnF (toN ss) (tgB (ixs ss gs)) n ↔ Seat ss q ∧ ∃ m, m < n ∧ lev ss gs q = some (m + 1)
  | 0 => by simp [plnF]
  | n + 1 => by
    rw [plnF_succ, List.mem_append, plnF_mem z (n := n)]
    have key : q ∈ (Rn (toN ss) (tgB (ixs ss gs)) (n + 1)).map (iS (toN ss)) ↔ Seat ss q ∧ lev ss gs q = some (n + 1) := by
      constructor
      · intro h
        obtain ⟨i, hi, rfl⟩ := List.mem_map.mp h
        obtain ⟨h1, h2⟩ := mem_Rn.mp hi
        obtain ⟨d1, e1, _⟩ := stt_ok h1
        have e : ix ss (iS (toN ss) i) = i := by unfold ix iS; rw [toN_iN, e1]
        refine ⟨dg_seat z d1, ?_⟩
        show lvl _ _ (ix ss (iS (toN ss) i)) = _
        rw [e]
        exact (lvl_some h1).mpr h2
      · rintro ⟨h1, h2⟩
        exact List.mem_map.mpr ⟨ix ss q, mem_Rn.mpr ⟨ix_lt h1, (lvl_some (ix_lt h1)).mp h2⟩, iS_ix h1⟩
    rw [key]
    constructor
    · rintro (⟨h1, m, h2, h3⟩ | ⟨h1, h2⟩)
      · exact ⟨h1, m, by omega, h3⟩
      · exact ⟨h1, n, by omega, h2⟩
    · rintro ⟨h1, m, h2, h3⟩
      by_cases e : m = n
      · subst e
        exact .inr ⟨h1, h3⟩
      · exact .inl ⟨h1, m, by omega, h3⟩
theorem plnF_app (ss : List Nat) (U : Nat → Bool) (n : Nat) : ∀ k, ∃ B, plnF ss U (n + k) = plnF ss U n ++ B
  | 0 => ⟨[], by simp⟩
  | k + 1 => by
    obtain ⟨B, e⟩ := plnF_app ss U n k
    exact ⟨B ++ (Rn ss U (n + k + 1)).map (iS ss), by rw [show n + (k + 1) = (n + k) + 1 by omega, plnF_succ, e, List.append_assoc]⟩
theorem pln_ord {ss : List Int} {gs : List (List Int)} {d : Nat} (z : ∀ s ∈ ss, 1 ≤ s) (hg : ∀ g ∈ gs, Seat ss g) : Ord ss gs (plnF (toN ss) (tgB (ixs ss gs)) d) := by
  intro i p n hp hl q hq hu
  obtain ⟨m, hm, lq⟩ := un_lev hq hu
  cases m with
  | zero =>
    refine .inl ((tgB_ix hg hq).mp ?_)
    exact ((lvl_some (ix_lt hq)).mp lq).1
  | succ m =>
    refine .inr ?_
    obtain ⟨_, m', hm', l'⟩ := (plnF_mem z).mp (List.mem_of_getElem? hp)
    rw [hl] at l'
    have := Option.some.inj l'
    obtain ⟨B, e⟩ := plnF_app (toN ss) (tgB (ixs ss gs)) n (d - n)
    rw [show n + (d - n) = d by omega] at e
    have hlen : (plnF (toN ss) (tgB (ixs ss gs)) n).length ≤ i := by
      apply Classical.byContradiction
      intro hc
      rw [e, List.getElem?_append_left (by omega)] at hp
      obtain ⟨_, k, hk, lk⟩ := (plnF_mem z).mp (List.mem_of_getElem? hp)
      rw [hl] at lk
      have := Option.some.inj lk
      omega
    rw [e, List.take_append, List.take_of_length_le hlen]
    exact List.mem_append_left _ ((plnF_mem z).mpr ⟨hq, m, by omega, lq⟩)
theorem pln_nodup {ss : List Int} {gs : List (List Int)} (z : ∀ s ∈ ss, 1 ≤ s) : ∀ n, (plnF (toN ss) (tgB (ixs ss gs)) n).Nodup
  | 0 => by simp [plnF]
  | n + 1 => by
    rw [plnF_succ]
    refine List.nodup_append.mpr ⟨pln_nodup z n, ?_, fun a ha b hb e => ?_⟩
    · refine List.pairwise_map.mpr (List.Pairwise.imp_of_mem (fun {a b} ha hb h e => ?_) Rn_asc)
      rw [iS_inj (Rn_lt ha) (Rn_lt hb) e] at h
      exact absurd h (Nat.lt_irrefl _)
    · subst e
      obtain ⟨_, m, hm, l⟩ := (plnF_mem z).mp ha
      have h2 : a ∈ plnF (toN ss) (tgB (ixs ss gs)) (n + 1) := by
        rw [plnF_succ]
        exact List.mem_append_right _ hb
      obtain ⟨i, hi, rfl⟩ := List.mem_map.mp hb
      obtain ⟨h3, h4⟩ := mem_Rn.mp hi
      have e : ix ss (iS (toN ss) i) = i := by
        obtain ⟨d1, e1, _⟩ := stt_ok h3
        unfold ix iS
        rw [toN_iN, e1]
      have l2 : lev ss gs (iS (toN ss) i) = some (n + 1) := by
        show lvl _ _ (ix ss (iS (toN ss) i)) = _
        rw [e]
        exact (lvl_some h3).mpr h4
      rw [l2] at l
      have := Option.some.inj l
      omega
theorem pln_off {ss : List Int} {gs : List (List Int)} {n : Nat} (z : ∀ s ∈ ss, 1 ≤ s) (hg : ∀ g ∈ gs, Seat ss g) : ∀ p ∈ plnF (toN ss) (tgB (ixs ss gs)) n, p ∉ gs := fun p hp hm => by
  obtain ⟨hS, m, _, l⟩ := (plnF_mem z).mp hp
  have h0 := ((lvl_some (ix_lt hS)).mp l).2 0 (by omega)
  have h1 : Un (toN ss) (tgB (ixs ss gs)) 0 (ix ss p) = true := (tgB_ix hg hS).mpr hm
  rw [h0] at h1
  cases h1
/-- what plan_depths and check_plan ask of the list of seats -/
structure PlanOk (ss : List Int) (gs L : List (List Int)) : Prop where
  nd : L.Nodup
  off : ∀ p ∈ L, p ∉ gs
  few : L.length ≤ 1000
  ord : Ord ss gs L
theorem pln_ok {ss : List Int} {gs : List (List Int)} (G : Tab ss gs) (h : ∃ d, Top (toN ss) (tgB (ixs ss gs)) d) : PlanOk ss gs ((layI ss gs).drop 1).flatten := by
  obtain ⟨d, hT⟩ := h
  rw [← plnF_lay hT]
  have nd := pln_nodup (gs := gs) G.z.pos d
  refine ⟨nd, pln_off G.z.pos G.tg.ok, ?_, pln_ord G.z.pos G.tg.ok⟩
  have hsub : ∀ p ∈ plnF (toN ss) (tgB (ixs ss gs)) d, p ∈ (List.range (Cs.cnt (toN ss))).map (iS (toN ss)) := fun p hp => by
    obtain ⟨hS, _⟩ := (plnF_mem G.z.pos).mp hp
    exact List.mem_map.mpr ⟨ix ss p, List.mem_range.mpr (ix_lt hS), iS_ix hS⟩
  have := List.Nodup.length_le_of_subset nd hsub
  rw [List.length_map, List.length_range] at this
  have h2 := cnt_prod G.z.pos
  have := G.few
  omega
def sp_check_plan (K : PySem.W.Frag) (C : Addr) : Sp := fun vs H Q _ => ∃ (t tg pl : Addr) (k : Bool) (ss : List Int) (gs L : List (List Int)), vs = [.ref t, .ref tg, .ref pl] ∧ TabAt C H t ss ∧ TgtAt k H tg gs ∧ Tab ss gs ∧ PlanL ss gs H pl L ∧ PlanOk ss gs L ∧ ∀ H', Same H H' → Q .non H'
end

/-! ### the draws of the laws of layers -/
section
variable {P : Program} {w : World} {K : PySem.W.Frag} {mg : Str → Option Value} {base : Heap}
def Src (H : Hp) (a : Addr) : Prop := ∃ s c d : Int, H a = some (.lst [.int s, .int c, .int d])
theorem Src.same {H H' : Hp} {a : Addr} (e : Same H H') (h : Src H a) : Src H' a := by
  obtain ⟨s, c, d, h⟩ := h
  exact ⟨s, c, d, e _ _ h⟩
theorem Src.ne {H : Hp} {a p : Addr} (h : Src H a) (hp : H p = none) : p ≠ a := fun e => by
  obtain ⟨s, c, d, h⟩ := h
  rw [e, h] at hp
  cases hp
theorem Src.ne_of {H : Hp} {a p : Addr} {o : HO} (h : Src H a) (hp : H p = some o) (d : ∀ x y z : Int, o ≠ .lst [.int x, .int y, .int z]) : p ≠ a := fun e => by
  obtain ⟨x, y, z, h⟩ := h
  rw [e, h] at hp
  exact d x y z (Option.some.inj hp).symm
theorem upd_none_of {H : Hp} {p q : Addr} {o : HO} (h : upd H p o q = none) : H q = none ∧ q ≠ p := by
  unfold upd at h
  by_cases e : q = p
  · rw [if_pos e] at h; cases h
  · rw [if_neg e] at h; exact ⟨h, e⟩
def sp_law_mix (K : PySem.W.Frag) : Sp := fun vs H Q _ => ∃ c d : Int, vs = [.int c, .int d] ∧ ∀ r : Int, Q (.int r) H
theorem ok_law_mix (T : Tx K mg) : FnOk P w K mg base CX0 1 T.f_law_mix T.fd_law_mix ["_law_cell", "_law_turn"] (sp_law_mix K) := by
  refine T.F_law_mix.ok sc_law_mix (fun vs H Q E h => ?_) (fun cdv A outer s H vs Q E hr h => ?_)
  · obtain ⟨c, d, rfl, _⟩ := h; rfl
  · obtain ⟨c, d, rfl, q⟩ := h
    refine ⟨_, (pss_cons (ps_set (i := 2) sc_law_mix.nd rfl (Or.inl rfl) (pe_op op_add (pe_op op_mod (pv 0) pe_int) (pe_op op_mulA (pe_op op_mod (pe_op op_fdivW (pv 0) pe_int) pe_int) pe_int)))
      (pss_cons (ps_set (i := 2) sc_law_mix.nd rfl (Or.inl rfl) (pe_op op_mod (pe_op op_mulA (pe_op op_add (pe_op op_add (pv 2) (pe_op op_mulA pe_int (pv 1))) pe_int) pe_int) pe_int))
      (pss_cons (ps_set (i := 2) sc_law_mix.nd rfl (Or.inl rfl) (pe_op op_mod (pe_op op_mulA (pv 2) (pe_op op_add (pe_op op_add (pe_op op_fdivW (pv 2) pe_int) pe_int) (pv 1))) pe_int))
      (pss_one (ps_ret (pe_op op_mod (pe_op op_mulA (pv 2) (pe_op op_add (pe_op op_fdivW (pv 2) pe_int) pe_int)) pe_int)))))), ?_⟩
    walk_at "rd"
    generalize c % 2147483647 + c / 2147483647 % 1000003 * 7919 + 15485863 * d + 104729 = x
    have y0 := Int.emod_nonneg (x * 48271) (by decide : (2147483629 : Int) ≠ 0)
    have y1 := Int.emod_lt_of_pos (x * 48271) (by decide : (0 : Int) < 2147483629)
    generalize x * 48271 % 2147483629 = y at y0 y1 ⊢
    have z0 := Int.emod_nonneg (y * (y / 1009 + 69621 + d)) (by decide : (2147483587 : Int) ≠ 0)
    have z1 := Int.emod_lt_of_pos (y * (y / 1009 + 69621 + d)) (by decide : (0 : Int) < 2147483587)
    generalize y * (y / 1009 + 69621 + d) % 2147483587 = z at z0 z1 ⊢
    exact ⟨.inr (.inl (by decide)), .inl (by decide), .inr (.inl (by decide)), .inl (by omega), .inl (by omega), q _⟩
def sp_law_draw (K : PySem.W.Frag) : Sp := fun vs H Q _ => ∃ (a : Addr) (n : Int), vs = [.ref a, .int n] ∧ Src H a ∧ 0 < n ∧ n.natAbs < 2 ^ 8000 ∧ ∀ H' r, Sx a H H' → Src H' a → 0 ≤ r → r < n → Q (.int r) H'
theorem ok_law_draw (T : Tx K mg) : FnOk P w K mg base CX0 2 T.f_law_draw T.fd_law_draw ["_law_source_here", "_law_limit"] (sp_law_draw K) := by
  refine T.F_law_draw.ok sc_law_draw (fun vs H Q E h => ?_) (fun cdv A outer s H vs Q E hr h => ?_)
  · obtain ⟨a, n, rfl, _⟩ := h; rfl
  · obtain ⟨a, n, rfl, ⟨s, c, d, hs⟩, hn, hb, q⟩ := h
    refine ⟨_, (pss_cons (ps_if (pt_cmpR op_gt (pe_ix ix_lH (pv 0) pe_int (fun _ _ => rfl)) pe_int (nomark _)) (pss_cons (ps_set (i := 2) sc_law_draw.nd rfl (Or.inl rfl) (pe_op op_mod (pe_ix ix_lH (pv 0) pe_int (fun _ _ => rfl)) (pv 1)))
        (pss_cons (ps_asg (pe_op op_fdivW (pe_ix ix_lH (pv 0) pe_int (fun _ _ => rfl)) (pv 1)) (pg_sub (pv 0) pe_int set_lH))
        (pss_one (ps_ret (pv 2))))) pss_nil)
      (pss_cons (ps_asg (pe_op op_add (pe_ix ix_lH (pv 0) pe_int (fun _ _ => rfl)) pe_int) (pg_sub (pv 0) pe_int set_lH))
      (pss_one (ps_ret (pe_op op_mod (pe_call (ok_law_mix T) (hr.mono (by decide)) (by rfl) T.g_law_mix T.F_law_mix.kp T.b_law_mix .nil pass0 (pa_cons (pe_ix ix_lH (pv 0) pe_int (fun _ _ => rfl)) (pa_cons (pe_ix ix_lH (pv 0) pe_int (fun _ _ => rfl)) pa_nil))) (pv 1)))))), ?_⟩
    walk_at "rh"
    by_cases h : 0 < s
    · rw [if_pos h]
      exact ⟨wide_div hn hb (by decide) (by decide), q _ _ Sx.put ⟨s / n, c, d, upd_same⟩ (Int.emod_nonneg _ (by omega)) (Int.emod_lt_of_pos _ hn)⟩
    · rw [if_neg h]
      refine ⟨c, d + 1, rfl, fun r => ?_⟩
      walk_at "rd"
      exact q _ _ Sx.put ⟨s, c, d + 1, upd_same⟩ (Int.emod_nonneg _ (by omega)) (Int.emod_lt_of_pos _ hn)
def sp_law_source (K : PySem.W.Frag) : Sp := fun vs H Q _ => ∃ c : Int, vs = [.int c] ∧ ∀ H' a, Same H H' → H a = none → Src H' a → Q (.ref a) H'
theorem ok_law_source (T : Tx K mg) : FnOk P w K mg base CX0 1 T.f_law_source T.fd_law_source ["_law_cell"] (sp_law_source K) := by
  refine T.F_law_source.ok sc_law_source (fun vs H Q E h => ?_) (fun cdv A outer s H vs Q E hr h => ?_)
  · obtain ⟨c, rfl, _⟩ := h; rfl
  · obtain ⟨c, rfl, q⟩ := h
    refine ⟨_, (pss_one (ps_ret (pe_lst (pa_cons (pe_op op_mulA (pe_callB call_abs (by rfl) T.n_abs (by decide +kernel) (pa_cons (pv 0) pa_nil)) (pe_callTy call_int1 (by rfl) T.n_int (by decide +kernel) (pa_cons (pe_cmpR op_ge (pe_callB call_abs (by rfl) T.n_abs (by decide +kernel) (pa_cons (pv 0) pa_nil)) (pe_op op_pow pe_int pe_int) (nomark _)) pa_nil))) (pa_cons (pe_callB call_abs (by rfl) T.n_abs (by decide +kernel) (pa_cons (pv 0) pa_nil)) (pa_cons pe_int pa_nil)))))), ?_⟩
    walk_at "rd"
    generalize (if c < 0 then -c else c) = y
    exact ⟨.inr (.inl (by split <;> decide)), fun p hp => q _ p (Same.new hp) hp ⟨_, _, _, upd_same⟩⟩
theorem take_small {n : Int} (h : 0 < n) (h2 : n < 2 ^ 64) : n.natAbs < 2 ^ 8000 := Nat.lt_of_lt_of_le (by omega : n.natAbs < 2 ^ 64) (Nat.pow_le_pow_right (by decide) (by decide))
theorem Src.put {H : Hp} {a b : Addr} {o : HO} (h : Src H a) (n : a ≠ b) : Src (upd H b o) a := by
  obtain ⟨s, c, d, h⟩ := h
  exact ⟨s, c, d, by rw [upd_ne n]; exact h⟩
theorem atI_ints {ns : List Int} {i : Int} (h0 : 0 ≤ i) (h1 : i < ns.length) : ∃ n, n ∈ ns ∧ atI (ns.map V.int) i = some (V.int n) := by
  obtain ⟨k, rfl⟩ := Int.eq_ofNat_of_zero_le h0
  have hk : k < ns.length := by omega
  exact ⟨ns[k], List.getElem_mem hk, atI_nat (by rw [List.getElem?_map, List.getElem?_eq_getElem hk]; rfl)⟩
theorem prodI_snoc (ss : List Int) (x : Int) : prodI (ss ++ [x]) = prodI ss * x := by unfold prodI; rw [List.foldl_append]; rfl
theorem sz_of {ss : List Int} (h1 : 1 ≤ ss.length) (h4 : ss.length ≤ 4) (h : ∀ n ∈ ss, 1 ≤ n ∧ n < 2 ^ 100) : Sz ss :=
  ⟨h1, h4, fun n hn => (h n hn).1, fun n hn => Nat.lt_of_lt_of_le (by have := h n hn; omega : n.natAbs < 2 ^ 100) (Nat.pow_le_pow_right (by decide) (by decide))⟩
def sp_law_rings (K : PySem.W.Frag) : Sp := fun vs H Q _ => ∃ (a : Addr) (n : Int), vs = [.ref a, .int n] ∧ Src H a ∧ 1 ≤ n ∧ n ≤ 900 ∧ ∀ H' D ss, Sx a H H' → Src H' a → H D = none → H' D = some (.lst (ss.map V.int)) → Sz ss → prodI ss ≤ n → Q (.ref D) H'
theorem ok_law_rings (T : Tx K mg) : FnOk P w K mg base CX0 3 T.f_law_rings T.fd_law_rings ["_law_source_here", "_law_high"] (sp_law_rings K) := by
  refine T.F_law_rings.ok sc_law_rings (fun vs H Q E h => ?_) (fun cdv A outer s H vs Q E hr h => ?_)
  · obtain ⟨a, n, rfl, _⟩ := h; rfl
  · obtain ⟨a, n, rfl, hs, n1, n9, q⟩ := h
    refine ⟨_, (pss_cons (ps_set (i := 2) sc_law_rings.nd rfl (Or.inl rfl) (pe_lst pa_nil))
      (pss_cons (ps_set (i := 3) sc_law_rings.nd rfl (Or.inl rfl) (pv 1))
      (pss_cons (ps_for PassesOwn.never rfl (pi_range1H (by rfl) T.n_range (pa_cons (pe_op op_add pe_int (pe_ix ix_lH (pe_lst (pa_cons pe_int (pa_cons pe_int (pa_cons pe_int (pa_cons pe_int (pa_cons pe_int pa_nil)))))) (pe_call (ok_law_draw T) (hr.mono (by decide)) (by rfl) T.g_law_draw T.F_law_draw.kp T.b_law_draw .nil pass0 (pa_cons (pv 0) (pa_cons pe_int pa_nil))) (fun _ _ => rfl))) pa_nil)) (pg_name (i := 4) sc_law_rings.nd rfl (Or.inl rfl))
        (pss_cons (ps_set (i := 5) sc_law_rings.nd rfl (Or.inl rfl) (pe_op op_add pe_int (pe_call (ok_law_draw T) (hr.mono (by decide)) (by rfl) T.g_law_draw T.F_law_draw.kp T.b_law_draw .nil pass0 (pa_cons (pv 0) (pa_cons (pv 3) pa_nil)))))
        (pss_cons (ps_if (PW.pt (pw_and (pt_cmpR op_gt (pv 4) pe_int (nomark _)) (pw_and1 (pt_cmpR op_gt (pv 5) pe_int (nomark _))))) (pss_one (ps_set (i := 5) sc_law_rings.nd rfl (Or.inl rfl) (pe_op op_add pe_int (pe_op op_mod (pv 5) pe_int)))) pss_nil)
        (pss_cons (ps_expr (pe_append (pv 2) (pa_cons (pv 5) pa_nil)))
        (pss_one (ps_set (i := 3) sc_law_rings.nd rfl (Or.inl rfl) (pe_callB (call_max2 rfl) (by rfl) T.n_max (by decide +kernel) (pa_cons pe_int (pa_cons (pe_op op_fdivW (pv 3) (pv 5)) pa_nil)))))))))
      (pss_one (ps_ret (pv 2)))))), ?_⟩
    walk_at "rd"
    intro D hD
    have nDa := hs.ne hD
    have sD := Same.new hD (o := .lst [])
    have eD : (upd H D (.lst [])) D = some (.lst ([] : List V)) := upd_same
    generalize upd H D (HO.lst []) = H1 at sD eD ⊢
    intro g hg
    have sg := Same.new hg (o := .lst [V.int 0, V.int 0, V.int 1, V.int 2, V.int 3])
    have eg : (upd H1 g (.lst [V.int 0, V.int 0, V.int 1, V.int 2, V.int 3])) g = some (.lst [V.int 0, V.int 0, V.int 1, V.int 2, V.int 3]) := upd_same
    have nga := (hs.same sD).ne hg
    generalize upd H1 g (HO.lst [V.int 0, V.int 0, V.int 1, V.int 2, V.int 3]) = H2 at sg eg ⊢
    have s02 := sD.trans sg
    refine ⟨a, 5, rfl, hs.same s02, by decide, take_small (by decide) (by decide), fun H3 r s3 hs3 r0 r1 => ⟨r, rfl, _, s3 _ _ nga eg, ?_⟩⟩
    obtain ⟨m, hm, em⟩ := atI_ints (ns := [0, 0, 1, 2, 3]) r0 (by simpa using r1)
    have hm2 : 0 ≤ m ∧ m ≤ 3 := by
      simp only [List.mem_cons, List.mem_nil_iff, or_false] at hm
      omega
    refine ⟨_, em, m, rfl, by omega, by omega, fun J W => ?_⟩
    have s03 : Sx a H H3 := (Sx.of s02).trans s3
    refine forr W (fun i σ H' => Sx a H H' ∧ Src H' a ∧ ∃ (ss : List Int) (t : Int) (v4 v5 : Option V), σ = [some (V.ref a), some (V.int n), some (V.ref D), some (V.int t), v4, v5] ∧ H' D = some (.lst (ss.map V.int)) ∧ ss.length = i ∧ (∀ s ∈ ss, 1 ≤ s ∧ s ≤ n) ∧ 1 ≤ t ∧ t ≤ n ∧ 1 ≤ prodI ss ∧ prodI ss * t ≤ n) ⟨s03, hs3, [], n, none, none, rfl, s3 _ _ nDa (sg _ _ eD), rfl, by simp, by omega, by omega, by decide, by show (1 : Int) * n ≤ n; omega⟩ (fun _ _ _ _ _ => trivial) ?_ ?_
    · rintro i x σ H4 H4' hi ⟨s4, hs4, ss, t, v4, v5, rfl, hD4, hl, hb, t1, tn, p1, pt⟩ ⟨rfl, rfl⟩
      walk_at "rd"
      refine ⟨a, t, rfl, hs4, by omega, take_small (by omega) (by omega), fun H5 y s5 hs5 y0 y1 => ⟨y, rfl, ?_⟩⟩
      have hD5 := s5 _ _ nDa hD4
      have s05 := s4.trans s5
      have key : ∀ z : Int, 1 ≤ z → z ≤ t → (∃ x, H5 D = some (.lst x)) ∧ ∃ ys, H5 D = some (.lst ys) ∧ ys.length < sizeLine ∧ CDivW t z ∧ Sx a H (upd H5 D (.lst (ys ++ [V.int z]))) ∧ Src (upd H5 D (.lst (ys ++ [V.int z]))) a ∧
          ∃ ss, ys ++ [V.int z] = List.map V.int ss ∧ ss.length = i + 1 ∧ (∀ s ∈ ss, 1 ≤ s ∧ s ≤ n) ∧ (1 ≤ if 1 < t / z then t / z else 1) ∧ (if 1 < t / z then t / z else 1) ≤ n ∧ 1 ≤ prodI ss ∧ (prodI ss * if 1 < t / z then t / z else 1) ≤ n := fun z z1 zt => by
        have hq1 : 1 ≤ t / z := by
          have := Int.le_ediv_iff_mul_le (a := 1) (b := t) (c := z) (by omega)
          exact this.mpr (by omega)
        have hq2 : t / z ≤ t := Int.ediv_le_self _ (by omega)
        have hq3 : z * (t / z) ≤ t := Int.mul_ediv_self_le (by omega)
        have hif : (if 1 < t / z then t / z else 1) = t / z := by
          by_cases h : 1 < t / z
          · rw [if_pos h]
          · rw [if_neg h]; omega
        rw [hif]
        refine ⟨⟨_, hD5⟩, _, hD5, by rw [List.length_map]; exact Nat.lt_of_le_of_lt (by omega : ss.length ≤ 10) (by decide), by rw [cdivW_small (by omega) (by omega)]; trivial, fun b o nb hb' => by rw [upd_ne (ne_some hb' hD)]; exact s05 b o nb hb', hs5.put nDa.symm, ss ++ [z], by rw [List.map_append]; rfl, by rw [List.length_append, hl]; rfl, fun s hs' => ?_, hq1, by omega, ?_, ?_⟩
        · rcases List.mem_append.mp hs' with h | h
          · exact hb s h
          · rw [List.mem_singleton.mp h]
            omega
        · rw [prodI_snoc]
          have := Int.mul_le_mul p1 z1 (by decide) (by omega)
          omega
        · rw [prodI_snoc, Int.mul_assoc]
          have := Int.mul_le_mul_of_nonneg_left hq3 (by omega : 0 ≤ prodI ss)
          omega
      have m0 := Int.emod_nonneg (1 + y) (by decide : (6 : Int) ≠ 0)
      have m1 := Int.emod_lt_of_pos (1 + y) (by decide : (0 : Int) < 6)
      by_cases c1 : 0 < (i : Int)
      · rw [if_pos c1]
        by_cases c2 : 12 < 1 + y
        · rw [if_pos c2]
          exact key _ (by omega) (by omega)
        · rw [if_neg c2]
          exact key _ (by omega) (by omega)
      · rw [if_neg c1]
        exact key _ (by omega) (by omega)
    · rintro σ H4 ⟨s4, hs4, ss, t, v4, v5, rfl, hD4, hl, hb, t1, tn, p1, pt⟩
      walk_at "rd"
      refine q H4 D ss s4 hs4 hD hD4 (sz_of (by omega) (by omega) fun x hx => by have := hb x hx; omega) ?_
      have := Int.mul_le_mul_of_nonneg_left t1 (by omega : 0 ≤ prodI ss)
      omega
end

section
variable {P : Program} {w : World} {K : PySem.W.Frag} {mg : Str → Option Value} {base : Heap}
theorem _root_.Cs.AsT.keep {H : Hp} {M : Addr} {xs : List V} {o : HO} {as : List Addr} {hs : List (List Int)} (h : AsT H as hs) (hM : H M = some (.lst xs)) : AsT (upd H M o) as hs := ⟨h.1, fun i t g h1 h2 => by
  have h3 := h.2 i t g h1 h2
  rw [upd_ne (ne_two h3 hM (by simp))]
  exact h3⟩
theorem _root_.Cs.AsT.app {H : Hp} {as bs : List Addr} {gs hs : List (List Int)} (h1 : AsT H as gs) (h2 : AsT H bs hs) : AsT H (as ++ bs) (gs ++ hs) := by
  refine ⟨by rw [List.length_append, List.length_append, h1.1, h2.1], fun i t g e1 e2 => ?_⟩
  by_cases hlt : i < as.length
  · rw [List.getElem?_append_left hlt] at e1
    rw [List.getElem?_append_left (by rw [← h1.1]; exact hlt)] at e2
    exact h1.2 i t g e1 e2
  · rw [List.getElem?_append_right (by omega)] at e1
    rw [List.getElem?_append_right (by rw [← h1.1]; omega), ← h1.1] at e2
    exact h2.2 _ t g e1 e2
theorem _root_.Cs.AsT.part {H : Hp} {as : List Addr} {hs : List (List Int)} (h : AsT H as hs) (d n : Nat) : AsT H ((as.drop d).take n) ((hs.drop d).take n) := by
  refine ⟨by rw [List.length_take, List.length_take, List.length_drop, List.length_drop, h.1], fun i t g e1 e2 => ?_⟩
  rw [List.getElem?_take] at e1 e2
  split at e1
  · rename_i hi
    rw [if_pos hi] at e2
    rw [List.getElem?_drop] at e1 e2
    exact h.2 _ t g e1 e2
  · cases e1
theorem cut_to {xs : List V} {n : Nat} (h : n ≤ xs.length) : cutV xs none (some (n : Int)) = xs.take n := by
  have e : HT.sIx xs.length xs.length (some (n : Int)) = n := by
    show (if (n : Int) < 0 then ((n : Int) + (xs.length : Int)).toNat else min (n : Int).toNat xs.length) = n
    rw [if_neg (by omega)]
    omega
  unfold cutV
  rw [e, show HT.sIx xs.length 0 none = 0 from rfl, List.drop_zero, Nat.sub_zero]
theorem cut_from {xs : List V} {n : Nat} (h : n ≤ xs.length) : cutV xs (some (n : Int)) none = xs.drop n := by
  have e : HT.sIx xs.length 0 (some (n : Int)) = n := by
    show (if (n : Int) < 0 then ((n : Int) + (xs.length : Int)).toNat else min (n : Int).toNat xs.length) = n
    rw [if_neg (by omega)]
    omega
  unfold cutV
  rw [e, show HT.sIx xs.length xs.length none = xs.length from rfl, List.take_of_length_le (by rw [List.length_drop]; omega)]
theorem cut_two {H : Hp} {L R : Addr} {gs ps : List (List Int)} {f : List Int → List Int} (hL : LstT H L gs) (hR : LstT H R ((gs ++ ps).map f)) :
    ∃ as ms : List Addr, H L = some (.lst (as.map V.ref)) ∧ H R = some (.lst (ms.map V.ref)) ∧ ∀ p, H p = none → (upd H p (HO.lst (cutV (ms.map V.ref) none (some ((as.map V.ref).length : Int))))) L = some (.lst (as.map V.ref)) ∧
      (upd H p (HO.lst (cutV (ms.map V.ref) none (some ((as.map V.ref).length : Int))))) R = some (.lst (ms.map V.ref)) ∧ ∀ p1, (upd H p (HO.lst (cutV (ms.map V.ref) none (some ((as.map V.ref).length : Int))))) p1 = none →
        ∀ H', H' = upd (upd H p (HO.lst (cutV (ms.map V.ref) none (some ((as.map V.ref).length : Int))))) p1 (HO.lst (cutV (ms.map V.ref) (some ((as.map V.ref).length : Int)) none)) → Same H H' ∧ LstT H' p (gs.map f) ∧ LstT H' p1 (ps.map f) := by
  obtain ⟨as, hLa, hA⟩ := hL
  obtain ⟨ms, hM6a, hms⟩ := hR
  have hml : ms.length = gs.length + ps.length := by rw [hms.1, List.length_map, List.length_append]
  have hn : (as.map V.ref).length = gs.length := by rw [List.length_map, hA.1]
  refine ⟨as, ms, hLa, hM6a, fun p hp => ?_⟩
  rw [hn, cut_to (by rw [List.length_map]; omega), cut_from (by rw [List.length_map]; omega), ← List.map_take, ← List.map_drop]
  have s7 := Same.new hp (o := .lst ((ms.take gs.length).map V.ref))
  have f7 : (upd H p (.lst ((ms.take gs.length).map V.ref))) p = some (.lst ((ms.take gs.length).map V.ref)) := upd_same
  generalize upd H p (HO.lst ((ms.take gs.length).map V.ref)) = H7 at s7 f7 ⊢
  refine ⟨s7 _ _ hLa, s7 _ _ hM6a, fun p2 hp2 H' e => ?_⟩
  have s8 := Same.new hp2 (o := .lst ((ms.drop gs.length).map V.ref))
  have f8 : (upd H7 p2 (.lst ((ms.drop gs.length).map V.ref))) p2 = some (.lst ((ms.drop gs.length).map V.ref)) := upd_same
  rw [← e] at s8 f8
  have hms8 := (hms.same s7).same s8
  refine ⟨s7.trans s8, ⟨_, s8 _ _ f7, ?_⟩, ⟨_, f8, ?_⟩⟩
  · have := hms8.part 0 gs.length
    rw [List.drop_zero, List.drop_zero, List.map_append, List.take_left' (by rw [List.length_map])] at this
    exact this
  · have := hms8.part gs.length ms.length
    rw [List.take_of_length_le (by rw [List.length_drop]; omega), List.take_of_length_le (by rw [List.length_drop, List.length_map, List.length_append]; omega), List.map_append, List.drop_left' (by rw [List.length_map])] at this
    exact this
theorem app_get {H : Hp} {C : Addr} {as bs : List Addr} (h : H C = some (.lst (as.map V.ref ++ bs.map V.ref))) : H C = some (.lst ((as ++ bs).map V.ref)) := by rw [h, List.map_append]
end

/-! ### comprehensions that make lists of tuples of ints -/
section
variable {P : Program} {w : World} {K : PySem.W.Frag} {mg : Str → Option Value} {base : Heap}
theorem lcr_tups {J : It} {n : Nat} {G : Hp → Prop} {Y : Nat → Hp → V → Hp → Prop} (w : Walk J n G Y) {g : TG} {te : TE} {vs : List Nat} {σ : L2.St} {H1 : Hp} {Q : VK} (f : Nat → List Int) (hn : n ≤ 1000)
    (hG : ∀ H, Same H1 H → G H) (hY : ∀ i x H H', Y i H x H' → Same H H')
    (hs : ∀ i x H H' (Qy : VK), i < n → Same H1 H → Y i H x H' → (∀ t H4, Same H' H4 → H4 t = some (.tup ((f i).map V.int)) → Qy (.ref t) H4) → g x (wipe σ vs) H' fun σ2 H2 => wipe σ2 vs = wipe σ vs ∧ te σ2 H2 Qy)
    (hd : ∀ D H, H1 D = none → Same H1 H → LstT H D ((List.range n).map f) → Q (.ref D) H) : LcR J g tYes te vs σ H1 Q := fun D hD => by
  refine lc_gen w (fun i acc H => Same H1 H ∧ (∃ ys, H D = some (.lst ys)) ∧ ∃ as, acc = as.map V.ref ∧ AsT H as ((List.range i).map f)) (Nat.le_trans hn (by decide)) ⟨Same.new hD, ⟨_, upd_same⟩, [], rfl, AsT.nil⟩ (fun i acc H _ h _ => hG H h.1) (fun i acc H l h _ => ?_) (fun i acc x H H' Qy hi ha h e hy hq => ?_) (fun acc H ha h e => ?_)
  · obtain ⟨h1, ⟨ys, h2⟩, as, h3, h4⟩ := h
    exact ⟨fun b o hb => by rw [upd_ne (ne_some hb hD)]; exact h1 _ _ hb, ⟨_, upd_same⟩, as, h3, h4.keep h2⟩
  · obtain ⟨h1, ⟨ys, h2⟩, as, h3, h4⟩ := h
    refine hs i x H H' Qy hi h1 hy fun t H4 s4 h5 => ?_
    have s04 := (hY _ _ _ _ hy).trans s4
    refine hq (.ref t) H4 (s04 _ _ e) ⟨h1.trans s04, ⟨_, s04 _ _ h2⟩, as ++ [t], by rw [h3, List.map_append]; rfl, ?_⟩
    rw [List.range_succ, List.map_append]
    exact (h4.same s04).snoc h5
  · obtain ⟨h1, _, as, h3, h4⟩ := h
    exact hd D H hD h1 ⟨as, by rw [← h3]; exact e, h4⟩
theorem lcr_tupsD {J : It} {n : Nat} {G : Hp → Prop} {Y : Nat → Hp → V → Hp → Prop} (w : Walk J n G Y) {g : TG} {te : TE} {vs : List Nat} {σ : L2.St} {H1 : Hp} {Q : VK} {a : Addr} (R : List Int → Prop) (hs1 : Src H1 a) (hn : n ≤ 1000)
    (hG : ∀ H, Sx a H1 H → G H) (hY : ∀ i x H H', Y i H x H' → Same H H')
    (hs : ∀ i x H H' (Qy : VK), i < n → Sx a H1 H → Src H' a → Y i H x H' → (∀ t z H4, Sx a H' H4 → Src H4 a → R z → H4 t = some (.tup (z.map V.int)) → Qy (.ref t) H4) → g x (wipe σ vs) H' fun σ2 H2 => wipe σ2 vs = wipe σ vs ∧ te σ2 H2 Qy)
    (hd : ∀ D zs H, H1 D = none → Sx a H1 H → Src H a → zs.length = n → (∀ z ∈ zs, R z) → LstT H D zs → Q (.ref D) H) : LcR J g tYes te vs σ H1 Q := fun D hD => by
  have nDa : D ≠ a := hs1.ne hD
  refine lc_gen w (fun i acc H => Sx a H1 H ∧ Src H a ∧ (∃ ys, H D = some (.lst ys)) ∧ ∃ as zs, acc = as.map V.ref ∧ AsT H as zs ∧ zs.length = i ∧ ∀ z ∈ zs, R z) (Nat.le_trans hn (by decide)) ⟨Sx.of (Same.new hD), hs1.same (Same.new hD), ⟨_, upd_same⟩, [], [], rfl, AsT.nil, rfl, by simp⟩ (fun i acc H _ h _ => hG H h.1) (fun i acc H l h _ => ?_) (fun i acc x H H' Qy hi ha h e hy hq => ?_) (fun acc H ha h e => ?_)
  · obtain ⟨h1, h1s, ⟨ys, h2⟩, as, zs, h3, h4, h5, h6⟩ := h
    exact ⟨fun b o nb hb => by rw [upd_ne (ne_some hb hD)]; exact h1 _ _ nb hb, h1s.put nDa.symm, ⟨_, upd_same⟩, as, zs, h3, h4.keep h2, h5, h6⟩
  · obtain ⟨h1, h1s, ⟨ys, h2⟩, as, zs, h3, h4, h5, h6⟩ := h
    have sy := hY _ _ _ _ hy
    refine hs i x H H' Qy hi h1 (h1s.same sy) hy fun t z H4 s4 hs4 hz ht => ?_
    have h4' := h4.same sy
    have h44 : AsT H4 as zs := ⟨h4'.1, fun j t g e1 e2 => by
      have e3 := h4'.2 j t g e1 e2
      exact s4 _ _ ((h1s.same sy).ne_of e3 fun _ _ _ => by simp) e3⟩
    refine hq (.ref t) H4 (s4 _ _ nDa (sy _ _ e)) ⟨(h1.trans (Sx.of sy)).trans s4, hs4, ⟨_, s4 _ _ nDa (sy _ _ h2)⟩, as ++ [t], zs ++ [z], by rw [h3, List.map_append]; rfl, h44.snoc ht, by rw [List.length_append, h5]; rfl, fun y hy2 => ?_⟩
    rcases List.mem_append.mp hy2 with h | h
    · exact h6 y h
    · rw [List.mem_singleton.mp h]; exact hz
  · obtain ⟨h1, h1s, _, as, zs, h3, h4, h5, h6⟩ := h
    exact hd D zs H hD h1 h1s h5 h6 ⟨as, by rw [← h3]; exact e, h4⟩
theorem range_get {α : Type} (l : List (List Int)) (f : List Int → List Int) : (List.range l.length).map (fun i => f (l.getD i [])) = l.map f := by
  refine List.ext_getElem (by simp) fun i h1 h2 => ?_
  simp only [List.length_map, List.length_range] at h1
  rw [List.getElem_map, List.getElem_map, List.getElem_range, List.getD_eq_getElem?_getD, List.getElem?_eq_getElem h1]
  rfl
theorem range_getI (l : List Int) (f : Int → List Int) : (List.range l.length).map (fun i => f (l.getD i 0)) = l.map f := by
  refine List.ext_getElem (by simp) fun i h1 h2 => ?_
  simp only [List.length_map, List.length_range] at h1
  rw [List.getElem_map, List.getElem_map, List.getElem_range, List.getD_eq_getElem?_getD, List.getElem?_eq_getElem h1]
  rfl
end

/-! ### all seats, as the laws make them -/
section
variable {P : Program} {w : World} {K : PySem.W.Frag} {mg : Str → Option Value} {base : Heap}
theorem catA_ints {H : Hp} {a b : Addr} {xs ys : List Int} {Q : VK} (h1 : H a = some (.tup (xs.map V.int))) (h2 : H b = some (.tup (ys.map V.int))) (hz : xs.length + ys.length ≤ 1000) (q : ∀ c H', Same H H' → H' c = some (.tup ((xs ++ ys).map V.int)) → Q (.ref c) H') : rCatA K (.ref a) (.ref b) H Q := by
  refine ⟨a, b, _, _, rfl, rfl, .inl (.inl h1), .inl (.inl h2), by rw [List.length_map, List.length_map]; exact Nat.le_trans hz (by decide), fun e => ?_, fun _ e => ?_, fun _ _ p hp => ?_⟩
  · obtain rfl := List.map_eq_nil_iff.mp e
    exact q b H (Same.refl _) h2
  · obtain rfl := List.map_eq_nil_iff.mp e
    refine q a H (Same.refl _) ?_
    rw [List.append_nil]
    exact h1
  · refine q p _ (Same.new hp) ?_
    rw [upd_same, List.map_append]
theorem slA_ints {H : Hp} {a : Addr} {xs ys : List Int} {lo hi : Option Int} {Q : VK} (h1 : H a = some (.tup (xs.map V.int))) (e : cutV (xs.map V.int) lo hi = ys.map V.int) (q : ∀ c H', Same H H' → H' c = some (.tup (ys.map V.int)) → Q (.ref c) H') : rSlA K (.ref a) lo hi H Q := by
  refine ⟨a, _, rfl, .inl (.inl h1), fun hw => ?_, fun _ p hp => ?_⟩
  · refine q a H (Same.refl _) ?_
    rw [← e]
    unfold cutV
    rw [hw.1, hw.2, List.drop_zero, Nat.sub_zero, List.take_length]
    exact h1
  · refine q p _ (Same.new hp) ?_
    rw [upd_same, e]
theorem cut_take {xs : List Int} {n : Nat} : cutV (xs.map V.int) none (some (n : Int)) = (xs.take n).map V.int := by
  unfold cutV
  rw [HT.sIx_none, HT.sIx_nat]
  show ((xs.map V.int).drop 0).take (min n (xs.map V.int).length - 0) = _
  rw [List.drop_zero, Nat.sub_zero, List.map_take, List.length_map]
  by_cases h : n ≤ xs.length
  · rw [Nat.min_eq_left h]
  · rw [Nat.min_eq_right (by omega), List.take_of_length_le (by rw [List.length_map]; omega), List.take_of_length_le (by rw [List.length_map]; omega)]
theorem cut_drop {xs : List Int} {n : Nat} (h : n ≤ xs.length) : cutV (xs.map V.int) (some (n : Int)) none = (xs.drop n).map V.int := by
  unfold cutV
  rw [HT.sIx_nat, HT.sIx_none, List.length_map, Nat.min_eq_left h, List.map_drop]
  rw [List.take_of_length_le]
  rw [List.length_drop, List.length_map]
  exact Nat.le_refl _

/-- every seat -/
def rngI (s : Int) : List Int := (List.range s.toNat).map fun (i : Nat) => (i : Int)
def allI (ss : List Int) : List (List Int) := choI (ss.map rngI)
/-- behind j of the rows that are made longer -/
def ExtAt (H3 : Hp) (D : Addr) (found : List (List Int)) (parts : List Int) (j : Nat) (H' : Hp) : Prop := Same H3 H' ∧ ∃ bs : List Addr, H' D = some (.lst (bs.map V.ref)) ∧ AsT H' bs (choF (found.take j) parts)
theorem ExtAt.init {H3 : Hp} {D : Addr} {found : List (List Int)} {parts : List Int} (hD : H3 D = none) : ExtAt H3 D found parts 0 (upd H3 D (.lst [])) := ⟨Same.new hD, [], upd_same, AsT.nil⟩
theorem choF_more {found : List (List Int)} {parts : List Int} {j : Nat} {h : List Int} (e : found[j]? = some h) : choF (found.take (j + 1)) parts = choF (found.take j) parts ++ parts.map fun x => h ++ [x] := by
  unfold choF
  rw [List.take_add_one, e, List.flatMap_append]
  simp
theorem ExtAt.step {H3 H' H4 : Hp} {D D2 : Addr} {found : List (List Int)} {parts : List Int} {j : Nat} {h : List Int} (hD : H3 D = none) (k : ExtAt H3 D found parts j H') (e : found[j]? = some h) (s : Same H' H4) (hL : LstT H4 D2 (parts.map fun x => h ++ [x])) (hz : found.length * parts.length ≤ 1000) :
    ∃ ys zs, H4 D = some (.lst ys) ∧ H4 D2 = some (.lst zs) ∧ ys.length + zs.length ≤ sizeLine ∧ ExtAt H3 D found parts (j + 1) (upd H4 D (.lst (ys ++ zs))) := by
  obtain ⟨s1, bs, hb, hA⟩ := k
  obtain ⟨cs, hc, hC⟩ := hL
  have hb4 := s _ _ hb
  have hA2 := (hA.same s).app hC
  refine ⟨_, _, hb4, hc, ?_, ?_, bs ++ cs, by rw [upd_same, List.map_append], ?_⟩
  · have l1 := hA2.1
    rw [← choF_more e, choF_len] at l1
    rw [List.length_map, List.length_map, ← List.length_append, l1]
    refine Nat.le_trans (Nat.mul_le_mul_right _ (?_ : _ ≤ found.length)) (Nat.le_trans hz (by decide))
    rw [List.length_take]
    omega
  · intro b o hb2
    rw [upd_ne (ne_some hb2 hD)]
    exact s _ _ (s1 _ _ hb2)
  · rw [choF_more e]
    exact hA2.keep hb4
theorem allI_take {ss : List Int} {i : Nat} {s : Int} (h : ss[i]? = some s) : allI (ss.take (i + 1)) = choF (allI (ss.take i)) (rngI s) := by
  unfold allI choI
  rw [List.map_take, List.map_take]
  exact cho_take (by rw [List.getElem?_map, h]; rfl)
theorem allI_cnt (ss : List Int) : allI ss = (List.range (Cs.cnt (toN ss))).map (iS (toN ss)) := by
  rw [← cho_iS]
  unfold allI toN
  rw [List.map_map]
  rfl
theorem allI_few {ss : List Int} (z : Sz ss) (h : prodI ss ≤ 1000) (i : Nat) : (allI (ss.take i)).length ≤ 1000 := by
  rw [allI_cnt, List.length_map, List.length_range]
  have h1 := cnt_prod z.pos
  have h2 := (Cs.cnt_take (ss := toN ss) (fun n hn => by
    obtain ⟨x, hx, rfl⟩ := List.mem_map.mp hn
    have := z.pos x hx
    omega) i).1
  have h3 : toN (ss.take i) = (toN ss).take i := by unfold toN; rw [List.map_take]
  rw [h3]
  omega
theorem sz_900 {ss : List Int} (z : Sz ss) (h : prodI ss ≤ 900) : ∀ s ∈ ss, 0 ≤ s ∧ s ≤ 900 := fun s hs => by
  have h1 := cnt_prod z.pos
  have h2 := Lw.mem_cnt (s := s.toNat) (ss := toN ss) (fun n hn => by
    obtain ⟨x, hx, rfl⟩ := List.mem_map.mp hn
    have := z.pos x hx
    omega) (List.mem_map.mpr ⟨s, hs, rfl⟩)
  have := z.pos s hs
  omega
end

section
variable {P : Program} {w : World} {K : PySem.W.Frag} {mg : Str → Option Value} {base : Heap}
def MAl (l : Addr) (ss : List Int) (i : Nat) (H : Hp) (σ : L2.St) (H' : Hp) : Prop := ∃ (L : Addr) (v2 v3 v4 v5 : Option V), σ = [some (V.ref l), some (V.ref L), v2, v3, v4, v5] ∧ Same H H' ∧ LstT H' L (allI (ss.take i))
def MAi (l L D : Addr) (s : Int) (found : List (List Int)) (H3 : Hp) (j : Nat) (σ : L2.St) (H' : Hp) : Prop := ∃ (v4 v5 : Option V), σ = [some (V.ref l), some (V.ref L), some (V.int s), some (V.ref D), v4, v5] ∧ ExtAt H3 D found (rngI s) j H'
def sp_law_seats (K : PySem.W.Frag) : Sp := fun vs H Q _ => ∃ (k : Bool) (l : Addr) (ss : List Int), vs = [.ref l] ∧ Sqh k H l (ss.map V.int) ∧ Sz ss ∧ prodI ss ≤ 900 ∧ ∀ H' L, Same H H' → LstT H' L (allI ss) → Q (.ref L) H'
theorem ok_law_seats (T : Tx K mg) : FnOk P w K mg base CX0 1 T.f_law_seats T.fd_law_seats ["_law_rings_here"] (sp_law_seats K) := by
  refine T.F_law_seats.ok sc_law_seats (fun vs H Q E h => ?_) (fun cdv A outer s H vs Q E hr h => ?_)
  · obtain ⟨k, l, ss, rfl, _⟩ := h; rfl
  · obtain ⟨k, l, ss, rfl, hl, zz, hp9, q⟩ := h
    have h4 := zz.hi
    have hss := sz_900 zz hp9
    have hz := allI_few zz (by omega)
    refine ⟨_, (pss_cons (ps_set (i := 1) sc_law_seats.nd rfl (Or.inl rfl) (pe_lst (pa_cons (pe_tup pa_nil) pa_nil)))
      (pss_cons (ps_for PassesOwn.never rfl (pi_seqH (pv 0)) (pg_name (i := 2) sc_law_seats.nd rfl (Or.inl rfl))
        (pss_cons (ps_set (i := 3) sc_law_seats.nd rfl (Or.inl rfl) (pe_lst pa_nil))
        (pss_cons (ps_for PassesOwn.never rfl (pi_seqH (pv 1)) (pg_name (i := 4) sc_law_seats.nd rfl (Or.inr rfl))
          (pss_one (ps_expr (pe_extendL (pv 3) (pa_cons (pe_lc (own := [("_law_place", 5)]) (g := (gName 5)) (tt := tYes) rfl sc_law_seats.nd (pi_range1H (by rfl) T.n_range (pa_cons (pv 2) pa_nil)) (blkOk_by (own := [("_law_place", 5)]) (N := N_law_seats) (sc := defScope d_law_seats) (by decide +kernel)) (fun _ _ _ _ _ => (pg_name (i := 5) sc_law_seats.nd rfl (Or.inl rfl))) (fun _ _ _ _ _ => pts_nil) (fun _ _ _ _ _ => (pe_op (op_catAK (K := K) rfl) (pv 4) (pe_tup (pa_cons (pv 5) pa_nil))))) pa_nil)))))
        (pss_one (ps_set (i := 1) sc_law_seats.nd rfl (Or.inl rfl) (pv 3))))))
      (pss_one (ps_ret (pv 1))))), ?_⟩
    walk_at "rd"
    intro p hp p1 hp1
    obtain ⟨hp1n, n1p⟩ := upd_none_of hp1
    have s1 := (Same.new hp (o := .tup [])).trans (Same.new hp1 (o := .lst [V.ref p]))
    have fp := Same.new hp1 (o := .lst [V.ref p]) _ _ (upd_same : (upd H p (.tup [])) p = some (.tup []))
    have fL : LstT (upd (upd H p (.tup [])) p1 (.lst [V.ref p])) p1 [[]] := ⟨[p], upd_same, AsT.snoc (hs := []) AsT.nil fp⟩
    generalize upd (upd H p (HO.tup [])) p1 (HO.lst [V.ref p]) = H1 at s1 fL ⊢
    refine seq_or (hl.same s1) fun J W => ?_
    refine forr W (fun i σ H' => MAl l ss i H σ H') ⟨p1, none, none, none, none, rfl, s1, fL⟩ (fun i σ H' _ h => by obtain ⟨_, _, _, _, _, _, h, _⟩ := h; exact hl.same h) ?_ ?_
    · rintro i x σ H2 H3 hi ⟨L, v2, v3, v4, v5, rfl, s2, hL⟩ ⟨rfl, hx⟩
      simp only [List.getElem?_map, Option.map_eq_some_iff] at hx
      obtain ⟨s, hs, rfl⟩ := hx
      have hsb := hss s (List.mem_of_getElem? hs)
      have hz2 := hz (i + 1)
      rw [allI_take hs, choF_len] at hz2
      have at2 := allI_take hs
      generalize hfd : allI (ss.take i) = found at *
      obtain ⟨as, hLs, hAs⟩ := hL
      walk_at "rd"
      intro D hD
      have nLD : L ≠ D := ne_some hLs hD
      refine .inl ⟨_, Same.new hD _ _ hLs, fun J2 W2 => ?_⟩
      refine forr W2 (fun j σ H' => MAi l L D s found H3 j σ H') ⟨v4, v5, rfl, .init hD⟩ (fun j σ H' _ h => by obtain ⟨_, _, _, h, _⟩ := h; exact h _ _ hLs) ?_ ?_
      · rintro j x σ H4o H4 hj ⟨v4, v5, rfl, k4⟩ ⟨rfl, hx⟩
        simp only [List.getElem?_map, Option.map_eq_some_iff] at hx
        obtain ⟨t, ht, rfl⟩ := hx
        have hjl : j < found.length := by rw [← hAs.1]; exact (List.getElem?_eq_some_iff.mp ht).1
        have hrow := hAs.2 j t _ ht (List.getElem?_eq_getElem hjl)
        have hrow4 := k4.1 _ _ hrow
        obtain ⟨bs, hb, _⟩ := id k4.2
        have hrl : found[j].length ≤ 4 := by
          have h1 := cho_in ((ss.take i).map rngI) [[]] 0 (by simp) found[j] (by rw [show ((ss.take i).map rngI).foldl choF [[]] = found from hfd]; exact List.getElem_mem hjl)
          rw [List.length_map, List.length_take] at h1
          omega
        walk_at "rd"
        refine ⟨⟨_, hb⟩, by omega, by omega, fun J3 W3 => ?_⟩
        refine lcr_tups W3 (fun i => found[j] ++ [(i : Int)]) (by omega) (fun _ _ => trivial) (fun i x H H' y => by rw [y.1]; exact Same.refl _) ?_ ?_
        · rintro i2 x H5 H6 Qy hi2 s5 ⟨rfl, rfl⟩ hq
          walk_at "rd"
          intro g hg
          have sg := Same.new hg (o := .tup [V.int (i2 : Nat)])
          refine catA_ints (ys := [(i2 : Int)]) (sg _ _ (s5 _ _ hrow4)) upd_same (by simp; omega) fun c H7 s7 hc => hq c H7 (sg.trans s7) hc
        · intro D2 H5 hD2 s5 hL5
          obtain ⟨ys, zs, e1, e2, e3, e4⟩ := k4.step (h := found[j]) (D2 := D2) hD (List.getElem?_eq_getElem hjl) s5 (by
            rw [show (rngI s).map (fun x => found[j] ++ [x]) = (List.range s.toNat).map fun (i : Nat) => found[j] ++ [(i : Int)] by unfold rngI; rw [List.map_map]; rfl]
            exact hL5) hz2
          exact ⟨D2, rfl, ys, e1, zs, e2, e3, _, _, rfl, e4⟩
      · rintro σ H4 ⟨v4, v5, rfl, s4, bs, hb, hA⟩
        rw [List.length_map, hAs.1, List.take_length] at hA
        walk_at "rd"
        exact ⟨D, _, _, _, _, rfl, s2.trans s4, bs, hb, by rw [at2]; exact hA⟩
    · rintro σ H2 ⟨L, v2, v3, v4, v5, rfl, s2, hL⟩
      rw [List.length_map, List.take_length] at hL
      walk_at "rd"
      exact q _ L s2 hL
end

/-! ### comprehensions by what their entries are; dicts from pairs -/
section
variable {P : Program} {w : World} {K : PySem.W.Frag} {mg : Str → Option Value} {base : Heap}
theorem lcr_acc {β : Type} {J : It} {n : Nat} {G : Hp → Prop} {Y : Nat → Hp → V → Hp → Prop} (w : Walk J n G Y) {g : TG} {te : TE} {vs : List Nat} {σ : L2.St} {H1 : Hp} {Q : VK} (P : Hp → V → β → Prop) (hP : ∀ {H H' : Hp} {y b}, P H y b → Tp H H' → P H' y b) (bs : List β) (hl : bs.length = n) (hn : n ≤ 1000)
    (hG : ∀ H, Same H1 H → G H) (hY : ∀ i x H H', Y i H x H' → Same H H')
    (hs : ∀ i x b H H' (Qy : VK), i < n → bs[i]? = some b → Same H1 H → Y i H x H' → (∀ y H4, Same H' H4 → P H4 y b → Qy y H4) → g x (wipe σ vs) H' fun σ2 H2 => wipe σ2 vs = wipe σ vs ∧ te σ2 H2 Qy)
    (hd : ∀ D ys H, H1 D = none → Same H1 H → H D = some (.lst ys) → ys.length = bs.length → (∀ (i : Nat) y b, ys[i]? = some y → bs[i]? = some b → P H y b) → Q (.ref D) H) : LcR J g tYes te vs σ H1 Q := fun D hD => by
  refine lc_gen w (fun i acc H => AccP P H1 D (bs.take i) acc H) (Nat.le_trans hn (by decide)) (.init hD) (fun i acc H _ h _ => hG H h.1) (fun i acc H l h _ => ?_) (fun i acc x H H' Qy hi ha h e hy hq => ?_) (fun acc H ha h e => ?_)
  · obtain ⟨l0, e⟩ := h.2.1
    exact h.put hP hD e
  · have hb := List.getElem?_eq_getElem (by omega : i < bs.length)
    refine hs i x _ H H' Qy hi hb h.1 hy fun y H4 s4 hp => ?_
    have s04 := (hY _ _ _ _ hy).trans s4
    refine hq y H4 (s04 _ _ e) ?_
    rw [List.take_add_one, hb]
    exact AccP.snoc hP h s04 hp
  · have ht : bs.take n = bs := by rw [← hl]; exact List.take_length
    rw [ht] at h
    exact hd D acc H hD h.1 e h.2.2.1 h.2.2.2
/-- a pair of tuples of ints -/
def PP (H : Hp) (y : V) (z : List Int × List Int) : Prop := ∃ r b t, y = .ref r ∧ H r = some (.tup [.ref b, .ref t]) ∧ H b = some (.tup (z.1.map V.int)) ∧ H t = some (.tup (z.2.map V.int))
theorem PP.tp {H H' : Hp} {y : V} {z : List Int × List Int} (h : PP H y z) (s : Tp H H') : PP H' y z := by
  obtain ⟨r, b, t, h1, h2, h3, h4⟩ := h
  exact ⟨r, b, t, h1, s _ _ h2, s _ _ h3, s _ _ h4⟩
theorem pp_paired {H : Hp} : ∀ {ys : List V} {zs : List (List Int × List Int)}, ys.length = zs.length → (∀ (i : Nat) y z, ys[i]? = some y → zs[i]? = some z → PP H y z) →
    ∃ ps kvs, ys = ps.map V.ref ∧ Paired (PairT K H) ps kvs ∧ (∀ z ∈ zs, ∃ q ∈ kvs, q.1 = kS z.1) ∧ ∀ q ∈ kvs, ∃ z ∈ zs, ∃ t, q = (kS z.1, V.ref t) ∧ H t = some (.tup (z.2.map V.int))
  | [], [], _, _ => ⟨[], [], rfl, .nil, by simp, by simp⟩
  | y :: ys, z :: zs, hl, h => by
    obtain ⟨r, b, t, rfl, h2, h3, h4⟩ := h 0 y z rfl rfl
    obtain ⟨ps, kvs, e, hp, h5, h6⟩ := pp_paired (ys := ys) (zs := zs) (by simpa using hl) fun i y z h1 h2 => h (i + 1) y z h1 h2
    refine ⟨r :: ps, (kS z.1, .ref t) :: kvs, by rw [e]; rfl, .cons ⟨b, .inl (.inl h2), by rw [h3]; show _ = some (HO.tup ((kS z.1).map kV)); rw [kS_kV]⟩ hp, fun z' hz => ?_, fun q hq => ?_⟩
    · rcases List.mem_cons.mp hz with rfl | hz
      · exact ⟨_, List.mem_cons_self .., rfl⟩
      · obtain ⟨q, hq, e⟩ := h5 z' hz
        exact ⟨q, List.mem_cons_of_mem _ hq, e⟩
    · rcases List.mem_cons.mp hq with rfl | hq
      · exact ⟨z, List.mem_cons_self .., t, rfl, h4⟩
      · obtain ⟨z', hz, t', e⟩ := h6 q hq
        exact ⟨z', List.mem_cons_of_mem _ hz, t', e⟩
  | [], _ :: _, h, _ => by simp at h
  | _ :: _, [], h, _ => by simp at h
theorem valV_merge {k : List Key} : ∀ {more kvs : List (List Key × V)}, (∃ q ∈ more, q.1 = k) → ∃ q ∈ more, q.1 = k ∧ valV (mergeT kvs more) k = some q.2
  | [], _, h => by obtain ⟨q, hq, _⟩ := h; simp at hq
  | p :: r, kvs, h => by
    show ∃ q ∈ p :: r, q.1 = k ∧ valV (mergeT (putK kvs p.1 p.2) r) k = some q.2
    by_cases c : ∃ q ∈ r, q.1 = k
    · obtain ⟨q, hq, e, hv⟩ := valV_merge (kvs := putK kvs p.1 p.2) c
      exact ⟨q, List.mem_cons_of_mem _ hq, e, hv⟩
    · have e : p.1 = k := by
        obtain ⟨q, hq, e⟩ := h
        rcases List.mem_cons.mp hq with rfl | hq
        · exact e
        · exact absurd ⟨q, hq, e⟩ c
      have key : ∀ (r kvs : List (List Key × V)), (∀ q ∈ r, q.1 ≠ k) → valV (mergeT kvs r) k = valV kvs k := fun r => by
        induction r with
        | nil => intro _ _; rfl
        | cons x r ih =>
          intro kvs h
          show valV (mergeT (putK kvs x.1 x.2) r) k = _
          rw [ih _ fun q hq => h q (List.mem_cons_of_mem _ hq), valV_put, if_neg (h x (List.mem_cons_self ..)).symm]
      refine ⟨p, List.mem_cons_self .., e, ?_⟩
      rw [key r _ fun q hq e => c ⟨q, hq, e⟩, valV_put, if_pos e.symm]
/-- the dict tells F of all of gs -/
def DT (H : Hp) (kvs : List (List Key × V)) (gs : List (List Int)) (F : List Int → List Int) : Prop := ∀ g ∈ gs, ∃ t, valV kvs (kS g) = some (.ref t) ∧ H t = some (.tup ((F g).map V.int))
theorem DT.tp {H H' : Hp} {kvs : List (List Key × V)} {gs : List (List Int)} {F : List Int → List Int} (h : DT H kvs gs F) (s : Tp H H') : DT H' kvs gs F := fun g hg => by
  obtain ⟨t, h1, h2⟩ := h g hg
  exact ⟨t, h1, s _ _ h2⟩
theorem DT.put {H : Hp} {kvs : List (List Key × V)} {gs : List (List Int)} {F : List Int → List Int} (h : DT H kvs gs F) {g : List Int} {t : Addr} (ht : H t = some (.tup ((F g).map V.int))) : DT H (putK kvs (kS g) (.ref t)) (gs ++ [g]) F := fun x hx => by
  rw [valV_put]
  by_cases e : kS x = kS g
  · rw [if_pos e, kS_inj e]
    exact ⟨t, rfl, ht⟩
  · rw [if_neg e]
    rcases List.mem_append.mp hx with hx | hx
    · exact h x hx
    · rw [List.mem_singleton.mp hx] at e
      exact absurd rfl e
theorem DT.made {H : Hp} {kvs : List (List Key × V)} {gs : List (List Int)} {F : List Int → List Int} {zs : List (List Int × List Int)} (h1 : ∀ z ∈ zs, ∃ q ∈ kvs, q.1 = kS z.1) (h2 : ∀ q ∈ kvs, ∃ z ∈ zs, ∃ t, q = (kS z.1, V.ref t) ∧ H t = some (.tup (z.2.map V.int)))
    (hg : ∀ g ∈ gs, ∃ z ∈ zs, z.1 = g) (hF : ∀ z ∈ zs, z.2 = F z.1) : DT H (mergeT [] kvs) gs F := fun g hm => by
  obtain ⟨z, hz, rfl⟩ := hg g hm
  obtain ⟨q, hq, e, hv⟩ := valV_merge (kvs := []) (h1 z hz)
  obtain ⟨z', hz', t, rfl, ht⟩ := h2 q hq
  have e : kS z'.1 = kS z.1 := e
  refine ⟨t, hv, ?_⟩
  rw [ht, hF z' hz', kS_inj e]
/-- a tuple of ints -/
def TPt (H : Hp) (y : V) (b : List Int) : Prop := ∃ t, y = .ref t ∧ H t = some (.tup (b.map V.int))
theorem TPt.tp {H H' : Hp} {y : V} {b : List Int} (h : TPt H y b) (s : Tp H H') : TPt H' y b := by
  obtain ⟨t, h1, h2⟩ := h
  exact ⟨t, h1, s _ _ h2⟩
theorem asT_of {H : Hp} : ∀ {ys : List V} {bs : List (List Int)}, ys.length = bs.length → (∀ (i : Nat) y b, ys[i]? = some y → bs[i]? = some b → TPt H y b) → ∃ as : List Addr, ys = as.map V.ref ∧ AsT H as bs
  | [], [], _, _ => ⟨[], rfl, AsT.nil⟩
  | y :: ys, b :: bs, hl, h => by
    obtain ⟨t, rfl, ht⟩ := h 0 y b rfl rfl
    obtain ⟨as, e, hA⟩ := asT_of (ys := ys) (bs := bs) (by simpa using hl) fun i y z h1 h2 => h (i + 1) y z h1 h2
    refine ⟨t :: as, by rw [e]; rfl, by have := hA.1; simp [this], fun i u g h1 h2 => ?_⟩
    cases i with
    | zero =>
      simp only [List.getElem?_cons_zero, Option.some.injEq] at h1 h2
      subst h1 h2
      exact ht
    | succ i => exact hA.2 i u g (by simpa using h1) (by simpa using h2)
  | [], _ :: _, h, _ => by simp at h
  | _ :: _, [], h, _ => by simp at h
theorem lstT_of {H : Hp} {D : Addr} {ys : List V} {bs : List (List Int)} (h : H D = some (.lst ys)) (hl : ys.length = bs.length) (hp : ∀ (i : Nat) y b, ys[i]? = some y → bs[i]? = some b → TPt H y b) : LstT H D bs := by
  obtain ⟨as, rfl, hA⟩ := asT_of hl hp
  exact ⟨as, h, hA⟩
theorem neD_tups' {H : Hp} {a b : Addr} {hss : List (List Int)} {Q : VK} (h1 : LstT H a hss) (h2 : LstT H b hss) (q : Q (.bl false) H) : rNeD K (.ref a) (.ref b) H Q :=
  ⟨_, _, dp_lstT h1, dp_lstT h2, shaped_tups _, shaped_tups _, by rw [show PyData.eqv (.list (hss.map tupI)) (.list (hss.map tupI)) = decide (hss = hss) from eqv_tups hss hss, decide_eq_true rfl]; exact q⟩
theorem depth_tups : ∀ hss : List (List Int), PyData.depthAll (hss.map tupI) ≤ 1
  | [] => by decide
  | h :: hss => by
    show max (PyData.depth (tupI h)) (PyData.depthAll (hss.map tupI)) ≤ 1
    rw [depth_tupI]
    have := depth_tups hss
    omega
def rowD (r : List (List Int)) : PyData := .list (r.map tupI)
theorem lay_rows : ∀ rows : List (List (List Int)), PyData.canLayAll0 (rows.map rowD) = true
  | [] => rfl
  | r :: rows => by
    show (PyData.canLay0 (rowD r) && PyData.canLayAll0 (rows.map rowD)) = true
    rw [lay_rows rows, show PyData.canLay0 (rowD r) = true from SeqAt.canLay_of_shaped (shaped_tups r)]
    rfl
theorem dep_rows : ∀ rows : List (List (List Int)), PyData.depthAll (rows.map rowD) ≤ 2
  | [] => by decide
  | r :: rows => by
    show max (PyData.depthAll (r.map tupI) + 1) (PyData.depthAll (rows.map rowD)) ≤ 2
    have := dep_rows rows
    have := depth_tups r
    omega
theorem shaped_rows (rows : List (List (List Int))) : SeqAt.shaped (.list (rows.map rowD)) = true := by
  have h1 : PyData.canLay0 (.list (rows.map rowD)) = true := lay_rows rows
  have h2 : PyData.depth (.list (rows.map rowD)) ≤ 64 := by
    show PyData.depthAll (rows.map rowD) + 1 ≤ 64
    have := dep_rows rows
    omega
  unfold SeqAt.shaped
  rw [h1, decide_eq_true h2]
  rfl
theorem dpAll_rows {H : Hp} : ∀ {ds : List Addr} {rows : List (List (List Int))}, ds.length = rows.length → (∀ (i : Nat) d r, ds[i]? = some d → rows[i]? = some r → LstT H d r) → DpAll K H (ds.map V.ref) (rows.map rowD)
  | [], [], _, _ => .nil
  | d :: ds, r :: rows, hl, h => .cons (dp_lstT (h 0 d r rfl rfl)) (dpAll_rows (by simpa using hl) fun i d r h1 h2 => h (i + 1) d r h1 h2)
  | [], _ :: _, h, _ => by simp at h
  | _ :: _, [], h, _ => by simp at h
theorem neD_lay {H : Hp} {a b : Addr} {rows : List (List (List Int))} {Q : VK} (h1 : LayL H a rows) (h2 : LayL H b rows) (q : Q (.bl false) H) : rNeD K (.ref a) (.ref b) H Q := by
  obtain ⟨ds, e1, l1, f1⟩ := h1
  obtain ⟨ds', e2, l2, f2⟩ := h2
  refine ⟨_, _, .lst (.inl (.inl e1)) (dpAll_rows l1 f1), .lst (.inl (.inl e2)) (dpAll_rows l2 f2), shaped_rows rows, shaped_rows rows, ?_⟩
  rw [SeqAt.eqv_refl _ (SeqAt.canLay_of_shaped (shaped_rows rows))]
  exact q
end

/-! ### k21: the numbers by the rules: mathematics and dicts -/
section
variable {P : Program} {w : World} {K : PySem.W.Frag} {mg : Str → Option Value} {base : Heap}
/-- p is known after n rounds -/
def kn (ss : List Int) (gs : List (List Int)) (n : Nat) (p : List Int) : Bool := Un (toN ss) (tgB (ixs ss gs)) n (ix ss p)
theorem lev_some {ss : List Int} {gs : List (List Int)} {p : List Int} {n : Nat} (hp : Seat ss p) : lev ss gs p = some n ↔ kn ss gs n p = true ∧ ∀ m, m < n → kn ss gs m p = false := lvl_some (ix_lt hp)
theorem kn_le {ss : List Int} {gs : List (List Int)} {p : List Int} {n m : Nat} (hp : Seat ss p) (h : n ≤ m) (k : kn ss gs n p = true) : kn ss gs m p = true := un_le (ix_lt hp) h k
theorem kn_lev {ss : List Int} {gs : List (List Int)} {p : List Int} (hp : Seat ss p) : ∀ {n : Nat}, kn ss gs n p = true → ∃ m, m ≤ n ∧ lev ss gs p = some m
  | 0, k => ⟨0, Nat.le_refl _, (lev_some hp).mpr ⟨k, fun m hm => absurd hm (Nat.not_lt_zero _)⟩⟩
  | n + 1, k => by
    by_cases c : kn ss gs n p = true
    · obtain ⟨m, h1, h2⟩ := kn_lev hp c
      exact ⟨m, by omega, h2⟩
    · refine ⟨n + 1, Nat.le_refl _, (lev_some hp).mpr ⟨k, fun m hm => ?_⟩⟩
      cases e : kn ss gs m p with
      | false => rfl
      | true => exact absurd (kn_le hp (by omega) e) c
theorem lev_kn {ss : List Int} {gs : List (List Int)} {p : List Int} (hp : Seat ss p) {m n : Nat} (h : lev ss gs p = some m) : kn ss gs n p = decide (m ≤ n) := by
  obtain ⟨h1, h2⟩ := (lev_some hp).mp h
  by_cases c : m ≤ n
  · rw [kn_le hp c h1, decide_eq_true c]
  · rw [h2 n (by omega), decide_eq_false c]
theorem lev_zero {ss : List Int} {gs : List (List Int)} (hg : ∀ g ∈ gs, Seat ss g) {p : List Int} (hp : Seat ss p) : lev ss gs p = some 0 ↔ p ∈ gs := by
  rw [lev_some hp, ← tgB_ix hg hp]
  exact ⟨fun h => h.1, fun h => ⟨h, fun m hm => absurd hm (Nat.not_lt_zero _)⟩⟩
theorem mid_mv : ∀ {ss p c : List Int}, Seat ss p → Seat ss c → MidL ss p (mv fw p c ss) (mv bw p c ss)
  | [], [], [], _, _ => trivial
  | s :: ss, p :: ps, c :: cs, h1, h2 => by
    refine ⟨?_, mid_mv (seat_cons h1).2 (seat_cons h2).2⟩
    obtain ⟨k1, e1⟩ := dvd_smod (p + c) s
    obtain ⟨k2, e2⟩ := dvd_smod (p - c) s
    refine ⟨k1 + k2, ?_⟩
    show (p + c) % s + (p - c) % s - 2 * p = _
    rw [Int.mul_add, ← e1, ← e2]
    omega
  | [], _ :: _, _, h, _ => by have := h.len; simp at this
  | [], [], _ :: _, _, h => by have := h.len; simp at this
  | _ :: _, [], _, h, _ => by have := h.len; simp at this
  | _ :: _, _ :: _, [], _, h => by have := h.len; simp at this
/-- the call for a middle -/
theorem mid_call : ∀ {ss p a b : List Int}, (∀ s ∈ ss, 1 ≤ s) → Seat ss p → Seat ss a → Seat ss b → MidL ss p a b → ∃ c, Seat ss c ∧ mv fw p c ss = a ∧ mv bw p c ss = b
  | [], [], [], [], _, _, _, _, _ => ⟨[], Seat.nil, rfl, rfl⟩
  | s :: ss, p :: ps, a :: as, b :: bs, hs, h1, h2, h3, hm => by
    obtain ⟨⟨a0, a1⟩, ha⟩ := seat_cons h2
    obtain ⟨⟨b0, b1⟩, hb⟩ := seat_cons h3
    have hs1 := hs s (List.mem_cons_self ..)
    obtain ⟨⟨k, hk⟩, hm2⟩ := hm
    obtain ⟨c, hc, e1, e2⟩ := mid_call (fun x hx => hs x (List.mem_cons_of_mem _ hx)) (seat_cons h1).2 ha hb hm2
    refine ⟨((a - p) % s) :: c, Seat.cons (Int.emod_nonneg _ (by omega)) (Int.emod_lt_of_pos _ (by omega)) hc, ?_, ?_⟩
    · show (p + (a - p) % s) % s :: mv fw ps c ss = _
      rw [e1, Int.add_emod_emod, show p + (a - p) = a by omega, Int.emod_eq_of_lt a0 a1]
    · show (p - (a - p) % s) % s :: mv bw ps c ss = _
      rw [e2, Int.sub_emod_emod, show p - (a - p) = b + s * (-k) by rw [Int.mul_neg, ← hk]; omega, Int.add_mul_emod_self_left, Int.emod_eq_of_lt b0 b1]
  | [], _ :: _, _, _, _, h, _, _, _ => by have := h.len; simp at this
  | [], [], _ :: _, _, _, _, h, _, _ => by have := h.len; simp at this
  | [], [], [], _ :: _, _, _, _, h, _ => by have := h.len; simp at this
  | _ :: _, [], _, _, _, h, _, _, _ => by have := h.len; simp at this
  | _ :: _, _ :: _, [], _, _, _, h, _, _ => by have := h.len; simp at this
  | _ :: _, _ :: _, _ :: _, [], _, _, _, h, _ => by have := h.len; simp at this
theorem allI_mem {ss : List Int} (z : Sz ss) {p : List Int} : p ∈ allI ss ↔ Seat ss p := by
  rw [allI_cnt]
  constructor
  · intro h
    obtain ⟨n, hn, rfl⟩ := List.mem_map.mp h
    exact dg_seat z.pos (stt_ok (List.mem_range.mp hn)).1
  · intro hp
    exact List.mem_map.mpr ⟨ix ss p, List.mem_range.mpr (ix_lt hp), iS_ix hp⟩
/-- some call from p leads to known seats alone -/
def clT (ss : List Int) (gs : List (List Int)) (n : Nat) (p : List Int) : Bool := (allI ss).any fun c => kn ss gs n (mv fw p c ss) && kn ss gs n (mv bw p c ss)
theorem kn_succ {ss : List Int} {gs : List (List Int)} {n : Nat} {p : List Int} (z : Sz ss) (hp : Seat ss p) : kn ss gs (n + 1) p = clT ss gs n p := by
  have key : kn ss gs (n + 1) p = true ↔ clT ss gs n p = true := by
    refine (un_mid z.pos hp).trans ?_
    unfold clT
    rw [List.any_eq_true]
    constructor
    · rintro ⟨a, b, ha, hb, hm, h1, h2⟩
      obtain ⟨c, hc, e1, e2⟩ := mid_call z.pos hp ha hb hm
      refine ⟨c, (allI_mem z).mpr hc, ?_⟩
      rw [e1, e2, Bool.and_eq_true]
      exact ⟨h1, h2⟩
    · rintro ⟨c, hc, h⟩
      rw [Bool.and_eq_true] at h
      have hc := (allI_mem z).mp hc
      exact ⟨_, _, mv_seat hp.len hc.len z.pos, mv_seat hp.len hc.len z.pos, mid_mv hp hc, h.1, h.2⟩
  cases h1 : kn ss gs (n + 1) p <;> cases h2 : clT ss gs n p <;> simp_all
/-- the seats of a number -/
def rowS (ss : List Int) (gs : List (List Int)) (n : Nat) : List (List Int) := (allI ss).filter fun p => decide (lev ss gs p = some n)
theorem mem_rowS {ss : List Int} {gs : List (List Int)} {n : Nat} (z : Sz ss) {p : List Int} : p ∈ rowS ss gs n ↔ Seat ss p ∧ lev ss gs p = some n := by
  unfold rowS
  rw [List.mem_filter, allI_mem z, decide_eq_true_eq]
theorem rowS_succ {ss : List Int} {gs : List (List Int)} {n : Nat} (z : Sz ss) : ((allI ss).filter fun p => !kn ss gs n p).filter (clT ss gs n) = rowS ss gs (n + 1) := by
  unfold rowS
  rw [List.filter_filter]
  refine List.filter_congr fun p hp => ?_
  have hp := (allI_mem z).mp hp
  rw [← kn_succ z hp]
  by_cases c : lev ss gs p = some (n + 1)
  · rw [lev_kn hp c, lev_kn hp c, decide_eq_true c]
    simp
  · rw [decide_eq_false c]
    cases h1 : kn ss gs n p with
    | true => simp
    | false =>
      cases h2 : kn ss gs (n + 1) p with
      | false => rfl
      | true =>
        obtain ⟨m, hm, e⟩ := kn_lev hp h2
        rw [lev_kn hp e] at h1
        have := of_decide_eq_false h1
        exact absurd (by rw [e]; congr; omega) c
theorem rowS_Rn {ss : List Int} {gs : List (List Int)} {n : Nat} (z : Sz ss) : rowS ss gs n = (Rn (toN ss) (tgB (ixs ss gs)) n).map (iS (toN ss)) := by
  have e : Rn (toN ss) (tgB (ixs ss gs)) n = (List.range (Cs.cnt (toN ss))).filter fun i => decide (lvl (toN ss) (tgB (ixs ss gs)) i = some n) := by
    refine asc_uniq Rn_asc (List.Pairwise.filter _ List.pairwise_lt_range) fun x => ?_
    rw [mem_Rn, List.mem_filter, List.mem_range, decide_eq_true_eq]
    exact ⟨fun h => ⟨h.1, (lvl_some h.1).mpr h.2⟩, fun h => ⟨h.1, (lvl_some h.1).mp h.2⟩⟩
  rw [e]
  unfold rowS
  rw [allI_cnt, List.filter_map]
  congr 1
  refine List.filter_congr fun i hi => ?_
  have hi := List.mem_range.mp hi
  show decide (lvl _ _ (ix ss (iS (toN ss) i)) = some n) = _
  have : ix ss (iS (toN ss) i) = i := by unfold ix iS; rw [toN_iN, (stt_ok hi).2.1]
  rw [this]
/-- found, behind n rounds -/
def FnD (ss : List Int) (gs : List (List Int)) (n : Nat) (kvs : List (List Key × V)) : Prop := (∀ p, Seat ss p → valV kvs (kS p) = if kn ss gs n p then (lev ss gs p).map fun m => V.int (m : Nat) else none) ∧
  (∀ q ∈ kvs, ∃ p m, Seat ss p ∧ q = (kS p, V.int (m : Nat)) ∧ lev ss gs p = some m) ∧ (kvs.map Prod.fst).Nodup
theorem mem_putK {kvs : List (List Key × V)} {k : List Key} {v : V} {q : List Key × V} (h : q ∈ putK kvs k v) : q ∈ kvs ∨ q = (k, v) := by
  unfold putK at h
  split at h
  · obtain ⟨x, hx, rfl⟩ := List.mem_map.mp h
    by_cases c : x.1 = k
    · rw [if_pos c]
      exact .inr (by rw [← c])
    · rw [if_neg c]
      exact .inl hx
  · rcases List.mem_append.mp h with h | h
    · exact .inl h
    · exact .inr (List.mem_singleton.mp h)
theorem fst_putK {kvs : List (List Key × V)} {k : List Key} {v : V} : (putK kvs k v).map Prod.fst = kvs.map Prod.fst ∨ k ∉ kvs.map Prod.fst ∧ (putK kvs k v).map Prod.fst = kvs.map Prod.fst ++ [k] := by
  have h : (kvs.any fun kv => decide (kv.1 = k)) = true ↔ k ∈ kvs.map Prod.fst := by simp
  unfold putK
  by_cases c : k ∈ kvs.map Prod.fst
  · rw [if_pos (h.mpr c), List.map_map]
    exact .inl (List.map_congr_left fun x _ => by show (if x.1 = k then (x.1, v) else x).1 = x.1; split <;> rfl)
  · rw [if_neg fun e => c (h.mp e), List.map_append]
    exact .inr ⟨c, rfl⟩
theorem nd_putK {kvs : List (List Key × V)} {k : List Key} {v : V} (h : (kvs.map Prod.fst).Nodup) : ((putK kvs k v).map Prod.fst).Nodup := by
  rcases fst_putK (kvs := kvs) (k := k) (v := v) with e | ⟨c, e⟩
  · rw [e]
    exact h
  · rw [e]
    exact List.nodup_append.mpr ⟨h, List.pairwise_singleton _ _, fun a ha b hb e => c (by rw [← List.mem_singleton.mp hb, ← e]; exact ha)⟩
theorem nd_mergeT : ∀ (more kvs : List (List Key × V)), (kvs.map Prod.fst).Nodup → ((mergeT kvs more).map Prod.fst).Nodup
  | [], _, h => h
  | x :: r, kvs, h => nd_mergeT r _ (nd_putK (k := x.1) (v := x.2) h)
theorem mem_mergeT {q : List Key × V} : ∀ {more kvs : List (List Key × V)}, q ∈ mergeT kvs more → q ∈ kvs ∨ q ∈ more
  | [], _, h => .inl h
  | x :: r, kvs, h => by
    rcases mem_mergeT (more := r) (kvs := putK kvs x.1 x.2) h with h | h
    · rcases mem_putK h with h | h
      · exact .inl h
      · exact .inr (by rw [h]; exact List.mem_cons_self ..)
    · exact .inr (List.mem_cons_of_mem _ h)
theorem valV_mem {k : List Key} {v : V} : ∀ {kvs : List (List Key × V)}, valV kvs k = some v → (k, v) ∈ kvs
  | [], h => by cases h
  | x :: r, h => by
    by_cases c : x.1 = k
    · rw [valV_pos c] at h
      obtain rfl := Option.some.inj h
      rw [← c]
      exact List.mem_cons_self ..
    · rw [valV_neg c] at h
      exact List.mem_cons_of_mem _ (valV_mem h)
theorem FnD.zero {ss : List Int} {gs : List (List Int)} (hg : ∀ g ∈ gs, Seat ss g) : FnD ss gs 0 (mergeT [] (gs.map fun g => (kS g, V.int 0))) := by
  have hq : ∀ q ∈ mergeT [] (gs.map fun g => (kS g, V.int 0)), ∃ g ∈ gs, q = (kS g, V.int 0) := fun q hq => by
    rcases mem_mergeT hq with h | h
    · cases h
    · obtain ⟨g, hg, rfl⟩ := List.mem_map.mp h
      exact ⟨g, hg, rfl⟩
  refine ⟨fun p hp => ?_, fun q h => ?_, nd_mergeT _ _ List.nodup_nil⟩
  · by_cases c : p ∈ gs
    · obtain ⟨q, hm, e, hv⟩ := valV_merge (kvs := []) (more := gs.map fun g => (kS g, V.int 0)) (k := kS p) ⟨_, List.mem_map.mpr ⟨p, c, rfl⟩, rfl⟩
      obtain ⟨g, _, rfl⟩ := List.mem_map.mp hm
      have e0 := (lev_zero hg hp).mpr c
      rw [hv, lev_kn hp e0, e0, if_pos (by simp)]
      rfl
    · rw [if_neg (fun k => ?_)]
      · cases hv : valV (mergeT [] (gs.map fun g => (kS g, V.int 0))) (kS p) with
        | none => rfl
        | some v =>
          obtain ⟨g, hg, e⟩ := hq _ (valV_mem hv)
          have := kS_inj (congrArg Prod.fst e)
          exact absurd (by rw [this]; exact hg) c
      · obtain ⟨m, hm, e⟩ := kn_lev hp k
        obtain rfl : m = 0 := by omega
        exact c ((lev_zero hg hp).mp e)
  · obtain ⟨g, hm, rfl⟩ := hq q h
    exact ⟨g, 0, hg g hm, rfl, (lev_zero hg (hg g hm)).mpr hm⟩
theorem FnD.get {ss : List Int} {gs : List (List Int)} {n : Nat} {kvs : List (List Key × V)} (h : FnD ss gs n kvs) {p : List Int} (hp : Seat ss p) : (valV kvs (kS p)).isSome = kn ss gs n p := by
  rw [h.1 p hp]
  cases c : kn ss gs n p with
  | false => rfl
  | true =>
    obtain ⟨m, _, e⟩ := kn_lev hp c
    rw [e]
    rfl
/-- found, where part of a round is put in -/
def FnP (ss : List Int) (gs : List (List Int)) (n : Nat) (ps : List (List Int)) (kvs : List (List Key × V)) : Prop := (∀ p, Seat ss p → valV kvs (kS p) = if p ∈ ps then some (V.int (n + 1 : Nat)) else if kn ss gs n p then (lev ss gs p).map fun m => V.int (m : Nat) else none) ∧
  (∀ q ∈ kvs, ∃ p m, Seat ss p ∧ q = (kS p, V.int (m : Nat)) ∧ lev ss gs p = some m) ∧ (kvs.map Prod.fst).Nodup
theorem FnD.part {ss : List Int} {gs : List (List Int)} {n : Nat} {kvs : List (List Key × V)} (h : FnD ss gs n kvs) : FnP ss gs n [] kvs := ⟨fun p hp => by rw [h.1 p hp]; simp, h.2⟩
theorem FnP.put {ss : List Int} {gs : List (List Int)} {n : Nat} {ps : List (List Int)} {kvs : List (List Key × V)} (h : FnP ss gs n ps kvs) {x : List Int} (hx : Seat ss x) (e : lev ss gs x = some (n + 1)) : FnP ss gs n (ps ++ [x]) (putK kvs (kS x) (V.int (n + 1 : Nat))) := by
  refine ⟨fun p hp => ?_, fun q hq => ?_, nd_putK h.2.2⟩
  · rw [valV_put, h.1 p hp]
    by_cases c : p = x
    · subst c
      rw [if_pos rfl, if_pos (by simp)]
    · rw [if_neg (fun e => c (kS_inj e))]
      simp only [List.mem_append, List.mem_singleton, c, or_false]
  · rcases mem_putK hq with h2 | h2
    · exact h.2.1 q h2
    · exact ⟨x, n + 1, hx, h2, e⟩
theorem FnP.full {ss : List Int} {gs : List (List Int)} {n : Nat} {kvs : List (List Key × V)} (z : Sz ss) (h : FnP ss gs n (rowS ss gs (n + 1)) kvs) : FnD ss gs (n + 1) kvs := by
  refine ⟨fun p hp => ?_, h.2⟩
  rw [h.1 p hp]
  by_cases c : lev ss gs p = some (n + 1)
  · rw [if_pos ((mem_rowS z).mpr ⟨hp, c⟩), if_pos (by rw [lev_kn hp c]; simp), c]
    rfl
  · rw [if_neg fun h => c ((mem_rowS z).mp h).2]
    cases h2 : kn ss gs (n + 1) p with
    | false =>
      have : kn ss gs n p = false := by
        cases h1 : kn ss gs n p with
        | false => rfl
        | true => rw [kn_le hp (Nat.le_succ n) h1] at h2; cases h2
      rw [this]
    | true =>
      obtain ⟨m, hm, e⟩ := kn_lev hp h2
      rw [e] at c ⊢
      have : kn ss gs n p = true := by
        rw [lev_kn hp e]
        have : m ≠ n + 1 := fun h => c (by rw [h])
        exact decide_eq_true (by omega)
      rw [this]
theorem FnD.done {ss : List Int} {gs : List (List Int)} {n : Nat} {kvs : List (List Key × V)} (z : Sz ss) (h : FnD ss gs n kvs) (hr : rowS ss gs n = []) {p : List Int} (hp : Seat ss p) : valV kvs (kS p) = (lev ss gs p).map fun m => V.int (m : Nat) := by
  rw [h.1 p hp]
  cases e : lev ss gs p with
  | none =>
    split <;> rfl
  | some m =>
    rw [lev_kn hp e]
    obtain ⟨h1, h2⟩ := (lev_some hp).mp e
    have hrow := un_row (ix_lt hp) h1 h2
    by_cases c : m ≤ n
    · rw [if_pos (by simpa using c)]
    · have := hrow n (by omega)
      rw [rowS_Rn z, List.map_eq_nil_iff] at hr
      exact absurd hr this
theorem row_few {ss : List Int} {gs : List (List Int)} {n : Nat} (z : Sz ss) (h : rowS ss gs n ≠ []) : n < Cs.cnt (toN ss) := by
  obtain ⟨p, hp⟩ := List.exists_mem_of_ne_nil _ h
  obtain ⟨h1, h2⟩ := (mem_rowS z).mp hp
  obtain ⟨h3, h4⟩ := (lev_some h1).mp h2
  exact un_few (ix_lt h1) h3 h4
/-- a pair of a tuple and 0 -/
def PZ (H : Hp) (y : V) (g : List Int) : Prop := ∃ r b, y = .ref r ∧ H r = some (.tup [.ref b, .int 0]) ∧ H b = some (.tup (g.map V.int))
theorem PZ.tp {H H' : Hp} {y : V} {g : List Int} (h : PZ H y g) (s : Tp H H') : PZ H' y g := by
  obtain ⟨r, b, h1, h2, h3⟩ := h
  exact ⟨r, b, h1, s _ _ h2, s _ _ h3⟩
theorem pz_paired {H : Hp} : ∀ {ys : List V} {gs : List (List Int)}, ys.length = gs.length → (∀ (i : Nat) y g, ys[i]? = some y → gs[i]? = some g → PZ H y g) →
    ∃ ps : List Addr, ys = ps.map V.ref ∧ Paired (PairT K H) ps (gs.map fun g => (kS g, V.int 0))
  | [], [], _, _ => ⟨[], rfl, .nil⟩
  | y :: ys, g :: gs, hl, h => by
    obtain ⟨r, b, rfl, h2, h3⟩ := h 0 y g rfl rfl
    obtain ⟨ps, e, hp⟩ := pz_paired (ys := ys) (gs := gs) (by simpa using hl) fun i y z h1 h2 => h (i + 1) y z h1 h2
    exact ⟨r :: ps, by rw [e]; rfl, .cons ⟨b, .inl (.inl h2), by rw [h3]; show _ = some (HO.tup ((kS g).map kV)); rw [kS_kV]⟩ hp⟩
  | [], _ :: _, h, _ => by simp at h
  | _ :: _, [], h, _ => by simp at h
/-! ### comprehensions that keep some of a list -/
theorem lcr_keepP {β : Type} {J : It} {n : Nat} {G : Hp → Prop} {Y : Nat → Hp → V → Hp → Prop} (w : Walk J n G Y) {g : TG} {tt : TT} {te : TE} {vs : List Nat} {σ : L2.St} {H1 : Hp} {Q : VK} (zs : List (V × β)) (pr : β → Bool) (hl : zs.length = n) (hn : n < sizeLine) (hG : ∀ H, Same H1 H → G H)
    (hY : ∀ i x H H', i < n → Y i H x H' → Same H H' ∧ ∃ b, zs[i]? = some (x, b))
    (hs : ∀ x b H (Qn : Hp → Prop) (Qy : VK), (x, b) ∈ zs → Same H1 H → (pr b = false → ∀ H4, Same H H4 → Qn H4) → (pr b = true → ∀ H4, Same H H4 → Qy x H4) → g x (wipe σ vs) H fun σ2 H2 => wipe σ2 vs = wipe σ vs ∧ tt σ2 H2 fun b H3 => if b = true then te σ2 H3 Qy else Qn H3)
    (hd : ∀ D H, H1 D = none → Same H1 H → H D = some (.lst ((zs.filter fun z => pr z.2).map (·.1))) → Q (.ref D) H) : LcR J g tt te vs σ H1 Q := by
  refine lcr_if w (fun D i acc H => Same H1 H ∧ acc = ((zs.take i).filter fun z => pr z.2).map (·.1)) hn (fun D hD => ⟨Same.new hD, rfl⟩) (fun D i acc H hD hi h e => hG H h.1) (fun D i acc H l hD h hne => ⟨fun b o e => by rw [upd_ne (ne_some e hD)]; exact h.1 b o e, h.2⟩) ?_ ?_
  · rintro D i acc x H H' Qn Qy hD hi ⟨s1, rfl⟩ e hy hqn hqy
    obtain ⟨s2, b, hx⟩ := hY _ _ _ _ hi hy
    refine hs x b H' Qn Qy (List.mem_of_getElem? hx) (s1.trans s2) (fun hf H4 s4 => hqn _ (s4 _ _ (s2 _ _ e)) ⟨(s1.trans s2).trans s4, ?_⟩) fun ht H4 s4 => hqy _ _ (s4 _ _ (s2 _ _ e)) ⟨(s1.trans s2).trans s4, ?_⟩
    · rw [List.take_add_one, hx, List.filter_append]
      simp [hf]
    · rw [List.take_add_one, hx, List.filter_append, List.map_append]
      simp [ht]
  · rintro D acc H hD hl2 ⟨s1, rfl⟩ e
    rw [← hl, List.take_length] at e
    exact hd D H hD s1 e
/-- a list of tuples with its words -/
def ZsT (H : Hp) (zs : List (V × List Int)) : Prop := ∀ z ∈ zs, TPt H z.1 z.2
theorem zsT_of {H : Hp} : ∀ {as : List Addr} {gs : List (List Int)}, AsT H as gs → ∃ zs : List (V × List Int), as.map V.ref = zs.map (·.1) ∧ gs = zs.map (·.2) ∧ ZsT H zs
  | [], [], _ => ⟨[], rfl, rfl, fun z hz => by cases hz⟩
  | a :: as, g :: gs, h => by
    obtain ⟨zs, e1, e2, h3⟩ := zsT_of (as := as) (gs := gs) ⟨by have := h.1; simpa using this, fun i t g h1 h2 => h.2 (i + 1) t g h1 h2⟩
    refine ⟨(.ref a, g) :: zs, by rw [List.map_cons, List.map_cons, e1], by rw [List.map_cons, ← e2], fun z hz => ?_⟩
    rcases List.mem_cons.mp hz with rfl | hz
    · exact ⟨a, rfl, h.2 0 a g rfl rfl⟩
    · exact h3 z hz
  | [], _ :: _, h => by have := h.1; simp at this
  | _ :: _, [], h => by have := h.1; simp at this
theorem ZsT.lst {H : Hp} {D : Addr} {zs : List (V × List Int)} (h : ZsT H zs) (e : H D = some (.lst (zs.map (·.1)))) : LstT H D (zs.map (·.2)) := by
  refine lstT_of e (by simp) fun i y b h1 h2 => ?_
  rw [List.getElem?_map, Option.map_eq_some_iff] at h1 h2
  obtain ⟨z, hz, rfl⟩ := h1
  obtain ⟨z', hz', rfl⟩ := h2
  rw [hz] at hz'
  obtain rfl := Option.some.inj hz'
  exact h z (List.mem_of_getElem? hz)
theorem ZsT.same {H H' : Hp} {zs : List (V × List Int)} (h : ZsT H zs) (s : Same H H') : ZsT H' zs := fun z hz => (h z hz).tp (Tp.of s)
/-- of a list of tuples those with pr -/
theorem lcr_keepT {J : It} {a : Addr} {as : List Addr} {gs : List (List Int)} {H1 : Hp} (ha : H1 a = some (.lst (as.map V.ref))) (hA : AsT H1 as gs) (hk : gs.length ≤ 1000) (w : Walk J (as.map V.ref).length (fun H => H a = some (.lst (as.map V.ref))) (YAt (as.map V.ref))) {g : TG} {tt : TT} {te : TE} {vs : List Nat} {σ : L2.St} {Q : VK} (pr : List Int → Bool)
    (hs : ∀ t b H (Qn : Hp → Prop) (Qy : VK), b ∈ gs → Same H1 H → H t = some (.tup (b.map V.int)) → (pr b = false → ∀ H4, Same H H4 → Qn H4) → (pr b = true → ∀ H4, Same H H4 → Qy (.ref t) H4) → g (.ref t) (wipe σ vs) H fun σ2 H2 => wipe σ2 vs = wipe σ vs ∧ tt σ2 H2 fun b H3 => if b = true then te σ2 H3 Qy else Qn H3)
    (hd : ∀ D H, H1 D = none → Same H1 H → LstT H D (gs.filter pr) → Q (.ref D) H) : LcR J g tt te vs σ H1 Q := by
  obtain ⟨zs, e1, e2, hz⟩ := zsT_of hA
  have hlz : zs.length = (as.map V.ref).length := by rw [e1, List.length_map]
  refine lcr_keepP w zs pr hlz (Nat.lt_of_le_of_lt (by rw [List.length_map, hA.1]; exact hk) (by decide)) (fun H s => s _ _ ha) ?_ ?_ ?_
  · rintro i x H H' hi ⟨rfl, hx⟩
    rw [e1, List.getElem?_map, Option.map_eq_some_iff] at hx
    obtain ⟨z, hz, rfl⟩ := hx
    exact ⟨Same.refl _, z.2, hz⟩
  · intro x b H Qn Qy hm s1 q1 q2
    obtain ⟨t, rfl, ht⟩ := hz _ hm
    exact hs t b H Qn Qy (by rw [e2]; exact List.mem_map.mpr ⟨_, hm, rfl⟩) s1 (s1 _ _ ht) q1 q2
  · intro D H hD s1 e
    refine hd D H hD s1 ?_
    have := ZsT.lst (zs := zs.filter fun z => pr z.2) (fun z hz2 => (hz.same s1) z (List.mem_filter.mp hz2).1) e
    rw [e2, List.filter_map]
    exact this
/-- a list of pairs of tuples is no empty list -/
theorem dp_pp {H : Hp} {y : V} {z : List Int × List Int} (h : PP H y z) : Dp K H y (.tuple [tupI z.1, tupI z.2]) := by
  obtain ⟨r, b, t, rfl, h1, h2, h3⟩ := h
  exact .tup (.inl (.inl h1)) (.cons (dp_tupI (.inl (.inl h2))) (.cons (dp_tupI (.inl (.inl h3))) .nil))
def ppD (z : List Int × List Int) : PyData := .tuple [tupI z.1, tupI z.2]
theorem dpAll_pp {H : Hp} : ∀ {zs : List (V × (List Int × List Int))}, (∀ z ∈ zs, PP H z.1 z.2) → DpAll K H (zs.map (·.1)) (zs.map fun z => ppD z.2)
  | [], _ => .nil
  | z :: zs, h => .cons (dp_pp (h z (List.mem_cons_self ..))) (dpAll_pp fun x hx => h x (List.mem_cons_of_mem _ hx))
theorem lay_pps : ∀ zs : List (V × (List Int × List Int)), PyData.canLayAll0 (zs.map fun z => ppD z.2) = true
  | [] => rfl
  | z :: zs => by
    show (PyData.canLay0 (ppD z.2) && PyData.canLayAll0 (zs.map fun z => ppD z.2)) = true
    rw [lay_pps zs]
    show ((PyData.canLay0 (tupI z.2.1) && (PyData.canLay0 (tupI z.2.2) && true)) && true) = true
    rw [SeqAt.canLay_of_shaped (shaped_tupI z.2.1), SeqAt.canLay_of_shaped (shaped_tupI z.2.2)]
    rfl
theorem dep_pps : ∀ zs : List (V × (List Int × List Int)), PyData.depthAll (zs.map fun z => ppD z.2) ≤ 2
  | [] => by decide
  | z :: zs => by
    show max (max (PyData.depth (tupI z.2.1)) (max (PyData.depth (tupI z.2.2)) 0) + 1) (PyData.depthAll (zs.map fun z => ppD z.2)) ≤ 2
    have := dep_pps zs
    rw [depth_tupI, depth_tupI]
    omega
theorem neD_pps {H : Hp} {a b : Addr} {zs : List (V × (List Int × List Int))} {Q : VK} (h1 : H a = some (.lst (zs.map (·.1)))) (h : ∀ z ∈ zs, PP H z.1 z.2) (h2 : H b = some (.lst [])) (q : Q (.bl (!decide (zs = []))) H) : rNeD K (.ref a) (.ref b) H Q := by
  have sh : SeqAt.shaped (.list (zs.map fun z => ppD z.2)) = true := by
    have h2 : PyData.depth (.list (zs.map fun z => ppD z.2)) ≤ 64 := by
      show PyData.depthAll (zs.map fun z => ppD z.2) + 1 ≤ 64
      have := dep_pps zs
      omega
    unfold SeqAt.shaped
    rw [show PyData.canLay0 (.list (zs.map fun z => ppD z.2)) = true from lay_pps zs, decide_eq_true h2]
    rfl
  refine ⟨_, _, .lst (.inl (.inl h1)) (dpAll_pp h), .lst (.inl (.inl h2)) .nil, sh, by decide +kernel, ?_⟩
  have : PyData.eqv (.list (zs.map fun z => ppD z.2)) (.list []) = decide (zs = []) := by
    cases zs with
    | nil => rfl
    | cons z zs => exact (decide_eq_false (by simp)).symm
  rw [this]
  exact q
theorem neD_tupsE {H : Hp} {a b : Addr} {gs : List (List Int)} {Q : VK} (h1 : LstT H a gs) (h2 : H b = some (.lst [])) (q : Q (.bl (!decide (gs = []))) H) : rNeD K (.ref a) (.ref b) H Q := by
  have h3 : LstT H b [] := ⟨[], h2, AsT.nil⟩
  refine ⟨_, _, dp_lstT h1, dp_lstT h3, shaped_tups _, shaped_tups _, ?_⟩
  rw [show PyData.eqv (.list (gs.map tupI)) (.list (([] : List (List Int)).map tupI)) = decide (gs = []) from eqv_tups _ _]
  exact q
theorem zs_of {β : Type} {H : Hp} {P : Hp → V → β → Prop} : ∀ {ys : List V} {bs : List β}, ys.length = bs.length → (∀ (i : Nat) y b, ys[i]? = some y → bs[i]? = some b → P H y b) → ∃ zs : List (V × β), ys = zs.map (·.1) ∧ bs = zs.map (·.2) ∧ ∀ z ∈ zs, P H z.1 z.2
  | [], [], _, _ => ⟨[], rfl, rfl, fun z hz => by cases hz⟩
  | y :: ys, b :: bs, hl, h => by
    obtain ⟨zs, e1, e2, h3⟩ := zs_of (H := H) (P := P) (ys := ys) (bs := bs) (by simpa using hl) fun i y z h1 h2 => h (i + 1) y z h1 h2
    refine ⟨(y, b) :: zs, by rw [e1]; rfl, by rw [e2]; rfl, fun z hz => ?_⟩
    rcases List.mem_cons.mp hz with rfl | hz
    · exact h 0 y b rfl rfl
    · exact h3 z hz
  | [], _ :: _, h, _ => by simp at h
  | _ :: _, [], h, _ => by simp at h
end

section
variable {P : Program} {w : World} {K : PySem.W.Frag} {mg : Str → Option Value} {base : Heap}
/-! ### numbers compared -/
def oD (o : Option Nat) : PyData := match o with | none => .none | some n => .int (n : Nat)
theorem dp_oV {H : Hp} (o : Option Nat) : Dp K H (oV o) (oD o) := by
  cases o with
  | none => exact .non
  | some n => exact .int _
theorem sh_oD (o : Option Nat) : SeqAt.shaped (oD o) = true := by
  cases o with
  | none => rfl
  | some n => rfl
theorem neD_oV {H : Hp} {o : Option Nat} {x y : V} {Q : VK} (ex : x = oV o) (ey : y = oV o) (q : Q (.bl false) H) : rNeD K x y H Q := by
  subst ex ey
  refine ⟨_, _, dp_oV o, dp_oV o, sh_oD o, sh_oD o, ?_⟩
  rw [SeqAt.eqv_refl _ (SeqAt.canLay_of_shaped (sh_oD o))]
  exact q
theorem eqD_oV {H : Hp} {o : Option Nat} {n : Nat} {x : V} {Q : VK} (ex : x = oV o) (q : Q (.bl (decide (o = some n))) H) : rEqD K x (.int (n : Nat)) H Q := by
  subst ex
  refine ⟨_, _, dp_oV o, .int _, sh_oD o, sh_oD (some n), ?_⟩
  have : PyData.eqv (oD o) (.int (n : Nat)) = decide (o = some n) := by
    cases o with
    | none => rfl
    | some m =>
      show (((m : Nat) : Int) == (n : Nat)) = _
      by_cases h : m = n
      · subst h; simp
      · rw [decide_eq_false (fun e => h (Option.some.inj e))]
        simp [h]
        omega
  rw [this]
  exact q
theorem oV_map (o : Option Nat) : (o.map fun n => V.int (n : Nat)).getD V.non = oV o := by
  cases o <;> rfl
theorem eqD_lay {H : Hp} {a b : Addr} {rows : List (List (List Int))} {Q : VK} (h1 : LayL H a rows) (h2 : LayL H b rows) (q : Q (.bl true) H) : rEqD K (.ref a) (.ref b) H Q := by
  obtain ⟨ds, e1, l1, f1⟩ := h1
  obtain ⟨ds', e2, l2, f2⟩ := h2
  refine ⟨_, _, .lst (.inl (.inl e1)) (dpAll_rows l1 f1), .lst (.inl (.inl e2)) (dpAll_rows l2 f2), shaped_rows rows, shaped_rows rows, ?_⟩
  rw [SeqAt.eqv_refl _ (SeqAt.canLay_of_shaped (shaped_rows rows))]
  exact q
/-! ### layers by the numbers -/
theorem rows_lay {ss : List Int} {gs : List (List Int)} {m : Nat} (z : Sz ss) (hm : ∃ p, Seat ss p ∧ lev ss gs p = some m) (hx : ∀ p j, Seat ss p → lev ss gs p = some j → j ≤ m) : (List.range (m + 1)).map (rowS ss gs) = layI ss gs := by
  obtain ⟨p, hp, e⟩ := hm
  obtain ⟨h1, h2⟩ := (lev_some hp).mp e
  have hi : ∀ {i}, i < Cs.cnt (toN ss) → Seat ss (iS (toN ss) i) ∧ ix ss (iS (toN ss) i) = i := fun {i} hi => by
    obtain ⟨d1, d2, _⟩ := stt_ok hi
    exact ⟨dg_seat z.pos d1, by unfold ix iS; rw [toN_iN, d2]⟩
  unfold layI
  rw [← lyr_of (d := m) (un_row (ix_lt hp) h1 h2) (fun i hic hu => ?_) (un_few (ix_lt hp) h1 h2), List.map_map]
  · exact List.map_congr_left fun n _ => rowS_Rn z
  · obtain ⟨q1, q2⟩ := hi hic
    rw [← q2] at hu ⊢
    obtain ⟨j, _, e⟩ := kn_lev (n := m + 1) q1 hu
    have := lev_kn (n := m) q1 e
    rw [decide_eq_true (hx _ _ q1 e)] at this
    exact this
theorem lay_ne {ss : List Int} {gs : List (List Int)} (z : Sz ss) (h : Tgts ss gs) : 1 ≤ (layI ss gs).length := by
  obtain ⟨x, hx⟩ := List.exists_mem_of_ne_nil _ h.ne
  have hS := h.ok x hx
  have h0 := (lev_zero h.ok hS).mpr hx
  obtain ⟨h1, h2⟩ := (lev_some hS).mp h0
  have hr := un_row (ix_lt hS) h1 h2 0 (by omega)
  have hc := un_few (ix_lt hS) h1 h2
  have : Rn (toN ss) (tgB (ixs ss gs)) 0 ∈ lyr (toN ss) (tgB (ixs ss gs)) := by
    unfold lyr
    refine List.mem_filter.mpr ⟨List.mem_map.mpr ⟨0, List.mem_range.mpr hc, rfl⟩, ?_⟩
    cases e : Rn (toN ss) (tgB (ixs ss gs)) 0 with
    | nil => exact absurd e hr
    | cons a l => rfl
  unfold layI
  rw [List.length_map]
  exact List.length_pos_of_mem this
end

/-! ### k22: one table -/
section
variable {P : Program} {w : World} {K : PySem.W.Frag} {mg : Str → Option Value} {base : Heap}
theorem PlanL.same {ss : List Int} {gs : List (List Int)} {H H' : Hp} {D : Addr} {L : List (List Int)} (h : PlanL ss gs H D L) (s : Same H H') : PlanL ss gs H' D L := by
  obtain ⟨ys, h1, h2, h3⟩ := h
  exact ⟨ys, s _ _ h1, h2, fun i y p a b => (h3 i y p a b).tp (Tp.of s)⟩
theorem dpAll_pair {β : Type} {H : Hp} {P : V → β → Prop} (key : ∀ y y' b, P y b → P y' b → ∃ D, Dp K H y D ∧ Dp K H y' D ∧ PyData.canLay0 D = true ∧ PyData.depth D ≤ 2) : ∀ {ys ys' : List V} {bs : List β}, ys.length = bs.length → ys'.length = bs.length → (∀ (i : Nat) y b, ys[i]? = some y → bs[i]? = some b → P y b) → (∀ (i : Nat) y b, ys'[i]? = some y → bs[i]? = some b → P y b) → ∃ ds, DpAll K H ys ds ∧ DpAll K H ys' ds ∧ PyData.canLayAll0 ds = true ∧ PyData.depthAll ds ≤ 2
  | [], [], [], _, _, _, _ => ⟨[], .nil, .nil, rfl, by decide⟩
  | y :: ys, y' :: ys', b :: bs, hl, hl', h, h' => by
    obtain ⟨D, d1, d2, d3, d4⟩ := key y y' b (h 0 y b rfl rfl) (h' 0 y' b rfl rfl)
    obtain ⟨ds, e1, e2, e3, e4⟩ := dpAll_pair key (ys := ys) (ys' := ys') (bs := bs) (by simpa using hl) (by simpa using hl') (fun i y b h1 h2 => h (i + 1) y b h1 h2) (fun i y b h1 h2 => h' (i + 1) y b h1 h2)
    refine ⟨D :: ds, .cons d1 e1, .cons d2 e2, ?_, ?_⟩
    · show (PyData.canLay0 D && PyData.canLayAll0 ds) = true
      rw [d3, e3]
      rfl
    · show max (PyData.depth D) (PyData.depthAll ds) ≤ 2
      omega
  | [], [], _ :: _, h, _, _, _ => by simp at h
  | [], _ :: _, [], _, h, _, _ => by simp at h
  | [], _ :: _, _ :: _, h, _, _, _ => by simp at h
  | _ :: _, _, [], h, _, _, _ => by simp at h
  | _ :: _, [], _ :: _, _, h, _, _ => by simp at h
theorem eqD_accs {β : Type} {H : Hp} {P : V → β → Prop} {a b : Addr} {ys ys' : List V} {bs : List β} (key : ∀ y y' b, P y b → P y' b → ∃ D, Dp K H y D ∧ Dp K H y' D ∧ PyData.canLay0 D = true ∧ PyData.depth D ≤ 2) (h1 : H a = some (.lst ys)) (h2 : H b = some (.lst ys')) (l1 : ys.length = bs.length) (l2 : ys'.length = bs.length) (p1 : ∀ (i : Nat) y b, ys[i]? = some y → bs[i]? = some b → P y b) (p2 : ∀ (i : Nat) y b, ys'[i]? = some y → bs[i]? = some b → P y b) :
    ∃ D, Dp K H (.ref a) D ∧ Dp K H (.ref b) D ∧ SeqAt.shaped D = true := by
  obtain ⟨ds, e1, e2, e3, e4⟩ := dpAll_pair key l1 l2 p1 p2
  refine ⟨.list ds, .lst (.inl (.inl h1)) e1, .lst (.inl (.inl h2)) e2, ?_⟩
  have h2 : PyData.depth (.list ds) ≤ 64 := by
    show PyData.depthAll ds + 1 ≤ 64
    omega
  unfold SeqAt.shaped
  rw [show PyData.canLay0 (.list ds) = true from e3, decide_eq_true h2]
  rfl
/-- the second list of a pair of a tuple and an int -/
theorem key_pt {H : Hp} (y y' : V) (z : List Int × Int) (h : Cs.PT H y z) (h' : Cs.PT H y' z) : ∃ D, Dp K H y D ∧ Dp K H y' D ∧ PyData.canLay0 D = true ∧ PyData.depth D ≤ 2 := by
  obtain ⟨r, a, rfl, h1, h2⟩ := h
  obtain ⟨r', a', rfl, h1', h2'⟩ := h'
  refine ⟨.tuple [tupI z.1, .int z.2], .tup (.inl (.inl h1)) (.cons (dp_tupI (.inl (.inl h2))) (.cons (.int _) .nil)), .tup (.inl (.inl h1')) (.cons (dp_tupI (.inl (.inl h2'))) (.cons (.int _) .nil)), ?_, ?_⟩
  · show (PyData.canLay0 (tupI z.1) && (PyData.canLay0 (.int z.2) && true)) = true
    rw [SeqAt.canLay_of_shaped (shaped_tupI z.1)]
    rfl
  · show max (PyData.depth (tupI z.1)) (max (PyData.depth (.int z.2)) 0) + 1 ≤ 2
    rw [depth_tupI, show PyData.depth (.int z.2) = 0 from rfl]
    omega
end

/-! ### one target: the order of the difference -/
section
def Dv (ss ps gs : List Int) (k : Int) : Prop := ∀ (i : Nat) s p g, ss[i]? = some s → ps[i]? = some p → gs[i]? = some g → s ∣ k * (p - g)
def Dz (ss ds : List Int) (k : Int) : Prop := ∀ (i : Nat) s d, ss[i]? = some s → ds[i]? = some d → s ∣ k * d
theorem dvd_mod_iff {s k a b : Int} (h : s ∣ a - b) : s ∣ k * a ↔ s ∣ k * b := by
  obtain ⟨c, hc⟩ := h
  have e : k * a = k * b + s * (k * c) := by
    rw [show a = b + s * c by omega, Int.mul_add, Int.mul_left_comm]
  rw [e]
  exact Int.dvd_add_left ⟨_, rfl⟩
theorem getq {α : Type} {l : List α} {i n : Nat} (h : l.length = n) (hi : i < n) : ∃ x, l[i]? = some x := ⟨l[i]'(by omega), List.getElem?_eq_getElem (by omega)⟩
theorem getq_lt {α : Type} {l : List α} {i : Nat} {x : α} (h : l[i]? = some x) : i < l.length := (List.getElem?_eq_some_iff.mp h).1
theorem dv_dz {ss ps gs : List Int} {k : Int} (hp : Seat ss ps) (hg : Seat ss gs) : Dz ss (mv bw ps gs ss) k ↔ Dv ss ps gs k := by
  constructor
  · intro h i s p g h1 h2 h3
    have := h i s _ h1 (mv_get h2 h3 h1)
    exact (dvd_mod_iff (dvd_smod (p - g) s)).mp this
  · intro h i s d h1 h2
    obtain ⟨p, e1⟩ := getq hp.len (getq_lt h1)
    obtain ⟨g, e2⟩ := getq hg.len (getq_lt h1)
    rw [mv_get e1 e2 h1] at h2
    obtain rfl := Option.some.inj h2
    exact (dvd_mod_iff (dvd_smod (p - g) s)).mpr (h i s p g h1 e1 e2)
theorem mv_seat' {f : Int → Int → Int} {ss p c : List Int} (z : ∀ s ∈ ss, 1 ≤ s) (hp : Seat ss p) (hc : Seat ss c) : Seat ss (mv f p c ss) := by
  have hl := mv_len (g := f) (hp.len.trans hc.len.symm) hc.len
  refine ⟨hl.trans hp.len, fun i x s h1 h2 => ?_⟩
  obtain ⟨a, e1⟩ := getq hp.len (getq_lt h2)
  obtain ⟨b, e2⟩ := getq hc.len (getq_lt h2)
  rw [mv_get e1 e2 h2] at h1
  obtain rfl := Option.some.inj h1
  have hs := z s (List.mem_of_getElem? h2)
  exact ⟨Int.emod_nonneg _ (by omega), Int.emod_lt_of_pos _ (by omega)⟩
theorem dv_one {ss p g : List Int} (hp : Seat ss p) (hg : Seat ss g) : Dv ss p g 1 ↔ p = g := by
  constructor
  · intro h
    refine List.ext_getElem? fun i => ?_
    by_cases hi : i < ss.length
    · obtain ⟨a, e1⟩ := getq hp.len hi
      obtain ⟨b, e2⟩ := getq hg.len hi
      obtain ⟨s, e3⟩ := getq (n := ss.length) rfl hi
      have := h i s a b e3 e1 e2
      have h1 := hp.ok i a s e1 e3
      have h2 := hg.ok i b s e2 e3
      rw [Int.one_mul] at this
      have h0 : a % s = b % s := Int.emod_eq_emod_iff_emod_sub_eq_zero.mpr (Int.emod_eq_zero_of_dvd this)
      rw [Int.emod_eq_of_lt h1.1 h1.2, Int.emod_eq_of_lt h2.1 h2.2] at h0
      rw [e1, e2, h0]
    · rw [List.getElem?_eq_none (by rw [hp.len]; omega), List.getElem?_eq_none (by rw [hg.len]; omega)]
  · rintro rfl i s a b h1 h2 h3
    rw [h2] at h3
    obtain rfl := Option.some.inj h3
    rw [Int.sub_self, Int.mul_zero]
    exact Int.dvd_zero s
theorem kn_one {ss g : List Int} (z : Sz ss) (hg : Seat ss g) : ∀ (n : Nat) {p : List Int}, Seat ss p → (kn ss [g] n p = true ↔ Dv ss p g (2 ^ n))
  | 0, p, hp => by
    have h0 := lev_zero (ss := ss) (gs := [g]) (fun x hx => by rw [List.mem_singleton.mp hx]; exact hg) hp
    have h1 := lev_some (ss := ss) (gs := [g]) (n := 0) hp
    rw [show ((2 : Int) ^ 0) = 1 from rfl, dv_one hp hg]
    rw [List.mem_singleton] at h0
    rw [← h0, h1]
    exact ⟨fun h => ⟨h, fun m hm => absurd hm (by omega)⟩, fun h => h.1⟩
  | n + 1, p, hp => by
    rw [kn_succ z hp]
    unfold clT
    rw [List.any_eq_true]
    constructor
    · rintro ⟨c, hc, h⟩
      have hcS := (allI_mem z).mp hc
      rw [Bool.and_eq_true] at h
      have h1 := (kn_one z hg n (mv_seat' z.pos hp hcS)).mp h.1
      have h2 := (kn_one z hg n (mv_seat' z.pos hp hcS)).mp h.2
      intro i s a b e1 e2 e3
      obtain ⟨x, e4⟩ := getq hcS.len (getq_lt e1)
      have q1 := h1 i s _ b e1 (mv_get e2 e4 e1) e3
      have q2 := h2 i s _ b e1 (mv_get e2 e4 e1) e3
      have r1 := (dvd_mod_iff (b := a + x - b) (by obtain ⟨k, hk⟩ := dvd_smod (fw a x) s; exact ⟨k, by rw [← hk]; unfold fw; omega⟩)).mp q1
      have r2 := (dvd_mod_iff (b := a - x - b) (by obtain ⟨k, hk⟩ := dvd_smod (bw a x) s; exact ⟨k, by rw [← hk]; unfold bw; omega⟩)).mp q2
      have := Int.dvd_add r1 r2
      rwa [← Int.mul_add, show a + x - b + (a - x - b) = 2 * (a - b) by omega, ← Int.mul_assoc, ← Int.pow_succ] at this
    · intro h
      have hcS := mv_seat' (f := bw) z.pos hp hg
      refine ⟨mv bw p g ss, (allI_mem z).mpr hcS, ?_⟩
      rw [Bool.and_eq_true]
      refine ⟨(kn_one z hg n (mv_seat' z.pos hp hcS)).mpr ?_, (kn_one z hg n (mv_seat' z.pos hp hcS)).mpr ?_⟩
      · intro i s a b e1 e2 e3
        obtain ⟨x, e4⟩ := getq hp.len (getq_lt e1)
        rw [mv_get e4 (mv_get e4 e3 e1) e1] at e2
        obtain rfl := Option.some.inj e2
        have q := h i s x b e1 e4 e3
        rw [Int.pow_succ, Int.mul_assoc] at q
        refine (dvd_mod_iff ?_).mpr q
        obtain ⟨k1, hk1⟩ := dvd_smod (fw x (bw x b % s)) s
        obtain ⟨k2, hk2⟩ := dvd_smod (bw x b) s
        refine ⟨k1 + k2, ?_⟩
        rw [Int.mul_add, ← hk1, ← hk2]
        unfold fw bw
        omega
      · intro i s a b e1 e2 e3
        obtain ⟨x, e4⟩ := getq hp.len (getq_lt e1)
        rw [mv_get e4 (mv_get e4 e3 e1) e1] at e2
        obtain rfl := Option.some.inj e2
        refine (dvd_mod_iff (b := 0) ?_).mpr (by rw [Int.mul_zero]; exact Int.dvd_zero s)
        obtain ⟨k1, hk1⟩ := dvd_smod (bw x (bw x b % s)) s
        obtain ⟨k2, hk2⟩ := dvd_smod (bw x b) s
        refine ⟨k1 - k2, ?_⟩
        rw [Int.mul_sub, ← hk1, ← hk2]
        unfold bw
        omega
/-- the order of a difference -/
structure OrdI (ss ds : List Int) (m : Nat) : Prop where
  pos : 1 ≤ m
  at0 : Dz ss ds m
  min : ∀ j : Nat, 1 ≤ j → j < m → ¬ Dz ss ds j
theorem OrdI.dvd {ss ds : List Int} {m k : Nat} (h : OrdI ss ds m) : Dz ss ds k ↔ m ∣ k := by
  constructor
  · intro hk
    have hlt := Nat.mod_lt k (show 0 < m from h.pos)
    have hd : Dz ss ds ((k % m : Nat) : Int) := fun i s d h1 h2 => by
      have a := hk i s d h1 h2
      have b := h.at0 i s d h1 h2
      have e : ((k : Nat) : Int) * d = ((k % m : Nat) : Int) * d + (m : Int) * d * ((k / m : Nat) : Int) := by
        have : ((k : Nat) : Int) = ((k % m : Nat) : Int) + (m : Int) * ((k / m : Nat) : Int) := by
          have := Nat.mod_add_div k m
          exact_mod_cast this.symm
        conv => lhs; rw [this]
        rw [Int.add_mul, Int.mul_assoc, Int.mul_comm ((k / m : Nat) : Int), ← Int.mul_assoc]
      rw [e] at a
      exact (Int.dvd_add_left (Int.dvd_trans b ⟨_, rfl⟩)).mp a
    by_cases e : k % m = 0
    · exact Nat.dvd_of_mod_eq_zero e
    · exact absurd hd (h.min _ (by omega) hlt)
  · rintro ⟨c, rfl⟩ i s d h1 h2
    have b := h.at0 i s d h1 h2
    rw [Int.natCast_mul, Int.mul_assoc, Int.mul_comm (c : Int), ← Int.mul_assoc]
    exact Int.dvd_trans b ⟨_, rfl⟩
theorem odd_dvd_pow {a n : Nat} (ha : a % 2 = 1) (h : a ∣ 2 ^ n) : a = 1 := by
  have hc : Nat.Coprime a 2 := by
    show Nat.gcd a 2 = 1
    rw [Nat.gcd_comm, Nat.gcd_rec, ha]
    rfl
  exact Nat.Coprime.eq_one_of_dvd (Nat.Coprime.pow_right n hc) h
theorem lev_one {ss g p : List Int} {m a f : Nat} (z : Sz ss) (hg : Seat ss g) (hp : Seat ss p) (h : OrdI ss (mv bw p g ss) m) (e : m = a * 2 ^ f) (ha : a % 2 = 1) : lev ss [g] p = if a = 1 then some f else none := by
  have key : ∀ n, kn ss [g] n p = true ↔ m ∣ 2 ^ n := fun n => by
    rw [kn_one z hg n hp, ← dv_dz hp hg, ← h.dvd]
    push_cast
    rfl
  by_cases h1 : a = 1
  · rw [if_pos h1]
    rw [h1, Nat.one_mul] at e
    refine (lev_some hp).mpr ⟨(key f).mpr (by rw [e]; exact Nat.dvd_refl _), fun j hj => ?_⟩
    cases hk : kn ss [g] j p with
    | false => rfl
    | true =>
      have := (key j).mp hk
      rw [e] at this
      have := Nat.le_of_dvd (Nat.two_pow_pos j) this
      have := Nat.pow_lt_pow_right (a := 2) (by omega) hj
      omega
  · rw [if_neg h1]
    refine lvl_none fun n => ?_
    cases hk : Un (toN ss) (tgB (ixs ss [g])) n (ix ss p) with
    | false => rfl
    | true =>
      have := (key n).mp hk
      exact absurd (odd_dvd_pow ha (Nat.dvd_trans ⟨2 ^ f, e⟩ this)) h1
theorem prod_dvd {ss : List Int} {i : Nat} {s : Int} (h : ss[i]? = some s) : s ∣ prodI ss := by
  have gen : ∀ (l : List Int) (a : Int), a ∣ l.foldl (fun a b => a * b) a := by
    intro l
    induction l with
    | nil => intro a; exact Int.dvd_refl a
    | cons x r ih => intro a; exact Int.dvd_trans ⟨x, rfl⟩ (ih (a * x))
  have e : ss = ss.take (i + 1) ++ ss.drop (i + 1) := (List.take_append_drop ..).symm
  have h1 : prodI ss = (ss.drop (i + 1)).foldl (fun a b => a * b) (prodI (ss.take (i + 1))) := by
    conv => lhs; rw [e]
    unfold prodI
    rw [List.foldl_append]
  rw [h1]
  refine Int.dvd_trans ?_ (gen _ _)
  rw [prodI_take h]
  exact ⟨_, Int.mul_comm _ _⟩
end

/-! ### the order of a difference -/
section
variable {P : Program} {w : World} {K : PySem.W.Frag} {mg : Str → Option Value} {base : Heap}
def tot (ss ds : List Int) (k : Int) : List Int := mv (fun a _ => k * a) ds ds ss
theorem tot_len {ss ds : List Int} {k : Int} (h : Seat ss ds) : (tot ss ds k).length = ss.length := (mv_len rfl h.len).trans h.len
theorem tot_get {ss ds : List Int} {k : Int} {i : Nat} {d s : Int} (h1 : ds[i]? = some d) (h2 : ss[i]? = some s) : (tot ss ds k)[i]? = some (k * d % s) := mv_get h1 h1 h2
theorem tot_one {ss ds : List Int} (h : Seat ss ds) : tot ss ds 1 = ds := by
  refine List.ext_getElem? fun i => ?_
  by_cases hi : i < ss.length
  · obtain ⟨d, e1⟩ := getq h.len hi
    obtain ⟨s, e3⟩ := getq (n := ss.length) rfl hi
    have := h.ok i d s e1 e3
    rw [tot_get e1 e3, e1, Int.one_mul, Int.emod_eq_of_lt this.1 this.2]
  · rw [List.getElem?_eq_none (by rw [tot_len h]; omega), List.getElem?_eq_none (by rw [h.len]; omega)]
theorem tot_zero {ss ds : List Int} {k m : Int} (z : ∀ s ∈ ss, 1 ≤ s) (h : Seat ss ds) (h1 : m ∈ tot ss ds k) (h2 : ∀ y ∈ tot ss ds k, y ≤ m) : 0 < m ↔ ¬ Dz ss ds k := by
  constructor
  · intro hm hd
    obtain ⟨i, hi⟩ := List.getElem?_of_mem h1
    have hl := getq_lt hi
    rw [tot_len h] at hl
    obtain ⟨d, e1⟩ := getq h.len hl
    obtain ⟨s, e3⟩ := getq (n := ss.length) rfl hl
    rw [tot_get e1 e3] at hi
    have := Int.emod_eq_zero_of_dvd (hd i s d e3 e1)
    have := Option.some.inj hi
    omega
  · intro hd
    refine Classical.byContradiction fun hm => hd fun i s d h3 h4 => ?_
    have e := tot_get (k := k) h4 h3
    have h5 := h2 _ (List.mem_of_getElem? e)
    have h6 := Int.emod_nonneg (k * d) (show s ≠ 0 by have := z s (List.mem_of_getElem? h3); omega)
    exact Int.dvd_of_emod_eq_zero (by omega)
theorem dz_prod {ss ds : List Int} (z : ∀ s ∈ ss, 1 ≤ s) : Dz ss ds (prodI ss) := fun _ _ d h1 _ => Int.dvd_trans (prod_dvd h1) ⟨d, rfl⟩
def OL (l p : Addr) (ss ds : List Int) (H : Hp) (σ : L2.St) (H' : Hp) : Prop := ∃ (L : Addr) (k : Nat) (v4 v5 v6 : Option V), σ = [some (V.ref l), some (V.ref p), some (V.ref L), some (V.int (k : Nat)), v4, v5, v6] ∧ Same H H' ∧ H' L = some (.lst ((tot ss ds k).map V.int)) ∧ 1 ≤ k ∧ (k : Int) ≤ prodI ss ∧ ∀ j : Nat, 1 ≤ j → j < k → ¬ Dz ss ds j
def sp_law_order (K : PySem.W.Frag) : Sp := fun vs H Q _ => ∃ (l p : Addr) (ss ds : List Int), vs = [.ref l, .ref p] ∧ H l = some (.lst (ss.map V.int)) ∧ H p = some (.tup (ds.map V.int)) ∧ Sz ss ∧ Seat ss ds ∧ ∀ H' (m : Nat), Same H H' → OrdI ss ds m → Q (.int (m : Nat)) H'
theorem ok_law_order (T : Tx K mg) : FnOk P w K mg base CX0 1 T.f_law_order T.fd_law_order ["_law_rings_here", "_law_spot"] (sp_law_order K) := by
  refine T.F_law_order.ok sc_law_order (fun vs H Q E h => ?_) (fun cdv A outer s H vs Q E hr h => ?_)
  · obtain ⟨l, p, ss, ds, rfl, _⟩ := h; rfl
  · obtain ⟨l, p, ss, ds, rfl, hl, hp, z, hS, q⟩ := h
    refine ⟨_, (pss_cons (ps_set (i := 2) sc_law_order.nd rfl (Or.inl rfl) (pe_callTy list_H (by rfl) T.n_list (by decide +kernel) (pa_cons (pv 1) pa_nil)))
      (pss_cons (ps_set (i := 3) sc_law_order.nd rfl (Or.inl rfl) pe_int)
      (pss_cons (ps_while PassesOwn.never (pt_cmpR op_gt (pe_callB (cr_max rfl) (by rfl) T.n_max (by decide +kernel) (pa_cons (pv 2) pa_nil)) pe_int (nomark _)) (pss_cons (ps_setLc (i := 2) (own := [("_law_one", 4), ("_law_place", 5), ("_law_size", 6)]) (g := (gTupH 3 (gCons (gName 4) (gCons (gName 5) (gCons (gName 6) gNil))))) (tt := tYes) rfl sc_law_order.nd rfl rfl (sw_true rfl rfl rfl (by decide +kernel)) (pi_z3H (by rfl) T.n_zip (pa_cons (pv 2) (pa_cons (pv 1) (pa_cons (pv 0) pa_nil)))) (blkOk_by (own := [("_law_one", 4), ("_law_place", 5), ("_law_size", 6)]) (N := N_law_order) (sc := defScope d_law_order) (by decide +kernel)) (fun _ _ _ _ _ => (pg_tupH (n := 3) rfl (pgs_cons (pg_name (i := 4) sc_law_order.nd rfl (Or.inl rfl)) (pgs_cons (pg_name (i := 5) sc_law_order.nd rfl (Or.inl rfl)) (pgs_cons (pg_name (i := 6) sc_law_order.nd rfl (Or.inl rfl)) pgs_nil))))) (fun _ _ _ _ _ => pts_nil) (fun _ _ _ _ _ => (pe_op op_mod (pe_op op_add (pv 4) (pv 5)) (pv 6))))
        (pss_one (ps_set (i := 3) sc_law_order.nd rfl (Or.inl rfl) (pe_op op_add (pv 3) pe_int)))))
      (pss_one (ps_ret (pv 3)))))), ?_⟩
    have h4 := z.hi
    walk_at "rd"
    refine .inr ⟨_, hp, fun L hL => ?_⟩
    have s1 := Same.new hL (o := .lst (ds.map V.int))
    have e1 : (upd H L (.lst (ds.map V.int))) L = some (.lst (ds.map V.int)) := upd_same
    generalize upd H L (HO.lst (ds.map V.int)) = H1 at s1 e1 ⊢
    have hpr : 1 ≤ prodI ss := by rw [← cnt_prod z.pos]; have := ix_lt hS; omega
    refine while_by (OL l p ss ds H) (fun σ _ => match σ with | [_, _, _, some (V.int k), _, _, _] => (prodI ss - k).toNat | _ => 0) ⟨L, 1, none, none, none, rfl, s1, by rw [show (((1 : Nat)) : Int) = 1 from rfl, tot_one hS]; exact e1, Nat.le_refl 1, by omega, fun j h1 h2 => by omega⟩ ?_ ?_
    · rintro σ H2 ⟨L, k, v4, v5, v6, rfl, s2, hL2, hk1, hkN, hmin⟩
      walk_at "rd"
      have hne : 0 < (tot ss ds k).length := by rw [tot_len hS]; exact z.lo
      refine ⟨L, _, rfl, .inl (.inl hL2), hne, fun m hm1 hm2 => ⟨_, rfl, ?_⟩⟩
      have hz := tot_zero z.pos hS hm1 hm2
      split
      · rename_i h0
        have hnd := hz.mp h0
        refine ⟨true, false, true, _, hL2, _, s2 _ _ hp, _, s2 _ _ hl, by rw [List.length_map, List.length_map, tot_len hS, hS.len], by rw [List.length_map, List.length_map, hS.len], fun J W => ?_⟩
        refine lcr_map W ((tot ss ds (k + 1 : Nat)).map V.int) (by rw [List.length_map, List.length_map, tot_len hS, tot_len hS]) (by rw [List.length_map, tot_len hS]; exact Nat.le_trans h4 (by decide)) (fun H7 s7 => ⟨s7 _ _ hL2, s7 _ _ (s2 _ _ hp), s7 _ _ (s2 _ _ hl)⟩) (fun _ _ _ _ y => YTrip.same y) ?_ fun D H3 _ s3 e => ?_
        · intro i x H7 H8 y Qy hi s7 hy hr hq
          obtain ⟨T0, x1, y1, z1, rfl, hT, rfl, e1, e2, e3⟩ := hy
          simp only [List.getElem?_map, Option.map_eq_some_iff] at hr e1 e2 e3
          obtain ⟨x2, hx2, rfl⟩ := e1
          obtain ⟨y2, hy2, rfl⟩ := e2
          obtain ⟨z2, hz2, rfl⟩ := e3
          obtain ⟨r, hr, rfl⟩ := hr
          rw [tot_get hy2 hz2] at hr hx2
          obtain rfl := Option.some.inj hr
          obtain rfl := Option.some.inj hx2
          have := z.pos z2 (List.mem_of_getElem? hz2)
          have eT := (upd_same : (upd H7 T0 (.tup [V.int (k * y2 % z2), V.int y2, V.int z2])) T0 = _)
          walk_at "rd"
          refine ⟨by omega, ?_⟩
          rw [Int.emod_add_emod, show ((k : Int)) * y2 + y2 = ((k + 1 : Nat) : Int) * y2 by rw [Int.natCast_add, Int.add_mul]; show _ = _ + 1 * y2; rw [Int.one_mul]]
          exact hq _ (Same.refl _)
        · have hlt : (k : Int) < prodI ss := by
            rcases Int.lt_or_eq_of_le hkN with h | h
            · exact h
            · exact absurd (dz_prod z.pos) (h ▸ hnd)
          refine ⟨⟨D, k + 1, v4, v5, v6, rfl, s2.trans s3, e, by omega, by omega, fun j h1 h2 => ?_⟩, by omega⟩
          by_cases hj : j = k
          · rw [hj]; exact hnd
          · exact hmin j h1 (by omega)
      · rename_i h0
        exact q H2 k s2 ⟨hk1, Classical.byContradiction fun h => h0 (hz.mpr h), hmin⟩
    · intro σ H1 Q1 Q2 h hq
      obtain ⟨v, e, a, ns, e1, e2, e3, hq⟩ := hq
      exact ⟨v, e, a, ns, e1, e2, e3, fun m h1 h2 => by
        obtain ⟨i, j, e4, e5, k, e6, hq⟩ := hq m h1 h2
        exact ⟨i, j, e4, e5, k, e6, h _ _ hq⟩⟩
def sp_law_due (K : PySem.W.Frag) : Sp := fun vs H Q _ => ∃ (l p g : Addr) (ss ps gs : List Int), vs = [.ref l, .ref p, .ref g] ∧ H l = some (.lst (ss.map V.int)) ∧ H p = some (.tup (ps.map V.int)) ∧ H g = some (.tup (gs.map V.int)) ∧ Sz ss ∧ Seat ss ps ∧ Seat ss gs ∧ ∀ H', Same H H' → Q (oV (lev ss [gs] ps)) H'
theorem ok_law_due (T : Tx K mg) : FnOk P w K mg base CX0 2 T.f_law_due T.fd_law_due ["_law_rings_here", "_law_spot", "_law_goal"] (sp_law_due K) := by
  refine T.F_law_due.ok sc_law_due (fun vs H Q E h => ?_) (fun cdv A outer s H vs Q E hr h => ?_)
  · obtain ⟨l, p, g, ss, ps, gs, rfl, _⟩ := h; rfl
  · obtain ⟨l, p, g, ss, ps, gs, rfl, hl, hp, hg, z, hS, hG, q⟩ := h
    refine ⟨_, (pss_cons (ps_set (i := 3) sc_law_due.nd rfl (Or.inl rfl) (pe_call (ok_law_order T) (hr.mono (by decide)) (by rfl) T.g_law_order T.F_law_order.kp T.b_law_order .nil pass0 (pa_cons (pv 0) (pa_cons (pe_callTy tuple_H (by rfl) T.n_tuple (by decide +kernel) (pa_cons (pe_lc (own := [("_law_one", 5), ("_law_other", 6), ("_law_size", 7)]) (g := (gTupH 3 (gCons (gName 5) (gCons (gName 6) (gCons (gName 7) gNil))))) (tt := tYes) rfl sc_law_due.nd (pi_z3H (by rfl) T.n_zip (pa_cons (pv 1) (pa_cons (pv 2) (pa_cons (pv 0) pa_nil)))) (blkOk_by (own := [("_law_one", 5), ("_law_other", 6), ("_law_size", 7)]) (N := N_law_due) (sc := defScope d_law_due) (by decide +kernel)) (fun _ _ _ _ _ => (pg_tupH (n := 3) rfl (pgs_cons (pg_name (i := 5) sc_law_due.nd rfl (Or.inl rfl)) (pgs_cons (pg_name (i := 6) sc_law_due.nd rfl (Or.inl rfl)) (pgs_cons (pg_name (i := 7) sc_law_due.nd rfl (Or.inl rfl)) pgs_nil))))) (fun _ _ _ _ _ => pts_nil) (fun _ _ _ _ _ => (pe_op op_mod (pe_op op_sub (pv 5) (pv 6)) (pv 7)))) pa_nil)) pa_nil))))
      (pss_cons (ps_set (i := 4) sc_law_due.nd rfl (Or.inl rfl) pe_int)
      (pss_cons (ps_while PassesOwn.never (pt_cmpR op_eq (pe_op op_mod (pv 3) pe_int) pe_int (nomark _)) (pss_cons (ps_set (i := 3) sc_law_due.nd rfl (Or.inl rfl) (pe_op op_fdivW (pv 3) pe_int))
        (pss_one (ps_set (i := 4) sc_law_due.nd rfl (Or.inl rfl) (pe_op op_add (pv 4) pe_int)))))
      (pss_one (ps_ret (pe_ifExp (pt_cmpR op_eq (pv 3) pe_int (nomark _)) (pv 4) pe_non)))))), ?_⟩
    have h4 := z.hi
    walk_at "rd"
    refine ⟨false, false, true, _, hp, _, hg, _, hl, by rw [List.length_map, List.length_map, hS.len, hG.len], by rw [List.length_map, List.length_map, hG.len], fun J W => ?_⟩
    refine lcr_map W ((mv bw ps gs ss).map V.int) (by rw [List.length_map, List.length_map, mv_len (by rw [hS.len, hG.len]) hG.len]) (by rw [List.length_map, hS.len]; exact Nat.le_trans h4 (by decide)) (fun H7 s7 => ⟨s7 _ _ hp, s7 _ _ hg, s7 _ _ hl⟩) (fun _ _ _ _ y => YTrip.same y) ?_ fun D H1 _ s1 e => ?_
    · intro m x H7 H8 y Qy hm s7 hy hr hq
      obtain ⟨T0, x1, y1, z1, rfl, hT, rfl, e1, e2, e3⟩ := hy
      simp only [List.getElem?_map, Option.map_eq_some_iff] at hr e1 e2 e3
      obtain ⟨x2, hx2, rfl⟩ := e1
      obtain ⟨y2, hy2, rfl⟩ := e2
      obtain ⟨z2, hz2, rfl⟩ := e3
      obtain ⟨r, hr, rfl⟩ := hr
      rw [mv_get hx2 hy2 hz2] at hr
      obtain rfl := Option.some.inj hr
      have := z.pos z2 (List.mem_of_getElem? hz2)
      have eT := (upd_same : (upd H7 T0 (.tup [V.int x2, V.int y2, V.int z2])) T0 = _)
      walk_at "rd"
      refine ⟨by omega, hq _ (Same.refl _)⟩
    · refine ⟨D, rfl, .inl ⟨_, e, fun t ht => ?_⟩⟩
      have s2 := Same.new ht (o := .tup ((mv bw ps gs ss).map V.int))
      refine ⟨l, t, ss, mv bw ps gs ss, rfl, s2 _ _ (s1 _ _ hl), upd_same, z, mv_seat' z.pos hS hG, fun H3 m s3 hm => ?_⟩
      have s03 := (s1.trans s2).trans s3
      refine while_by (fun σ H' => ∃ (a f : Nat), σ = [some (V.ref l), some (V.ref p), some (V.ref g), some (V.int (a : Nat)), some (V.int (f : Nat)), none, none, none] ∧ H' = H3 ∧ 1 ≤ a ∧ m = a * 2 ^ f) (fun σ _ => match σ with | [_, _, _, some (V.int a), _, _, _, _] => a.toNat | _ => 0) ⟨m, 0, rfl, rfl, hm.pos, by rw [Nat.pow_zero, Nat.mul_one]⟩ ?_ ?_
      · rintro σ H4 ⟨a, f, rfl, rfl, ha, hmf⟩
        walk_at "rd"
        split
        · rename_i h0
          refine ⟨⟨a / 2, by omega, f + 1, by omega, by omega, ?_⟩, by omega⟩
          have h2 : a = a / 2 * 2 := by omega
          rw [hmf, Nat.pow_succ, Nat.mul_comm (2 ^ f) 2, ← Nat.mul_assoc, ← h2]
        · rename_i h0
          have hl1 := lev_one z hG hS hm hmf (by omega)
          have q' := q _ s03
          rw [hl1] at q'
          split
          · rename_i h1
            rw [if_pos (by omega)] at q'
            exact q'
          · rename_i h1
            rw [if_neg (by omega)] at q'
            exact q'
      · intro σ H1 Q1 Q2 h hq
        obtain ⟨v, e, i, j, e1, e2, hp, es, k, e3, hq⟩ := hq
        exact ⟨v, e, i, j, e1, e2, hp, es, k, e3, h _ _ hq⟩
end

section
variable {K : PySem.W.Frag}
theorem tab_made {C x dx p : Addr} {k : Bool} {ss : List Int} {G : Hp} {Q : VK} {E : XK} (hx : G x = none) (hdx : G dx = none) (hne : dx ≠ x) (hp : Sqh k G p (ss.map V.int)) (z : Sz ss)
    (h : ∀ G', Same G G' → TabAt C G' x ss → Q .non G') : sp_Table_init K C [.ref x, .ref p] (upd (upd G dx (.own x)) x (.ins C dx [])) Q E := by
  have s3 : Same G (upd (upd G dx (.own x)) x (.ins C dx [])) := (Same.new hdx).trans (Same.new (by rw [upd_ne hne.symm]; exact hx))
  refine ⟨x, dx, .ref p, p, k, ss, rfl, upd_same, rfl, hp.same s3, z.lo, z.hi, z.pos, fun G' t s4 h4 ht => h G' (fun b o hb => ?_) ⟨dx, t, h4, ht⟩⟩
  exact s4 _ _ (ne_some hb hx) (s3 _ _ hb)
end

/-! ### one table with one target -/
section
variable {P : Program} {w : World} {K : PySem.W.Frag} {mg : Str → Option Value} {base : Heap}
theorem Src.tp {H H' : Hp} {a : Addr} (h : Src H a) (s : Sx a H H') : Tp H H' := by
  obtain ⟨x, y, z, h⟩ := h
  exact Tp.sx s h (by simp)
theorem Src.nel {H : Hp} {a D : Addr} {as : List Addr} (h : Src H a) (hD : H D = some (.lst (as.map V.ref))) : D ≠ a := fun e => by
  obtain ⟨s, c, d, h⟩ := h
  rw [e, h] at hD
  have := HO.lst.inj (Option.some.inj hD)
  cases as <;> simp at this
theorem _root_.Cs.LstT.sxs {H H' : Hp} {a D : Addr} {gs : List (List Int)} (h : LstT H D gs) (hs : Src H a) (s : Sx a H H') : LstT H' D gs := by
  obtain ⟨as, h1, h2⟩ := h
  exact ⟨as, s _ _ (hs.nel h1) h1, h2.tp (hs.tp s)⟩
theorem atI_refs {as : List Addr} {i : Int} (h0 : 0 ≤ i) (h1 : i < as.length) : ∃ (k : Nat) (a : Addr), as[k]? = some a ∧ atI (as.map V.ref) i = some (.ref a) := by
  obtain ⟨k, rfl⟩ := Int.eq_ofNat_of_zero_le h0
  have hk : k < as.length := by omega
  have e := List.getElem?_eq_getElem hk
  exact ⟨k, as[k], e, atI_nat (by rw [List.getElem?_map, e]; rfl)⟩
theorem pln_all {ss : List Int} {gs : List (List Int)} {d n : Nat} {p : List Int} (z : ∀ s ∈ ss, 1 ≤ s) (hT : Top (toN ss) (tgB (ixs ss gs)) d) (hp : Seat ss p) (hl : lev ss gs p = some (n + 1)) : p ∈ ((layI ss gs).drop 1).flatten := by
  rw [← plnF_lay hT]
  refine (plnF_mem z).mpr ⟨hp, n, ?_, hl⟩
  obtain ⟨h1, h2⟩ := (lvl_some (ix_lt hp)).mp hl
  apply Classical.byContradiction
  intro hc
  have := un_stable (n := d) (m := n + 1) hT.cl (by omega) (ix_lt hp) h1
  rw [h2 d (by omega)] at this
  cases this
theorem pln_mem {ss : List Int} {gs : List (List Int)} (z : ∀ s ∈ ss, 1 ≤ s) (h : ∃ d, Top (toN ss) (tgB (ixs ss gs)) d) {p : List Int} : p ∈ ((layI ss gs).drop 1).flatten ↔ Seat ss p ∧ ∃ n, lev ss gs p = some (n + 1) := by
  obtain ⟨d, hT⟩ := h
  constructor
  · intro hp
    rw [← plnF_lay hT] at hp
    obtain ⟨h1, m, _, h2⟩ := (plnF_mem z).mp hp
    exact ⟨h1, m, h2⟩
  · rintro ⟨h1, n, h2⟩
    exact pln_all z hT h1 h2
/-- the dict tells the number of each seat -/
theorem seat_bd {ss g : List Int} (z : Sz ss) (h : Seat ss g) : g.length = ss.length ∧ TS.Bd (2 ^ 1000) g := ⟨h.len, fun x hx => by
  obtain ⟨i, hi, e⟩ := List.getElem_of_mem hx
  have hi2 : i < ss.length := by rw [← h.len]; exact hi
  have h1 := h.ok i x _ (by rw [List.getElem?_eq_getElem hi, e]) (List.getElem?_eq_getElem hi2)
  have h2 := z.bits _ (List.getElem_mem hi2)
  have h3 : (((2 ^ 1000 : Nat) : Int)) = 2 ^ 1000 := by rw [Int.natCast_pow]; rfl
  rw [← h3]
  omega⟩
def duL (ss : List Int) (gs : List (List Int)) (ps : List (List Int)) : List (List Key × V) := ps.map fun p => (kS p, oV (lev ss gs p))
theorem duL_put {ss : List Int} {gs : List (List Int)} {p : List Int} {ps : List (List Int)} (h : p ∉ ps) : putK (duL ss gs ps) (kS p) (oV (lev ss gs p)) = duL ss gs (ps ++ [p]) := by
  have hn : ¬ ((duL ss gs ps).any fun kv => decide (kv.1 = kS p)) = true := fun e => by
    obtain ⟨x, hx, e⟩ := List.any_eq_true.mp e
    obtain ⟨q, hq, rfl⟩ := List.mem_map.mp hx
    have e := kS_inj (of_decide_eq_true e)
    exact h (by rw [← e]; exact hq)
  unfold putK
  rw [if_neg hn]
  unfold duL
  rw [List.map_append]
  rfl
theorem duL_merge {ss : List Int} {gs : List (List Int)} : ∀ {ps qs : List (List Int)}, (qs ++ ps).Nodup → mergeT (duL ss gs qs) (duL ss gs ps) = duL ss gs (qs ++ ps)
  | [], qs, _ => by rw [List.append_nil]; rfl
  | p :: ps, qs, h => by
    have hp : p ∉ qs := fun hm => (List.nodup_append.mp h).2.2 p hm p (List.mem_cons_self ..) rfl
    show mergeT (putK (duL ss gs qs) (kS p) (oV (lev ss gs p))) (duL ss gs ps) = _
    rw [duL_put hp, duL_merge (by rw [List.append_assoc]; exact h), List.append_assoc]
    rfl
theorem duL_val {ss : List Int} {gs : List (List Int)} {p : List Int} : ∀ {ps : List (List Int)}, p ∈ ps → valV (duL ss gs ps) (kS p) = some (oV (lev ss gs p))
  | [], h => by cases h
  | q :: ps, h => by
    show valV ((kS q, oV (lev ss gs q)) :: duL ss gs ps) (kS p) = _
    by_cases e : q = p
    · rw [valV_pos (by rw [e]), e]
    · rw [valV_neg fun e2 => e (kS_inj e2)]
      rcases List.mem_cons.mp h with h | h
      · exact absurd h.symm e
      · exact duL_val h
/-- a pair of a seat and its number -/
def PO (ss : List Int) (gs : List (List Int)) (H : Hp) (y : V) (p : List Int) : Prop := ∃ r b, y = .ref r ∧ H r = some (.tup [.ref b, oV (lev ss gs p)]) ∧ H b = some (.tup (p.map V.int))
theorem PO.tp {ss : List Int} {gs : List (List Int)} {H H' : Hp} {y : V} {p : List Int} (h : PO ss gs H y p) (s : Tp H H') : PO ss gs H' y p := by
  obtain ⟨r, b, h1, h2, h3⟩ := h
  exact ⟨r, b, h1, s _ _ h2, s _ _ h3⟩
theorem po_paired {ss : List Int} {gs : List (List Int)} {H : Hp} : ∀ {ys : List V} {ps : List (List Int)}, ys.length = ps.length → (∀ (i : Nat) y p, ys[i]? = some y → ps[i]? = some p → PO ss gs H y p) →
    ∃ rs : List Addr, ys = rs.map V.ref ∧ Paired (PairT K H) rs (duL ss gs ps)
  | [], [], _, _ => ⟨[], rfl, .nil⟩
  | y :: ys, p :: ps, hl, h => by
    obtain ⟨r, b, rfl, h2, h3⟩ := h 0 y p rfl rfl
    obtain ⟨rs, e, hp⟩ := po_paired (ys := ys) (ps := ps) (by simpa using hl) fun i y z h1 h2 => h (i + 1) y z h1 h2
    exact ⟨r :: rs, by rw [e]; rfl, .cons ⟨b, .inl (.inl h2), by rw [h3]; show _ = some (HO.tup ((kS p).map kV)); rw [kS_kV]⟩ hp⟩
  | [], _ :: _, h, _ => by simp at h
  | _ :: _, [], h, _ => by simp at h
def lvs (ss : List Int) (gs : List (List Int)) (ps : List (List Int)) : List Int := (ps.filterMap (lev ss gs)).map fun n => ((n : Nat) : Int)
theorem lvs_keep {ss : List Int} {gs : List (List Int)} : ∀ ps : List (List Int), ((ps.map fun p => (oV (lev ss gs p), lev ss gs p)).filter fun z => z.2.isSome).map (·.1) = (lvs ss gs ps).map V.int
  | [] => rfl
  | p :: ps => by
    have ih := lvs_keep (ss := ss) (gs := gs) ps
    unfold lvs at ih ⊢
    rw [List.map_cons, List.filter_cons, List.filterMap_cons]
    cases e : lev ss gs p with
    | none => simpa using ih
    | some n =>
      simp only [Option.isSome_some, if_true, List.map_cons, ih]
      rfl
theorem mem_lvs {ss : List Int} {gs : List (List Int)} {ps : List (List Int)} {i : Int} : i ∈ lvs ss gs ps ↔ ∃ p ∈ ps, ∃ n : Nat, lev ss gs p = some n ∧ i = (n : Nat) := by
  unfold lvs
  rw [List.mem_map]
  constructor
  · rintro ⟨n, hn, rfl⟩
    obtain ⟨p, hp, e⟩ := List.mem_filterMap.mp hn
    exact ⟨p, hp, n, e, rfl⟩
  · rintro ⟨p, hp, n, e, rfl⟩
    exact ⟨n, List.mem_filterMap.mpr ⟨p, hp, e⟩, rfl⟩
theorem lcr_keepB {β : Type} {J : It} {n : Nat} {G : Hp → Prop} {Y : Nat → Hp → V → Hp → Prop} (w : Walk J n G Y) {g : TG} {tt : TT} {te : TE} {vs : List Nat} {σ : L2.St} {H1 : Hp} {Q : VK} (P : Hp → V → β → Prop) (hP : ∀ {H H' : Hp} {y b}, P H y b → Tp H H' → P H' y b) (bs : List β) (pr : β → Bool) (hl : bs.length = n) (hn : n < sizeLine) (hG : ∀ H, Same H1 H → G H)
    (hY : ∀ i x H H', Y i H x H' → Same H H')
    (hs : ∀ i x b H H' (Qn : Hp → Prop) (Qy : VK), bs[i]? = some b → Same H1 H → Y i H x H' → (pr b = false → ∀ H4, Same H' H4 → Qn H4) → (pr b = true → ∀ y H4, Same H' H4 → P H4 y b → Qy y H4) → g x (wipe σ vs) H' fun σ2 H2 => wipe σ2 vs = wipe σ vs ∧ tt σ2 H2 fun b H3 => if b = true then te σ2 H3 Qy else Qn H3)
    (hd : ∀ D ys H, H1 D = none → Same H1 H → H D = some (.lst ys) → ys.length = (bs.filter pr).length → (∀ (i : Nat) y b, ys[i]? = some y → (bs.filter pr)[i]? = some b → P H y b) → Q (.ref D) H) : LcR J g tt te vs σ H1 Q := by
  refine lcr_if w (fun D i acc H => AccP P H1 D ((bs.take i).filter pr) acc H) hn (fun D hD => .init hD) (fun D i acc H hD hi h e => hG H h.1) (fun D i acc H l hD h hne => ?_) ?_ ?_
  · obtain ⟨l0, e⟩ := h.2.1
    exact h.put hP hD e
  · rintro D i acc x H H' Qn Qy hD hi h e hy hqn hqy
    have s2 := hY _ _ _ _ hy
    have hx := List.getElem?_eq_getElem (by omega : i < bs.length)
    refine hs i x _ H H' Qn Qy hx h.1 hy (fun hf H4 s4 => hqn _ (s4 _ _ (s2 _ _ e)) ?_) fun ht y H4 s4 hb => hqy _ _ (s4 _ _ (s2 _ _ e)) ?_
    · rw [List.take_add_one, hx, List.filter_append, show List.filter pr (some (bs[i]'(by omega))).toList = [] by simp [hf], List.append_nil]
      obtain ⟨h1, ⟨l0, h2⟩, h3, h4⟩ := h
      have s04 := s2.trans s4
      exact ⟨h1.trans s04, ⟨l0, s04 _ _ h2⟩, h3, fun j y b e1 e2 => hP (h4 j y b e1 e2) (Tp.of s04)⟩
    · rw [List.take_add_one, hx, List.filter_append, show List.filter pr (some (bs[i]'(by omega))).toList = [bs[i]'(by omega)] by simp [ht]]
      exact AccP.snoc hP h (s2.trans s4) hb
  · rintro D acc H hD hl2 h e
    rw [← hl, List.take_length] at h
    exact hd D acc H hD h.1 e h.2.2.1 h.2.2.2
/-- a seat and its number, none as 0 -/
def wd (ss : List Int) (gs : List (List Int)) (p : List Int) : List Int × Int := (p, (((lev ss gs p).getD 0 : Nat) : Int))
theorem PT.tp {H H' : Hp} {y : V} {z : List Int × Int} (h : Cs.PT H y z) (s : Tp H H') : Cs.PT H' y z := by
  obtain ⟨r, a, h1, h2, h3⟩ := h
  exact ⟨r, a, h1, s _ _ h2, s _ _ h3⟩
theorem nt_same {d : Nat} {hs ks : List (List Int × Int)} (h : hs.Perm ks) (h1 : hs.Pairwise fun x y => Cs.cdN x ≤ Cs.cdN y) (h2 : ks.Pairwise fun x y => Cs.cdN x ≤ Cs.cdN y) (hb : ∀ w ∈ hs, w.1.length = d ∧ TS.Bd (2 ^ 1000) w.1 ∧ 0 ≤ w.2 ∧ w.2 < 2 ^ 1000) : hs = ks := by
  have e : hs.map (fun z => z.1 ++ [z.2]) = ks.map (fun z => z.1 ++ [z.2]) := by
    refine srt_same (d := d + 1) (h.map _) (List.pairwise_map.mpr h1) (List.pairwise_map.mpr h2) fun g hg => ?_
    obtain ⟨w, hw, rfl⟩ := List.mem_map.mp hg
    obtain ⟨b1, b2, b3, b4⟩ := hb w hw
    refine ⟨by rw [List.length_append, b1]; rfl, fun x hx => ?_⟩
    rcases List.mem_append.mp hx with hx | hx
    · exact b2 x hx
    · rw [List.mem_singleton.mp hx]
      exact ⟨b3, b4⟩
  have e2 := congrArg (List.map fun l : List Int => (l.dropLast, l.getLastD 0)) e
  rw [List.map_map, List.map_map] at e2
  have key : ∀ l : List (List Int × Int), l.map ((fun l : List Int => (l.dropLast, l.getLastD 0)) ∘ fun z => z.1 ++ [z.2]) = l := fun l => by
    conv => rhs; rw [← List.map_id l]
    refine List.map_congr_left fun z _ => ?_
    show ((z.1 ++ [z.2]).dropLast, (z.1 ++ [z.2]).getLastD 0) = z
    rw [List.dropLast_concat]
    simp
  rwa [key, key] at e2
theorem sort_in {H : Hp} {l : Addr} {ys : List V} {ws : List (List Int × Int)} {d : Nat} {Q : VK} (hl : H l = some (.lst ys)) (hyl : ys.length = ws.length) (hp : ∀ (i : Nat) y w, ys[i]? = some y → ws[i]? = some w → Cs.PT H y w) (hb : ∀ w ∈ ws, w.1.length = d ∧ TS.Bd (2 ^ 1000) w.1 ∧ 0 ≤ w.2 ∧ w.2 < 2 ^ 1000)
    (q : ∀ (p : Addr) (ys' : List V) (ws' : List (List Int × Int)), H p = none → ws'.Perm ws → ws'.Pairwise (fun x y => Cs.cdN x ≤ Cs.cdN y) → ys'.length = ws'.length → (∀ (i : Nat) y w, ys'[i]? = some y → ws'[i]? = some w → Cs.PT H y w) → Q (.ref p) (upd H p (.lst ys'))) : rSortNT [.ref l] H Q := by
  have h1 : (ys.zip ws).map (·.1) = ys := List.map_fst_zip (by omega)
  have h2 : (ys.zip ws).map (·.2) = ws := List.map_snd_zip (by omega)
  have hz : ∀ z ∈ ys.zip ws, Cs.PT H z.1 z.2 := fun z hz => by
    obtain ⟨i, hi⟩ := List.getElem?_of_mem hz
    rw [List.getElem?_zip_eq_some] at hi
    exact hp i _ _ hi.1 hi.2
  refine ⟨l, ys.zip ws, d, rfl, by rw [h1]; exact hl, fun z hzm => ⟨hz z hzm, hb _ (by rw [← h2]; exact List.mem_map_of_mem hzm)⟩, fun p hs hp0 hperm hsrt => q p _ (hs.map (·.2)) hp0 (by rw [← h2]; exact hperm.map _) hsrt (by rw [List.length_map, List.length_map]) fun i y w e1 e2 => ?_⟩
  rw [List.getElem?_map, Option.map_eq_some_iff] at e1 e2
  obtain ⟨z, hz1, rfl⟩ := e1
  obtain ⟨z', hz2, rfl⟩ := e2
  rw [hz1] at hz2
  obtain rfl := Option.some.inj hz2
  exact hz z (hperm.mem_iff.mp (List.mem_of_getElem? hz1))
theorem inV_oV {o : Option Nat} : inV (oV o) [V.non, V.int 0] = decide (o.getD 0 = 0) := by
  cases o with
  | none => rfl
  | some n =>
    by_cases h : n = 0
    · subst h; rfl
    · rw [decide_eq_false (by simpa using h)]
      simp [inV, eqV, oV]
      omega
def sp_law_table_is_right (K : PySem.W.Frag) : Sp := fun vs H Q _ => ∃ (c l : Addr) (ss : List Int), vs = [.ref c, .ref l] ∧ Src H c ∧ H l = some (.lst (ss.map V.int)) ∧ l ≠ c ∧ Sz ss ∧ prodI ss ≤ 300 ∧ ∀ H', Sx c H H' → Src H' c → Q (.bl true) H'
theorem ok_law_table_is_right (T : Tx K mg) : FnOk P w K mg base CX0 8 T.f_law_table_is_right T.fd_law_table_is_right ["_law_source_here", "_law_rings_here"] (sp_law_table_is_right K) := by
  refine T.F_law_table_is_right.ok sc_law_table_is_right (fun vs H Q E h => ?_) (fun cdv A outer s H vs Q E hr h => ?_)
  · obtain ⟨c, l, ss, rfl, _⟩ := h; rfl
  · obtain ⟨c, l, ss, rfl, hc, hl, hlc, z, hpr, q⟩ := h
    refine ⟨_, (C8.pss_cut (ps_set (i := 2) sc_law_table_is_right.nd rfl (Or.inr rfl) (pe_call (ok_law_seats T) (hr.mono (by decide)) (by rfl) T.g_law_seats T.F_law_seats.kp T.b_law_seats .nil pass0 (pa_cons (pv 1) pa_nil)))
      (C8.pss_cut (ps_set (i := 3) sc_law_table_is_right.nd rfl (Or.inr rfl) (pe_ix ix_lH (pv 2) (pe_call (ok_law_draw T) (hr.mono (by decide)) (by rfl) T.g_law_draw T.F_law_draw.kp T.b_law_draw .nil pass0 (pa_cons (pv 0) (pa_cons (pe_callB len_H (by rfl) T.n_len PySem.boot_len (pa_cons (pv 2) pa_nil)) pa_nil))) (fun _ _ => rfl)))
      (C8.pss_cut (ps_set (i := 4) sc_law_table_is_right.nd rfl (Or.inr rfl) (pe_make T.M_Table (ok_Table_init T) (hr.mono (by decide)) (by rfl) T.g_Table T.b_Table_init .nil pass0 (pa_cons (pv 1) pa_nil)))
      (C8.pss_cut (ps_set (i := 5) sc_law_table_is_right.nd rfl (Or.inr rfl) (pe_callTy (call_dictTK (K := K) rfl rfl hr.units) (by rfl) T.n_dict (by decide +kernel) (pa_cons (pe_lc (own := [("_law_spot", 10)]) (g := (gName 10)) (tt := tYes) rfl sc_law_table_is_right.nd (pi_seqH (pv 2)) (blkOk_by (own := [("_law_spot", 10)]) (N := N_law_table_is_right) (sc := defScope d_law_table_is_right) (by decide +kernel)) (fun _ _ _ _ _ => (pg_name (i := 10) sc_law_table_is_right.nd rfl (by first | exact Or.inl rfl | exact Or.inr rfl))) (fun _ _ _ _ _ => pts_nil) (fun _ _ _ _ _ => (pe_tup (pa_cons (pv 10) (pa_cons (pe_call (ok_law_due T) (hr.mono (by decide)) (by rfl) T.g_law_due T.F_law_due.kp T.b_law_due .nil pass0 (pa_cons (pv 1) (pa_cons (pv 10) (pa_cons (pv 3) pa_nil)))) pa_nil))))) pa_nil)))
      (C8.pss_cut (ps_set (i := 6) sc_law_table_is_right.nd rfl (Or.inl rfl) (pe_callB (cr_max rfl) (by rfl) T.n_max (by decide +kernel) (pa_cons (pe_lock (pe_lc (own := [("_law_one", 11)]) (g := (gName 11)) rfl sc_law_table_is_right.nd (pi_valuesT (pv 5)) (blkOk_by (own := [("_law_one", 11)]) (N := N_law_table_is_right) (sc := defScope d_law_table_is_right) (by decide +kernel)) (fun _ _ _ _ _ => (pg_name (i := 11) sc_law_table_is_right.nd rfl (Or.inl rfl))) (fun _ _ _ _ _ => (pts_one (pt_cmpR op_notN (pv 11) pe_non (nomark _)))) (fun _ _ _ _ _ => (pv 11)))) pa_nil)))
      (C8.pss_cut (ps_setLc (i := 7) (own := [("_law_depth", 12)]) (g := (gName 12)) (tt := tYes) rfl sc_law_table_is_right.nd rfl rfl (sw_true rfl rfl rfl (by decide +kernel)) (pi_range1H (by rfl) T.n_range (pa_cons (pe_op op_add (pv 6) pe_int) pa_nil)) (blkOk_by (own := [("_law_depth", 12)]) (N := N_law_table_is_right) (sc := defScope d_law_table_is_right) (by decide +kernel)) (fun _ _ _ _ _ => (pg_name (i := 12) sc_law_table_is_right.nd rfl (by first | exact Or.inl rfl | exact Or.inr rfl))) (fun _ _ _ _ _ => pts_nil) (fun _ _ _ _ _ => (pe_lc (own := [("_law_spot", 10)]) (g := (gName 10)) rfl sc_law_table_is_right.nd (pi_seqH (pv 2)) (blkOk_by (own := [("_law_spot", 10)]) (by rfl)) (fun _ _ _ _ _ => (pg_name (i := 10) sc_law_table_is_right.nd rfl (by first | exact Or.inl rfl | exact Or.inr rfl))) (fun _ _ _ _ _ => (pts_one (pt_cmpR op_eq (pe_dget (lt_w hr.units1) (pv 5) (pv 10) (fun _ _ => rfl)) (pv 12) (nomark _)))) (fun _ _ _ _ _ => (pv 10)))))
      (C8.pss_cut (ps_if (pt_cmpR (op_neDK (K := K) rfl hr.units) (pe_call (ok_layers T) (hr.mono (by decide)) (by rfl) T.g_layers T.F_layers.kp T.b_layers .nil pass0 (pa_cons (pv 4) (pa_cons (pe_lst (pa_cons (pv 3) pa_nil)) pa_nil))) (pv 7) (nomark _)) (pss_one (ps_ret pe_bl)) pss_nil)
      (C8.pss_cut (ps_set (i := 8) sc_law_table_is_right.nd rfl (Or.inl rfl) (pe_call (ok_plan_depths T) (hr.mono (by decide)) (by rfl) T.g_plan_depths T.F_plan_depths.kp T.b_plan_depths .nil pass0 (pa_cons (pv 4) (pa_cons (pe_tup (pa_cons (pv 3) pa_nil)) (pa_cons (pe_call (ok_make_plan T) (hr.mono (by decide)) (by rfl) T.g_make_plan T.F_make_plan.kp T.b_make_plan .nil pass0 (pa_cons (pv 4) (pa_cons (pe_tup (pa_cons (pv 3) pa_nil)) pa_nil))) pa_nil)))))
      (C8.pss_cut (ps_if (pt_cmpR (op_neDK (K := K) rfl hr.units) (pe_callB (cr_sortNT hr.units) (by rfl) T.n_sorted (by decide +kernel) (pa_cons (pv 8) pa_nil)) (pe_callB (cr_sortNT hr.units) (by rfl) T.n_sorted (by decide +kernel) (pa_cons (pe_lc (own := [("_law_spot", 10)]) (g := (gName 10)) rfl sc_law_table_is_right.nd (pi_seqH (pv 2)) (blkOk_by (own := [("_law_spot", 10)]) (N := N_law_table_is_right) (sc := defScope d_law_table_is_right) (by decide +kernel)) (fun _ _ _ _ _ => (pg_name (i := 10) sc_law_table_is_right.nd rfl (by first | exact Or.inl rfl | exact Or.inr rfl))) (fun _ _ _ _ _ => (pts_one (pt_cmpR (op_notInK (K := K) rfl) (pe_dget (lt_w hr.units1) (pv 5) (pv 10) (fun _ _ => rfl)) (pe_tup (pa_cons pe_non (pa_cons pe_int pa_nil))) rfl))) (fun _ _ _ _ _ => (pe_tup (pa_cons (pv 10) (pa_cons (pe_dget (lt_w hr.units1) (pv 5) (pv 10) (fun _ _ => rfl)) pa_nil))))) pa_nil)) (nomark _)) (pss_one (ps_ret pe_bl)) pss_nil)
      (C8.pss_cut (ps_set (i := 9) sc_law_table_is_right.nd rfl (Or.inl rfl) (pe_op op_catS (pe_lc (own := [("_law_index", 13)]) (g := (gName 13)) (tt := tYes) rfl sc_law_table_is_right.nd (pi_range1H (by rfl) T.n_range (pa_cons pe_int pa_nil)) (blkOk_by (own := [("_law_index", 13)]) (N := N_law_table_is_right) (sc := defScope d_law_table_is_right) (by decide +kernel)) (fun _ _ _ _ _ => (pg_name (i := 13) sc_law_table_is_right.nd rfl (Or.inl rfl))) (fun _ _ _ _ _ => pts_nil) (fun _ _ _ _ _ => (pe_ix ix_lH (pv 2) (pe_call (ok_law_draw T) (hr.mono (by decide)) (by rfl) T.g_law_draw T.F_law_draw.kp T.b_law_draw .nil pass0 (pa_cons (pv 0) (pa_cons (pe_callB len_H (by rfl) T.n_len PySem.boot_len (pa_cons (pv 2) pa_nil)) pa_nil))) (fun _ _ => rfl)))) (pe_lst (pa_cons (pv 3) pa_nil))))
      (pss_one (ps_ret (pe_cmpR (op_eqDK (K := K) rfl hr.units) (pe_lc (own := [("_law_spot", 10)]) (g := (gName 10)) rfl sc_law_table_is_right.nd (pi_seqH (pv 9)) (blkOk_by (own := [("_law_spot", 10)]) (N := N_law_table_is_right) (sc := defScope d_law_table_is_right) (by decide +kernel)) (fun _ _ _ _ _ => (pg_name (i := 10) sc_law_table_is_right.nd rfl (by first | exact Or.inl rfl | exact Or.inr rfl))) (fun _ _ _ _ _ => (pts_one (pt_cmpR (op_neDK (K := K) rfl hr.units) (pe_call (ok_min_calls T) (hr.mono (by decide)) (by rfl) T.g_min_calls T.F_min_calls.kp T.b_min_calls .nil pass0 (pa_cons (pv 4) (pa_cons (pe_lst (pa_cons (pv 3) pa_nil)) (pa_cons (pv 10) pa_nil)))) (pe_dget (lt_w hr.units1) (pv 5) (pv 10) (fun _ _ => rfl)) (nomark _)))) (fun _ _ _ _ _ => (pv 10))) (pe_lst pa_nil) (nomark _)))))))))))))), ?_⟩
    have hpos := z.pos
    have hseat : ∀ g ∈ allI ss, Seat ss g := fun g hg => (allI_mem z).mp hg
    have hnd : (allI ss).Nodup := by
      rw [allI_cnt]
      refine List.pairwise_map.mpr (List.Pairwise.imp_of_mem (fun {a b} ha hb h e => ?_) List.nodup_range)
      exact h (iS_inj (List.mem_range.mp ha) (List.mem_range.mp hb) e)
    have hps : ∀ s ∈ toN ss, 1 ≤ s := fun n hn => by
      obtain ⟨x, hx, rfl⟩ := List.mem_map.mp hn
      have := hpos x hx
      omega
    have hal : (allI ss).length = Cs.cnt (toN ss) := by rw [allI_cnt, List.length_map, List.length_range]
    have hc1 : 1 ≤ Cs.cnt (toN ss) := Nat.le_trans (Cs.cnt_take hps 0).2 (Cs.cnt_take hps 0).1
    have hc2 := cnt_prod hpos
    refine ⟨fun σ H' => ∃ L : Addr, σ = [some (V.ref c), some (V.ref l), some (V.ref L), none, none, none, none, none, none, none, none, none, none, none] ∧ Same H H' ∧ LstT H' L (allI ss), ?_, ?_⟩
    · walk_at "rd"
      exact ⟨true, l, ss, rfl, hl, z, by omega, fun H7 L s7 hL => ⟨L, rfl, s7, hL⟩⟩
    rintro σ1 H1 ⟨L, rfl, s1, hL1⟩
    obtain ⟨la0, eL0, hLA0⟩ := id hL1
    refine ⟨fun σ H' => ∃ (g : Addr) (gp : List Int), σ = [some (V.ref c), some (V.ref l), some (V.ref L), some (V.ref g), none, none, none, none, none, none, none, none, none, none] ∧ Sx c H H' ∧ Src H' c ∧ H' l = some (.lst (ss.map V.int)) ∧ LstT H' L (allI ss) ∧ H' g = some (.tup (gp.map V.int)) ∧ Seat ss gp, ?_, ?_⟩
    · walk_at "rd"
      have hs1 := hc.same s1
      refine .inl ⟨_, eL0, c, _, rfl, hs1, by rw [List.length_map, hLA0.1]; omega, by rw [List.length_map, hLA0.1, Int.natAbs_natCast]; exact Nat.lt_of_lt_of_le (by omega : _ < 2 ^ 10) (Nat.pow_le_pow_right (by decide) (by decide)), fun H3 r s3 hs3 r0 rn => ?_⟩
      have hL3 := hL1.sxs hs1 s3
      obtain ⟨la3, eL3, hLA3⟩ := id hL3
      rw [List.length_map, hLA0.1] at rn
      obtain ⟨k, a, hk, hat⟩ := atI_refs (as := la3) r0 (by rw [hLA3.1]; exact rn)
      have hkl : k < (allI ss).length := by rw [← hLA3.1]; exact (List.getElem?_eq_some_iff.mp hk).1
      have hb := List.getElem?_eq_getElem hkl
      exact ⟨r, rfl, _, eL3, _, hat, a, rfl, (Sx.of s1).trans s3, hs3, s3 _ _ hlc (s1 _ _ hl), hL3, _, hLA3.2 _ _ _ hk hb, hseat _ (List.mem_of_getElem? hb)⟩
    rintro σ2 H2 ⟨g, gp, rfl, s2, hs2, hl2, hL2, hg2, hgS⟩
    refine ⟨fun σ H' => ∃ t, σ = [some (V.ref c), some (V.ref l), some (V.ref L), some (V.ref g), some (V.ref t), none, none, none, none, none, none, none, none, none] ∧ Same H2 H' ∧ TabAt T.c_Table H' t ss, ?_, ?_⟩
    · walk_at "rd"
      intro x dx hx hdx hne
      exact tab_made (k := true) hx hdx hne hl2 z fun G1 sG hT => ⟨rfl, sG, hT⟩
    rintro σ3 H3 ⟨t, rfl, s3, ht3⟩
    have hL3 := hL2.same s3
    obtain ⟨la, eL, hLA⟩ := id hL3
    refine ⟨fun σ H' => ∃ d, σ = [some (V.ref c), some (V.ref l), some (V.ref L), some (V.ref g), some (V.ref t), some (V.ref d), none, none, none, none, none, none, none, none] ∧ Same H3 H' ∧ H' d = some (.dT (duL ss [gp] (allI ss))), ?_, ?_⟩
    · walk_at "rd"
      refine .inl ⟨_, eL, fun J W => ?_⟩
      refine lcr_acc W (PO ss [gp]) PO.tp (allI ss) (by rw [List.length_map, hLA.1]) (by rw [List.length_map, hLA.1]; omega) (fun H3 s3 => s3 _ _ eL) (fun _ _ _ _ y => YAt.same y) ?_ ?_
      · rintro i x b G1 G1' Qy hi hb sG ⟨rfl, hx⟩ hq
        have hbS := hseat b (List.mem_of_getElem? hb)
        simp only [List.getElem?_map, Option.map_eq_some_iff] at hx
        obtain ⟨a, ha, rfl⟩ := hx
        have ea := sG _ _ (hLA.2 _ _ _ ha hb)
        walk_at "rd"
        refine ⟨l, a, g, ss, b, gp, rfl, sG _ _ (s3 _ _ hl2), ea, sG _ _ (s3 _ _ hg2), z, hbS, hgS, fun G2 s2' => ?_⟩
        exact fun p hp => hq _ _ (s2'.trans (Same.new hp)) ⟨p, a, rfl, upd_same, Same.new hp _ _ (s2' _ _ ea)⟩
      · intro D ys H4 hD s4 eD hyl hys
        obtain ⟨rs, rfl, hpd⟩ := po_paired (K := K) hyl hys
        refine ⟨D, rs, _, rfl, .inl (.inl eD), hpd, fun p hp => ?_⟩
        rw [show mergeT [] (duL ss [gp] (allI ss)) = duL ss [gp] (allI ss) from duL_merge (qs := []) hnd]
        exact ⟨p, rfl, s4.trans (Same.new hp), upd_same⟩
    rintro σ4 H4 ⟨d, rfl, s4, hd4⟩
    generalize hkv : duL ss [gp] (allI ss) = kvs at hd4
    have hval : ∀ p, p ∈ allI ss → valV kvs (kS p) = some (oV (lev ss [gp] p)) := fun p hp => by rw [← hkv]; exact duL_val hp
    have hkl : kvs.length = (allI ss).length := by rw [← hkv]; unfold duL; rw [List.length_map]
    have htg : Tgts ss [gp] := ⟨by simp, by simp, by simp, fun x hx => by rw [List.mem_singleton.mp hx]; exact hgS⟩
    have G : Tab ss [gp] := ⟨z, hpr, htg⟩
    refine ⟨fun σ H' => ∃ (m : Nat) (pm : List Int), σ = [some (V.ref c), some (V.ref l), some (V.ref L), some (V.ref g), some (V.ref t), some (V.ref d), some (V.int (m : Nat)), none, none, none, none, none, none, none] ∧ Same H4 H' ∧ Seat ss pm ∧ lev ss [gp] pm = some m ∧ ∀ p j, Seat ss p → lev ss [gp] p = some j → j ≤ m, ?_, ?_⟩
    · walk_at "rd"
      refine ⟨d, _, hd4, trivial, fun od => ⟨V.ref d, rfl, d, od, kvs, rfl, upd_same, ?_⟩⟩
      have hf : (upd H4 d (.frz od (.dT kvs))) d = some (.frz od (.dT kvs)) := upd_same
      refine lcr_keepP walk_valuesT ((allI ss).map fun p => (oV (lev ss [gp] p), lev ss [gp] p)) Option.isSome (by rw [List.length_map, hkl]) (Nat.lt_of_le_of_lt (by omega : _ ≤ 1000) (by decide)) (fun H3 s3 => s3 _ _ hf) ?_ ?_ ?_
      · rintro i x G1 G1' hi ⟨rfl, k, hk⟩
        rw [← hkv] at hk
        unfold duL at hk
        rw [List.getElem?_map, Option.map_eq_some_iff] at hk
        obtain ⟨p, hp1, hp2⟩ := hk
        obtain ⟨rfl, rfl⟩ := Prod.mk.inj hp2
        exact ⟨Same.refl _, lev ss [gp] p, by rw [List.getElem?_map, hp1]; rfl⟩
      · rintro x b G1 Qn Qy hm sG hqn hqy
        obtain ⟨p, _, hp2⟩ := List.mem_map.mp hm
        obtain ⟨rfl, rfl⟩ := Prod.mk.inj hp2
        walk_at "rd"
        cases e : lev ss [gp] p with
        | none =>
          rw [e] at hqn
          exact hqn rfl _ (Same.refl _)
        | some n =>
          rw [e] at hqy
          exact hqy rfl _ (Same.refl _)
      · intro D G1 hD sG eD
        rw [lvs_keep] at eD
        have nD : D ≠ d := fun h => by rw [h, hf] at hD; cases hD
        have hz0 : (0 : Int) ∈ lvs ss [gp] (allI ss) := mem_lvs.mpr ⟨gp, (allI_mem z).mpr hgS, 0, (lev_zero htg.ok hgS).mpr (List.mem_singleton.mpr rfl), rfl⟩
        refine ⟨sG _ _ hf, D, lvs ss [gp] (allI ss), rfl, .inl (.inl (by rw [upd_ne nD]; exact eD)), List.length_pos_of_mem hz0, fun m h1 h2 => ?_⟩
        obtain ⟨pm, hpm, n, hn, rfl⟩ := mem_lvs.mp h1
        refine ⟨n, rfl, fun b o hb => ?_, pm, hseat pm hpm, hn, fun p j hp hj => ?_⟩
        · by_cases c : b = d
          · subst c
            rw [hd4] at hb
            rw [upd_same]
            exact hb
          · rw [upd_ne c]
            exact sG _ _ (by rw [upd_ne c]; exact hb)
        · have := h2 _ (mem_lvs.mpr ⟨p, (allI_mem z).mpr hp, j, hj, rfl⟩)
          omega
    rintro σ5 H5 ⟨m, pm, rfl, s5, hpm, hlm, hmx⟩
    have hjc : m < Cs.cnt (toN ss) := by
      obtain ⟨h1, h2⟩ := (lev_some hpm).mp hlm
      exact un_few (ix_lt hpm) h1 h2
    have hrl := rows_lay z ⟨pm, hpm, hlm⟩ hmx
    have s35 := s4.trans s5
    refine ⟨fun σ H' => ∃ R, σ = [some (V.ref c), some (V.ref l), some (V.ref L), some (V.ref g), some (V.ref t), some (V.ref d), some (V.int (m : Nat)), some (V.ref R), none, none, none, none, none, none] ∧ Same H5 H' ∧ LayL H' R (layI ss [gp]), ?_, ?_⟩
    · walk_at "rd"
      refine ⟨by omega, by omega, fun J W => ?_⟩
      refine lcr_lstf W (rowS ss [gp]) (by omega) (fun _ _ => trivial) (fun i x H H' y => by rw [y.1]; exact Same.refl _) ?_ ?_
      · rintro i x G1 G1' Qy hi s1' ⟨rfl, rfl⟩ hq
        have eLg := s1' _ _ (s35 _ _ eL)
        walk_at "rd"
        refine .inl ⟨_, eLg, fun J2 W2 => ?_⟩
        refine lcr_keepT eLg (hLA.same (s35.trans s1')) (by omega) W2 (fun p => decide (lev ss [gp] p = some i)) ?_ fun D G2 hD s2' hLD => hq D G2 s2' hD hLD
        intro x b G2 Qn Qy2 hb s2' hx hqn hqy
        have hbS := hseat b hb
        have d2 := s2' _ _ (s1' _ _ (s5 _ _ hd4))
        walk_at "rd"
        refine ⟨oV (lev ss [gp] b), .inr ⟨kvs, kS b, x, .inl d2, rfl, by rw [hx, kS_kV], by rw [hval b hb]⟩, by cases lev ss [gp] b <;> rfl, ?_⟩
        by_cases c : lev ss [gp] b = some i
        · rw [if_pos (by rw [c]; rfl)]
          exact hqy (decide_eq_true c) _ (Same.refl _)
        · rw [if_neg fun h => c (by
            cases e : lev ss [gp] b with
            | none => rw [e] at h; cases h
            | some n => rw [e] at h; have := V.int.inj h; rw [show n = i by omega])]
          exact hqn (decide_eq_false c) _ (Same.refl _)
      · intro D ds H9 hD s9 e hl hds
        refine ⟨D, rfl, s9, ds, e, ?_, fun i d' r h1 h2 => ?_⟩
        · rw [hl, ← hrl, List.length_map, List.length_range]
          omega
        · rw [← hrl, List.getElem?_map, Option.map_eq_some_iff] at h2
          obtain ⟨n, hn, rfl⟩ := h2
          obtain ⟨hn3, hn4⟩ := List.getElem?_eq_some_iff.mp hn
          rw [List.getElem_range] at hn4
          subst hn4
          exact (hds _ _ h1).1
    rintro σ6 H6 ⟨R, rfl, s6, hR6⟩
    refine ⟨fun σ H' => σ = [some (V.ref c), some (V.ref l), some (V.ref L), some (V.ref g), some (V.ref t), some (V.ref d), some (V.int (m : Nat)), some (V.ref R), none, none, none, none, none, none] ∧ Same H6 H', ?_, ?_⟩
    · walk_at "rd"
      intro p hp
      have sp := Same.new hp (o := .lst [V.ref g])
      have s26 := ((s3.trans s35).trans s6).trans sp
      have hp1 : TgtAt true (upd H6 p (.lst [V.ref g])) p [gp] := ⟨[g], upd_same, AsT.snoc (hs := gp) AsT.nil (s26 _ _ hg2)⟩
      refine ⟨t, p, true, ss, [gp], rfl, ht3.same ((s35.trans s6).trans sp), hp1, G, fun H10 D s10 hD hF => ?_⟩
      exact neD_lay hF.lay (hR6.same (sp.trans s10)) ⟨_, rfl, by rw [if_neg (by decide)]; exact sp.trans s10⟩
    rintro σ7 H7 ⟨rfl, s7⟩
    refine ⟨fun σ H' => ∃ (D : Addr) (Ls : List (List Int)) (ys : List V), σ = [some (V.ref c), some (V.ref l), some (V.ref L), some (V.ref g), some (V.ref t), some (V.ref d), some (V.int (m : Nat)), some (V.ref R), some (V.ref D), none, none, none, none, none] ∧ Same H7 H' ∧ H' D = some (.lst ys) ∧ ys.length = Ls.length ∧ (∀ (i : Nat) y p, ys[i]? = some y → Ls[i]? = some p → PlanR ss [gp] H' y p) ∧ Ls.Nodup ∧ Ls.length ≤ 1000 ∧ (∀ p, p ∈ Ls ↔ Seat ss p ∧ ∃ n, lev ss [gp] p = some (n + 1)), ?_, ?_⟩
    · walk_at "rd"
      intro p1 hp1 p2 hp2
      have sp1 := Same.new hp1 (o := .tup [V.ref g])
      have sp2 := Same.new hp2 (o := .tup [V.ref g])
      have e1 := sp2 _ _ (upd_same : (upd H7 p1 (.tup [V.ref g])) p1 = some (.tup [V.ref g]))
      have e2 : (upd (upd H7 p1 (.tup [V.ref g])) p2 (.tup [V.ref g])) p2 = some (.tup [V.ref g]) := upd_same
      have s12 := sp1.trans sp2
      generalize upd (upd H7 p1 (HO.tup [V.ref g])) p2 (HO.tup [V.ref g]) = HA at s12 e1 e2 ⊢
      have s3A := ((s35.trans s6).trans s7).trans s12
      have s2A := s3.trans s3A
      have gA : AsT HA [g] [gp] := AsT.snoc (hs := gp) AsT.nil (s2A _ _ hg2)
      refine ⟨t, p2, false, ss, [gp], rfl, ht3.same s3A, ⟨[g], e2, gA⟩, G, fun HB D sB hD hP hT => ?_⟩
      have hO := pln_ok G hT
      have hmem := fun p => pln_mem (p := p) hpos hT
      generalize hLs : ((layI ss [gp]).drop 1).flatten = Ls at hO hmem hP
      exact ⟨t, p1, D, false, ss, [gp], Ls, rfl, ht3.same (s3A.trans sB), ⟨[g], sB _ _ e1, gA.same sB⟩, G, hP, hO.nd, hO.off, hO.few, hO.ord, fun H9 R zs s9 hR hR9 hzl hzs => ⟨R, rfl, (s12.trans sB).trans s9, Ls, zs, hR9, hzl, hzs, hO.nd, hO.few, hmem⟩⟩
    rintro σ8 H8 ⟨D, Ls, ys, rfl, s8, hD8, hyl, hys, hLn, hLf, hLm⟩
    have s38 := (s35.trans s6).trans (s7.trans s8)
    refine ⟨fun σ H' => σ = [some (V.ref c), some (V.ref l), some (V.ref L), some (V.ref g), some (V.ref t), some (V.ref d), some (V.int (m : Nat)), some (V.ref R), some (V.ref D), none, none, none, none, none] ∧ Same H8 H', ?_, ?_⟩
    · walk_at "rd"
      have hbd : ∀ p, Seat ss p → (wd ss [gp] p).1.length = ss.length ∧ TS.Bd (2 ^ 1000) (wd ss [gp] p).1 ∧ 0 ≤ (wd ss [gp] p).2 ∧ (wd ss [gp] p).2 < 2 ^ 1000 := fun p hp => by
        obtain ⟨b1, b2⟩ := seat_bd z hp
        refine ⟨b1, b2, Int.natCast_nonneg _, ?_⟩
        show (((lev ss [gp] p).getD 0 : Nat) : Int) < 2 ^ 1000
        cases e : lev ss [gp] p with
        | none => exact Int.pow_pos (by decide)
        | some n =>
          have := hmx p n hp e
          have h3 : ((n : Nat) : Int) < 2 ^ 10 := by omega
          exact Int.lt_trans h3 (by decide)
      have hPT : ∀ (i : Nat) y w, ys[i]? = some y → (Ls.map (wd ss [gp]))[i]? = some w → Cs.PT H8 y w := fun i y w e1 e2 => by
        rw [List.getElem?_map, Option.map_eq_some_iff] at e2
        obtain ⟨p, hp, rfl⟩ := e2
        obtain ⟨r, a, n, rfl, h1, h2, h3⟩ := hys i y p e1 hp
        exact ⟨r, a, rfl, by unfold wd; rw [h3]; exact h1, h2⟩
      refine sort_in hD8 (by rw [List.length_map, hyl]) hPT (fun w hw => by obtain ⟨p, hp, rfl⟩ := List.mem_map.mp hw; exact hbd p ((hLm p).mp hp).1) fun p1 ys1 ws1 hp1 hpm1 hsr1 hyl1 hpt1 => ?_
      have sp1 := Same.new hp1 (o := .lst ys1)
      have f1 : (upd H8 p1 (.lst ys1)) p1 = some (.lst ys1) := upd_same
      have hpt1' : ∀ (i : Nat) y w, ys1[i]? = some y → ws1[i]? = some w → Cs.PT (upd H8 p1 (.lst ys1)) y w := fun i y w a b => PT.tp (hpt1 i y w a b) (Tp.of sp1)
      generalize upd H8 p1 (HO.lst ys1) = HA at sp1 f1 hpt1' ⊢
      have s3A := s38.trans sp1
      have eLA := s3A _ _ eL
      refine .inl ⟨_, eLA, fun J W => ?_⟩
      refine lcr_keepB W (fun H y p => Cs.PT H y (wd ss [gp] p)) PT.tp (allI ss) (fun p => !decide ((lev ss [gp] p).getD 0 = 0)) (by rw [List.length_map, hLA.1]) (Nat.lt_of_le_of_lt (by rw [List.length_map, hLA.1]; omega : _ ≤ 1000) (by decide)) (fun H3 s3 => s3 _ _ eLA) (fun _ _ _ _ y => YAt.same y) ?_ ?_
      · rintro i x b G1 G1' Qn Qy hb sG ⟨rfl, hx⟩ hqn hqy
        simp only [List.getElem?_map, Option.map_eq_some_iff] at hx
        obtain ⟨a, ha, rfl⟩ := hx
        have ea := sG _ _ (s3A _ _ (hLA.2 _ _ _ ha hb))
        have hbm := List.mem_of_getElem? hb
        have ed := sG _ _ (sp1 _ _ (s8 _ _ (s7 _ _ (s6 _ _ (s5 _ _ hd4)))))
        have dg : ∀ {HX : Hp}, Same G1' HX → DGet HX d (.ref a) (some (oV (lev ss [gp] b))) := fun {HX} sX => .inr ⟨kvs, kS b, a, .inl (sX _ _ ed), rfl, by rw [sX _ _ ea, kS_kV], by rw [hval b hbm]⟩
        walk_at "rd"
        refine ⟨_, dg (Same.refl _), fun p hp => ?_⟩
        have sp := Same.new hp (o := .tup [V.non, V.int 0])
        refine ⟨p, [V.non, V.int 0], rfl, .inr (.inl (.inl upd_same)), by cases lev ss [gp] b <;> rfl, rfl, _, rfl, ?_⟩
        rw [if_pos rfl, inV_oV]
        by_cases c : (lev ss [gp] b).getD 0 = 0
        · rw [if_neg (by simp [c])]
          exact hqn (by simp [c]) _ sp
        · rw [if_pos (by simp [c])]
          refine ⟨_, dg sp, fun p2 hp2 => hqy (by simp [c]) _ _ (sp.trans (Same.new hp2)) ⟨p2, a, rfl, ?_, Same.new hp2 _ _ (sp _ _ ea)⟩⟩
          rw [upd_same]
          unfold wd
          cases e : lev ss [gp] b with
          | none => rw [e] at c; exact absurd rfl c
          | some n => rfl
      · intro D2 ys2 HB hD2 sB eD2 hyl2 hpt2
        refine sort_in (ws := ((allI ss).filter fun p => !decide ((lev ss [gp] p).getD 0 = 0)).map (wd ss [gp])) eD2 (by rw [List.length_map, hyl2]) (fun i y w e1 e2 => by
          rw [List.getElem?_map, Option.map_eq_some_iff] at e2
          obtain ⟨p, hp, rfl⟩ := e2
          exact hpt2 i y p e1 hp) (fun w hw => by obtain ⟨p, hp, rfl⟩ := List.mem_map.mp hw; exact hbd p (hseat p (List.mem_filter.mp hp).1)) fun p3 ys3 ws3 hp3 hpm3 hsr3 hyl3 hpt3 => ?_
        have sp3 := Same.new hp3 (o := .lst ys3)
        have hperm : ws1.Perm ws3 := by
          refine hpm1.trans (List.Perm.trans (List.Perm.map _ ?_) hpm3.symm)
          refine (List.perm_ext_iff_of_nodup hLn (hnd.filter _)).mpr fun p => ?_
          rw [hLm p, List.mem_filter, allI_mem z]
          refine and_congr_right fun hp => ?_
          cases e : lev ss [gp] p with
          | none => simp
          | some n => cases n <;> simp
        have hws : ws1 = ws3 := nt_same hperm hsr1 hsr3 fun w hw => by
          obtain ⟨p, hp, rfl⟩ := List.mem_map.mp (hpm1.mem_iff.mp hw)
          exact hbd p ((hLm p).mp hp).1
        subst hws
        obtain ⟨DD, d1, d2, d3⟩ := eqD_accs (K := K) (P := fun y w => Cs.PT (upd HB p3 (.lst ys3)) y w) key_pt ((sB.trans sp3) _ _ f1) (upd_same : (upd HB p3 (.lst ys3)) p3 = _) hyl1 hyl3 (fun i y w a b => PT.tp (hpt1' i y w a b) (Tp.of (sB.trans sp3))) fun i y w a b => PT.tp (hpt3 i y w a b) (Tp.of sp3)
        refine ⟨_, _, d1, d2, d3, d3, ?_⟩
        rw [SeqAt.eqv_refl _ (SeqAt.canLay_of_shaped d3)]
        exact ⟨_, rfl, by rw [if_neg (by decide)]; exact (sp1.trans sB).trans sp3⟩
    rintro σ9 H9 ⟨rfl, s9⟩
    refine ⟨fun σ H' => ∃ (M : Addr) (gs4 : List (List Int)), σ = [some (V.ref c), some (V.ref l), some (V.ref L), some (V.ref g), some (V.ref t), some (V.ref d), some (V.int (m : Nat)), some (V.ref R), some (V.ref D), some (V.ref M), none, none, none, none] ∧ Sx c H9 H' ∧ Src H' c ∧ LstT H' M gs4 ∧ gs4.length ≤ 4 ∧ ∀ p ∈ gs4, Seat ss p, ?_, ?_⟩
    · have s39 := s38.trans s9
      have hs9 := hs2.same (s3.trans s39)
      have hL9 := hL3.same s39
      have hg9 := s39 _ _ (s3 _ _ hg2)
      walk_at "rd"
      intro J W
      refine lcr_tupsD W (a := c) (Seat ss) hs9 (by decide) (fun _ _ => trivial) (fun i x H H' y => by rw [y.1]; exact Same.refl _) ?_ ?_
      · rintro i x G1 G1' Qy hi sG hsG ⟨rfl, rfl⟩ hq
        have hLG := hL9.sxs hs9 sG
        obtain ⟨la1, eL1, hLA1⟩ := id hLG
        walk_at "rd"
        refine .inl ⟨_, eL1, c, _, rfl, hsG, by rw [List.length_map, hLA1.1]; omega, by rw [List.length_map, hLA1.1, Int.natAbs_natCast]; exact Nat.lt_of_lt_of_le (by omega : _ < 2 ^ 10) (Nat.pow_le_pow_right (by decide) (by decide)), fun H3 r s3 hs3 r0 rn => ?_⟩
        have hL3 := hLG.sxs hsG s3
        obtain ⟨la3, eL3, hLA3⟩ := id hL3
        rw [List.length_map, hLA1.1] at rn
        obtain ⟨k, a, hk, hat⟩ := atI_refs (as := la3) r0 (by rw [hLA3.1]; exact rn)
        have hkl : k < (allI ss).length := by rw [← hLA3.1]; exact (List.getElem?_eq_some_iff.mp hk).1
        have hb := List.getElem?_eq_getElem hkl
        exact ⟨r, rfl, _, eL3, _, hat, hq a _ H3 s3 hs3 (hseat _ (List.mem_of_getElem? hb)) (hLA3.2 _ _ _ hk hb)⟩
      · intro D2 zs G1 hD2 sG hsG hzl hzS hLD p hp
        obtain ⟨as, eD, hA⟩ := hLD
        have gG := sG _ _ (hs9.ne_of hg9 fun _ _ _ => by simp) hg9
        refine ⟨D2, rfl, as.map V.ref, .inl (.inl (Same.new hp _ _ eD)), [V.ref g], .inl (.inl upd_same), by rw [List.length_map, hA.1, hzl]; show 3 + 1 ≤ sizeLine; decide, fun p1 hp1 => ?_⟩
        have s12 := (Same.new hp (o := .lst [V.ref g])).trans (Same.new hp1 (o := .lst (as.map V.ref ++ [V.ref g])))
        refine ⟨sG.trans (Sx.of s12), hsG.same s12, zs ++ [gp], ⟨as ++ [g], by rw [List.map_append]; exact upd_same, (hA.same s12).snoc (s12 _ _ gG)⟩, by rw [List.length_append, hzl]; show 3 + 1 ≤ 4; decide, fun x hx => ?_⟩
        rcases List.mem_append.mp hx with h | h
        · exact hzS x h
        · rw [List.mem_singleton.mp h]; exact hgS
    rintro σ10 H10 ⟨M, gs4, rfl, s10, hs10, hM10, h44, hS4⟩
    have s39 := s38.trans s9
    have hs9 := hs2.same (s3.trans s39)
    have hd9 := s9 _ _ (s8 _ _ (s7 _ _ (s6 _ _ (s5 _ _ hd4))))
    have hd10 := s10 _ _ (hs9.ne_of hd9 fun _ _ _ => by simp) hd9
    have hg9 := s39 _ _ (s3 _ _ hg2)
    have hg10 := s10 _ _ (hs9.ne_of hg9 fun _ _ _ => by simp) hg9
    have ht10 : TabAt T.c_Table H10 t ss := by
      obtain ⟨dx, tt, h1, h2⟩ := ht3.same s39
      exact ⟨dx, tt, s10 _ _ (hs9.ne_of h1 fun _ _ _ => by simp) h1, s10 _ _ (hs9.ne_of h2 fun _ _ _ => by simp) h2⟩
    obtain ⟨ma, eM, hMA⟩ := id hM10
    walk_at "rd"
    refine .inl ⟨_, eM, fun J W => ?_⟩
    refine lcr_keepT eM hMA (by omega) W (fun _ => false) ?_ ?_
    · intro x b G1 Qn Qy hb sG hx hqn hqy
      have hbS := hS4 b hb
      walk_at "rd"
      intro p hp
      have sp := Same.new hp (o := .lst [V.ref g])
      have sGp := sG.trans sp
      refine ⟨t, p, x, true, ss, b, [gp], rfl, ht10.same sGp, ⟨[g], upd_same, AsT.snoc (hs := gp) AsT.nil (sGp _ _ hg10)⟩, G, sp _ _ hx, hbS, fun G2 s2' => ?_⟩
      have d2 := s2' _ _ (sGp _ _ hd10)
      refine ⟨oV (lev ss [gp] b), .inr ⟨kvs, kS b, x, .inl d2, rfl, by rw [s2' _ _ (sp _ _ hx), kS_kV], by rw [hval b ((allI_mem z).mpr hbS)]⟩, ?_⟩
      exact neD_oV rfl rfl ⟨_, rfl, by rw [if_neg (by decide)]; exact hqn rfl _ (sp.trans s2')⟩
    · intro D2 G1 hD2 sG hLD p hp
      have sp := Same.new hp (o := .lst [])
      rw [show gs4.filter (fun _ => false) = [] from List.filter_eq_nil_iff.mpr fun _ _ => by simp] at hLD
      obtain ⟨as, eD, hA⟩ := hLD.same sp
      have has : as = [] := List.eq_nil_of_length_eq_zero hA.1
      rw [has] at eD
      refine ⟨.list [], .list [], .lst (.inl (.inl eD)) .nil, .lst (.inl (.inl upd_same)) .nil, rfl, rfl, ?_⟩
      exact q _ (((s2.trans (Sx.of (s3.trans s39))).trans s10).trans (Sx.of (sG.trans sp))) (hs10.same (sG.trans sp))
end

/-! ### the law -/
section
variable {P : Program} {w : World} {K : PySem.W.Frag} {mg : Str → Option Value} {base : Heap}
theorem lcr_draw {J : It} {n : Nat} {G : Hp → Prop} {Y : Nat → Hp → V → Hp → Prop} (w : Walk J n G Y) {g : TG} {te : TE} {vs : List Nat} {σ : L2.St} {H1 : Hp} {Q : VK} {a : Addr} (R : Nat → V → Prop) (hs1 : Src H1 a) (hn : n ≤ sizeLine)
    (hG : ∀ H, Sx a H1 H → G H) (hY : ∀ i x H H', Y i H x H' → Same H H')
    (hs : ∀ i x H H' (Qy : VK), i < n → Sx a H1 H → Src H' a → Y i H x H' → (∀ y H4, Sx a H' H4 → Src H4 a → R i y → Qy y H4) → g x (wipe σ vs) H' fun σ2 H2 => wipe σ2 vs = wipe σ vs ∧ te σ2 H2 Qy)
    (hd : ∀ D acc H, H1 D = none → Sx a H1 H → Src H a → acc.length = n → (∀ (i : Nat) y, acc[i]? = some y → R i y) → H D = some (.lst acc) → Q (.ref D) H) : LcR J g tYes te vs σ H1 Q := fun D hD => by
  have nDa : D ≠ a := hs1.ne hD
  refine lc_gen w (fun i acc H => Sx a H1 H ∧ Src H a ∧ acc.length = i ∧ ∀ (j : Nat) y, acc[j]? = some y → R j y) hn ⟨Sx.of (Same.new hD), hs1.same (Same.new hD), rfl, fun j y h => by simp at h⟩ (fun i acc H _ h _ => hG H h.1) (fun i acc H l h _ => ⟨fun b o nb e => ?_, h.2.1.put nDa.symm, h.2.2⟩) (fun i acc x H H' Qy hi ha h e hy hq => ?_) (fun acc H ha h e => hd D acc H hD h.1 h.2.1 ha h.2.2.2 e)
  · rw [upd_ne (ne_some e hD)]
    exact h.1 b o nb e
  · refine hs i x H H' Qy hi h.1 (h.2.1.same (hY _ _ _ _ hy)) hy fun y H4 s4 hs4 hR => hq y H4 (s4 _ _ nDa (hY _ _ _ _ hy _ _ e)) ⟨(h.1.trans (Sx.of (hY _ _ _ _ hy))).trans s4, hs4, by rw [List.length_append, h.2.2.1]; rfl, fun j z hj => ?_⟩
    by_cases hlt : j < acc.length
    · rw [List.getElem?_append_left hlt] at hj
      exact h.2.2.2 j z hj
    · rw [List.getElem?_append_right (by omega)] at hj
      cases hk : j - acc.length with
      | zero =>
        rw [hk] at hj
        simp only [List.getElem?_cons_zero, Option.some.injEq] at hj
        subst hj
        rw [show j = i by omega]
        exact hR
      | succ m => rw [hk] at hj; simp at hj
theorem ints_ex {R : Int → Prop} : ∀ {acc : List V}, (∀ y ∈ acc, ∃ w : Int, y = .int w ∧ R w) → ∃ ws : List Int, acc = ws.map V.int ∧ ∀ w ∈ ws, R w
  | [], _ => ⟨[], rfl, by simp⟩
  | y :: l, h => by
    obtain ⟨w, rfl, hw⟩ := h y (List.mem_cons_self ..)
    obtain ⟨ws, rfl, h2⟩ := ints_ex (acc := l) fun z hz => h z (List.mem_cons_of_mem _ hz)
    refine ⟨w :: ws, rfl, fun z hz => ?_⟩
    rcases List.mem_cons.mp hz with rfl | hz
    · exact hw
    · exact h2 z hz
theorem cut_intsF (ns : List Int) (lo hi : Option Int) : ∃ ms : List Int, cutV (ns.map V.int) lo hi = ms.map V.int ∧ ms.length ≤ ns.length := by
  unfold cutV
  rw [List.length_map, ← List.map_drop, ← List.map_take]
  exact ⟨_, rfl, by rw [List.length_take, List.length_drop]; omega⟩
def sp_law (K : PySem.W.Frag) : Sp := fun vs H Q _ => ∃ (a : Addr) (ns : List Int), vs = [.ref a] ∧ SqL K H a (ns.map V.int) ∧ ns.length ≤ 63 ∧ (∀ z ∈ ns, Builtin.Int.intBits z ≤ 1048576) ∧ ∀ H', Q (.bl true) H'
theorem ok_law (T : Tx K mg) : FnOk P w K mg base CX0 9 T.f_law T.fd_law ["_law_script"] (sp_law K) := by
  refine T.F_law.ok sc_law (fun vs H Q E h => ?_) (fun cdv A outer s H vs Q E hr h => ?_)
  · obtain ⟨a, ns, rfl, _⟩ := h; rfl
  · obtain ⟨a, ns, rfl, hS, hn, hbits, q⟩ := h
    refine ⟨_, (C8.pss_cut (ps_for PassesOwn.never rfl (pi_enH (by rfl) T.n_enumerate (pa_cons (pe_op op_catS (pe_slice sl_list (pv 0) po_none (po_some pe_int)) (pe_lst (pa_cons pe_int pa_nil))) pa_nil)) (pg_tupH (n := 2) rfl (pgs_cons (pg_name (i := 1) sc_law.nd rfl (Or.inl rfl)) (pgs_cons (pg_name (i := 2) sc_law.nd rfl (Or.inl rfl)) pgs_nil)))
        (C8.pss_cut (ps_set (i := 3) sc_law.nd rfl (Or.inr rfl) (pe_call (ok_law_source T) (hr.mono (by decide)) (by rfl) T.g_law_source T.F_law_source.kp T.b_law_source .nil pass0 (pa_cons (pv 2) pa_nil)))
        (C8.pss_cut (ps_set (i := 4) sc_law.nd rfl (Or.inl rfl) (pe_call (ok_law_rings T) (hr.mono (by decide)) (by rfl) T.g_law_rings T.F_law_rings.kp T.b_law_rings .nil pass0 (pa_cons (pv 3) (pa_cons pe_int pa_nil))))
        (C8.pss_cut (ps_setLc (i := 5) (own := [("_law_size", 7)]) (g := (gName 7)) (tt := tYes) rfl sc_law.nd rfl rfl (sw_true rfl rfl rfl (by decide +kernel)) (pi_seqH (pv 4)) (blkOk_by (own := [("_law_size", 7)]) (N := N_law) (sc := defScope d_law) (by decide +kernel)) (fun _ _ _ _ _ => (pg_name (i := 7) sc_law.nd rfl (Or.inl rfl))) (fun _ _ _ _ _ => pts_nil) (fun _ _ _ _ _ => (pe_op op_mulA (pv 7) (pe_ix ix_lH (pe_lst (pa_cons pe_int (pa_cons pe_int (pa_cons pe_int pa_nil)))) (pe_call (ok_law_draw T) (hr.mono (by decide)) (by rfl) T.g_law_draw T.F_law_draw.kp T.b_law_draw .nil pass0 (pa_cons (pv 3) (pa_cons pe_int pa_nil))) (fun _ _ => rfl)))))
        (C8.pss_cut (ps_set (i := 6) sc_law.nd rfl (Or.inl rfl) pe_int)
        (C8.pss_cut (ps_for PassesOwn.never rfl (pi_seqH (pv 5)) (pg_name (i := 7) sc_law.nd rfl (Or.inl rfl))
          (pss_one (ps_set (i := 6) sc_law.nd rfl (Or.inl rfl) (pe_op op_mulA (pv 6) (pv 7)))))
        (C8.pss_cut (ps_if (pt_not (pt_val (pe_call (ok_law_table_is_right T) (hr.mono (by decide)) (by rfl) T.g_law_table_is_right T.F_law_table_is_right.kp T.b_law_table_is_right .nil pass0 (pa_cons (pv 3) (pa_cons (pe_ifExp (pt_cmpR op_le (pv 6) pe_int (nomark _)) (pv 5) (pv 4)) pa_nil))))) (pss_one (ps_ret pe_bl)) pss_nil)
        (pss_one (ps_if (pt_not (pt_val (pe_call (ok_law_table_is_right T) (hr.mono (by decide)) (by rfl) T.g_law_table_is_right T.F_law_table_is_right.kp T.b_law_table_is_right .nil pass0 (pa_cons (pv 3) (pa_cons (pe_lst (pa_cons (pe_ifExp (pt_cmpR op_eq (pv 1) pe_int (nomark _)) (pe_ix ix_lH (pe_lst (pa_cons pe_int (pa_cons pe_int (pa_cons pe_int (pa_cons pe_int (pa_cons pe_int pa_nil)))))) (pe_call (ok_law_draw T) (hr.mono (by decide)) (by rfl) T.g_law_draw T.F_law_draw.kp T.b_law_draw .nil pass0 (pa_cons (pv 3) (pa_cons pe_int pa_nil))) (fun _ _ => rfl)) pe_int) pa_nil)) pa_nil))))) (pss_one (ps_ret pe_bl)) pss_nil)))))))))
      (pss_one (ps_ret pe_bl))), ?_⟩
    refine ⟨fun σ _ => σ.length = 8, ?_, ?_⟩
    · walk_at "rd"
      obtain ⟨ms, ei, hml⟩ := cut_intsF ns none (some 3)
      refine ⟨_, hS, fun p1 hp1 => ?_⟩
      rw [ei]
      intro p hp
      have f1 : (upd (upd H p1 (.lst (ms.map V.int))) p (.lst [V.int 0])) p = some (.lst [V.int 0]) := upd_same
      have s1 := Same.new hp1 (o := .lst (ms.map V.int))
      have s2 := Same.new hp (o := .lst [V.int 0])
      have f2 := s2 _ _ (upd_same : (upd H p1 (.lst (ms.map V.int))) p1 = some (.lst (ms.map V.int)))
      generalize upd (upd H p1 (HO.lst (ms.map V.int))) p (HO.lst [V.int 0]) = H2 at s2 f1 f2 ⊢
      refine ⟨_, .inl (.inl f2), _, .inl (.inl f1), by rw [List.length_map]; exact Nat.le_trans (by simp; omega : ms.length + [V.int 0].length ≤ 100) (by decide), fun p2 hp2 => ?_⟩
      have ec : ms.map V.int ++ [V.int 0] = (ms ++ [0]).map V.int := by rw [List.map_append]; rfl
      rw [ec]
      generalize ms ++ [0] = cs
      have f3 : (upd H2 p2 (.lst (cs.map V.int))) p2 = some (.lst (cs.map V.int)) := upd_same
      generalize upd H2 p2 (HO.lst (cs.map V.int)) = H3 at f3 ⊢
      refine ⟨true, _, f3, fun J W => ?_⟩
      refine forr W (fun i σ H' => ∃ v1 v2 v3 v4 v5 v6 v7, σ = [some (V.ref a), v1, v2, v3, v4, v5, v6, v7] ∧ H' p2 = some (.lst (cs.map V.int))) ⟨none, none, none, none, none, none, none, rfl, f3⟩ (fun _ _ _ _ h => by obtain ⟨_, _, _, _, _, _, _, _, h⟩ := h; exact h) ?_ ?_
      · rintro i x σ H4 H4' hi ⟨v1, v2, v3, v4, v5, v6, v7, rfl, h4⟩ ⟨T0, x1, rfl, hT, rfl, hx⟩
        simp only [List.getElem?_map, Option.map_eq_some_iff] at hx
        obtain ⟨n, hn, rfl⟩ := hx
        have eT := (upd_same : (upd H4 T0 (.tup [V.int (i : Nat), V.int n])) T0 = _)
        have h5 := Same.new hT (o := .tup [V.int (i : Nat), V.int n]) _ _ h4
        generalize upd H4 T0 (.tup [V.int (i : Nat), V.int n]) = H5 at eT h5 ⊢
        walk_at "rd"
        refine ⟨_, eT, rfl, _, _, rfl, _, _, rfl, rfl, ?_⟩
        clear eT W
        generalize hLL : HO.lst (cs.map V.int) = LL at *
        have hLLn : ∀ x y z : Int, True := fun _ _ _ => trivial
        refine ⟨fun σ H' => ∃ c, σ = [some (V.ref a), some (V.int (i : Nat)), some (V.int n), some (V.ref c), v4, v5, v6, v7] ∧ Src H' c ∧ c ≠ p2 ∧ H' p2 = some LL, ?_, ?_⟩
        · walk_at "rd"
          exact ⟨n, rfl, fun H6 c s6 hc hs => ⟨c, rfl, hs, (fun e => by rw [e, h5] at hc; cases hc), s6 _ _ h5⟩⟩
        rintro σ6 H6 ⟨c, rfl, hs6, hcp, h6⟩
        have hpc := fun e : p2 = c => hcp e.symm
        refine ⟨fun σ H' => ∃ (D : Addr) (ss : List Int), σ = [some (V.ref a), some (V.int (i : Nat)), some (V.int n), some (V.ref c), some (V.ref D), v5, v6, v7] ∧ Src H' c ∧ H' p2 = some LL ∧ D ≠ c ∧ H' D = some (.lst (ss.map V.int)) ∧ Sz ss ∧ prodI ss ≤ 40, ?_, ?_⟩
        · walk_at "rd"
          exact ⟨c, 40, rfl, hs6, by decide, by decide, fun H7 D ss s7 hs7 hD0 hD z hp => ⟨D, rfl, hs7, s7 _ _ hpc h6, hs6.ne hD0, ss, hD, z, hp⟩⟩
        rintro σ7 H7 ⟨D, ss, rfl, hs7, h7, hDc, hD7, z, hpr⟩
        have hsm := sz_900 z (by omega)
        refine ⟨fun σ H' => ∃ (W : Addr) (ws : List Int), σ = [some (V.ref a), some (V.int (i : Nat)), some (V.int n), some (V.ref c), some (V.ref D), some (V.ref W), v6, v7] ∧ Src H' c ∧ H' p2 = some LL ∧ H' D = some (.lst (ss.map V.int)) ∧ W ≠ c ∧ H' W = some (.lst (ws.map V.int)) ∧ Sz ws, ?_, ?_⟩
        · walk_at "rd"
          refine .inl ⟨_, hD7, fun J2 W2 => ?_⟩
          refine lcr_draw W2 (a := c) (fun _ y => ∃ w : Int, y = .int w ∧ 1 ≤ w ∧ w ≤ 3600) hs7 (by rw [List.length_map]; exact Nat.le_trans z.hi (by decide)) (fun H3 s3 => s3 _ _ hDc hD7) (fun _ _ _ _ y => YAt.same y) ?_ ?_
          · rintro j x G1 G1' Qy hj sG hsG ⟨rfl, hx⟩ hq
            simp only [List.getElem?_map, Option.map_eq_some_iff] at hx
            obtain ⟨u, hu, rfl⟩ := hx
            have hum := List.mem_of_getElem? hu
            have u1 := z.pos u hum
            have u2 := (hsm u hum).2
            walk_at "rd"
            intro p hp
            have sp := Same.new hp (o := .lst [V.int 1, V.int 2, V.int 4])
            have ep : (upd G1' p (.lst [V.int 1, V.int 2, V.int 4])) p = some (.lst [V.int 1, V.int 2, V.int 4]) := upd_same
            generalize upd G1' p (HO.lst [V.int 1, V.int 2, V.int 4]) = HA at sp ep ⊢
            have hsA := hsG.same sp
            refine ⟨c, 3, rfl, hsA, by decide, by decide, fun HB r sB hsB r0 r3 => ?_⟩
            have eB := sB _ _ (hsG.ne hp) ep
            obtain ⟨x2, hx2, hat⟩ := atI_ints (ns := [1, 2, 4]) r0 r3
            have x12 : 1 ≤ x2 ∧ x2 ≤ 4 := by
              simp only [List.mem_cons, List.not_mem_nil, or_false] at hx2
              omega
            refine ⟨r, rfl, _, eB, _, hat, x2, rfl, ?_, hq _ HB ((Sx.of sp).trans sB) hsB ⟨_, rfl, ?_, ?_⟩⟩
            · exact .inr (.inr (wide_mul (a := 12) (b := 12) (by omega) (by omega) (by decide) (by decide) (by decide)))
            · have := Int.mul_pos (show 0 < u by omega) (show 0 < x2 by omega)
              omega
            · exact Int.le_trans (Int.mul_le_mul u2 x12.2 (by omega) (by omega)) (by decide)
          · intro W3 acc G1 hW0 sG hsG hl hR hW
            obtain ⟨ws, rfl, hw⟩ := ints_ex (acc := acc) (R := fun w => 1 ≤ w ∧ w ≤ 3600) fun y hy => by obtain ⟨j, hj⟩ := List.getElem?_of_mem hy; exact hR j y hj
            rw [List.length_map] at hl
            exact ⟨W3, rfl, hsG, sG _ _ hpc h7, sG _ _ hDc hD7, hs7.ne hW0, ws, hW, by rw [hl, List.length_map]; exact z.lo, by rw [hl, List.length_map]; exact z.hi, fun w h => (hw w h).1, fun w h => by
              have := hw w h
              exact Nat.lt_of_lt_of_le (by omega : w.natAbs < 2 ^ 12) (Nat.pow_le_pow_right (by decide) (by decide))⟩
        rintro σ8 H8 ⟨Wa, ws, rfl, hs8, h8, hD8, hWc, hW8, zw⟩
        refine ⟨fun σ H' => σ = [some (V.ref a), some (V.int (i : Nat)), some (V.int n), some (V.ref c), some (V.ref D), some (V.ref Wa), some (V.int 1), v7] ∧ H' = H8, ?_, ?_⟩
        · walk_at "rd"
        rintro σ9 H9 ⟨rfl, rfl⟩
        refine ⟨fun σ H' => ∃ w7, σ = [some (V.ref a), some (V.int (i : Nat)), some (V.int n), some (V.ref c), some (V.ref D), some (V.ref Wa), some (V.int (prodI ws)), w7] ∧ H' = H9, ?_, ?_⟩
        · walk_at "rd"
          refine .inl ⟨_, hW8, fun J2 W2 => ?_⟩
          refine forr W2 (fun j σ H' => H' = H9 ∧ ∃ v, σ = [some (V.ref a), some (V.int (i : Nat)), some (V.int n), some (V.ref c), some (V.ref D), some (V.ref Wa), some (V.int (prodI (ws.take j))), v]) ⟨rfl, _, rfl⟩ (fun j σ H' _ hp => by rw [hp.1]; exact hW8) ?_ ?_
          · rintro j x σ G1 G2 hj ⟨rfl, v, rfl⟩ ⟨rfl, hx⟩
            simp only [List.getElem?_map, Option.map_eq_some_iff] at hx
            obtain ⟨u, hu, rfl⟩ := hx
            walk_at "rd"
            exact ⟨.inr (.inr (zw.mul hu)), (prodI_take hu).symm⟩
          · rintro σ G1 ⟨rfl, v, rfl⟩
            rw [List.length_map, List.take_length]
            exact ⟨⟨v, rfl⟩, rfl⟩
        rintro σ10 H10 ⟨w7, rfl, rfl⟩
        refine ⟨fun σ H' => σ = [some (V.ref a), some (V.int (i : Nat)), some (V.int n), some (V.ref c), some (V.ref D), some (V.ref Wa), some (V.int (prodI ws)), w7] ∧ Src H' c ∧ H' p2 = some LL, ?_, ?_⟩
        · walk_at "rd"
          split
          · rename_i hc200
            refine ⟨c, Wa, ws, rfl, hs8, hW8, hWc, zw, by omega, fun H11 s11 hs11 => ⟨true, rfl, ?_⟩⟩
            rw [if_neg (by decide)]
            exact ⟨hs11, s11 _ _ hpc h8⟩
          · refine ⟨c, D, ss, rfl, hs8, hD8, hDc, z, by omega, fun H11 s11 hs11 => ⟨true, rfl, ?_⟩⟩
            rw [if_neg (by decide)]
            exact ⟨hs11, s11 _ _ hpc h8⟩
        rintro σ11 H11 ⟨rfl, hs11, h11⟩
        have last : ∀ {HX : Hp} {u : Int} {p : Addr}, Src HX c → HX p2 = some LL → 1 ≤ u → u ≤ 300 → HX p = none → sp_law_table_is_right K [V.ref c, V.ref p] (upd HX p (HO.lst [V.int u])) (fun x H1 => ∃ c, x = V.bl c ∧ if c = false then Q (V.bl false) H1 else H1 p2 = some LL) E0 := fun {HX u p} hX h2 u1 u2 hp => by
          have sp := Same.new hp (o := .lst [V.int u])
          refine ⟨c, p, [u], rfl, hX.same sp, upd_same, hX.ne hp, ⟨Nat.le_refl 1, (by show 1 ≤ 4; decide), fun x hx => by rw [List.mem_singleton.mp hx]; exact u1, fun x hx => by
            rw [List.mem_singleton.mp hx]
            exact Nat.lt_of_lt_of_le (by omega : u.natAbs < 2 ^ 12) (Nat.pow_le_pow_right (by decide) (by decide))⟩, ?_, fun H12 s12 hs12 => ⟨true, rfl, ?_⟩⟩
          · show 1 * u ≤ 300
            omega
          · rw [if_neg (by decide)]
            exact s12 _ _ hpc (sp _ _ h2)
        walk_at "rd"
        split
        · intro p hp
          have sp := Same.new hp (o := .lst [V.int 256, V.int 192, V.int 64, V.int 1, V.int 300])
          have ep : (upd H11 p (.lst [V.int 256, V.int 192, V.int 64, V.int 1, V.int 300])) p = some (.lst [V.int 256, V.int 192, V.int 64, V.int 1, V.int 300]) := upd_same
          generalize upd H11 p (HO.lst [V.int 256, V.int 192, V.int 64, V.int 1, V.int 300]) = HA at sp ep ⊢
          have hsA := hs11.same sp
          refine ⟨c, 5, rfl, hsA, by decide, by decide, fun HB r sB hsB r0 r3 => ?_⟩
          have eB := sB _ _ (hs11.ne hp) ep
          obtain ⟨x2, hx2, hat⟩ := atI_ints (ns := [256, 192, 64, 1, 300]) r0 r3
          have x12 : 1 ≤ x2 ∧ x2 ≤ 300 := by
            simp only [List.mem_cons, List.not_mem_nil, or_false] at hx2
            omega
          exact ⟨r, rfl, _, eB, _, hat, fun p3 hp3 => last hsB (sB _ _ hpc (sp _ _ h11)) x12.1 x12.2 hp3⟩
        · intro p hp
          exact last hs11 h11 (by decide) (by decide) hp
      · rintro σ H4 ⟨v1, v2, v3, v4, v5, v6, v7, rfl, _⟩
        rfl
    rintro σ4 H4 _
    walk_at "rd"
    exact q _
end

theorem kit_self (K : PySem.W.Frag) (C : Addr) : PySem.W.kitOne K (.ref C) (.ref C) = some true := by
  unfold PySem.W.kitOne
  rw [if_pos]
  exact beq_self_eq_true _
theorem all_mk {P : Program} {w : World} {K : PySem.W.Frag} {h : Heap} {mg : Str → Option Value} {fa : Addr} (X : K.In h) (G : h.Ns mainGlobals mg) (hfa : mg "law" = some (.ref fa))
    {c_Table : Addr} {c_Grid : Addr} {c_Spread : Addr} {f_is_integer : Addr} {od_is_integer an_is_integer : Option Addr} {sl_is_integer : Array (Option Value)} {oc_is_integer kV_is_integer dc_is_integer pm_is_integer cd_is_integer ct_is_integer : Value} {f_is_seat : Addr} {od_is_seat an_is_seat : Option Addr} {sl_is_seat : Array (Option Value)} {oc_is_seat kV_is_seat dc_is_seat pm_is_seat cd_is_seat ct_is_seat : Value} {f_is_call : Addr} {od_is_call an_is_call : Option Addr} {sl_is_call : Array (Option Value)} {oc_is_call kV_is_call dc_is_call pm_is_call cd_is_call ct_is_call : Value} {f_require_seat : Addr} {od_require_seat an_require_seat : Option Addr} {sl_require_seat : Array (Option Value)} {oc_require_seat kV_require_seat dc_require_seat pm_require_seat cd_require_seat ct_require_seat : Value} {f_require_seats : Addr} {od_require_seats an_require_seats : Option Addr} {sl_require_seats : Array (Option Value)} {oc_require_seats kV_require_seats dc_require_seats pm_require_seats cd_require_seats ct_require_seats : Value} {f_require_targets : Addr} {od_require_targets an_require_targets : Option Addr} {sl_require_targets : Array (Option Value)} {oc_require_targets kV_require_targets dc_require_targets pm_require_targets cd_require_targets ct_require_targets : Value} {f_Table_init : Addr} {od_Table_init an_Table_init : Option Addr} {sl_Table_init : Array (Option Value)} {oc_Table_init kV_Table_init dc_Table_init pm_Table_init cd_Table_init ct_Table_init : Value} {f_Table_sizes : Addr} {od_Table_sizes an_Table_sizes : Option Addr} {sl_Table_sizes : Array (Option Value)} {oc_Table_sizes kV_Table_sizes dc_Table_sizes pm_Table_sizes cd_Table_sizes ct_Table_sizes : Value} {f_Table_count : Addr} {od_Table_count an_Table_count : Option Addr} {sl_Table_count : Array (Option Value)} {oc_Table_count kV_Table_count dc_Table_count pm_Table_count cd_Table_count ct_Table_count : Value} {f_sizes_of : Addr} {od_sizes_of an_sizes_of : Option Addr} {sl_sizes_of : Array (Option Value)} {oc_sizes_of kV_sizes_of dc_sizes_of pm_sizes_of cd_sizes_of ct_sizes_of : Value} {f_both_moves : Addr} {od_both_moves an_both_moves : Option Addr} {sl_both_moves : Array (Option Value)} {oc_both_moves kV_both_moves dc_both_moves pm_both_moves cd_both_moves ct_both_moves : Value} {f_stepped : Addr} {od_stepped an_stepped : Option Addr} {sl_stepped : Array (Option Value)} {oc_stepped kV_stepped dc_stepped pm_stepped cd_stepped ct_stepped : Value} {f_require_small : Addr} {od_require_small an_require_small : Option Addr} {sl_require_small : Array (Option Value)} {oc_require_small kV_require_small dc_require_small pm_require_small cd_require_small ct_require_small : Value} {f_all_seats : Addr} {od_all_seats an_all_seats : Option Addr} {sl_all_seats : Array (Option Value)} {oc_all_seats kV_all_seats dc_all_seats pm_all_seats cd_all_seats ct_all_seats : Value} {f_all_choices : Addr} {od_all_choices an_all_choices : Option Addr} {sl_all_choices : Array (Option Value)} {oc_all_choices kV_all_choices dc_all_choices pm_all_choices cd_all_choices ct_all_choices : Value} {f_are_sizes : Addr} {od_are_sizes an_are_sizes : Option Addr} {sl_are_sizes : Array (Option Value)} {oc_are_sizes kV_are_sizes dc_are_sizes pm_are_sizes cd_are_sizes ct_are_sizes : Value} {f_Grid_init : Addr} {od_Grid_init an_Grid_init : Option Addr} {sl_Grid_init : Array (Option Value)} {oc_Grid_init kV_Grid_init dc_Grid_init pm_Grid_init cd_Grid_init ct_Grid_init : Value} {f_Grid_index_of : Addr} {od_Grid_index_of an_Grid_index_of : Option Addr} {sl_Grid_index_of : Array (Option Value)} {oc_Grid_index_of kV_Grid_index_of dc_Grid_index_of pm_Grid_index_of cd_Grid_index_of ct_Grid_index_of : Value} {f_Grid_widened : Addr} {od_Grid_widened an_Grid_widened : Option Addr} {sl_Grid_widened : Array (Option Value)} {oc_Grid_widened kV_Grid_widened dc_Grid_widened pm_Grid_widened cd_Grid_widened ct_Grid_widened : Value} {f_Spread_init : Addr} {od_Spread_init an_Spread_init : Option Addr} {sl_Spread_init : Array (Option Value)} {oc_Spread_init kV_Spread_init dc_Spread_init pm_Spread_init cd_Spread_init ct_Spread_init : Value} {f_Spread_all_rows : Addr} {od_Spread_all_rows an_Spread_all_rows : Option Addr} {sl_Spread_all_rows : Array (Option Value)} {oc_Spread_all_rows kV_Spread_all_rows dc_Spread_all_rows pm_Spread_all_rows cd_Spread_all_rows ct_Spread_all_rows : Value} {f_Spread_number_of : Addr} {od_Spread_number_of an_Spread_number_of : Option Addr} {sl_Spread_number_of : Array (Option Value)} {oc_Spread_number_of kV_Spread_number_of dc_Spread_number_of pm_Spread_number_of cd_Spread_number_of ct_Spread_number_of : Value} {f_Spread_call_from : Addr} {od_Spread_call_from an_Spread_call_from : Option Addr} {sl_Spread_call_from : Array (Option Value)} {oc_Spread_call_from kV_Spread_call_from dc_Spread_call_from pm_Spread_call_from cd_Spread_call_from ct_Spread_call_from : Value} {f_Spread_meeting : Addr} {od_Spread_meeting an_Spread_meeting : Option Addr} {sl_Spread_meeting : Array (Option Value)} {oc_Spread_meeting kV_Spread_meeting dc_Spread_meeting pm_Spread_meeting cd_Spread_meeting ct_Spread_meeting : Value} {f_Spread_grow : Addr} {od_Spread_grow an_Spread_grow : Option Addr} {sl_Spread_grow : Array (Option Value)} {oc_Spread_grow kV_Spread_grow dc_Spread_grow pm_Spread_grow cd_Spread_grow ct_Spread_grow : Value} {f_Spread_next_row : Addr} {od_Spread_next_row an_Spread_next_row : Option Addr} {sl_Spread_next_row : Array (Option Value)} {oc_Spread_next_row kV_Spread_next_row dc_Spread_next_row pm_Spread_next_row cd_Spread_next_row ct_Spread_next_row : Value} {f_Spread_enter : Addr} {od_Spread_enter an_Spread_enter : Option Addr} {sl_Spread_enter : Array (Option Value)} {oc_Spread_enter kV_Spread_enter dc_Spread_enter pm_Spread_enter cd_Spread_enter ct_Spread_enter : Value} {f_spread_from : Addr} {od_spread_from an_spread_from : Option Addr} {sl_spread_from : Array (Option Value)} {oc_spread_from kV_spread_from dc_spread_from pm_spread_from cd_spread_from ct_spread_from : Value} {f_longer : Addr} {od_longer an_longer : Option Addr} {sl_longer : Array (Option Value)} {oc_longer kV_longer dc_longer pm_longer cd_longer ct_longer : Value} {f_min_calls : Addr} {od_min_calls an_min_calls : Option Addr} {sl_min_calls : Array (Option Value)} {oc_min_calls kV_min_calls dc_min_calls pm_min_calls cd_min_calls ct_min_calls : Value} {f_layers : Addr} {od_layers an_layers : Option Addr} {sl_layers : Array (Option Value)} {oc_layers kV_layers dc_layers pm_layers cd_layers ct_layers : Value} {f_plan_depths : Addr} {od_plan_depths an_plan_depths : Option Addr} {sl_plan_depths : Array (Option Value)} {oc_plan_depths kV_plan_depths dc_plan_depths pm_plan_depths cd_plan_depths ct_plan_depths : Value} {f_make_plan : Addr} {od_make_plan an_make_plan : Option Addr} {sl_make_plan : Array (Option Value)} {oc_make_plan kV_make_plan dc_make_plan pm_make_plan cd_make_plan ct_make_plan : Value} {f_spread_for_all : Addr} {od_spread_for_all an_spread_for_all : Option Addr} {sl_spread_for_all : Array (Option Value)} {oc_spread_for_all kV_spread_for_all dc_spread_for_all pm_spread_for_all cd_spread_for_all ct_spread_for_all : Value} {f_spread_for_seat : Addr} {od_spread_for_seat an_spread_for_seat : Option Addr} {sl_spread_for_seat : Array (Option Value)} {oc_spread_for_seat kV_spread_for_seat dc_spread_for_seat pm_spread_for_seat cd_spread_for_seat ct_spread_for_seat : Value} {f_depth_of : Addr} {od_depth_of an_depth_of : Option Addr} {sl_depth_of : Array (Option Value)} {oc_depth_of kV_depth_of dc_depth_of pm_depth_of cd_depth_of ct_depth_of : Value} {f_law_mix : Addr} {od_law_mix an_law_mix : Option Addr} {sl_law_mix : Array (Option Value)} {oc_law_mix kV_law_mix dc_law_mix pm_law_mix cd_law_mix ct_law_mix : Value} {f_law_source : Addr} {od_law_source an_law_source : Option Addr} {sl_law_source : Array (Option Value)} {oc_law_source kV_law_source dc_law_source pm_law_source cd_law_source ct_law_source : Value} {f_law_draw : Addr} {od_law_draw an_law_draw : Option Addr} {sl_law_draw : Array (Option Value)} {oc_law_draw kV_law_draw dc_law_draw pm_law_draw cd_law_draw ct_law_draw : Value} {f_law_rings : Addr} {od_law_rings an_law_rings : Option Addr} {sl_law_rings : Array (Option Value)} {oc_law_rings kV_law_rings dc_law_rings pm_law_rings cd_law_rings ct_law_rings : Value} {f_law_seats : Addr} {od_law_seats an_law_seats : Option Addr} {sl_law_seats : Array (Option Value)} {oc_law_seats kV_law_seats dc_law_seats pm_law_seats cd_law_seats ct_law_seats : Value} {f_law_order : Addr} {od_law_order an_law_order : Option Addr} {sl_law_order : Array (Option Value)} {oc_law_order kV_law_order dc_law_order pm_law_order cd_law_order ct_law_order : Value} {f_law_due : Addr} {od_law_due an_law_due : Option Addr} {sl_law_due : Array (Option Value)} {oc_law_due kV_law_due dc_law_due pm_law_due cd_law_due ct_law_due : Value} {f_law_table_is_right : Addr} {od_law_table_is_right an_law_table_is_right : Option Addr} {sl_law_table_is_right : Array (Option Value)} {oc_law_table_is_right kV_law_table_is_right dc_law_table_is_right pm_law_table_is_right cd_law_table_is_right ct_law_table_is_right : Value} {f_law : Addr} {od_law an_law : Option Addr} {sl_law : Array (Option Value)} {oc_law kV_law dc_law pm_law cd_law ct_law : Value} {v_MAX_RINGS : Value} {v_SMALL_COUNT : Value}
    (ac_Spread : PySem.W.nsIn K mainGlobals "Spread" = some (some (.ref c_Spread)))
    (ac_Grid : PySem.W.nsIn K mainGlobals "Grid" = some (some (.ref c_Grid)))
    (ac_Table : PySem.W.nsIn K mainGlobals "Table" = some (some (.ref c_Table)))
    (a_is_integer : PySem.W.nsIn K mainGlobals "is_integer" = some (some (.ref f_is_integer)))
    (l_is_integer : K.lookup f_is_integer = some ⟨oc_is_integer, od_is_integer, .func (PySem.W.fnOf "is_integer" "is_integer" (defArgs d_is_integer) (defBody d_is_integer) (defScope d_is_integer) .none kV_is_integer dc_is_integer pm_is_integer an_is_integer cd_is_integer ct_is_integer), sl_is_integer⟩)
    (x_is_integer : PySem.W.codeIn K cd_is_integer "is_integer" = true)
    (k_is_integer : PySem.W.keepIn K (.ref f_is_integer) = true)
    (a_is_seat : PySem.W.nsIn K mainGlobals "is_seat" = some (some (.ref f_is_seat)))
    (l_is_seat : K.lookup f_is_seat = some ⟨oc_is_seat, od_is_seat, .func (PySem.W.fnOf "is_seat" "is_seat" (defArgs d_is_seat) (defBody d_is_seat) (defScope d_is_seat) .none kV_is_seat dc_is_seat pm_is_seat an_is_seat cd_is_seat ct_is_seat), sl_is_seat⟩)
    (x_is_seat : PySem.W.codeIn K cd_is_seat "is_seat" = true)
    (k_is_seat : PySem.W.keepIn K (.ref f_is_seat) = true)
    (a_is_call : PySem.W.nsIn K mainGlobals "is_call" = some (some (.ref f_is_call)))
    (l_is_call : K.lookup f_is_call = some ⟨oc_is_call, od_is_call, .func (PySem.W.fnOf "is_call" "is_call" (defArgs d_is_call) (defBody d_is_call) (defScope d_is_call) .none kV_is_call dc_is_call pm_is_call an_is_call cd_is_call ct_is_call), sl_is_call⟩)
    (x_is_call : PySem.W.codeIn K cd_is_call "is_call" = true)
    (k_is_call : PySem.W.keepIn K (.ref f_is_call) = true)
    (a_require_seat : PySem.W.nsIn K mainGlobals "require_seat" = some (some (.ref f_require_seat)))
    (l_require_seat : K.lookup f_require_seat = some ⟨oc_require_seat, od_require_seat, .func (PySem.W.fnOf "require_seat" "require_seat" (defArgs d_require_seat) (defBody d_require_seat) (defScope d_require_seat) .none kV_require_seat dc_require_seat pm_require_seat an_require_seat cd_require_seat ct_require_seat), sl_require_seat⟩)
    (x_require_seat : PySem.W.codeIn K cd_require_seat "require_seat" = true)
    (k_require_seat : PySem.W.keepIn K (.ref f_require_seat) = true)
    (a_require_seats : PySem.W.nsIn K mainGlobals "require_seats" = some (some (.ref f_require_seats)))
    (l_require_seats : K.lookup f_require_seats = some ⟨oc_require_seats, od_require_seats, .func (PySem.W.fnOf "require_seats" "require_seats" (defArgs d_require_seats) (defBody d_require_seats) (defScope d_require_seats) .none kV_require_seats dc_require_seats pm_require_seats an_require_seats cd_require_seats ct_require_seats), sl_require_seats⟩)
    (x_require_seats : PySem.W.codeIn K cd_require_seats "require_seats" = true)
    (k_require_seats : PySem.W.keepIn K (.ref f_require_seats) = true)
    (a_require_targets : PySem.W.nsIn K mainGlobals "require_targets" = some (some (.ref f_require_targets)))
    (l_require_targets : K.lookup f_require_targets = some ⟨oc_require_targets, od_require_targets, .func (PySem.W.fnOf "require_targets" "require_targets" (defArgs d_require_targets) (defBody d_require_targets) (defScope d_require_targets) .none kV_require_targets dc_require_targets pm_require_targets an_require_targets cd_require_targets ct_require_targets), sl_require_targets⟩)
    (x_require_targets : PySem.W.codeIn K cd_require_targets "require_targets" = true)
    (k_require_targets : PySem.W.keepIn K (.ref f_require_targets) = true)
    (a_Table_init : PySem.W.findIn K (.ref c_Table) "__init__" = some (some (.ref f_Table_init)))
    (i_Table_init : PySem.W.isFn K (.ref f_Table_init) = true)
    (l_Table_init : K.lookup f_Table_init = some ⟨oc_Table_init, od_Table_init, .func (PySem.W.fnOf "__init__" "Table.__init__" (defArgs d_Table_init) (defBody d_Table_init) (defScope d_Table_init) .none kV_Table_init dc_Table_init pm_Table_init an_Table_init cd_Table_init ct_Table_init), sl_Table_init⟩)
    (x_Table_init : PySem.W.codeIn K cd_Table_init "Table.__init__" = true)
    (k_Table_init : PySem.W.keepIn K (.ref f_Table_init) = true)
    (a_Table_sizes : PySem.W.findIn K (.ref c_Table) "sizes" = some (some (.ref f_Table_sizes)))
    (i_Table_sizes : PySem.W.isFn K (.ref f_Table_sizes) = true)
    (l_Table_sizes : K.lookup f_Table_sizes = some ⟨oc_Table_sizes, od_Table_sizes, .func (PySem.W.fnOf "sizes" "Table.sizes" (defArgs d_Table_sizes) (defBody d_Table_sizes) (defScope d_Table_sizes) .none kV_Table_sizes dc_Table_sizes pm_Table_sizes an_Table_sizes cd_Table_sizes ct_Table_sizes), sl_Table_sizes⟩)
    (x_Table_sizes : PySem.W.codeIn K cd_Table_sizes "Table.sizes" = true)
    (k_Table_sizes : PySem.W.keepIn K (.ref f_Table_sizes) = true)
    (a_Table_count : PySem.W.findIn K (.ref c_Table) "count" = some (some (.ref f_Table_count)))
    (i_Table_count : PySem.W.isFn K (.ref f_Table_count) = true)
    (l_Table_count : K.lookup f_Table_count = some ⟨oc_Table_count, od_Table_count, .func (PySem.W.fnOf "count" "Table.count" (defArgs d_Table_count) (defBody d_Table_count) (defScope d_Table_count) .none kV_Table_count dc_Table_count pm_Table_count an_Table_count cd_Table_count ct_Table_count), sl_Table_count⟩)
    (x_Table_count : PySem.W.codeIn K cd_Table_count "Table.count" = true)
    (k_Table_count : PySem.W.keepIn K (.ref f_Table_count) = true)
    (a_sizes_of : PySem.W.nsIn K mainGlobals "sizes_of" = some (some (.ref f_sizes_of)))
    (l_sizes_of : K.lookup f_sizes_of = some ⟨oc_sizes_of, od_sizes_of, .func (PySem.W.fnOf "sizes_of" "sizes_of" (defArgs d_sizes_of) (defBody d_sizes_of) (defScope d_sizes_of) .none kV_sizes_of dc_sizes_of pm_sizes_of an_sizes_of cd_sizes_of ct_sizes_of), sl_sizes_of⟩)
    (x_sizes_of : PySem.W.codeIn K cd_sizes_of "sizes_of" = true)
    (k_sizes_of : PySem.W.keepIn K (.ref f_sizes_of) = true)
    (a_both_moves : PySem.W.nsIn K mainGlobals "both_moves" = some (some (.ref f_both_moves)))
    (l_both_moves : K.lookup f_both_moves = some ⟨oc_both_moves, od_both_moves, .func (PySem.W.fnOf "both_moves" "both_moves" (defArgs d_both_moves) (defBody d_both_moves) (defScope d_both_moves) .none kV_both_moves dc_both_moves pm_both_moves an_both_moves cd_both_moves ct_both_moves), sl_both_moves⟩)
    (x_both_moves : PySem.W.codeIn K cd_both_moves "both_moves" = true)
    (k_both_moves : PySem.W.keepIn K (.ref f_both_moves) = true)
    (a_stepped : PySem.W.nsIn K mainGlobals "stepped" = some (some (.ref f_stepped)))
    (l_stepped : K.lookup f_stepped = some ⟨oc_stepped, od_stepped, .func (PySem.W.fnOf "stepped" "stepped" (defArgs d_stepped) (defBody d_stepped) (defScope d_stepped) .none kV_stepped dc_stepped pm_stepped an_stepped cd_stepped ct_stepped), sl_stepped⟩)
    (x_stepped : PySem.W.codeIn K cd_stepped "stepped" = true)
    (k_stepped : PySem.W.keepIn K (.ref f_stepped) = true)
    (a_require_small : PySem.W.nsIn K mainGlobals "require_small" = some (some (.ref f_require_small)))
    (l_require_small : K.lookup f_require_small = some ⟨oc_require_small, od_require_small, .func (PySem.W.fnOf "require_small" "require_small" (defArgs d_require_small) (defBody d_require_small) (defScope d_require_small) .none kV_require_small dc_require_small pm_require_small an_require_small cd_require_small ct_require_small), sl_require_small⟩)
    (x_require_small : PySem.W.codeIn K cd_require_small "require_small" = true)
    (k_require_small : PySem.W.keepIn K (.ref f_require_small) = true)
    (a_all_seats : PySem.W.nsIn K mainGlobals "all_seats" = some (some (.ref f_all_seats)))
    (l_all_seats : K.lookup f_all_seats = some ⟨oc_all_seats, od_all_seats, .func (PySem.W.fnOf "all_seats" "all_seats" (defArgs d_all_seats) (defBody d_all_seats) (defScope d_all_seats) .none kV_all_seats dc_all_seats pm_all_seats an_all_seats cd_all_seats ct_all_seats), sl_all_seats⟩)
    (x_all_seats : PySem.W.codeIn K cd_all_seats "all_seats" = true)
    (k_all_seats : PySem.W.keepIn K (.ref f_all_seats) = true)
    (a_all_choices : PySem.W.nsIn K mainGlobals "all_choices" = some (some (.ref f_all_choices)))
    (l_all_choices : K.lookup f_all_choices = some ⟨oc_all_choices, od_all_choices, .func (PySem.W.fnOf "all_choices" "all_choices" (defArgs d_all_choices) (defBody d_all_choices) (defScope d_all_choices) .none kV_all_choices dc_all_choices pm_all_choices an_all_choices cd_all_choices ct_all_choices), sl_all_choices⟩)
    (x_all_choices : PySem.W.codeIn K cd_all_choices "all_choices" = true)
    (k_all_choices : PySem.W.keepIn K (.ref f_all_choices) = true)
    (a_are_sizes : PySem.W.nsIn K mainGlobals "_are_sizes" = some (some (.ref f_are_sizes)))
    (l_are_sizes : K.lookup f_are_sizes = some ⟨oc_are_sizes, od_are_sizes, .func (PySem.W.fnOf "_are_sizes" "_are_sizes" (defArgs d_are_sizes) (defBody d_are_sizes) (defScope d_are_sizes) .none kV_are_sizes dc_are_sizes pm_are_sizes an_are_sizes cd_are_sizes ct_are_sizes), sl_are_sizes⟩)
    (x_are_sizes : PySem.W.codeIn K cd_are_sizes "_are_sizes" = true)
    (k_are_sizes : PySem.W.keepIn K (.ref f_are_sizes) = true)
    (a_Grid_init : PySem.W.findIn K (.ref c_Grid) "__init__" = some (some (.ref f_Grid_init)))
    (i_Grid_init : PySem.W.isFn K (.ref f_Grid_init) = true)
    (l_Grid_init : K.lookup f_Grid_init = some ⟨oc_Grid_init, od_Grid_init, .func (PySem.W.fnOf "__init__" "Grid.__init__" (defArgs d_Grid_init) (defBody d_Grid_init) (defScope d_Grid_init) .none kV_Grid_init dc_Grid_init pm_Grid_init an_Grid_init cd_Grid_init ct_Grid_init), sl_Grid_init⟩)
    (x_Grid_init : PySem.W.codeIn K cd_Grid_init "Grid.__init__" = true)
    (k_Grid_init : PySem.W.keepIn K (.ref f_Grid_init) = true)
    (a_Grid_index_of : PySem.W.findIn K (.ref c_Grid) "index_of" = some (some (.ref f_Grid_index_of)))
    (i_Grid_index_of : PySem.W.isFn K (.ref f_Grid_index_of) = true)
    (l_Grid_index_of : K.lookup f_Grid_index_of = some ⟨oc_Grid_index_of, od_Grid_index_of, .func (PySem.W.fnOf "index_of" "Grid.index_of" (defArgs d_Grid_index_of) (defBody d_Grid_index_of) (defScope d_Grid_index_of) .none kV_Grid_index_of dc_Grid_index_of pm_Grid_index_of an_Grid_index_of cd_Grid_index_of ct_Grid_index_of), sl_Grid_index_of⟩)
    (x_Grid_index_of : PySem.W.codeIn K cd_Grid_index_of "Grid.index_of" = true)
    (k_Grid_index_of : PySem.W.keepIn K (.ref f_Grid_index_of) = true)
    (a_Grid_widened : PySem.W.findIn K (.ref c_Grid) "widened" = some (some (.ref f_Grid_widened)))
    (i_Grid_widened : PySem.W.isFn K (.ref f_Grid_widened) = true)
    (l_Grid_widened : K.lookup f_Grid_widened = some ⟨oc_Grid_widened, od_Grid_widened, .func (PySem.W.fnOf "widened" "Grid.widened" (defArgs d_Grid_widened) (defBody d_Grid_widened) (defScope d_Grid_widened) .none kV_Grid_widened dc_Grid_widened pm_Grid_widened an_Grid_widened cd_Grid_widened ct_Grid_widened), sl_Grid_widened⟩)
    (x_Grid_widened : PySem.W.codeIn K cd_Grid_widened "Grid.widened" = true)
    (k_Grid_widened : PySem.W.keepIn K (.ref f_Grid_widened) = true)
    (a_Spread_init : PySem.W.findIn K (.ref c_Spread) "__init__" = some (some (.ref f_Spread_init)))
    (i_Spread_init : PySem.W.isFn K (.ref f_Spread_init) = true)
    (l_Spread_init : K.lookup f_Spread_init = some ⟨oc_Spread_init, od_Spread_init, .func (PySem.W.fnOf "__init__" "Spread.__init__" (defArgs d_Spread_init) (defBody d_Spread_init) (defScope d_Spread_init) .none kV_Spread_init dc_Spread_init pm_Spread_init an_Spread_init cd_Spread_init ct_Spread_init), sl_Spread_init⟩)
    (x_Spread_init : PySem.W.codeIn K cd_Spread_init "Spread.__init__" = true)
    (k_Spread_init : PySem.W.keepIn K (.ref f_Spread_init) = true)
    (a_Spread_all_rows : PySem.W.findIn K (.ref c_Spread) "all_rows" = some (some (.ref f_Spread_all_rows)))
    (i_Spread_all_rows : PySem.W.isFn K (.ref f_Spread_all_rows) = true)
    (l_Spread_all_rows : K.lookup f_Spread_all_rows = some ⟨oc_Spread_all_rows, od_Spread_all_rows, .func (PySem.W.fnOf "all_rows" "Spread.all_rows" (defArgs d_Spread_all_rows) (defBody d_Spread_all_rows) (defScope d_Spread_all_rows) .none kV_Spread_all_rows dc_Spread_all_rows pm_Spread_all_rows an_Spread_all_rows cd_Spread_all_rows ct_Spread_all_rows), sl_Spread_all_rows⟩)
    (x_Spread_all_rows : PySem.W.codeIn K cd_Spread_all_rows "Spread.all_rows" = true)
    (k_Spread_all_rows : PySem.W.keepIn K (.ref f_Spread_all_rows) = true)
    (a_Spread_number_of : PySem.W.findIn K (.ref c_Spread) "number_of" = some (some (.ref f_Spread_number_of)))
    (i_Spread_number_of : PySem.W.isFn K (.ref f_Spread_number_of) = true)
    (l_Spread_number_of : K.lookup f_Spread_number_of = some ⟨oc_Spread_number_of, od_Spread_number_of, .func (PySem.W.fnOf "number_of" "Spread.number_of" (defArgs d_Spread_number_of) (defBody d_Spread_number_of) (defScope d_Spread_number_of) .none kV_Spread_number_of dc_Spread_number_of pm_Spread_number_of an_Spread_number_of cd_Spread_number_of ct_Spread_number_of), sl_Spread_number_of⟩)
    (x_Spread_number_of : PySem.W.codeIn K cd_Spread_number_of "Spread.number_of" = true)
    (k_Spread_number_of : PySem.W.keepIn K (.ref f_Spread_number_of) = true)
    (a_Spread_call_from : PySem.W.findIn K (.ref c_Spread) "call_from" = some (some (.ref f_Spread_call_from)))
    (i_Spread_call_from : PySem.W.isFn K (.ref f_Spread_call_from) = true)
    (l_Spread_call_from : K.lookup f_Spread_call_from = some ⟨oc_Spread_call_from, od_Spread_call_from, .func (PySem.W.fnOf "call_from" "Spread.call_from" (defArgs d_Spread_call_from) (defBody d_Spread_call_from) (defScope d_Spread_call_from) .none kV_Spread_call_from dc_Spread_call_from pm_Spread_call_from an_Spread_call_from cd_Spread_call_from ct_Spread_call_from), sl_Spread_call_from⟩)
    (x_Spread_call_from : PySem.W.codeIn K cd_Spread_call_from "Spread.call_from" = true)
    (k_Spread_call_from : PySem.W.keepIn K (.ref f_Spread_call_from) = true)
    (a_Spread_meeting : PySem.W.findIn K (.ref c_Spread) "_meeting" = some (some (.ref f_Spread_meeting)))
    (i_Spread_meeting : PySem.W.isFn K (.ref f_Spread_meeting) = true)
    (l_Spread_meeting : K.lookup f_Spread_meeting = some ⟨oc_Spread_meeting, od_Spread_meeting, .func (PySem.W.fnOf "_meeting" "Spread._meeting" (defArgs d_Spread_meeting) (defBody d_Spread_meeting) (defScope d_Spread_meeting) .none kV_Spread_meeting dc_Spread_meeting pm_Spread_meeting an_Spread_meeting cd_Spread_meeting ct_Spread_meeting), sl_Spread_meeting⟩)
    (x_Spread_meeting : PySem.W.codeIn K cd_Spread_meeting "Spread._meeting" = true)
    (k_Spread_meeting : PySem.W.keepIn K (.ref f_Spread_meeting) = true)
    (a_Spread_grow : PySem.W.findIn K (.ref c_Spread) "_grow" = some (some (.ref f_Spread_grow)))
    (i_Spread_grow : PySem.W.isFn K (.ref f_Spread_grow) = true)
    (l_Spread_grow : K.lookup f_Spread_grow = some ⟨oc_Spread_grow, od_Spread_grow, .func (PySem.W.fnOf "_grow" "Spread._grow" (defArgs d_Spread_grow) (defBody d_Spread_grow) (defScope d_Spread_grow) .none kV_Spread_grow dc_Spread_grow pm_Spread_grow an_Spread_grow cd_Spread_grow ct_Spread_grow), sl_Spread_grow⟩)
    (x_Spread_grow : PySem.W.codeIn K cd_Spread_grow "Spread._grow" = true)
    (k_Spread_grow : PySem.W.keepIn K (.ref f_Spread_grow) = true)
    (a_Spread_next_row : PySem.W.findIn K (.ref c_Spread) "_next_row" = some (some (.ref f_Spread_next_row)))
    (i_Spread_next_row : PySem.W.isFn K (.ref f_Spread_next_row) = true)
    (l_Spread_next_row : K.lookup f_Spread_next_row = some ⟨oc_Spread_next_row, od_Spread_next_row, .func (PySem.W.fnOf "_next_row" "Spread._next_row" (defArgs d_Spread_next_row) (defBody d_Spread_next_row) (defScope d_Spread_next_row) .none kV_Spread_next_row dc_Spread_next_row pm_Spread_next_row an_Spread_next_row cd_Spread_next_row ct_Spread_next_row), sl_Spread_next_row⟩)
    (x_Spread_next_row : PySem.W.codeIn K cd_Spread_next_row "Spread._next_row" = true)
    (k_Spread_next_row : PySem.W.keepIn K (.ref f_Spread_next_row) = true)
    (a_Spread_enter : PySem.W.findIn K (.ref c_Spread) "_enter" = some (some (.ref f_Spread_enter)))
    (i_Spread_enter : PySem.W.isFn K (.ref f_Spread_enter) = true)
    (l_Spread_enter : K.lookup f_Spread_enter = some ⟨oc_Spread_enter, od_Spread_enter, .func (PySem.W.fnOf "_enter" "Spread._enter" (defArgs d_Spread_enter) (defBody d_Spread_enter) (defScope d_Spread_enter) .none kV_Spread_enter dc_Spread_enter pm_Spread_enter an_Spread_enter cd_Spread_enter ct_Spread_enter), sl_Spread_enter⟩)
    (x_Spread_enter : PySem.W.codeIn K cd_Spread_enter "Spread._enter" = true)
    (k_Spread_enter : PySem.W.keepIn K (.ref f_Spread_enter) = true)
    (a_spread_from : PySem.W.nsIn K mainGlobals "spread_from" = some (some (.ref f_spread_from)))
    (l_spread_from : K.lookup f_spread_from = some ⟨oc_spread_from, od_spread_from, .func (PySem.W.fnOf "spread_from" "spread_from" (defArgs d_spread_from) (defBody d_spread_from) (defScope d_spread_from) .none kV_spread_from dc_spread_from pm_spread_from an_spread_from cd_spread_from ct_spread_from), sl_spread_from⟩)
    (x_spread_from : PySem.W.codeIn K cd_spread_from "spread_from" = true)
    (k_spread_from : PySem.W.keepIn K (.ref f_spread_from) = true)
    (a_longer : PySem.W.nsIn K mainGlobals "_longer" = some (some (.ref f_longer)))
    (l_longer : K.lookup f_longer = some ⟨oc_longer, od_longer, .func (PySem.W.fnOf "_longer" "_longer" (defArgs d_longer) (defBody d_longer) (defScope d_longer) .none kV_longer dc_longer pm_longer an_longer cd_longer ct_longer), sl_longer⟩)
    (x_longer : PySem.W.codeIn K cd_longer "_longer" = true)
    (k_longer : PySem.W.keepIn K (.ref f_longer) = true)
    (a_min_calls : PySem.W.nsIn K mainGlobals "min_calls" = some (some (.ref f_min_calls)))
    (l_min_calls : K.lookup f_min_calls = some ⟨oc_min_calls, od_min_calls, .func (PySem.W.fnOf "min_calls" "min_calls" (defArgs d_min_calls) (defBody d_min_calls) (defScope d_min_calls) .none kV_min_calls dc_min_calls pm_min_calls an_min_calls cd_min_calls ct_min_calls), sl_min_calls⟩)
    (x_min_calls : PySem.W.codeIn K cd_min_calls "min_calls" = true)
    (k_min_calls : PySem.W.keepIn K (.ref f_min_calls) = true)
    (a_layers : PySem.W.nsIn K mainGlobals "layers" = some (some (.ref f_layers)))
    (l_layers : K.lookup f_layers = some ⟨oc_layers, od_layers, .func (PySem.W.fnOf "layers" "layers" (defArgs d_layers) (defBody d_layers) (defScope d_layers) .none kV_layers dc_layers pm_layers an_layers cd_layers ct_layers), sl_layers⟩)
    (x_layers : PySem.W.codeIn K cd_layers "layers" = true)
    (k_layers : PySem.W.keepIn K (.ref f_layers) = true)
    (a_plan_depths : PySem.W.nsIn K mainGlobals "plan_depths" = some (some (.ref f_plan_depths)))
    (l_plan_depths : K.lookup f_plan_depths = some ⟨oc_plan_depths, od_plan_depths, .func (PySem.W.fnOf "plan_depths" "plan_depths" (defArgs d_plan_depths) (defBody d_plan_depths) (defScope d_plan_depths) .none kV_plan_depths dc_plan_depths pm_plan_depths an_plan_depths cd_plan_depths ct_plan_depths), sl_plan_depths⟩)
    (x_plan_depths : PySem.W.codeIn K cd_plan_depths "plan_depths" = true)
    (k_plan_depths : PySem.W.keepIn K (.ref f_plan_depths) = true)
    (a_make_plan : PySem.W.nsIn K mainGlobals "make_plan" = some (some (.ref f_make_plan)))
    (l_make_plan : K.lookup f_make_plan = some ⟨oc_make_plan, od_make_plan, .func (PySem.W.fnOf "make_plan" "make_plan" (defArgs d_make_plan) (defBody d_make_plan) (defScope d_make_plan) .none kV_make_plan dc_make_plan pm_make_plan an_make_plan cd_make_plan ct_make_plan), sl_make_plan⟩)
    (x_make_plan : PySem.W.codeIn K cd_make_plan "make_plan" = true)
    (k_make_plan : PySem.W.keepIn K (.ref f_make_plan) = true)
    (a_spread_for_all : PySem.W.nsIn K mainGlobals "_spread_for_all" = some (some (.ref f_spread_for_all)))
    (l_spread_for_all : K.lookup f_spread_for_all = some ⟨oc_spread_for_all, od_spread_for_all, .func (PySem.W.fnOf "_spread_for_all" "_spread_for_all" (defArgs d_spread_for_all) (defBody d_spread_for_all) (defScope d_spread_for_all) .none kV_spread_for_all dc_spread_for_all pm_spread_for_all an_spread_for_all cd_spread_for_all ct_spread_for_all), sl_spread_for_all⟩)
    (x_spread_for_all : PySem.W.codeIn K cd_spread_for_all "_spread_for_all" = true)
    (k_spread_for_all : PySem.W.keepIn K (.ref f_spread_for_all) = true)
    (a_spread_for_seat : PySem.W.nsIn K mainGlobals "_spread_for_seat" = some (some (.ref f_spread_for_seat)))
    (l_spread_for_seat : K.lookup f_spread_for_seat = some ⟨oc_spread_for_seat, od_spread_for_seat, .func (PySem.W.fnOf "_spread_for_seat" "_spread_for_seat" (defArgs d_spread_for_seat) (defBody d_spread_for_seat) (defScope d_spread_for_seat) .none kV_spread_for_seat dc_spread_for_seat pm_spread_for_seat an_spread_for_seat cd_spread_for_seat ct_spread_for_seat), sl_spread_for_seat⟩)
    (x_spread_for_seat : PySem.W.codeIn K cd_spread_for_seat "_spread_for_seat" = true)
    (k_spread_for_seat : PySem.W.keepIn K (.ref f_spread_for_seat) = true)
    (a_depth_of : PySem.W.nsIn K mainGlobals "_depth_of" = some (some (.ref f_depth_of)))
    (l_depth_of : K.lookup f_depth_of = some ⟨oc_depth_of, od_depth_of, .func (PySem.W.fnOf "_depth_of" "_depth_of" (defArgs d_depth_of) (defBody d_depth_of) (defScope d_depth_of) .none kV_depth_of dc_depth_of pm_depth_of an_depth_of cd_depth_of ct_depth_of), sl_depth_of⟩)
    (x_depth_of : PySem.W.codeIn K cd_depth_of "_depth_of" = true)
    (k_depth_of : PySem.W.keepIn K (.ref f_depth_of) = true)
    (a_law_mix : PySem.W.nsIn K mainGlobals "_law_mix" = some (some (.ref f_law_mix)))
    (l_law_mix : K.lookup f_law_mix = some ⟨oc_law_mix, od_law_mix, .func (PySem.W.fnOf "_law_mix" "_law_mix" (defArgs d_law_mix) (defBody d_law_mix) (defScope d_law_mix) .none kV_law_mix dc_law_mix pm_law_mix an_law_mix cd_law_mix ct_law_mix), sl_law_mix⟩)
    (x_law_mix : PySem.W.codeIn K cd_law_mix "_law_mix" = true)
    (k_law_mix : PySem.W.keepIn K (.ref f_law_mix) = true)
    (a_law_source : PySem.W.nsIn K mainGlobals "_law_source" = some (some (.ref f_law_source)))
    (l_law_source : K.lookup f_law_source = some ⟨oc_law_source, od_law_source, .func (PySem.W.fnOf "_law_source" "_law_source" (defArgs d_law_source) (defBody d_law_source) (defScope d_law_source) .none kV_law_source dc_law_source pm_law_source an_law_source cd_law_source ct_law_source), sl_law_source⟩)
    (x_law_source : PySem.W.codeIn K cd_law_source "_law_source" = true)
    (k_law_source : PySem.W.keepIn K (.ref f_law_source) = true)
    (a_law_draw : PySem.W.nsIn K mainGlobals "_law_draw" = some (some (.ref f_law_draw)))
    (l_law_draw : K.lookup f_law_draw = some ⟨oc_law_draw, od_law_draw, .func (PySem.W.fnOf "_law_draw" "_law_draw" (defArgs d_law_draw) (defBody d_law_draw) (defScope d_law_draw) .none kV_law_draw dc_law_draw pm_law_draw an_law_draw cd_law_draw ct_law_draw), sl_law_draw⟩)
    (x_law_draw : PySem.W.codeIn K cd_law_draw "_law_draw" = true)
    (k_law_draw : PySem.W.keepIn K (.ref f_law_draw) = true)
    (a_law_rings : PySem.W.nsIn K mainGlobals "_law_rings" = some (some (.ref f_law_rings)))
    (l_law_rings : K.lookup f_law_rings = some ⟨oc_law_rings, od_law_rings, .func (PySem.W.fnOf "_law_rings" "_law_rings" (defArgs d_law_rings) (defBody d_law_rings) (defScope d_law_rings) .none kV_law_rings dc_law_rings pm_law_rings an_law_rings cd_law_rings ct_law_rings), sl_law_rings⟩)
    (x_law_rings : PySem.W.codeIn K cd_law_rings "_law_rings" = true)
    (k_law_rings : PySem.W.keepIn K (.ref f_law_rings) = true)
    (a_law_seats : PySem.W.nsIn K mainGlobals "_law_seats" = some (some (.ref f_law_seats)))
    (l_law_seats : K.lookup f_law_seats = some ⟨oc_law_seats, od_law_seats, .func (PySem.W.fnOf "_law_seats" "_law_seats" (defArgs d_law_seats) (defBody d_law_seats) (defScope d_law_seats) .none kV_law_seats dc_law_seats pm_law_seats an_law_seats cd_law_seats ct_law_seats), sl_law_seats⟩)
    (x_law_seats : PySem.W.codeIn K cd_law_seats "_law_seats" = true)
    (k_law_seats : PySem.W.keepIn K (.ref f_law_seats) = true)
    (a_law_order : PySem.W.nsIn K mainGlobals "_law_order" = some (some (.ref f_law_order)))
    (l_law_order : K.lookup f_law_order = some ⟨oc_law_order, od_law_order, .func (PySem.W.fnOf "_law_order" "_law_order" (defArgs d_law_order) (defBody d_law_order) (defScope d_law_order) .none kV_law_order dc_law_order pm_law_order an_law_order cd_law_order ct_law_order), sl_law_order⟩)
    (x_law_order : PySem.W.codeIn K cd_law_order "_law_order" = true)
    (k_law_order : PySem.W.keepIn K (.ref f_law_order) = true)
    (a_law_due : PySem.W.nsIn K mainGlobals "_law_due" = some (some (.ref f_law_due)))
    (l_law_due : K.lookup f_law_due = some ⟨oc_law_due, od_law_due, .func (PySem.W.fnOf "_law_due" "_law_due" (defArgs d_law_due) (defBody d_law_due) (defScope d_law_due) .none kV_law_due dc_law_due pm_law_due an_law_due cd_law_due ct_law_due), sl_law_due⟩)
    (x_law_due : PySem.W.codeIn K cd_law_due "_law_due" = true)
    (k_law_due : PySem.W.keepIn K (.ref f_law_due) = true)
    (a_law_table_is_right : PySem.W.nsIn K mainGlobals "_law_table_is_right" = some (some (.ref f_law_table_is_right)))
    (l_law_table_is_right : K.lookup f_law_table_is_right = some ⟨oc_law_table_is_right, od_law_table_is_right, .func (PySem.W.fnOf "_law_table_is_right" "_law_table_is_right" (defArgs d_law_table_is_right) (defBody d_law_table_is_right) (defScope d_law_table_is_right) .none kV_law_table_is_right dc_law_table_is_right pm_law_table_is_right an_law_table_is_right cd_law_table_is_right ct_law_table_is_right), sl_law_table_is_right⟩)
    (x_law_table_is_right : PySem.W.codeIn K cd_law_table_is_right "_law_table_is_right" = true)
    (k_law_table_is_right : PySem.W.keepIn K (.ref f_law_table_is_right) = true)
    (a_law : PySem.W.nsIn K mainGlobals "law" = some (some (.ref f_law)))
    (l_law : K.lookup f_law = some ⟨oc_law, od_law, .func (PySem.W.fnOf "law" "law" (defArgs d_law) (defBody d_law) (defScope d_law) .none kV_law dc_law pm_law an_law cd_law ct_law), sl_law⟩)
    (x_law : PySem.W.codeIn K cd_law "law" = true)
    (k_law : PySem.W.keepIn K (.ref f_law) = true)
    (pg_Table : PySem.W.plainGet K c_Table Str.empty = true)
    (hd_Table : PySem.W.hasDictIn K c_Table = true)
    (po_Table : PySem.W.plainOver K c_Table = true)
    (sa_Table : PySem.W.findIn K (.ref c_Table) "__setattr__" = some (some (.builtin "object.__setattr__")))
    (mk_Table : PySem.W.makesIn K c_Table = true)
    (kc_Table : PySem.W.keepIn K (.ref c_Table) = true)
    (no_Table_sizes : PySem.W.findIn K (.ref c_Table) "_sizes" = some none)
    (ih_Table : PySem.W.findIn K (.ref c_Table) "__class__" = some (some (.builtin "object.__class__")))
    (in_Table : PySem.W.specialIn K (.builtin "object.__class__") "__get__" = some (some (.builtin "getset_descriptor.__get__")))
    (it_Table : PySem.W.takesIn K (.builtin "object.__class__") = some true)
    (im_Table : PySem.W.mroIn K c_Table (.type "object") = some true)
    (pg_Grid : PySem.W.plainGet K c_Grid Str.empty = true)
    (hd_Grid : PySem.W.hasDictIn K c_Grid = true)
    (po_Grid : PySem.W.plainOver K c_Grid = true)
    (sa_Grid : PySem.W.findIn K (.ref c_Grid) "__setattr__" = some (some (.builtin "object.__setattr__")))
    (mk_Grid : PySem.W.makesIn K c_Grid = true)
    (kc_Grid : PySem.W.keepIn K (.ref c_Grid) = true)
    (no_Grid_rings : PySem.W.findIn K (.ref c_Grid) "rings" = some none)
    (no_Grid_codes : PySem.W.findIn K (.ref c_Grid) "codes" = some none)
    (no_Grid_doubles : PySem.W.findIn K (.ref c_Grid) "doubles" = some none)
    (no_Grid_mirrors : PySem.W.findIn K (.ref c_Grid) "mirrors" = some none)
    (no_Grid_first_bit : PySem.W.findIn K (.ref c_Grid) "first_bit" = some none)
    (no_Grid_spots : PySem.W.findIn K (.ref c_Grid) "spots" = some none)
    (pg_Spread : PySem.W.plainGet K c_Spread Str.empty = true)
    (hd_Spread : PySem.W.hasDictIn K c_Spread = true)
    (po_Spread : PySem.W.plainOver K c_Spread = true)
    (sa_Spread : PySem.W.findIn K (.ref c_Spread) "__setattr__" = some (some (.builtin "object.__setattr__")))
    (mk_Spread : PySem.W.makesIn K c_Spread = true)
    (kc_Spread : PySem.W.keepIn K (.ref c_Spread) = true)
    (no_Spread_grid : PySem.W.findIn K (.ref c_Spread) "_grid" = some none)
    (no_Spread_numbers : PySem.W.findIn K (.ref c_Spread) "_numbers" = some none)
    (no_Spread_waiting : PySem.W.findIn K (.ref c_Spread) "_waiting" = some none)
    (no_Spread_rows : PySem.W.findIn K (.ref c_Spread) "_rows" = some none)
    (no_Spread_sets : PySem.W.findIn K (.ref c_Spread) "_sets" = some none)
    (no_Spread_known : PySem.W.findIn K (.ref c_Spread) "_known" = some none)
    (no_Spread_mirrored : PySem.W.findIn K (.ref c_Spread) "_mirrored" = some none)
    (no_Spread_sums : PySem.W.findIn K (.ref c_Spread) "_sums" = some none)
    (y_MAX_RINGS : PySem.W.nsIn K mainGlobals "MAX_RINGS" = some (some v_MAX_RINGS))
    (r_MAX_RINGS : RelV (.int 4) v_MAX_RINGS)
    (y_SMALL_COUNT : PySem.W.nsIn K mainGlobals "SMALL_COUNT" = some (some v_SMALL_COUNT))
    (r_SMALL_COUNT : RelV (.int 300) v_SMALL_COUNT)
    (z_abs : PySem.W.nsIn K mainGlobals "abs" = some none)
    (z_all : PySem.W.nsIn K mainGlobals "all" = some none)
    (z_bool : PySem.W.nsIn K mainGlobals "bool" = some none)
    (z_dict : PySem.W.nsIn K mainGlobals "dict" = some none)
    (z_enumerate : PySem.W.nsIn K mainGlobals "enumerate" = some none)
    (z_int : PySem.W.nsIn K mainGlobals "int" = some none)
    (z_isinstance : PySem.W.nsIn K mainGlobals "isinstance" = some none)
    (z_len : PySem.W.nsIn K mainGlobals "len" = some none)
    (z_list : PySem.W.nsIn K mainGlobals "list" = some none)
    (z_max : PySem.W.nsIn K mainGlobals "max" = some none)
    (z_range : PySem.W.nsIn K mainGlobals "range" = some none)
    (z_set : PySem.W.nsIn K mainGlobals "set" = some none)
    (z_sorted : PySem.W.nsIn K mainGlobals "sorted" = some none)
    (z_tuple : PySem.W.nsIn K mainGlobals "tuple" = some none)
    (z_zip : PySem.W.nsIn K mainGlobals "zip" = some none)
    (ho_CX0 : Unit := ()) : ∃ fd : FuncData, (∀ (s : Shared) (v : Value), BindsTo s fd ⟨[v], []⟩ [("_law_script", v)]) ∧ ∀ base : Heap, K.In base → base.Ns mainGlobals mg → FnOk P w K mg base CX0 9 fa fd ["_law_script"] (sp_law K) := by
  have e := hfa.symm.trans (PySem.W.mg_of X G a_law)
  cases e
  have F_is_integer := fun_mk (st := d_is_integer) l_is_integer x_is_integer k_is_integer
  have b_is_integer := F_is_integer.binds (ps := ["number"]) fun _ _ _ _ _ _ us hl => match us, hl with | [_], _ => rfl
  have F_is_seat := fun_mk (st := d_is_seat) l_is_seat x_is_seat k_is_seat
  have b_is_seat := F_is_seat.binds (ps := ["sizes", "seat"]) fun _ _ _ _ _ _ us hl => match us, hl with | [_, _], _ => rfl
  have F_is_call := fun_mk (st := d_is_call) l_is_call x_is_call k_is_call
  have b_is_call := F_is_call.binds (ps := ["sizes", "call"]) fun _ _ _ _ _ _ us hl => match us, hl with | [_, _], _ => rfl
  have F_require_seat := fun_mk (st := d_require_seat) l_require_seat x_require_seat k_require_seat
  have b_require_seat := F_require_seat.binds (ps := ["sizes", "seat"]) fun _ _ _ _ _ _ us hl => match us, hl with | [_, _], _ => rfl
  have F_require_seats := fun_mk (st := d_require_seats) l_require_seats x_require_seats k_require_seats
  have b_require_seats := F_require_seats.binds (ps := ["sizes", "seats"]) fun _ _ _ _ _ _ us hl => match us, hl with | [_, _], _ => rfl
  have F_require_targets := fun_mk (st := d_require_targets) l_require_targets x_require_targets k_require_targets
  have b_require_targets := F_require_targets.binds (ps := ["sizes", "targets"]) fun _ _ _ _ _ _ us hl => match us, hl with | [_, _], _ => rfl
  have F_Table_init := fun_mk (st := d_Table_init) l_Table_init x_Table_init k_Table_init
  have b_Table_init := F_Table_init.binds (ps := ["self", "rings"]) fun _ _ _ _ _ _ us hl => match us, hl with | [_, _], _ => rfl
  have F_Table_sizes := fun_mk (st := d_Table_sizes) l_Table_sizes x_Table_sizes k_Table_sizes
  have b_Table_sizes := F_Table_sizes.binds (ps := ["self"]) fun _ _ _ _ _ _ us hl => match us, hl with | [_], _ => rfl
  have F_Table_count := fun_mk (st := d_Table_count) l_Table_count x_Table_count k_Table_count
  have b_Table_count := F_Table_count.binds (ps := ["self"]) fun _ _ _ _ _ _ us hl => match us, hl with | [_], _ => rfl
  have F_sizes_of := fun_mk (st := d_sizes_of) l_sizes_of x_sizes_of k_sizes_of
  have b_sizes_of := F_sizes_of.binds (ps := ["table"]) fun _ _ _ _ _ _ us hl => match us, hl with | [_], _ => rfl
  have F_both_moves := fun_mk (st := d_both_moves) l_both_moves x_both_moves k_both_moves
  have b_both_moves := F_both_moves.binds (ps := ["sizes", "seat", "call"]) fun _ _ _ _ _ _ us hl => match us, hl with | [_, _, _], _ => rfl
  have F_stepped := fun_mk (st := d_stepped) l_stepped x_stepped k_stepped
  have b_stepped := F_stepped.binds (ps := ["sizes", "seat", "call", "direction"]) fun _ _ _ _ _ _ us hl => match us, hl with | [_, _, _, _], _ => rfl
  have F_require_small := fun_mk (st := d_require_small) l_require_small x_require_small k_require_small
  have b_require_small := F_require_small.binds (ps := ["table"]) fun _ _ _ _ _ _ us hl => match us, hl with | [_], _ => rfl
  have F_all_seats := fun_mk (st := d_all_seats) l_all_seats x_all_seats k_all_seats
  have b_all_seats := F_all_seats.binds (ps := ["sizes"]) fun _ _ _ _ _ _ us hl => match us, hl with | [_], _ => rfl
  have F_all_choices := fun_mk (st := d_all_choices) l_all_choices x_all_choices k_all_choices
  have b_all_choices := F_all_choices.binds (ps := ["options"]) fun _ _ _ _ _ _ us hl => match us, hl with | [_], _ => rfl
  have F_are_sizes := fun_mk (st := d_are_sizes) l_are_sizes x_are_sizes k_are_sizes
  have b_are_sizes := F_are_sizes.binds (ps := ["rings"]) fun _ _ _ _ _ _ us hl => match us, hl with | [_], _ => rfl
  have F_Grid_init := fun_mk (st := d_Grid_init) l_Grid_init x_Grid_init k_Grid_init
  have b_Grid_init := F_Grid_init.binds (ps := ["self", "sizes"]) fun _ _ _ _ _ _ us hl => match us, hl with | [_, _], _ => rfl
  have F_Grid_index_of := fun_mk (st := d_Grid_index_of) l_Grid_index_of x_Grid_index_of k_Grid_index_of
  have b_Grid_index_of := F_Grid_index_of.binds (ps := ["self", "seat"]) fun _ _ _ _ _ _ us hl => match us, hl with | [_, _], _ => rfl
  have F_Grid_widened := fun_mk (st := d_Grid_widened) l_Grid_widened x_Grid_widened k_Grid_widened
  have b_Grid_widened := F_Grid_widened.binds (ps := ["self", "seats"]) fun _ _ _ _ _ _ us hl => match us, hl with | [_, _], _ => rfl
  have F_Spread_init := fun_mk (st := d_Spread_init) l_Spread_init x_Spread_init k_Spread_init
  have b_Spread_init := F_Spread_init.binds (ps := ["self", "grid", "targets"]) fun _ _ _ _ _ _ us hl => match us, hl with | [_, _, _], _ => rfl
  have F_Spread_all_rows := fun_mk (st := d_Spread_all_rows) l_Spread_all_rows x_Spread_all_rows k_Spread_all_rows
  have b_Spread_all_rows := F_Spread_all_rows.binds (ps := ["self"]) fun _ _ _ _ _ _ us hl => match us, hl with | [_], _ => rfl
  have F_Spread_number_of := fun_mk (st := d_Spread_number_of) l_Spread_number_of x_Spread_number_of k_Spread_number_of
  have b_Spread_number_of := F_Spread_number_of.binds (ps := ["self", "at"]) fun _ _ _ _ _ _ us hl => match us, hl with | [_, _], _ => rfl
  have F_Spread_call_from := fun_mk (st := d_Spread_call_from) l_Spread_call_from x_Spread_call_from k_Spread_call_from
  have b_Spread_call_from := F_Spread_call_from.binds (ps := ["self", "at"]) fun _ _ _ _ _ _ us hl => match us, hl with | [_, _], _ => rfl
  have F_Spread_meeting := fun_mk (st := d_Spread_meeting) l_Spread_meeting x_Spread_meeting k_Spread_meeting
  have b_Spread_meeting := F_Spread_meeting.binds (ps := ["self", "number", "at"]) fun _ _ _ _ _ _ us hl => match us, hl with | [_, _, _], _ => rfl
  have F_Spread_grow := fun_mk (st := d_Spread_grow) l_Spread_grow x_Spread_grow k_Spread_grow
  have b_Spread_grow := F_Spread_grow.binds (ps := ["self"]) fun _ _ _ _ _ _ us hl => match us, hl with | [_], _ => rfl
  have F_Spread_next_row := fun_mk (st := d_Spread_next_row) l_Spread_next_row x_Spread_next_row k_Spread_next_row
  have b_Spread_next_row := F_Spread_next_row.binds (ps := ["self"]) fun _ _ _ _ _ _ us hl => match us, hl with | [_], _ => rfl
  have F_Spread_enter := fun_mk (st := d_Spread_enter) l_Spread_enter x_Spread_enter k_Spread_enter
  have b_Spread_enter := F_Spread_enter.binds (ps := ["self", "row"]) fun _ _ _ _ _ _ us hl => match us, hl with | [_, _], _ => rfl
  have F_spread_from := fun_mk (st := d_spread_from) l_spread_from x_spread_from k_spread_from
  have b_spread_from := F_spread_from.binds (ps := ["grid", "targets"]) fun _ _ _ _ _ _ us hl => match us, hl with | [_, _], _ => rfl
  have F_longer := fun_mk (st := d_longer) l_longer x_longer k_longer
  have b_longer := F_longer.binds (ps := ["codes", "size", "digits"]) fun _ _ _ _ _ _ us hl => match us, hl with | [_, _, _], _ => rfl
  have F_min_calls := fun_mk (st := d_min_calls) l_min_calls x_min_calls k_min_calls
  have b_min_calls := F_min_calls.binds (ps := ["table", "targets", "seat"]) fun _ _ _ _ _ _ us hl => match us, hl with | [_, _, _], _ => rfl
  have F_layers := fun_mk (st := d_layers) l_layers x_layers k_layers
  have b_layers := F_layers.binds (ps := ["table", "targets"]) fun _ _ _ _ _ _ us hl => match us, hl with | [_, _], _ => rfl
  have F_plan_depths := fun_mk (st := d_plan_depths) l_plan_depths x_plan_depths k_plan_depths
  have b_plan_depths := F_plan_depths.binds (ps := ["table", "targets", "plan"]) fun _ _ _ _ _ _ us hl => match us, hl with | [_, _, _], _ => rfl
  have F_make_plan := fun_mk (st := d_make_plan) l_make_plan x_make_plan k_make_plan
  have b_make_plan := F_make_plan.binds (ps := ["table", "targets"]) fun _ _ _ _ _ _ us hl => match us, hl with | [_, _], _ => rfl
  have F_spread_for_all := fun_mk (st := d_spread_for_all) l_spread_for_all x_spread_for_all k_spread_for_all
  have b_spread_for_all := F_spread_for_all.binds (ps := ["table", "targets"]) fun _ _ _ _ _ _ us hl => match us, hl with | [_, _], _ => rfl
  have F_spread_for_seat := fun_mk (st := d_spread_for_seat) l_spread_for_seat x_spread_for_seat k_spread_for_seat
  have b_spread_for_seat := F_spread_for_seat.binds (ps := ["table", "targets", "seat"]) fun _ _ _ _ _ _ us hl => match us, hl with | [_, _, _], _ => rfl
  have F_depth_of := fun_mk (st := d_depth_of) l_depth_of x_depth_of k_depth_of
  have b_depth_of := F_depth_of.binds (ps := ["sizes", "depths", "entry"]) fun _ _ _ _ _ _ us hl => match us, hl with | [_, _, _], _ => rfl
  have F_law_mix := fun_mk (st := d_law_mix) l_law_mix x_law_mix k_law_mix
  have b_law_mix := F_law_mix.binds (ps := ["_law_cell", "_law_turn"]) fun _ _ _ _ _ _ us hl => match us, hl with | [_, _], _ => rfl
  have F_law_source := fun_mk (st := d_law_source) l_law_source x_law_source k_law_source
  have b_law_source := F_law_source.binds (ps := ["_law_cell"]) fun _ _ _ _ _ _ us hl => match us, hl with | [_], _ => rfl
  have F_law_draw := fun_mk (st := d_law_draw) l_law_draw x_law_draw k_law_draw
  have b_law_draw := F_law_draw.binds (ps := ["_law_source_here", "_law_limit"]) fun _ _ _ _ _ _ us hl => match us, hl with | [_, _], _ => rfl
  have F_law_rings := fun_mk (st := d_law_rings) l_law_rings x_law_rings k_law_rings
  have b_law_rings := F_law_rings.binds (ps := ["_law_source_here", "_law_high"]) fun _ _ _ _ _ _ us hl => match us, hl with | [_, _], _ => rfl
  have F_law_seats := fun_mk (st := d_law_seats) l_law_seats x_law_seats k_law_seats
  have b_law_seats := F_law_seats.binds (ps := ["_law_rings_here"]) fun _ _ _ _ _ _ us hl => match us, hl with | [_], _ => rfl
  have F_law_order := fun_mk (st := d_law_order) l_law_order x_law_order k_law_order
  have b_law_order := F_law_order.binds (ps := ["_law_rings_here", "_law_spot"]) fun _ _ _ _ _ _ us hl => match us, hl with | [_, _], _ => rfl
  have F_law_due := fun_mk (st := d_law_due) l_law_due x_law_due k_law_due
  have b_law_due := F_law_due.binds (ps := ["_law_rings_here", "_law_spot", "_law_goal"]) fun _ _ _ _ _ _ us hl => match us, hl with | [_, _, _], _ => rfl
  have F_law_table_is_right := fun_mk (st := d_law_table_is_right) l_law_table_is_right x_law_table_is_right k_law_table_is_right
  have b_law_table_is_right := F_law_table_is_right.binds (ps := ["_law_source_here", "_law_rings_here"]) fun _ _ _ _ _ _ us hl => match us, hl with | [_, _], _ => rfl
  have F_law := fun_mk (st := d_law) l_law x_law k_law
  have b_law := F_law.binds (ps := ["_law_script"]) fun _ _ _ _ _ _ us hl => match us, hl with | [_], _ => rfl
  let T : Tx K mg := { f_is_integer := f_is_integer, fd_is_integer := _, F_is_integer := F_is_integer, b_is_integer := b_is_integer, g_is_integer := PySem.W.mg_of X G a_is_integer, f_is_seat := f_is_seat, fd_is_seat := _, F_is_seat := F_is_seat, b_is_seat := b_is_seat, g_is_seat := PySem.W.mg_of X G a_is_seat, f_is_call := f_is_call, fd_is_call := _, F_is_call := F_is_call, b_is_call := b_is_call, g_is_call := PySem.W.mg_of X G a_is_call, f_require_seat := f_require_seat, fd_require_seat := _, F_require_seat := F_require_seat, b_require_seat := b_require_seat, g_require_seat := PySem.W.mg_of X G a_require_seat, f_require_seats := f_require_seats, fd_require_seats := _, F_require_seats := F_require_seats, b_require_seats := b_require_seats, g_require_seats := PySem.W.mg_of X G a_require_seats, f_require_targets := f_require_targets, fd_require_targets := _, F_require_targets := F_require_targets, b_require_targets := b_require_targets, g_require_targets := PySem.W.mg_of X G a_require_targets, f_Table_init := f_Table_init, fd_Table_init := _, F_Table_init := F_Table_init, b_Table_init := b_Table_init, f_Table_sizes := f_Table_sizes, fd_Table_sizes := _, F_Table_sizes := F_Table_sizes, b_Table_sizes := b_Table_sizes, f_Table_count := f_Table_count, fd_Table_count := _, F_Table_count := F_Table_count, b_Table_count := b_Table_count, f_sizes_of := f_sizes_of, fd_sizes_of := _, F_sizes_of := F_sizes_of, b_sizes_of := b_sizes_of, g_sizes_of := PySem.W.mg_of X G a_sizes_of, f_both_moves := f_both_moves, fd_both_moves := _, F_both_moves := F_both_moves, b_both_moves := b_both_moves, g_both_moves := PySem.W.mg_of X G a_both_moves, f_stepped := f_stepped, fd_stepped := _, F_stepped := F_stepped, b_stepped := b_stepped, g_stepped := PySem.W.mg_of X G a_stepped, f_require_small := f_require_small, fd_require_small := _, F_require_small := F_require_small, b_require_small := b_require_small, g_require_small := PySem.W.mg_of X G a_require_small, f_all_seats := f_all_seats, fd_all_seats := _, F_all_seats := F_all_seats, b_all_seats := b_all_seats, g_all_seats := PySem.W.mg_of X G a_all_seats, f_all_choices := f_all_choices, fd_all_choices := _, F_all_choices := F_all_choices, b_all_choices := b_all_choices, g_all_choices := PySem.W.mg_of X G a_all_choices, f_are_sizes := f_are_sizes, fd_are_sizes := _, F_are_sizes := F_are_sizes, b_are_sizes := b_are_sizes, g_are_sizes := PySem.W.mg_of X G a_are_sizes, f_Grid_init := f_Grid_init, fd_Grid_init := _, F_Grid_init := F_Grid_init, b_Grid_init := b_Grid_init, f_Grid_index_of := f_Grid_index_of, fd_Grid_index_of := _, F_Grid_index_of := F_Grid_index_of, b_Grid_index_of := b_Grid_index_of, f_Grid_widened := f_Grid_widened, fd_Grid_widened := _, F_Grid_widened := F_Grid_widened, b_Grid_widened := b_Grid_widened, f_Spread_init := f_Spread_init, fd_Spread_init := _, F_Spread_init := F_Spread_init, b_Spread_init := b_Spread_init, f_Spread_all_rows := f_Spread_all_rows, fd_Spread_all_rows := _, F_Spread_all_rows := F_Spread_all_rows, b_Spread_all_rows := b_Spread_all_rows, f_Spread_number_of := f_Spread_number_of, fd_Spread_number_of := _, F_Spread_number_of := F_Spread_number_of, b_Spread_number_of := b_Spread_number_of, f_Spread_call_from := f_Spread_call_from, fd_Spread_call_from := _, F_Spread_call_from := F_Spread_call_from, b_Spread_call_from := b_Spread_call_from, f_Spread_meeting := f_Spread_meeting, fd_Spread_meeting := _, F_Spread_meeting := F_Spread_meeting, b_Spread_meeting := b_Spread_meeting, f_Spread_grow := f_Spread_grow, fd_Spread_grow := _, F_Spread_grow := F_Spread_grow, b_Spread_grow := b_Spread_grow, f_Spread_next_row := f_Spread_next_row, fd_Spread_next_row := _, F_Spread_next_row := F_Spread_next_row, b_Spread_next_row := b_Spread_next_row, f_Spread_enter := f_Spread_enter, fd_Spread_enter := _, F_Spread_enter := F_Spread_enter, b_Spread_enter := b_Spread_enter, f_spread_from := f_spread_from, fd_spread_from := _, F_spread_from := F_spread_from, b_spread_from := b_spread_from, g_spread_from := PySem.W.mg_of X G a_spread_from, f_longer := f_longer, fd_longer := _, F_longer := F_longer, b_longer := b_longer, g_longer := PySem.W.mg_of X G a_longer, f_min_calls := f_min_calls, fd_min_calls := _, F_min_calls := F_min_calls, b_min_calls := b_min_calls, g_min_calls := PySem.W.mg_of X G a_min_calls, f_layers := f_layers, fd_layers := _, F_layers := F_layers, b_layers := b_layers, g_layers := PySem.W.mg_of X G a_layers, f_plan_depths := f_plan_depths, fd_plan_depths := _, F_plan_depths := F_plan_depths, b_plan_depths := b_plan_depths, g_plan_depths := PySem.W.mg_of X G a_plan_depths, f_make_plan := f_make_plan, fd_make_plan := _, F_make_plan := F_make_plan, b_make_plan := b_make_plan, g_make_plan := PySem.W.mg_of X G a_make_plan, f_spread_for_all := f_spread_for_all, fd_spread_for_all := _, F_spread_for_all := F_spread_for_all, b_spread_for_all := b_spread_for_all, g_spread_for_all := PySem.W.mg_of X G a_spread_for_all, f_spread_for_seat := f_spread_for_seat, fd_spread_for_seat := _, F_spread_for_seat := F_spread_for_seat, b_spread_for_seat := b_spread_for_seat, g_spread_for_seat := PySem.W.mg_of X G a_spread_for_seat, f_depth_of := f_depth_of, fd_depth_of := _, F_depth_of := F_depth_of, b_depth_of := b_depth_of, g_depth_of := PySem.W.mg_of X G a_depth_of, f_law_mix := f_law_mix, fd_law_mix := _, F_law_mix := F_law_mix, b_law_mix := b_law_mix, g_law_mix := PySem.W.mg_of X G a_law_mix, f_law_source := f_law_source, fd_law_source := _, F_law_source := F_law_source, b_law_source := b_law_source, g_law_source := PySem.W.mg_of X G a_law_source, f_law_draw := f_law_draw, fd_law_draw := _, F_law_draw := F_law_draw, b_law_draw := b_law_draw, g_law_draw := PySem.W.mg_of X G a_law_draw, f_law_rings := f_law_rings, fd_law_rings := _, F_law_rings := F_law_rings, b_law_rings := b_law_rings, g_law_rings := PySem.W.mg_of X G a_law_rings, f_law_seats := f_law_seats, fd_law_seats := _, F_law_seats := F_law_seats, b_law_seats := b_law_seats, g_law_seats := PySem.W.mg_of X G a_law_seats, f_law_order := f_law_order, fd_law_order := _, F_law_order := F_law_order, b_law_order := b_law_order, g_law_order := PySem.W.mg_of X G a_law_order, f_law_due := f_law_due, fd_law_due := _, F_law_due := F_law_due, b_law_due := b_law_due, g_law_due := PySem.W.mg_of X G a_law_due, f_law_table_is_right := f_law_table_is_right, fd_law_table_is_right := _, F_law_table_is_right := F_law_table_is_right, b_law_table_is_right := b_law_table_is_right, g_law_table_is_right := PySem.W.mg_of X G a_law_table_is_right, f_law := fa, fd_law := _, F_law := F_law, b_law := b_law, g_law := PySem.W.mg_of X G a_law, c_Table := c_Table, g_Table := PySem.W.mg_of X G ac_Table, cl_Table := ⟨pg_Table, hd_Table, po_Table, sa_Table⟩, M_Table := ⟨mk_Table, a_Table_init, i_Table_init, kc_Table⟩, m_Table_sizes := ⟨a_Table_sizes, i_Table_sizes, k_Table_sizes⟩, m_Table_count := ⟨a_Table_count, i_Table_count, k_Table_count⟩, no_Table_sizes := no_Table_sizes, ins_Table := ⟨⟨pg_Table, hd_Table, po_Table, sa_Table⟩, ih_Table, in_Table, it_Table, im_Table, kit_self _ _⟩, c_Grid := c_Grid, g_Grid := PySem.W.mg_of X G ac_Grid, cl_Grid := ⟨pg_Grid, hd_Grid, po_Grid, sa_Grid⟩, M_Grid := ⟨mk_Grid, a_Grid_init, i_Grid_init, kc_Grid⟩, m_Grid_index_of := ⟨a_Grid_index_of, i_Grid_index_of, k_Grid_index_of⟩, m_Grid_widened := ⟨a_Grid_widened, i_Grid_widened, k_Grid_widened⟩, no_Grid_rings := no_Grid_rings, no_Grid_codes := no_Grid_codes, no_Grid_doubles := no_Grid_doubles, no_Grid_mirrors := no_Grid_mirrors, no_Grid_first_bit := no_Grid_first_bit, no_Grid_spots := no_Grid_spots, c_Spread := c_Spread, g_Spread := PySem.W.mg_of X G ac_Spread, cl_Spread := ⟨pg_Spread, hd_Spread, po_Spread, sa_Spread⟩, M_Spread := ⟨mk_Spread, a_Spread_init, i_Spread_init, kc_Spread⟩, m_Spread_all_rows := ⟨a_Spread_all_rows, i_Spread_all_rows, k_Spread_all_rows⟩, m_Spread_number_of := ⟨a_Spread_number_of, i_Spread_number_of, k_Spread_number_of⟩, m_Spread_call_from := ⟨a_Spread_call_from, i_Spread_call_from, k_Spread_call_from⟩, m_Spread_meeting := ⟨a_Spread_meeting, i_Spread_meeting, k_Spread_meeting⟩, m_Spread_grow := ⟨a_Spread_grow, i_Spread_grow, k_Spread_grow⟩, m_Spread_next_row := ⟨a_Spread_next_row, i_Spread_next_row, k_Spread_next_row⟩, m_Spread_enter := ⟨a_Spread_enter, i_Spread_enter, k_Spread_enter⟩, no_Spread_grid := no_Spread_grid, no_Spread_numbers := no_Spread_numbers, no_Spread_waiting := no_Spread_waiting, no_Spread_rows := no_Spread_rows, no_Spread_sets := no_Spread_sets, no_Spread_known := no_Spread_known, no_Spread_mirrored := no_Spread_mirrored, no_Spread_sums := no_Spread_sums, v_MAX_RINGS := _, g_MAX_RINGS := PySem.W.mg_of X G y_MAX_RINGS, r_MAX_RINGS := r_MAX_RINGS, v_SMALL_COUNT := _, g_SMALL_COUNT := PySem.W.mg_of X G y_SMALL_COUNT, r_SMALL_COUNT := r_SMALL_COUNT, n_abs := PySem.W.mg_none_of X G z_abs, n_all := PySem.W.mg_none_of X G z_all, n_bool := PySem.W.mg_none_of X G z_bool, n_dict := PySem.W.mg_none_of X G z_dict, n_enumerate := PySem.W.mg_none_of X G z_enumerate, n_int := PySem.W.mg_none_of X G z_int, n_isinstance := PySem.W.mg_none_of X G z_isinstance, n_len := PySem.W.mg_none_of X G z_len, n_list := PySem.W.mg_none_of X G z_list, n_max := PySem.W.mg_none_of X G z_max, n_range := PySem.W.mg_none_of X G z_range, n_set := PySem.W.mg_none_of X G z_set, n_sorted := PySem.W.mg_none_of X G z_sorted, n_tuple := PySem.W.mg_none_of X G z_tuple, n_zip := PySem.W.mg_none_of X G z_zip }
  exact ⟨PySem.W.fnOf "law" "law" (defArgs d_law) (defBody d_law) (defScope d_law) .none kV_law dc_law pm_law an_law cd_law ct_law, fun s v => .of_eq rfl, fun base _ _ => ok_law (P := P) (w := w) (base := base) T⟩
end Lw
open PySem PySem.W PyProof.Rows in
set_option maxHeartbeats 0 in
theorem PySem.Challenge.cw_calledseats_k25_whole_one_target_holds : PySem.Challenge.rw_calledseats_k25_whole_one_target.Holds := by
  w_on; o_law; k_head; (case hw => w_witness2)
  k_fill
  refine L2.walk_ofB (l := PySem.Challenge.rw_calledseats_k25_whole_one_target) (n := 63) (k := 9) (x := "_law_script") (CX := fun _ => L2.CX0) (sp := fun w => Lw.sp_law _) rfl (by decide) rfl ⟨rfl, by decide, by decide⟩ (fun w h Y => PySem.W.kIn_of Y) ?F (fun _ _ a ns hl hb _ hS => ⟨a, ns, rfl, hS, hl, hb, fun _ => rfl⟩) (fun _ _ _ _ _ h => h)
  case F =>
    intro w mg fa h KX G hmg
    refine' Lw.all_mk KX G hmg ?ac_Spread ?ac_Grid ?ac_Table ?a_is_integer ?l_is_integer ?x_is_integer ?k_is_integer ?a_is_seat ?l_is_seat ?x_is_seat ?k_is_seat ?a_is_call ?l_is_call ?x_is_call ?k_is_call ?a_require_seat ?l_require_seat ?x_require_seat ?k_require_seat ?a_require_seats ?l_require_seats ?x_require_seats ?k_require_seats ?a_require_targets ?l_require_targets ?x_require_targets ?k_require_targets ?a_Table_init ?i_Table_init ?l_Table_init ?x_Table_init ?k_Table_init ?a_Table_sizes ?i_Table_sizes ?l_Table_sizes ?x_Table_sizes ?k_Table_sizes ?a_Table_count ?i_Table_count ?l_Table_count ?x_Table_count ?k_Table_count ?a_sizes_of ?l_sizes_of ?x_sizes_of ?k_sizes_of ?a_both_moves ?l_both_moves ?x_both_moves ?k_both_moves ?a_stepped ?l_stepped ?x_stepped ?k_stepped ?a_require_small ?l_require_small ?x_require_small ?k_require_small ?a_all_seats ?l_all_seats ?x_all_seats ?k_all_seats ?a_all_choices ?l_all_choices ?x_all_choices ?k_all_choices ?a_are_sizes ?l_are_sizes ?x_are_sizes ?k_are_sizes ?a_Grid_init ?i_Grid_init ?l_Grid_init ?x_Grid_init ?k_Grid_init ?a_Grid_index_of ?i_Grid_index_of ?l_Grid_index_of ?x_Grid_index_of ?k_Grid_index_of ?a_Grid_widened ?i_Grid_widened ?l_Grid_widened ?x_Grid_widened ?k_Grid_widened ?a_Spread_init ?i_Spread_init ?l_Spread_init ?x_Spread_init ?k_Spread_init ?a_Spread_all_rows ?i_Spread_all_rows ?l_Spread_all_rows ?x_Spread_all_rows ?k_Spread_all_rows ?a_Spread_number_of ?i_Spread_number_of ?l_Spread_number_of ?x_Spread_number_of ?k_Spread_number_of ?a_Spread_call_from ?i_Spread_call_from ?l_Spread_call_from ?x_Spread_call_from ?k_Spread_call_from ?a_Spread_meeting ?i_Spread_meeting ?l_Spread_meeting ?x_Spread_meeting ?k_Spread_meeting ?a_Spread_grow ?i_Spread_grow ?l_Spread_grow ?x_Spread_grow ?k_Spread_grow ?a_Spread_next_row ?i_Spread_next_row ?l_Spread_next_row ?x_Spread_next_row ?k_Spread_next_row ?a_Spread_enter ?i_Spread_enter ?l_Spread_enter ?x_Spread_enter ?k_Spread_enter ?a_spread_from ?l_spread_from ?x_spread_from ?k_spread_from ?a_longer ?l_longer ?x_longer ?k_longer ?a_min_calls ?l_min_calls ?x_min_calls ?k_min_calls ?a_layers ?l_layers ?x_layers ?k_layers ?a_plan_depths ?l_plan_depths ?x_plan_depths ?k_plan_depths ?a_make_plan ?l_make_plan ?x_make_plan ?k_make_plan ?a_spread_for_all ?l_spread_for_all ?x_spread_for_all ?k_spread_for_all ?a_spread_for_seat ?l_spread_for_seat ?x_spread_for_seat ?k_spread_for_seat ?a_depth_of ?l_depth_of ?x_depth_of ?k_depth_of ?a_law_mix ?l_law_mix ?x_law_mix ?k_law_mix ?a_law_source ?l_law_source ?x_law_source ?k_law_source ?a_law_draw ?l_law_draw ?x_law_draw ?k_law_draw ?a_law_rings ?l_law_rings ?x_law_rings ?k_law_rings ?a_law_seats ?l_law_seats ?x_law_seats ?k_law_seats ?a_law_order ?l_law_order ?x_law_order ?k_law_order ?a_law_due ?l_law_due ?x_law_due ?k_law_due ?a_law_table_is_right ?l_law_table_is_right ?x_law_table_is_right ?k_law_table_is_right ?a_law ?l_law ?x_law ?k_law ?pg_Table ?hd_Table ?po_Table ?sa_Table ?mk_Table ?kc_Table ?no_Table_sizes ?ih_Table ?in_Table ?it_Table ?im_Table ?pg_Grid ?hd_Grid ?po_Grid ?sa_Grid ?mk_Grid ?kc_Grid ?no_Grid_rings ?no_Grid_codes ?no_Grid_doubles ?no_Grid_mirrors ?no_Grid_first_bit ?no_Grid_spots ?pg_Spread ?hd_Spread ?po_Spread ?sa_Spread ?mk_Spread ?kc_Spread ?no_Spread_grid ?no_Spread_numbers ?no_Spread_waiting ?no_Spread_rows ?no_Spread_sets ?no_Spread_known ?no_Spread_mirrored ?no_Spread_sums ?y_MAX_RINGS ?r_MAX_RINGS ?y_SMALL_COUNT ?r_SMALL_COUNT ?z_abs ?z_all ?z_bool ?z_dict ?z_enumerate ?z_int ?z_isinstance ?z_len ?z_list ?z_max ?z_range ?z_set ?z_sorted ?z_tuple ?z_zip
    (case ac_Spread => k_is)
    (case ac_Grid => k_is)
    (case ac_Table => k_is)
    (case a_is_integer => k_is)
    (case l_is_integer => k_is)
    (case x_is_integer => k_is)
    (case k_is_integer => k_is)
    (case a_is_seat => k_is)
    (case l_is_seat => k_is)
    (case x_is_seat => k_is)
    (case k_is_seat => k_is)
    (case a_is_call => k_is)
    (case l_is_call => k_is)
    (case x_is_call => k_is)
    (case k_is_call => k_is)
    (case a_require_seat => k_is)
    (case l_require_seat => k_is)
    (case x_require_seat => k_is)
    (case k_require_seat => k_is)
    (case a_require_seats => k_is)
    (case l_require_seats => k_is)
    (case x_require_seats => k_is)
    (case k_require_seats => k_is)
    (case a_require_targets => k_is)
    (case l_require_targets => k_is)
    (case x_require_targets => k_is)
    (case k_require_targets => k_is)
    (case a_Table_init => k_is)
    (case i_Table_init => k_is)
    (case l_Table_init => k_is)
    (case x_Table_init => k_is)
    (case k_Table_init => k_is)
    (case a_Table_sizes => k_is)
    (case i_Table_sizes => k_is)
    (case l_Table_sizes => k_is)
    (case x_Table_sizes => k_is)
    (case k_Table_sizes => k_is)
    (case a_Table_count => k_is)
    (case i_Table_count => k_is)
    (case l_Table_count => k_is)
    (case x_Table_count => k_is)
    (case k_Table_count => k_is)
    (case a_sizes_of => k_is)
    (case l_sizes_of => k_is)
    (case x_sizes_of => k_is)
    (case k_sizes_of => k_is)
    (case a_both_moves => k_is)
    (case l_both_moves => k_is)
    (case x_both_moves => k_is)
    (case k_both_moves => k_is)
    (case a_stepped => k_is)
    (case l_stepped => k_is)
    (case x_stepped => k_is)
    (case k_stepped => k_is)
    (case a_require_small => k_is)
    (case l_require_small => k_is)
    (case x_require_small => k_is)
    (case k_require_small => k_is)
    (case a_all_seats => k_is)
    (case l_all_seats => k_is)
    (case x_all_seats => k_is)
    (case k_all_seats => k_is)
    (case a_all_choices => k_is)
    (case l_all_choices => k_is)
    (case x_all_choices => k_is)
    (case k_all_choices => k_is)
    (case a_are_sizes => k_is)
    (case l_are_sizes => k_is)
    (case x_are_sizes => k_is)
    (case k_are_sizes => k_is)
    (case a_Grid_init => k_is)
    (case i_Grid_init => k_is)
    (case l_Grid_init => k_is)
    (case x_Grid_init => k_is)
    (case k_Grid_init => k_is)
    (case a_Grid_index_of => k_is)
    (case i_Grid_index_of => k_is)
    (case l_Grid_index_of => k_is)
    (case x_Grid_index_of => k_is)
    (case k_Grid_index_of => k_is)
    (case a_Grid_widened => k_is)
    (case i_Grid_widened => k_is)
    (case l_Grid_widened => k_is)
    (case x_Grid_widened => k_is)
    (case k_Grid_widened => k_is)
    (case a_Spread_init => k_is)
    (case i_Spread_init => k_is)
    (case l_Spread_init => k_is)
    (case x_Spread_init => k_is)
    (case k_Spread_init => k_is)
    (case a_Spread_all_rows => k_is)
    (case i_Spread_all_rows => k_is)
    (case l_Spread_all_rows => k_is)
    (case x_Spread_all_rows => k_is)
    (case k_Spread_all_rows => k_is)
    (case a_Spread_number_of => k_is)
    (case i_Spread_number_of => k_is)
    (case l_Spread_number_of => k_is)
    (case x_Spread_number_of => k_is)
    (case k_Spread_number_of => k_is)
    (case a_Spread_call_from => k_is)
    (case i_Spread_call_from => k_is)
    (case l_Spread_call_from => k_is)
    (case x_Spread_call_from => k_is)
    (case k_Spread_call_from => k_is)
    (case a_Spread_meeting => k_is)
    (case i_Spread_meeting => k_is)
    (case l_Spread_meeting => k_is)
    (case x_Spread_meeting => k_is)
    (case k_Spread_meeting => k_is)
    (case a_Spread_grow => k_is)
    (case i_Spread_grow => k_is)
    (case l_Spread_grow => k_is)
    (case x_Spread_grow => k_is)
    (case k_Spread_grow => k_is)
    (case a_Spread_next_row => k_is)
    (case i_Spread_next_row => k_is)
    (case l_Spread_next_row => k_is)
    (case x_Spread_next_row => k_is)
    (case k_Spread_next_row => k_is)
    (case a_Spread_enter => k_is)
    (case i_Spread_enter => k_is)
    (case l_Spread_enter => k_is)
    (case x_Spread_enter => k_is)
    (case k_Spread_enter => k_is)
    (case a_spread_from => k_is)
    (case l_spread_from => k_is)
    (case x_spread_from => k_is)
    (case k_spread_from => k_is)
    (case a_longer => k_is)
    (case l_longer => k_is)
    (case x_longer => k_is)
    (case k_longer => k_is)
    (case a_min_calls => k_is)
    (case l_min_calls => k_is)
    (case x_min_calls => k_is)
    (case k_min_calls => k_is)
    (case a_layers => k_is)
    (case l_layers => k_is)
    (case x_layers => k_is)
    (case k_layers => k_is)
    (case a_plan_depths => k_is)
    (case l_plan_depths => k_is)
    (case x_plan_depths => k_is)
    (case k_plan_depths => k_is)
    (case a_make_plan => k_is)
    (case l_make_plan => k_is)
    (case x_make_plan => k_is)
    (case k_make_plan => k_is)
    (case a_spread_for_all => k_is)
    (case l_spread_for_all => k_is)
    (case x_spread_for_all => k_is)
    (case k_spread_for_all => k_is)
    (case a_spread_for_seat => k_is)
    (case l_spread_for_seat => k_is)
    (case x_spread_for_seat => k_is)
    (case k_spread_for_seat => k_is)
    (case a_depth_of => k_is)
    (case l_depth_of => k_is)
    (case x_depth_of => k_is)
    (case k_depth_of => k_is)
    (case a_law_mix => k_is)
    (case l_law_mix => k_is)
    (case x_law_mix => k_is)
    (case k_law_mix => k_is)
    (case a_law_source => k_is)
    (case l_law_source => k_is)
    (case x_law_source => k_is)
    (case k_law_source => k_is)
    (case a_law_draw => k_is)
    (case l_law_draw => k_is)
    (case x_law_draw => k_is)
    (case k_law_draw => k_is)
    (case a_law_rings => k_is)
    (case l_law_rings => k_is)
    (case x_law_rings => k_is)
    (case k_law_rings => k_is)
    (case a_law_seats => k_is)
    (case l_law_seats => k_is)
    (case x_law_seats => k_is)
    (case k_law_seats => k_is)
    (case a_law_order => k_is)
    (case l_law_order => k_is)
    (case x_law_order => k_is)
    (case k_law_order => k_is)
    (case a_law_due => k_is)
    (case l_law_due => k_is)
    (case x_law_due => k_is)
    (case k_law_due => k_is)
    (case a_law_table_is_right => k_is)
    (case l_law_table_is_right => k_is)
    (case x_law_table_is_right => k_is)
    (case k_law_table_is_right => k_is)
    (case a_law => k_is)
    (case l_law => k_is)
    (case x_law => k_is)
    (case k_law => k_is)
    (case pg_Table => k_is)
    (case hd_Table => k_is)
    (case po_Table => k_is)
    (case sa_Table => k_is)
    (case mk_Table => k_is)
    (case kc_Table => k_is)
    (case no_Table_sizes => k_is)
    (case ih_Table => k_is)
    (case in_Table => k_is)
    (case it_Table => k_is)
    (case im_Table => k_is)
    (case pg_Grid => k_is)
    (case hd_Grid => k_is)
    (case po_Grid => k_is)
    (case sa_Grid => k_is)
    (case mk_Grid => k_is)
    (case kc_Grid => k_is)
    (case no_Grid_rings => k_is)
    (case no_Grid_codes => k_is)
    (case no_Grid_doubles => k_is)
    (case no_Grid_mirrors => k_is)
    (case no_Grid_first_bit => k_is)
    (case no_Grid_spots => k_is)
    (case pg_Spread => k_is)
    (case hd_Spread => k_is)
    (case po_Spread => k_is)
    (case sa_Spread => k_is)
    (case mk_Spread => k_is)
    (case kc_Spread => k_is)
    (case no_Spread_grid => k_is)
    (case no_Spread_numbers => k_is)
    (case no_Spread_waiting => k_is)
    (case no_Spread_rows => k_is)
    (case no_Spread_sets => k_is)
    (case no_Spread_known => k_is)
    (case no_Spread_mirrored => k_is)
    (case no_Spread_sums => k_is)
    (case y_MAX_RINGS => k_is)
    (case r_MAX_RINGS => exact ⟨_, rfl⟩)
    (case y_SMALL_COUNT => k_is)
    (case r_SMALL_COUNT => exact ⟨_, rfl⟩)
    (case z_abs => k_is)
    (case z_all => k_is)
    (case z_bool => k_is)
    (case z_dict => k_is)
    (case z_enumerate => k_is)
    (case z_int => k_is)
    (case z_isinstance => k_is)
    (case z_len => k_is)
    (case z_list => k_is)
    (case z_max => k_is)
    (case z_range => k_is)
    (case z_set => k_is)
    (case z_sorted => k_is)
    (case z_tuple => k_is)
    (case z_zip => k_is)
