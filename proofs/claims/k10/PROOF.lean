import PyProof.Rows.All
import Wide.All
import OpenK.AllK
import Wide.FinOn
import HandS.ForMost
import HandS.Walk
import HandS.IsInst
import HandS.Wide
import HandS.EndBits
import KE.GoesNew
import KE.GoesMore
import HandS.Defaults
import HandS.MakeKwOnly
import HandS.Codes
import HandS.Gcd
import HandS.Star
import HandS.Deep
import HandS.TupMul
import HandS.TupAny
import HandS.Style
import HandS.TupSets
import HandS.Strs
import KE.GoesEnum
import HandS.RevRange
import HandS.WideBits
import HandS.SetFor
import KE.KDictZip
import KE.GoesZip
import PyProof.ListNew
import HandS.Flow
import HandS.SortInts
import HandS.FStr
import KE.KxField
import HandS.Dict
import HandS.SortOrd
import HandS.SortRule
import KE.KStateDown
import HandS.Base
import HandS.Call
import HandS.Ends
import HandS.More
import HandS.Words
import HandS.Head0
import HandS.Head1
import HandS.Head2
import HandS.Head3
import HandS.HeadEnd
import HandS.HeadHook1
import HandS.ExcInit
import HandS.ExcField
import HandS.TryMany
import HandS.WordsExc
import HandS.ClsMeth
import PyProof.ReprRoads
import KE.KDictWalk
import HandS.Sort
import PyProof.TupleOfSeq
import HandS.ExcOwn
import HandS.ExcValue
import KE.KDictPairs
import HandS.DictComp
import HandS.Conv
import KE.KDictSum
import HandS.TupLe
import HandS.TupLen
import PySem.Challenge.RW_calledseats_k10_reachability_on_small_ta
set_option Elab.async false
set_option linter.all false
set_option maxRecDepth 100000
set_option maxHeartbeats 4000000
namespace Cs
open PySem PySem.Spec PyProof.Rows L2

/-! ### a list or a tuple -/
def Sqk (K : PySem.W.Frag) (k : Bool) (H : Hp) (a : Addr) (xs : List V) : Prop := match k with
  | true => SqL K H a xs
  | false => SqT K H a xs
def SeqK (k : Bool) (h : Heap) (a : Addr) (its : Array Value) : Prop := match k with
  | true => h.IsList a its
  | false => h.IsTuple a its
def ItK (k : Bool) (h : Heap) (it a : Addr) (i : Nat) : Prop := match k with
  | true => h.IsListIter it a i
  | false => h.IsTupleIter it a i
def itO (k : Bool) (a : Addr) : Obj := match k with
  | true => { cls := .type "list_iterator", data := .fields #[.ref a, .int 0 0] }
  | false => { cls := .type "tuple_iterator", data := .fields #[.ref a, .int 0 0] }
theorem ItK.at {k : Bool} {h h' : Heap} {it a : Addr} {i : Nat} (x : ItK k h it a i) (q : ∀ o, h.get? it = some o → h'.get? it = some o) : ItK k h' it a i := by
  cases k with
  | true => exact PySem.Heap.IsListIter.at x q
  | false => exact PySem.Heap.IsTupleIter.at x q
theorem ItK.obj {k : Bool} {h : Heap} {it a : Addr} {i : Nat} (x : ItK k h it a i) : ∃ o, h.get? it = some o ∧ ∀ v, o.data ≠ .cell v := by
  cases k with
  | true => obtain ⟨o, e, _, d⟩ := x; exact ⟨o, e, fun v q => by rw [d] at q; cases q⟩
  | false => obtain ⟨o, e, _, d⟩ := x; exact ⟨o, e, fun v q => by rw [d] at q; cases q⟩
theorem ItK.new {k : Bool} {h : Heap} {it a : Addr} (e : h.get? it = some (itO k a)) : ItK k h it a 0 := by
  cases k with
  | true => exact ⟨_, e, rfl, rfl⟩
  | false => exact ⟨_, e, rfl, rfl⟩
theorem drawsK {prog : Program} {w : World} {A : Around} (hh : A.handled = none) (k : Bool) (it l : Addr) (hne : l ≠ it) (items : Array Value) :
    Draws prog w A it [it, l] items.size (fun i v => items[i]? = some v) (fun i h => ItK k h it l i ∧ SeqK k h l items) := by
  cases k with
  | true => exact Draws.list hh it l hne items
  | false => exact Draws.tuple hh it l hne items
theorem begK (k : Bool) (a : Addr) (its : Array Value) : Begins (.ref a) (itO k a) fun h => SeqK k h a its := by
  cases k with
  | true => exact begins_list a its
  | false => exact begins_tuple a its
section
variable {X : Cx} {pins : List (Addr × Obj)} {σ : L2.St} {H : Hp} {s : Shared} {k : Bool} {a : Addr} {xs ys : List V}
theorem invK (I : Inv X pins σ H s) (h : Sqk X.K k H a xs) : ∃ its : List Value, Vals xs its ∧ SeqK k s.heap a its.toArray := by
  cases k with
  | true => obtain ⟨its, rv, p, _⟩ := I.list h; exact ⟨its, rv, p.isList⟩
  | false => obtain ⟨its, rv, p, _⟩ := I.tuple h; exact ⟨its, rv, p⟩
theorem injK (I : Inv X pins σ H s) (h : Sqk X.K k H a xs) (h' : Sqk X.K k H a ys) : xs = ys := by
  cases k with
  | true => exact I.list_inj h h'
  | false => exact I.tuple_inj h h'
theorem SeqK.lt {h : Heap} {its : Array Value} (x : SeqK k h a its) : a < h.objs.size := by
  cases k with
  | true => obtain ⟨o, e, _⟩ := x; exact Heap.lt_size e
  | false => obtain ⟨o, e, _⟩ := x; exact Heap.lt_size e
end
theorem Sqk.same {K : PySem.W.Frag} {k : Bool} {H H' : Hp} {a : Addr} {xs : List V} (e : Same H H') (h : Sqk K k H a xs) : Sqk K k H' a xs := by
  cases k with
  | true => exact e.seq h
  | false =>
    rcases h with (h | ⟨o, h⟩) | h
    · exact .inl (.inl (e _ _ h))
    · exact .inl (.inr ⟨o, e _ _ h⟩)
    · exact .inr h

/-! ### for a, b in zip(x, y), x and y lists or tuples -/
def Iz2 (K : PySem.W.Frag) (k1 k2 : Bool) (a b : Addr) : It :=
  ⟨fun i H => ∃ (xs ys : List V) (x y : V), Sqk K k1 H a xs ∧ Sqk K k2 H b ys ∧ xs[i]? = some x ∧ ys[i]? = some y,
    fun i H v H' => ∃ T x y, v = .ref T ∧ H T = none ∧ H' = upd H T (.tup [x, y]) ∧ (∀ xs, Sqk K k1 H a xs → xs[i]? = some x) ∧ ∀ ys, Sqk K k2 H b ys → ys[i]? = some y,
    fun i H => ∃ xs ys : List V, Sqk K k1 H a xs ∧ Sqk K k2 H b ys ∧ xs.length = ys.length ∧ xs.length = i⟩
def Iz3 (K : PySem.W.Frag) (k1 k2 k3 : Bool) (a b c : Addr) : It :=
  ⟨fun i H => ∃ (xs ys zs : List V) (x y z : V), Sqk K k1 H a xs ∧ Sqk K k2 H b ys ∧ Sqk K k3 H c zs ∧ xs[i]? = some x ∧ ys[i]? = some y ∧ zs[i]? = some z,
    fun i H v H' => ∃ T x y z, v = .ref T ∧ H T = none ∧ H' = upd H T (.tup [x, y, z]) ∧ (∀ xs, Sqk K k1 H a xs → xs[i]? = some x) ∧ (∀ ys, Sqk K k2 H b ys → ys[i]? = some y) ∧ ∀ zs, Sqk K k3 H c zs → zs[i]? = some z,
    fun i H => ∃ xs ys zs : List V, Sqk K k1 H a xs ∧ Sqk K k2 H b ys ∧ Sqk K k3 H c zs ∧ xs.length = ys.length ∧ ys.length = zs.length ∧ xs.length = i⟩

theorem turn_z2 {P : Program} {w : World} {K : PySem.W.Frag} {elts : List Expr} {kk : Nat} {tpos : Pos} {k1 k2 : Bool} {a b z TI TO i1 i2 : Addr} (S : ZipSep2 z TI TO i1 i2 [i1, a] [i2, b]) (n1 : a ≠ i1) (n2 : b ≠ i2) :
    Turn P w K (.Tuple elts kk tpos) (Iz2 K k1 k2 a b) [z, TI, TO, i1, i2] z (fun i h => IsZip h z TI TO .none ∧ IsTupOf2 h TI (.ref i1) (.ref i2) ∧ (∃ x y, IsTupOf2 h TO x y) ∧ ItK k1 h i1 a i ∧ ItK k2 h i2 b i) where
  mem := by simp
  obj := fun i h st c hc => by
    obtain ⟨hz, hTI, ⟨x, y, hTO⟩, h1, h2⟩ := st
    have e' : c = z ∨ c = TI ∨ c = TO ∨ c = i1 ∨ c = i2 := by simpa using hc
    rcases e' with q | q | q | q | q
    · rw [q]; exact ⟨_, hz, fun v q => nomatch q⟩
    · rw [q]; exact ⟨_, hTI, fun v q => nomatch q⟩
    · rw [q]; exact ⟨_, hTO, fun v q => nomatch q⟩
    · rw [q]; exact h1.obj
    · rw [q]; exact h2.obj
  keep := fun i h h' st k => by
    obtain ⟨hz, hTI, ⟨x, y, hTO⟩, h1, h2⟩ := st
    exact ⟨k z (by simp) _ hz, k TI (by simp) _ hTI, ⟨x, y, k TO (by simp) _ hTO⟩, h1.at fun o q => k i1 (by simp) o q, h2.at fun o q => k i2 (by simp) o q⟩
  item := by
    intro X hP hw hK hc i pins s σ H E I hf st hg
    subst hP hw hK
    obtain ⟨xs, ys, x, y, hqx, hqy, hx, hy⟩ := hg
    obtain ⟨its, rv, p⟩ := invK I hqx
    obtain ⟨its2, rv2, p2⟩ := invK I hqy
    obtain ⟨u, hu, ru⟩ := rv.get hx
    obtain ⟨u2, hu2, ru2⟩ := rv2.get hy
    have hh : X.A.handled = none := I.ok.hd hc
    have D1 := drawsK (prog := X.prog) (w := X.w) (A := X.A.in1) hh k1 i1 a n1 its.toArray
    have D2 := drawsK (prog := X.prog) (w := X.w) (A := X.A.in1) hh k2 i2 b n2 its2.toArray
    have l1 : i < its.length := (List.getElem?_eq_some_iff.mp hu).1
    have l2 : i < its2.length := (List.getElem?_eq_some_iff.mp hu2).1
    have W := GoesN.zip2 (elts := elts) (x1 := kk) (pos := tpos) S D1 D2
    refine W.goes i s (fun v s2 => ∃ x H', Inv X pins σ H' s2 ∧ RelV x v ∧ (Iz2 X.K k1 k2 a b).yld i H x H' ∧ (IsZip s2.heap z TI TO .none ∧ IsTupOf2 s2.heap TI (.ref i1) (.ref i2) ∧ (∃ x y, IsTupOf2 s2.heap TO x y) ∧ ItK k1 s2.heap i1 a (i + 1) ∧ ItK k2 s2.heap i2 b (i + 1)) ∧ ∀ b ∈ [z, TI, TO, i1, i2], H' b = none) E (by simp only [List.size_toArray]; omega) ⟨st.1, st.2.1, st.2.2.1, ⟨st.2.2.2.1, p⟩, st.2.2.2.2, p2⟩ fun v h' tk hY st' hk htk => ?_
    obtain ⟨T, v1, v2, rfl, hT, e1, e2, hTu⟩ := hY
    have q1 : v1 = u := by
      have e1' : its[i]? = some v1 := by simpa using e1
      rw [hu] at e1'; exact (Option.some.inj e1').symm
    have q2 : v2 = u2 := by
      have e2' : its2[i]? = some v2 := by simpa using e2
      rw [hu2] at e2'; exact (Option.some.inj e2').symm
    subst q1 q2
    have new : ObjOk X.prog X.w (upd H T (.tup [x, y])) h' T (.tup [x, y]) :=
      ⟨by show 2 ≤ sizeLine; decide, [v1, v2], .cons ru (.cons ru2 .nil), hTu⟩
    have I1 : Inv X pins σ (upd H T (.tup [x, y])) { s with heap := h', toks := tk } :=
      I.turnedNew (t' := tk) (ch := [z, TI, TO, i1, i2]) (fun c o hb q => hk c o (fun hm => hb (by
        simp only [List.mem_cons, List.mem_nil_iff, or_false] at hm ⊢
        rcases hm with q | q | q | q <;> simp [q])) q) hf hT new
    refine ⟨.ref T, _, I1, rfl, ⟨T, x, y, rfl, I.hok.fresh hT, rfl, fun l hl => by rw [injK I hl hqx]; exact hx, fun l hl => by rw [injK I hl hqy]; exact hy⟩, ⟨st'.1, st'.2.1, st'.2.2.1, st'.2.2.2.1.1, st'.2.2.2.2.1⟩, fun c hcm => ?_⟩
    have hlt : c < s.heap.objs.size := by
      obtain ⟨hz, hTI, ⟨x0, y0, hTO⟩, h1, h2⟩ := st
      have e' : c = z ∨ c = TI ∨ c = TO ∨ c = i1 ∨ c = i2 := by simpa using hcm
      rcases e' with q | q | q | q | q
      · rw [q]; exact Heap.lt_size hz
      · rw [q]; exact Heap.lt_size hTI
      · rw [q]; exact Heap.lt_size hTO
      · rw [q]; obtain ⟨_, e1, _⟩ := h1.obj; exact Heap.lt_size e1
      · rw [q]; obtain ⟨_, e2, _⟩ := h2.obj; exact Heap.lt_size e2
    rw [upd_ne (Nat.ne_of_lt (Nat.lt_of_lt_of_le hlt hT))]
    exact (hf c hcm).1
  done := by
    intro X hP hw hK hc i pins s σ H E I hf st hg
    subst hP hw hK
    obtain ⟨xs, ys, hqx, hqy, hl, hi⟩ := hg
    obtain ⟨its, rv, p⟩ := invK I hqx
    obtain ⟨its2, rv2, p2⟩ := invK I hqy
    have hh : X.A.handled = none := I.ok.hd hc
    have D1 := drawsK (prog := X.prog) (w := X.w) (A := X.A.in1) hh k1 i1 a n1 its.toArray
    have D2 := drawsK (prog := X.prog) (w := X.w) (A := X.A.in1) hh k2 i2 b n2 its2.toArray
    have W := GoesN.zip2 (elts := elts) (x1 := kk) (pos := tpos) S D1 D2
    have l1 := rv.length
    have l2 := rv2.length
    have en : min its.toArray.size its2.toArray.size = i := by simp only [List.size_toArray]; omega
    have st2 : (IsZip s.heap z TI TO .none ∧ IsTupOf2 s.heap TI (.ref i1) (.ref i2) ∧ (∃ a1 a2, IsTupOf2 s.heap TO a1 a2) ∧ (ItK k1 s.heap i1 a (min its.toArray.size its2.toArray.size) ∧ SeqK k1 s.heap a its.toArray) ∧ ItK k2 s.heap i2 b (min its.toArray.size its2.toArray.size) ∧ SeqK k2 s.heap b its2.toArray) := by
      rw [en]
      exact ⟨st.1, st.2.1, st.2.2.1, ⟨st.2.2.2.1, p⟩, st.2.2.2.2, p2⟩
    refine W.stops s (fun s1 => Inv X pins σ H s1) E st2 fun h' tk hk htk => ?_
    exact I.turnedL (t' := tk) (ch := [z, TI, TO, i1, i2]) (fun c o hb q => hk c o (fun hm => hb (by
        simp only [List.mem_cons, List.mem_nil_iff, or_false] at hm ⊢
        rcases hm with q | q | q | q <;> simp [q])) q) hf
  self := fun A i s Q E st h => wpAny_pyIter_zip st.1 h

theorem turn_z3 {P : Program} {w : World} {K : PySem.W.Frag} {elts : List Expr} {kk : Nat} {tpos : Pos} {k1 k2 k3 : Bool} {a b c z TI TO i1 i2 i3 : Addr} (S : ZipSep3 z TI TO i1 i2 i3 [i1, a] [i2, b] [i3, c]) (n1 : a ≠ i1) (n2 : b ≠ i2) (n3 : c ≠ i3) :
    Turn P w K (.Tuple elts kk tpos) (Iz3 K k1 k2 k3 a b c) [z, TI, TO, i1, i2, i3] z (fun i h => IsZip h z TI TO .none ∧ IsTupOf3 h TI (.ref i1) (.ref i2) (.ref i3) ∧ (∃ x y v, IsTupOf3 h TO x y v) ∧ ItK k1 h i1 a i ∧ ItK k2 h i2 b i ∧ ItK k3 h i3 c i) where
  mem := by simp
  obj := fun i h st c hc => by
    obtain ⟨hz, hTI, ⟨x, y, v, hTO⟩, h1, h2, h3⟩ := st
    have e' : c = z ∨ c = TI ∨ c = TO ∨ c = i1 ∨ c = i2 ∨ c = i3 := by simpa using hc
    rcases e' with q | q | q | q | q | q
    · rw [q]; exact ⟨_, hz, fun v q => nomatch q⟩
    · rw [q]; exact ⟨_, hTI, fun v q => nomatch q⟩
    · rw [q]; exact ⟨_, hTO, fun v q => nomatch q⟩
    · rw [q]; exact h1.obj
    · rw [q]; exact h2.obj
    · rw [q]; exact h3.obj
  keep := fun i h h' st k => by
    obtain ⟨hz, hTI, ⟨x, y, v, hTO⟩, h1, h2, h3⟩ := st
    exact ⟨k z (by simp) _ hz, k TI (by simp) _ hTI, ⟨x, y, v, k TO (by simp) _ hTO⟩, h1.at fun o q => k i1 (by simp) o q, h2.at fun o q => k i2 (by simp) o q, h3.at fun o q => k i3 (by simp) o q⟩
  item := by
    intro X hP hw hK hc i pins s σ H E I hf st hg
    subst hP hw hK
    obtain ⟨xs, ys, zs, x, y, v, hqx, hqy, hqz, hx, hy, hz⟩ := hg
    obtain ⟨its, rv, p⟩ := invK I hqx
    obtain ⟨its2, rv2, p2⟩ := invK I hqy
    obtain ⟨its3, rv3, p3⟩ := invK I hqz
    obtain ⟨u, hu, ru⟩ := rv.get hx
    obtain ⟨u2, hu2, ru2⟩ := rv2.get hy
    obtain ⟨u3, hu3, ru3⟩ := rv3.get hz
    have hh : X.A.handled = none := I.ok.hd hc
    have D1 := drawsK (prog := X.prog) (w := X.w) (A := X.A.in1) hh k1 i1 a n1 its.toArray
    have D2 := drawsK (prog := X.prog) (w := X.w) (A := X.A.in1) hh k2 i2 b n2 its2.toArray
    have D3 := drawsK (prog := X.prog) (w := X.w) (A := X.A.in1) hh k3 i3 c n3 its3.toArray
    have l1 : i < its.length := (List.getElem?_eq_some_iff.mp hu).1
    have l2 : i < its2.length := (List.getElem?_eq_some_iff.mp hu2).1
    have l3 : i < its3.length := (List.getElem?_eq_some_iff.mp hu3).1
    have W := GoesN.zip3 (elts := elts) (x1 := kk) (pos := tpos) S D1 D2 D3
    refine W.goes i s (fun v s2 => ∃ x H', Inv X pins σ H' s2 ∧ RelV x v ∧ (Iz3 X.K k1 k2 k3 a b c).yld i H x H' ∧ (IsZip s2.heap z TI TO .none ∧ IsTupOf3 s2.heap TI (.ref i1) (.ref i2) (.ref i3) ∧ (∃ x y v, IsTupOf3 s2.heap TO x y v) ∧ ItK k1 s2.heap i1 a (i + 1) ∧ ItK k2 s2.heap i2 b (i + 1) ∧ ItK k3 s2.heap i3 c (i + 1)) ∧ ∀ b ∈ [z, TI, TO, i1, i2, i3], H' b = none) E (by simp only [List.size_toArray]; omega) ⟨st.1, st.2.1, st.2.2.1, ⟨st.2.2.2.1, p⟩, ⟨st.2.2.2.2.1, p2⟩, st.2.2.2.2.2, p3⟩ fun v h' tk hY st' hk htk => ?_
    obtain ⟨T, v1, v2, v3, rfl, hT, e1, e2, e3, hTu⟩ := hY
    have q1 : v1 = u := by
      have e1' : its[i]? = some v1 := by simpa using e1
      rw [hu] at e1'; exact (Option.some.inj e1').symm
    have q2 : v2 = u2 := by
      have e2' : its2[i]? = some v2 := by simpa using e2
      rw [hu2] at e2'; exact (Option.some.inj e2').symm
    have q3 : v3 = u3 := by
      have e3' : its3[i]? = some v3 := by simpa using e3
      rw [hu3] at e3'; exact (Option.some.inj e3').symm
    subst q1 q2 q3
    have new : ObjOk X.prog X.w (upd H T (.tup [x, y, v])) h' T (.tup [x, y, v]) :=
      ⟨by show 3 ≤ sizeLine; decide, [v1, v2, v3], .cons ru (.cons ru2 (.cons ru3 .nil)), hTu⟩
    have I1 : Inv X pins σ (upd H T (.tup [x, y, v])) { s with heap := h', toks := tk } :=
      I.turnedNew (t' := tk) (ch := [z, TI, TO, i1, i2, i3]) (fun c o hb q => hk c o (fun hm => hb (by
        simp only [List.mem_cons, List.mem_nil_iff, or_false] at hm ⊢
        rcases hm with q | q | q | q | q <;> simp [q])) q) hf hT new
    refine ⟨.ref T, _, I1, rfl, ⟨T, x, y, v, rfl, I.hok.fresh hT, rfl, fun l hl => by rw [injK I hl hqx]; exact hx, fun l hl => by rw [injK I hl hqy]; exact hy, fun l hl => by rw [injK I hl hqz]; exact hz⟩, ⟨st'.1, st'.2.1, st'.2.2.1, st'.2.2.2.1.1, st'.2.2.2.2.1.1, st'.2.2.2.2.2.1⟩, fun c hcm => ?_⟩
    have hlt : c < s.heap.objs.size := by
      obtain ⟨hz, hTI, ⟨x0, y0, v0, hTO⟩, h1, h2, h3⟩ := st
      have e' : c = z ∨ c = TI ∨ c = TO ∨ c = i1 ∨ c = i2 ∨ c = i3 := by simpa using hcm
      rcases e' with q | q | q | q | q | q
      · rw [q]; exact Heap.lt_size hz
      · rw [q]; exact Heap.lt_size hTI
      · rw [q]; exact Heap.lt_size hTO
      · rw [q]; obtain ⟨_, e1, _⟩ := h1.obj; exact Heap.lt_size e1
      · rw [q]; obtain ⟨_, e2, _⟩ := h2.obj; exact Heap.lt_size e2
      · rw [q]; obtain ⟨_, e2, _⟩ := h3.obj; exact Heap.lt_size e2
    rw [upd_ne (Nat.ne_of_lt (Nat.lt_of_lt_of_le hlt hT))]
    exact (hf c hcm).1
  done := by
    intro X hP hw hK hc i pins s σ H E I hf st hg
    subst hP hw hK
    obtain ⟨xs, ys, zs, hqx, hqy, hqz, hl, hl2, hi⟩ := hg
    obtain ⟨its, rv, p⟩ := invK I hqx
    obtain ⟨its2, rv2, p2⟩ := invK I hqy
    obtain ⟨its3, rv3, p3⟩ := invK I hqz
    have hh : X.A.handled = none := I.ok.hd hc
    have D1 := drawsK (prog := X.prog) (w := X.w) (A := X.A.in1) hh k1 i1 a n1 its.toArray
    have D2 := drawsK (prog := X.prog) (w := X.w) (A := X.A.in1) hh k2 i2 b n2 its2.toArray
    have D3 := drawsK (prog := X.prog) (w := X.w) (A := X.A.in1) hh k3 i3 c n3 its3.toArray
    have W := GoesN.zip3 (elts := elts) (x1 := kk) (pos := tpos) S D1 D2 D3
    have l1 := rv.length
    have l2 := rv2.length
    have l3 := rv3.length
    have en : min (min its.toArray.size its2.toArray.size) its3.toArray.size = i := by simp only [List.size_toArray]; omega
    have st2 : (fun i h => IsZip h z TI TO .none ∧ IsTupOf3 h TI (.ref i1) (.ref i2) (.ref i3) ∧ (∃ a1 a2 a3, IsTupOf3 h TO a1 a2 a3) ∧ (ItK k1 h i1 a i ∧ SeqK k1 h a its.toArray) ∧ (ItK k2 h i2 b i ∧ SeqK k2 h b its2.toArray) ∧ ItK k3 h i3 c i ∧ SeqK k3 h c its3.toArray) (min (min its.toArray.size its2.toArray.size) its3.toArray.size) s.heap := by
      rw [en]
      exact ⟨st.1, st.2.1, st.2.2.1, ⟨st.2.2.2.1, p⟩, ⟨st.2.2.2.2.1, p2⟩, st.2.2.2.2.2, p3⟩
    refine W.stops s (fun s1 => Inv X pins σ H s1) E st2 fun h' tk hk htk => ?_
    exact I.turnedL (t' := tk) (ch := [z, TI, TO, i1, i2, i3]) (fun c o hb q => hk c o (fun hm => hb (by
        simp only [List.mem_cons, List.mem_nil_iff, or_false] at hm ⊢
        rcases hm with q | q | q | q | q <;> simp [q])) q) hf
  self := fun A i s Q E st h => wpAny_pyIter_zip st.1 h

/-! ### the walks -/
def iSeq (K : PySem.W.Frag) (tl : TE) : TI := fun σ H R => tl σ H fun x H1 => ∃ (k : Bool) (a : Addr) (xs : List V), x = .ref a ∧ Sqk K k H1 a xs ∧ R (match k with | true => Itl K a | false => Itt K a) H1
theorem pi_seq {X : Cx} {tg l : Expr} {tl : TE} (hl : PE X l tl) : PI X tg l (iSeq X.K tl) := by
  refine ⟨fun pins s σ H R I h => ?_⟩
  refine thn (hl.run pins s σ H _ I h) fun v s1 ⟨x, H1, I1, r1, q1⟩ => ?_
  obtain ⟨k, a, xs, e, hq, q⟩ := q1
  subst e
  cases r1
  cases k with
  | true =>
    obtain ⟨its, rv, p, hz⟩ := I1.list hq
    refine wpAny_pyIter_list p.isList ?_
    refine ⟨s1.heap.objs.size, [s1.heap.objs.size], _, _, H1, rfl, I1.kept (t' := s1.toks) fun b o e => Heap.get?_push_of_some _ e, turn_list a _, ⟨_, Heap.get?_push_size _ rfl, rfl, rfl⟩, fun b hb => ?_, q⟩
    have e : b = s1.heap.objs.size := by simpa using hb
    subst e
    exact I1.fpOk (Nat.le_refl _) (I1.hok.fresh (Nat.le_refl _))
  | false =>
    obtain ⟨its, rv, p, hz⟩ := I1.tuple hq
    refine wpAny_pyIter_tuple (show s1.heap.IsTuple a its.toArray from p) ?_
    refine ⟨s1.heap.objs.size, [s1.heap.objs.size], _, _, H1, rfl, I1.kept (t' := s1.toks) fun b o e => Heap.get?_push_of_some _ e, turn_tuple a _, ⟨_, Heap.get?_push_size _ rfl, rfl, rfl⟩, fun b hb => ?_, q⟩
    have e : b = s1.heap.objs.size := by simpa using hb
    subst e
    exact I1.fpOk (Nat.le_refl _) (I1.hok.fresh (Nat.le_refl _))
theorem walk_seq {K : PySem.W.Frag} {k : Bool} {a : Addr} {xs : List V} : Walk (match k with | true => Itl K a | false => Itt K a) xs.length (fun H => Sqk K k H a xs) (YAt xs) := by
  cases k with
  | true => exact walk_list
  | false => exact walk_tup
def iZ2 (K : PySem.W.Frag) (ta : TA) : TI := fun σ H R => ta σ H fun vs H1 => ∃ (k1 k2 : Bool) (a b : Addr) (xs ys : List V), vs = [.ref a, .ref b] ∧ Sqk K k1 H1 a xs ∧ Sqk K k2 H1 b ys ∧ R (Iz2 K k1 k2 a b) H1
def iZ3 (K : PySem.W.Frag) (ta : TA) : TI := fun σ H R => ta σ H fun vs H1 => ∃ (k1 k2 k3 : Bool) (a b c : Addr) (xs ys zs : List V), vs = [.ref a, .ref b, .ref c] ∧ Sqk K k1 H1 a xs ∧ Sqk K k2 H1 b ys ∧ Sqk K k3 H1 c zs ∧ R (Iz3 K k1 k2 k3 a b c) H1
theorem pi_z2 {X : Cx} {e e2 : Expr} {ta : TA} {p pos tpos : Pos} {elts : List Expr} {kk : Nat} (hg : Gl X "zip") (hm : X.mg "zip" = none) (ha : PA X [e, e2] ta)
    (hs : starEach [e, e2] X.env = (false, eval e X.env) :: starEach [e2] X.env := by rfl) (hpl : (backTo pos (starEach [e2] X.env)).any (·.1) = false := by rfl) :
    PI X (.Tuple elts kk tpos) (.Call (.Name "zip" p) [e, e2] [] pos) (iZ2 X.K ta) := by
  refine ⟨fun pins s σ H R I h => ?_⟩
  refine Call_ (ld_blt I hg hm PyProof.Rows.boot_zip (PyProof.Rows.callWith_type1 (thn (ha.run pos pins s σ H _ I h) fun us s1 ⟨vs, H1, I1, r1, q1⟩ => ?_) hs hpl))
  obtain ⟨k1, k2, a, b, xs, ys, ex, hqx, hqy, q⟩ := q1
  subst ex
  cases r1 with
  | cons r rr =>
    cases rr with
    | cons r' rr =>
      cases rr
      cases r
      cases r'
      obtain ⟨its, rv, p1⟩ := invK I1 hqx
      obtain ⟨its2, rv2, p2⟩ := invK I1 hqy
      have la : a < s1.heap.objs.size := p1.lt
      have lb : b < s1.heap.objs.size := p2.lt
      refine zip_begins2 (begK k1 a its.toArray) (begK k2 b its2.toArray) p1 p2 fun h' hz hTI hTO h1 h2 hsz hk => wpAny_pyIter_zip hz ?_
      have I2 : Inv X pins σ H1 { s1 with heap := h' } := I1.kept (t' := s1.toks) hk
      refine ⟨s1.heap.objs.size + 4, [s1.heap.objs.size + 4, s1.heap.objs.size + 2, s1.heap.objs.size + 3, s1.heap.objs.size, s1.heap.objs.size + 1], _, _, H1, rfl, I2, turn_z2 (zip_sep2 (fun b hb => by simp at hb; rw [hb]; exact la) (fun b hb => by simp at hb; rw [hb]; exact lb)) (Nat.ne_of_lt la) (Nat.ne_of_lt (Nat.lt_succ_of_lt lb)), ⟨hz, hTI, ⟨_, _, hTO⟩, ItK.new h1, ItK.new h2⟩, fun c hcm => ?_, q⟩
      have e' : c = s1.heap.objs.size + 4 ∨ c = s1.heap.objs.size + 2 ∨ c = s1.heap.objs.size + 3 ∨ c = s1.heap.objs.size ∨ c = s1.heap.objs.size + 1 := by simpa using hcm
      have hle : s1.heap.objs.size ≤ c := by
        rcases e' with z | z | z | z | z
        · rw [z]; exact Nat.le_add_right _ _
        · rw [z]; exact Nat.le_add_right _ _
        · rw [z]; exact Nat.le_add_right _ _
        · rw [z]; exact Nat.le_refl _
        · rw [z]; exact Nat.le_add_right _ _
      exact I1.fpOk hle (I1.hok.fresh hle)
theorem pi_z3 {X : Cx} {e e2 e3 : Expr} {ta : TA} {p pos tpos : Pos} {elts : List Expr} {kk : Nat} (hg : Gl X "zip") (hm : X.mg "zip" = none) (ha : PA X [e, e2, e3] ta)
    (hs : starEach [e, e2, e3] X.env = (false, eval e X.env) :: starEach [e2, e3] X.env := by rfl) (hpl : (backTo pos (starEach [e2, e3] X.env)).any (·.1) = false := by rfl) :
    PI X (.Tuple elts kk tpos) (.Call (.Name "zip" p) [e, e2, e3] [] pos) (iZ3 X.K ta) := by
  refine ⟨fun pins s σ H R I h => ?_⟩
  refine Call_ (ld_blt I hg hm PyProof.Rows.boot_zip (PyProof.Rows.callWith_type1 (thn (ha.run pos pins s σ H _ I h) fun us s1 ⟨vs, H1, I1, r1, q1⟩ => ?_) hs hpl))
  obtain ⟨k1, k2, k3, a, b, c, xs, ys, zs, ex, hqx, hqy, hqz, q⟩ := q1
  subst ex
  cases r1 with
  | cons r rr =>
    cases rr with
    | cons r' rr =>
      cases rr with
      | cons r'' rr =>
        cases rr
        cases r
        cases r'
        cases r''
        obtain ⟨its, rv, p1⟩ := invK I1 hqx
        obtain ⟨its2, rv2, p2⟩ := invK I1 hqy
        obtain ⟨its3, rv3, p3⟩ := invK I1 hqz
        have la : a < s1.heap.objs.size := p1.lt
        have lb : b < s1.heap.objs.size := p2.lt
        have lc : c < s1.heap.objs.size := p3.lt
        refine zip_begins3 (begK k1 a its.toArray) (begK k2 b its2.toArray) (begK k3 c its3.toArray) p1 p2 p3 fun h' hz hTI hTO h1 h2 h3 hsz hk => wpAny_pyIter_zip hz ?_
        have I2 : Inv X pins σ H1 { s1 with heap := h' } := I1.kept (t' := s1.toks) hk
        refine ⟨s1.heap.objs.size + 5, [s1.heap.objs.size + 5, s1.heap.objs.size + 3, s1.heap.objs.size + 4, s1.heap.objs.size, s1.heap.objs.size + 1, s1.heap.objs.size + 2], _, _, H1, rfl, I2, turn_z3 (zip_sep3 (fun b hb => by simp at hb; rw [hb]; exact la) (fun b hb => by simp at hb; rw [hb]; exact lb) (fun b hb => by simp at hb; rw [hb]; exact lc)) (Nat.ne_of_lt la) (Nat.ne_of_lt (Nat.lt_succ_of_lt lb)) (Nat.ne_of_lt (Nat.lt_succ_of_lt (Nat.lt_succ_of_lt lc))), ⟨hz, hTI, ⟨_, _, _, hTO⟩, ItK.new h1, ItK.new h2, ItK.new h3⟩, fun c hcm => ?_, q⟩
        have e' : c = s1.heap.objs.size + 5 ∨ c = s1.heap.objs.size + 3 ∨ c = s1.heap.objs.size + 4 ∨ c = s1.heap.objs.size ∨ c = s1.heap.objs.size + 1 ∨ c = s1.heap.objs.size + 2 := by simpa using hcm
        have hle : s1.heap.objs.size ≤ c := by
          rcases e' with z | z | z | z | z | z
          · rw [z]; exact Nat.le_add_right _ _
          · rw [z]; exact Nat.le_add_right _ _
          · rw [z]; exact Nat.le_add_right _ _
          · rw [z]; exact Nat.le_refl _
          · rw [z]; exact Nat.le_add_right _ _
          · rw [z]; exact Nat.le_add_right _ _
        exact I1.fpOk hle (I1.hok.fresh hle)
/-- a new triple -/
def YTrip (xs ys zs : Nat → Option V) : Nat → Hp → V → Hp → Prop := fun i H v H' => ∃ T x y z, v = .ref T ∧ H T = none ∧ H' = upd H T (.tup [x, y, z]) ∧ xs i = some x ∧ ys i = some y ∧ zs i = some z
section
variable {K : PySem.W.Frag} {k1 k2 k3 : Bool} {a b c : Addr} {xs ys zs : List V}
theorem walk_z2 (hl : xs.length = ys.length) : Walk (Iz2 K k1 k2 a b) xs.length (fun H => Sqk K k1 H a xs ∧ Sqk K k2 H b ys) (YPair (fun i => xs[i]?) (fun i => ys[i]?)) := by
  refine ⟨fun i _ hi q => ?_, fun _ q => ⟨xs, ys, q.1, q.2, hl, rfl⟩, fun i H v H' _ q y => ?_⟩
  · have h2 : i < ys.length := by omega
    exact ⟨xs, ys, xs[i], ys[i], q.1, q.2, by simp [hi], by simp [h2]⟩
  · obtain ⟨T, x, z, h1, h2, h3, h4, h5⟩ := y
    exact ⟨T, x, z, h1, h2, h3, h4 xs q.1, h5 ys q.2⟩
theorem walk_z3 (hl : xs.length = ys.length) (hl2 : ys.length = zs.length) : Walk (Iz3 K k1 k2 k3 a b c) xs.length (fun H => Sqk K k1 H a xs ∧ Sqk K k2 H b ys ∧ Sqk K k3 H c zs) (YTrip (fun i => xs[i]?) (fun i => ys[i]?) (fun i => zs[i]?)) := by
  refine ⟨fun i _ hi q => ?_, fun _ q => ⟨xs, ys, zs, q.1, q.2.1, q.2.2, hl, hl2, rfl⟩, fun i H v H' _ q y => ?_⟩
  · have h2 : i < ys.length := by omega
    have h3 : i < zs.length := by omega
    exact ⟨xs, ys, zs, xs[i], ys[i], zs[i], q.1, q.2.1, q.2.2, by simp [hi], by simp [h2], by simp [h3]⟩
  · obtain ⟨T, x, z, v, h1, h2, h3, h4, h5, h6⟩ := y
    exact ⟨T, x, z, v, h1, h2, h3, h4 xs q.1, h5 ys q.2.1, h6 zs q.2.2⟩
end
end Cs

namespace Cs
open PySem PySem.Spec PyProof.Rows L2

/-! ### keywords -/
section
variable {X : Cx} {CX : CXT} {k n : Nat} {f C : Addr} {fd : FuncData} {ps ks : List Str} {sp : Sp} {E : XK} {x m : Str} {p pos apos : Pos} {e o : Expr} {es : List Expr} {kws : List Keyword} {ta : TE} {t tk : TA} {g : List Value → List Value → List Value} {gV : List V → List V → List V}
def tMethK (C : Addr) (m : Str) (n j : Nat) (sp : Sp) (gV : List V → List V → List V) (E : XK) (ta : TE) (t tk : TA) : TE := fun σ H Q => ta σ H fun x H1 => ∃ a dx fs, x = .ref a ∧ H1 a = some (.ins C dx fs) ∧ fs.lookup m = none ∧
  t σ H1 fun vs H2 => tk σ H2 fun zs H3 => vs.length = n ∧ zs.length = j ∧ sp (gV (x :: vs) zs) H3 Q E
theorem pe_methK0 {pl : Sem Bool} (he : PE X o ta) (c : Cls X.K C) (hm : Meth X.K C m f) (F : FnOk X.prog X.w X.K X.mg X.base CX k f fd ps sp) (hr : Room k X.A) (hb : KBn X.K fd ps 1 ks g gV) (hx : Passes CX X E) (hkw : PK X kws tk)
    (hall : (backToKw pos (keywordEach kws X.env)).all (·.1.isSome) = true := by rfl) (hks : (backToKw pos (keywordEach kws X.env)).filterMap (·.1) = ks := by rfl)
    (hpl : ((backTo pos (starEach [] X.env)).any (·.1) || (backToKw pos (keywordEach kws X.env)).any (·.1.isNone)) = false := by rfl)
    (ht : eval (.Call (.Attribute o m apos) [] kws pos) X.env = (do
      let ov ← eval o X.env
      standAt apos.atName
      let (f, first) ← holding [ov] (getMethod ov m pl)
      callWith pos f first (backTo pos (starEach [] X.env)) (backToKw pos (keywordEach kws X.env))) := by rfl) :
    PE X (.Call (.Attribute o m apos) [] kws pos) (tMethK C m 0 ks.length sp gV E ta tNil tk) := by
  refine ⟨fun pins s σ H Q I h => ?_⟩
  refine PySem.W.methodCall_KW (pl := pl) (thn (he.run pins s σ H _ I h) fun u s1 ⟨x, H1, I1, rx, a, dx, fs, ex, ea, l, q⟩ => ?_) ht
  subst ex
  obtain rfl : u = Value.ref a := rx
  refine getmeth_ok I1 ea c hm l ?_
  refine PySem.W.callWith_KW0 (h₀ := X.base) (first := [.ref a]) I1.ok.mod.kin hm.kp hall ?_ hpl
  refine thn (hkw.run pos pins s1 σ H1 _ I1 q) fun ws s2 ⟨zs, H2, I2, rz, l1, l2, q2⟩ => ⟨I2.kIn, ?_⟩
  rw [hks]
  exact run_fnN (us := [.ref a]) (vs := [.ref a]) F hr hb hx I2 (.cons rfl .nil) rz rfl l2 q2
end

/-! ### list + list, the left one of any standing -/
theorem op_catS {X : Cx} : OpR X (binaryOp .Add) (fun x y H Q => ∃ l b xs zs, x = .ref l ∧ y = .ref b ∧ SqL X.K H l xs ∧ SqL X.K H b zs ∧ xs.length + zs.length ≤ sizeLine ∧ ∀ p, H p = none → Q (.ref p) (upd H p (.lst (xs ++ zs)))) := by
  intro pins s σ H x y v u Q I rx ry h
  obtain ⟨l, b, xs, zs, rfl, rfl, hH, hB, hz, q⟩ := h
  cases rx
  cases ry
  obtain ⟨its, r, p1, z⟩ := I.list hH
  obtain ⟨its2, r2, p2, z2⟩ := I.list hB
  have e1 := r.length
  have e2 := r2.length
  obtain ⟨⟨cls, dd, data, sl⟩, n, ho, hc, hs, hd⟩ := p1
  obtain ⟨⟨cls2, dd2, data2, sl2⟩, n2, ho2, hc2, hs2, hd2⟩ := p2
  simp only at hc hd hc2 hd2 hs hs2
  subst hc hd hc2 hd2 hs hs2
  have ea : its.toArray ++ its2.toArray = (its ++ its2).toArray := by simp
  refine concat_meets ⟨_, ho, rfl⟩ ⟨_, ho2, rfl⟩ noFill_list_add seq_list_add PySem.F.slot_list_add PySem.F.entry_list_add (PySem.F.args_list_add_2 _ _) (list_addW l b its.toArray its2.toArray n n2 none none sl sl2 (by simp only [List.size_toArray]; omega)) ⟨ho, ho2, ?_⟩
  rw [ea]
  exact ⟨.ref _, _, I.lnew (t' := s.toks) (r.append r2) (by rw [List.length_append]; omega), rfl, q _ I.fresh⟩

/-! ### heaps -/
theorem upd_old {H : Hp} {p q : Addr} {o : HO} (hp : H p = none) (hq : H q ≠ none) : upd H p o q = H q := upd_ne (fun e => hq (by rw [e]; exact hp))
/-- all that was tracked is as it was, but what stands at a -/
def Sx (a : Addr) (H H' : Hp) : Prop := ∀ b o, b ≠ a → H b = some o → H' b = some o
theorem Sx.refl {a : Addr} {H : Hp} : Sx a H H := fun _ _ _ h => h
theorem Sx.trans {a : Addr} {H H1 H2 : Hp} (x : Sx a H H1) (y : Sx a H1 H2) : Sx a H H2 := fun b o n h => y b o n (x b o n h)
theorem Sx.of {a : Addr} {H H' : Hp} (x : Same H H') : Sx a H H' := fun b o _ h => x b o h
theorem Sx.new {a p : Addr} {H : Hp} {o : HO} (hp : H p = none) : Sx a H (upd H p o) := fun b u _ h => by rw [upd_old hp (by rw [h]; simp)]; exact h
theorem Sx.put {a : Addr} {H : Hp} {o : HO} : Sx a H (upd H a o) := fun b u n h => by rw [upd_ne n]; exact h
theorem Same.new {p : Addr} {H : Hp} {o : HO} (hp : H p = none) : Same H (upd H p o) := fun b u h => by rw [upd_old hp (by rw [h]; simp)]; exact h
theorem Sx.same {a : Addr} {H H' : Hp} (x : Sx a H H') (h : H a = none) : Same H H' := fun b o e => x b o (fun z => by rw [z, h] at e; cases e) e
theorem ne_some {H : Hp} {p q : Addr} {o : HO} (hq : H q = some o) (hp : H p = none) : q ≠ p := fun e => by rw [e, hp] at hq; cases hq
theorem ne_two {H : Hp} {p q : Addr} {o u : HO} (hq : H q = some o) (hp : H p = some u) (d : o ≠ u) : q ≠ p := fun e => by rw [e, hp] at hq; exact d (Option.some.inj hq).symm

/-! ### comprehensions -/
section
variable {J : It} {n : Nat} {G : Hp → Prop} {Y : Nat → Hp → V → Hp → Prop}
/-- a comprehension without a test: Ia by the turn, what is made so far, and the heap; it does not look at the new list -/
theorem lc_gen (w : Walk J n G Y) {g : TG} {te : TE} {vs : List Nat} {σ : L2.St} {H1 : Hp} {D : Addr} {Qd : Hp → Prop} (Ia : Nat → List V → Hp → Prop) (hn : n ≤ sizeLine)
    (h0 : Ia 0 [] (upd H1 D (.lst []))) (hG : ∀ i acc H, i ≤ n → Ia i acc H → H D = some (.lst acc) → G H) (hst : ∀ i acc H l, Ia i acc H → H D ≠ none → Ia i acc (upd H D (.lst l)))
    (hs : ∀ i acc x H H' (Qy : VK), i < n → acc.length = i → Ia i acc H → H D = some (.lst acc) → Y i H x H' → (∀ y H4, H4 D = some (.lst acc) → Ia (i + 1) (acc ++ [y]) H4 → Qy y H4) → g x (wipe σ vs) H' fun σ2 H2 => wipe σ2 vs = wipe σ vs ∧ te σ2 H2 Qy)
    (hd : ∀ acc H, acc.length = n → Ia n acc H → H D = some (.lst acc) → Qd H) :
    ∃ W : Nat → Nat → Hp → Prop, (∃ m, W 0 m (upd H1 D (.lst []))) ∧ ∀ i m H, W i m H →
      (J.stop i H ∧ Qd H) ∨ (J.go i H ∧ ∃ Nx : Hp → Prop, (∀ H', Nx H' → ∃ m', m' < m ∧ W (i + 1) m' H') ∧ ∀ x H', J.yld i H x H' → g x (wipe σ vs) H' fun σ2 H2 => wipe σ2 vs = wipe σ vs ∧ tYes σ2 H2 fun b H3 =>
        if b = true then te σ2 H3 fun y H4 => ∃ acc, H4 D = some (.lst acc) ∧ acc.length < sizeLine ∧ Nx (upd H4 D (.lst (acc ++ [y]))) else Nx H3) := by
  refine lc_it w (fun i H => ∃ acc : List V, acc.length = i ∧ Ia i acc H ∧ H D = some (.lst acc)) ⟨[], rfl, h0, upd_same⟩ (fun i H hi ⟨acc, _, h, e⟩ => hG i acc H hi h e) (fun i x H H' hi ⟨acc, hl, h, e⟩ hy => ?_) (fun H ⟨acc, hl, h, e⟩ => hd acc H hl h e)
  refine hs i acc x H H' _ hi hl h e hy fun y H4 q1 q2 => ⟨acc, q1, by omega, acc ++ [y], by rw [List.length_append]; simp [hl], ?_, upd_same⟩
  exact hst _ _ _ _ q2 (by rw [q1]; simp)
/-- a comprehension that maps, and leaves all that was tracked as it was -/
theorem lc_map (w : Walk J n G Y) {g : TG} {te : TE} {vs : List Nat} {σ : L2.St} {H1 : Hp} {D : Addr} {Qd : Hp → Prop} (res : List V) (hl : res.length = n) (hn : n ≤ sizeLine) (hD : H1 D = none)
    (hG : ∀ H, Same H1 H → G H)
    (hs : ∀ i x H H' y (Qy : VK), i < n → Same H1 H → H D ≠ none → Y i H x H' → res[i]? = some y → (∀ H4, Same H' H4 → Qy y H4) → g x (wipe σ vs) H' fun σ2 H2 => wipe σ2 vs = wipe σ vs ∧ te σ2 H2 Qy)
    (hY : ∀ i x H H', Y i H x H' → Same H H')
    (hd : ∀ H, Same H1 H → H D = some (.lst res) → Qd H) :
    ∃ W : Nat → Nat → Hp → Prop, (∃ m, W 0 m (upd H1 D (.lst []))) ∧ ∀ i m H, W i m H →
      (J.stop i H ∧ Qd H) ∨ (J.go i H ∧ ∃ Nx : Hp → Prop, (∀ H', Nx H' → ∃ m', m' < m ∧ W (i + 1) m' H') ∧ ∀ x H', J.yld i H x H' → g x (wipe σ vs) H' fun σ2 H2 => wipe σ2 vs = wipe σ vs ∧ tYes σ2 H2 fun b H3 =>
        if b = true then te σ2 H3 fun y H4 => ∃ acc, H4 D = some (.lst acc) ∧ acc.length < sizeLine ∧ Nx (upd H4 D (.lst (acc ++ [y]))) else Nx H3) := by
  refine lc_gen w (fun i acc H => Same H1 H ∧ acc = res.take i) hn ⟨Same.new hD, by simp⟩ (fun i acc H _ h _ => hG H h.1) (fun i acc H l h _ => ⟨fun b o e => ?_, h.2⟩) (fun i acc x H H' Qy hi ha h e hy hq => ?_) (fun acc H ha h e => ?_)
  · rw [upd_ne (ne_some e hD)]
    exact h.1 b o e
  · have hi2 : i < res.length := by omega
    have hr : res[i]? = some res[i] := List.getElem?_eq_getElem hi2
    refine hs i x H H' res[i] Qy hi h.1 (by rw [e]; simp) hy hr fun H4 s4 => hq _ _ (s4 _ _ (hY _ _ _ _ hy _ _ e)) ⟨h.1.trans ((hY _ _ _ _ hy).trans s4), ?_⟩
    rw [h.2, List.take_add_one, hr]
    rfl
  · rw [h.2, ← hl, List.take_length] at e
    exact hd H h.1 e
end
theorem YAt.same {xs : List V} {i : Nat} {x : V} {H H' : Hp} (h : YAt xs i H x H') : Same H H' := by rw [h.1]; exact Same.refl _
theorem YPair.same {f g : Nat → Option V} {i : Nat} {x : V} {H H' : Hp} (h : YPair f g i H x H') : Same H H' := by
  obtain ⟨T, x, y, _, hT, rfl, _⟩ := h
  exact Same.new hT
theorem YTrip.same {f g k : Nat → Option V} {i : Nat} {x : V} {H H' : Hp} (h : YTrip f g k i H x H') : Same H H' := by
  obtain ⟨T, x, y, z, _, hT, rfl, _⟩ := h
  exact Same.new hT

/-! ### isinstance -/
/-- isinstance(x, c) is b -/
def IsI (K : PySem.W.Frag) (H : Hp) (x c : V) (b : Bool) : Prop := ∃ t u : Value, ClsV c u ∧ TyX K H x t ∧ PySem.W.kitOne K t u = some b
def rIsI (K : PySem.W.Frag) : List V → Hp → VK → Prop := fun vs H Q => ∃ x c b, vs = [x, c] ∧ IsI K H x c b ∧ Q (.bl b) H
theorem call_isI {X : Cx} : CallR X (.builtin "isinstance") (rIsI X.K) := by
  intro pins s σ H xs us Q I r h
  obtain ⟨x, c, b, rfl, ⟨t, u, h1, h2, h3⟩, q⟩ := h
  exact call_isi pins s σ H _ us Q I r ⟨x, c, t, u, b, rfl, h1, h2, h3, q⟩
/-- a value that is no object: its type's name -/
def tyN : V → Option String
  | .non => some "NoneType"
  | .bl _ => some "bool"
  | .int _ => some "int"
  | .str _ => some "str"
  | _ => none
theorem tyN_of {K : PySem.W.Frag} {H : Hp} {x : V} {t : Value} {n : String} (h : TyX K H x t) (e : tyN x = some n) : t = .type n := by
  cases h with
  | base b => cases b <;> simp [tyN] at e <;> subst e <;> rfl
  | byt b => simp [tyN] at e
  | set e' => simp [tyN] at e
  | kList e' _ => simp [tyN] at e
  | kTuple e' _ => simp [tyN] at e
  | kDict e' _ => simp [tyN] at e
  | fTuple e' => simp [tyN] at e
  | fDict e' => simp [tyN] at e
theorem isI_ty {K : PySem.W.Frag} {H : Hp} {x : V} {n : String} {c : String} {b : Bool} (ty : TyX K H x (.type n)) (h : kitB n c = some b) : IsI K H x (.ty c) b := ⟨_, _, .ty c, ty, kit_ty h⟩
theorem isI_iff {K : PySem.W.Frag} {H : Hp} {x : V} {n c : String} {b : Bool} {p : Bool → Prop} (e : tyN x = some n) (ty : TyX K H x (.type n)) (h : kitB n c = some b) : (∃ k, IsI K H x (.ty c) k ∧ p k) ↔ p b := by
  constructor
  · rintro ⟨k, ⟨t, u, hc, ht, hk⟩, q⟩
    have e1 := tyN_of ht e
    subst e1
    cases hc
    have e2 := hk.symm.trans (kit_ty (K := K) h)
    cases e2
    exact q
  · intro q
    exact ⟨b, isI_ty ty h, q⟩
section
variable {K : PySem.W.Frag} {H : Hp} {p : Bool → Prop}
theorem isI_int_int (n : Int) : (∃ k, IsI K H (.int n) (.ty "int") k ∧ p k) ↔ p true := isI_iff rfl (.base (.int n)) (by decide +kernel)
theorem isI_int_bool (n : Int) : (∃ k, IsI K H (.int n) (.ty "bool") k ∧ p k) ↔ p false := isI_iff rfl (.base (.int n)) (by decide +kernel)
theorem isI_bl_int (n : Bool) : (∃ k, IsI K H (.bl n) (.ty "int") k ∧ p k) ↔ p true := isI_iff rfl (.base (.bl n)) (by decide +kernel)
theorem isI_bl_bool (n : Bool) : (∃ k, IsI K H (.bl n) (.ty "bool") k ∧ p k) ↔ p true := isI_iff rfl (.base (.bl n)) (by decide +kernel)
theorem isI_str_str (n : Str) : (∃ k, IsI K H (.str n) (.ty "str") k ∧ p k) ↔ p true := isI_iff rfl (.base (.str n)) (by decide +kernel)
end
theorem isI_tup {K : PySem.W.Frag} {H : Hp} {a : Addr} {xs : List V} (h : H a = some (.tup xs)) : IsI K H (.ref a) (.ty "tuple") true := isI_ty (.base (.tup h)) (by decide +kernel)
theorem isI_lst {K : PySem.W.Frag} {H : Hp} {a : Addr} {xs : List V} (h : H a = some (.lst xs)) : IsI K H (.ref a) (.ty "list") true := isI_ty (.base (.lst h)) (by decide +kernel)
theorem isI_tup_list {K : PySem.W.Frag} {H : Hp} {a : Addr} {xs : List V} (h : H a = some (.tup xs)) : IsI K H (.ref a) (.ty "list") false := isI_ty (.base (.tup h)) (by decide +kernel)
theorem isI_lst_tup {K : PySem.W.Frag} {H : Hp} {a : Addr} {xs : List V} (h : H a = some (.lst xs)) : IsI K H (.ref a) (.ty "tuple") false := isI_ty (.base (.lst h)) (by decide +kernel)
/-- isinstance(x, (c1, c2)) is b -/
def IsA (K : PySem.W.Frag) (H : Hp) (x : V) (cs : List V) (b : Bool) : Prop := ∃ (t : Value) (us : List Value), Paired ClsV cs us ∧ TyX K H x t ∧ PySem.W.kitAny K t us = some b
def rIsA (K : PySem.W.Frag) : List V → Hp → VK → Prop := fun vs H Q => ∃ (x : V) (tp : Addr) (cs : List V) (b : Bool), vs = [x, .ref tp] ∧ H tp = some (.tup cs) ∧ IsA K H x cs b ∧ Q (.bl b) H
theorem call_isA {X : Cx} : CallR X (.builtin "isinstance") (rIsA X.K) := by
  intro pins s σ H xs us Q I r h
  obtain ⟨x, tp, cs, b, rfl, hT, ⟨t, ws, h1, h2, h3⟩, q⟩ := h
  exact call_isiT pins s σ H _ us Q I r ⟨x, tp, cs, t, ws, b, rfl, hT, h1, h2, h3, q⟩
theorem isA_two {K : PySem.W.Frag} {H : Hp} {x : V} {n c1 c2 : String} {b1 b2 b : Bool} (ty : TyX K H x (.type n)) (h1 : kitB n c1 = some b1) (h2 : kitB n c2 = some b2) (e : b = (b1 || b2)) : IsA K H x [.ty c1, .ty c2] b := by
  subst e
  refine ⟨_, [_, _], .cons (.ty c1) (.cons (.ty c2) .nil), ty, kitAny_cons (kit_ty h1) (fun e => ?_) fun e => by rw [e]; rfl⟩
  subst e
  exact kitAny_cons (kit_ty h2) (fun e => by subst e; exact kitAny_nil) fun e => by rw [e]; rfl

/-! ### data -/
theorem dpAll_ints {K : PySem.W.Frag} {H : Hp} : ∀ ns : List Int, DpAll K H (ns.map V.int) (ns.map PyData.int)
  | [] => .nil
  | n :: ns => .cons (.int n) (dpAll_ints ns)
theorem canLay_ints : ∀ ns : List Int, PyData.canLayAll0 (ns.map PyData.int) = true
  | [] => rfl
  | n :: ns => by
    show (PyData.canLay0 (.int n) && PyData.canLayAll0 (ns.map PyData.int)) = true
    rw [canLay_ints ns]
    rfl
theorem depth_ints : ∀ ns : List Int, PyData.depthAll (ns.map PyData.int) = 0
  | [] => rfl
  | n :: ns => by
    show max (PyData.depth (.int n)) (PyData.depthAll (ns.map PyData.int)) = 0
    rw [depth_ints ns]
    rfl
theorem eqvAll_ints : ∀ ns ms : List Int, PyData.eqvAll (ns.map PyData.int) (ms.map PyData.int) = decide (ns = ms)
  | [], [] => rfl
  | [], _ :: _ => rfl
  | _ :: _, [] => rfl
  | n :: ns, m :: ms => by
    show (PyData.eqv (.int n) (.int m) && PyData.eqvAll (ns.map PyData.int) (ms.map PyData.int)) = _
    rw [eqvAll_ints ns ms]
    show ((n == m) && decide (ns = ms)) = decide (n :: ns = m :: ms)
    by_cases h : n = m <;> by_cases h2 : ns = ms <;> simp [h, h2]
def tupI (ns : List Int) : PyData := .tuple (ns.map PyData.int)
theorem dp_tupI {K : PySem.W.Frag} {H : Hp} {a : Addr} {ns : List Int} (h : SqT K H a (ns.map V.int)) : Dp K H (.ref a) (tupI ns) := .tup h (dpAll_ints ns)
theorem eqv_tupI (ns ms : List Int) : PyData.eqv (tupI ns) (tupI ms) = decide (ns = ms) := eqvAll_ints ns ms
theorem shaped_tupI (ns : List Int) : SeqAt.shaped (tupI ns) = true := by
  have h1 : PyData.canLay0 (tupI ns) = true := canLay_ints ns
  have h2 : PyData.depth (tupI ns) ≤ 64 := by
    show PyData.depthAll (ns.map PyData.int) + 1 ≤ 64
    rw [depth_ints ns]
    decide
  unfold SeqAt.shaped
  rw [h1, decide_eq_true h2]
  rfl


/-! ### rules over what is tracked alone -/
section
variable {X : Cx}
theorem ix_lH : IxR X (fun x y H Q => ∃ p i, x = .ref p ∧ y = .int i ∧ ∃ xs, H p = some (.lst xs) ∧ ∃ v, atI xs i = some v ∧ Q v H) := by
  intro value slice pins s σ H x y v u Q I rx ry h hs
  obtain ⟨p, i, rfl, rfl, xs, hp, z, hz, q⟩ := h
  exact ix_list value slice pins s σ H _ _ v u Q I rx ry ⟨p, xs, i, z, rfl, rfl, .inl (.inl hp), hz, q⟩ hs
theorem ix_tH : IxR X (fun x y H Q => ∃ p i, x = .ref p ∧ y = .int i ∧ ∃ xs, H p = some (.tup xs) ∧ ∃ v, atI xs i = some v ∧ Q v H) := by
  intro value slice pins s σ H x y v u Q I rx ry h hs
  obtain ⟨p, i, rfl, rfl, xs, hp, z, hz, q⟩ := h
  exact ix_tup value slice pins s σ H _ _ v u Q I rx ry ⟨p, xs, i, z, rfl, rfl, .inl (.inl hp), hz, q⟩ hs
theorem set_lH : PSet X (fun o i v H Q => ∃ p k, o = .ref p ∧ i = .int k ∧ ∃ xs, H p = some (.lst xs) ∧ ∃ j, ixN xs.length k = some j ∧ Q (upd H p (.lst (xs.set j v)))) := by
  intro pins s σ H o i v ov iv u Q I ro ri rv h
  obtain ⟨p, k, e1, e2, xs, hp, j, hj, q⟩ := h
  exact set_list pins s σ H o i v ov iv u Q I ro ri rv ⟨p, xs, k, j, e1, e2, hp, hj, q⟩
theorem len_H : CallR X (.builtin "len") (fun vs H Q => ∃ p, vs = [.ref p] ∧ ((∃ ys, H p = some (.lst ys) ∧ Q (.int ys.length) H) ∨ ∃ ys, H p = some (.tup ys) ∧ Q (.int ys.length) H)) := by
  intro pins s σ H vs us Q I r h
  obtain ⟨p, e, h⟩ := h
  refine call_len_seq pins s σ H vs us Q I r ?_
  rcases h with ⟨ys, hp, q⟩ | ⟨ys, hp, q⟩
  · exact ⟨p, ys, e, .inl (.inl (.inl hp)), q⟩
  · exact ⟨p, ys, e, .inr (.inl (.inl hp)), q⟩
theorem tuple_H : CallR X (.type "tuple") (fun vs H Q => ∃ p, vs = [.ref p] ∧ ((∃ ys, H p = some (.lst ys) ∧ ∀ l, H l = none → Q (.ref l) (upd H l (.tup ys))) ∨ ∃ ys, H p = some (.tup ys) ∧ Q (.ref p) H)) := by
  intro pins s σ H vs us Q I r h
  obtain ⟨p, e, h⟩ := h
  refine call_tuple_of pins s σ H vs us Q I r ?_
  rcases h with ⟨ys, hp, q⟩ | ⟨ys, hp, q⟩
  · exact ⟨p, ys, e, .inl ⟨.inl (.inl hp), q⟩⟩
  · exact ⟨p, ys, e, .inr ⟨.inl (.inl hp), q⟩⟩
theorem list_H : CallR X (.type "list") (fun vs H Q => ∃ p, vs = [.ref p] ∧ ((∃ ys, H p = some (.lst ys) ∧ ∀ l, H l = none → Q (.ref l) (upd H l (.lst ys))) ∨ ∃ ys, H p = some (.tup ys) ∧ ∀ l, H l = none → Q (.ref l) (upd H l (.lst ys)))) := by
  intro pins s σ H vs us Q I r h
  obtain ⟨p, e, h⟩ := h
  refine call_list_of pins s σ H vs us Q I r ?_
  rcases h with ⟨ys, hp, q⟩ | ⟨ys, hp, q⟩
  · exact ⟨p, ys, e, .inl (.inl (.inl hp)), q⟩
  · exact ⟨p, ys, e, .inr (.inl (.inl hp)), q⟩
theorem all_H (hc : X.calm = true) : CallR X (.builtin "all") (fun vs H Q => ∃ p, vs = [.ref p] ∧ ∃ bs : List Bool, H p = some (.lst (bs.map V.bl)) ∧ Q (.bl (bs.all id)) H) := by
  intro pins s σ H vs us Q I r h
  obtain ⟨p, e, bs, hp, q⟩ := h
  exact cr_all hc pins s σ H vs us Q I r ⟨p, bs, e, .inl (.inl hp), q⟩
/-- a, b = t, t tracked -/
def gTupH (n : Nat) (t : TGs) : TG := fun v σ H Q => ∃ a, v = .ref a ∧ ∃ xs, H a = some (.tup xs) ∧ xs.length = n ∧ t xs σ H Q
theorem pg_tupH {es : List Expr} {k : Nat} {t : TGs} {n : Nat} {pos : Pos} (hc : X.calm = true) (h : PGs X es t)
    (hn : (assignEach es X.env).length = n := by rfl) (hst : (assignEach es X.env).findIdx? (·.1) = none := by rfl) : PG X (.Tuple es k pos) (gTupH n t) := by
  refine ⟨fun pins s σ H v u Q I r hw => ?_⟩
  obtain ⟨a, e1, xs, hq, hl, hw⟩ := hw
  exact (pg_tup hc h hn hst).run pins s σ H v u Q I r ⟨a, xs, e1, .inl (.inl hq), hl, hw⟩
/-- l.append(e) -/
def tAppend (to : TE) (t : TA) : TE := fun σ H Q => to σ H fun x H1 => ∃ p, x = .ref p ∧ ∃ xs, H1 p = some (.lst xs) ∧ t σ H1 fun vs H2 => ∃ y, vs = [y] ∧ ∃ ys, H2 p = some (.lst ys) ∧ ys.length < sizeLine ∧ Q .non (upd H2 p (.lst (ys ++ [y])))
theorem pe_append {o e : Expr} {to : TE} {t : TA} {apos cpos : Pos} (ho : PE X o to) (ha : PA X [e] t)
    (hbase : attributeBase o "append" X.env (eval o X.env) = eval o X.env := by rfl)
    (hfew : ((backTo cpos (starEach [e] X.env)).all (fun x => !x.1) && (backToKw cpos (keywordEach [] X.env)).all (fun x => x.1.isSome)
      && decide (([e] : List Expr).length + ([] : List Keyword).length + (if ([] : List Keyword).isEmpty then 0 else 1) < 30)) = true := by rfl)
    (hline : (apos.endLine == cpos.line) = true := by rfl) (hs : starEach [e] X.env = (false, eval e X.env) :: starEach [] X.env := by rfl) :
    PE X (.Call (.Attribute o "append" apos) [e] [] cpos) (tAppend to t) := by
  refine ⟨fun pins s σ H Q I h => ?_⟩
  refine wpAny_Call_method_late hbase hfew hline rfl (thn (ho.run pins s σ H _ I h) fun v s1 ⟨x, H1, I1, r1, p, ex, xs, hp, q1⟩ => ?_)
  subst ex
  have ty : tyV X.K "list" (.ref p) H1 := .inl ⟨rfl, xs, .inl (.inl hp)⟩
  obtain ⟨h1, h2⟩ := tyV_is I1 r1 ty
  refine ⟨"list", _, PySem.F.plainAttrs_list, PySem.F.slot_list_append, PySem.F.type_list_append, h1, h2, ?_⟩
  have hA := ha.run cpos pins s1 σ H1 _ I1 q1
  rw [hs] at hA ⊢
  refine Calls.callWith_builtin (by rfl) (Calls.evalArgs_plain ?_)
  refine thn hA fun us s2 ⟨vs, H2, I2, r2, y, e2, ys, hp2, hz, q2⟩ => ?_
  exact mt_append pins s2 σ H2 (.ref p) vs v us Q I2 r1 r2 ⟨p, ys, y, rfl, e2, hp2, hz, q2⟩
end
/-! ### loops and comprehensions, closed off -/
def LcR (J : It) (g : TG) (tt : TT) (te : TE) (vs : List Nat) (σ : L2.St) (H1 : Hp) (Q : VK) : Prop := ∀ D, H1 D = none → ∃ W : Nat → Nat → Hp → Prop, (∃ m, W 0 m (upd H1 D (.lst []))) ∧ ∀ i m H, W i m H →
  (J.stop i H ∧ Q (.ref D) H) ∨ (J.go i H ∧ ∃ Nx : Hp → Prop, (∀ H', Nx H' → ∃ m', m' < m ∧ W (i + 1) m' H') ∧ ∀ x H', J.yld i H x H' → g x (wipe σ vs) H' fun σ2 H2 => wipe σ2 vs = wipe σ vs ∧ tt σ2 H2 fun b H3 =>
    if b = true then te σ2 H3 fun y H4 => ∃ acc, H4 D = some (.lst acc) ∧ acc.length < sizeLine ∧ Nx (upd H4 D (.lst (acc ++ [y]))) else Nx H3)
theorem tLc_eq {wi : TI} {g : TG} {tt : TT} {te : TE} {vs : List Nat} {σ : L2.St} {H : Hp} {Q : VK} : tLc wi g tt te vs σ H Q = wi σ H fun J H1 => LcR J g tt te vs σ H1 Q := rfl
def ForR (J : It) (g : TG) (tb : TS) (D : Ends) (σ : L2.St) (H1 : Hp) : Prop := ∃ W : Nat → Nat → L2.St → Hp → Prop, (∃ m, W 0 m σ H1) ∧ ∀ i m σ H, W i m σ H →
  (J.stop i H ∧ D.nx σ H) ∨ (J.go i H ∧ ∃ N : L2.St → Hp → Prop, (∀ σ' H', N σ' H' → ∃ m', m' < m ∧ W (i + 1) m' σ' H') ∧ ∀ x H', J.yld i H x H' → g x σ H' fun σ2 H2 => tb { D with nx := N, ct := N, bk := D.nx } σ2 H2)
theorem tFor_eq {wi : TI} {g : TG} {tb : TS} {D : Ends} {σ : L2.St} {H : Hp} : tFor wi g tb D σ H = wi σ H fun J H1 => ForR J g tb D σ H1 := rfl
/-- what is walked, told by Walk alone -/
def iSeqH (tl : TE) : TI := fun σ H R => tl σ H fun x H1 => ∃ a, x = .ref a ∧ ((∃ xs, H1 a = some (.lst xs) ∧ ∀ J : It, Walk J xs.length (fun H => H a = some (.lst xs)) (YAt xs) → R J H1) ∨ ∃ xs, H1 a = some (.tup xs) ∧ ∀ J : It, Walk J xs.length (fun H => H a = some (.tup xs)) (YAt xs) → R J H1)
def iSeqS (K : PySem.W.Frag) (tl : TE) : TI := fun σ H R => tl σ H fun x H1 => ∃ (k : Bool) (a : Addr) (xs : List V), x = .ref a ∧ Sqk K k H1 a xs ∧ ∀ J : It, Walk J xs.length (fun H => Sqk K k H a xs) (YAt xs) → R J H1
theorem PI.mono {X : Cx} {tg it : Expr} {w w' : TI} (h : PI X tg it w) (m : ∀ σ H R, w' σ H R → w σ H R) : PI X tg it w' := ⟨fun pins s σ H R I q => h.run pins s σ H R I (m σ H R q)⟩
section
variable {X : Cx} {tg l : Expr} {tl : TE}
theorem pi_seqH (hl : PE X l tl) : PI X tg l (iSeqH tl) := by
  have h2 : PE X l fun σ H Q => tl σ H fun x H1 => Q x H1 := hl
  refine ⟨fun pins s σ H R I h => ?_⟩
  refine thn (hl.run pins s σ H _ I h) fun v s1 ⟨x, H1, I1, r1, q1⟩ => ?_
  obtain ⟨a, e, q⟩ := q1
  subst e
  have key : ∀ (k : Bool) (xs : List V), Sqk X.K k H1 a xs → R (match k with | true => Itl X.K a | false => Itt X.K a) H1 → wpAny (model X.prog X.w) X.A (pyIter v) (PIE X pins σ tg R) X.xe s1 := fun k xs hs hR => by
    cases r1
    cases k with
    | true =>
      obtain ⟨its, rv, p, hz⟩ := I1.list hs
      refine wpAny_pyIter_list p.isList ?_
      refine ⟨s1.heap.objs.size, [s1.heap.objs.size], _, _, H1, rfl, I1.kept (t' := s1.toks) fun b o e => Heap.get?_push_of_some _ e, turn_list a _, ⟨_, Heap.get?_push_size _ rfl, rfl, rfl⟩, fun b hb => ?_, hR⟩
      have e : b = s1.heap.objs.size := by simpa using hb
      subst e
      exact I1.fpOk (Nat.le_refl _) (I1.hok.fresh (Nat.le_refl _))
    | false =>
      obtain ⟨its, rv, p, hz⟩ := I1.tuple hs
      refine wpAny_pyIter_tuple (show s1.heap.IsTuple a its.toArray from p) ?_
      refine ⟨s1.heap.objs.size, [s1.heap.objs.size], _, _, H1, rfl, I1.kept (t' := s1.toks) fun b o e => Heap.get?_push_of_some _ e, turn_tuple a _, ⟨_, Heap.get?_push_size _ rfl, rfl, rfl⟩, fun b hb => ?_, hR⟩
      have e : b = s1.heap.objs.size := by simpa using hb
      subst e
      exact I1.fpOk (Nat.le_refl _) (I1.hok.fresh (Nat.le_refl _))
  rcases q with ⟨xs, hp, q⟩ | ⟨xs, hp, q⟩
  · exact key true xs (.inl (.inl hp)) (q _ (walk_list.mono (fun H h => .inl (.inl h)) fun _ _ _ _ _ _ y => y))
  · exact key false xs (.inl (.inl hp)) (q _ (walk_tup.mono (fun H h => .inl (.inl h)) fun _ _ _ _ _ _ y => y))
theorem pi_seqS (hl : PE X l tl) : PI X tg l (iSeqS X.K tl) := by
  refine ⟨fun pins s σ H R I h => ?_⟩
  refine thn (hl.run pins s σ H _ I h) fun v s1 ⟨x, H1, I1, r1, q1⟩ => ?_
  obtain ⟨k, a, xs, e, hs, q⟩ := q1
  subst e
  have hR := q _ walk_seq
  cases r1
  cases k with
  | true =>
    obtain ⟨its, rv, p, hz⟩ := I1.list hs
    refine wpAny_pyIter_list p.isList ?_
    refine ⟨s1.heap.objs.size, [s1.heap.objs.size], _, _, H1, rfl, I1.kept (t' := s1.toks) fun b o e => Heap.get?_push_of_some _ e, turn_list a _, ⟨_, Heap.get?_push_size _ rfl, rfl, rfl⟩, fun b hb => ?_, hR⟩
    have e : b = s1.heap.objs.size := by simpa using hb
    subst e
    exact I1.fpOk (Nat.le_refl _) (I1.hok.fresh (Nat.le_refl _))
  | false =>
    obtain ⟨its, rv, p, hz⟩ := I1.tuple hs
    refine wpAny_pyIter_tuple (show s1.heap.IsTuple a its.toArray from p) ?_
    refine ⟨s1.heap.objs.size, [s1.heap.objs.size], _, _, H1, rfl, I1.kept (t' := s1.toks) fun b o e => Heap.get?_push_of_some _ e, turn_tuple a _, ⟨_, Heap.get?_push_size _ rfl, rfl, rfl⟩, fun b hb => ?_, hR⟩
    have e : b = s1.heap.objs.size := by simpa using hb
    subst e
    exact I1.fpOk (Nat.le_refl _) (I1.hok.fresh (Nat.le_refl _))
end
/-- a list or a tuple, tracked -/
def Sqh (k : Bool) (H : Hp) (a : Addr) (xs : List V) : Prop := match k with
  | true => H a = some (.lst xs)
  | false => H a = some (.tup xs)
theorem Sqh.sqk {K : PySem.W.Frag} {k : Bool} {H : Hp} {a : Addr} {xs : List V} (h : Sqh k H a xs) : Sqk K k H a xs := by
  cases k with
  | true => exact .inl (.inl h)
  | false => exact .inl (.inl h)
theorem Sqh.same {k : Bool} {H H' : Hp} {a : Addr} {xs : List V} (e : Same H H') (h : Sqh k H a xs) : Sqh k H' a xs := by
  cases k with
  | true => exact e _ _ h
  | false => exact e _ _ h
def iZ2H (ta : TA) : TI := fun σ H R => ta σ H fun vs H1 => ∃ a b, vs = [.ref a, .ref b] ∧ ∃ (k1 k2 : Bool) (xs ys : List V), Sqh k1 H1 a xs ∧ Sqh k2 H1 b ys ∧ xs.length = ys.length ∧ ∀ J : It, Walk J xs.length (fun H => Sqh k1 H a xs ∧ Sqh k2 H b ys) (YPair (fun i => xs[i]?) (fun i => ys[i]?)) → R J H1
def iZ3H (ta : TA) : TI := fun σ H R => ta σ H fun vs H1 => ∃ a b c, vs = [.ref a, .ref b, .ref c] ∧ ∃ (k1 k2 k3 : Bool) (xs ys zs : List V), Sqh k1 H1 a xs ∧ Sqh k2 H1 b ys ∧ Sqh k3 H1 c zs ∧ xs.length = ys.length ∧ ys.length = zs.length ∧
  ∀ J : It, Walk J xs.length (fun H => Sqh k1 H a xs ∧ Sqh k2 H b ys ∧ Sqh k3 H c zs) (YTrip (fun i => xs[i]?) (fun i => ys[i]?) (fun i => zs[i]?)) → R J H1
theorem PA.weak {X : Cx} {es : List Expr} {t : TA} (h : PA X es t) {pos : Pos} {pins : List (Addr × Obj)} {s : Shared} {σ : L2.St} {H : Hp} {Q : List V → Hp → Prop} (I : Inv X pins σ H s) (q : t σ H Q) : wpAny (model X.prog X.w) X.A (spliced (backTo pos (starEach es X.env))) (AP X pins σ Q) X.xe s := h.run pos pins s σ H Q I q
/-- an argument list whose reading is asked for less -/
theorem PA.of {X : Cx} {es : List Expr} {t : TA} (h : PA X es t) (f : List V → Hp → (List V → Hp → Prop) → Prop) : PA X es fun σ H Q => t σ H fun vs H1 => Q vs H1 := h
section
variable {X : Cx} {e e2 e3 : Expr} {ta : TA} {p pos tpos : Pos} {elts : List Expr} {kk : Nat}
theorem pi_z2H (hg : Gl X "zip") (hm : X.mg "zip" = none) (ha : PA X [e, e2] ta)
    (hs : starEach [e, e2] X.env = (false, eval e X.env) :: starEach [e2] X.env := by rfl) (hpl : (backTo pos (starEach [e2] X.env)).any (·.1) = false := by rfl) :
    PI X (.Tuple elts kk tpos) (.Call (.Name "zip" p) [e, e2] [] pos) (iZ2H ta) := by
  refine ⟨fun pins s σ H R I h => ?_⟩
  let ta' : TA := fun σ H Q => ta σ H fun vs H1 => (∃ a b, vs = [.ref a, .ref b] ∧ ∃ (k1 k2 : Bool) (xs ys : List V), Sqh k1 H1 a xs ∧ Sqh k2 H1 b ys ∧ xs.length = ys.length ∧ ∀ J : It, Walk J xs.length (fun H => Sqh k1 H a xs ∧ Sqh k2 H b ys) (YPair (fun i => xs[i]?) (fun i => ys[i]?)) → R J H1) ∧ Q vs H1
  have ha' : PA X [e, e2] ta' := ⟨fun pos pins s σ H Q I q => thn (ha.run pos pins s σ H _ I q) fun us s1 ⟨vs, H1, I1, r1, _, q1⟩ => ⟨vs, H1, I1, r1, q1⟩⟩
  refine Call_ (ld_blt I hg hm PyProof.Rows.boot_zip (PyProof.Rows.callWith_type1 (thn (ha.run pos pins s σ H _ I h) fun us s1 ⟨vs, H1, I1, r1, q1⟩ => ?_) hs hpl))
  obtain ⟨a, b, ex, k1, k2, xs, ys, hqx, hqy, hl, q⟩ := q1
  subst ex
  have q := q (Iz2 X.K k1 k2 a b) ((walk_z2 (K := X.K) (k1 := k1) (k2 := k2) (a := a) (b := b) hl).mono (fun H h => ⟨h.1.sqk, h.2.sqk⟩) fun _ _ _ _ _ _ y => y)
  have hqx : Sqk X.K k1 H1 a xs := hqx.sqk
  have hqy : Sqk X.K k2 H1 b ys := hqy.sqk
  cases r1 with
  | cons r rr =>
    cases rr with
    | cons r' rr =>
      cases rr
      cases r
      cases r'
      obtain ⟨its, rv, p1⟩ := invK I1 hqx
      obtain ⟨its2, rv2, p2⟩ := invK I1 hqy
      have la : a < s1.heap.objs.size := p1.lt
      have lb : b < s1.heap.objs.size := p2.lt
      refine zip_begins2 (begK k1 a its.toArray) (begK k2 b its2.toArray) p1 p2 fun h' hz hTI hTO h1 h2 hsz hk => wpAny_pyIter_zip hz ?_
      have I2 : Inv X pins σ H1 { s1 with heap := h' } := I1.kept (t' := s1.toks) hk
      refine ⟨s1.heap.objs.size + 4, [s1.heap.objs.size + 4, s1.heap.objs.size + 2, s1.heap.objs.size + 3, s1.heap.objs.size, s1.heap.objs.size + 1], _, _, H1, rfl, I2, turn_z2 (zip_sep2 (fun b hb => by simp at hb; rw [hb]; exact la) (fun b hb => by simp at hb; rw [hb]; exact lb)) (Nat.ne_of_lt la) (Nat.ne_of_lt (Nat.lt_succ_of_lt lb)), ⟨hz, hTI, ⟨_, _, hTO⟩, ItK.new h1, ItK.new h2⟩, fun c hcm => ?_, q⟩
      have e' : c = s1.heap.objs.size + 4 ∨ c = s1.heap.objs.size + 2 ∨ c = s1.heap.objs.size + 3 ∨ c = s1.heap.objs.size ∨ c = s1.heap.objs.size + 1 := by simpa using hcm
      have hle : s1.heap.objs.size ≤ c := by
        rcases e' with z | z | z | z | z
        · rw [z]; exact Nat.le_add_right _ _
        · rw [z]; exact Nat.le_add_right _ _
        · rw [z]; exact Nat.le_add_right _ _
        · rw [z]; exact Nat.le_refl _
        · rw [z]; exact Nat.le_add_right _ _
      exact I1.fpOk hle (I1.hok.fresh hle)
theorem pi_z3H (hg : Gl X "zip") (hm : X.mg "zip" = none) (ha : PA X [e, e2, e3] ta)
    (hs : starEach [e, e2, e3] X.env = (false, eval e X.env) :: starEach [e2, e3] X.env := by rfl) (hpl : (backTo pos (starEach [e2, e3] X.env)).any (·.1) = false := by rfl) :
    PI X (.Tuple elts kk tpos) (.Call (.Name "zip" p) [e, e2, e3] [] pos) (iZ3H ta) := by
  refine ⟨fun pins s σ H R I h => ?_⟩
  refine Call_ (ld_blt I hg hm PyProof.Rows.boot_zip (PyProof.Rows.callWith_type1 (thn (ha.run pos pins s σ H _ I h) fun us s1 ⟨vs, H1, I1, r1, q1⟩ => ?_) hs hpl))
  obtain ⟨a, b, c, ex, k1, k2, k3, xs, ys, zs, hqx, hqy, hqz, hl, hl2, q⟩ := q1
  subst ex
  have q := q (Iz3 X.K k1 k2 k3 a b c) ((walk_z3 (K := X.K) (k1 := k1) (k2 := k2) (k3 := k3) (a := a) (b := b) (c := c) hl hl2).mono (fun H h => ⟨h.1.sqk, h.2.1.sqk, h.2.2.sqk⟩) fun _ _ _ _ _ _ y => y)
  have hqx : Sqk X.K k1 H1 a xs := hqx.sqk
  have hqy : Sqk X.K k2 H1 b ys := hqy.sqk
  have hqz : Sqk X.K k3 H1 c zs := hqz.sqk
  cases r1 with
  | cons r rr =>
    cases rr with
    | cons r' rr =>
      cases rr with
      | cons r'' rr =>
        cases rr
        cases r
        cases r'
        cases r''
        obtain ⟨its, rv, p1⟩ := invK I1 hqx
        obtain ⟨its2, rv2, p2⟩ := invK I1 hqy
        obtain ⟨its3, rv3, p3⟩ := invK I1 hqz
        have la : a < s1.heap.objs.size := p1.lt
        have lb : b < s1.heap.objs.size := p2.lt
        have lc : c < s1.heap.objs.size := p3.lt
        refine zip_begins3 (begK k1 a its.toArray) (begK k2 b its2.toArray) (begK k3 c its3.toArray) p1 p2 p3 fun h' hz hTI hTO h1 h2 h3 hsz hk => wpAny_pyIter_zip hz ?_
        have I2 : Inv X pins σ H1 { s1 with heap := h' } := I1.kept (t' := s1.toks) hk
        refine ⟨s1.heap.objs.size + 5, [s1.heap.objs.size + 5, s1.heap.objs.size + 3, s1.heap.objs.size + 4, s1.heap.objs.size, s1.heap.objs.size + 1, s1.heap.objs.size + 2], _, _, H1, rfl, I2, turn_z3 (zip_sep3 (fun b hb => by simp at hb; rw [hb]; exact la) (fun b hb => by simp at hb; rw [hb]; exact lb) (fun b hb => by simp at hb; rw [hb]; exact lc)) (Nat.ne_of_lt la) (Nat.ne_of_lt (Nat.lt_succ_of_lt lb)) (Nat.ne_of_lt (Nat.lt_succ_of_lt (Nat.lt_succ_of_lt lc))), ⟨hz, hTI, ⟨_, _, _, hTO⟩, ItK.new h1, ItK.new h2, ItK.new h3⟩, fun c hcm => ?_, q⟩
        have e' : c = s1.heap.objs.size + 5 ∨ c = s1.heap.objs.size + 3 ∨ c = s1.heap.objs.size + 4 ∨ c = s1.heap.objs.size ∨ c = s1.heap.objs.size + 1 ∨ c = s1.heap.objs.size + 2 := by simpa using hcm
        have hle : s1.heap.objs.size ≤ c := by
          rcases e' with z | z | z | z | z | z
          · rw [z]; exact Nat.le_add_right _ _
          · rw [z]; exact Nat.le_add_right _ _
          · rw [z]; exact Nat.le_add_right _ _
          · rw [z]; exact Nat.le_refl _
          · rw [z]; exact Nat.le_add_right _ _
          · rw [z]; exact Nat.le_add_right _ _
        exact I1.fpOk hle (I1.hok.fresh hle)
/-- range(n) -/
def iRng1H (ta : TA) : TI := fun σ H R => ta σ H fun vs H1 => ∃ j : Int, vs = [.int j] ∧ -(2 ^ 62) ≤ j ∧ j < 2 ^ 62 ∧ ∀ J : It, Walk J j.toNat (fun _ => True) (YFn fun i => .int (i : Nat)) → R J H1
theorem pi_range1H {a : Expr} {tg : Expr} (hg : Gl X "range") (hm : X.mg "range" = none) (ha : PA X [a] ta) (hs : starEach [a] X.env = [(false, eval a X.env)] := by rfl) : PI X tg (.Call (.Name "range" p) [a] [] pos) (iRng1H ta) := by
  refine ⟨fun pins s σ H R I h => ?_⟩
  have ha' : PA X [a] fun σ H Q => ta σ H fun vs H1 => (∃ j : Int, vs = [.int j] ∧ -(2 ^ 62) ≤ j ∧ j < 2 ^ 62 ∧ ∀ J : It, Walk J j.toNat (fun _ => True) (YFn fun i => .int (i : Nat)) → R J H1) ∧ ∀ j : Int, vs = [.int j] → -(2 ^ 62) ≤ j → j < 2 ^ 62 → R (Itr 0 j.toNat) H1 → Q vs H1 :=
    ⟨fun pos pins s σ H Q I q => thn (ha.run pos pins s σ H _ I q) fun us s1 ⟨vs, H1, I1, r1, ⟨j, ej, h1, h2, hR⟩, q1⟩ => ⟨vs, H1, I1, r1, q1 j ej h1 h2 (hR _ (walk_range.mono (fun _ _ => trivial) fun _ _ _ _ _ _ y => ⟨y.1, by rw [y.2]; show V.int _ = V.int _; rw [Int.zero_add]⟩))⟩⟩
  refine Call_ (ld_blt I hg hm boot_range (PyProof.Rows.callWith_type1 (thn (ha.run pos pins s σ H _ I h) fun us s1 ⟨vs, H1, I1, r1, q1⟩ => ?_) hs rfl))
  obtain ⟨j, e, q1, q2, q⟩ := q1
  subst e
  have q := q (Itr 0 j.toNat) (walk_range.mono (fun _ _ => trivial) fun _ _ _ _ _ _ y => ⟨y.1, by rw [y.2]; show V.int _ = V.int _; rw [Int.zero_add]⟩)
  cases r1 with
  | cons r rr =>
    cases rr
    obtain ⟨t, rfl⟩ := r
    exact call_range_1 (range_it I1 (by omega) (by omega) q1 q2 (by simpa using q))
end
/-- LcR by its lemmas -/
theorem lcr_map {J : It} {n : Nat} {G : Hp → Prop} {Y : Nat → Hp → V → Hp → Prop} (w : Walk J n G Y) {g : TG} {te : TE} {vs : List Nat} {σ : L2.St} {H1 : Hp} {Q : VK} (res : List V) (hl : res.length = n) (hn : n ≤ sizeLine)
    (hG : ∀ H, Same H1 H → G H) (hY : ∀ i x H H', Y i H x H' → Same H H')
    (hs : ∀ i x H H' y (Qy : VK), i < n → Same H1 H → Y i H x H' → res[i]? = some y → (∀ H4, Same H' H4 → Qy y H4) → g x (wipe σ vs) H' fun σ2 H2 => wipe σ2 vs = wipe σ vs ∧ te σ2 H2 Qy)
    (hd : ∀ D H, H1 D = none → Same H1 H → H D = some (.lst res) → Q (.ref D) H) : LcR J g tYes te vs σ H1 Q := fun D hD =>
  lc_map w res hl hn hD hG (fun i x H H' y Qy hi h1 _ hy hr hq => hs i x H H' y Qy hi h1 hy hr hq) hY fun H h1 h2 => hd D H hD h1 h2
theorem forr {J : It} {n : Nat} {G : Hp → Prop} {Y : Nat → Hp → V → Hp → Prop} (w : Walk J n G Y) {g : TG} {tb : TS} {D : Ends} {σ : L2.St} {H : Hp} (Pv : Nat → L2.St → Hp → Prop) (h0 : Pv 0 σ H) (hG : ∀ i σ H, i ≤ n → Pv i σ H → G H)
    (hs : ∀ i x σ H H', i < n → Pv i σ H → Y i H x H' → g x σ H' fun σ2 H2 => tb { D with nx := Pv (i + 1), ct := Pv (i + 1), bk := D.nx } σ2 H2) (hd : ∀ σ H, Pv n σ H → D.nx σ H) : ForR J g tb D σ H := for_it w Pv h0 hG hs hd
theorem map_bl_iff {bs : List Bool} {p : List Bool → Prop} : (∃ cs : List Bool, bs.map V.bl = cs.map V.bl ∧ p cs) ↔ p bs := by
  constructor
  · rintro ⟨cs, e, h⟩
    have inj : ∀ {a b : List Bool}, a.map V.bl = b.map V.bl → a = b := by
      intro a
      induction a with
      | nil => intro b h; cases b with | nil => rfl | cons _ _ => simp at h
      | cons x a ih => intro b h; cases b with
        | nil => simp at h
        | cons y b => simp only [List.map_cons, List.cons.injEq, V.bl.injEq] at h; rw [h.1, ih h.2]
    rw [inj e]; exact h
  · intro h; exact ⟨bs, rfl, h⟩

theorem sz_le {n : Nat} (h : n ≤ 1000) : (n ≤ sizeLine) = True := eq_true (Nat.le_trans h (by decide))
theorem op_inH {X : Cx} : OpR X (compareOp .In) (fun x y H Q => ∃ p, y = .ref p ∧ ∃ xs, H p = some (.tup xs) ∧ flatV x = true ∧ xs.all flatV = true ∧ Q (.bl (inV x xs)) H) := by
  intro pins s σ H x y v u Q I rx ry h
  obtain ⟨p, e, xs, hp, h1, h2, q⟩ := h
  exact op_in_seq pins s σ H x y v u Q I rx ry ⟨p, xs, e, .inr (.inl (.inl hp)), h1, h2, q⟩
theorem putF_one (f : Str) (v : V) : putF f v [] = [(f, v)] := rfl
theorem lookup_one (f : Str) (v : V) : List.lookup f [(f, v)] = some v := by simp [List.lookup]

/-- * of two ints, one of them below 2 ^ 64, or both together below a million bits -/
def CMulA (i j : Int) : Prop := i.natAbs < 2 ^ 64 ∨ j.natAbs < 2 ^ 64 ∨ CMulW i j
theorem op_mulA {X : Cx} : OpR X (binaryOp .Mult) (rI CMulA fun i j => .int (i * j)) := by
  intro pins s σ H x y v u Q I rx ry h
  obtain ⟨i, j, e1, e2, hc, q⟩ := h
  rcases hc with hc | hc | hc
  · exact op_mul pins s σ H x y v u Q I rx ry ⟨i, j, e1, e2, .inl ⟨by omega, by omega⟩, q⟩
  · exact op_mul pins s σ H x y v u Q I rx ry ⟨i, j, e1, e2, .inr ⟨by omega, by omega⟩, q⟩
  · exact op_mulW pins s σ H x y v u Q I rx ry ⟨i, j, e1, e2, hc, q⟩
theorem atI_0 {x : V} {xs : List V} : atI (x :: xs) 0 = some x := atI_nat (j := 0) rfl
theorem atI_1 {x y : V} {xs : List V} : atI (x :: y :: xs) 1 = some y := atI_nat (j := 1) rfl
theorem atI_2 {x y z : V} {xs : List V} : atI (x :: y :: z :: xs) 2 = some z := atI_nat (j := 2) rfl
theorem ixN_30 : ixN 3 0 = some 0 := rfl
theorem ixN_31 : ixN 3 1 = some 1 := rfl
theorem ixN_32 : ixN 3 2 = some 2 := rfl
theorem atI_in {xs : List V} {i : Int} (h0 : 0 ≤ i) (h1 : i < xs.length) : ∃ v, v ∈ xs ∧ atI xs i = some v := by
  obtain ⟨k, rfl⟩ := Int.eq_ofNat_of_zero_le h0
  have hk : k < xs.length := by omega
  exact ⟨xs[k], List.getElem_mem hk, atI_nat (List.getElem?_eq_getElem hk)⟩
theorem cpow_10 {j : Int} (h0 : 0 ≤ j) (h1 : j ≤ 1000000) : CPow 10 j = True := eq_true ⟨h0, h1, by decide⟩
theorem cdivW_small {i j : Int} (h : 0 < j) (h1 : j < 2 ^ 64) : CDivW i j = True := eq_true (wide_div h (b := 64) (by omega) (by decide) (by decide))
theorem Sx.free {a r : Addr} {H H1 : Hp} (h : Sx a H H1) (n : r ≠ a) (e : H1 r = none) : H r = none := by
  cases q : H r with
  | none => rfl
  | some o => rw [h r o n q] at e; cases e
theorem Sx.putN {a r : Addr} {H H1 : Hp} {o : HO} (h : Sx a H H1) (e : H r = none) : Sx a H (upd H1 r o) := fun b u n q => by
  rw [upd_ne (ne_some q e)]
  exact h b u n q
theorem scal_int (i j : Int) : scal (.int i) (.int j) = true := rfl
theorem scal_str (i j : Str) : scal (.str i) (.str j) = true := rfl
section
variable {K : PySem.W.Frag} {H : Hp} {a b c d e f : Addr} {ns ms ks ls : List Int} {Q : VK}
theorem neD_tup (h1 : H a = some (.tup (ns.map V.int))) (h2 : H b = some (.tup (ms.map V.int))) (q : Q (.bl (!decide (ns = ms))) H) : rNeD K (.ref a) (.ref b) H Q :=
  ⟨_, _, dp_tupI (.inl (.inl h1)), dp_tupI (.inl (.inl h2)), shaped_tupI _, shaped_tupI _, by rw [eqv_tupI]; exact q⟩
theorem eqD_tup (h1 : H a = some (.tup (ns.map V.int))) (h2 : H b = some (.tup (ms.map V.int))) (q : Q (.bl (decide (ns = ms))) H) : rEqD K (.ref a) (.ref b) H Q :=
  ⟨_, _, dp_tupI (.inl (.inl h1)), dp_tupI (.inl (.inl h2)), shaped_tupI _, shaped_tupI _, by rw [eqv_tupI]; exact q⟩
theorem depth_tupI (ns : List Int) : PyData.depth (tupI ns) = 1 := by
  show PyData.depthAll (ns.map PyData.int) + 1 = 1
  rw [depth_ints ns]
theorem shaped_two (ns ms : List Int) : SeqAt.shaped (.tuple [tupI ns, tupI ms]) = true := by
  have h1 : PyData.canLay0 (.tuple [tupI ns, tupI ms]) = true := by
    show (PyData.canLayAll0 (ns.map PyData.int) && (PyData.canLayAll0 (ms.map PyData.int) && true)) = true
    rw [canLay_ints, canLay_ints]
    rfl
  have h2 : PyData.depth (.tuple [tupI ns, tupI ms]) ≤ 64 := by
    show max (PyData.depth (tupI ns)) (max (PyData.depth (tupI ms)) 0) + 1 ≤ 64
    rw [depth_tupI, depth_tupI]
    decide
  unfold SeqAt.shaped
  rw [h1, decide_eq_true h2]
  rfl
theorem eqv_two (ns ms ks ls : List Int) : PyData.eqv (.tuple [tupI ns, tupI ms]) (.tuple [tupI ks, tupI ls]) = (decide (ns = ks) && decide (ms = ls)) := by
  show (PyData.eqv (tupI ns) (tupI ks) && (PyData.eqv (tupI ms) (tupI ls) && true)) = _
  rw [eqv_tupI, eqv_tupI, Bool.and_true]
/-- (t, u) != (v, w), four tuples of ints -/
theorem neD_two (h1 : H a = some (.tup [.ref c, .ref d])) (h2 : H b = some (.tup [.ref e, .ref f])) (hc : H c = some (.tup (ns.map V.int))) (hd : H d = some (.tup (ms.map V.int))) (he : H e = some (.tup (ks.map V.int))) (hf : H f = some (.tup (ls.map V.int)))
    (q : Q (.bl (!(decide (ns = ks) && decide (ms = ls)))) H) : rNeD K (.ref a) (.ref b) H Q :=
  ⟨.tuple [tupI ns, tupI ms], .tuple [tupI ks, tupI ls], .tup (.inl (.inl h1)) (.cons (dp_tupI (.inl (.inl hc))) (.cons (dp_tupI (.inl (.inl hd))) .nil)), .tup (.inl (.inl h2)) (.cons (dp_tupI (.inl (.inl he))) (.cons (dp_tupI (.inl (.inl hf))) .nil)), shaped_two _ _, shaped_two _ _, by rw [eqv_two]; exact q⟩
end
theorem Vals.getD {xs : List V} {us : List Value} (r : Vals xs us) (i : Nat) : RelV (xs.getD i .non) (us.getD i Value.none) := by
  rw [List.getD_eq_getElem?_getD, List.getD_eq_getElem?_getD]
  cases h : xs[i]? with
  | none => rw [L2.Vals.none_of r h]; rfl
  | some x =>
    obtain ⟨u, h2, h3⟩ := L2.Vals.get r h
    rw [h2]
    exact h3
theorem kbn_of {K : PySem.W.Frag} {x qual : Str} {st : Stmt} {f : Addr} {fd : FuncData} (F : Fun K x qual st f fd) (ps : List Str) (n : Nat) (ks : List Str) (g : List Value → List Value → List Value) (gV : List V → List V → List V)
    (h : ∀ (kV doc pm : Value) (an : Option Addr) (cdv ct : Value) (us ws : List Value), us.length = n → ws.length = ks.length → bindArgs (PySem.W.fnOf x qual (defArgs st) (defBody st) (defScope st) .none kV doc pm an cdv ct) ⟨us, ks.zip ws⟩ = pure (ps.zip (g us ws)))
    (rel : ∀ {vs : List V} {us : List Value} {zs : List V} {ws : List Value}, Vals vs us → Vals zs ws → Vals (gV vs zs) (g us ws)) : KBn K fd ps n ks g gV := by
  obtain ⟨oc, od, kV, doc, pm, an, cdv, ct, osl, rfl, lk, hcd⟩ := F.ex
  exact ⟨fun s us ws X l1 l2 => .of_eq (h kV doc pm an cdv ct us ws l1 l2), rel⟩

/-! ### a comprehension with two clauses, closed off -/
/-- the second clause's loop -/
def Lc1R (J1 : It) (g1 : TG) (tt1 : TT) (te : TE) (vs1 : List Nat) (D : Addr) (σ2 : L2.St) (H4 : Hp) (Nx : Hp → Prop) : Prop := ∃ W1 : Nat → Nat → Hp → Prop, (∃ m, W1 0 m H4) ∧ ∀ j k H, W1 j k H →
  (J1.stop j H ∧ Nx H) ∨ (J1.go j H ∧ ∃ Nx1 : Hp → Prop, (∀ H', Nx1 H' → ∃ k', k' < k ∧ W1 (j + 1) k' H') ∧ ∀ x H', J1.yld j H x H' → g1 x (wipe σ2 vs1) H' fun σ3 H5 => wipe σ3 vs1 = wipe σ2 vs1 ∧ tt1 σ3 H5 fun b H6 =>
    if b = true then te σ3 H6 fun y H7 => ∃ acc, H7 D = some (.lst acc) ∧ acc.length < sizeLine ∧ Nx1 (upd H7 D (.lst (acc ++ [y]))) else Nx1 H6)
def Lc2R (J : It) (g : TG) (tt : TT) (wi1 : TI) (g1 : TG) (tt1 : TT) (te : TE) (vs vs1 : List Nat) (σ : L2.St) (H1 : Hp) (Q : VK) : Prop := ∀ D, H1 D = none → ∃ W : Nat → Nat → Hp → Prop, (∃ m, W 0 m (upd H1 D (.lst []))) ∧ ∀ i m H, W i m H →
  (J.stop i H ∧ Q (.ref D) H) ∨ (J.go i H ∧ ∃ Nx : Hp → Prop, (∀ H', Nx H' → ∃ m', m' < m ∧ W (i + 1) m' H') ∧ ∀ x H', J.yld i H x H' → g x (wipe σ vs) H' fun σ2 H2 => wipe σ2 vs = wipe σ vs ∧ tt σ2 H2 fun b H3 =>
    if b = true then wi1 σ2 H3 fun J1 H4 => Lc1R J1 g1 tt1 te vs1 D σ2 H4 Nx else Nx H3)
theorem tLc2_eq {wi : TI} {g : TG} {tt : TT} {wi1 : TI} {g1 : TG} {tt1 : TT} {te : TE} {vs vs1 : List Nat} {σ : L2.St} {H : Hp} {Q : VK} : tLc2 wi g tt wi1 g1 tt1 te vs vs1 σ H Q = wi σ H fun J H1 => Lc2R J g tt wi1 g1 tt1 te vs vs1 σ H1 Q := rfl
/-- the second clause's loop by an invariant of the turn, what is made so far and the heap -/
theorem lc1_gen {J1 : It} {n : Nat} {G : Hp → Prop} {Y : Nat → Hp → V → Hp → Prop} (w : Walk J1 n G Y) {g1 : TG} {te : TE} {vs1 : List Nat} {D : Addr} {σ2 : L2.St} {H4 : Hp} {Nx : Hp → Prop} (Ia : Nat → List V → Hp → Prop)
    (h0 : ∃ acc, Ia 0 acc H4 ∧ H4 D = some (.lst acc)) (hG : ∀ j acc H, j ≤ n → Ia j acc H → H D = some (.lst acc) → G H) (hst : ∀ j acc H l l0, Ia j acc H → H D = some (.lst l0) → Ia j acc (upd H D (.lst l))) (hz : ∀ j acc H, Ia j acc H → acc.length < sizeLine)
    (hs : ∀ j acc x H H' (Qy : VK), j < n → Ia j acc H → H D = some (.lst acc) → Y j H x H' → (∀ y H7, H7 D = some (.lst acc) → Ia (j + 1) (acc ++ [y]) H7 → Qy y H7) → g1 x (wipe σ2 vs1) H' fun σ3 H5 => wipe σ3 vs1 = wipe σ2 vs1 ∧ te σ3 H5 Qy)
    (hd : ∀ acc H, Ia n acc H → H D = some (.lst acc) → Nx H) : Lc1R J1 g1 tYes te vs1 D σ2 H4 Nx := by
  obtain ⟨acc0, i0, e0⟩ := h0
  refine ⟨fun j k H => k = n - j ∧ j ≤ n ∧ ∃ acc : List V, Ia j acc H ∧ H D = some (.lst acc), ⟨n, by simp, Nat.zero_le _, acc0, i0, e0⟩, ?_⟩
  rintro j k H ⟨rfl, hj, acc, hI, e⟩
  have q := hG j acc H hj hI e
  by_cases hlt : j < n
  · refine .inr ⟨w.goes j H hlt q, fun H' => ∃ acc : List V, Ia (j + 1) acc H' ∧ H' D = some (.lst acc), fun H' ⟨acc', h1, h2⟩ => ⟨n - (j + 1), by omega, rfl, hlt, acc', h1, h2⟩, fun x H' y => ?_⟩
    exact hs j acc x H H' _ hlt hI e (w.yields j H x H' hlt q y) fun y H7 e7 h7 => ⟨acc, e7, hz j acc H hI, acc ++ [y], hst _ _ _ _ _ h7 e7, upd_same⟩
  · have en : j = n := by omega
    subst en
    exact .inl ⟨w.stops H q, hd acc H hI e⟩
theorem lc2_gen {J : It} {n : Nat} {G : Hp → Prop} {Y : Nat → Hp → V → Hp → Prop} (w : Walk J n G Y) {g : TG} {wi1 : TI} {g1 : TG} {te : TE} {vs vs1 : List Nat} {σ : L2.St} {H1 : Hp} {Q : VK} (Ia : Addr → Nat → List V → Hp → Prop)
    (h0 : ∀ D, H1 D = none → Ia D 0 [] (upd H1 D (.lst []))) (hG : ∀ D i acc H, H1 D = none → i ≤ n → Ia D i acc H → H D = some (.lst acc) → G H)
    (hs : ∀ D i acc x H H' (Nx : Hp → Prop), H1 D = none → i < n → Ia D i acc H → H D = some (.lst acc) → Y i H x H' → (∀ acc' H7, H7 D = some (.lst acc') → Ia D (i + 1) acc' H7 → Nx H7) → g x (wipe σ vs) H' fun σ2 H2 => wipe σ2 vs = wipe σ vs ∧ wi1 σ2 H2 fun J1 H4 => Lc1R J1 g1 tYes te vs1 D σ2 H4 Nx)
    (hd : ∀ D acc H, H1 D = none → Ia D n acc H → H D = some (.lst acc) → Q (.ref D) H) : Lc2R J g tYes wi1 g1 tYes te vs vs1 σ H1 Q := fun D hD => by
  refine ⟨fun i k H => k = n - i ∧ i ≤ n ∧ ∃ acc : List V, Ia D i acc H ∧ H D = some (.lst acc), ⟨n, by simp, Nat.zero_le _, [], h0 D hD, upd_same⟩, ?_⟩
  rintro i k H ⟨rfl, hi, acc, hI, e⟩
  have q := hG D i acc H hD hi hI e
  by_cases hlt : i < n
  · refine .inr ⟨w.goes i H hlt q, fun H' => ∃ acc : List V, Ia D (i + 1) acc H' ∧ H' D = some (.lst acc), fun H' ⟨acc', h1, h2⟩ => ⟨n - (i + 1), by omega, rfl, hlt, acc', h1, h2⟩, fun x H' y => ?_⟩
    exact hs D i acc x H H' _ hD hlt hI e (w.yields i H x H' hlt q y) fun acc' H7 e7 h7 => ⟨acc', h7, e7⟩
  · have en : i = n := by omega
    subst en
    exact .inl ⟨w.stops H q, hd D acc H hD hI e⟩
/-- a comprehension with a test: Ia by the turn, what is made so far, and the heap -/
theorem lcr_if {J : It} {n : Nat} {G : Hp → Prop} {Y : Nat → Hp → V → Hp → Prop} (w : Walk J n G Y) {g : TG} {tt : TT} {te : TE} {vs : List Nat} {σ : L2.St} {H1 : Hp} {Q : VK} (Ia : Addr → Nat → List V → Hp → Prop) (hn : n < sizeLine)
    (h0 : ∀ D, H1 D = none → Ia D 0 [] (upd H1 D (.lst []))) (hG : ∀ D i acc H, H1 D = none → i ≤ n → Ia D i acc H → H D = some (.lst acc) → G H) (hst : ∀ D i acc H l, H1 D = none → Ia D i acc H → H D ≠ none → Ia D i acc (upd H D (.lst l)))
    (hs : ∀ D i acc x H H' (Qn : Hp → Prop) (Qy : VK), H1 D = none → i < n → Ia D i acc H → H D = some (.lst acc) → Y i H x H' → (∀ H4, H4 D = some (.lst acc) → Ia D (i + 1) acc H4 → Qn H4) → (∀ y H4, H4 D = some (.lst acc) → Ia D (i + 1) (acc ++ [y]) H4 → Qy y H4) →
      g x (wipe σ vs) H' fun σ2 H2 => wipe σ2 vs = wipe σ vs ∧ tt σ2 H2 fun b H3 => if b = true then te σ2 H3 Qy else Qn H3)
    (hd : ∀ D acc H, H1 D = none → acc.length ≤ n → Ia D n acc H → H D = some (.lst acc) → Q (.ref D) H) : LcR J g tt te vs σ H1 Q := fun D hD => by
  refine lc_it w (fun i H => ∃ acc : List V, acc.length ≤ i ∧ Ia D i acc H ∧ H D = some (.lst acc)) ⟨[], Nat.le_refl _, h0 D hD, upd_same⟩ (fun i H hi ⟨acc, _, h, e⟩ => hG D i acc H hD hi h e) (fun i x H H' hi ⟨acc, hl, h, e⟩ hy => ?_) (fun H ⟨acc, hl, h, e⟩ => hd D acc H hD hl h e)
  refine hs D i acc x H H' _ _ hD hi h e hy (fun H4 e4 h4 => ⟨acc, by omega, h4, e4⟩) fun y H4 e4 h4 => ⟨acc, e4, by omega, acc ++ [y], by rw [List.length_append]; simp; omega, ?_, upd_same⟩
  exact hst _ _ _ _ _ hD h4 (by rw [e4]; simp)
/-! ### gcd and lcm of wide ints -/
def rLcm : List V → Hp → VK → Prop := fun vs H Q => ∃ a b : Int, vs = [.int a, .int b] ∧ a.natAbs < 2 ^ 6000 ∧ b.natAbs < 2 ^ 6000 ∧ Q (.int ((Nat.lcm a.natAbs b.natAbs : Nat) : Int)) H
theorem lcm_le_mul (m n : Nat) : m.lcm n ≤ m * n := by
  unfold Nat.lcm
  exact Nat.div_le_self _ _
theorem cr_lcm {X : Cx} : CallR X (.builtin "math.lcm") rLcm := by
  intro pins s σ H vs us Q I r h
  obtain ⟨a, b, rfl, ha, hb, q⟩ := h
  obtain ⟨t, u, rfl⟩ := Vals.int2 r
  have e1 : (Nat.lcm 1 a.natAbs) = a.natAbs := by simp [Nat.lcm]
  have lg : ∀ m : Nat, m < 2 ^ 6000 → m.log2 < 6000 := fun m hm => by
    by_cases h0 : m = 0
    · subst h0; decide
    · exact (Nat.log2_lt h0).mpr hm
  have m1 : max 1 a.natAbs < 2 ^ 6000 := by
    have : (1 : Nat) < 2 ^ 6000 := Nat.one_lt_two_pow (by decide)
    omega
  have m2 : max a.natAbs b.natAbs < 2 ^ 6000 := by omega
  have l1 := lg _ m1
  have l2 := lg _ m2
  have hl : (((Nat.lcm 1 a.natAbs).lcm b.natAbs : Nat) : Int).natAbs.log2 < bitsLine := by
    rw [e1, Int.natAbs_natCast]
    have h1 : a.natAbs.lcm b.natAbs ≤ a.natAbs * b.natAbs := lcm_le_mul _ _
    have h2 : a.natAbs * b.natAbs < 2 ^ 12000 := by
      rw [show (12000 : Nat) = 6000 + 6000 by rfl, Nat.pow_add]
      exact Nat.mul_lt_mul'' ha hb
    have eb : bitsLine = 134217728 := by decide
    rw [eb]
    by_cases h0 : a.natAbs.lcm b.natAbs = 0
    · rw [h0]; decide
    · have h3 : (a.natAbs.lcm b.natAbs).log2 < 12000 := (Nat.log2_lt h0).mpr (Nat.lt_of_le_of_lt h1 h2)
      omega
  refine call_function_meets PySem.W.MGF.kind_lcm PySem.W.MGF.plain_lcm PySem.W.MGF.entry_lcm (PySem.W.MGF.args_lcm _ _) (PySem.W.mg_run_lcm a t b u (by omega) (by omega) hl).meets ?_
  rw [e1]
  exact ⟨.int _, H, I.tok _, ⟨_, rfl⟩, q⟩
/-- *t, .. in a display: t a tracked tuple -/
def tStarH (te : TE) (t : TA) : TA := fun σ H Q => te σ H fun x H1 => ∃ p, x = .ref p ∧ ∃ xs, H1 p = some (.tup xs) ∧ t σ H1 fun ys H2 => Q (xs ++ ys) H2
theorem pa_starH {X : Cx} {e : Expr} {es : List Expr} {te : TE} {t : TA} {p : Pos} (he : PE X e te) (hr : PA X es t) (hs : starEach (.Starred e p :: es) X.env = (true, eval e X.env) :: starEach es X.env := by rfl) : PA X (.Starred e p :: es) (tStarH te t) := by
  refine ⟨fun pos pins s σ H Q I h => ?_⟩
  refine PySem.W.items_star (thn (he.run pins s σ H _ I h) fun v s1 ⟨y, H1, I1, ry, a, ey, xs, hx, q⟩ => ?_) hs
  subst ey
  obtain rfl : v = Value.ref a := ry
  refine StX.star_any I1 (.inl (.inl (.inl hx))) fun us s2 I2 rv => ?_
  exact thn (hr.run pos pins s2 σ H1 _ I2 q) fun ws s3 ⟨vs, H3, I3, r3, q3⟩ => ⟨xs ++ vs, H3, I3, rv.append r3, q3⟩
end Cs

/-! tuple * 1, tests of bools -/
namespace Cs
open PySem PySem.Spec PyProof.Rows L2
theorem tuple_mul_one (l : Addr) (items : Array Value) (n : Nat) (dd : Option Addr) (sl : Array (Option Value)) (u : Tok) :
    Meets (Builtin.«tuple.__mul__» ⟨[.ref l, .int 1 u], []⟩) (fun _ R s => s.heap.get? l = some { cls := .type "tuple", dict := dd, data := .seq items n, slots := sl } ∧ R (.ok (.ret (Value.ref l))) s) :=
  .of_wp fun prog w A R s h => by
    obtain ⟨hp, g, d, tk, os⟩ := s
    obtain ⟨hl, h⟩ := h
    have f1 := AutoSeq1.idx_int
    have c0 : (decide ((1 : Int) < -(2 ^ 63)) || decide ((1 : Int) ≥ 2 ^ 63)) = false := by decide
    have c1 : (items.isEmpty || (1 : Int) == 1) = true := by simp
    wp_walk using wpAny_loadPart' hl
    repeat (first
      | (refine wpAny_ite_false (decide_eq_false (by rw [c0]; exact Bool.false_ne_true)) ?_; wp_walk using wpAny_loadPart' hl)
      | (refine wpAny_ite_true (decide_eq_true (by rw [c1])) ?_; wp_walk using wpAny_loadPart' hl))
    exact ⟨_, rfl, h⟩
/-- a tuple times a count of at least one -/
def rRepA (K : PySem.W.Frag) : R2 := fun x y H Q => ∃ (l : Addr) (k : Nat) (xs : List V), x = .ref l ∧ y = .int k ∧ H l = some (.tup xs) ∧ xs ≠ [] ∧ 1 ≤ k ∧ k ≤ 1000 ∧ xs.length ≤ 1000 ∧ ∀ p H', Same H H' → H' p = some (.tup (List.replicate k xs).flatten) → Q (.ref p) H'
section
variable {X : Cx}
theorem op_repA : OpR X (binaryOp .Mult) (rRepA X.K) := by
  intro pins s σ H x y v u Q I rx ry h
  obtain ⟨l, k, xs, rfl, rfl, hT, hne, h1, h2, hz, q⟩ := h
  by_cases hk : 2 ≤ k
  · refine op_repT pins s σ H _ _ _ _ Q I rx ry ⟨l, k, xs, rfl, rfl, .inl (.inl hT), hne, by omega, by omega, hz, fun p hp => ?_⟩
    have e : ((k : Nat) : Int).toNat = k := by simp
    rw [e]
    exact q p _ (Same.new hp) upd_same
  · obtain rfl : k = 1 := by omega
    cases rx
    obtain ⟨t, rfl⟩ := ry
    obtain ⟨its, r, ⟨⟨cls, dd, data, sl⟩, ho, hc, n, hd⟩, hs⟩ := I.tuple (.inl (.inl hT))
    simp only at hc hd
    subst hc hd
    refine wpAny_binaryOp_repeat_ref (T := "tuple") (U := "int") (by decide) ⟨_, ho, rfl⟩ (fun s' => typeIs_int s' 1 t) noFill_tuple_mul F.fills_int_mul F.slot_int_rmul repeat_tuple F.slot_int_index.lookup
      (call_meets F.slot_int_rmul (typeIs_int s 1 t) F.entry_int_rmul (F.args_int_rmul_2 _ _) (int_rmul_tuple 1 t l its.toArray n dd sl)
        ⟨ho, rfl, ⟨_, ho, rfl⟩, call_meets F.slot_tuple_mul ⟨_, ho, rfl⟩ F.entry_tuple_mul (F.args_tuple_mul_2 _ _) (tuple_mul_one l its.toArray n dd sl t) ⟨ho, ?_⟩⟩)
    refine ⟨.ref l, _, I, rfl, q l H (Same.refl _) ?_⟩
    rw [hT]
    simp
end
/-- tuples of ints at the addresses as -/
def AsT (H : Hp) (as : List Addr) (hss : List (List Int)) : Prop := as.length = hss.length ∧ ∀ (i : Nat) t hs, as[i]? = some t → hss[i]? = some hs → H t = some (.tup (hs.map V.int))
theorem AsT.same {H H' : Hp} {as : List Addr} {hss : List (List Int)} (e : Same H H') (h : AsT H as hss) : AsT H' as hss := ⟨h.1, fun i t hs h1 h2 => e _ _ (h.2 i t hs h1 h2)⟩
theorem AsT.nil {H : Hp} : AsT H [] [] := ⟨rfl, fun i t hs h _ => by simp at h⟩
theorem AsT.snoc {H : Hp} {as : List Addr} {hss : List (List Int)} {t : Addr} {hs : List Int} (h : AsT H as hss) (ht : H t = some (.tup (hs.map V.int))) : AsT H (as ++ [t]) (hss ++ [hs]) := by
  refine ⟨by rw [List.length_append, List.length_append, h.1]; rfl, fun i u gs h1 h2 => ?_⟩
  by_cases hlt : i < as.length
  · rw [List.getElem?_append_left hlt] at h1
    rw [List.getElem?_append_left (by rw [← h.1]; exact hlt)] at h2
    exact h.2 i u gs h1 h2
  · rw [List.getElem?_append_right (by omega)] at h1
    rw [List.getElem?_append_right (by rw [← h.1]; omega), ← h.1] at h2
    cases hk : i - as.length with
    | zero =>
      rw [hk] at h1 h2
      simp only [List.getElem?_cons_zero, Option.some.injEq] at h1 h2
      rw [← h1, ← h2]; exact ht
    | succ m => rw [hk] at h1; simp at h1
/-- a list of tuples of ints, at a -/
def LstT (H : Hp) (a : Addr) (hss : List (List Int)) : Prop := ∃ as : List Addr, H a = some (.lst (as.map V.ref)) ∧ AsT H as hss
theorem LstT.same {H H' : Hp} {a : Addr} {hss : List (List Int)} (e : Same H H') (h : LstT H a hss) : LstT H' a hss := by
  obtain ⟨as, h1, h2⟩ := h
  exact ⟨as, e _ _ h1, h2.same e⟩
theorem scal_bl (b c : Bool) : scal (.bl b) (.bl c) = true := rfl
theorem dpAll_tups {K : PySem.W.Frag} {H : Hp} : ∀ {as : List Addr} {hss : List (List Int)}, AsT H as hss → DpAll K H (as.map V.ref) (hss.map tupI)
  | [], [], _ => .nil
  | [], _ :: _, h => by have := h.1; simp at this
  | _ :: _, [], h => by have := h.1; simp at this
  | a :: as, hs :: hss, h => .cons (dp_tupI (.inl (.inl (h.2 0 a hs rfl rfl)))) (dpAll_tups ⟨by simpa using h.1, fun i t gs h1 h2 => h.2 (i + 1) t gs h1 h2⟩)
theorem canLay_tups : ∀ hss : List (List Int), PyData.canLayAll0 (hss.map tupI) = true
  | [] => rfl
  | hs :: hss => by
    show (PyData.canLay0 (tupI hs) && PyData.canLayAll0 (hss.map tupI)) = true
    rw [canLay_tups hss, show PyData.canLay0 (tupI hs) = true from canLay_ints hs]
    rfl
theorem depth_tups : ∀ hss : List (List Int), PyData.depthAll (hss.map tupI) ≤ 1
  | [] => by decide
  | hs :: hss => by
    show max (PyData.depth (tupI hs)) (PyData.depthAll (hss.map tupI)) ≤ 1
    rw [depth_tupI]
    have := depth_tups hss
    omega
theorem shaped_tups (hss : List (List Int)) : SeqAt.shaped (.list (hss.map tupI)) = true := by
  have h1 : PyData.canLay0 (.list (hss.map tupI)) = true := canLay_tups hss
  have h2 : PyData.depth (.list (hss.map tupI)) ≤ 64 := by
    show PyData.depthAll (hss.map tupI) + 1 ≤ 64
    have := depth_tups hss
    omega
  unfold SeqAt.shaped
  rw [h1, decide_eq_true h2]
  rfl
theorem any_tups (ns : List Int) : ∀ hss : List (List Int), ((hss.map tupI).any fun z => PyData.eqv z (tupI ns)) = decide (ns ∈ hss)
  | [] => by simp
  | hs :: hss => by
    rw [List.map_cons, List.any_cons, any_tups ns hss, eqv_tupI]
    by_cases h : hs = ns
    · subst h; simp
    · have h' : ¬ ns = hs := fun e => h e.symm
      simp [h, h']
section
variable {K : PySem.W.Frag} {H : Hp} {a b : Addr} {ns ms : List Int} {hss : List (List Int)} {Q : VK}
theorem dp_lstT (h : LstT H a hss) : Dp K H (.ref a) (.list (hss.map tupI)) := by
  obtain ⟨as, h1, h2⟩ := h
  exact .lst (.inl (.inl h1)) (dpAll_tups h2)
theorem inD_tups (h1 : H a = some (.tup (ns.map V.int))) (h2 : LstT H b hss) (q : Q (.bl (decide (ns ∈ hss))) H) : rInD K (.ref a) (.ref b) H Q :=
  ⟨_, _, dp_tupI (.inl (.inl h1)), dp_lstT h2, shaped_tupI _, shaped_tups _, by rw [any_tups]; exact q⟩
theorem notInD_tups (h1 : H a = some (.tup (ns.map V.int))) (h2 : LstT H b hss) (q : Q (.bl (!decide (ns ∈ hss))) H) : rNotInD K (.ref a) (.ref b) H Q :=
  ⟨_, _, dp_tupI (.inl (.inl h1)), dp_lstT h2, shaped_tupI _, shaped_tups _, by rw [any_tups]; exact q⟩
theorem shaped_lstI (ns : List Int) : SeqAt.shaped (.list (ns.map PyData.int)) = true := by
  have h1 : PyData.canLay0 (.list (ns.map PyData.int)) = true := canLay_ints ns
  have h2 : PyData.depth (.list (ns.map PyData.int)) ≤ 64 := by
    show PyData.depthAll (ns.map PyData.int) + 1 ≤ 64
    rw [depth_ints ns]
    decide
  unfold SeqAt.shaped
  rw [h1, decide_eq_true h2]
  rfl
theorem eqv_lstI (ns ms : List Int) : PyData.eqv (.list (ns.map PyData.int)) (.list (ms.map PyData.int)) = decide (ns = ms) := eqvAll_ints ns ms
theorem eqD_lst (h1 : H a = some (.lst (ns.map V.int))) (h2 : H b = some (.lst (ms.map V.int))) (q : Q (.bl (decide (ns = ms))) H) : rEqD K (.ref a) (.ref b) H Q :=
  ⟨_, _, .lst (.inl (.inl h1)) (dpAll_ints ns), .lst (.inl (.inl h2)) (dpAll_ints ms), shaped_lstI _, shaped_lstI _, by rw [eqv_lstI]; exact q⟩
theorem neD_lst (h1 : H a = some (.lst (ns.map V.int))) (h2 : H b = some (.lst (ms.map V.int))) (q : Q (.bl (!decide (ns = ms))) H) : rNeD K (.ref a) (.ref b) H Q :=
  ⟨_, _, .lst (.inl (.inl h1)) (dpAll_ints ns), .lst (.inl (.inl h2)) (dpAll_ints ms), shaped_lstI _, shaped_lstI _, by rw [eqv_lstI]; exact q⟩
theorem eqv_tups : ∀ (hss gss : List (List Int)), PyData.eqvAll (hss.map tupI) (gss.map tupI) = decide (hss = gss)
  | [], [] => rfl
  | [], _ :: _ => rfl
  | _ :: _, [] => rfl
  | hs :: hss, gs :: gss => by
    show (PyData.eqv (tupI hs) (tupI gs) && PyData.eqvAll (hss.map tupI) (gss.map tupI)) = _
    rw [eqv_tups hss gss, eqv_tupI]
    by_cases h : hs = gs <;> by_cases h2 : hss = gss <;> simp [h, h2]
theorem neD_tups {gss : List (List Int)} (h1 : LstT H a hss) (h2 : LstT H b gss) (q : Q (.bl (!decide (hss = gss))) H) : rNeD K (.ref a) (.ref b) H Q :=
  ⟨_, _, dp_lstT h1, dp_lstT h2, shaped_tups _, shaped_tups _, by rw [show PyData.eqv (.list (hss.map tupI)) (.list (gss.map tupI)) = decide (hss = gss) from eqv_tups hss gss]; exact q⟩
end
theorem _root_.L2.Room.units1 {k : Nat} {A : Around} (r : Room k A) : A.units + 65 < cLine := by have := r.un; omega
theorem call_isIK {X : Cx} {K : PySem.W.Frag} (h : X.K = K) : CallR X (.builtin "isinstance") (rIsI K) := by subst h; exact call_isI
theorem call_isAK {X : Cx} {K : PySem.W.Frag} (h : X.K = K) : CallR X (.builtin "isinstance") (rIsA K) := by subst h; exact call_isA
end Cs

/-! sets of tuples of ints: set(), x in s, x not in s, s.add(x) -/
namespace Cs
open PySem PySem.Spec PyProof.Rows L2
section
variable {P : Program} {w : World} {A : Around} {E : Value → Shared → Prop} {s : Shared} {a : Addr} {L : List (Addr × List Int)} {es : Array (Int × Value)} {ep : Nat} {t : SetTable}
/-- the c-th probe of a search for a hash -/
abbrev pr (t : SetTable) (h : Int) (c : Nat) : SetTable.Probe := nth t.mask (runAt t.mask (SetTable.bits h % (t.mask + 1)) (SetTable.bits h)) c
theorem nth_clean (m : Nat) : ∀ (n : Nat) (p : SetTable.Probe), p.dummy = none → (nth m p n).dummy = none
  | 0, p, h => h
  | n + 1, p, h => nth_clean m n (adv m p) (by unfold adv; split <;> exact h)
/-- what the table's probe meets from the c-th place on: a row of the same hash, or the empty slot -/
theorem probe_at (R : SetTR P w s.heap a L es ep t) {k : List Int} {K c : Nat} (hKf : K < 10 * SetTable.turns t.mask) (hK : way t.mask (thash P w k) K ∉ t.place.toList) (hKb : ∀ c, c < K → way t.mask (thash P w k) c ∈ t.place.toList) (hc : c ≤ K) :
    (∃ q i p, c + q < K ∧ t.place.toList[i]? = some (way t.mask (thash P w k) (c + q)) ∧ L[i]? = some p ∧
      (∀ (q' i' : Nat) (p' : Addr × List Int), q' < q → L[i']? = some p' → t.place.toList[i']? = some (way t.mask (thash P w k) (c + q')) → p'.2 ≠ k) ∧
      t.probe (fun i => (es[i]?.map (·.1)).getD 0) (thash P w k) (pr t (thash P w k) c) = some (.candidate (way t.mask (thash P w k) (c + q)) i (pr t (thash P w k) (c + q + 1)))) ∨
    ((∀ (q' i' : Nat) (p' : Addr × List Int), c + q' < K → L[i']? = some p' → t.place.toList[i']? = some (way t.mask (thash P w k) (c + q')) → p'.2 ≠ k) ∧
      t.probe (fun i => (es[i]?.map (·.1)).getD 0) (thash P w k) (pr t (thash P w k) c) = some (.empty (way t.mask (thash P w k) K) none)) := by
  have shift : ∀ q, nth t.mask (pr t (thash P w k) c) q = pr t (thash P w k) (c + q) := fun q => (nth_add t.mask c _ q).symm
  have shj : ∀ q, (nth t.mask (pr t (thash P w k) c) q).j = way t.mask (thash P w k) (c + q) := fun q => congrArg SetTable.Probe.j (shift q)
  have hash : ∀ (i : Nat) p, L[i]? = some p → (fun i => (es[i]?.map (·.1)).getD 0) i = thash P w p.2 := fun i p hp => by
    show (es[i]?.map (·.1)).getD 0 = _
    rw [R.entry hp]
    rfl
  have same : ∀ {i : Nat} {p : Addr × List Int}, L[i]? = some p → (fun i => (es[i]?.map (·.1)).getD 0) i ≠ thash P w k → p.2 ≠ k := fun {i p} hp hne e => hne (by rw [hash i p hp, e])
  rcases go_spec t R.tab.ris R.tab.dm (fun i => (es[i]?.map (·.1)).getD 0) (thash P w k) (10 * SetTable.turns t.mask) (K - c) (pr t (thash P w k) c) (nth_clean _ _ _ rfl) (by omega)
    (fun q hq => by rw [shj]; exact hKb _ (by omega)) (by rw [shj, show c + (K - c) = K by omega]; exact hK) with ⟨q, i, hq, hi, _, hno, hp⟩ | ⟨hno, hp⟩
  · left
    rw [shj] at hi
    have hil : i < L.length := by
      have h1 := (List.getElem?_eq_some_iff.mp hi).1
      have h2 := R.tab.sz
      rw [List.length_map] at h2
      rw [Array.length_toList] at h1
      omega
    refine ⟨q, i, L[i], by omega, hi, List.getElem?_eq_getElem hil, fun q' i' p' h1 h2 h3 => same h2 (hno q' i' h1 (by rw [shj]; exact h3)), ?_⟩
    rw [shj, shift] at hp
    exact hp
  · right
    refine ⟨fun q' i' p' h1 h2 h3 => same h2 (hno q' i' (by omega) (by rw [shj]; exact h3)), ?_⟩
    rw [shj, show c + (K - c) = K by omega] at hp
    exact hp
/-- the search that a question asks for -/
theorem look_from (R : SetTR P w s.heap a L es ep t) {x : Addr} {k : List Int} (hx : IsT P w s.heap k x) (hu : A.units < cLine) {K : Nat} (hKf : K < 10 * SetTable.turns t.mask) (hK : way t.mask (thash P w k) K ∉ t.place.toList)
    (hKb : ∀ c, c < K → way t.mask (thash P w k) c ∈ t.place.toList) {Q : SetFound → Shared → Prop} (hin : k ∈ L.map (·.2) → ∀ i, Q (.there (some i)) s) (hout : k ∉ L.map (·.2) → ∀ j, Q (.free j false) s) :
    ∀ (f c : Nat) (st : Option SetTable.Probe), st.getD (t.probeStart (thash P w k)) = pr t (thash P w k) c → c ≤ K → K - c < f →
      (∀ (i : Nat) p, L[i]? = some p → p.2 = k → ∃ c', c ≤ c' ∧ c' < K ∧ t.place.toList[i]? = some (way t.mask (thash P w k) c')) → wpAny (model P w) A (setSearchFrom a (.ref x) (thash P w k) false f st) Q E s := by
  intro f
  induction f with
  | zero => intro c st _ _ h _; exact absurd h (Nat.not_lt_zero _)
  | succ f ih =>
    intro c st hst hc hf hre
    obtain ⟨o, ho, hex, hd⟩ := R.ob
    rw [setSearchFrom_succ]
    refine wpAny_bind (wpAny_setState_of ho hd R.fits ?_)
    dsimp only
    refine wp_if_neg R.gw ?_
    try refine wpAny_bind (wpAny_pure ?_)
    rw [hst]
    rcases probe_at R hKf hK hKb hc with ⟨q, i, p, hq, hi, hp, hno, e⟩ | ⟨hno, e⟩
    · rw [e]
      dsimp only
      have hm : p ∈ L := List.mem_of_getElem? hp
      have live : t.slot (way t.mask (thash P w k) (c + q)) = .live i := slot_live R.tab.ris hi
      have rest : wpAny (model P w) A (searchRest a (.ref x) (thash P w k) false f es t (way t.mask (thash P w k) (c + q)) i (pr t (thash P w k) (c + q + 1))) Q E s := by
        unfold searchRest
        rw [R.entry hp]
        dsimp only
        refine wpAny_bind (wpAny_holding (wpAny_eqBool_tuple hu (R.tup p hm) hx ?_))
        refine wpAny_bind (wpAny_setState_of ho hd R.fits ?_)
        dsimp only
        refine wp_if_neg (by simp) ?_
        try refine wpAny_bind (wpAny_pure ?_)
        rw [sameMem]
        dsimp only
        simp only [if_true, live, R.entry hp]
        refine wpAny_bind (wpAny_isSame_ref_self (wpAny_bind (wpAny_pure ?_)))
        simp only [if_true]
        by_cases hk : p.2 = k
        · refine wp_if_pos (by simp [hk]) ?_
          exact wpAny_pure (hin (List.mem_map.mpr ⟨p, hm, hk⟩) i)
        · refine wp_if_neg (by simp [hk]) ?_
          refine ih (c + q + 1) _ rfl (by omega) (by omega) fun i0 p0 h0 hk0 => ?_
          obtain ⟨c', a1, a2, a3⟩ := hre i0 p0 h0 hk0
          refine ⟨c', ?_, a2, a3⟩
          by_cases h1 : c' < c + q
          · exact absurd hk0 (hno (c' - c) i0 p0 (by omega) h0 (by rw [show c + (c' - c) = c' by omega]; exact a3))
          · by_cases h2 : c' = c + q
            · exfalso
              have l2 := slot_live R.tab.ris a3
              rw [h2, live] at l2
              injection l2 with l2
              rw [← l2, hp] at h0
              exact hk ((congrArg Prod.snd (Option.some.inj h0)).trans hk0)
            · omega
      by_cases hl : t.led = true
      · refine wp_if_neg (by simp [hl]) ?_
        try refine wpAny_bind (wpAny_pure ?_)
        exact rest
      · refine wp_if_pos (by simp [hl]) ?_
        refine wpAny_bind (seen_tup hx (fun y hy => ?_) ?_)
        · obtain ⟨e1, he1, rfl⟩ := List.mem_map.mp hy
          have he2 : e1 ∈ es.toList := by
            have h1 : e1 ∈ es ∧ e1.1 = thash P w k := by simpa using he1
            simpa using h1.1
          rw [R.rows] at he2
          obtain ⟨p2, hp2, rfl⟩ := List.mem_map.mp he2
          exact ⟨p2.2, p2.1, rfl, R.tup p2 hp2⟩
        · refine wp_if_neg (by decide) ?_
          try refine wpAny_bind (wpAny_pure ?_)
          exact rest
    · rw [e]
      dsimp only
      refine wpAny_pure (hout (fun hm => ?_) _)
      obtain ⟨p0, h0, hk0⟩ := List.mem_map.mp hm
      obtain ⟨i0, hi0, e0⟩ := List.getElem_of_mem h0
      have h00 : L[i0]? = some p0 := by rw [List.getElem?_eq_getElem hi0, e0]
      obtain ⟨c', a1, a2, a3⟩ := hre i0 p0 h00 hk0
      exact hno (c' - c) i0 p0 (by omega) h00 (by rw [show c + (c' - c) = c' by omega]; exact a3) hk0
theorem look_at (R : SetTR P w s.heap a L es ep t) {x : Addr} {k : List Int} (hx : IsT P w s.heap k x) (hu : A.units < cLine) {Q : SetFound → Shared → Prop} (hin : k ∈ L.map (·.2) → ∀ i, Q (.there (some i)) s) (hout : k ∉ L.map (·.2) → ∀ j, Q (.free j false) s) :
    wpAny (model P w) A (setSearch a (.ref x) (thash P w k)) Q E s := by
  have hroom := R.room
  obtain ⟨K, hKf, hK, hKb⟩ := R.tab.first (by rw [List.length_map]; omega) (thash P w k)
  have hbig : K < 100000 := by
    have : 10 * SetTable.turns t.mask ≤ 1420 := by
      unfold SetTable.turns
      rcases R.tab.mok with e | e | e <;> omega
    omega
  unfold setSearch
  refine look_from R hx hu hKf hK hKb hin hout 100000 0 none rfl (Nat.zero_le _) (by omega) fun i p hp hk => ?_
  have hi : (L.map fun p => thash P w p.2)[i]? = some (thash P w k) := by rw [List.getElem?_map, hp, ← hk]; rfl
  have hil : i < t.place.toList.length := by
    have h1 : i < L.length := (List.getElem?_eq_some_iff.mp hp).1
    have h2 := R.tab.sz
    rw [List.length_map] at h2
    rw [Array.length_toList]
    omega
  obtain ⟨c, hc, e⟩ := R.tab.before hK hi (List.getElem?_eq_getElem hil)
  exact ⟨c, Nat.zero_le _, hc, by rw [List.getElem?_eq_getElem hil, e]⟩
/-- x in s at the model's level -/
theorem find_tup (R : SetTR P w s.heap a L es ep t) {x : Addr} {k : List Int} (hx : IsT P w s.heap k x) (hu : A.units < cLine) {Q : Option Nat → Shared → Prop} (h : ∀ r, r.isSome = decide (k ∈ L.map (·.2)) → Q r s) :
    wpAny (model P w) A (setFind a (.ref x) (thash P w k)) Q E s := by
  obtain ⟨o, ho, hex, hd⟩ := R.ob
  unfold setFind
  rw [show (100000 : Nat) = 99999 + 1 from rfl]
  unfold setFindIn
  refine wpAny_bind (wpAny_setState_of ho hd R.fits ?_)
  dsimp only
  refine wp_if_neg (by simp [byScan, Value.scannable]) ?_
  try refine wpAny_bind (wpAny_pure ?_)
  refine wpAny_bind (look_at R hx hu (fun hm i => ?_) fun hm j => ?_)
  · exact wpAny_pure (h _ (by rw [decide_eq_true hm]; rfl))
  · exact wpAny_pure (h _ (by rw [decide_eq_false hm]; rfl))
end
section
variable {X : Cx}
theorem setTO_got {pins : List (Addr × Obj)} {σ : L2.St} {H : Hp} {s : Shared} {a : Addr} {L : List (Addr × List Int)} (I : Inv X pins σ H s) (ha : H a = some (SetTO X.prog X.w a L)) (hk : ∀ p ∈ L, H p.1 = some (.tup (p.2.map V.int))) :
    ∃ es ep t, SetTR X.prog X.w s.heap a L es ep t := (I.hok a _ ha).1.full fun p hp => I.isT (.inl (.inl (hk p hp)))
/-- set(), to be filled with tuples of ints -/
def rSet0T (P : Program) (w : World) : List V → Hp → VK → Prop := fun xs H Q => xs = [] ∧ ∀ p, H p = none → Q (.ref p) (upd H p (SetTO P w p []))
theorem cr_set0T : CallR X (.type "set") (rSet0T X.prog X.w) := by
  intro pins s σ H xs us Q I r h
  obtain ⟨rfl, q⟩ := h
  cases r
  refine setR_new fun _ => ?_
  exact ⟨.ref _, upd H s.heap.objs.size (SetTO X.prog X.w s.heap.objs.size []), I.laid (t' := s.toks) (fun b u e => Heap.get?_push_of_some _ e) (Nat.le_refl _) (setTO_new (setTR_fresh (Heap.get?_push_size _ rfl)).t0), rfl, q _ (I.hok.fresh (Nat.le_refl _))⟩
/-- t in s, t not in s -/
def rInT (P : Program) (w : World) (neg : Bool) : R2 := fun x y H Q => ∃ (b a : Addr) (k : List Int) (L : List (Addr × List Int)), x = .ref b ∧ y = .ref a ∧ H b = some (.tup (k.map V.int)) ∧ H a = some (SetTO P w a L) ∧ (∀ p ∈ L, H p.1 = some (.tup (p.2.map V.int))) ∧
  Q (.bl (if neg then !decide (k ∈ L.map (·.2)) else decide (k ∈ L.map (·.2)))) H
theorem contains_tup {P : Program} {w : World} {A : Around} {E : Value → Shared → Prop} {s : Shared} {a x : Addr} {L : List (Addr × List Int)} {es : Array (Int × Value)} {ep : Nat} {t : SetTable} {k : List Int} {Q : Bool → Shared → Prop}
    (R : SetTR P w s.heap a L es ep t) (hx : IsT P w s.heap k x) (hu : A.units + 64 < cLine) (h : ∀ tk, Q (decide (k ∈ L.map (·.2))) { s with toks := tk }) : wpAny (model P w) A (contains (.ref a) (.ref x)) Q E s := by
  obtain ⟨o, ho, hex, hd⟩ := id R.ob
  have ty : s.TypeIs (.ref a) "set" := ⟨o, ho, hex.1⟩
  have hu1 : A.in1.units < cLine := by
    show A.units + 1 < cLine
    omega
  unfold contains
  try with_reducible refine wpAny_holding ?_
  refine wpAny_bind (wpAny_specialOf ty F.slot_set_contains.lookup ?_)
  show wpAny _ _ (if (some (Value.builtin "set.__contains__") == some Value.none) = true then _ else _) _ E s
  rw [if_neg (by rw [beq_builtin_none]; exact Bool.false_ne_true)]
  refine wpAny_bind (wpAny_callSpecialUnlessNone?_slot (name := Str.ofString "__contains__") ty F.slot_set_contains
    (wpAny_call_entry F.slot_set_contains ty entry_set_contains ?_ (F.args_set_contains_2 _ _)))
  unfold Builtin.«frozenset.__contains__» Builtin.Frozenset.oneOther
  simp only [List.isEmpty_nil, bind_assoc]
  unfold Builtin.Frozenset.addrOf Builtin.Frozenset.withSetAsKey setContains
  refine wpAny_bind (wpAny_pure ?_)
  try dsimp only
  refine wpAny_bind (wpAny_pure ?_)
  try dsimp only
  refine wpAny_bind (wpAny_tryCatch ?_)
  refine wpAny_holding ?_
  refine wpAny_bind (wpAny_pyHash_tuple hu1 hx ?_)
  refine wpAny_bind (find_tup (s := { s with toks := s.toks + (k.length + 1) }) R hx hu1 fun r hr => ?_)
  refine wpAny_pure ?_
  show wpAny _ _ (ret (Value.bool r.isSome)) _ _ _
  rw [hr]
  exact wpAny_pure ⟨_, rfl, wpAny_truthy_bool (h _)⟩
theorem op_inT (hu : X.A.units + 64 < cLine) : OpR X (compareOp .In) (rInT X.prog X.w false) := by
  intro pins s σ H x y v u Q I rx ry h
  obtain ⟨b, a, k, L, rfl, rfl, hb, ha, hk, q⟩ := h
  cases rx
  cases ry
  obtain ⟨es, ep, t, R⟩ := setTO_got I ha hk
  show wpAny _ _ ((contains (Value.ref a) (Value.ref b)) >>= fun b => pure (Value.bool b)) _ _ s
  exact wpAny_bind (contains_tup R (I.isT (.inl (.inl hb))) hu fun tk => wpAny_pure ⟨.bl _, H, I.tok _, rfl, q⟩)
theorem op_notInT (hu : X.A.units + 64 < cLine) : OpR X (compareOp .NotIn) (rInT X.prog X.w true) := by
  intro pins s σ H x y v u Q I rx ry h
  obtain ⟨b, a, k, L, rfl, rfl, hb, ha, hk, q⟩ := h
  cases rx
  cases ry
  obtain ⟨es, ep, t, R⟩ := setTO_got I ha hk
  show wpAny _ _ ((contains (Value.ref a) (Value.ref b)) >>= fun b => pure (Value.bool !b)) _ _ s
  exact wpAny_bind (contains_tup R (I.isT (.inl (.inl hb))) hu fun tk => wpAny_pure ⟨.bl _, H, I.tok _, rfl, q⟩)
/-- s.add(t) -/
def rAddT (P : Program) (w : World) : V → List V → Hp → VK → Prop := fun x xs H Q => ∃ (b a : Addr) (k : List Int) (L : List (Addr × List Int)), x = .ref a ∧ xs = [.ref b] ∧ H b = some (.tup (k.map V.int)) ∧ H a = some (SetTO P w a L) ∧ (∀ p ∈ L, H p.1 = some (.tup (p.2.map V.int))) ∧ L.length + 1 < 64 ∧
  ∀ L', (k ∈ L.map (·.2) → L' = L) → (k ∉ L.map (·.2) → L'.Perm ((b, k) :: L)) → Q .non (upd H a (SetTO P w a L'))
theorem mt_addT (hu : X.A.units + 64 < cLine) : MtR X "set.add" (rAddT X.prog X.w) := by
  intro pins s σ H x xs v us Q I rx rxs h
  obtain ⟨b, a, k, L, rfl, rfl, hb, ha, hk, hl, q⟩ := h
  cases rx
  cases rxs with
  | cons ry rt =>
    cases rt
    cases ry
    obtain ⟨es, ep, t, R⟩ := setTO_got I ha hk
    obtain ⟨o, ho, hex, hd⟩ := id R.ob
    have ty : s.TypeIs (.ref a) "set" := ⟨o, ho, hex.1⟩
    have hx := I.isT (.inl (.inl hb)) (b := b) (k := k)
    refine wpAny_call_entry F.slot_set_add ty F.entry_set_add ?_ (F.args_set_add_2 _ _)
    have hu1 : X.A.in1.units < cLine := by
      show X.A.units + 1 < cLine
      omega
    unfold Builtin.«set.add» Builtin.Frozenset.oneOther
    simp only [List.isEmpty_nil, bind_assoc]
    unfold Builtin.Frozenset.addrOf setAdd
    refine wpAny_bind (wpAny_pure ?_)
    try dsimp only
    refine wpAny_bind (wpAny_pure ?_)
    try dsimp only
    refine wpAny_bind ?_
    refine wpAny_holding ?_
    refine wpAny_bind (wpAny_pyHash_tuple hu1 hx ?_)
    refine add_at (s := { s with toks := s.toks + (k.length + 1) }) R hx hu1 hl fun b' h' L' es' ep' t' sb R' c1 c2 => ?_
    show wpAny _ _ (ret Value.none) _ _ _
    obtain ⟨o', ho', _⟩ := R'.ob
    exact wpAny_pure ⟨_, rfl, .non, upd H a (SetTO X.prog X.w a L'), I.write (e := a) (t' := s.toks + (k.length + 1)) (by rw [ha]; trivial) (.inl rfl) (fun c u hc hu => (sb.2 c hc).trans hu) ⟨o', ho'⟩ (setTO_new R'.t0), rfl, q L' c1 c2⟩
def tAddT (P : Program) (w : World) (to : TE) (t : TA) : TE := fun σ H Q => to σ H fun x H1 => (∃ a L, x = V.ref a ∧ H1 a = some (SetTO P w a L)) ∧ t σ H1 fun xs H2 => rAddT P w x xs H2 Q
variable {o e : Expr} {to : TE} {t : TA} {apos cpos : Pos}
theorem pe_addT (hu : X.A.units + 64 < cLine) (ho : PE X o to) (ha : PA X [e] t)
    (hbase : attributeBase o "add" X.env (eval o X.env) = eval o X.env := by rfl)
    (hfew : ((backTo cpos (starEach [e] X.env)).all (fun x => !x.1) && (backToKw cpos (keywordEach [] X.env)).all (fun x => x.1.isSome)
      && decide (([e] : List Expr).length + ([] : List Keyword).length + (if ([] : List Keyword).isEmpty then 0 else 1) < 30)) = true := by rfl)
    (hline : (apos.endLine == cpos.line) = true := by rfl) (hs : starEach [e] X.env = (false, eval e X.env) :: starEach [] X.env := by rfl) :
    PE X (.Call (.Attribute o "add" apos) [e] [] cpos) (tAddT X.prog X.w to t) := by
  refine ⟨fun pins s σ H Q I h => wpAny_Call_method_late hbase hfew hline rfl (thn (ho.run pins s σ H _ I h) fun v s1 ⟨x, H1, I1, r1, ty, q1⟩ => ?_)⟩
  obtain ⟨a, L, rfl, hka⟩ := ty
  obtain ⟨_, _, _, ⟨ob, hob, hex, hd⟩, _⟩ := SetT0.ex (I1.hok a _ hka).1
  cases r1
  refine ⟨"set", "set.add", F.plainAttrs_set, F.slot_set_add, F.type_set_add, ⟨ob, hob, hex.1⟩, ?_, ?_⟩
  · intro a' e
    cases e
    exact ⟨ob, hob, hex.2.1⟩
  have hA := ha.run cpos pins s1 σ H1 _ I1 q1
  rw [hs] at hA ⊢
  refine Calls.callWith_builtin rfl (Calls.evalArgs_plain ?_)
  exact thn hA fun us s2 ⟨vs, H2, I2, r2, q2⟩ => mt_addT hu pins s2 σ H2 (.ref a) vs (.ref a) us Q I2 rfl r2 q2
end
end Cs

/-! for i, x in enumerate(v), v a list or a tuple -/
namespace Cs
open PySem PySem.Spec PyProof.Rows L2
theorem enum1_new {v : Value} {o : Obj} {G : Heap → Prop} (B : Begins v o G) :
    Meets (Builtin.«enumerate.__new__» ⟨[.type "enumerate", v], []⟩) (fun _ R s => G s.heap ∧
      R (.ok (.ret (.ref (s.heap.push o).objs.size))) { s with heap := (s.heap.push o).push { cls := .type "enumerate", data := .fields #[.none, .bool false, .ref s.heap.objs.size, rawInt 0, .none, .none] } }) :=
  .of_wp fun prog w A R s h => by
    obtain ⟨hp, g, d, tk, os⟩ := s
    obtain ⟨h1, h⟩ := h
    have hsub := sub_enumerate
    have it : ∀ {A' : Around} {E : Value → Shared → Prop} {Q : Value → Shared → Prop}, Q (.ref hp.objs.size) ⟨hp.push o, g, d, tk, os⟩ → wpAny (model prog w) A' (pyIter v) Q E ⟨hp, g, d, tk, os⟩ :=
      fun q => B.iter prog w _ _ ⟨hp, g, d, tk, os⟩ _ h1 q
    wp_walk using it
    refine wpAny_stack_any fun st => wpAny_pure ?_
    split
    · rename_i c _ _ _ _ _
      cases (c == Value.type "enumerate") <;> (wp_walk using it; exact ⟨_, rfl, h⟩)
    · wp_walk using it
      exact ⟨_, rfl, h⟩
section
variable {prog : Program} {w : World} {A : Around} {E : Value → Shared → Prop} {s : Shared}
theorem enum1_begins {v : Value} {o : Obj} {G : Heap → Prop} {Q : Value → Shared → Prop} (B : Begins v o G) (h1 : G s.heap)
    (h : ∀ h', IsEnum h' (s.heap.objs.size + 1) s.heap.objs.size 0 .none → h'.get? s.heap.objs.size = some o → (∀ b o, s.heap.get? b = some o → h'.get? b = some o) → Q (.ref (s.heap.objs.size + 1)) { s with heap := h' }) :
    wpAny (model prog w) A (call (.type "enumerate") [v]) Q E s := by
  refine callType_new F.called_enumerate (by decide) (F.typeCall_enumerate_1 _) (F.newCall_enumerate_1 _) (fun obj => F.args_object_init_2 obj _) F.entry_enumerate_new (enum1_new B) ⟨h1, ?_⟩
  have hz : (s.heap.push o).objs.size = s.heap.objs.size + 1 := Heap.size_push ..
  have he := Heap.get?_push_size (s.heap.push o) (o := { cls := .type "enumerate", data := .fields #[.none, .bool false, .ref s.heap.objs.size, rawInt 0, .none, .none] }) rfl
  show _ ∧ _
  rw [hz] at he ⊢
  exact ⟨⟨_, he, rfl⟩, h _ he (Heap.get?_push_of_some _ (Heap.get?_push_size _ B.free)) fun b o x => Heap.get?_push_of_some _ (Heap.get?_push_of_some _ x)⟩
end
/-- the items in new pairs with their index -/
def Iek (K : PySem.W.Frag) (k : Bool) (a : Addr) : It :=
  ⟨fun i H => ∃ (xs : List V) (x : V), Sqk K k H a xs ∧ xs[i]? = some x, fun i H v H' => ∃ T x, v = .ref T ∧ H T = none ∧ H' = upd H T (.tup [.int (i : Nat), x]) ∧ ∀ xs, Sqk K k H a xs → xs[i]? = some x, fun i H => ∃ xs : List V, Sqk K k H a xs ∧ xs.length = i⟩
theorem turn_ek {P : Program} {w : World} {K : PySem.W.Frag} {elts : List Expr} {kk : Nat} {tpos : Pos} {k : Bool} {a e it : Addr} (n1 : a ≠ it) (n2 : e ≠ it) (n3 : e ≠ a) :
    Turn P w K (.Tuple elts kk tpos) (Iek K k a) [e, it] e (fun i h => (∃ old, IsEnum h e it ((i : Nat) : Int) old) ∧ ItK k h it a i) where
  mem := by simp
  obj := fun i h st c hc => by
    obtain ⟨⟨old, he⟩, hi⟩ := st
    have e' : c = e ∨ c = it := by simpa using hc
    rcases e' with q | q
    · rw [q]; exact ⟨_, he, fun v q => nomatch q⟩
    · rw [q]; exact hi.obj
  keep := fun i h h' st k => ⟨st.1.imp fun old he => k e (by simp) _ he, st.2.at fun o q => k it (by simp) o q⟩
  item := by
    intro X hP hw hK hc i pins s σ H E I hf st hg
    subst hP hw hK
    obtain ⟨xs, x, hqx, hx⟩ := hg
    obtain ⟨its, rv, p⟩ := invK I hqx
    obtain ⟨u, hu, ru⟩ := rv.get hx
    have D := drawsK (prog := X.prog) (w := X.w) (A := X.A.in1) (I.ok.hd hc) k it a n1 its.toArray
    have l1 : i < its.length := (List.getElem?_eq_some_iff.mp hu).1
    have W := GoesN.enumFrom (elts := elts) (x1 := kk) (pos := tpos) 0 D e n2 (by simp [n2, n3]) (by simp)
    have st0 : (∃ old, IsEnum s.heap e it (0 + ((i : Nat) : Int)) old) ∧ ItK k s.heap it a i ∧ SeqK k s.heap a its.toArray := by
      rw [Int.zero_add]
      exact ⟨st.1, st.2, p⟩
    refine W.goes i s (fun v s2 => ∃ x H', Inv X pins σ H' s2 ∧ RelV x v ∧ (Iek X.K k a).yld i H x H' ∧ ((∃ old, IsEnum s2.heap e it ((i + 1 : Nat) : Int) old) ∧ ItK k s2.heap it a (i + 1)) ∧ ∀ b ∈ [e, it], H' b = none) E (by simpa using l1) st0 fun v h' tk hY st' hk htk => ?_
    obtain ⟨T, tk0, v1, rfl, hT, e1, hTu⟩ := hY
    have q1 : v1 = u := by
      have e1' : its[i]? = some v1 := by simpa using e1
      rw [hu] at e1'; exact (Option.some.inj e1').symm
    subst q1
    have new : ObjOk X.prog X.w (upd H T (.tup [.int (i : Nat), x])) h' T (.tup [.int (i : Nat), x]) :=
      ⟨by show 2 ≤ sizeLine; decide, [.int (0 + (i : Int)) tk0, v1], .cons ⟨tk0, by rw [Int.zero_add]⟩ (.cons ru .nil), hTu⟩
    have I1 : Inv X pins σ (upd H T (.tup [.int (i : Nat), x])) { s with heap := h', toks := tk } :=
      I.turnedNew (t' := tk) (ch := [e, it]) (fun c o hb q => hk c o hb q) hf hT new
    refine ⟨.ref T, _, I1, rfl, ⟨T, x, rfl, I.hok.fresh hT, rfl, fun l hl => by rw [injK I hl hqx]; exact hx⟩, ⟨by have z := st'.1; rw [Int.zero_add] at z; exact z, st'.2.1⟩, fun c hcm => ?_⟩
    have hlt : c < s.heap.objs.size := by
      obtain ⟨⟨old, he⟩, hi⟩ := st
      have e' : c = e ∨ c = it := by simpa using hcm
      rcases e' with q | q
      · rw [q]; exact Heap.lt_size he
      · rw [q]; obtain ⟨_, e1, _⟩ := hi.obj; exact Heap.lt_size e1
    rw [upd_ne (Nat.ne_of_lt (Nat.lt_of_lt_of_le hlt hT))]
    exact (hf c hcm).1
  done := by
    intro X hP hw hK hc i pins s σ H E I hf st hg
    subst hP hw hK
    obtain ⟨xs, hqx, hi⟩ := hg
    obtain ⟨its, rv, p⟩ := invK I hqx
    have D := drawsK (prog := X.prog) (w := X.w) (A := X.A.in1) (I.ok.hd hc) k it a n1 its.toArray
    have W := GoesN.enumFrom (elts := elts) (x1 := kk) (pos := tpos) 0 D e n2 (by simp [n2, n3]) (by simp)
    have en : its.toArray.size = i := by
      have := rv.length
      simp only [List.size_toArray]
      omega
    have st0 : (∃ old, IsEnum s.heap e it (0 + ((its.toArray.size : Nat) : Int)) old) ∧ ItK k s.heap it a its.toArray.size ∧ SeqK k s.heap a its.toArray := by
      rw [en, Int.zero_add]
      exact ⟨st.1, st.2, p⟩
    refine W.stops s (fun s1 => Inv X pins σ H s1) E st0 fun h' tk hk htk => ?_
    exact I.turnedL (t' := tk) (ch := [e, it]) (fun c o hb q => hk c o (fun hm => hb (by simpa using hm)) q) hf
  self := fun A i s Q E st h => let ⟨⟨_, he⟩, _⟩ := st; wpAny_pyIter_enum he h
def YEn (xs : List V) : Nat → Hp → V → Hp → Prop := fun i H v H' => ∃ T x, v = .ref T ∧ H T = none ∧ H' = upd H T (.tup [.int (i : Nat), x]) ∧ xs[i]? = some x
theorem YEn.same {xs : List V} {i : Nat} {x : V} {H H' : Hp} (h : YEn xs i H x H') : Same H H' := by
  obtain ⟨T, y, _, hT, rfl, _⟩ := h
  exact Same.new hT
theorem walk_en {K : PySem.W.Frag} {k : Bool} {a : Addr} {xs : List V} : Walk (Iek K k a) xs.length (fun H => Sqh k H a xs) (YEn xs) := by
  refine ⟨fun i _ hi q => ⟨xs, xs[i], q.sqk, List.getElem?_eq_getElem hi⟩, fun _ q => ⟨xs, q.sqk, rfl⟩, fun i H v H' _ q y => ?_⟩
  obtain ⟨T, x, h1, h2, h3, h4⟩ := y
  exact ⟨T, x, h1, h2, h3, h4 xs q.sqk⟩
def iEnH (ta : TA) : TI := fun σ H R => ta σ H fun vs H1 => ∃ a, vs = [.ref a] ∧ ∃ (k : Bool) (xs : List V), Sqh k H1 a xs ∧ ∀ J : It, Walk J xs.length (fun H => Sqh k H a xs) (YEn xs) → R J H1
theorem pi_enH {X : Cx} {e : Expr} {ta : TA} {p pos tpos : Pos} {elts : List Expr} {kk : Nat} (hg : Gl X "enumerate") (hm : X.mg "enumerate" = none) (ha : PA X [e] ta) (hs : starEach [e] X.env = [(false, eval e X.env)] := by rfl) :
    PI X (.Tuple elts kk tpos) (.Call (.Name "enumerate" p) [e] [] pos) (iEnH ta) := by
  refine ⟨fun pins s σ H R I h => ?_⟩
  refine Call_ (ld_blt I hg hm boot_enumerate (PyProof.Rows.callWith_type1 (thn (ha.run pos pins s σ H _ I h) fun us s1 ⟨vs, H1, I1, r1, q1⟩ => ?_) hs rfl))
  obtain ⟨a, ex, k, xs, hq, q⟩ := q1
  subst ex
  have q := q (Iek X.K k a) walk_en
  cases r1 with
  | cons r rr =>
    cases rr
    cases r
    obtain ⟨its, rv, p'⟩ := invK I1 (hq.sqk (K := X.K))
    have la : a < s1.heap.objs.size := p'.lt
    refine enum1_begins (begK k a its.toArray) p' fun h' he hit hk => wpAny_pyIter_enum he ?_
    have I2 : Inv X pins σ H1 { s1 with heap := h' } := I1.kept (t' := s1.toks) hk
    refine ⟨s1.heap.objs.size + 1, [s1.heap.objs.size + 1, s1.heap.objs.size], _, _, H1, rfl, I2, turn_ek (k := k) (a := a) (Nat.ne_of_lt la) (Nat.succ_ne_self _) (Nat.ne_of_gt (Nat.lt_succ_of_lt la)), ⟨⟨.none, he⟩, ItK.new hit⟩, fun b hb => ?_, q⟩
    have e' : b = s1.heap.objs.size + 1 ∨ b = s1.heap.objs.size := by simpa using hb
    have hle : s1.heap.objs.size ≤ b := by
      rcases e' with z | z
      · rw [z]; exact Nat.le_add_right _ _
      · rw [z]; exact Nat.le_refl _
    exact I1.fpOk hle (I1.hok.fresh hle)
end Cs

namespace Cs
open PySem PySem.Spec PyProof.Rows L2
/-! ### readings that name the frame, for use within comprehensions -/
section
variable {X : Cx} {K : PySem.W.Frag}
theorem op_eqDK (h : X.K = K) (hu : X.A.units + 64 < cLine) : OpR X (compareOp .Eq) (rEqD K) := by subst h; exact op_eqD hu
theorem op_neDK (h : X.K = K) (hu : X.A.units + 64 < cLine) : OpR X (compareOp .NotEq) (rNeD K) := by subst h; exact op_neD hu
theorem op_inDK (h : X.K = K) (hu : X.A.units + 65 < cLine) : OpR X (compareOp .In) (rInD K) := by subst h; exact op_inD hu
theorem op_notInDK (h : X.K = K) (hu : X.A.units + 65 < cLine) : OpR X (compareOp .NotIn) (rNotInD K) := by subst h; exact op_notInD hu
theorem sl_listK (h : X.K = K) : SlR X (rSlL K) := by subst h; exact sl_list
theorem op_repAK (h : X.K = K) : OpR X (binaryOp .Mult) (rRepA K) := by subst h; exact op_repA
/-- xs[::-1] of a list -/
theorem pe_revLK (h : X.K = K) {e : Expr} {te : TE} {k : Nat} {p1 p2 p3 pos : Pos} (he : PE X e te) : PE X (.Subscript e (.Slice none none (some (.UnaryOp .USub (.Constant (.int 1) k p1) p2)) p3) pos) (tRevL K te) := by subst h; exact pe_revL he
end
end Cs

namespace Cs
open PySem PySem.Spec PyProof.Rows L2
/-! ### flat data -/
def dOf : V → PyData
  | .bl b => .bool b
  | .int i => .int i
  | .str x => .str x
  | _ => .none
def Flat0 : V → Prop
  | .non => True
  | .bl _ => True
  | .int _ => True
  | .str x => PyData.canLay0 (.str x) = true
  | _ => False
theorem dp_one {K : PySem.W.Frag} {H : Hp} : ∀ {v : V}, Flat0 v → Dp K H v (dOf v)
  | .non, _ => .non
  | .bl b, _ => .bl b
  | .int i, _ => .int i
  | .str x, _ => .str x
theorem dp_flat {K : PySem.W.Frag} {H : Hp} : ∀ {xs : List V}, (∀ v ∈ xs, Flat0 v) → DpAll K H xs (xs.map dOf)
  | [], _ => .nil
  | x :: xs, h => .cons (dp_one (h x (List.mem_cons_self ..))) (dp_flat fun v hv => h v (List.mem_cons_of_mem _ hv))
theorem lay_one {v : V} (h : Flat0 v) : PyData.canLay0 (dOf v) = true := by
  cases v with
  | str x => exact h
  | _ => rfl
theorem depth_one (v : V) : PyData.depth (dOf v) = 0 := by cases v <;> rfl
theorem lay_flat : ∀ {xs : List V}, (∀ v ∈ xs, Flat0 v) → PyData.canLayAll0 (xs.map dOf) = true
  | [], _ => rfl
  | v :: xs, h => by
    show (PyData.canLay0 (dOf v) && PyData.canLayAll0 (xs.map dOf)) = true
    rw [lay_one (h v (List.mem_cons_self ..)), lay_flat fun u hu => h u (List.mem_cons_of_mem _ hu)]
    rfl
theorem depth_flat : ∀ xs : List V, PyData.depthAll (xs.map dOf) = 0
  | [] => rfl
  | v :: xs => by
    show max (PyData.depth (dOf v)) (PyData.depthAll (xs.map dOf)) = 0
    rw [depth_one, depth_flat xs]
    rfl
theorem shaped_flat {xs : List V} (h : ∀ v ∈ xs, Flat0 v) : SeqAt.shaped (.list (xs.map dOf)) = true := by
  have h1 : PyData.canLay0 (.list (xs.map dOf)) = true := lay_flat h
  have h2 : PyData.depth (.list (xs.map dOf)) ≤ 64 := by
    show PyData.depthAll (xs.map dOf) + 1 ≤ 64
    rw [depth_flat]
    decide
  unfold SeqAt.shaped
  rw [h1, decide_eq_true h2]
  rfl
/-- xs != ys, two lists of the same flat things -/
theorem neD_flat {K : PySem.W.Frag} {H : Hp} {a b : Addr} {xs : List V} {Q : VK} (h1 : H a = some (.lst xs)) (h2 : H b = some (.lst xs)) (hf : ∀ v ∈ xs, Flat0 v) (q : Q (.bl false) H) : rNeD K (.ref a) (.ref b) H Q := by
  refine ⟨_, _, .lst (.inl (.inl h1)) (dp_flat hf), .lst (.inl (.inl h2)) (dp_flat hf), shaped_flat hf, shaped_flat hf, ?_⟩
  have e : PyData.eqv (.list (xs.map dOf)) (.list (xs.map dOf)) = true := SeqAt.eqv_refl _ (lay_flat hf)
  rw [e]
  exact q
theorem eqD_flat {K : PySem.W.Frag} {H : Hp} {a b : Addr} {xs : List V} {Q : VK} (h1 : H a = some (.lst xs)) (h2 : H b = some (.lst xs)) (hf : ∀ v ∈ xs, Flat0 v) (q : Q (.bl true) H) : rEqD K (.ref a) (.ref b) H Q := by
  refine ⟨_, _, .lst (.inl (.inl h1)) (dp_flat hf), .lst (.inl (.inl h2)) (dp_flat hf), shaped_flat hf, shaped_flat hf, ?_⟩
  have e : PyData.eqv (.list (xs.map dOf)) (.list (xs.map dOf)) = true := SeqAt.eqv_refl _ (lay_flat hf)
  rw [e]
  exact q
/-! ### t[::-1] of a tuple -/
section
variable {P : Program} {w : World} {A : Around} {E : Value → Shared → Prop} {s : Shared}
theorem back_adjust (n : Nat) : Builtin.Slice.sliceAdjust none none (-1) (n : Int) = ((n : Int) - 1, -1) := by
  have neg1 : ((-1 : Int) < 0) := by decide
  unfold Builtin.Slice.sliceAdjust
  simp only [neg1, if_true]
theorem back_places (n : Nat) : Builtin.Slice.slicePlaces ((n : Int) - 1) (-1) (-1) = n := by
  unfold Builtin.Slice.slicePlaces
  by_cases h : n = 0
  · subst h; decide
  · have e : ¬ ((-1 : Int) > 0) := by decide
    simp only [e, if_false, Int.neg_neg, Int.ediv_one]
    split <;> omega
theorem filterMap_cong {α β : Type} {f g : α → Option β} : ∀ {l : List α}, (∀ x ∈ l, f x = g x) → l.filterMap f = l.filterMap g
  | [], _ => rfl
  | x :: l, h => by
    rw [List.filterMap_cons, List.filterMap_cons, h x (List.mem_cons_self ..), filterMap_cong fun y hy => h y (List.mem_cons_of_mem _ hy)]
theorem back_pick (xs : Array Value) : ((List.range xs.size).filterMap fun (k : Nat) => xs[((xs.size : Int) - 1 + (k : Int) * (-1)).toNat]?).toArray = xs.toList.reverse.toArray := by
  have e : ((List.range xs.size).filterMap fun (k : Nat) => xs[((xs.size : Int) - 1 + (k : Int) * (-1)).toNat]?) = ((List.range xs.size).map fun k => xs.size - 1 - k).filterMap (xs[·]?) := by
    rw [List.filterMap_map]
    refine filterMap_cong fun k hk => ?_
    have hk := List.mem_range.mp hk
    show xs[((xs.size : Int) - 1 + (k : Int) * (-1)).toNat]? = xs[xs.size - 1 - k]?
    congr 1
    omega
  rw [e, PySem.W.krv_range, List.filterMap_reverse, PySem.W.krv_all]
theorem back_parts {sl : Addr} {vs : Value} {n : Nat} {Q : Int × Int × Nat → Shared → Prop} (hs : s.heap.IsSliceOf sl .none .none vs) (pt : IsPart vs (some (-1)))
    (q : Q ((n : Int) - 1, -1, n) s) : wpAny (model P w) A (Builtin.Slice.sliceApplied (.ref sl) (pure (n : Int))) Q E s := by
  obtain ⟨ob, g1, _, g3⟩ := id hs
  unfold Builtin.Slice.sliceApplied Builtin.Slice.sliceFields
  refine wpAny_bind (wpAny_bind ?_)
  refine wpAny_field g1 g3 (x := .none) rfl (wpAny_bind ?_)
  refine wpAny_field g1 g3 (x := .none) rfl (wpAny_bind ?_)
  refine wpAny_field g1 g3 (x := vs) rfl (wpAny_pure ?_)
  refine wpAny_bind (HT.slicePart_ pt ?_)
  show wpAny _ _ (if ((-1 : Int) == 0) = true then _ else _) _ _ s
  rw [if_neg (show ¬ ((-1 : Int) == 0) = true by decide)]
  refine wpAny_bind (HT.slicePart_ .none (wpAny_bind (HT.slicePart_ .none ?_)))
  refine wpAny_bind (wpAny_pure ?_)
  show wpAny _ _ (match Builtin.Slice.sliceAdjust none none (-1) (n : Int) with | (x, y) => pure (x, (-1 : Int), Builtin.Slice.slicePlaces x y (-1))) _ _ s
  rw [back_adjust]
  show wpAny _ _ (pure ((n : Int) - 1, (-1 : Int), Builtin.Slice.slicePlaces ((n : Int) - 1) (-1) (-1))) _ _ s
  rw [back_places]
  exact wpAny_pure q
theorem back_tuple {t sl : Addr} {xs : Array Value} {vs : Value} {Q : Value → Shared → Prop} (ht : IsTup s.heap t xs) (hs : s.heap.IsSliceOf sl .none .none vs) (pt : IsPart vs (some (-1))) (hz : xs.size ≤ sizeLine)
    (q : Q (.ref s.heap.objs.size) { s with heap := s.heap.push { cls := .type "tuple", data := .seq xs.toList.reverse.toArray } }) : wpAny (model P w) A (getItem (.ref t) (.ref sl)) Q E s := by
  have fits : sizeOk (.seq xs.toList.reverse.toArray) := by
    show xs.toList.reverse.toArray.size ≤ sizeLine
    simpa using hz
  obtain ⟨ob, g1, g2, _⟩ := id hs
  have isSl : s.TypeIs (.ref sl) "slice" := ⟨ob, g1, g2⟩
  unfold getItem
  try with_reducible refine wpAny_holding ?_
  first | refine wpAny_bind (wpAny_pure ?_) | skip
  refine wpAny_bind (wpAny_sequenceKey ht.typeIs (by decide) ?_)
  refine wpAny_bind (wpAny_callSpecial?_slot (name := Str.ofString "__getitem__") ht.typeIs PyProof.Rows.slot_tuple_getitem (wpAny_call_entry PyProof.Rows.slot_tuple_getitem ht.typeIs entry_tuple_getitem ?_ (args_tuple_getitem _ _)))
  show wpAny _ _ (Builtin.Tuple.tupleItemsOf (.ref t) >>= _) _ _ s
  refine wpAny_bind (tupleItemsOf_ ht (wpAny_bind (wpAny_typeOf isSl ?_)))
  rw [if_pos (show (Value.type "slice" == Value.type "slice") = true by decide)]
  refine wpAny_bind (back_parts hs pt ?_)
  show wpAny _ _ (if (((xs.size : Int) - 1) == 0 && (-1 : Int) == 1 && xs.size == xs.size) = true then _ else _) _ _ s
  have no : ¬ ((((xs.size : Int) - 1) == 0 && (-1 : Int) == 1 && xs.size == xs.size) = true) := by
    rw [show ((-1 : Int) == 1) = false by decide, Bool.and_false, Bool.false_and]
    decide
  rw [if_neg no, back_pick]
  first
    | exact wpAny_bind (m := Builtin.Tuple.tupleExact _) (wpAny_newObj_type (wpAny_pure ⟨_, rfl, wpAny_pure q⟩) fits)
    | exact wpAny_bind (m := Builtin.Tuple.tupleExact _) (wpAny_newObj_type (wpAny_bind (wpAny_pure (wpAny_pure ⟨_, rfl, wpAny_pure q⟩))) fits)
    | exact wpAny_bind (wpAny_bind (m := Builtin.Tuple.tupleExact _) (wpAny_newObj_type (wpAny_pure (wpAny_pure ⟨_, rfl, wpAny_pure q⟩)) fits))
    | exact wpAny_bind (wpAny_bind (m := Builtin.Tuple.tupleExact _) (wpAny_newObj_type (wpAny_pure ⟨_, rfl, wpAny_pure q⟩) fits))
end
theorem op_catTK {X : Cx} {K : PySem.W.Frag} (h : X.K = K) : OpR X (binaryOp .Add) (rCatT K) := by subst h; exact op_catT
/-- t[::-1] of a tuple -/
def tRevT (K : PySem.W.Frag) (te : TE) : TE := fun σ H Q => te σ H fun x H1 => ∃ a, x = .ref a ∧ ∃ xs, H1 a = some (.tup xs) ∧ ∀ p, H1 p = none → Q (.ref p) (upd H1 p (.tup xs.reverse))
theorem pe_revT {X : Cx} {K : PySem.W.Frag} (hK : X.K = K) {e : Expr} {te : TE} {k : Nat} {p1 p2 p3 pos : Pos} (he : PE X e te) : PE X (.Subscript e (.Slice none none (some (.UnaryOp .USub (.Constant (.int 1) k p1) p2)) p3) pos) (tRevT K te) := by
  subst hK
  refine ⟨fun pins s0 σ H Q I h => Subscript_ (thn (he.run pins s0 σ H _ I h) fun v s x => ?_)⟩
  obtain ⟨_, H1, I1, r1, a, rfl, xs, hx, q⟩ := x
  cases r1
  have minus : PO X (some (.UnaryOp .USub (.Constant (.int 1) k p1) p2)) (tPart (tUn (rU fun i => .int (-i)) (tC (.int 1)))) := po_some (pe_un un_neg pe_int)
  refine wpAny_Slice (thn (po_none.run pins s σ H1 (fun o G => o = none ∧ G = H1) I1 ⟨rfl, rfl⟩) fun l1 s1 x => ?_)
  obtain ⟨_, _, I2, pl, rfl, rfl⟩ := x
  refine thn (po_none.run pins s1 σ _ (fun o G => o = none ∧ G = _) I2 ⟨rfl, rfl⟩) fun l2 s2 x => ?_
  obtain ⟨_, _, I3, pu, rfl, rfl⟩ := x
  refine thn (minus.run pins s2 σ _ (fun o G => o = some (-1) ∧ G = _) I3 ⟨1, rfl, -1, rfl, rfl, rfl⟩) fun l3 s3 x => ?_
  obtain ⟨_, H4, I4, pt, rfl, rfl⟩ := x
  cases pl
  cases pu
  generalize hs4 : ({ s3 with heap := s3.heap.push { cls := .type "slice", data := .fields #[.none, .none, l3] } } : Shared) = s4
  have I5 : Inv X pins σ H4 s4 := by
    rw [← hs4]
    exact I4.kept (t' := s3.toks) fun b ob y => Heap.get?_push_of_some _ y
  have isl : s4.heap.IsSliceOf s3.heap.objs.size .none .none l3 := by
    rw [← hs4]
    exact Heap.IsSliceOf.new s3.heap .none .none l3
  obtain ⟨its, r, ht, hz⟩ := I5.tuple (.inl (.inl hx))
  have hlen := r.length
  refine tail_any (ops := [.ref a, .ref s3.heap.objs.size]) ht.typeIs PyProof.Rows.slot_tuple_getitem.lookup ?_ (by with_unfolding_all rfl)
  refine back_tuple ht isl pt (by rw [List.size_toArray]; omega) ?_
  refine ⟨.ref s4.heap.objs.size, _, I5.laid (t' := s4.toks) (o := .tup xs.reverse) (fun b ob y => Heap.get?_push_of_some _ y) (Nat.le_refl _) ?_, rfl, q _ (I5.hok.fresh (Nat.le_refl _))⟩
  exact ⟨by rw [List.length_reverse]; exact hz, _, r.reverse, IsTup.new _ _⟩
end Cs

namespace Cs
open PySem PySem.Spec PyProof.Rows L2
/-! ### f(k = e, ..), no argument by its place -/
section
variable {X : Cx} {CX : CXT} {k : Nat} {f : Addr} {fd : FuncData} {ps ks : List Str} {sp : Sp} {E : XK} {x : Str} {p pos : Pos} {kws : List Keyword} {tk : TA} {g : List Value → List Value → List Value} {gV : List V → List V → List V}
def tCallK0 (j : Nat) (sp : Sp) (gV : List V → List V → List V) (E : XK) (tk : TA) : TE := fun σ H Q => tk σ H fun zs H1 => zs.length = j ∧ sp (gV [] zs) H1 Q E
theorem pe_callK0 (F : FnOk X.prog X.w X.K X.mg X.base CX k f fd ps sp) (hr : Room k X.A) (hg : Gl X x) (hm : X.mg x = some (.ref f)) (hk : PySem.W.keepIn X.K (.ref f) = true) (hb : KBn X.K fd ps 0 ks g gV) (hx : Passes CX X E) (hkw : PK X kws tk)
    (hall : (backToKw pos (keywordEach kws X.env)).all (·.1.isSome) = true := by rfl) (hks : (backToKw pos (keywordEach kws X.env)).filterMap (·.1) = ks := by rfl) (hdb : (x == ("__debug__" : Str)) = false := by decide)
    (hpl : ((backTo pos (starEach [] X.env)).any (·.1) || (backToKw pos (keywordEach kws X.env)).any (·.1.isNone)) = false := by rfl) : PE X (.Call (.Name x p) [] kws pos) (tCallK0 ks.length sp gV E tk) := by
  refine ⟨fun pins s σ H Q I h => wpAny_Call_Name_kw (ld_glob I hg hm ?_ hdb)⟩
  refine PySem.W.callWith_KW0 (h₀ := X.base) (first := []) I.ok.mod.kin hk hall ?_ hpl
  refine thn (hkw.run pos pins s σ H _ I h) fun ws s2 ⟨zs, H2, I2, rz, l2, q2⟩ => ⟨I2.kIn, ?_⟩
  rw [hks]
  exact run_fnN (us := []) (vs := []) F hr hb hx I2 .nil rz rfl l2 q2
end
end Cs

/-! Ck: l.extend(list); tuple + tuple of any length with K fixed. -/
namespace Cs
open PySem PySem.Spec PyProof.Rows L2
theorem op_catAK {X : Cx} {K : PySem.W.Frag} (h : X.K = K) : OpR X (binaryOp .Add) (rCatA K) := by subst h; exact op_catA
section
variable {X : Cx}
/-- l.extend(e), e a list -/
def tExtend (to : TE) (t : TA) : TE := fun σ H Q => to σ H fun x H1 => ∃ p, x = .ref p ∧ ∃ xs, H1 p = some (.lst xs) ∧ t σ H1 fun vs H2 => ∃ b, vs = [.ref b] ∧ ∃ ys zs, H2 p = some (.lst ys) ∧ H2 b = some (.lst zs) ∧ ys.length + zs.length ≤ sizeLine ∧ Q .non (upd H2 p (.lst (ys ++ zs)))
theorem pe_extendL {o e : Expr} {to : TE} {t : TA} {apos cpos : Pos} (ho : PE X o to) (ha : PA X [e] t)
    (hbase : attributeBase o "extend" X.env (eval o X.env) = eval o X.env := by rfl)
    (hfew : ((backTo cpos (starEach [e] X.env)).all (fun x => !x.1) && (backToKw cpos (keywordEach [] X.env)).all (fun x => x.1.isSome)
      && decide (([e] : List Expr).length + ([] : List Keyword).length + (if ([] : List Keyword).isEmpty then 0 else 1) < 30)) = true := by rfl)
    (hline : (apos.endLine == cpos.line) = true := by rfl) (hs : starEach [e] X.env = (false, eval e X.env) :: starEach [] X.env := by rfl) :
    PE X (.Call (.Attribute o "extend" apos) [e] [] cpos) (tExtend to t) := by
  refine ⟨fun pins s σ H Q I h => ?_⟩
  refine wpAny_Call_method_late hbase hfew hline rfl (thn (ho.run pins s σ H _ I h) fun v s1 ⟨x, H1, I1, r1, p, ex, xs, hp, q1⟩ => ?_)
  subst ex
  have ty : tyV X.K "list" (.ref p) H1 := .inl ⟨rfl, xs, .inl (.inl hp)⟩
  obtain ⟨h1, h2⟩ := tyV_is I1 r1 ty
  refine ⟨"list", _, PySem.F.plainAttrs_list, PySem.F.slot_list_extend, PySem.F.type_list_extend, h1, h2, ?_⟩
  have hA := ha.run cpos pins s1 σ H1 _ I1 q1
  rw [hs] at hA ⊢
  refine Calls.callWith_builtin (by rfl) (Calls.evalArgs_plain ?_)
  refine thn hA fun us s2 ⟨vs, H2, I2, r2, b, e2, ys, zs, hp2, hb, hz, q2⟩ => ?_
  exact mt_extend pins s2 σ H2 (.ref p) vs v us Q I2 r1 r2 ⟨p, b, ys, zs, rfl, e2, hp2, hb, hz, q2⟩
end
end Cs

namespace Cs
open PySem PySem.Spec PyProof.Rows L2
/-! ### set(xs) of a list of ints -/
section
variable {P : Program} {w : World} {A : Around} {E : Value → Shared → Prop} {s : Shared}
abbrev bareSet (w : World) : Obj := { cls := .type "set", dict := none, data := .set #[] 0 (.fresh 0 0 (!w.params.followText "set-order")) }
/-- the heap with a new set -/
abbrev withSet (w : World) (h : Heap) : Heap := h.push (bareSet w)
/-- what stood still stands; the set at n holds what ns holds -/
def Filled (w : World) (s : Shared) (ns : List Int) (s2 : Shared) : Prop := ∃ h' tk c, s2 = { s with heap := h', toks := tk } ∧ SetR w h' s.heap.objs.size (fun j => decide (j ∈ ns)) c ∧ c ≤ ns.length ∧ ∀ b o, s.heap.get? b = some o → h'.get? b = some o
theorem call_setL {l : Addr} {items : Array Value} {ns : List Int} {Q : Value → Shared → Prop} (calm : A.handled = none) (hl : s.heap.IsList l items) (vals : IntsAre items.toList ns) (few : ns.length + 1 < scanBound)
    (q : ∀ s2, Filled w s ns s2 → Q (.ref s.heap.objs.size) s2) : wpAny (model P w) A (call (.type "set") [.ref l]) Q E s := by
  have count : items.size = ns.length := by have e := IntsAre.length vals; rwa [Array.length_toList] at e
  obtain ⟨_, _, hmro⟩ := F.called_set.mro
  have hmade := F.called_set.made; have hsub := F.called_set.sub
  refine wpAny_call (codeAny_of_tree (show wpAny _ _ (callAny (.type "set") _) _ _ _ from ?_))
  refine wpAny_pure ⟨Code.quiet_builtin _ (show _ by decide +kernel), codeAny_builtin F.entry_type_call ?_⟩
  rw [Around.under_plain (weight_type_call_type "set" [Value.ref l] []) rfl]
  have u1 := F.called_set.notType; have u2 := F.called_set.canCreate; have u3 := F.typeCall_set_1 (.ref l)
  repeat (any_goals (first | assumption | wp_step))
  refine codeAny_mono (code_set_led1 (.ref l) (E := E) (Q₁ := fun x s1 => x = .ref s.heap.objs.size ∧ s1 = { s with heap := withSet w s.heap }) ⟨rfl, rfl⟩) fun r s1 hr => ?_
  match r, hr with
  | .error e, hr => exact hr
  | .ok (.ret x), hr =>
    obtain ⟨rfl, rfl⟩ := hr
    have fS : (withSet w s.heap).get? s.heap.objs.size = some (bareSet w) := Heap.get?_push_size _ rfl
    have tS : Shared.TypeIs { s with heap := withSet w s.heap } (.ref s.heap.objs.size) "set" := ⟨_, fS, rfl⟩
    have u4 := F.called_set.init.lookup; have u5 := F.called_set.init.bind (.ref s.heap.objs.size)
    repeat (any_goals (first | assumption | wp_step))
    refine codeAny_mono (codeAny_call_builtin (R := wants (fun r s2 => r = .none ∧ Filled w s ns s2) E) F.called_set.init.plain F.entry_set_init (check_set_init_1 tS ?_)) fun r s2 hr => ?_
    · obtain ⟨⟨cl, dc, dt, sl⟩, fl, e1, nl, e2⟩ := hl
      simp only at e1 e2
      subst e1 e2
      have fl2 : (withSet w s.heap).get? l = some { cls := .type "list", dict := dc, data := .seq items nl, slots := sl } := Heap.get?_push_of_some _ fl
      have v1 := F.sub_list_set; have v2 := F.sub_list_frozenset; have v3 : (Value.type "list" == Value.type "dict") = false := by decide
      have isl : (withSet w s.heap).IsList l items := ⟨_, fl2, rfl, nl, rfl⟩
      unfold Builtin.«set.__init__» noKeywords Builtin.Frozenset.updateFrom
      generalize hPI : pyIter = PI
      wp_walk
      subst hPI
      refine wpAny_pyIter_list isl (wpAny_bind (wpAny_runValue ?_))
      have lt := Heap.lt_size fl
      have size1 : (withSet w s.heap).objs.size = s.heap.objs.size + 1 := Heap.size_push ..
      have nI : l ≠ (withSet w s.heap).objs.size := by rw [size1]; exact Nat.ne_of_lt (Nat.lt_succ_of_lt lt)
      have nS : s.heap.objs.size ∉ [(withSet w s.heap).objs.size, l] := by
        rw [size1]
        intro hm
        rcases List.mem_cons.mp hm with e | hm
        · exact Nat.ne_of_lt (Nat.lt_succ_self _) e
        · exact Nat.ne_of_gt lt (List.mem_singleton.mp hm)
      have read : ∀ (i : Nat) (v : Value), items[i]? = some v → ∃ k t, ns[i]? = some k ∧ v = .int k t := by
        intro i v hv
        have hi := (Array.getElem?_eq_some_iff.mp hv).1
        rw [count] at hi
        obtain ⟨t, e⟩ := PyProof.Rows.IntsAre.int_at vals i v (by rw [Array.getElem?_toList]; exact hv)
        exact ⟨ns[i], t, List.getElem?_eq_getElem hi, by rw [e, List.getD_eq_getElem?_getD, List.getElem?_eq_getElem hi] <;> rfl⟩
      refine set_update_ints ((Walks.list (by simp [calm]) _ l nI items).toS) s.heap.objs.size nS ns count few read (items.size - 0) 0 _ (by omega) (Nat.zero_le _) ⟨⟨_, Heap.get?_push_size _ rfl, rfl, rfl⟩, isl.push _⟩ ?start ?last
      case start =>
        exact ⟨0, Nat.le_refl 0, setR_new_at (Heap.get?_push_of_some _ fS)⟩
      case last =>
        rintro ⟨h2, g2, d2, t2, o2⟩ c mv few2 full
        obtain rfl : g2 = s.gens := mv.gens
        obtain rfl : d2 = s.drawn := mv.drawn
        obtain rfl : o2 = s.os := mv.os
        show wpAny _ _ _ _ _ _
        refine wpAny_pure (show wpAny _ _ (ret Value.none) _ _ _ from ?_)
        refine wpAny_pure ⟨rfl, h2, t2, c, rfl, full, by rw [← count]; exact few2, fun b o e => ?_⟩
        have lb := Heap.lt_size e
        refine mv.heap b o (fun hm => ?_) (Heap.get?_push_of_some _ (Heap.get?_push_of_some _ e))
        rcases List.mem_cons.mp hm with e | hm
        · exact Nat.ne_of_lt lb e
        · have e := List.mem_singleton.mp hm
          rw [size1] at e
          exact Nat.ne_of_lt (Nat.lt_succ_of_lt lb) e
    · match r, hr with
      | .error e, hr => exact hr
      | .ok (.ret x), hr =>
        obtain ⟨rfl, fil⟩ := hr
        have Qe := q s2 fil
        obtain ⟨h2, t2, c2, rfl, f1, f2, f3⟩ := id fil
        repeat (any_goals (first | assumption | wp_step))
      | .ok .next, hr => exact hr.elim
      | .ok .brk, hr => exact hr.elim
      | .ok .cont, hr => exact hr.elim
  | .ok .next, hr => exact hr.elim
  | .ok .brk, hr => exact hr.elim
  | .ok .cont, hr => exact hr.elim
end
/-- set(xs) of a list of ints -/
def rSetLI (w : World) : List V → Hp → VK → Prop := fun vs H Q => ∃ l : Addr, vs = [.ref l] ∧ ∃ ns : List Int, H l = some (.lst (ns.map V.int)) ∧ ns.length ≤ 1000 ∧ ∀ p c, H p = none → c ≤ ns.length → Q (.ref p) (upd H p (SetO w p (fun j => decide (j ∈ ns)) c))
theorem cr_setLI {X : Cx} (hc : X.calm = true) : CallR X (.type "set") (rSetLI X.w) := by
  intro pins s σ H vs us Q I r h
  obtain ⟨l, rfl, ns, hl, few, q⟩ := h
  rw [Vals.ref1 r]
  obtain ⟨its, r2, ht, hz⟩ := I.list (.inl (.inl hl))
  refine call_setL (I.ok.hd hc) ht.isList (intsAre_of r2) (Nat.lt_of_le_of_lt (Nat.succ_le_succ few) (by decide)) fun s2 fil => ?_
  obtain ⟨h2, t2, c, rfl, f1, f2, f3⟩ := fil
  exact ⟨.ref _, _, I.laid (t' := t2) f3 (Nat.le_refl _) (setO_new f1), rfl, q _ c (I.hok.fresh (Nat.le_refl _)) f2⟩
/-- sorted(set) -/
def rSortLI (w : World) : List V → Hp → VK → Prop := fun vs H Q => ∃ (a : Addr) (S : Int → Bool) (n : Nat), vs = [V.ref a] ∧ H a = some (SetO w a S n) ∧ n < 64 ∧ ∀ (ns : List Int) (p : Addr), ns.Pairwise (· < ·) → (∀ k : Int, k ∈ ns ↔ S k = true) → ns.length = n → H p = none → Q (.ref p) (upd H p (.lst (ns.map V.int)))
theorem cr_sortLI {X : Cx} (hc : X.calm = true) : CallR X (.builtin "sorted") (rSortLI X.w) := cr_sortedSet hc
end Cs

/-! Cl: l.clear(), l.reverse(), l.pop(); set(xs) of a list or a tuple of tuples of ints. -/
namespace Cs
open PySem PySem.Spec PyProof.Rows L2
section
variable {X : Cx}
/-- o.name(), o a list -/
theorem list0_run {name : Str} {id : String} {r : V → List V → Hp → VK → Prop} {o : Expr} {to : TE} {apos cpos : Pos} (slot : Slot "list" name id) (hty : typeOf (.builtin id) = pure (.type "method_descriptor")) (hm : MtR X id r) (ho : PE X o to)
    (hbase : attributeBase o name X.env (eval o X.env) = eval o X.env) (hline : (apos.endLine == cpos.line) = true) :
    PE X (.Call (.Attribute o name apos) [] [] cpos) (fun σ H Q => to σ H fun x H1 => ∃ p, x = .ref p ∧ ∃ xs, H1 p = some (.lst xs) ∧ r (.ref p) [] H1 Q) := by
  refine ⟨fun pins s σ H Q I h => wpAny_Call_method0_late hbase hline (thn (ho.run pins s σ H _ I h) fun v s1 y => ?_)⟩
  obtain ⟨x, H1, I1, r1, p, rfl, xs, hp, q⟩ := y
  have ty : tyV X.K "list" (.ref p) H1 := .inl ⟨rfl, xs, .inl (.inl hp)⟩
  obtain ⟨g1, g2⟩ := tyV_is I1 r1 ty
  exact ⟨"list", id, PySem.F.plainAttrs_list, slot, hty, g1, g2, Calls.callWith_builtin rfl (PySem.evalArgs_none (hm pins s1 σ H1 (.ref p) [] v [] Q I1 r1 .nil q))⟩
theorem _root_.L2.PE.weak {e : Expr} {t t' : TE} (h : PE X e t) (m : ∀ σ H Q, t' σ H Q → t σ H Q) : PE X e t' := ⟨fun pins s σ H Q I q => h.run pins s σ H Q I (m σ H Q q)⟩
end
/-- readings of to are monotone in what is wanted -/
def MonT (to : TE) : Prop := ∀ σ H (Q Q' : VK), (∀ x H1, Q x H1 → Q' x H1) → to σ H Q → to σ H Q'
theorem mon_var (i : Nat) : MonT (tVar i) := fun σ H Q Q' m ⟨v, e, q⟩ => ⟨v, e, m _ _ q⟩
def tClear (to : TE) : TE := fun σ H Q => to σ H fun x H1 => ∃ p, x = .ref p ∧ ∃ xs, H1 p = some (.lst xs) ∧ Q .non (upd H1 p (.lst []))
def tRever (to : TE) : TE := fun σ H Q => to σ H fun x H1 => ∃ p, x = .ref p ∧ ∃ xs, H1 p = some (.lst xs) ∧ Q .non (upd H1 p (.lst xs.reverse))
def tPop0 (to : TE) : TE := fun σ H Q => to σ H fun x H1 => ∃ p, x = .ref p ∧ ∃ xs, H1 p = some (.lst xs) ∧ ∃ y, xs[xs.length - 1]? = some y ∧ Q y (upd H1 p (.lst xs.dropLast))
section
variable {X : Cx} {o : Expr} {to : TE} {apos cpos : Pos}
theorem pe_clearL (ho : PE X o to) (mo : MonT to) (hbase : attributeBase o "clear" X.env (eval o X.env) = eval o X.env := by rfl) (hline : (apos.endLine == cpos.line) = true := by rfl) : PE X (.Call (.Attribute o "clear" apos) [] [] cpos) (tClear to) :=
  (list0_run PySem.F.slot_list_clear PySem.F.type_list_clear mt_clear ho hbase hline).weak fun σ H Q h => mo σ H _ _ (fun x H1 ⟨p, e, xs, hp, q⟩ => ⟨p, e, xs, hp, p, xs, rfl, rfl, hp, q⟩) h
theorem pe_reverL (ho : PE X o to) (mo : MonT to) (hbase : attributeBase o "reverse" X.env (eval o X.env) = eval o X.env := by rfl) (hline : (apos.endLine == cpos.line) = true := by rfl) : PE X (.Call (.Attribute o "reverse" apos) [] [] cpos) (tRever to) :=
  (list0_run PySem.F.slot_list_reverse PySem.F.type_list_reverse mt_reverse ho hbase hline).weak fun σ H Q h => mo σ H _ _ (fun x H1 ⟨p, e, xs, hp, q⟩ => ⟨p, e, xs, hp, p, xs, rfl, rfl, hp, q⟩) h
theorem pe_popL (ho : PE X o to) (mo : MonT to) (hbase : attributeBase o "pop" X.env (eval o X.env) = eval o X.env := by rfl) (hline : (apos.endLine == cpos.line) = true := by rfl) : PE X (.Call (.Attribute o "pop" apos) [] [] cpos) (tPop0 to) :=
  (list0_run PySem.F.slot_list_pop PySem.F.type_list_pop mt_pop ho hbase hline).weak fun σ H Q h => mo σ H _ _ (fun x H1 ⟨p, e, xs, hp, y, hy, q⟩ => ⟨p, e, xs, hp, p, xs, y, rfl, rfl, hp, hy, q⟩) h
end
/-! ### set(xs), xs a tuple of tuples of ints -/
section
variable {P : Program} {w : World} {A : Around} {E : Value → Shared → Prop} {s : Shared}
/-- what stood still stands; the set at the new place holds what ks holds -/
def FilledT (P : Program) (w : World) (s : Shared) (ks : List (Addr × List Int)) (s2 : Shared) : Prop := ∃ h' tk L es ep t, s2 = { s with heap := h', toks := tk } ∧ SetTR P w h' s.heap.objs.size L es ep t ∧ Got ks ks.length L ∧ ∀ b o, s.heap.get? b = some o → h'.get? b = some o
theorem call_setTT {l : Addr} {items : Array Value} {ks : List (Addr × List Int)} {Q : Value → Shared → Prop} (calm : A.handled = none) (hl : s.heap.IsTuple l items) (vals : items.toList = ks.map fun p => Value.ref p.1) (tups : ∀ p ∈ ks, IsT P w s.heap p.2 p.1) (few : ks.length < 64) (hu : A.units + 3 < cLine)
    (q : ∀ s2, FilledT P w s ks s2 → Q (.ref s.heap.objs.size) s2) : wpAny (model P w) A (call (.type "set") [.ref l]) Q E s := by
  have count : items.size = ks.length := by have e := congrArg List.length vals; rwa [Array.length_toList, List.length_map] at e
  obtain ⟨_, _, hmro⟩ := F.called_set.mro
  have hmade := F.called_set.made; have hsub := F.called_set.sub
  refine wpAny_call (codeAny_of_tree (show wpAny _ _ (callAny (.type "set") _) _ _ _ from ?_))
  refine wpAny_pure ⟨Code.quiet_builtin _ (show _ by decide +kernel), codeAny_builtin F.entry_type_call ?_⟩
  rw [Around.under_plain (weight_type_call_type "set" [Value.ref l] []) rfl]
  have u1 := F.called_set.notType; have u2 := F.called_set.canCreate; have u3 := F.typeCall_set_1 (.ref l)
  repeat (any_goals (first | assumption | wp_step))
  refine codeAny_mono (code_set_led1 (.ref l) (E := E) (Q₁ := fun x s1 => x = .ref s.heap.objs.size ∧ s1 = { s with heap := withSet w s.heap }) ⟨rfl, rfl⟩) fun r s1 hr => ?_
  match r, hr with
  | .error e, hr => exact hr
  | .ok (.ret x), hr =>
    obtain ⟨rfl, rfl⟩ := hr
    have fS : (withSet w s.heap).get? s.heap.objs.size = some (bareSet w) := Heap.get?_push_size _ rfl
    have tS : Shared.TypeIs { s with heap := withSet w s.heap } (.ref s.heap.objs.size) "set" := ⟨_, fS, rfl⟩
    have u4 := F.called_set.init.lookup; have u5 := F.called_set.init.bind (.ref s.heap.objs.size)
    repeat (any_goals (first | assumption | wp_step))
    refine codeAny_mono (codeAny_call_builtin (R := wants (fun r s2 => r = .none ∧ FilledT P w s ks s2) E) F.called_set.init.plain F.entry_set_init (check_set_init_1 tS ?_)) fun r s2 hr => ?_
    · obtain ⟨⟨cl, dc, dt, sl⟩, fl, e1, nl, e2⟩ := hl
      simp only at e1 e2
      subst e1 e2
      have fl2 : (withSet w s.heap).get? l = some { cls := .type "tuple", dict := dc, data := .seq items nl, slots := sl } := Heap.get?_push_of_some _ fl
      have v1 := F.sub_tuple_set; have v2 := F.sub_tuple_frozenset; have v3 : (Value.type "tuple" == Value.type "dict") = false := by decide
      have isl : (withSet w s.heap).IsTuple l items := ⟨_, fl2, rfl, nl, rfl⟩
      unfold Builtin.«set.__init__» noKeywords Builtin.Frozenset.updateFrom
      generalize hPI : pyIter = PI
      wp_walk
      subst hPI
      refine wpAny_pyIter_tuple isl (wpAny_bind (wpAny_runValue ?_))
      have lt := Heap.lt_size fl
      have size1 : (withSet w s.heap).objs.size = s.heap.objs.size + 1 := Heap.size_push ..
      have nI : l ≠ (withSet w s.heap).objs.size := by rw [size1]; exact Nat.ne_of_lt (Nat.lt_succ_of_lt lt)
      have nS : s.heap.objs.size ∉ [(withSet w s.heap).objs.size, l] := by
        rw [size1]
        intro hm
        rcases List.mem_cons.mp hm with e | hm
        · exact Nat.ne_of_lt (Nat.lt_succ_self _) e
        · exact Nat.ne_of_gt lt (List.mem_singleton.mp hm)
      have read : ∀ (i : Nat) (v : Value), items[i]? = some v → ∃ p, ks[i]? = some p ∧ v = .ref p.1 := by
        intro i v hv
        have e : items.toList[i]? = some v := by rw [Array.getElem?_toList]; exact hv
        rw [vals, List.getElem?_map, Option.map_eq_some_iff] at e
        obtain ⟨p, h1, h2⟩ := e
        exact ⟨p, h1, h2.symm⟩
      have nowhere : ∀ b, s.heap.objs.size ≤ b → s.heap.get? b = none := fun b hb => by
        cases e : s.heap.get? b with
        | none => rfl
        | some o => exact absurd (Heap.lt_size e) (Nat.not_lt.mpr hb)
      refine set_update_tups ((Walks.tuple (by simp [calm]) _ l nI items).toS) s.heap.objs.size nS ks count few read s.heap tups (nowhere _ (Nat.le_refl _)) (fun b hb => nowhere b (by rw [List.mem_singleton.mp hb, size1]; exact Nat.le_succ _)) hu
        (items.size - 0) 0 _ (by omega) (Nat.zero_le _) ⟨⟨_, Heap.get?_push_size _ rfl, rfl, rfl⟩, isl.push _⟩ (fun b o e => Heap.get?_push_of_some _ (Heap.get?_push_of_some _ e)) ?start ?last
      case start =>
        exact ⟨[], #[], 0, _, setTR_fresh (Heap.get?_push_of_some _ fS), Got.zero ks⟩
      case last =>
        rintro ⟨h2, g2, d2, t2, o2⟩ L es ep t mv full got kept
        obtain rfl : g2 = s.gens := mv.gens
        obtain rfl : d2 = s.drawn := mv.drawn
        obtain rfl : o2 = s.os := mv.os
        show wpAny _ _ _ _ _ _
        refine wpAny_pure (show wpAny _ _ (ret Value.none) _ _ _ from ?_)
        exact wpAny_pure ⟨rfl, h2, t2, L, es, ep, t, rfl, full, by rw [← count]; exact got, kept⟩
    · match r, hr with
      | .error e, hr => exact hr
      | .ok (.ret x), hr =>
        obtain ⟨rfl, fil⟩ := hr
        have Qe := q s2 fil
        obtain ⟨h2, t2, L, es, ep, t, rfl, f1, f2, f3⟩ := id fil
        repeat (any_goals (first | assumption | wp_step))
      | .ok .next, hr => exact hr.elim
      | .ok .brk, hr => exact hr.elim
      | .ok .cont, hr => exact hr.elim
  | .ok .next, hr => exact hr.elim
  | .ok .brk, hr => exact hr.elim
  | .ok .cont, hr => exact hr.elim
end
theorem zip_refs : ∀ {as : List Addr} {gs : List (List Int)}, as.length = gs.length → (as.zip gs).map (fun p => V.ref p.1) = as.map V.ref
  | [], [], _ => rfl
  | [], _ :: _, h => by simp at h
  | _ :: _, [], h => by simp at h
  | a :: as, g :: gs, h => by
    rw [List.zip_cons_cons, List.map_cons, List.map_cons, zip_refs (by simpa using h)]
theorem zip_at {H : Hp} {as : List Addr} {gs : List (List Int)} (h : AsT H as gs) : ∀ p ∈ as.zip gs, H p.1 = some (.tup (p.2.map V.int)) := fun p hp => by
  obtain ⟨i, hi, e⟩ := List.getElem_of_mem hp
  rw [List.getElem_zip] at e
  rw [← e]
  rw [List.length_zip] at hi
  exact h.2 i _ _ (List.getElem?_eq_getElem (by omega)) (List.getElem?_eq_getElem (by omega))
/-- set(xs), xs a list or a tuple of tuples of ints -/
def rSetTT (P : Program) (w : World) : List V → Hp → VK → Prop := fun vs H Q => ∃ (l : Addr) (k : Bool) (as : List Addr) (gs : List (List Int)), vs = [.ref l] ∧ Sqh k H l (as.map V.ref) ∧ AsT H as gs ∧ gs.length < 64 ∧
  ∀ a L, H a = none → (∀ p ∈ L, H p.1 = some (.tup (p.2.map V.int))) → (∀ g, g ∈ L.map (·.2) ↔ g ∈ gs) → Q (.ref a) (upd H a (SetTO P w a L))
theorem cr_setTT {X : Cx} (hc : X.calm = true) (hu : X.A.units + 64 < cLine) : CallR X (.type "set") (rSetTT X.prog X.w) := by
  intro pins s σ H vs us Q I r h
  obtain ⟨l, k, as, gs, rfl, hl, hA, few, q⟩ := h
  have hz := zip_refs hA.1
  have hzl : (as.zip gs).length = gs.length := by rw [List.length_zip, hA.1, Nat.min_self]
  have hzs : (as.zip gs).map (·.2) = gs := List.map_snd_zip (by rw [hA.1]; exact Nat.le_refl _)
  have fin : ∀ a L, H a = none → (∀ p ∈ L, p ∈ as.zip gs) → (∀ p ∈ as.zip gs, p.2 ∈ L.map (·.2)) → Q (.ref a) (upd H a (SetTO X.prog X.w a L)) := fun a L ha h1 h2 => by
    refine q a L ha (fun p hp => zip_at hA p (h1 p hp)) fun g => ⟨fun hg => ?_, fun hg => ?_⟩
    · obtain ⟨p, hp, rfl⟩ := List.mem_map.mp hg
      exact (List.of_mem_zip (h1 p hp)).2
    · rw [← hzs] at hg
      obtain ⟨p, hp, rfl⟩ := List.mem_map.mp hg
      exact h2 p hp
  cases k with
  | true =>
    have hl' : H l = some (.lst (as.map V.ref)) := hl
    exact cr_setOfT hc hu pins s σ H _ us Q I r ⟨l, as.zip gs, rfl, .inl (.inl (by rw [hz]; exact hl')), fun p hp => .inl (.inl (zip_at hA p hp)), by rw [hzl]; exact few, fin⟩
  | false =>
    have hl' : H l = some (.tup (as.map V.ref)) := hl
    rw [Vals.ref1 r]
    obtain ⟨its, rv, ht, hz2⟩ := I.tuple (.inl (.inl hl'))
    rw [← hz] at rv
    refine call_setTT (ks := as.zip gs) (I.ok.hd hc) (show s.heap.IsTuple l its.toArray from ht) (by simpa using refs_of_vals rv) (fun p hp => I.isT (.inl (.inl (zip_at hA p hp)))) (by rw [hzl]; exact few) (by omega) fun s2 fil => ?_
    obtain ⟨h2, t2, L, es, ep, t, rfl, f1, f2, f3⟩ := fil
    refine ⟨.ref _, _, I.laid (t' := t2) f3 (Nat.le_refl _) (setTO_new f1.t0), rfl, fin _ L (I.hok.fresh (Nat.le_refl _)) (fun p hp => ?_) fun p hp => ?_⟩
    · exact List.mem_of_mem_take (f2.sub p hp)
    · exact f2.all p (by rw [List.take_length]; exact hp)
end Cs

/-! Cm: zip of two of different lengths; sorted(list of tuples of ints). -/
namespace Cs
open PySem PySem.Spec PyProof.Rows L2
/-! ### for a, b in zip(x, y), the shorter one ends it -/
def Iz2m (K : PySem.W.Frag) (k1 k2 : Bool) (a b : Addr) : It := ⟨(Iz2 K k1 k2 a b).go, (Iz2 K k1 k2 a b).yld, fun i H => ∃ xs ys : List V, Sqk K k1 H a xs ∧ Sqk K k2 H b ys ∧ min xs.length ys.length = i⟩
theorem turn_z2m {P : Program} {w : World} {K : PySem.W.Frag} {elts : List Expr} {kk : Nat} {tpos : Pos} {k1 k2 : Bool} {a b z TI TO i1 i2 : Addr} (S : ZipSep2 z TI TO i1 i2 [i1, a] [i2, b]) (n1 : a ≠ i1) (n2 : b ≠ i2) :
    Turn P w K (.Tuple elts kk tpos) (Iz2m K k1 k2 a b) [z, TI, TO, i1, i2] z (fun i h => IsZip h z TI TO .none ∧ IsTupOf2 h TI (.ref i1) (.ref i2) ∧ (∃ x y, IsTupOf2 h TO x y) ∧ ItK k1 h i1 a i ∧ ItK k2 h i2 b i) where
  mem := (turn_z2 (P := P) (w := w) (K := K) (elts := elts) (kk := kk) (tpos := tpos) (k1 := k1) (k2 := k2) S n1 n2).mem
  obj := (turn_z2 (P := P) (w := w) (K := K) (elts := elts) (kk := kk) (tpos := tpos) (k1 := k1) (k2 := k2) S n1 n2).obj
  keep := (turn_z2 (P := P) (w := w) (K := K) (elts := elts) (kk := kk) (tpos := tpos) (k1 := k1) (k2 := k2) S n1 n2).keep
  item := (turn_z2 (P := P) (w := w) (K := K) (elts := elts) (kk := kk) (tpos := tpos) (k1 := k1) (k2 := k2) S n1 n2).item
  done := by
    intro X hP hw hK hc i pins s σ H E I hf st hg
    subst hP hw hK
    obtain ⟨xs, ys, hqx, hqy, hi⟩ := hg
    obtain ⟨its, rv, p⟩ := invK I hqx
    obtain ⟨its2, rv2, p2⟩ := invK I hqy
    have hh : X.A.handled = none := I.ok.hd hc
    have D1 := drawsK (prog := X.prog) (w := X.w) (A := X.A.in1) hh k1 i1 a n1 its.toArray
    have D2 := drawsK (prog := X.prog) (w := X.w) (A := X.A.in1) hh k2 i2 b n2 its2.toArray
    have W := GoesN.zip2 (elts := elts) (x1 := kk) (pos := tpos) S D1 D2
    have l1 := rv.length
    have l2 := rv2.length
    have en : min its.toArray.size its2.toArray.size = i := by simp only [List.size_toArray]; omega
    have g1 : ItK k1 s.heap i1 a (min its.toArray.size its2.toArray.size) := by rw [en]; exact st.2.2.2.1
    have g2 : ItK k2 s.heap i2 b (min its.toArray.size its2.toArray.size) := by rw [en]; exact st.2.2.2.2
    refine W.stops s (fun s1 => Inv X pins σ H s1) E ⟨st.1, st.2.1, st.2.2.1, ⟨g1, p⟩, g2, p2⟩ fun h' tk hk htk => ?_
    refine I.turnedL (t' := tk) (ch := [z, TI, TO, i1, i2]) (fun c o hb q => hk c o (fun hm => hb ?_) q) hf
    simp only [List.mem_cons, List.mem_nil_iff, or_false] at hm ⊢
    rcases hm with q | q | q | q <;> simp [q]
  self := (turn_z2 (P := P) (w := w) (K := K) (elts := elts) (kk := kk) (tpos := tpos) (k1 := k1) (k2 := k2) S n1 n2).self
theorem walk_z2m {K : PySem.W.Frag} {k1 k2 : Bool} {a b : Addr} {xs ys : List V} : Walk (Iz2m K k1 k2 a b) (min xs.length ys.length) (fun H => Sqk K k1 H a xs ∧ Sqk K k2 H b ys) (YPair (fun i => xs[i]?) (fun i => ys[i]?)) := by
  refine ⟨fun i _ hi q => ?_, fun _ q => ⟨xs, ys, q.1, q.2, rfl⟩, fun i H v H' _ q y => ?_⟩
  · have h1 : i < xs.length := by omega
    have h2 : i < ys.length := by omega
    exact ⟨xs, ys, xs[i], ys[i], q.1, q.2, by simp [h1], by simp [h2]⟩
  · obtain ⟨T, x, z, h1, h2, h3, h4, h5⟩ := y
    exact ⟨T, x, z, h1, h2, h3, h4 xs q.1, h5 ys q.2⟩
def iZ2M (ta : TA) : TI := fun σ H R => ta σ H fun vs H1 => ∃ a b, vs = [.ref a, .ref b] ∧ ∃ (k1 k2 : Bool) (xs ys : List V), Sqh k1 H1 a xs ∧ Sqh k2 H1 b ys ∧ ∀ J : It, Walk J (min xs.length ys.length) (fun H => Sqh k1 H a xs ∧ Sqh k2 H b ys) (YPair (fun i => xs[i]?) (fun i => ys[i]?)) → R J H1
theorem pi_z2M {X : Cx} {e e2 : Expr} {ta : TA} {p pos tpos : Pos} {elts : List Expr} {kk : Nat} (hg : Gl X "zip") (hm : X.mg "zip" = none) (ha : PA X [e, e2] ta)
    (hs : starEach [e, e2] X.env = (false, eval e X.env) :: starEach [e2] X.env := by rfl) (hpl : (backTo pos (starEach [e2] X.env)).any (·.1) = false := by rfl) :
    PI X (.Tuple elts kk tpos) (.Call (.Name "zip" p) [e, e2] [] pos) (iZ2M ta) := by
  refine ⟨fun pins s σ H R I h => ?_⟩
  refine Call_ (ld_blt I hg hm PyProof.Rows.boot_zip (PyProof.Rows.callWith_type1 (thn (ha.run pos pins s σ H _ I h) fun us s1 ⟨vs, H1, I1, r1, q1⟩ => ?_) hs hpl))
  obtain ⟨a, b, ex, k1, k2, xs, ys, tx, ty, q⟩ := q1
  subst ex
  have q := q (Iz2m X.K k1 k2 a b) ((walk_z2m (K := X.K) (k1 := k1) (k2 := k2) (a := a) (b := b) (xs := xs) (ys := ys)).mono (fun H h => ⟨h.1.sqk, h.2.sqk⟩) fun _ _ _ _ _ _ y => y)
  have tx : Sqk X.K k1 H1 a xs := tx.sqk
  have ty : Sqk X.K k2 H1 b ys := ty.sqk
  cases r1 with
  | cons r rr =>
    cases rr with
    | cons r' rr =>
      cases rr
      cases r
      cases r'
      obtain ⟨its, rv, p1⟩ := invK I1 tx
      obtain ⟨its2, rv2, p2⟩ := invK I1 ty
      have la : a < s1.heap.objs.size := p1.lt
      have lb : b < s1.heap.objs.size := p2.lt
      refine zip_begins2 (begK k1 a its.toArray) (begK k2 b its2.toArray) p1 p2 fun h' hz hTI hTO h1 h2 hsz hk => wpAny_pyIter_zip hz ?_
      have I2 : Inv X pins σ H1 { s1 with heap := h' } := I1.kept (t' := s1.toks) hk
      refine ⟨s1.heap.objs.size + 4, [s1.heap.objs.size + 4, s1.heap.objs.size + 2, s1.heap.objs.size + 3, s1.heap.objs.size, s1.heap.objs.size + 1], _, _, H1, rfl, I2,
        turn_z2m (zip_sep2 (fun b hb => by simp at hb; rw [hb]; exact la) (fun b hb => by simp at hb; rw [hb]; exact lb)) (Nat.ne_of_lt la) (Nat.ne_of_lt (Nat.lt_succ_of_lt lb)), ⟨hz, hTI, ⟨_, _, hTO⟩, ItK.new h1, ItK.new h2⟩, fun c hcm => ?_, q⟩
      have e' : c = s1.heap.objs.size + 4 ∨ c = s1.heap.objs.size + 2 ∨ c = s1.heap.objs.size + 3 ∨ c = s1.heap.objs.size ∨ c = s1.heap.objs.size + 1 := by simpa using hcm
      have hle : s1.heap.objs.size ≤ c := by
        rcases e' with z | z | z | z | z
        · rw [z]; exact Nat.le_add_right _ _
        · rw [z]; exact Nat.le_add_right _ _
        · rw [z]; exact Nat.le_add_right _ _
        · rw [z]; exact Nat.le_refl _
        · rw [z]; exact Nat.le_add_right _ _
      exact I1.fpOk hle (I1.hok.fresh hle)
/-! ### sorted(xs), xs a list of tuples of ints -/
/-- ascending tuples of one length, of ints from 0 on -/
def SrtT (hs : List (List Int)) : Prop := hs.Pairwise fun x y => TS.code (2 ^ 1000) x ≤ TS.code (2 ^ 1000) y
theorem code_inj {B : Int} : ∀ {x y : List Int}, x.length = y.length → TS.Bd B x → TS.Bd B y → TS.code B x = TS.code B y → x = y
  | [], [], _, _, _, _ => rfl
  | [], _ :: _, h, _, _, _ => by simp at h
  | _ :: _, [], h, _, _, _ => by simp at h
  | d :: r, e :: q, h, h1, h2, hc => by
    have hl : r.length = q.length := by simpa using h
    rcases Int.lt_trichotomy d e with c | c | c
    · have := TS.code_lt hl h1.tail h2.tail c
      omega
    · subst c
      have e1 : ¬ TS.code B r < TS.code B q := fun z => by have := (TS.code_same (d := d) hl).mpr z; omega
      have e2 : ¬ TS.code B q < TS.code B r := fun z => by have := (TS.code_same (d := d) hl.symm).mpr z; omega
      rw [code_inj hl h1.tail h2.tail (by omega)]
    · have := TS.code_lt hl.symm h2.tail h1.tail c
      omega
theorem srt_same {d : Nat} : ∀ {hs ks : List (List Int)}, hs.Perm ks → SrtT hs → SrtT ks → (∀ g ∈ hs, g.length = d ∧ TS.Bd (2 ^ 1000) g) → hs = ks
  | [], ks, p, _, _, _ => by rw [List.nil_perm.mp p]
  | x :: hs, [], p, _, _, _ => by simpa using p.length_eq
  | x :: hs, y :: ks, p, h1, h2, hb => by
    have hxk : x ∈ y :: ks := p.mem_iff.mp (List.mem_cons_self ..)
    have hyh : y ∈ x :: hs := p.mem_iff.mpr (List.mem_cons_self ..)
    have e1 : TS.code (2 ^ 1000) y ≤ TS.code (2 ^ 1000) x := by
      rcases List.mem_cons.mp hxk with e | e
      · rw [e]; exact Int.le_refl _
      · exact (List.pairwise_cons.mp h2).1 x e
    have e2 : TS.code (2 ^ 1000) x ≤ TS.code (2 ^ 1000) y := by
      rcases List.mem_cons.mp hyh with e | e
      · rw [e]; exact Int.le_refl _
      · exact (List.pairwise_cons.mp h1).1 y e
    have bx := hb x (List.mem_cons_self ..)
    have byy := hb y hyh
    have e3 : x = y := code_inj (by rw [bx.1, byy.1]) bx.2 byy.2 (by omega)
    subst e3
    rw [srt_same (List.Perm.cons_inv p) (List.pairwise_cons.mp h1).2 (List.pairwise_cons.mp h2).2 fun g hg => hb g (List.mem_cons_of_mem _ hg)]
theorem perm_lift {α β : Type} {f : α → β} {ys xs : List β} (p : ys.Perm xs) : ∀ l : List α, l.map f = xs → ∃ l' : List α, l'.Perm l ∧ l'.map f = ys := by
  induction p with
  | nil => intro l e; exact ⟨[], by rw [List.map_eq_nil_iff.mp e], rfl⟩
  | cons x p ih =>
    intro l e
    cases l with
    | nil => simp at e
    | cons z l =>
      simp only [List.map_cons, List.cons.injEq] at e
      obtain ⟨l', h1, h2⟩ := ih l e.2
      exact ⟨z :: l', h1.cons z, by rw [List.map_cons, e.1, h2]⟩
  | swap x y l0 =>
    intro l e
    match l, e with
    | a :: b :: l, e =>
      simp only [List.map_cons, List.cons.injEq] at e
      exact ⟨b :: a :: l, List.Perm.swap .., by rw [List.map_cons, List.map_cons, e.1, e.2.1, e.2.2]⟩
    | [_], e => simp at e
    | [], e => simp at e
  | trans _ _ ih1 ih2 =>
    intro l e
    obtain ⟨l1, h1, e1⟩ := ih2 l e
    obtain ⟨l2, h2, e2⟩ := ih1 l1 e1
    exact ⟨l2, h2.trans h1, e2⟩
def rSortTT : List V → Hp → VK → Prop := fun vs H Q => ∃ (l : Addr) (as : List Addr) (gs : List (List Int)) (d : Nat), vs = [.ref l] ∧ H l = some (.lst (as.map V.ref)) ∧ AsT H as gs ∧ gs.length < 64 ∧ 1 ≤ d ∧ (∀ g ∈ gs, g.length = d ∧ TS.Bd (2 ^ 1000) g) ∧
  ∀ p bs hs, H p = none → AsT H bs hs → hs.Perm gs → SrtT hs → Q (.ref p) (upd H p (.lst (bs.map V.ref)))
theorem cr_sortTT {X : Cx} : CallR X (.builtin "sorted") rSortTT := by
  intro pins s σ H vs us Q I r h
  obtain ⟨l, as, gs, d, rfl, hl, hA, few, d1, hb, q⟩ := h
  have hzl : (as.zip gs).map (·.2) = gs := List.map_snd_zip (by rw [hA.1]; exact Nat.le_refl _)
  refine cr_sortT (d := d) (B := 2 ^ 1000) d1 pins s σ H _ us Q I r ⟨l, as.map V.ref, rfl, .inl (.inl hl), by rw [List.length_map, hA.1]; exact few, fun x hx => ?_, fun ys p hperm hpw hp => ?_⟩
  · obtain ⟨a, ha, rfl⟩ := List.mem_map.mp hx
    obtain ⟨i, hi, e⟩ := List.getElem_of_mem ha
    have hi2 : i < gs.length := by rw [← hA.1]; exact hi
    have hg := List.getElem_mem hi2
    exact ⟨gs[i], ⟨a, rfl, .inl (.inl (hA.2 i a _ (by rw [List.getElem?_eq_getElem hi, e]) (List.getElem?_eq_getElem hi2)))⟩, (hb _ hg).1, (hb _ hg).2⟩
  · obtain ⟨zs, hz, rfl⟩ := perm_lift (f := fun p : Addr × List Int => V.ref p.1) hperm (as.zip gs) (zip_refs hA.1)
    have hzat : ∀ z ∈ zs, H z.1 = some (.tup (z.2.map V.int)) := fun z hz2 => zip_at hA z (hz.mem_iff.mp hz2)
    have q' := q p (zs.map (·.1)) (zs.map (·.2)) hp ⟨by simp, fun i t g h1 h2 => ?_⟩ ?_ ?_
    · rw [List.map_map] at q'
      exact q'
    · simp only [List.getElem?_map, Option.map_eq_some_iff] at h1 h2
      obtain ⟨z, hz1, rfl⟩ := h1
      obtain ⟨z', hz2, rfl⟩ := h2
      rw [hz1] at hz2
      obtain rfl := Option.some.inj hz2
      exact hzat z (List.mem_of_getElem? hz1)
    · have := hz.map (·.2)
      rw [hzl] at this
      exact this
    · unfold SrtT
      rw [List.pairwise_map] at hpw ⊢
      exact List.Pairwise.imp_of_mem (fun {a b} ha hb h => h a.2 b.2 ⟨a.1, rfl, .inl (.inl (hzat a ha))⟩ ⟨b.1, rfl, .inl (.inl (hzat b hb))⟩) hpw
end Cs

/-! Cp: list(zip(x, y)), its tuples kept. -/
namespace Cs
open PySem PySem.Spec PyProof.Rows L2
section
variable {prog : Program} {w : World} {A : Around} {E : Value → Shared → Prop} {s : Shared} {z TI TO T i1 i2 : Addr} {f : Bool} {oT : Obj} {fp1 fp2 : List Addr} {n1 n2 i : Nat} {P1 P2 : Nat → Value → Prop} {St1 St2 : Nat → Heap → Prop}
theorem zl_held_item {Q : Value → Shared → Prop} (S : ZipSep2 z TI TO i1 i2 fp1 fp2) (D1 : Draws prog w A i1 fp1 n1 P1 St1) (D2 : Draws prog w A i2 fp2 n2 P2 St2)
    (hz : IsZipHeld s.heap z TI TO T f) (hT : s.heap.get? T = some oT) (hTI : IsTupOf2 s.heap TI (.ref i1) (.ref i2)) (st1 : St1 i s.heap) (st2 : St2 i s.heap) (hlt1 : i < n1) (hlt2 : i < n2)
    (hQ : ∀ x1 x2 h' tk, P1 i x1 → P2 i x2 → IsZipHeld h' z TI TO T true → St1 (i + 1) h' → St2 (i + 1) h' → IsTupOf2 h' s.heap.objs.size x1 x2 → h'.objs.size = s.heap.objs.size + 1 →
      (∀ c o, c ≠ z → c ≠ i1 → c ≠ i2 → s.heap.get? c = some o → h'.get? c = some o) → Q (.ref s.heap.objs.size) { s with heap := h', toks := tk }) :
    wpAny (model prog w) A (Builtin.«zip.__next__» ⟨[.ref z], []⟩) (fun fin s' => ∃ v, fin = .done (.ret v) ∧ Q v s') E s := by
  obtain ⟨hp, g, d, tk0, os⟩ := s
  show wpAny _ _ (field (.ref z) 2 >>= _) _ _ _
  refine wpAny_bind (wpAny_field hz rfl (x := .bool false) rfl ?_)
  show wpAny _ _ (field (.ref z) 3 >>= _) _ _ _
  refine wpAny_bind (wpAny_field hz rfl (x := .ref TI) rfl ?_)
  refine wpAny_bind (wpAny_seqItems hTI rfl ?_)
  show wpAny _ _ (Builtin.SmallTypes.ownedTupleIsFree (.ref z) >>= _) _ _ _
  refine wpAny_bind (wpAny_tupleHeld_zip hz hT fun h₁ hz₁ hs₁ => ?_)
  replace hs₁ : Heap.SameBut z hp h₁ := hs₁
  simp only [Bool.false_eq_true, if_false]
  refine wpAny_bind ?_
  rw [← Array.forIn_toList]
  simp only [List.forIn_cons, List.forIn_nil]
  refine wpAny_bind (wpAny_bind (wpAny_holding ?_))
  show wpAny _ _ (Builtin.SmallTypes.nextOf (.ref i1) >>= _) _ _ ⟨h₁, g, d, tk0, os⟩
  refine wpAny_bind (D1.item i _ _ _ hlt1 (D1.over st1 hs₁ S.zf1) fun x1 h₂ tk1 hx1 sn1 hs₂ => wpAny_pure ?_)
  replace hs₂ : Heap.SameBut i1 h₁ h₂ := hs₂
  refine wpAny_pure ?_
  refine wpAny_bind (wpAny_bind (wpAny_holding ?_))
  show wpAny _ _ (Builtin.SmallTypes.nextOf (.ref i2) >>= _) _ _ ⟨h₂, g, d, tk1, os⟩
  refine wpAny_bind (D2.item i _ _ _ hlt2 (D2.over (D2.over st2 hs₁ S.zf2) hs₂ S.sep1_2) fun x2 h₃ tk2 hx2 sn2 hs₃ => wpAny_pure ?_)
  replace hs₃ : Heap.SameBut i2 h₂ h₃ := hs₃
  refine wpAny_pure (wpAny_pure ?_)
  show wpAny _ _ (newTuple [x1, x2] >>= _) _ _ ⟨h₃, g, d, tk2, os⟩
  refine wpAny_bind (wpAny_newTuple ?_)
  have hsz : h₃.objs.size = hp.objs.size := by rw [hs₃.1, hs₂.1, hs₁.1]
  have hz₃ : IsZipHeld h₃ z TI TO T true := hs₃.extBut _ _ S.zi2 (hs₂.extBut _ _ S.zi1 hz₁)
  have hk : ∀ c o, c ≠ z → c ≠ i1 → c ≠ i2 → hp.get? c = some o → h₃.get? c = some o := fun c o c1 c2 c3 e => hs₃.extBut _ _ c3 (hs₂.extBut _ _ c2 (hs₁.extBut _ _ c1 e))
  refine wpAny_pure ⟨_, rfl, ?_⟩
  show Q (.ref h₃.objs.size) _
  have hp' : IsTupOf2 (h₃.push { cls := .type "tuple", data := .seq #[x1, x2] }) h₃.objs.size x1 x2 := Heap.get?_push_size _ rfl
  have hz4 : (h₃.push { cls := .type "tuple", data := .seq #[x1, x2] }).objs.size = h₃.objs.size + 1 := Heap.size_push ..
  rw [hsz] at hp' hz4 ⊢
  exact hQ x1 x2 _ tk2 hx1 hx2 (Heap.get?_push_of_some _ hz₃) (D1.frame _ _ _ (D1.over sn1 hs₃ S.sep2_1) fun b _ o e => Heap.get?_push_of_some _ e) (D2.frame _ _ _ sn2 fun b _ o e => Heap.get?_push_of_some _ e) hp' hz4 fun c o c1 c2 c3 e => Heap.get?_push_of_some _ (hk c o c1 c2 c3 e)
theorem zl_held_end {Q : Fin → Shared → Prop} (S : ZipSep2 z TI TO i1 i2 fp1 fp2) (D1 : Draws prog w A i1 fp1 n1 P1 St1)
    (hz : IsZipHeld s.heap z TI TO T f) (hT : s.heap.get? T = some oT) (hTI : IsTupOf2 s.heap TI (.ref i1) (.ref i2)) (st1 : St1 n1 s.heap)
    (hE : ∀ h' e, (∀ c o, c ≠ z → c ≠ i1 → c ≠ i2 → s.heap.get? c = some o → h'.get? c = some o) → (∃ o, h'.get? e = some o ∧ o.cls = .type "StopIteration") → E (.ref e) { s with heap := h' }) :
    wpAny (model prog w) A (Builtin.«zip.__next__» ⟨[.ref z], []⟩) Q E s := by
  obtain ⟨hp, g, d, tk0, os⟩ := s
  show wpAny _ _ (field (.ref z) 2 >>= _) _ _ _
  refine wpAny_bind (wpAny_field hz rfl (x := .bool false) rfl ?_)
  show wpAny _ _ (field (.ref z) 3 >>= _) _ _ _
  refine wpAny_bind (wpAny_field hz rfl (x := .ref TI) rfl ?_)
  refine wpAny_bind (wpAny_seqItems hTI rfl ?_)
  show wpAny _ _ (Builtin.SmallTypes.ownedTupleIsFree (.ref z) >>= _) _ _ _
  refine wpAny_bind (wpAny_tupleHeld_zip hz hT fun h₁ hz₁ hs₁ => ?_)
  replace hs₁ : Heap.SameBut z hp h₁ := hs₁
  simp only [Bool.false_eq_true, if_false]
  refine wpAny_bind ?_
  rw [← Array.forIn_toList]
  simp only [List.forIn_cons, List.forIn_nil]
  refine wpAny_bind (wpAny_bind (wpAny_holding ?_))
  show wpAny _ _ (Builtin.SmallTypes.nextOf (.ref i1) >>= _) _ _ ⟨h₁, g, d, tk0, os⟩
  refine wpAny_bind (D1.done ⟨h₁, g, d, tk0, os⟩ _ _ (D1.over st1 hs₁ S.zf1) fun h₂ e hs₂ he => ?_)
  exact hE h₂ e (fun c o c1 c2 _ x => hs₂ _ _ c2 (hs₁.extBut _ _ c1 x)) he
/-- the zip between its turns: its last tuple is held -/
def ZlSt (z TI TO i1 i2 S : Addr) (St1 St2 : Nat → Heap → Prop) (i : Nat) (h : Heap) : Prop := IsTupOf2 h TI (.ref i1) (.ref i2) ∧ St1 i h ∧ St2 i h ∧
  ((IsZip h z TI TO .none ∧ ∃ a b, IsTupOf2 h TO a b) ∨ ∃ T f oT, IsZipHeld h z TI TO T f ∧ h.get? T = some oT ∧ T ≠ z ∧ T ≠ i1 ∧ T ≠ i2 ∧ T ≠ S)
theorem ZlSt.keep {S : Addr} {h h' : Heap} (Z : ZipSep2 z TI TO i1 i2 fp1 fp2) (D1 : Draws prog w A i1 fp1 n1 P1 St1) (D2 : Draws prog w A i2 fp2 n2 P2 St2) (x : ZlSt z TI TO i1 i2 S St1 St2 i h) (hk : ∀ b o, b ≠ S → h.get? b = some o → h'.get? b = some o)
    (n1' : z ≠ S) (n2' : TI ≠ S) (n3' : TO ≠ S) (m1 : S ∉ fp1) (m2 : S ∉ fp2) : ZlSt z TI TO i1 i2 S St1 St2 i h' := by
  obtain ⟨hTI, s1, s2, hz⟩ := x
  refine ⟨hk _ _ n2' hTI, D1.frame _ _ _ s1 fun b hb o e => hk b o (fun q => m1 (q ▸ hb)) e, D2.frame _ _ _ s2 fun b hb o e => hk b o (fun q => m2 (q ▸ hb)) e, ?_⟩
  rcases hz with ⟨hz, a, b, hTO⟩ | ⟨T, f, oT, hz, hT, r1, r2, r3, r4⟩
  · exact .inl ⟨hk _ _ n1' hz, a, b, hk _ _ n3' hTO⟩
  · exact .inr ⟨T, f, oT, hk _ _ n1' hz, hk _ _ r4 hT, r1, r2, r3, r4⟩
theorem zl_item {S : Addr} {Q : Option Value → Shared → Prop} (Z : ZipSep2 z TI TO i1 i2 fp1 fp2) (D1 : Draws prog w A.in1 i1 fp1 n1 P1 St1) (D2 : Draws prog w A.in1 i2 fp2 n2 P2 St2) (hst : ZlSt z TI TO i1 i2 S St1 St2 i s.heap) (hS : S < s.heap.objs.size) (hlt1 : i < n1) (hlt2 : i < n2)
    (hQ : ∀ x1 x2 h' tk, P1 i x1 → P2 i x2 → ZlSt z TI TO i1 i2 S St1 St2 (i + 1) h' → IsTupOf2 h' s.heap.objs.size x1 x2 → h'.objs.size = s.heap.objs.size + 1 →
      (∀ c o, c ≠ z → c ≠ TO → c ≠ i1 → c ≠ i2 → s.heap.get? c = some o → h'.get? c = some o) → Q (some (.ref s.heap.objs.size)) { s with heap := h', toks := tk }) :
    wpAny (model prog w) A (pyNext (.ref z)) Q E s := by
  obtain ⟨hTI, st1, st2, hz⟩ := hst
  have lt : ∀ {c o}, s.heap.get? c = some o → s.heap.objs.size ≠ c := fun e => Nat.ne_of_gt (Heap.lt_size e)
  obtain ⟨o1, e1⟩ := D1.live _ _ st1
  obtain ⟨o2, e2⟩ := D2.live _ _ st2
  rcases hz with ⟨hz, a, b, hTO⟩ | ⟨T, f, oT, hz, hT, r1, r2, r3, r4⟩
  · refine wpAny_pyNext_zipD2_item Z D1 D2 hz hTI hTO st1 st2 hlt1 hlt2 fun x1 x2 h' tk p1 p2 b1 b2 d1 d2 b5 b6 b7 => hQ x1 x2 h' tk p1 p2 ⟨b7 _ _ Z.TIz Z.TITO Z.TIi1 Z.TIi2 hTI, d1, d2, .inr ⟨_, false, _, b1, b5, lt hz, lt e1, lt e2, Nat.ne_of_gt hS⟩⟩ b5 b6 b7
  · have hTy : s.TypeIs (.ref z) "zip" := ⟨_, hz, rfl⟩
    unfold pyNext
    exact wpAny_bind (wpAny_attempt (wpAny_callSpecial?_slot (name := Str.ofString "__next__") hTy F.slot_zip_next
      (wpAny_call_entry F.slot_zip_next hTy F.entry_zip_next
        (zl_held_item Z D1 D2 hz hT hTI st1 st2 hlt1 hlt2 fun x1 x2 h' tk p1 p2 b1 d1 d2 b5 b6 b7 => wpAny_pure (hQ x1 x2 h' tk p1 p2 ⟨b7 _ _ Z.TIz Z.TIi1 Z.TIi2 hTI, d1, d2, .inr ⟨T, true, oT, b1, b7 _ _ r1 r2 r3 hT, r1, r2, r3, r4⟩⟩ b5 b6 fun c o c1 _ c3 c4 => b7 c o c1 c3 c4)) (F.args_zip_next_1 _))))
theorem zl_done {S : Addr} {Q : Option Value → Shared → Prop} (Z : ZipSep2 z TI TO i1 i2 fp1 fp2) (D1 : Draws prog w A.in1 i1 fp1 n1 P1 St1) (D2 : Draws prog w A.in1 i2 fp2 n1 P2 St2) (hst : ZlSt z TI TO i1 i2 S St1 St2 n1 s.heap)
    (hQ : ∀ h' tk, (∀ c o, c ≠ z → c ≠ TO → c ≠ i1 → c ≠ i2 → s.heap.get? c = some o → h'.get? c = some o) → Q none { s with heap := h', toks := tk }) :
    wpAny (model prog w) A (pyNext (.ref z)) Q E s := by
  obtain ⟨hTI, st1, st2, hz⟩ := hst
  rcases hz with ⟨hz, a, b, hTO⟩ | ⟨T, f, oT, hz, hT, r1, r2, r3, r4⟩
  · exact wpAny_pyNext_zipD2_end Z D1 D2 hz hTI hTO st1 st2 (Nat.le_refl _) (Nat.le_refl _) (.inl rfl) hQ
  · have hTy : s.TypeIs (.ref z) "zip" := ⟨_, hz, rfl⟩
    unfold pyNext
    refine wpAny_bind (wpAny_attempt (wpAny_callSpecial?_slot (name := Str.ofString "__next__") hTy F.slot_zip_next
      (wpAny_call_entry F.slot_zip_next hTy F.entry_zip_next (zl_held_end Z D1 hz hT hTI st1 fun h' e hk he => ?_) (F.args_zip_next_1 _))))
    obtain ⟨o, ho, hc⟩ := he
    refine wpAny_bind (wpAny_isInstance (T := "StopIteration") (b := true) ⟨o, ho, hc⟩ isSubtype_stop ?_)
    exact wpAny_pure (hQ _ s.toks fun c o c1 _ c3 c4 => hk c o c1 c3 c4)
end

structure ZlG (P1 P2 : Nat → Value → Prop) (lo : Addr) (h : Heap) (as : List Addr) : Prop where
  rise : as.Pairwise (· < ·)
  above : ∀ a ∈ as, lo ≤ a
  pairs : ∀ (j : Nat) (a : Addr), as[j]? = some a → ∃ x1 x2, P1 j x1 ∧ P2 j x2 ∧ IsTupOf2 h a x1 x2
section
variable {prog : Program} {w : World} {A : Around} {s : Shared} {R : Result → Shared → Prop} {z TI TO i1 i2 : Addr} {fp1 fp2 : List Addr} {n : Nat} {P1 P2 : Nat → Value → Prop} {St1 St2 : Nat → Heap → Prop}
theorem ZlG.there {lo : Addr} {h : Heap} {as : List Addr} (g : ZlG P1 P2 lo h as) {a : Addr} (ha : a ∈ as) : a < h.objs.size := by
  obtain ⟨j, hj⟩ := List.mem_iff_getElem?.mp ha
  obtain ⟨_, _, _, _, e⟩ := g.pairs j a hj
  exact Heap.lt_size e
theorem zl_loop {S lo : Addr} (Z : ZipSep2 z TI TO i1 i2 fp1 fp2) (D1 : Draws prog w A.in1.in1 i1 fp1 n P1 St1) (D2 : Draws prog w A.in1.in1 i2 fp2 n P2 St2) (hz : z ≠ S) (hTI : TI ≠ S) (hTO : TO ≠ S) (m1 : S ∉ fp1) (m2 : S ∉ fp2)
    (lS : S < lo) (lz : z < lo) (lT : TO < lo) (l1 : i1 < lo) (l2 : i2 < lo) (hn : n ≤ sizeLine) (res : Value) {h₁ : Heap}
    (hR : ∀ h' tk acc c as, (∀ b o, b ≠ S → b ≠ z → b ≠ TO → b ≠ i1 → b ≠ i2 → h₁.get? b = some o → h'.get? b = some o) → h'.get? S = some { cls := .type "list", dict := none, data := .seq acc c, slots := #[] } → as.length = n → ZlG P1 P2 lo h' as →
      acc.toList = as.map Value.ref → R (.ok (.ret res)) { s with heap := h', toks := tk }) :
    ∀ (k i : Nat) (h : Heap) (tk c : Nat) (acc : Array Value) (as : List Addr), n - i = k → i ≤ n → ZlSt z TI TO i1 i2 S St1 St2 i h → (∀ b o, b ≠ S → b ≠ z → b ≠ TO → b ≠ i1 → b ≠ i2 → h₁.get? b = some o → h.get? b = some o) →
      h.get? S = some { cls := .type "list", dict := none, data := .seq acc c, slots := #[] } → acc.toList = as.map Value.ref → as.length = i → ZlG P1 P2 lo h as → lo ≤ h.objs.size →
      codeAny (model prog w) A (.builtin "list.extend.loop" ⟨[.ref S, .ref z, res], []⟩) R { s with heap := h, toks := tk } := by
  intro k
  induction k with
  | zero =>
    intro i h tk c acc as hk hi hst hkeep hS hacc hal hG hIs
    have hin : i = n := by omega
    refine codeAny_builtin PySem.F.entry_extend_loop ?_
    rw [Around.under_plainId PySem.F.plain_extend_loop _]
    show wpAny _ A.in1 (pyNext (.ref z) >>= _) _ _ _
    refine wpAny_bind (zl_done (s := { s with heap := h, toks := tk }) (A := A.in1) Z D1 D2 (by rw [← hin]; exact hst) fun h' tk' he => ?_)
    refine wpAny_pure (hR h' tk' acc c as (fun b o h1 h2 h3 h4 h5 e => he b o h2 h3 h4 h5 (hkeep b o h1 h2 h3 h4 h5 e)) (he S _ (Ne.symm hz) (Ne.symm hTO) (fun q => m1 (q ▸ Z.mem1)) (fun q => m2 (q ▸ Z.mem2)) hS) (by omega) ⟨hG.rise, hG.above, fun j a hj => ?_⟩ hacc)
    obtain ⟨x1, x2, e1, e2, e3⟩ := hG.pairs j a hj
    have ha := hG.above a (List.mem_of_getElem? hj)
    exact ⟨x1, x2, e1, e2, he a _ (Nat.ne_of_gt (Nat.lt_of_lt_of_le lz ha)) (Nat.ne_of_gt (Nat.lt_of_lt_of_le lT ha)) (Nat.ne_of_gt (Nat.lt_of_lt_of_le l1 ha)) (Nat.ne_of_gt (Nat.lt_of_lt_of_le l2 ha)) e3⟩
  | succ k ih =>
    intro i h tk c acc as hk hi hst hkeep hS hacc hal hG hIs
    have hlt : i < n := by omega
    have hsz : acc.size = i := by rw [← Array.length_toList, hacc, List.length_map, hal]
    refine codeAny_builtin PySem.F.entry_extend_loop ?_
    rw [Around.under_plainId PySem.F.plain_extend_loop _]
    show wpAny _ A.in1 (pyNext (.ref z) >>= _) _ _ _
    refine wpAny_bind (zl_item (s := { s with heap := h, toks := tk }) (S := S) (A := A.in1) Z D1 D2 hst (Heap.lt_size hS) hlt hlt fun x1 x2 h' tk' p1 p2 hst' ht hz' hkp => ?_)
    dsimp only at ht hz' hkp ⊢
    have hS' := hkp S _ (Ne.symm hz) (Ne.symm hTO) (fun q => m1 (q ▸ Z.mem1)) (fun q => m2 (q ▸ Z.mem2)) hS
    have up : ∀ b o, b ≠ S → h'.get? b = some o → (h'.update S (Obj.mapSeq (·.push (Value.ref h.objs.size)))).get? b = some o := fun b o hb e => (Heap.get?_update_other _ _ (Ne.symm hb)).trans e
    have hSl : S < h.objs.size := Heap.lt_size hS
    show wpAny _ A.in1 (updateSeq S (·.push (Value.ref h.objs.size)) >>= _) _ _ _
    refine wpAny_bind ?_
    refine wpAny_updateSeq hS' rfl (wpAny_pure ⟨plainId_quiet PySem.F.plain_extend_loop _, ih (i + 1) _ tk' _ (acc.push (Value.ref h.objs.size)) (as ++ [h.objs.size]) (by omega) hlt (hst'.keep Z D1 D2 up hz hTI hTO m1 m2)
      (fun b o h1 h2 h3 h4 h5 e => up b o h1 (hkp b o h2 h3 h4 h5 (hkeep b o h1 h2 h3 h4 h5 e))) (Heap.get?_update_self _ hS' rfl) (by rw [Array.toList_push, hacc, List.map_append]; rfl) (by rw [List.length_append, hal]; rfl) ⟨?_, ?_, ?_⟩ ?_⟩) (by rw [hsz]; omega) (by show (acc.push (Value.ref h.objs.size)).size ≤ sizeLine + 1; rw [Array.size_push, hsz]; omega)
    · refine List.pairwise_append.mpr ⟨hG.rise, List.pairwise_singleton _ _, fun a ha b hb => ?_⟩
      rw [List.mem_singleton.mp hb]
      exact hG.there ha
    · intro a ha
      rcases List.mem_append.mp ha with ha | ha
      · exact hG.above a ha
      · rw [List.mem_singleton.mp ha]; exact hIs
    · intro j b hj
      rcases Nat.lt_trichotomy j as.length with h1 | h1 | h1
      · rw [List.getElem?_append_left h1] at hj
        obtain ⟨x1', x2', e1, e2, e3⟩ := hG.pairs j b hj
        have hb := hG.above b (List.mem_of_getElem? hj)
        exact ⟨x1', x2', e1, e2, up b _ (Nat.ne_of_gt (Nat.lt_of_lt_of_le lS hb)) (hkp b _ (Nat.ne_of_gt (Nat.lt_of_lt_of_le lz hb)) (Nat.ne_of_gt (Nat.lt_of_lt_of_le lT hb)) (Nat.ne_of_gt (Nat.lt_of_lt_of_le l1 hb)) (Nat.ne_of_gt (Nat.lt_of_lt_of_le l2 hb)) e3)⟩
      · subst h1
        have hb : h.objs.size = b := by simpa using hj
        subst hb
        exact ⟨x1, x2, by rw [hal]; exact p1, by rw [hal]; exact p2, up _ _ (Nat.ne_of_gt hSl) ht⟩
      · have hnone : (as ++ [h.objs.size])[j]? = none := List.getElem?_eq_none (by rw [List.length_append, List.length_singleton]; omega)
        rw [hnone] at hj; cases hj
    · have e : (h'.update S (Obj.mapSeq (·.push (Value.ref h.objs.size)))).get? h.objs.size = _ := up _ _ (Nat.ne_of_gt hSl) ht
      exact Nat.le_of_lt (Nat.lt_of_le_of_lt hIs (Heap.lt_size e))
theorem zip_no_len : typeLookup (.type "zip") "__len__" = pure none := am_miss_of_fast (by decide +kernel)
theorem zip_no_hint : typeLookup (.type "zip") "__length_hint__" = pure none := am_miss_of_fast (by decide +kernel)
theorem zl_extend {S lo : Addr} (Z : ZipSep2 z TI TO i1 i2 fp1 fp2) (D1 : Draws prog w A.in1.in1 i1 fp1 n P1 St1) (D2 : Draws prog w A.in1.in1 i2 fp2 n P2 St2) (hz : z ≠ S) (hTI : TI ≠ S) (hTO : TO ≠ S) (m1 : S ∉ fp1) (m2 : S ∉ fp2)
    (lS : S < lo) (lz : z < lo) (lT : TO < lo) (l1 : i1 < lo) (l2 : i2 < lo) (hn : n ≤ sizeLine) (res : Value) (hlo : lo ≤ s.heap.objs.size) (hzip : IsZip s.heap z TI TO .none) (hst : ZlSt z TI TO i1 i2 S St1 St2 0 s.heap) (c₀ : Nat) (hS : s.heap.get? S = some { cls := .type "list", data := .seq #[] c₀ })
    (hR : ∀ h' tk acc c as, (∀ b o, b ≠ S → b ≠ z → b ≠ TO → b ≠ i1 → b ≠ i2 → s.heap.get? b = some o → h'.get? b = some o) → h'.get? S = some { cls := .type "list", dict := none, data := .seq acc c, slots := #[] } → as.length = n → ZlG P1 P2 lo h' as →
      acc.toList = as.map Value.ref → R (.ok (.ret res)) { s with heap := h', toks := tk }) :
    wpAny (model prog w) A.in1 (Builtin.List.listExtendWith (.ref S) (.ref z) res)
      (fun fin s' => match fin with | .done f => R (.ok f) s' | .again c' => c'.quiet = true ∧ codeAny (model prog w) A c' R s') (fun e s' => R (.error e) s') s := by
  have hTy : s.TypeIs (.ref z) "zip" := ⟨_, hzip, rfl⟩
  unfold Builtin.List.listExtendWith
  refine wpAny_bind (wpAny_typeOf hTy ?_)
  have h1 : Builtin.List.listSameRef (.ref S) (.ref z) = false := by simp [Builtin.List.listSameRef, Ne.symm hz]
  have h2 : (Value.type "zip" == Value.type "list") = false := by decide
  have h3 : (Value.type "zip" == Value.type "tuple") = false := by decide
  simp only [h1, h2, h3, Bool.or_false, Bool.false_eq_true, if_false]
  refine wpAny_bind (wpAny_pyIter_zip hzip ?_)
  refine wpAny_bind (wpAny_holding ?_)
  unfold Builtin.List.listLengthHint
  refine wpAny_bind (wpAny_specialOf hTy zip_no_len ?_)
  show wpAny _ A.in1 (specialOf (Value.ref z) (Str.ofString "__length_hint__") >>= _) _ _ _
  refine wpAny_bind (wpAny_specialOf hTy zip_no_hint ?_)
  refine wpAny_pure ?_
  show wpAny _ A.in1 (rule "list.extend.makes-room" >>= fun _ => Builtin.List.listTouch (.ref S) >>= fun _ =>
    again (.builtin "list.extend.loop" ⟨[.ref S, .ref z, res], []⟩)) _ _ _
  refine wpAny_bind (wpAny_rule ?_)
  refine wpAny_bind ?_
  show wpAny _ A.in1 (updateSeq S (·.push .none) >>= fun _ => updateSeq S (·.pop)) _ _ _
  refine wpAny_bind (wpAny_updateSeq hS rfl ?_)
  have hS₂ := Heap.get?_update_self (Obj.mapSeq (·.push Value.none)) hS rfl
  refine wpAny_updateSeq (hz := by seq_fits) hS₂ rfl ?_
  have hS₃ := Heap.get?_update_self (Obj.mapSeq (·.pop)) hS₂ rfl
  have oth : ∀ b o, b ≠ S → s.heap.get? b = some o → ((s.heap.update S (Obj.mapSeq (·.push Value.none))).update S (Obj.mapSeq (·.pop))).get? b = some o :=
    fun b o hb e => (Heap.get?_update_other _ _ (Ne.symm hb)).trans ((Heap.get?_update_other _ _ (Ne.symm hb)).trans e)
  have hsz : ((s.heap.update S (Obj.mapSeq (·.push Value.none))).update S (Obj.mapSeq (·.pop))).objs.size = s.heap.objs.size := ((Heap.SameBut.update ..).1).trans ((Heap.SameBut.update ..).1)
  refine wpAny_pure ⟨plainId_quiet PySem.F.plain_extend_loop _, zl_loop (h₁ := s.heap) Z D1 D2 hz hTI hTO m1 m2 lS lz lT l1 l2 hn res hR n 0 _ s.toks _ _ [] rfl (Nat.zero_le _) (hst.keep Z D1 D2 oth hz hTI hTO m1 m2) (fun b o hb _ _ _ _ e => oth b o hb e) hS₃ rfl rfl ⟨List.Pairwise.nil, (fun _ ha => nomatch ha), (fun j a hj => by simp at hj)⟩ (by rw [hsz]; exact hlo)⟩
theorem zl_init {S : Addr} (Z : ZipSep2 z TI TO i1 i2 fp1 fp2) (D1 : Draws prog w A.in1.in1 i1 fp1 n P1 St1) (D2 : Draws prog w A.in1.in1 i2 fp2 n P2 St2) (hz : z ≠ S) (hTI : TI ≠ S) (hTO : TO ≠ S) (m1 : S ∉ fp1) (m2 : S ∉ fp2)
    (hn : n ≤ sizeLine) (hzip : IsZip s.heap z TI TO .none) (hst : ZlSt z TI TO i1 i2 S St1 St2 0 s.heap) (lT : TO < s.heap.objs.size) (hS : s.heap.get? S = some { cls := .type "list", data := .seq #[] })
    (hR : ∀ h' tk acc c as, (∀ b o, b ≠ S → b ≠ z → b ≠ TO → b ≠ i1 → b ≠ i2 → s.heap.get? b = some o → h'.get? b = some o) → h'.get? S = some { cls := .type "list", dict := none, data := .seq acc c, slots := #[] } → as.length = n → ZlG P1 P2 s.heap.objs.size h' as →
      acc.toList = as.map Value.ref → R (.ok (.ret .none)) { s with heap := h', toks := tk }) :
    wpAny (model prog w) A.in1 (Builtin.«list.__init__» ⟨[.ref S, .ref z], []⟩)
      (fun fin s' => match fin with | .done f => R (.ok f) s' | .again c' => c'.quiet = true ∧ codeAny (model prog w) A c' R s') (fun e s' => R (.error e) s') s := by
  show wpAny _ _ (do let old ← Builtin.List.listItems (.ref S); Builtin.List.listUpdate (.ref S) (fun _ => #[]); letGo old.toList.reverse; Builtin.List.listExtendWith (.ref S) (.ref z) .none) _ _ s
  refine wpAny_bind ?_
  unfold Builtin.List.listItems
  refine wpAny_bind (wpAny_seqItems hS rfl (wpAny_pure ?_))
  show wpAny _ _ (updateSeq S (fun _ => #[]) >>= fun _ => letGo (#[] : Array Value).toList.reverse >>= fun _ => Builtin.List.listExtendWith (.ref S) (.ref z) .none) _ _ s
  refine wpAny_bind (wpAny_updateSeq hS rfl ?_)
  have hS₂ := Heap.get?_update_self (Obj.mapSeq (fun _ => (#[] : Array Value))) hS rfl
  have oth : ∀ b o, b ≠ S → s.heap.get? b = some o → (s.heap.update S (Obj.mapSeq (fun _ => (#[] : Array Value)))).get? b = some o :=
    fun b o hb e => (Heap.get?_update_other _ _ (Ne.symm hb)).trans e
  have hsz : (s.heap.update S (Obj.mapSeq (fun _ => (#[] : Array Value)))).objs.size = s.heap.objs.size := (Heap.SameBut.update ..).1
  refine wpAny_bind (wpAny_letGo ?_)
  obtain ⟨o1, e1⟩ := D1.live _ _ hst.2.1
  obtain ⟨o2, e2⟩ := D2.live _ _ hst.2.2.1
  refine zl_extend (lo := s.heap.objs.size) Z D1 D2 hz hTI hTO m1 m2 (Heap.lt_size hS) (Heap.lt_size hzip) lT (Heap.lt_size e1) (Heap.lt_size e2) hn .none (by show s.heap.objs.size ≤ _; rw [hsz]; exact Nat.le_refl _) (oth _ _ hz hzip) (hst.keep Z D1 D2 oth hz hTI hTO m1 m2) _ hS₂ (fun h' tk acc c as hk hS' hl hG hacc => ?_)
  exact hR h' tk acc c as (fun b o hb h1 h2 h3 h4 e => hk b o hb h1 h2 h3 h4 (oth b o hb e)) hS' hl hG hacc
end
section
variable {prog : Program} {w : World} {A : Around} {E : Value → Shared → Prop} {s : Shared} {z TI TO i1 i2 : Addr} {fp1 fp2 : List Addr} {n : Nat} {P1 P2 : Nat → Value → Prop} {St1 St2 : Nat → Heap → Prop}
theorem zl_call {Q : Value → Shared → Prop} (Z : ZipSep2 z TI TO i1 i2 fp1 fp2) (D1 : Draws prog w A.in1.in1.in1 i1 fp1 n P1 St1) (D2 : Draws prog w A.in1.in1.in1 i2 fp2 n P2 St2) (f1 : ∀ b ∈ fp1, b < s.heap.objs.size) (f2 : ∀ b ∈ fp2, b < s.heap.objs.size) (hn : n ≤ sizeLine) (hzip : IsZip s.heap z TI TO .none) (hTI : IsTupOf2 s.heap TI (.ref i1) (.ref i2)) (hTO : ∃ a b, IsTupOf2 s.heap TO a b) (st1 : St1 0 s.heap) (st2 : St2 0 s.heap)
    (hQ : ∀ h' tk acc c as, (∀ b o, b ≠ z → b ≠ TO → b ≠ i1 → b ≠ i2 → s.heap.get? b = some o → h'.get? b = some o) → h'.get? s.heap.objs.size = some { cls := .type "list", dict := none, data := .seq acc c, slots := #[] } → as.length = n → ZlG P1 P2 (s.heap.objs.size + 1) h' as →
      acc.toList = as.map Value.ref → Q (.ref s.heap.objs.size) { s with heap := h', toks := tk }) :
    wpAny (model prog w) A (call (.type "list") [.ref z]) Q E s := by
  refine callType_codes (Q₁ := fun obj s₁ => obj = .ref s.heap.objs.size ∧ s₁ = { s with heap := s.heap.push { cls := .type "list", data := .seq #[] } }) PySem.F.called_list (PySem.F.typeCall_list_1 _) PySem.F.entry_list_init
    (code_list_new _ ⟨rfl, rfl⟩) fun obj s₁ h₁ => ?_
  obtain ⟨rfl, rfl⟩ := h₁
  have hS : (s.heap.push { cls := .type "list", data := .seq #[] }).get? s.heap.objs.size = some { cls := .type "list", data := .seq #[] } := Heap.get?_push_size _ rfl
  obtain ⟨ta, tb, hTO⟩ := hTO
  have up : ∀ b o, s.heap.get? b = some o → (s.heap.push { cls := .type "list", data := .seq #[] }).get? b = some o := fun b o e => Heap.get?_push_of_some _ e
  refine ⟨⟨_, hS, rfl⟩, PySem.F.args_list_init_2 _ _, zl_init (A := A.in1) Z D1 D2 (Nat.ne_of_lt (Heap.lt_size hzip)) (Nat.ne_of_lt (Heap.lt_size hTI)) (Nat.ne_of_lt (Heap.lt_size hTO)) (fun m => Nat.lt_irrefl _ (f1 _ m)) (fun m => Nat.lt_irrefl _ (f2 _ m)) hn (up _ _ hzip)
    ⟨up _ _ hTI, D1.frame _ _ _ st1 fun b _ o e => up b o e, D2.frame _ _ _ st2 fun b _ o e => up b o e, .inl ⟨up _ _ hzip, ta, tb, up _ _ hTO⟩⟩ (Heap.lt_size (up _ _ hTO)) hS (fun h' tk acc c as hk hS' hl hG hacc => ?_)⟩
  refine ⟨rfl, hQ h' tk acc c as (fun b o h1 h2 h3 h4 e => hk b o (Nat.ne_of_lt (Heap.lt_size e)) h1 h2 h3 h4 (up b o e)) hS' hl ?_ hacc⟩
  have e : (s.heap.push { cls := .type "list", data := .seq #[] }).objs.size = s.heap.objs.size + 1 := Heap.size_push ..
  show ZlG P1 P2 (s.heap.objs.size + 1) h' as
  rw [← e]
  exact hG
end

/-- the tuples tracked at their addresses -/
def putZ : Hp → List Addr → List (V × V) → Hp
  | H, a :: as, p :: kvs => putZ (upd H a (.tup [p.1, p.2])) as kvs
  | H, _, _ => H
theorem putZ_off {b : Addr} : ∀ (as : List Addr) (kvs : List (V × V)) (H : Hp), b ∉ as → putZ H as kvs b = H b
  | [], _, _, _ => rfl
  | _ :: _, [], _, _ => rfl
  | a :: as, p :: kvs, H, h => by
    show putZ (upd H a (.tup [p.1, p.2])) as kvs b = H b
    rw [putZ_off as kvs _ (fun z => h (List.mem_cons_of_mem _ z)), upd_ne (fun z => h (by rw [z]; exact List.mem_cons_self))]
theorem putZ_at : ∀ (as : List Addr) (kvs : List (V × V)) (H : Hp), as.length = kvs.length → as.Nodup → ∀ (i : Nat) (t : Addr) (p : V × V), as[i]? = some t → kvs[i]? = some p → putZ H as kvs t = some (.tup [p.1, p.2])
  | [], _, _, _, _, i, t, p, h, _ => by simp at h
  | _ :: _, [], _, h, _, _, _, _, _, _ => by cases h
  | a :: as, q :: kvs, H, h, hn, i, t, p, e1, e2 => by
    have hn' := List.nodup_cons.mp hn
    show putZ (upd H a (.tup [q.1, q.2])) as kvs t = _
    cases i with
    | zero =>
      simp only [List.getElem?_cons_zero, Option.some.injEq] at e1 e2
      subst e1 e2
      rw [putZ_off as kvs _ hn'.1, upd_same]
    | succ i =>
      simp only [List.getElem?_cons_succ] at e1 e2
      exact putZ_at as kvs _ (Nat.succ.inj h) hn'.2 i t p e1 e2
theorem vals_refs : ∀ as : List Addr, Vals (as.map V.ref) (as.map Value.ref)
  | [] => .nil
  | _ :: as => .cons rfl (vals_refs as)
section
variable {X : Cx}
/-- list(zip(x, y)), x and y of one length -/
def tListZip (K : PySem.W.Frag) (ta : TA) : TE := fun σ H Q => ta σ H fun vs H1 => ∃ (k1 k2 : Bool) (a b : Addr) (xs ys : List V), vs = [.ref a, .ref b] ∧ Sqk K k1 H1 a xs ∧ Sqk K k2 H1 b ys ∧ xs.length = ys.length ∧ xs.length ≤ sizeLine ∧
  ∀ (H' : Hp) (p : Addr) (ts : List Addr), Same H1 H' → H1 p = none → (∀ t ∈ ts, H1 t = none) → p ∉ ts → ts.Nodup → ts.length = xs.length → H' p = some (.lst (ts.map V.ref)) →
    (∀ (i : Nat) t x y, ts[i]? = some t → xs[i]? = some x → ys[i]? = some y → H' t = some (.tup [x, y])) → Q (.ref p) H'
theorem zl_laid {pins : List (Addr × Obj)} {σ : L2.St} {H : Hp} {s : Shared} {h' : Heap} {tk : Nat} {xs ys : List V} {its its2 : List Value} {acc : Array Value} {c : Nat} {as : List Addr} (I : Inv X pins σ H s) (hz : xs.length ≤ sizeLine) (r1 : Vals xs its) (r2 : Vals ys its2) (hl2 : xs.length = ys.length)
    (hk : ∀ b o, s.heap.get? b = some o → h'.get? b = some o) (p : Addr) (hp : s.heap.objs.size ≤ p) (hS : h'.get? p = some { cls := .type "list", dict := none, data := .seq acc c, slots := #[] }) (hl : as.length = xs.length) (hG : ZlG (fun i v => its[i]? = some v) (fun i v => its2[i]? = some v) (p + 1) h' as) (hacc : acc.toList = as.map Value.ref) :
    ∃ H' : Hp, Same H H' ∧ H p = none ∧ (∀ t ∈ as, H t = none) ∧ p ∉ as ∧ as.Nodup ∧ H' p = some (.lst (as.map V.ref)) ∧ (∀ (i : Nat) t x y, as[i]? = some t → xs[i]? = some x → ys[i]? = some y → H' t = some (.tup [x, y])) ∧ Inv X pins σ H' { s with heap := h', toks := tk } := by
  have hSn : p ∉ as := fun z => absurd (hG.above _ z) (Nat.not_le.mpr (Nat.lt_succ_self _))
  have nd : as.Nodup := List.Pairwise.imp (fun {a b} (h : a < b) => Nat.ne_of_lt h) hG.rise
  have new : ∀ t ∈ as, H t = none := fun t ht => I.hok.fresh (Nat.le_trans hp (Nat.le_of_lt (hG.above t ht)))
  have newS : H p = none := I.hok.fresh hp
  have lk : as.length = (xs.zip ys).length := by rw [List.length_zip]; omega
  have atP := putZ_at as (xs.zip ys) (upd H p (.lst (as.map V.ref))) lk nd
  have off : ∀ b, b ∉ as → b ≠ p → putZ (upd H p (.lst (as.map V.ref))) as (xs.zip ys) b = H b := fun b h1 h2 => by rw [putZ_off as _ _ h1, upd_ne h2]
  have low : ∀ b o, s.heap.get? b = some o → b ∉ as ∧ b ≠ p := fun b o e => ⟨fun z => absurd (Heap.lt_size e) (Nat.not_lt.mpr (Nat.le_trans hp (Nat.le_of_lt (hG.above b z)))), Nat.ne_of_lt (Nat.lt_of_lt_of_le (Heap.lt_size e) hp)⟩
  have kp : ∀ b u, H b = some u → (putZ (upd H p (.lst (as.map V.ref))) as (xs.zip ys)) b = some u := fun b u e => by
    rw [off b (fun z => by rw [new b z] at e; cases e) (fun z => by rw [z, newS] at e; cases e)]
    exact e
  have eS : putZ (upd H p (.lst (as.map V.ref))) as (xs.zip ys) p = some (.lst (as.map V.ref)) := by rw [putZ_off as _ _ hSn, upd_same]
  refine ⟨putZ (upd H p (.lst (as.map V.ref))) as (xs.zip ys), kp, newS, new, hSn, nd, eS, fun i t x y e1 e2 e3 => atP i t (x, y) e1 (by rw [List.getElem?_zip_eq_some]; exact ⟨e2, e3⟩), ?_⟩
  refine I.call' (ch := []) rfl ⟨fun b o q _ _ _ => hk b o q, fun b o q _ _ _ => ⟨o.slots, hk b o q⟩, fun b o q n _ => ?_, fun b o q _ => ⟨o, hk b o q⟩, fun b xs q => kp b _ q, fun b o u q => kp b _ q, fun b ps q => ⟨#[], by rw [kp b _ q]; simp⟩⟩ (fun b u q => ?_) I.bare fun b z => by simp at z
  · obtain ⟨z1, z2⟩ := low b o q
    rw [off b z1 z2]
    exact n
  · by_cases hb : b ∈ as
    · obtain ⟨j, hj⟩ := List.mem_iff_getElem?.mp hb
      have jl : j < as.length := (List.getElem?_eq_some_iff.mp hj).1
      have j1 : j < xs.length := by omega
      have j2 : j < ys.length := by omega
      have e3 := atP j b (xs[j], ys[j]) hj (by rw [List.getElem?_zip_eq_some]; exact ⟨List.getElem?_eq_getElem j1, List.getElem?_eq_getElem j2⟩)
      rw [e3] at q
      cases q
      obtain ⟨x1, x2, f1, f2, f3⟩ := hG.pairs j b hj
      obtain ⟨u1, g1, g2⟩ := r1.get (List.getElem?_eq_getElem j1)
      obtain ⟨u2, g3, g4⟩ := r2.get (List.getElem?_eq_getElem j2)
      rw [f1] at g1
      rw [f2] at g3
      cases g1
      cases g3
      exact ⟨by show 2 ≤ sizeLine; decide, [x1, x2], .cons g2 (.cons g4 .nil), ⟨_, f3, rfl, _, rfl⟩⟩
    · by_cases hb2 : b = p
      · rw [hb2] at q ⊢
        rw [eS] at q
        cases q
        refine ⟨by rw [List.length_map]; omega, acc.toList, c, by rw [hacc]; exact vals_refs as, ?_⟩
        rw [Array.toArray_toList]
        exact hS
      · rw [off b hb hb2] at q
        exact (I.hok b u q).stay (fun d v _ y => hk d v y) (fun d y => kp d _ y) fun d xs y => kp d _ y
theorem pe_listZip {e e2 : Expr} {ta : TA} {p pos zp zpos : Pos} (hc : X.calm = true) (hg : Gl X "list") (hm : X.mg "list" = none) (hgz : Gl X "zip") (hmz : X.mg "zip" = none) (ha : PA X [e, e2] ta)
    (hs : starEach [e, e2] X.env = (false, eval e X.env) :: starEach [e2] X.env := by rfl) (hpl : (backTo zpos (starEach [e2] X.env)).any (·.1) = false := by rfl)
    (hl : starEach [.Call (.Name "zip" zp) [e, e2] [] zpos] X.env = (false, eval (.Call (.Name "zip" zp) [e, e2] [] zpos) X.env) :: starEach [] X.env := by rfl) :
    PE X (.Call (.Name "list" p) [.Call (.Name "zip" zp) [e, e2] [] zpos] [] pos) (tListZip X.K ta) := by
  refine ⟨fun pins s σ H Q I h => ?_⟩
  refine Call_ (ld_blt I hg hm boot_list (PyProof.Rows.callWith_type1 ?_ hl))
  rw [hl]
  show wpAny _ _ (spliced ((false, eval (.Call (.Name "zip" zp) [e, e2] [] zpos) X.env) :: backTo pos (starEach [] X.env))) _ _ s
  refine Calls.spliced_cons ?_
  refine Call_ (ld_blt I hgz hmz PyProof.Rows.boot_zip (PyProof.Rows.callWith_type1 (thn (ha.run zpos pins s σ H _ I h) fun us s1 ⟨vs, H1, I1, r1, q1⟩ => ?_) hs hpl))
  obtain ⟨k1, k2, a, b, xs, ys, ex, hqx, hqy, hxy, hn, q⟩ := q1
  subst ex
  cases r1 with
  | cons r rr =>
    cases rr with
    | cons r' rr =>
      cases rr
      cases r
      cases r'
      obtain ⟨its, rv, p1⟩ := invK I1 hqx
      obtain ⟨its2, rv2, p2⟩ := invK I1 hqy
      have la : a < s1.heap.objs.size := p1.lt
      have lb : b < s1.heap.objs.size := p2.lt
      refine zip_begins2 (begK k1 a its.toArray) (begK k2 b its2.toArray) p1 p2 fun h' hz hTI hTO h1 h2 hsz hk => Calls.spliced_nil ?_
      have I2 : Inv X pins σ H1 { s1 with heap := h' } := I1.kept (t' := s1.toks) hk
      have hh : X.A.handled = none := I1.ok.hd hc
      have n1 : a ≠ s1.heap.objs.size := Nat.ne_of_lt la
      have n2 : b ≠ s1.heap.objs.size + 1 := Nat.ne_of_lt (Nat.lt_succ_of_lt lb)
      have el : its.length = xs.length := rv.length.symm
      have el2 : its2.toArray.size = its.toArray.size := by have := rv2.length; simp only [List.size_toArray]; omega
      have D1 := drawsK (prog := X.prog) (w := X.w) (A := X.A.in1.in1.in1) hh k1 s1.heap.objs.size a n1 its.toArray
      have D2 := drawsK (prog := X.prog) (w := X.w) (A := X.A.in1.in1.in1) hh k2 (s1.heap.objs.size + 1) b n2 its2.toArray
      rw [el2] at D2
      have lim : ∀ c ≤ s1.heap.objs.size + 4, c < h'.objs.size := fun c hc' => Nat.lt_of_le_of_lt hc' (Heap.lt_size hz)
      refine zl_call (n := its.toArray.size) (zip_sep2 (fun b hb => by simp at hb; rw [hb]; exact la) (fun b hb => by simp at hb; rw [hb]; exact lb)) D1 D2 (fun c hm => ?_) (fun c hm => ?_) (by rw [List.size_toArray]; omega) hz hTI ⟨_, _, hTO⟩ ⟨ItK.new h1, ?_⟩ ⟨ItK.new h2, ?_⟩ fun h2' tk acc c as hk2 hS hl3 hG hacc => ?_
      · simp only [List.mem_cons, List.not_mem_nil, or_false] at hm
        refine lim c ?_
        rcases hm with e | e
        · rw [e]; exact Nat.le_add_right _ _
        · rw [e]; exact Nat.le_trans (Nat.le_of_lt la) (Nat.le_add_right _ _)
      · simp only [List.mem_cons, List.not_mem_nil, or_false] at hm
        refine lim c ?_
        rcases hm with e | e
        · rw [e]; exact Nat.add_le_add_left (by decide) _
        · rw [e]; exact Nat.le_trans (Nat.le_of_lt lb) (Nat.le_add_right _ _)
      · cases k1 with
        | true => exact PySem.Heap.IsList.at p1 fun o e => hk _ o e
        | false => exact PySem.Heap.IsTuple.at p1 fun o e => hk _ o e
      · cases k2 with
        | true => exact PySem.Heap.IsList.at p2 fun o e => hk _ o e
        | false => exact PySem.Heap.IsTuple.at p2 fun o e => hk _ o e
      · have hk3 : ∀ b o, s1.heap.get? b = some o → h2'.get? b = some o := fun b o e => by
          have := Heap.lt_size e
          exact hk2 b o (Nat.ne_of_lt (Nat.lt_of_lt_of_le this (Nat.le_add_right _ _))) (Nat.ne_of_lt (Nat.lt_of_lt_of_le this (Nat.le_add_right _ _))) (Nat.ne_of_lt this) (Nat.ne_of_lt (Nat.lt_of_lt_of_le this (Nat.le_add_right _ _))) (hk b o e)
        have hle : s1.heap.objs.size ≤ h'.objs.size := by have := lim _ (Nat.le_refl _); omega
        obtain ⟨H', z1, z2, z3, z4, z5, z6, z7, J⟩ := zl_laid (tk := tk) I1 hn rv rv2 hxy hk3 h'.objs.size hle hS (by rw [hl3, List.size_toArray, el]) ⟨hG.rise, hG.above, fun j a hj => by
          obtain ⟨x1, x2, f1, f2, f3⟩ := hG.pairs j a hj
          exact ⟨x1, x2, by simpa using f1, by simpa using f2, f3⟩⟩ hacc
        exact ⟨.ref h'.objs.size, H', J, rfl, q H' _ as z1 z2 z3 z4 z5 (by rw [hl3, List.size_toArray, el]) z6 z7⟩
end
end Cs

namespace Cs
open PySem PySem.W PySem.Calls PyProof.Rows PySem.Builtin PySem.Builtin.Int PySem.Builtin.Float
def binStr (n : Nat) : PySem.Str := ⟨((Nat.toDigits 2 n).map Char.toNat).toArray⟩
section
variable {prog : Program} {w : World} {A : Around} {E : Value → Shared → Prop} {s : Shared}
theorem formatField_bin {a : Int} {t : Tok} {Q : Value → Shared → Prop} (h0 : 0 ≤ a) (hz : (Nat.toDigits 2 a.natAbs).length ≤ sizeLine) (h : ∀ t' k, Q (.str (binStr a.natAbs) t') { s with toks := k }) : wpAny (model prog w) A (formatField (.int a t) ("b" : PySem.Str)) Q E s := by
  refine KXf.field_int (y := binStr a.natAbs) (spec' := ("b" : PySem.Str)) rfl (by decide +kernel) (by decide +kernel) (fun u => ?_) h
  apply KPc.meets_of
  intro pr w2 A2 s2 Q2 E2 hq
  unfold Builtin.«int.__format__»
  refine wpAny_bind (wpAny_of_eq (a := (_, _)) rfl ?_)
  refine wpAny_bind (wpAny_of_eq (a := _) rfl ?_)
  kxf_if
  refine wpAny_bind (wpAny_typeNameOf (T := "str") (typeIs_str _ _ _) (by decide) fun _ => ?_)
  refine wpAny_bind (wpAny_of_eq (a := some _) rfl ?_)
  kxf_if
  kxf_if
  refine wpAny_bind (wpAny_typeNameOfCut_int ?_)
  have hp : parseFormatSpec (Str.ofString "b").cps.toList "int" 62 = .ok { align := 62, type := some 98 } := by rfl
  rw [hp]
  dsimp only
  refine wpAny_ite (KPc.ite_yes (by decide +kernel) ?_)
  have e98 : (some 98).getD (if ((Str.ofString "b").cps.back? == some 0) = true then 0 else 100) = 98 := rfl
  rw [e98]
  wp_delta
  refine wpAny_ite (KPc.ite_no (by decide) ?_)
  dsimp only
  refine wpAny_ite (KPc.ite_no (by decide) ?_)
  refine wpAny_ite (KPc.ite_no (by decide) ?_)
  simp only [show ((98 : Nat) == 98) = true from rfl, if_true]
  refine wpAny_ite (KPc.ite_no (by decide) ?_)
  refine wpAny_ite (KPc.ite_no (by decide) ?_)
  have ea : decide (a < 0) = false := decide_eq_false (by omega)
  rw [ea]
  have em : (List.map (fun c : Char => (if ((98 : Nat) == 88) = true then c.toUpper else c).toNat) (Nat.toDigits 2 a.natAbs)) = (Nat.toDigits 2 a.natAbs).map Char.toNat := rfl
  rw [em]
  have hne : ((Nat.toDigits 2 a.natAbs).map Char.toNat).isEmpty = false := by
    have := tDigits_len_ge 2 a.natAbs
    cases h : Nat.toDigits 2 a.natAbs with
    | nil => rw [h] at this; simp at this
    | cons x xs => rfl
  have key : ∀ ds : List Nat, ds.isEmpty = false → PyProof.Rows.intField' { align := 62, type := some 98 } false [] ds [] 4 = ⟨ds.toArray⟩ := fun ds hne => by
    unfold PyProof.Rows.intField'
    simp [hne]
  have hk := key _ hne
  have hL : (PyProof.Rows.intField' { align := 62, type := some 98 } false [] ((Nat.toDigits 2 a.natAbs).map Char.toNat) [] 4).length ≤ sizeLine := by
    rw [hk]
    show (List.toArray _).size ≤ sizeLine
    rw [List.size_toArray, List.length_map]
    exact hz
  exact KXf.ret_text (T := binStr a.natAbs) hk hL hq
end
end Cs

/-! Cr: x |= y; f"{x:b}"; bits. -/
namespace Cs
open PySem PySem.Spec PyProof.Rows L2
section
variable {X : Cx}
def rOrI : V → V → Hp → VK → Prop := fun x y H Q => ∃ i j, x = .int i ∧ y = .int j ∧ Q (.int (Builtin.bitOr i j)) H
theorem in_or : InOp X .BitOr rOrI := fun pins s σ H x y u v Q I rx ry h => iop_or pins s σ H x y u v Q I rx ry h
theorem ip_or : PIp X .BitOr (ipI fun i j => Builtin.bitOr i j) := by
  intro pins s σ H x y v u Q I r1 r2 h
  obtain ⟨i, j, e1, e2, q⟩ := h
  subst e1; subst e2
  obtain ⟨t, rfl⟩ := r1
  obtain ⟨t', rfl⟩ := r2
  exact ior_int ⟨.int _, H, I.tok _, ⟨_, rfl⟩, q⟩
/-- {x:b} -/
def tFmtB (te : TE) : TE := fun σ H Q => te σ H fun x H1 => ∃ i : Int, x = .int i ∧ 0 ≤ i ∧ (Nat.toDigits 2 i.natAbs).length ≤ sizeLine ∧ Q (.str (binStr i.natAbs)) H1
theorem pe_fmtB {e : Expr} {te : TE} {pos p1 p2 : Pos} {k : Nat} (he : PE X e te) : PE X (.FormattedValue e (-1) (some (.JoinedStr [.Constant (.str "b") k p1] p2)) pos) (tFmtB te) := by
  refine ⟨fun pins s σ H Q I h => ?_⟩
  refine wpAny_FormattedValue_spec (thn (he.run pins s σ H _ I h) fun v s1 hv => ?_)
  obtain ⟨x, H1, I1, r1, i, rfl, h0, hz, q⟩ := hv
  obtain ⟨t, rfl⟩ := r1
  refine thn ((pe_joined1 (X := X) (pos := p2) (pe_str (pos := p1) (j := k) (x := ("b" : Str)))).run pins s1 σ H1 (fun y H2 => y = .str ("b" : Str) ∧ H2 = H1) I1 ⟨rfl, rfl⟩) fun r s2 hr => ?_
  obtain ⟨y, H2, I2, r2, ey, eh⟩ := hr
  subst ey eh
  obtain ⟨t2, rfl⟩ := r2
  refine ⟨_, t2, rfl, formatField_bin h0 hz fun t' tk => ⟨.str (binStr i.natAbs), _, I2.tok _, ⟨_, rfl⟩, q⟩⟩
end
/-! ### bits -/
theorem bitNot_ofNat (a : Nat) : Builtin.bitNot (a : Int) = -(a : Int) - 1 := by
  unfold Builtin.bitNot; omega
theorem bitOr_nat (a b : Nat) : Builtin.bitOr (a : Int) (b : Int) = ((a ||| b : Nat) : Int) := by
  unfold Builtin.bitOr Builtin.bitAnd
  rw [bitNot_ofNat, bitNot_ofNat, decide_eq_false (by omega), decide_eq_false (by omega)]
  show Builtin.bitNot (Builtin.bitNot (((Builtin.bitNot (-(a : Int) - 1)).toNat ||| (Builtin.bitNot (-(b : Int) - 1)).toNat : Nat) : Int)) = _
  have e : ∀ c : Nat, (Builtin.bitNot (-(c : Int) - 1)).toNat = c := fun c => by unfold Builtin.bitNot; omega
  rw [e, e]
  unfold Builtin.bitNot
  omega
theorem bitAnd_nat (a b : Nat) : Builtin.bitAnd (a : Int) (b : Int) = ((a &&& b : Nat) : Int) := by
  unfold Builtin.bitAnd
  rw [decide_eq_true (by omega), decide_eq_true (by omega)]
  simp
theorem bin_get : ∀ (L n : Nat), 2 ^ L ≤ n → n < 2 ^ (L + 1) → (Nat.toDigits 2 n).length = L + 1 ∧ ∀ i, i ≤ L → (Nat.toDigits 2 n)[i]? = some (if n.testBit (L - i) then '1' else '0')
  | 0, n, h1, h2 => by
    have : n = 1 := by omega
    subst this
    exact ⟨by decide, fun i hi => by have : i = 0 := by omega
                                     subst this; decide⟩
  | L + 1, n, h1, h2 => by
    have hp : 0 < 2 ^ L := Nat.pow_pos (by decide)
    have e1 : 2 ^ (L + 1) = 2 * 2 ^ L := by rw [Nat.pow_succ, Nat.mul_comm]
    have e2 : 2 ^ (L + 1 + 1) = 2 * 2 ^ (L + 1) := by rw [Nat.pow_succ, Nat.mul_comm]
    have hn : 2 ≤ n := by omega
    obtain ⟨l, g⟩ := bin_get L (n / 2) (by omega) (by omega)
    rw [Nat.toDigits_of_base_le (by decide) hn]
    refine ⟨by rw [List.length_append, l]; rfl, fun i hi => ?_⟩
    by_cases hL : i ≤ L
    · rw [List.getElem?_append_left (by omega), g i hL, Nat.testBit_div_two, show L - i + 1 = L + 1 - i by omega]
    · have : i = L + 1 := by omega
      subst this
      rw [List.getElem?_append_right (by omega), l, Nat.sub_self]
      show some (n % 2).digitChar = some (if n.testBit 0 then '1' else '0')
      rw [Nat.testBit_zero]
      rcases Nat.mod_two_eq_zero_or_one n with h | h <;> rw [h] <;> rfl
/-- the sign of a text of bits -/
theorem binStr_get {L n i : Nat} (h1 : 2 ^ L ≤ n) (h2 : n < 2 ^ (L + 1)) (hi : i ≤ L) : (binStr n).length = L + 1 ∧ (binStr n).cps[i]? = some (if n.testBit (L - i) then 49 else 48) := by
  obtain ⟨l, g⟩ := bin_get L n h1 h2
  unfold binStr
  refine ⟨by show (List.toArray _).size = _; rw [List.size_toArray, List.length_map, l], ?_⟩
  show (List.toArray _)[i]? = _
  rw [List.getElem?_toArray, List.getElem?_map, g i hi]
  cases n.testBit (L - i) <;> rfl
theorem one_str : ("1" : Str) = ⟨#[49]⟩ := by decide +kernel
end Cs

/-! Su: seats of rings as codes, sets of them as bits. -/
namespace Cs
def room : List Nat → Nat
  | [] => 1
  | s :: ss => 2 * s * room ss
def cod : List Nat → List Nat → Nat
  | _ :: ss, d :: ds => d * room ss + cod ss ds
  | _, _ => 0
def cnt : List Nat → Nat
  | [] => 1
  | s :: ss => s * cnt ss
def ixo : List Nat → List Nat → Nat
  | _ :: ss, d :: ds => d * cnt ss + ixo ss ds
  | _, _ => 0
def seatsF : List Nat → List (List Nat)
  | [] => [[]]
  | s :: ss => (List.range s).flatMap fun d => (seatsF ss).map (d :: ·)
/-- a digit below m times its size, for each ring -/
inductive Dg (m : Nat) : List Nat → List Nat → Prop
  | nil : Dg m [] []
  | cons {s d : Nat} {ss ds : List Nat} : d < m * s → Dg m ss ds → Dg m (s :: ss) (d :: ds)
theorem Dg.len {m : Nat} {ss ds : List Nat} (h : Dg m ss ds) : ds.length = ss.length := by
  induction h with
  | nil => rfl
  | cons _ _ ih => simp [ih]
theorem Dg.mono {m : Nat} {ss ds : List Nat} (h : Dg 1 ss ds) (hm : 1 ≤ m) : Dg m ss ds := by
  induction h with
  | nil => exact .nil
  | @cons s d ss ds h _ ih => exact .cons (Nat.lt_of_lt_of_le h (Nat.mul_le_mul_right _ hm)) ih
theorem cod_lt {ss es : List Nat} (h : Dg 2 ss es) : cod ss es < room ss := by
  induction h with
  | nil => decide
  | @cons s d ss ds h _ ih =>
    show d * room ss + cod ss ds < 2 * s * room ss
    have : (d + 1) * room ss ≤ 2 * s * room ss := Nat.mul_le_mul_right _ h
    rw [Nat.add_mul, Nat.one_mul] at this
    omega
theorem cod_inj {ss es fs : List Nat} (h : Dg 2 ss es) (g : Dg 2 ss fs) (e : cod ss es = cod ss fs) : es = fs := by
  induction h generalizing fs with
  | nil => cases g; rfl
  | @cons s d ss ds h hd ih =>
    cases g with
    | @cons _ d' _ ds' g gd =>
      have l1 := cod_lt hd
      have l2 := cod_lt gd
      have e' : d * room ss + cod ss ds = d' * room ss + cod ss ds' := e
      have hp : 0 < room ss := by omega
      have q : ∀ {k c : Nat}, c < room ss → (k * room ss + c) / room ss = k := fun {k c} hc => by
        rw [Nat.mul_comm, Nat.mul_add_div hp, Nat.div_eq_of_lt hc, Nat.add_zero]
      have ed : d = d' := by
        have := q (k := d) l1
        rw [e', q l2] at this
        exact this.symm
      subst ed
      rw [ih gd (by omega)]
theorem mem_seatsF {ss ds : List Nat} : ds ∈ seatsF ss ↔ Dg 1 ss ds := by
  induction ss generalizing ds with
  | nil =>
    constructor
    · intro h
      have : ds = [] := by simpa [seatsF] using h
      subst this
      exact .nil
    · intro h
      cases h
      simp [seatsF]
  | cons s ss ih =>
    simp only [seatsF, List.mem_flatMap, List.mem_range, List.mem_map]
    constructor
    · rintro ⟨d, hd, t, ht, rfl⟩
      exact .cons (by omega) (ih.mp ht)
    · intro h
      cases h with
      | @cons _ d _ t h ht => exact ⟨d, by omega, t, ih.mpr ht, rfl⟩
theorem seatsF_len (ss : List Nat) : (seatsF ss).length = cnt ss := by
  induction ss with
  | nil => rfl
  | cons s ss ih =>
    simp only [seatsF, cnt, List.length_flatMap, List.length_map, ih]
    have : ∀ n c : Nat, (List.map (fun _ => c) (List.range n)).sum = n * c := fun n c => by
      rw [List.map_const', List.length_range]
      induction n with
      | zero => simp
      | succ n ih => rw [List.replicate_succ, List.sum_cons, ih, Nat.succ_mul, Nat.add_comm]
    exact this s (cnt ss)
theorem flat_get {α β : Type} (f : α → List β) (c : Nat) : ∀ (l : List α), (∀ x ∈ l, (f x).length = c) → ∀ (k r : Nat), r < c → (l.flatMap f)[k * c + r]? = l[k]?.bind fun x => (f x)[r]?
  | [], _, k, r, _ => by simp
  | a :: l, h, 0, r, hr => by
    have ha := h a (by simp)
    rw [List.flatMap_cons, Nat.zero_mul, Nat.zero_add, List.getElem?_append_left (by omega)]
    simp
  | a :: l, h, k + 1, r, hr => by
    have ha := h a (by simp)
    rw [List.flatMap_cons, List.getElem?_append_right (by rw [ha, Nat.succ_mul]; omega), ha, show (k + 1) * c + r - c = k * c + r by rw [Nat.succ_mul]; omega, flat_get f c l (fun x hx => h x (by simp [hx])) k r hr]
    simp
theorem ixo_at {ss ds : List Nat} (h : Dg 1 ss ds) : ixo ss ds < cnt ss ∧ (seatsF ss)[ixo ss ds]? = some ds := by
  induction h with
  | nil => exact ⟨by decide, rfl⟩
  | @cons s d ss ds h _ ih =>
    obtain ⟨h1, h2⟩ := ih
    rw [Nat.one_mul] at h
    refine ⟨?_, ?_⟩
    · show d * cnt ss + ixo ss ds < s * cnt ss
      have : (d + 1) * cnt ss ≤ s * cnt ss := Nat.mul_le_mul_right _ h
      rw [Nat.add_mul, Nat.one_mul] at this
      omega
    · show ((List.range s).flatMap fun d => (seatsF ss).map (d :: ·))[d * cnt ss + ixo ss ds]? = _
      rw [flat_get _ (cnt ss) _ (fun x _ => by rw [List.length_map, seatsF_len]) _ _ h1, List.getElem?_range h]
      simp [h2]
/-- the seat of an index -/
def stt (ss : List Nat) (i : Nat) : List Nat := (seatsF ss).getD i []
theorem at_ixo : ∀ (ss : List Nat) (i : Nat), i < cnt ss → ∃ ds, Dg 1 ss ds ∧ ixo ss ds = i
  | [], i, h => ⟨[], .nil, by simp only [cnt] at h; show 0 = i; omega⟩
  | s :: ss, i, h => by
    have hc : 0 < cnt ss := by
      rcases Nat.eq_zero_or_pos (cnt ss) with z | z
      · simp [cnt, z] at h
      · exact z
    obtain ⟨ds, h1, h2⟩ := at_ixo ss (i % cnt ss) (Nat.mod_lt _ hc)
    refine ⟨i / cnt ss :: ds, .cons (by rw [Nat.one_mul]; exact Nat.div_lt_of_lt_mul (by rw [Nat.mul_comm]; exact h)) h1, ?_⟩
    show i / cnt ss * cnt ss + ixo ss ds = i
    rw [h2, Nat.mul_comm]
    exact Nat.div_add_mod _ _
theorem stt_ok {ss : List Nat} {i : Nat} (h : i < cnt ss) : Dg 1 ss (stt ss i) ∧ ixo ss (stt ss i) = i ∧ (seatsF ss)[i]? = some (stt ss i) := by
  obtain ⟨ds, h1, h2⟩ := at_ixo ss i h
  obtain ⟨h3, h4⟩ := ixo_at h1
  rw [h2] at h4
  have : stt ss i = ds := by unfold stt; rw [List.getD_eq_getElem?_getD, h4]; rfl
  rw [this]
  exact ⟨h1, h2, h4⟩
theorem stt_ixo {ss ds : List Nat} (h : Dg 1 ss ds) : stt ss (ixo ss ds) = ds := by
  unfold stt
  rw [List.getD_eq_getElem?_getD, (ixo_at h).2]
  rfl
theorem ixo_inj {ss ds es : List Nat} (h : Dg 1 ss ds) (g : Dg 1 ss es) (e : ixo ss ds = ixo ss es) : ds = es := by
  rw [← stt_ixo h, e, stt_ixo g]
/-! digits of doubles, of mirrors, of partners -/
def dbd : List Nat → List Nat → List Nat
  | s :: ss, x :: xs => 2 * x % s :: dbd ss xs
  | _, _ => []
def mrd : List Nat → List Nat → List Nat
  | s :: ss, a :: as => (s - a) :: mrd ss as
  | _, _ => []
def adg : List Nat → List Nat → List Nat
  | x :: xs, y :: ys => (x + y) :: adg xs ys
  | _, _ => []
def mdd : List Nat → List Nat → List Nat
  | s :: ss, x :: xs => x % s :: mdd ss xs
  | _, _ => []
/-- the other move where one goes from x to a -/
def prt (ss x a : List Nat) : List Nat := mdd ss (adg (dbd ss x) (mrd ss a))
theorem cod_add : ∀ (ss xs ys : List Nat), xs.length = ss.length → ys.length = ss.length → cod ss (adg xs ys) = cod ss xs + cod ss ys
  | [], [], [], _, _ => rfl
  | s :: ss, x :: xs, y :: ys, h, g => by
    show (x + y) * room ss + cod ss (adg xs ys) = x * room ss + cod ss xs + (y * room ss + cod ss ys)
    rw [cod_add ss xs ys (by simpa using h) (by simpa using g), Nat.add_mul]
    omega
  | [], _ :: _, _, h, _ => by simp at h
  | [], [], _ :: _, _, h => by simp at h
  | _ :: _, [], _, h, _ => by simp at h
  | _ :: _, _ :: _, [], _, h => by simp at h
theorem dbd_dg {ss x : List Nat} (h : Dg 1 ss x) : Dg 1 ss (dbd ss x) := by
  induction h with
  | nil => exact .nil
  | @cons s d ss ds h _ ih => exact .cons (by rw [Nat.one_mul] at h ⊢; exact Nat.mod_lt _ (by omega)) ih
theorem sum_dg {ss x a : List Nat} (h : Dg 1 ss x) (g : Dg 1 ss a) : Dg 2 ss (adg (dbd ss x) (mrd ss a)) := by
  induction h generalizing a with
  | nil => cases g; exact .nil
  | @cons s d ss ds h _ ih =>
    cases g with
    | @cons _ a _ as g ga =>
      refine .cons ?_ (ih ga)
      have := Nat.mod_lt (2 * d) (show 0 < s by omega)
      omega
theorem mdd_dg {m : Nat} {ss x : List Nat} (h : Dg m ss x) : Dg 1 ss (mdd ss x) := by
  induction h with
  | nil => exact .nil
  | @cons s d ss ds h _ ih =>
    refine .cons ?_ ih
    rw [Nat.one_mul]
    refine Nat.mod_lt _ ?_
    rcases Nat.eq_zero_or_pos s with z | z
    · subst z; simp at h
    · exact z
theorem prt_dg {ss x a : List Nat} (h : Dg 1 ss x) (g : Dg 1 ss a) : Dg 1 ss (prt ss x a) := mdd_dg (sum_dg h g)
theorem mrd_len : ∀ {ss a : List Nat}, a.length = ss.length → (mrd ss a).length = ss.length
  | [], [], _ => rfl
  | _ :: ss, _ :: as, h => by show (mrd ss as).length + 1 = ss.length + 1; rw [mrd_len (by simpa using h)]
  | [], _ :: _, h => by simp at h
  | _ :: _, [], h => by simp at h
theorem cod_sum {ss x a : List Nat} (h : Dg 1 ss x) (g : Dg 1 ss a) : cod ss (mrd ss a) + cod ss (dbd ss x) = cod ss (adg (dbd ss x) (mrd ss a)) := by
  rw [cod_add ss _ _ (dbd_dg h).len (mrd_len g.len), Nat.add_comm]
/-! wide sets -/
def wid : List Nat → Nat → Nat
  | [], u => u
  | s :: ss, u => wid ss (u ||| u <<< (s * room ss))
/-- each digit is 0 or its size -/
inductive Qd : List Nat → List Nat → Prop
  | nil : Qd [] []
  | zero {s : Nat} {ss qs : List Nat} : Qd ss qs → Qd (s :: ss) (0 :: qs)
  | one {s : Nat} {ss qs : List Nat} : Qd ss qs → Qd (s :: ss) (s :: qs)
theorem Qd.len {ss q : List Nat} (h : Qd ss q) : q.length = ss.length := by
  induction h with
  | nil => rfl
  | zero _ ih => simp [ih]
  | one _ ih => simp [ih]
theorem wid_bits : ∀ (ss : List Nat) (u c : Nat), (wid ss u).testBit c = true ↔ ∃ q, Qd ss q ∧ cod ss q ≤ c ∧ u.testBit (c - cod ss q) = true
  | [], u, c => by
    constructor
    · intro h
      exact ⟨[], .nil, Nat.zero_le _, h⟩
    · rintro ⟨q, hq, _, h⟩
      cases hq
      exact h
  | s :: ss, u, c => by
    show (wid ss (u ||| u <<< (s * room ss))).testBit c = true ↔ _
    rw [wid_bits ss]
    constructor
    · rintro ⟨q, hq, hc, h⟩
      rw [Nat.testBit_or, Bool.or_eq_true, Nat.testBit_shiftLeft] at h
      rcases h with h | h
      · refine ⟨0 :: q, .zero hq, ?_, ?_⟩
        · show 0 * room ss + cod ss q ≤ c; omega
        · show u.testBit (c - (0 * room ss + cod ss q)) = true
          rw [Nat.zero_mul, Nat.zero_add]; exact h
      · rw [Bool.and_eq_true, decide_eq_true_eq] at h
        refine ⟨s :: q, .one hq, ?_, ?_⟩
        · show s * room ss + cod ss q ≤ c; omega
        · show u.testBit (c - (s * room ss + cod ss q)) = true
          rw [show c - (s * room ss + cod ss q) = c - cod ss q - s * room ss by omega]; exact h.2
    · rintro ⟨q, hq, hc, h⟩
      cases hq with
      | @zero _ _ q hq =>
        have hc : 0 * room ss + cod ss q ≤ c := hc
        have h : u.testBit (c - (0 * room ss + cod ss q)) = true := h
        rw [Nat.zero_mul, Nat.zero_add] at hc h
        refine ⟨q, hq, hc, ?_⟩
        rw [Nat.testBit_or, h, Bool.true_or]
      | @one _ _ q hq =>
        have hc : s * room ss + cod ss q ≤ c := hc
        have h : u.testBit (c - (s * room ss + cod ss q)) = true := h
        refine ⟨q, hq, by omega, ?_⟩
        rw [Nat.testBit_or, Nat.testBit_shiftLeft, decide_eq_true (by omega : c - cod ss q ≥ s * room ss), Bool.true_and, show c - cod ss q - s * room ss = c - (s * room ss + cod ss q) by omega, h, Bool.or_true]
theorem addq_dg {ss p q : List Nat} (h : Dg 1 ss p) (g : Qd ss q) : Dg 2 ss (adg p q) ∧ mdd ss (adg p q) = p := by
  induction h generalizing q with
  | nil => cases g; exact ⟨.nil, rfl⟩
  | @cons s d ss ds h _ ih =>
    rw [Nat.one_mul] at h
    cases g with
    | zero g =>
      obtain ⟨i1, i2⟩ := ih g
      exact ⟨.cons (by omega) i1, by show (d + 0) % s :: _ = _; rw [i2, Nat.add_zero, Nat.mod_eq_of_lt h]⟩
    | one g =>
      obtain ⟨i1, i2⟩ := ih g
      exact ⟨.cons (by omega) i1, by show (d + s) % s :: _ = _; rw [i2, Nat.add_mod_right, Nat.mod_eq_of_lt h]⟩
theorem split_q {ss e : List Nat} (h : Dg 2 ss e) : ∃ q, Qd ss q ∧ adg (mdd ss e) q = e := by
  induction h with
  | nil => exact ⟨[], .nil, rfl⟩
  | @cons s d ss ds h _ ih =>
    obtain ⟨q, h1, h2⟩ := ih
    by_cases hd : d < s
    · exact ⟨0 :: q, .zero h1, by show (d % s + 0) :: _ = _; rw [h2, Nat.mod_eq_of_lt hd, Nat.add_zero]⟩
    · refine ⟨s :: q, .one h1, ?_⟩
      show (d % s + s) :: _ = _
      rw [h2]
      have : d % s = d - s := by rw [Nat.mod_eq_sub_mod (by omega), Nat.mod_eq_of_lt (by omega)]
      rw [this, show d - s + s = d by omega]
/-- all members are codes of seats -/
def OnlyC (ss : List Nat) (u : Nat) : Prop := ∀ c, u.testBit c = true → ∃ p, Dg 1 ss p ∧ c = cod ss p
theorem wid_mem {ss : List Nat} {u : Nat} (ho : OnlyC ss u) (c : Nat) : (wid ss u).testBit c = true ↔ ∃ e, Dg 2 ss e ∧ c = cod ss e ∧ u.testBit (cod ss (mdd ss e)) = true := by
  rw [wid_bits]
  constructor
  · rintro ⟨q, hq, hc, h⟩
    obtain ⟨p, hp, e⟩ := ho _ h
    obtain ⟨h1, h2⟩ := addq_dg hp hq
    refine ⟨adg p q, h1, ?_, ?_⟩
    · rw [cod_add ss p q hp.len hq.len]; omega
    · rw [h2, ← e]; exact h
  · rintro ⟨e, he, rfl, h⟩
    obtain ⟨q, hq, eq⟩ := split_q he
    have e1 := cod_add ss (mdd ss e) q (mdd_dg he).len hq.len
    rw [eq] at e1
    exact ⟨q, hq, by omega, by rw [show cod ss e - cod ss q = cod ss (mdd ss e) by omega]; exact h⟩
theorem wid_lt {ss : List Nat} {u : Nat} (ho : OnlyC ss u) : wid ss u < 2 ^ room ss := by
  refine Nat.lt_pow_two_of_testBit _ fun c hc => ?_
  rw [Bool.eq_false_iff]
  intro h
  obtain ⟨e, he, rfl, _⟩ := (wid_mem ho c).mp h
  have := cod_lt he
  omega
theorem wid_cod {ss : List Nat} {u : Nat} (ho : OnlyC ss u) {e : List Nat} (he : Dg 2 ss e) : (wid ss u).testBit (cod ss e) = u.testBit (cod ss (mdd ss e)) := by
  rw [Bool.eq_iff_iff, wid_mem ho]
  constructor
  · rintro ⟨f, hf, ef, h⟩
    rw [cod_inj he hf ef]
    exact h
  · intro h
    exact ⟨e, he, rfl, h⟩
/-! sets as bits -/
def bitsOf (l : List Nat) : Nat := l.foldl (fun u c => u ||| 1 <<< c) 0
theorem bitsOf_snoc (l : List Nat) (c : Nat) : bitsOf (l ++ [c]) = bitsOf l ||| 1 <<< c := by unfold bitsOf; rw [List.foldl_append]; rfl
theorem testBit_one_shl (c d : Nat) : (1 <<< c).testBit d = decide (d = c) := by
  rw [Nat.one_shiftLeft, Nat.testBit_two_pow, Bool.eq_iff_iff, decide_eq_true_eq, decide_eq_true_eq]
  exact eq_comm
theorem testBit_foldl (l : List Nat) (u d : Nat) : (l.foldl (fun u c => u ||| 1 <<< c) u).testBit d = (u.testBit d || decide (d ∈ l)) := by
  induction l generalizing u with
  | nil => simp
  | cons c l ih =>
    rw [List.foldl_cons, ih, Nat.testBit_or, testBit_one_shl, Bool.or_assoc]
    congr 1
    rw [Bool.eq_iff_iff, Bool.or_eq_true, decide_eq_true_eq, decide_eq_true_eq, decide_eq_true_eq, List.mem_cons]
theorem testBit_bitsOf (l : List Nat) (d : Nat) : (bitsOf l).testBit d = decide (d ∈ l) := by
  unfold bitsOf
  rw [testBit_foldl, Nat.zero_testBit, Bool.false_or]
/-! by indexes -/
def cdx (ss : List Nat) (i : Nat) : Nat := cod ss (stt ss i)
def dbx (ss : List Nat) (i : Nat) : Nat := cod ss (dbd ss (stt ss i))
def mrx (ss : List Nat) (i : Nat) : Nat := cod ss (mrd ss (stt ss i))
def prx (ss : List Nat) (x a : Nat) : Nat := ixo ss (prt ss (stt ss x) (stt ss a))
/-- the bits of a set of seats -/
def Bits (f : Nat → Nat) (U : Nat → Bool) (N u : Nat) : Prop := ∀ c, u.testBit c = true ↔ ∃ i, i < N ∧ U i = true ∧ f i = c
theorem Bits.uniq {f : Nat → Nat} {U : Nat → Bool} {N u v : Nat} (h : Bits f U N u) (g : Bits f U N v) : u = v := Nat.eq_of_testBit_eq fun c => by rw [Bool.eq_iff_iff, h c, g c]
theorem Bits.only {ss : List Nat} {U : Nat → Bool} {u : Nat} (h : Bits (cdx ss) U (cnt ss) u) : OnlyC ss u := fun c hc => by
  obtain ⟨i, hi, _, e⟩ := (h c).mp hc
  exact ⟨_, (stt_ok hi).1, e.symm⟩
theorem cdx_inj {ss : List Nat} {i j : Nat} (hi : i < cnt ss) (hj : j < cnt ss) (e : cdx ss i = cdx ss j) : i = j := by
  have := cod_inj ((stt_ok hi).1.mono (by decide)) ((stt_ok hj).1.mono (by decide)) e
  rw [← (stt_ok hi).2.1, this, (stt_ok hj).2.1]
theorem prx_lt {ss : List Nat} {x a : Nat} (hx : x < cnt ss) (ha : a < cnt ss) : prx ss x a < cnt ss := (ixo_at (prt_dg (stt_ok hx).1 (stt_ok ha).1)).1
theorem Bits.at {ss : List Nat} {U : Nat → Bool} {u : Nat} (h : Bits (cdx ss) U (cnt ss) u) {p : List Nat} (hp : Dg 1 ss p) : u.testBit (cod ss p) = U (ixo ss p) := by
  rw [Bool.eq_iff_iff, h]
  constructor
  · rintro ⟨i, hi, hU, e⟩
    have := cod_inj ((stt_ok hi).1.mono (by decide)) (hp.mono (by decide)) e
    rw [← this, (stt_ok hi).2.1]
    exact hU
  · intro hU
    exact ⟨_, (ixo_at hp).1, hU, by unfold cdx; rw [stt_ixo hp]⟩
/-- from x to a, and on the other side to a seat of U -/
theorem wide_bit {ss : List Nat} {U : Nat → Bool} {u x a : Nat} (h : Bits (cdx ss) U (cnt ss) u) (hx : x < cnt ss) (ha : a < cnt ss) : (wid ss u).testBit (mrx ss a + dbx ss x) = U (prx ss x a) := by
  have d1 := (stt_ok hx).1
  have d2 := (stt_ok ha).1
  unfold mrx dbx
  rw [cod_sum d1 d2, wid_cod h.only (sum_dg d1 d2)]
  exact h.at (prt_dg d1 d2)
theorem dbx_lt {ss : List Nat} {x : Nat} (hx : x < cnt ss) : dbx ss x < room ss := cod_lt ((dbd_dg (stt_ok hx).1).mono (by decide))
theorem cdx_lt {ss : List Nat} {x : Nat} (hx : x < cnt ss) : cdx ss x < room ss := cod_lt ((stt_ok hx).1.mono (by decide))
end Cs

/-! Sv: the numbers of calls, level by level. -/
namespace Cs
theorem mod_self' {s x : Nat} (hx : x < s) : (2 * x % s + (s - x)) % s = x := by
  by_cases h : 2 * x < s
  · rw [Nat.mod_eq_of_lt h, show 2 * x + (s - x) = x + s by omega, Nat.add_mod_right, Nat.mod_eq_of_lt hx]
  · rw [Nat.mod_eq_sub_mod (by omega : 2 * x ≥ s), Nat.mod_eq_of_lt (by omega : 2 * x - s < s), show 2 * x - s + (s - x) = x by omega, Nat.mod_eq_of_lt hx]
theorem mod_back {s r a : Nat} (hr : r < s) (ha : a < s) : (r + (s - (r + (s - a)) % s)) % s = a := by
  by_cases h : a ≤ r
  · rw [show r + (s - a) = (r - a) + s by omega, Nat.add_mod_right, Nat.mod_eq_of_lt (by omega : r - a < s), show r + (s - (r - a)) = a + s by omega, Nat.add_mod_right, Nat.mod_eq_of_lt ha]
  · rw [Nat.mod_eq_of_lt (by omega : r + (s - a) < s), show r + (s - (r + (s - a))) = a by omega, Nat.mod_eq_of_lt ha]
theorem prt_self {ss x : List Nat} (h : Dg 1 ss x) : prt ss x x = x := by
  induction h with
  | nil => rfl
  | @cons s d ss ds h _ ih =>
    show (2 * d % s + (s - d)) % s :: prt ss ds ds = _
    rw [ih, mod_self' (by omega)]
theorem prt_back {ss x a : List Nat} (h : Dg 1 ss x) (g : Dg 1 ss a) : prt ss x (prt ss x a) = a := by
  induction h generalizing a with
  | nil => cases g; rfl
  | @cons s d ss ds h _ ih =>
    cases g with
    | @cons _ a _ as g ga =>
      show (2 * d % s + (s - (2 * d % s + (s - a)) % s)) % s :: prt ss ds (prt ss ds as) = _
      rw [ih ga, mod_back (Nat.mod_lt _ (by omega)) (by omega)]
section
variable {ss : List Nat} {x a : Nat}
theorem prx_self (hx : x < cnt ss) : prx ss x x = x := by
  unfold prx
  rw [prt_self (stt_ok hx).1, (stt_ok hx).2.1]
theorem prx_back (hx : x < cnt ss) (ha : a < cnt ss) : prx ss x (prx ss x a) = a := by
  unfold prx
  rw [stt_ixo (prt_dg (stt_ok hx).1 (stt_ok ha).1), prt_back (stt_ok hx).1 (stt_ok ha).1, (stt_ok ha).2.1]
end
/-- n calls suffice from x -/
def Un (ss : List Nat) (T : Nat → Bool) : Nat → Nat → Bool
  | 0, x => T x
  | n + 1, x => (List.range (cnt ss)).any fun a => Un ss T n a && Un ss T n (prx ss x a)
section
variable {ss : List Nat} {T : Nat → Bool} {n m x a : Nat}
theorem un_succ : Un ss T (n + 1) x = true ↔ ∃ a, a < cnt ss ∧ Un ss T n a = true ∧ Un ss T n (prx ss x a) = true := by
  simp only [Un, List.any_eq_true, List.mem_range, Bool.and_eq_true]
theorem un_mono (hx : x < cnt ss) (h : Un ss T n x = true) : Un ss T (n + 1) x = true := un_succ.mpr ⟨x, hx, h, by rw [prx_self hx]; exact h⟩
theorem un_le (hx : x < cnt ss) (hnm : n ≤ m) (h : Un ss T n x = true) : Un ss T m x = true := by
  induction m with
  | zero => rw [show n = 0 by omega] at h; exact h
  | succ m ih =>
    rcases Nat.lt_or_ge m n with q | q
    · rw [show n = m + 1 by omega] at h; exact h
    · exact un_mono hx (ih q)
/-- no new seat: never again -/
theorem un_stable (h : ∀ i, i < cnt ss → Un ss T (n + 1) i = true → Un ss T n i = true) (hnm : n ≤ m) (hx : x < cnt ss) (hm : Un ss T m x = true) : Un ss T n x = true := by
  induction m generalizing x with
  | zero => rw [show n = 0 by omega]; exact hm
  | succ m ih =>
    rcases Nat.lt_or_ge m n with q | q
    · rw [show n = m + 1 by omega]; exact hm
    · obtain ⟨a, ha, h1, h2⟩ := un_succ.mp hm
      exact h x hx (un_succ.mpr ⟨a, ha, ih q ha h1, ih q (prx_lt hx ha) h2⟩)
/-- the known, the new, the waiting seats -/
def Kn (ss : List Nat) (T : Nat → Bool) (n : Nat) : List Nat := (List.range (cnt ss)).filter (Un ss T n)
def Wn (ss : List Nat) (T : Nat → Bool) (n : Nat) : List Nat := (List.range (cnt ss)).filter fun i => !Un ss T n i
def Rn (ss : List Nat) (T : Nat → Bool) : Nat → List Nat
  | 0 => Kn ss T 0
  | n + 1 => (List.range (cnt ss)).filter fun i => Un ss T (n + 1) i && !Un ss T n i
theorem mem_Kn : x ∈ Kn ss T n ↔ x < cnt ss ∧ Un ss T n x = true := by simp [Kn]
theorem mem_Wn : x ∈ Wn ss T n ↔ x < cnt ss ∧ Un ss T n x = false := by simp [Wn]
theorem mem_Rn : x ∈ Rn ss T n ↔ x < cnt ss ∧ Un ss T n x = true ∧ ∀ m, m < n → Un ss T m x = false := by
  cases n with
  | zero => simp [Rn, Kn]
  | succ n =>
    simp only [Rn, List.mem_filter, List.mem_range, Bool.and_eq_true, Bool.not_eq_true']
    constructor
    · rintro ⟨h, h1, h2⟩
      refine ⟨h, h1, fun m hm => ?_⟩
      rw [Bool.eq_false_iff]
      intro h3
      rw [un_le h (by omega : m ≤ n) h3] at h2
      cases h2
    · rintro ⟨h, h1, h2⟩
      exact ⟨h, h1, h2 n (by omega)⟩
theorem Rn_asc : (Rn ss T n).Pairwise (· < ·) := by
  cases n with
  | zero => exact List.Pairwise.filter _ List.pairwise_lt_range
  | succ n => exact List.Pairwise.filter _ List.pairwise_lt_range
theorem Wn_nodup : (Wn ss T n).Nodup := List.Pairwise.filter _ List.nodup_range
theorem Kn_nodup : (Kn ss T n).Nodup := List.Pairwise.filter _ List.nodup_range
theorem kw_len : (Kn ss T n).length + (Wn ss T n).length = cnt ss := by
  unfold Kn Wn
  generalize hN : cnt ss = N
  have := List.length_range (n := N)
  generalize List.range N = l at *
  rw [← this]
  clear this
  induction l with
  | nil => rfl
  | cons a l ih =>
    by_cases h : Un ss T n a = true
    · simp [h]; omega
    · simp [h]; omega
theorem Wn_succ : Wn ss T (n + 1) = (Wn ss T n).filter fun i => !Un ss T (n + 1) i := by
  unfold Wn
  rw [List.filter_filter]
  refine List.filter_congr fun i hi => ?_
  have hi := List.mem_range.mp hi
  cases h : Un ss T n i with
  | false => simp
  | true => rw [un_mono hi h]; rfl
theorem Rn_succ : Rn ss T (n + 1) = (Wn ss T n).filter fun i => Un ss T (n + 1) i := by
  unfold Wn
  rw [List.filter_filter]
  rfl
/-- more than half are known: all the others are next -/
theorem half (h : 2 * (Wn ss T n).length < cnt ss) (hx : x < cnt ss) : Un ss T (n + 1) x = true := by
  have hk := kw_len (ss := ss) (T := T) (n := n)
  apply Classical.byContradiction
  intro hn
  have dis : ∀ a, a ∈ Kn ss T n → prx ss x a ∉ Kn ss T n := fun a ha hb => by
    have ha := mem_Kn.mp ha
    exact hn (un_succ.mpr ⟨a, ha.1, ha.2, (mem_Kn.mp hb).2⟩)
  have nd : (Kn ss T n ++ (Kn ss T n).map (prx ss x)).Nodup := by
    rw [List.nodup_append]
    refine ⟨Kn_nodup, ?_, ?_⟩
    · refine List.pairwise_map.mpr (List.Pairwise.imp_of_mem ?_ Kn_nodup)
      intro a b ha hb hab e
      refine hab ?_
      have := congrArg (prx ss x) e
      rwa [prx_back hx (mem_Kn.mp ha).1, prx_back hx (mem_Kn.mp hb).1] at this
    · intro a ha b hb e
      subst e
      obtain ⟨c, hc, rfl⟩ := List.mem_map.mp hb
      exact dis c hc ha
  have := List.Nodup.length_le_of_subset (l₂ := List.range (cnt ss)) nd (fun b hb => by
    rcases List.mem_append.mp hb with hb | hb
    · exact List.mem_range.mpr (mem_Kn.mp hb).1
    · obtain ⟨c, hc, rfl⟩ := List.mem_map.mp hb
      exact List.mem_range.mpr (prx_lt hx (mem_Kn.mp hc).1))
  rw [List.length_append, List.length_map, List.length_range] at this
  omega
/-- the number of a seat, if it is at most d -/
def nmb (ss : List Nat) (T : Nat → Bool) (d i : Nat) : Option Nat := (List.range (d + 1)).find? fun n => Un ss T n i
theorem nmb_succ (d i : Nat) : nmb ss T (d + 1) i = (nmb ss T d i).or (if Un ss T (d + 1) i then some (d + 1) else none) := by
  unfold nmb
  rw [List.range_succ, List.find?_append]
  congr 1
  cases h : Un ss T (d + 1) i <;> simp [h]
theorem nmb_none {d i : Nat} (hi : i < cnt ss) : nmb ss T d i = none ↔ Un ss T d i = false := by
  unfold nmb
  rw [List.find?_eq_none]
  constructor
  · intro h
    have := h d (List.mem_range.mpr (by omega))
    simpa using this
  · intro h n hn h2
    rw [un_le hi (by have := List.mem_range.mp hn; omega : n ≤ d) h2] at h
    cases h
theorem nmb_some {d i n : Nat} : nmb ss T d i = some n ↔ n ≤ d ∧ Un ss T n i = true ∧ ∀ m, m < n → Un ss T m i = false := by
  unfold nmb
  rw [List.find?_range_eq_some]
  constructor
  · rintro ⟨h1, h2, h3⟩
    exact ⟨by have := List.mem_range.mp h2; omega, h1, fun m hm => by have := h3 m hm; simpa using this⟩
  · rintro ⟨h1, h2, h3⟩
    exact ⟨h2, List.mem_range.mpr (by omega), fun m hm => by rw [h3 m hm]; rfl⟩
/-- nonempty levels are few -/
theorem lev_few (h : ∀ m, m ≤ n → Rn ss T m ≠ []) : n + 1 ≤ (Kn ss T n).length := by
  induction n with
  | zero =>
    have := h 0 (Nat.le_refl _)
    exact List.length_pos_iff.mpr this
  | succ n ih =>
    have i1 := ih fun m hm => h m (by omega)
    obtain ⟨x, hx⟩ := List.exists_mem_of_ne_nil _ (h (n + 1) (Nat.le_refl _))
    obtain ⟨x1, x2, x3⟩ := mem_Rn.mp hx
    have nd : (x :: Kn ss T n).Nodup := List.nodup_cons.mpr ⟨fun hm => (by
      have := (mem_Kn.mp hm).2
      rw [x3 n (by omega)] at this
      exact absurd this (by decide)), Kn_nodup⟩
    have := List.Nodup.length_le_of_subset (l₂ := Kn ss T (n + 1)) nd (fun b hb => by
      rcases List.mem_cons.mp hb with rfl | hb
      · exact mem_Kn.mpr ⟨x1, x2⟩
      · have := mem_Kn.mp hb
        exact mem_Kn.mpr ⟨this.1, un_mono this.1 this.2⟩)
    simp only [List.length_cons] at this
    omega
end
/-! what the lists hold -/
theorem foldl_ext (h : Nat → Nat → Nat) : ∀ (ss : List Nat) (xs : List Nat), (ss.foldl (fun cs s => cs.flatMap fun c => (List.range s).map fun d => 2 * s * c + h s d) xs) =
    xs.flatMap fun x => (seatsF ss).map fun ds => x * room ss + cod ss (List.zipWith h ss ds)
  | [], xs => by
    simp [seatsF, room, cod]
  | s :: ss, xs => by
    rw [List.foldl_cons, foldl_ext h ss, List.flatMap_assoc]
    congr 1
    funext x
    simp only [seatsF, List.map_flatMap, List.flatMap_map, List.map_map]
    congr 1
    funext d
    congr 1
    funext ds
    show (2 * s * x + h s d) * room ss + cod ss (List.zipWith h ss ds) = x * (2 * s * room ss) + (h s d * room ss + cod ss (List.zipWith h ss ds))
    rw [Nat.add_mul, Nat.mul_comm (2 * s) x, Nat.mul_assoc x, Nat.add_assoc]
theorem zw_cod : ∀ (ss ds : List Nat), ds.length = ss.length → List.zipWith (fun _ d => d) ss ds = ds
  | [], [], _ => rfl
  | _ :: ss, d :: ds, h => by show d :: _ = _; rw [zw_cod ss ds (by simpa using h)]
  | [], _ :: _, h => by simp at h
  | _ :: _, [], h => by simp at h
theorem zw_dbd : ∀ (ss ds : List Nat), List.zipWith (fun s d => 2 * d % s) ss ds = dbd ss ds
  | [], _ => by simp [dbd]
  | _ :: _, [] => by simp [dbd]
  | s :: ss, d :: ds => by show _ :: _ = _ :: _; rw [zw_dbd ss ds]
theorem zw_mrd : ∀ (ss ds : List Nat), List.zipWith (fun s d => s - d) ss ds = mrd ss ds
  | [], _ => by simp [mrd]
  | _ :: _, [] => by simp [mrd]
  | s :: ss, d :: ds => by show _ :: _ = _ :: _; rw [zw_mrd ss ds]
/-- a list of all seats, by their indexes -/
theorem seats_map (ss : List Nat) (f : List Nat → Nat) : (seatsF ss).map f = (List.range (cnt ss)).map fun i => f (stt ss i) := by
  refine List.ext_getElem? fun i => ?_
  rw [List.getElem?_map, List.getElem?_map]
  by_cases hi : i < cnt ss
  · rw [(stt_ok hi).2.2, List.getElem?_range hi]; rfl
  · rw [List.getElem?_eq_none (by rw [seatsF_len]; omega), List.getElem?_eq_none (by rw [List.length_range]; omega)]; rfl
theorem codes_eq (ss : List Nat) : ss.foldl (fun cs s => cs.flatMap fun c => (List.range s).map fun d => 2 * s * c + d) [0] = (List.range (cnt ss)).map (cdx ss) := by
  rw [foldl_ext (fun _ d => d) ss [0]]
  simp only [List.flatMap_cons, List.flatMap_nil, List.append_nil, Nat.zero_mul, Nat.zero_add]
  refine Eq.trans (List.map_congr_left fun ds hd => ?_) (seats_map ss (cod ss))
  rw [zw_cod ss ds (mem_seatsF.mp hd).len]
theorem doubles_eq (ss : List Nat) : ss.foldl (fun cs s => cs.flatMap fun c => (List.range s).map fun d => 2 * s * c + 2 * d % s) [0] = (List.range (cnt ss)).map (dbx ss) := by
  rw [foldl_ext (fun s d => 2 * d % s) ss [0]]
  simp only [List.flatMap_cons, List.flatMap_nil, List.append_nil, Nat.zero_mul, Nat.zero_add, zw_dbd]
  exact seats_map ss fun ds => cod ss (dbd ss ds)
theorem mirrors_eq (ss : List Nat) : ss.foldl (fun cs s => cs.flatMap fun c => (List.range s).map fun d => 2 * s * c + (s - d)) [0] = (List.range (cnt ss)).map (mrx ss) := by
  rw [foldl_ext (fun s d => s - d) ss [0]]
  simp only [List.flatMap_cons, List.flatMap_nil, List.append_nil, Nat.zero_mul, Nat.zero_add, zw_mrd]
  exact seats_map ss fun ds => cod ss (mrd ss ds)
end Cs

/-! Sw: the grid's and the spread's lists. -/
namespace Cs
open PySem L2
def nV (l : List Nat) : List V := l.map fun n => V.int (n : Nat)
def lgr (cs ds : List Nat) (s : Nat) : List Nat := cs.flatMap fun c => ds.map fun d => 2 * s * c + d
theorem nV_get {l : List Nat} {i : Nat} {x : V} (h : (nV l)[i]? = some x) : ∃ n, l[i]? = some n ∧ x = .int (n : Nat) := by
  unfold nV at h
  rw [List.getElem?_map, Option.map_eq_some_iff] at h
  obtain ⟨n, h1, h2⟩ := h
  exact ⟨n, h1, h2.symm⟩
/-- sizes of rings, few and small -/
structure SmS (ss : List Nat) : Prop where
  len : ss.length ≤ 4
  pos : ∀ s ∈ ss, 1 ≤ s
  cnt : cnt ss ≤ 2000
def strd : List Nat → List Nat
  | [] => []
  | _ :: ss => room ss :: strd ss
theorem strd_snoc : ∀ (ps : List Nat) (s : Nat), strd (ps ++ [s]) = (strd ps).map (fun c => 2 * s * c) ++ [1]
  | [], s => rfl
  | p :: ps, s => by
    show room (ps ++ [s]) :: strd (ps ++ [s]) = _
    rw [strd_snoc ps s]
    have : ∀ ps : List Nat, room (ps ++ [s]) = 2 * s * room ps := fun ps => by
      induction ps with
      | nil => show 2 * s * 1 = 2 * s * 1; rfl
      | cons p ps ih =>
        show 2 * p * room (ps ++ [s]) = 2 * s * (2 * p * room ps)
        rw [ih, Nat.mul_left_comm]
    rw [this]
    rfl
theorem room_snoc (s : Nat) : ∀ (ps : List Nat), room (ps ++ [s]) = room ps * 2 * s
  | [] => by show 2 * s * 1 = 1 * 2 * s; omega
  | p :: ps => by
    show 2 * p * room (ps ++ [s]) = 2 * p * room ps * 2 * s
    rw [room_snoc s ps, Nat.mul_assoc, Nat.mul_assoc, Nat.mul_assoc, Nat.mul_assoc, Nat.mul_assoc]
theorem cnt_snoc (s : Nat) : ∀ (ps : List Nat), cnt (ps ++ [s]) = cnt ps * s
  | [] => by show s * 1 = 1 * s; omega
  | p :: ps => by
    show p * cnt (ps ++ [s]) = p * cnt ps * s
    rw [cnt_snoc s ps, Nat.mul_assoc]
theorem room_cnt : ∀ ss : List Nat, room ss = 2 ^ ss.length * cnt ss
  | [] => rfl
  | s :: ss => by
    show 2 * s * room ss = 2 ^ (ss.length + 1) * (s * cnt ss)
    rw [room_cnt ss, Nat.pow_succ, Nat.mul_left_comm (2 ^ ss.length * 2), Nat.mul_comm 2 s, Nat.mul_assoc, ← Nat.mul_assoc 2, Nat.mul_comm 2 (2 ^ ss.length)]
theorem cnt_take {ss : List Nat} (h : ∀ s ∈ ss, 1 ≤ s) (i : Nat) : cnt (ss.take i) ≤ cnt ss ∧ 1 ≤ cnt (ss.take i) := by
  induction ss generalizing i with
  | nil => rw [List.take_nil]; exact ⟨Nat.le_refl _, Nat.le_refl _⟩
  | cons s ss ih =>
    cases i with
    | zero =>
      have h1 := (ih (fun x hx => h x (List.mem_cons_of_mem _ hx)) 0).1
      have hs := h s (List.mem_cons_self ..)
      refine ⟨?_, by show 1 ≤ 1; omega⟩
      show 1 ≤ s * cnt ss
      have : 1 * 1 ≤ s * cnt ss := Nat.mul_le_mul hs h1
      omega
    | succ i =>
      obtain ⟨h1, h2⟩ := ih (fun x hx => h x (List.mem_cons_of_mem _ hx)) i
      have hs := h s (List.mem_cons_self ..)
      refine ⟨Nat.mul_le_mul_left s h1, ?_⟩
      show 1 ≤ s * cnt (ss.take i)
      have : 1 * 1 ≤ s * cnt (ss.take i) := Nat.mul_le_mul hs h2
      omega
theorem SmS.take {ss : List Nat} (z : SmS ss) (i : Nat) : SmS (ss.take i) := ⟨by have := z.len; rw [List.length_take]; omega, fun s hs => z.pos s (List.mem_of_mem_take hs), Nat.le_trans (cnt_take z.pos i).1 z.cnt⟩
theorem SmS.room {ss : List Nat} (z : SmS ss) : room ss ≤ 32000 := by
  rw [room_cnt]
  have h1 : 2 ^ ss.length ≤ 2 ^ 4 := Nat.pow_le_pow_right (by decide) z.len
  have := Nat.mul_le_mul h1 z.cnt
  omega
theorem SmS.mem {ss : List Nat} (z : SmS ss) {s : Nat} (hs : s ∈ ss) : s ≤ 2000 := by
  have h := z.cnt
  have hp := z.pos
  clear z
  have : ∀ ss : List Nat, (∀ s ∈ ss, 1 ≤ s) → s ∈ ss → s ≤ Cs.cnt ss := fun ss => by
    induction ss with
    | nil => intro _ h; cases h
    | cons t ss ih =>
      intro hp hs
      have h1 : 1 ≤ Cs.cnt ss := (cnt_take (fun x hx => hp x (List.mem_cons_of_mem _ hx)) 0).1
      have ht := hp t (List.mem_cons_self ..)
      rcases List.mem_cons.mp hs with rfl | hs
      · show s ≤ s * Cs.cnt ss
        exact Nat.le_mul_of_pos_right _ h1
      · have := ih (fun x hx => hp x (List.mem_cons_of_mem _ hx)) hs
        show s ≤ t * Cs.cnt ss
        exact Nat.le_trans this (Nat.le_mul_of_pos_left _ ht)
  exact Nat.le_trans (this ss hp hs) h
/-- a grid at g, none of its lists among F -/
def GridAt (C : Addr) (F : List Addr) (H : Hp) (g : Addr) (ss : List Nat) : Prop := ∃ (dx r c d m sp : Addr) (ts : List Addr), H g = some (.ins C dx [("rings", .ref r), ("codes", .ref c), ("doubles", .ref d), ("mirrors", .ref m), ("first_bit", .int ((2 ^ room ss : Nat) : Int)), ("spots", .ref sp)]) ∧
  H c = some (.lst (nV ((List.range (cnt ss)).map (cdx ss)))) ∧ H d = some (.lst (nV ((List.range (cnt ss)).map (dbx ss)))) ∧ H m = some (.lst (nV ((List.range (cnt ss)).map (mrx ss)))) ∧ H sp = some (.lst (nV ((List.range (cnt ss)).map fun i => room ss - dbx ss i))) ∧
  H r = some (.lst (ts.map V.ref)) ∧ ts.length = ss.length ∧ (∀ i t s, ts[i]? = some t → ss[i]? = some s → H t = some (.tup [.int (room (ss.drop (i + 1)) : Nat), .int (s : Nat)])) ∧
  g ∉ F ∧ r ∉ F ∧ c ∉ F ∧ d ∉ F ∧ m ∉ F ∧ sp ∉ F ∧ ∀ t ∈ ts, t ∉ F

theorem nV_len (l : List Nat) : (nV l).length = l.length := by unfold nV; rw [List.length_map]
theorem seq_or {k : Bool} {H : Hp} {a : Addr} {xs : List V} {Z : It → Prop} (h : Sqh k H a xs) (q : ∀ J, Walk J xs.length (fun H => Sqh k H a xs) (YAt xs) → Z J) :
    (∃ xs, H a = some (.lst xs) ∧ ∀ J, Walk J xs.length (fun H => H a = some (.lst xs)) (YAt xs) → Z J) ∨ (∃ xs, H a = some (.tup xs) ∧ ∀ J, Walk J xs.length (fun H => H a = some (.tup xs)) (YAt xs) → Z J) := by
  cases k with
  | true => exact .inl ⟨xs, h, q⟩
  | false => exact .inr ⟨xs, h, q⟩
theorem rgV_nV (n : Nat) : rgV 0 (n : Int) = nV (List.range n) := by
  unfold rgV nV
  rw [show ((n : Int) - 0).toNat = n by omega]
  refine List.map_congr_left fun i _ => ?_
  rw [Int.zero_add]
theorem none_of {H H' : Hp} {p : Addr} (s : Same H H') (h : H' p = none) : H p = none := by
  cases e : H p with
  | none => rfl
  | some o => rw [s _ _ e] at h; cases h
theorem ext_codes {s : Nat} (h : Nat → Nat) (cs : List Nat) : lgr cs ((List.range s).map h) s = cs.flatMap fun c => (List.range s).map fun d => 2 * s * c + h d := by
  unfold lgr
  congr 1
  funext c
  rw [List.map_map]
  rfl
theorem foldl_take {α : Type} (f : List α → Nat → List α) (x : List α) {ss : List Nat} {i s : Nat} (h : ss[i]? = some s) : (ss.take (i + 1)).foldl f x = f ((ss.take i).foldl f x) s := by
  rw [List.take_add_one, h, List.foldl_append]
  rfl
theorem take_snoc {ss : List Nat} {i s : Nat} (h : ss[i]? = some s) : ss.take (i + 1) = ss.take i ++ [s] := by rw [List.take_add_one, h]; rfl
theorem codes_snoc (ps : List Nat) (n : Nat) : lgr ((List.range (cnt ps)).map (cdx ps)) (List.range n) n = (List.range (cnt (ps ++ [n]))).map (cdx (ps ++ [n])) := by
  rw [← codes_eq, ← codes_eq, List.foldl_append]
  rfl
theorem doubles_snoc (ps : List Nat) (n : Nat) : lgr ((List.range (cnt ps)).map (dbx ps)) ((List.range n).map fun d => 2 * d % n) n = (List.range (cnt (ps ++ [n]))).map (dbx (ps ++ [n])) := by
  rw [← doubles_eq, ← doubles_eq, List.foldl_append, ext_codes]
  rfl
theorem mirrors_snoc (ps : List Nat) (n : Nat) : lgr ((List.range (cnt ps)).map (mrx ps)) ((List.range n).map fun d => n - d) n = (List.range (cnt (ps ++ [n]))).map (mrx (ps ++ [n])) := by
  rw [← mirrors_eq, ← mirrors_eq, List.foldl_append, ext_codes]
  rfl
theorem strd_len : ∀ ss : List Nat, (strd ss).length = ss.length
  | [] => rfl
  | _ :: ss => by show (strd ss).length + 1 = ss.length + 1; rw [strd_len ss]
theorem strd_get : ∀ (ss : List Nat) (i : Nat), i < ss.length → (strd ss)[i]? = some (room (ss.drop (i + 1)))
  | [], i, h => by simp at h
  | _ :: ss, 0, h => rfl
  | _ :: ss, i + 1, h => by show (strd ss)[i]? = _; rw [strd_get ss i (by simpa using h)]; rfl
theorem range_get_nV {n i : Nat} {f : Nat → Nat} {y : V} (hi : i < n) (h : (nV ((List.range n).map f))[i]? = some y) : y = .int (f i : Nat) := by
  unfold nV at h
  rw [List.map_map, List.getElem?_map, List.getElem?_range hi] at h
  exact (Option.some.inj h).symm
end Cs

/-! Sx1: the spread's state. -/
namespace Cs
open PySem L2
/-- all that was tracked is as it was, but what stands at F -/
def Sm (F : List Addr) (H H' : Hp) : Prop := ∀ b o, b ∉ F → H b = some o → H' b = some o
theorem Sm.refl {F : List Addr} {H : Hp} : Sm F H H := fun _ _ _ h => h
theorem Sm.trans {F : List Addr} {H H1 H2 : Hp} (x : Sm F H H1) (y : Sm F H1 H2) : Sm F H H2 := fun b o n h => y b o n (x b o n h)
theorem Sm.of {F : List Addr} {H H' : Hp} (x : Same H H') : Sm F H H' := fun b o _ h => x b o h
theorem Sm.put {F : List Addr} {H : Hp} {a : Addr} {o : HO} (h : a ∈ F) : Sm F H (upd H a o) := fun b u n e => by
  rw [upd_ne (fun q => n (by rw [q]; exact h))]; exact e
theorem Sm.sx {F : List Addr} {H H' : Hp} {a : Addr} (x : Sx a H H') (h : a ∈ F) : Sm F H H' := fun b o n e => x b o (fun q => n (q ▸ h)) e
theorem GridAt.sm {C : Addr} {F : List Addr} {H H' : Hp} {g : Addr} {ss : List Nat} (h : GridAt C F H g ss) (x : Sm F H H') : GridAt C F H' g ss := by
  obtain ⟨dx, r, c, d, m, sp, ts, h1, h2, h3, h4, h5, h6, h7, h8, n1, n2, n3, n4, n5, n6, n7⟩ := h
  exact ⟨dx, r, c, d, m, sp, ts, x _ _ n1 h1, x _ _ n3 h2, x _ _ n4 h3, x _ _ n5 h4, x _ _ n6 h5, x _ _ n2 h6, h7, fun i t s e1 e2 => x _ _ (n7 t (List.mem_of_getElem? e1)) (h8 i t s e1 e2), n1, n2, n3, n4, n5, n6, n7⟩
theorem GridAt.weak {C : Addr} {F : List Addr} {H : Hp} {g : Addr} {ss : List Nat} (h : GridAt C F H g ss) : GridAt C [] H g ss := by
  obtain ⟨dx, r, c, d, m, sp, ts, h1, h2, h3, h4, h5, h6, h7, h8, _⟩ := h
  exact ⟨dx, r, c, d, m, sp, ts, h1, h2, h3, h4, h5, h6, h7, h8, by simp, by simp, by simp, by simp, by simp, by simp, by simp⟩
/-- no list of the grid is among new ones -/
theorem GridAt.off {C : Addr} {H : Hp} {g : Addr} {ss : List Nat} {F : List Addr} (h : GridAt C [] H g ss) (hF : ∀ f ∈ F, H f = none ∨ ∃ D dx, H f = some (.ins D dx [])) : GridAt C F H g ss := by
  obtain ⟨dx, r, c, d, m, sp, ts, h1, h2, h3, h4, h5, h6, h7, h8, _⟩ := h
  have q : ∀ {a o}, H a = some o → (∀ D dx, o ≠ .ins D dx []) → a ∉ F := fun {a o} e hk hm => by
    rcases hF a hm with z | ⟨D, dx, z⟩
    · rw [z] at e; cases e
    · rw [z] at e
      exact hk D dx (Option.some.inj e).symm
  have l : ∀ {a xs}, H a = some (.lst xs) → a ∉ F := fun e => q e (fun _ _ z => by cases z)
  refine ⟨dx, r, c, d, m, sp, ts, h1, h2, h3, h4, h5, h6, h7, h8, q h1 (fun _ _ z => by cases z), l h6, l h2, l h3, l h4, l h5, fun t ht => ?_⟩
  obtain ⟨i, hi⟩ := List.mem_iff_getElem?.mp ht
  have hl := (List.getElem?_eq_some_iff.mp hi).1
  have := h8 i t _ hi (List.getElem?_eq_getElem (by omega : i < ss.length))
  exact q this (fun _ _ z => by cases z)
section
variable (ss : List Nat) (T : Nat → Bool)
def Uq : Nat → Nat → Bool
  | 0, _ => false
  | c + 1, x => Un ss T c x
def Wq (c : Nat) : List Nat := (List.range (cnt ss)).filter fun i => !Uq ss T c i
def nmq (c i : Nat) : Option Nat := (List.range c).find? fun n => Un ss T n i
def numV : Option Nat → V
  | none => .non
  | some n => .int (n : Nat)
def nbL (c : Nat) : List V := (List.range (cnt ss)).map fun i => numV (nmq ss T c i)
end
def spF (g nb wt rw st : Addr) (k m u : Nat) : List (Str × V) := [("_grid", .ref g), ("_numbers", .ref nb), ("_waiting", .ref wt), ("_rows", .ref rw), ("_sets", .ref st), ("_known", .int (k : Nat)), ("_mirrored", .int (m : Nat)), ("_sums", .int (u : Nat))]
structure SpD (C CG : Addr) (ss : List Nat) (T : Nat → Bool) (H : Hp) (s g nb rw st : Addr) (c e : Nat) (cl : Bool) (dx wt : Addr) (rs ts : List Addr) (k m u : Nat) : Prop where
  self : H s = some (.ins C dx (spF g nb wt rw st k m u))
  grid : GridAt CG [s, nb, rw, st] H g ss
  nbv : H nb = some (.lst (nbL ss T c))
  wtv : H wt = some (.lst (nV (if cl then [] else Wq ss T c)))
  wtn : wt ∉ [s, nb, rw, st]
  rwv : H rw = some (.lst (rs.map V.ref))
  rsl : rs.length = c
  rsv : ∀ (n : Nat) r, rs[n]? = some r → r ∉ [s, nb, rw, st] ∧ H r = some (.lst (nV (Rn ss T n)))
  stv : H st = some (.lst (ts.map V.ref))
  tsl : ts.length = if Wq ss T c = [] then c - 1 else c
  tsv : ∀ (n : Nat) t, ts[n]? = some t → t ∉ [s, nb, rw, st] ∧ ∃ kn mn : Nat, H t = some (.tup [.int (wid ss kn : Nat), .int (mn : Nat)]) ∧ Bits (cdx ss) (Un ss T n) (cnt ss) kn ∧ Bits (mrx ss) (Un ss T n) (cnt ss) mn
  bits : Wq ss T c ≠ [] → Bits (cdx ss) (Uq ss T c) (cnt ss) k ∧ Bits (mrx ss) (Uq ss T c) (cnt ss) m
  ul : u < 2 ^ room ss
  us : cnt ss ≤ 2 * (Wq ss T c).length → cl = false → ∀ x, x < cnt ss → (u.testBit (dbx ss x) = true ↔ ∃ n a, n < e ∧ a ∈ Rn ss T n ∧ Un ss T n (prx ss x a) = true)
  cls : cl = true → ∀ i, i < cnt ss → Un ss T c i = true → Uq ss T c i = true
  ne : ∀ n, n < c → Rn ss T n ≠ []
  d1 : nb ≠ rw
  d2 : nb ≠ st
  d3 : rw ≠ st
def SpAt (C CG : Addr) (ss : List Nat) (T : Nat → Bool) (H : Hp) (s g nb rw st : Addr) (c e : Nat) (cl : Bool) : Prop := ∃ dx wt rs ts k m u, SpD C CG ss T H s g nb rw st c e cl dx wt rs ts k m u
/-- the number of a seat, as the program answers -/
def NumOf (ss : List Nat) (T : Nat → Bool) (x : Nat) (v : V) : Prop := (∃ n : Nat, v = .int (n : Nat) ∧ Un ss T n x = true ∧ ∀ m, m < n → Un ss T m x = false) ∨ (v = .non ∧ ∀ n, Un ss T n x = false)
section
variable {ss : List Nat} {T : Nat → Bool} {c x i : Nat}
theorem uq_mono (hx : x < cnt ss) (h : Uq ss T c x = true) : Un ss T c x = true := by
  cases c with
  | zero => cases h
  | succ c => exact un_mono hx h
theorem mem_Wq : x ∈ Wq ss T c ↔ x < cnt ss ∧ Uq ss T c x = false := by simp [Wq]
theorem Wq_succ : Wq ss T (c + 1) = (Wq ss T c).filter fun i => !Un ss T c i := by
  unfold Wq
  rw [List.filter_filter]
  refine List.filter_congr fun i hi => ?_
  have hi := List.mem_range.mp hi
  show (!Un ss T c i) = (!Un ss T c i && !Uq ss T c i)
  cases h : Uq ss T c i with
  | false => simp
  | true => rw [uq_mono hi h]; rfl
theorem Rn_Wq : Rn ss T c = (Wq ss T c).filter fun i => Un ss T c i := by
  unfold Wq
  rw [List.filter_filter]
  cases c with
  | zero =>
    refine List.filter_congr fun i _ => ?_
    show Un ss T 0 i = (Un ss T 0 i && !false)
    simp
  | succ c => rfl
theorem mem_Rq : x ∈ Rn ss T c ↔ x < cnt ss ∧ Un ss T c x = true ∧ Uq ss T c x = false := by
  rw [Rn_Wq, List.mem_filter, mem_Wq]
  constructor
  · rintro ⟨⟨a, b⟩, d⟩; exact ⟨a, d, b⟩
  · rintro ⟨a, b, d⟩; exact ⟨⟨a, d⟩, b⟩
theorem nmq_succ : nmq ss T (c + 1) i = (nmq ss T c i).or (if Un ss T c i then some c else none) := by
  unfold nmq
  rw [List.range_succ, List.find?_append]
  congr 1
  cases h : Un ss T c i <;> simp [h]
theorem nmq_none (hi : i < cnt ss) : nmq ss T c i = none ↔ Uq ss T c i = false := by
  cases c with
  | zero => simp [nmq, Uq]
  | succ c => exact nmb_none (d := c) hi
theorem nmq_some {n : Nat} (h : nmq ss T c i = some n) : n < c ∧ Un ss T n i = true ∧ ∀ m, m < n → Un ss T m i = false := by
  cases c with
  | zero => simp [nmq] at h
  | succ c => have := nmb_some.mp h; exact ⟨by omega, this.2⟩
theorem nmq_next (hi : i < cnt ss) : numV (nmq ss T (c + 1) i) = if i ∈ Rn ss T c then V.int (c : Nat) else numV (nmq ss T c i) := by
  rw [nmq_succ]
  cases h : nmq ss T c i with
  | none =>
    have h1 := (nmq_none hi).mp h
    cases h2 : Un ss T c i with
    | true => rw [if_pos (c := i ∈ Rn ss T c) (mem_Rq.mpr ⟨hi, h2, h1⟩)]; rfl
    | false => rw [if_neg (c := i ∈ Rn ss T c) (fun hm => by rw [(mem_Rq.mp hm).2.1] at h2; cases h2)]; rfl
  | some n =>
    have h1 : Uq ss T c i = true := by
      cases hq : Uq ss T c i with
      | true => rfl
      | false => rw [(nmq_none hi).mpr hq] at h; cases h
    rw [if_neg (c := i ∈ Rn ss T c) (fun hm => by rw [(mem_Rq.mp hm).2.2] at h1; cases h1)]
    cases Un ss T c i <;> rfl
theorem nbL_len : (nbL ss T c).length = cnt ss := by unfold nbL; rw [List.length_map, List.length_range]
theorem nbL_get (hi : i < cnt ss) : (nbL ss T c)[i]? = some (numV (nmq ss T c i)) := by
  unfold nbL
  rw [List.getElem?_map, List.getElem?_range hi]
  rfl
theorem Rn_lt {n : Nat} (h : x ∈ Rn ss T n) : x < cnt ss := (mem_Rn.mp h).1
/-- pairs of known seats, by the row of the later one -/
theorem pair_rows {d : Nat} (hx : x < cnt ss) : Un ss T (d + 1) x = true ↔ ∃ n a, n < d + 1 ∧ a ∈ Rn ss T n ∧ Un ss T n (prx ss x a) = true := by
  constructor
  · intro h
    obtain ⟨a, ha, h1, h2⟩ := un_succ.mp h
    have hb := prx_lt hx ha
    have least : ∀ y, Un ss T d y = true → y < cnt ss → ∃ n, n ≤ d ∧ y ∈ Rn ss T n := fun y hy hyl => by
      cases e : nmb ss T d y with
      | none => rw [(nmb_none hyl).mp e] at hy; cases hy
      | some n => have := nmb_some.mp e; exact ⟨n, this.1, mem_Rn.mpr ⟨hyl, this.2.1, this.2.2⟩⟩
    obtain ⟨n, n1, n2⟩ := least a h1 ha
    obtain ⟨m, m1, m2⟩ := least _ h2 hb
    rcases Nat.le_total m n with q | q
    · exact ⟨n, a, by omega, n2, un_le hb q (mem_Rn.mp m2).2.1⟩
    · exact ⟨m, prx ss x a, by omega, m2, by rw [prx_back hx ha]; exact un_le ha q (mem_Rn.mp n2).2.1⟩
  · rintro ⟨n, a, hn, h1, h2⟩
    have ha := Rn_lt h1
    exact un_succ.mpr ⟨a, ha, un_le ha (by omega : n ≤ d) (mem_Rn.mp h1).2.1, un_le (prx_lt hx ha) (by omega : n ≤ d) h2⟩
theorem Bits.add {f : Nat → Nat} {U V : Nat → Bool} {N u : Nat} {l : List Nat} (h : Bits f U N u) (hl : ∀ x ∈ l, x < N) (hV : ∀ i, i < N → (V i = true ↔ U i = true ∨ i ∈ l)) : Bits f V N ((l.map f).foldl (fun u c => u ||| 1 <<< c) u) := fun c => by
  rw [testBit_foldl, Bool.or_eq_true, h c, decide_eq_true_eq, List.mem_map]
  constructor
  · rintro (⟨i, hi, hu, e⟩ | ⟨i, hi, e⟩)
    · exact ⟨i, hi, (hV i hi).mpr (.inl hu), e⟩
    · exact ⟨i, hl i hi, (hV i (hl i hi)).mpr (.inr hi), e⟩
  · rintro ⟨i, hi, hv, e⟩
    rcases (hV i hi).mp hv with q | q
    · exact .inl ⟨i, hi, q, e⟩
    · exact .inr ⟨i, q, e⟩
/-- what a meeting tells -/
theorem meet_ne {kn mn n : Nat} (hk : Bits (cdx ss) (Un ss T n) (cnt ss) kn) (hm : Bits (mrx ss) (Un ss T n) (cnt ss) mn) (hx : x < cnt ss) : (mn <<< dbx ss x &&& wid ss kn) ≠ 0 ↔ Un ss T (n + 1) x = true := by
  constructor
  · intro h
    obtain ⟨c, hc⟩ := Nat.exists_testBit_of_ne_zero h
    rw [Nat.testBit_and, Nat.testBit_shiftLeft, Bool.and_eq_true, Bool.and_eq_true, decide_eq_true_eq] at hc
    obtain ⟨⟨h1, h2⟩, h3⟩ := hc
    obtain ⟨a, ha, hu, e⟩ := (hm _).mp h2
    have : c = mrx ss a + dbx ss x := by omega
    rw [this, wide_bit hk hx ha] at h3
    exact un_succ.mpr ⟨a, ha, hu, h3⟩
  · intro h e
    obtain ⟨a, ha, h1, h2⟩ := un_succ.mp h
    have : (mn <<< dbx ss x &&& wid ss kn).testBit (mrx ss a + dbx ss x) = true := by
      rw [Nat.testBit_and, Nat.testBit_shiftLeft, wide_bit hk hx ha, h2, decide_eq_true (by omega), Nat.add_sub_cancel, (hm _).mpr ⟨a, ha, h1, rfl⟩]
      rfl
    rw [e, Nat.zero_testBit] at this
    cases this
end
theorem mrd_dg {ss a : List Nat} (h : Dg 1 ss a) : Dg 2 ss (mrd ss a) := by
  induction h with
  | nil => exact .nil
  | @cons s d ss ds h _ ih => exact .cons (by omega) ih
theorem mrx_lt {ss : List Nat} {x : Nat} (hx : x < cnt ss) : mrx ss x < room ss := cod_lt (mrd_dg (stt_ok hx).1)
theorem Bits.lt {f : Nat → Nat} {U : Nat → Bool} {N u L : Nat} (h : Bits f U N u) (hf : ∀ i, i < N → f i < L) : u < 2 ^ L := by
  refine Nat.lt_pow_two_of_testBit _ fun c hc => ?_
  rw [Bool.eq_false_iff]
  intro hb
  obtain ⟨i, hi, _, rfl⟩ := (h c).mp hb
  have := hf i hi
  omega
open PySem.Spec PyProof.Rows in
theorem pe_fldK {X : Cx} {K : PySem.W.Frag} {e : Expr} {f : Str} {pos : Pos} {ta : TE} (h : X.K = K) (he : PE X e ta) (hb : attributeBase e f X.env (eval e X.env) = eval e X.env) : PE X (.Attribute e f pos) (tFld K ta f) := by subst h; exact pe_fld he hb
open PySem.Spec PyProof.Rows in
/-- [y for y in l if pr y], l of numbers -/
theorem lcr_filtN {J : It} {a : Addr} {l : List Nat} {H1 : Hp} (w : Walk J (nV l).length (fun H => H a = some (.lst (nV l))) (YAt (nV l))) {g : TG} {tt : TT} {te : TE} {vs : List Nat} {σ : L2.St} {Q : VK} (pr : Nat → Bool) (hn : l.length < sizeLine) (ha : H1 a = some (.lst (nV l)))
    (hs : ∀ y H (Qn : Hp → Prop) (Qy : VK), y ∈ l → Same H1 H → (pr y = false → Qn H) → (pr y = true → Qy (.int (y : Nat)) H) → g (.int (y : Nat)) (wipe σ vs) H fun σ2 H2 => wipe σ2 vs = wipe σ vs ∧ tt σ2 H2 fun b H3 => if b = true then te σ2 H3 Qy else Qn H3)
    (hd : ∀ D H, H1 D = none → Same H1 H → H D = some (.lst (nV (l.filter pr))) → Q (.ref D) H) : LcR J g tt te vs σ H1 Q := by
  refine lcr_if w (fun D i acc H => Same H1 H ∧ acc = nV ((l.take i).filter pr)) (by rw [nV_len]; exact hn) (fun D hD => ⟨Same.new hD, rfl⟩) (fun D i acc H hD hi h e => h.1 _ _ ha) (fun D i acc H l hD h hne => ⟨fun b o e => by rw [upd_ne (ne_some e hD)]; exact h.1 b o e, h.2⟩) ?_ ?_
  · rintro D i acc x H H' Qn Qy hD hi ⟨s1, rfl⟩ e ⟨rfl, hx⟩ hqn hqy
    obtain ⟨y, hx', rfl⟩ := nV_get hx
    refine hs y _ Qn Qy (List.mem_of_getElem? hx') s1 (fun hf => hqn _ e ⟨s1, ?_⟩) fun ht => hqy _ _ e ⟨s1, ?_⟩
    · rw [List.take_add_one, hx', List.filter_append]
      simp [hf]
    · rw [List.take_add_one, hx', List.filter_append]
      unfold nV
      rw [List.map_append]
      simp [ht]
  · rintro D acc H hD hl2 ⟨s1, rfl⟩ e
    rw [nV_len, List.take_length] at e
    exact hd D H hD s1 e
theorem ixN_n {n j : Nat} (h : j < n) : ixN n (j : Int) = some j := by
  unfold ixN
  rw [if_pos (by omega), if_pos (by omega), Int.toNat_natCast]
theorem or_shl_one (u c : Nat) : Builtin.bitOr (u : Int) (1 * 2 ^ ((c : Nat) : Int).toNat) = ((u ||| 1 <<< c : Nat) : Int) := by
  rw [← bitOr_nat, Int.one_mul, Int.toNat_natCast, Nat.one_shiftLeft, Int.natCast_pow]
  rfl
theorem atI_last {α : Type} {xs : List α} {x : α} (h : xs[xs.length - 1]? = some x) : atI xs (-1) = some x := by
  have hl := (List.getElem?_eq_some_iff.mp h).1
  unfold atI ixN
  rw [if_neg (by decide), if_pos (by omega)]
  show xs[(-1 + (xs.length : Int)).toNat]? = some x
  rw [show (-1 + (xs.length : Int)).toNat = xs.length - 1 by omega]
  exact h
theorem asc_uniq {l m : List Nat} (h : l.Pairwise (· < ·)) (g : m.Pairwise (· < ·)) (e : ∀ x, x ∈ l ↔ x ∈ m) : l = m := by
  refine List.Perm.eq_of_pairwise (le := (· < ·)) (fun a b _ _ h1 h2 => absurd (Nat.lt_trans h1 h2) (Nat.lt_irrefl _)) h g ?_
  rw [List.perm_iff_count]
  intro a
  have nl : l.Nodup := h.imp fun h => Nat.ne_of_lt h
  have nm : m.Nodup := g.imp fun h => Nat.ne_of_lt h
  rw [nl.count, nm.count]
  by_cases ha : a ∈ l
  · rw [if_pos ha, if_pos ((e a).mp ha)]
  · rw [if_neg ha, if_neg fun h => ha ((e a).mpr h)]
end Cs

/-! Sy: one ring: n calls suffice where 2^n times the place is a sum of 2^n targets. -/
namespace Cs
def isum : List Int → Int
  | [] => 0
  | x :: l => x + isum l
theorem isum_append : ∀ l m : List Int, isum (l ++ m) = isum l + isum m
  | [], m => by show isum m = 0 + isum m; omega
  | x :: l, m => by show x + isum (l ++ m) = x + isum l + isum m; rw [isum_append l m]; omega
theorem isum_perm {l m : List Int} (h : l.Perm m) : isum l = isum m := by
  induction h with
  | nil => rfl
  | cons x _ ih => show x + _ = x + _; rw [ih]
  | swap x y l => show y + (x + isum l) = x + (y + isum l); omega
  | trans _ _ h1 h2 => rw [h1, h2]
/-- pairs of one parity -/
theorem pair_up {α : Type} (f : α → Int) : ∀ (k : Nat) (l : List α), 2 * k + 1 ≤ l.length → ∃ (ps : List (α × α)) (rest : List α), ps.length = k ∧ (∀ p ∈ ps, (f p.1 + f p.2) % 2 = 0) ∧ l.Perm (ps.flatMap (fun p => [p.1, p.2]) ++ rest)
  | 0, l, _ => ⟨[], l, rfl, (fun p hp => by cases hp), List.Perm.refl _⟩
  | k + 1, l, h => by
    match l, h with
    | [], h => simp at h
    | [_], h => simp at h
    | [_, _], h => simp at h; omega
    | a :: b :: c :: l, h =>
      have go : ∀ (x y z : α), (a :: b :: c :: l).Perm (x :: y :: z :: l) → (f x + f y) % 2 = 0 → ∃ (ps : List (α × α)) (rest : List α), ps.length = k + 1 ∧ (∀ p ∈ ps, (f p.1 + f p.2) % 2 = 0) ∧ (a :: b :: c :: l).Perm (ps.flatMap (fun p => [p.1, p.2]) ++ rest) := fun x y z hp he => by
        obtain ⟨ps, rest, h1, h2, h3⟩ := pair_up f k (z :: l) (by simp only [List.length_cons] at h ⊢; omega)
        refine ⟨(x, y) :: ps, rest, by rw [List.length_cons, h1], fun p hp => ?_, ?_⟩
        · rcases List.mem_cons.mp hp with rfl | hp
          · exact he
          · exact h2 p hp
        · refine hp.trans ?_
          rw [List.flatMap_cons]
          exact List.Perm.cons _ (List.Perm.cons _ h3)
      by_cases h1 : (f a + f b) % 2 = 0
      · exact go a b c (List.Perm.refl _) h1
      · by_cases h2 : (f a + f c) % 2 = 0
        · exact go a c b (List.Perm.cons _ (List.Perm.swap _ _ _)) h2
        · exact go b c a ((List.Perm.swap _ _ _).trans (List.Perm.cons _ (List.Perm.swap _ _ _))) (by omega)
theorem fl_len {α : Type} (ps : List (α × α)) : (ps.flatMap (fun p => [p.1, p.2])).length = 2 * ps.length := by
  induction ps with
  | nil => rfl
  | cons p ps ih => rw [List.flatMap_cons, List.length_append, ih, List.length_cons]; simp; omega
/-- 2^n of them with a sum that 2^n divides -/
theorem egz : ∀ (n : Nat) {α : Type} (f : α → Int) (l : List α), 2 ^ (n + 1) ≤ l.length + 1 → ∃ A B, l.Perm (A ++ B) ∧ A.length = 2 ^ n ∧ ((2 : Int) ^ n) ∣ isum (A.map f)
  | 0, α, f, l, h => by
    match l, h with
    | [], h => simp at h
    | a :: l, _ => exact ⟨[a], l, List.Perm.refl _, rfl, by rw [Int.pow_zero]; exact Int.one_dvd _⟩
  | n + 1, α, f, l, h => by
    have hp : 0 < 2 ^ (n + 1) := Nat.pow_pos (by decide)
    have e2 : 2 ^ (n + 1 + 1) = 2 * 2 ^ (n + 1) := by rw [Nat.pow_succ, Nat.mul_comm]
    obtain ⟨ps, rest, h1, h2, h3⟩ := pair_up f (2 ^ (n + 1) - 1) l (by omega)
    obtain ⟨PA, PB, k1, k2, k3⟩ := egz n (fun p : α × α => (f p.1 + f p.2) / 2) ps (by omega)
    refine ⟨PA.flatMap (fun p => [p.1, p.2]), PB.flatMap (fun p => [p.1, p.2]) ++ rest, ?_, ?_, ?_⟩
    · refine h3.trans ?_
      rw [← List.append_assoc, ← List.flatMap_append]
      exact List.Perm.append_right _ (List.Perm.flatMap_right _ k1)
    · rw [fl_len, k2, Nat.pow_succ, Nat.mul_comm]
    · have e : ∀ PA : List (α × α), (∀ p ∈ PA, (f p.1 + f p.2) % 2 = 0) → isum ((PA.flatMap (fun p => [p.1, p.2])).map f) = 2 * isum (PA.map fun p => (f p.1 + f p.2) / 2) := fun PA => by
        induction PA with
        | nil => intro _; rfl
        | cons p PA ih =>
          intro hm
          have h0 := hm p (List.mem_cons_self ..)
          have h1 := ih fun q hq => hm q (List.mem_cons_of_mem _ hq)
          rw [List.flatMap_cons, List.map_append, isum_append, h1]
          show f p.1 + (f p.2 + 0) + _ = 2 * ((f p.1 + f p.2) / 2 + isum _)
          omega
      rw [e PA fun p hp => h2 p (k1.mem_iff.mpr (List.mem_append_left _ hp)), Int.pow_succ, Int.mul_comm]
      exact Int.mul_dvd_mul (Int.dvd_refl 2) k3
/-! ### one ring -/
def tgB (ns : List Nat) (i : Nat) : Bool := decide (i ∈ ns)
def nsum (l : List Nat) : Int := isum (l.map fun t : Nat => (t : Int))
theorem nsum_one (t : Nat) : nsum [t] = t := by show (t : Int) + 0 = t; omega
theorem nsum_append (l m : List Nat) : nsum (l ++ m) = nsum l + nsum m := by unfold nsum; rw [List.map_append, isum_append]
def IsSum (s : Nat) (ns : List Nat) (n : Nat) (y : Int) : Prop := ∃ l : List Nat, (∀ t ∈ l, t ∈ ns) ∧ l.length = 2 ^ n ∧ (s : Int) ∣ nsum l - 2 ^ n * y
theorem cnt_one (s : Nat) : cnt [s] = s := by show s * 1 = s; omega
theorem stt_one {s x : Nat} (h : x < s) : stt [s] x = [x] := by
  have h1 : Dg 1 [s] [x] := .cons (by omega) .nil
  have h2 : ixo [s] [x] = x := by show x * 1 + 0 = x; omega
  have := stt_ixo h1
  rwa [h2] at this
theorem prx_one {s x a : Nat} (hx : x < s) (ha : a < s) : prx [s] x a = (2 * x % s + (s - a)) % s := by
  unfold prx
  rw [stt_one hx, stt_one ha]
  show (2 * x % s + (s - a)) % s * 1 + 0 = _
  omega
theorem prx_dvd {s x a : Nat} (hx : x < s) (ha : a < s) : (s : Int) ∣ (a : Int) + (prx [s] x a : Nat) - 2 * (x : Int) := by
  rw [prx_one hx ha]
  have h1 := Nat.div_add_mod (2 * x) s
  have h2 := Nat.div_add_mod (2 * x % s + (s - a)) s
  refine ⟨1 - ((2 * x / s : Nat) : Int) - (((2 * x % s + (s - a)) / s : Nat) : Int), ?_⟩
  generalize 2 * x % s = r at *
  generalize (r + (s - a)) / s = q2 at *
  generalize (r + (s - a)) % s = r2 at *
  generalize 2 * x / s = q1 at *
  have e1 : (s : Int) * q1 + r = 2 * x := by exact_mod_cast h1
  have e2 : (s : Int) * q2 + r2 = r + (s - a) := by
    have : ((s * q2 + r2 : Nat) : Int) = ((r + (s - a) : Nat) : Int) := by rw [h2]
    rw [Int.natCast_add, Int.natCast_mul, Int.natCast_add, Int.natCast_sub (by omega)] at this
    exact this
  rw [Int.mul_sub, Int.mul_sub, Int.mul_one]
  omega
theorem un_sum {s : Nat} {ns : List Nat} (hns : ∀ t ∈ ns, t < s) : ∀ (n x : Nat), x < s → (Un [s] (tgB ns) n x = true ↔ IsSum s ns n x)
  | 0, x, hx => by
    constructor
    · intro h
      have h : x ∈ ns := of_decide_eq_true h
      exact ⟨[x], fun t ht => by rw [List.mem_singleton.mp ht]; exact h, rfl, ⟨0, by rw [nsum_one, Int.pow_zero]; omega⟩⟩
    · rintro ⟨l, h1, h2, h3⟩
      match l, h2 with
      | [t], _ =>
        have ht := h1 t (List.mem_singleton.mpr rfl)
        have e : nsum [t] - 2 ^ 0 * (x : Int) = (t : Int) - x := by rw [nsum_one, Int.pow_zero]; omega
        rw [e] at h3
        have htl := hns t ht
        have : (t : Int) - x = 0 := by
          apply Classical.byContradiction
          intro hne
          have := Nat.le_of_dvd (by omega) (Int.natAbs_dvd_natAbs.mpr h3)
          omega
        have : t = x := by omega
        subst this
        exact decide_eq_true ht
  | n + 1, x, hx => by
    have ih := un_sum hns n
    rw [un_succ, cnt_one]
    have p2 : (2 : Int) ^ (n + 1) = 2 * 2 ^ n := by rw [Int.pow_succ, Int.mul_comm]
    constructor
    · rintro ⟨a, ha, h1, h2⟩
      have hb : prx [s] x a < s := by have := prx_lt (ss := [s]) (x := x) (a := a) (by rw [cnt_one]; exact hx) (by rw [cnt_one]; exact ha); rwa [cnt_one] at this
      obtain ⟨la, a1, a2, k1, a3⟩ := (ih a ha).mp h1
      obtain ⟨lb, b1, b2, k2, b3⟩ := (ih _ hb).mp h2
      obtain ⟨k3, c3⟩ := prx_dvd hx ha
      generalize (prx [s] x a : Int) = b at *
      refine ⟨la ++ lb, fun t ht => (List.mem_append.mp ht).elim (a1 t) (b1 t), by rw [List.length_append, a2, b2, Nat.pow_succ]; omega, ⟨k1 + k2 + 2 ^ n * k3, ?_⟩⟩
      rw [nsum_append, p2, Int.mul_add, Int.mul_add, ← a3, ← b3, Int.mul_left_comm, ← c3, Int.mul_sub, Int.mul_add, Int.mul_assoc, Int.mul_left_comm]
      omega
    · rintro ⟨l, h1, h2, k, h3⟩
      obtain ⟨A, B, g1, g2, q, g3⟩ := egz n (fun t : Nat => (t : Int)) l (by rw [h2]; omega)
      have eA : nsum A = 2 ^ n * q := g3
      have eS : nsum l = nsum A + nsum B := by
        rw [← nsum_append]
        exact isum_perm (g1.map _)
      have lB : B.length = 2 ^ n := by
        have := g1.length_eq
        rw [List.length_append, h2, g2, Nat.pow_succ] at this
        omega
      have hs : (0 : Int) < s := by omega
      have ea := Int.emod_add_mul_ediv q s
      obtain ⟨a, hae⟩ := Int.eq_ofNat_of_zero_le (Int.emod_nonneg q (by omega : (s : Int) ≠ 0))
      have hal := Int.emod_lt_of_pos q hs
      rw [hae] at ea hal
      have ha : a < s := by omega
      have hb : prx [s] x a < s := by have := prx_lt (ss := [s]) (x := x) (a := a) (by rw [cnt_one]; exact hx) (by rw [cnt_one]; exact ha); rwa [cnt_one] at this
      obtain ⟨k3, c3⟩ := prx_dvd hx ha
      refine ⟨a, ha, (ih a ha).mpr ⟨A, fun t ht => h1 t (g1.mem_iff.mpr (List.mem_append_left _ ht)), g2, ⟨2 ^ n * (q / s), ?_⟩⟩, (ih _ hb).mpr ⟨B, fun t ht => h1 t (g1.mem_iff.mpr (List.mem_append_right _ ht)), lB, ⟨k - 2 ^ n * (q / s) - 2 ^ n * k3, ?_⟩⟩⟩
      · rw [eA, ← Int.mul_sub, Int.mul_left_comm]
        congr 1
        omega
      · generalize (prx [s] x a : Int) = b at *
        generalize q / (s : Int) = d at *
        rw [eS, eA, p2] at h3
        rw [Int.mul_sub, Int.mul_sub, ← h3, Int.mul_left_comm (s : Int), Int.mul_left_comm (s : Int), ← c3]
        have e1 : (s : Int) * d = q - a := by omega
        rw [e1]
        simp only [Int.mul_sub, Int.mul_add, Int.mul_assoc]
        rw [Int.mul_left_comm (2 ^ n) 2 (x : Int)]
        omega
end Cs

/-! Sz: sums of targets on rings that are transformed; how many calls are needed at most. -/
namespace Cs
theorem nsum_map {c k : Int} {m : Int} {φ : Nat → Nat} : ∀ (l : List Nat), (∀ t ∈ l, m ∣ (φ t : Int) - (c * t + k)) → m ∣ nsum (l.map φ) - (c * nsum l + k * l.length)
  | [], _ => ⟨0, by show (0 : Int) - (c * 0 + k * ((0 : Nat) : Int)) = m * 0; simp⟩
  | t :: l, h => by
    have h1 := h t (List.mem_cons_self ..)
    have h2 := nsum_map l fun u hu => h u (List.mem_cons_of_mem _ hu)
    have := Int.dvd_add h1 h2
    have e : nsum ((t :: l).map φ) - (c * nsum (t :: l) + k * ((t :: l).length : Nat)) = (φ t : Int) - (c * t + k) + (nsum (l.map φ) - (c * nsum l + k * (l.length : Nat))) := by
      show (φ t : Int) + nsum (l.map φ) - (c * ((t : Int) + nsum l) + k * ((l.length + 1 : Nat) : Int)) = _
      rw [Int.natCast_add, Int.mul_add, Int.mul_add]
      omega
    rw [e]
    exact this
/-- the targets and the place moved by z to c z + k -/
theorem isSum_map {s s' : Nat} {ns : List Nat} {c k : Int} {φ : Nat → Nat} {x x' : Int} (h1 : ∀ t ∈ ns, (s' : Int) ∣ (φ t : Int) - (c * t + k)) (h2 : (s' : Int) ∣ x' - (c * x + k)) (h3 : ∀ z : Int, (s' : Int) ∣ c * z ↔ (s : Int) ∣ z) (n : Nat) :
    IsSum s' (ns.map φ) n x' ↔ IsSum s ns n x := by
  have key : ∀ l : List Nat, (∀ t ∈ l, t ∈ ns) → l.length = 2 ^ n → ((s' : Int) ∣ nsum (l.map φ) - 2 ^ n * x' ↔ (s : Int) ∣ nsum l - 2 ^ n * x) := fun l hl hn => by
    have d1 := nsum_map l fun t ht => h1 t (hl t ht)
    have d2 := Int.dvd_mul_of_dvd_right (b := (2 : Int) ^ n) h2
    rw [← h3]
    rw [hn] at d1
    have ep : ((2 ^ n : Nat) : Int) = 2 ^ n := Int.natCast_pow 2 n
    rw [ep] at d1
    have d3 := Int.dvd_sub d1 d2
    have e : nsum (l.map φ) - (c * nsum l + k * 2 ^ n) - 2 ^ n * (x' - (c * x + k)) = (nsum (l.map φ) - 2 ^ n * x') - c * (nsum l - 2 ^ n * x) := by
      rw [Int.mul_sub, Int.mul_add, Int.mul_sub, Int.mul_comm k, Int.mul_left_comm (2 ^ n) c x]
      omega
    rw [e] at d3
    constructor
    · intro h
      have := Int.dvd_sub h d3
      rwa [show (nsum (l.map φ) - 2 ^ n * x') - ((nsum (l.map φ) - 2 ^ n * x') - c * (nsum l - 2 ^ n * x)) = c * (nsum l - 2 ^ n * x) by omega] at this
    · intro h
      have := Int.dvd_add d3 h
      rwa [show (nsum (l.map φ) - 2 ^ n * x') - c * (nsum l - 2 ^ n * x) + c * (nsum l - 2 ^ n * x) = nsum (l.map φ) - 2 ^ n * x' by omega] at this
  constructor
  · rintro ⟨l, a1, a2, a3⟩
    have : ∃ m : List Nat, (∀ t ∈ m, t ∈ ns) ∧ m.map φ = l := by
      clear a2 a3
      induction l with
      | nil => exact ⟨[], (fun t ht => by cases ht), rfl⟩
      | cons t l ih =>
        obtain ⟨m, b1, b2⟩ := ih fun u hu => a1 u (List.mem_cons_of_mem _ hu)
        obtain ⟨u, hu, e⟩ := List.mem_map.mp (a1 t (List.mem_cons_self ..))
        exact ⟨u :: m, fun v hv => (List.mem_cons.mp hv).elim (fun e => by rw [e]; exact hu) (b1 v), by rw [List.map_cons, e, b2]⟩
    obtain ⟨m, b1, rfl⟩ := this
    rw [List.length_map] at a2
    exact ⟨m, b1, a2, (key m b1 a2).mp a3⟩
  · rintro ⟨l, a1, a2, a3⟩
    exact ⟨l.map φ, fun t ht => by
      obtain ⟨u, hu, rfl⟩ := List.mem_map.mp ht
      exact List.mem_map.mpr ⟨u, a1 u hu, rfl⟩, by rw [List.length_map, a2], (key l a1 a2).mpr a3⟩
theorem isSum_more {s : Nat} {ns ms : List Nat} (h : ∀ t ∈ ns, t ∈ ms) {n : Nat} {x : Int} (hs : IsSum s ns n x) : IsSum s ms n x := by
  obtain ⟨l, h1, h2, h3⟩ := hs
  exact ⟨l, fun t ht => h t (h1 t ht), h2, h3⟩
/-- two targets -/
theorem isSum_two {s f g : Nat} {n : Nat} {x : Int} : IsSum s [f, g] n x ↔ ∃ j : Int, 0 ≤ j ∧ j ≤ 2 ^ n ∧ (s : Int) ∣ j * ((g : Int) - f) - 2 ^ n * (x - f) := by
  constructor
  · rintro ⟨l, h1, h2, h3⟩
    have : ∀ l : List Nat, (∀ t ∈ l, t ∈ [f, g]) → ∃ j : Int, 0 ≤ j ∧ j ≤ l.length ∧ nsum l = l.length * f + j * ((g : Int) - f) := fun l => by
      induction l with
      | nil => intro _; exact ⟨0, by omega, by simp, by show (0 : Int) = ((0 : Nat) : Int) * f + 0 * _; simp⟩
      | cons t l ih =>
        intro hm
        obtain ⟨j, a1, a2, a3⟩ := ih fun u hu => hm u (List.mem_cons_of_mem _ hu)
        have e : nsum (t :: l) = t + nsum l := rfl
        have hl : ((t :: l).length : Int) = l.length + 1 := by rw [List.length_cons]; omega
        rcases List.mem_cons.mp (hm t (List.mem_cons_self ..)) with rfl | h
        · exact ⟨j, a1, by omega, by rw [e, a3, hl, Int.add_mul]; omega⟩
        · have : t = g := by simpa using h
          subst this
          refine ⟨j + 1, by omega, by omega, ?_⟩
          rw [e, a3, hl, Int.add_mul, Int.add_mul]
          omega
    obtain ⟨j, a1, a2, a3⟩ := this l h1
    have ep : (l.length : Int) = 2 ^ n := by rw [h2]; exact Int.natCast_pow 2 n
    rw [ep] at a2 a3
    refine ⟨j, a1, a2, ?_⟩
    rw [a3] at h3
    rwa [show (2 : Int) ^ n * f + j * ((g : Int) - f) - 2 ^ n * x = j * ((g : Int) - f) - 2 ^ n * (x - f) by rw [Int.mul_sub (2 ^ n)]; omega] at h3
  · rintro ⟨j, h1, h2, h3⟩
    obtain ⟨k, rfl⟩ := Int.eq_ofNat_of_zero_le h1
    have ep : ((2 ^ n : Nat) : Int) = 2 ^ n := Int.natCast_pow 2 n
    have hk : k ≤ 2 ^ n := by omega
    have er : ∀ (m t : Nat), nsum (List.replicate m t) = m * t := fun m t => by
      induction m with
      | zero => show (0 : Int) = ((0 : Nat) : Int) * t; simp
      | succ m ih => show (t : Int) + nsum (List.replicate m t) = _; rw [ih, Int.natCast_add, Int.add_mul]; simp; omega
    refine ⟨List.replicate (2 ^ n - k) f ++ List.replicate k g, fun t ht => ?_, by rw [List.length_append, List.length_replicate, List.length_replicate]; omega, ?_⟩
    · rcases List.mem_append.mp ht with h | h
      · rw [(List.mem_replicate.mp h).2]; simp
      · rw [(List.mem_replicate.mp h).2]; simp
    · rw [nsum_append, er, er, Int.natCast_sub hk, ep]
      rwa [show ((2 : Int) ^ n - k) * f + k * g - 2 ^ n * x = k * ((g : Int) - f) - 2 ^ n * (x - f) by rw [Int.mul_sub, Int.mul_sub, Int.sub_mul]; omega]
/-! how many calls at most -/
def dsum (z : Nat) (l : List Nat) : Int := nsum l - l.length * z
theorem dsum_append (z : Nat) (l m : List Nat) : dsum z (l ++ m) = dsum z l + dsum z m := by
  unfold dsum
  rw [nsum_append, List.length_append, Int.natCast_add, Int.add_mul]
  omega
/-- fewer than s terms do -/
theorem fewer {s : Nat} (hs : 0 < s) (z : Nat) : ∀ (k : Nat) (l : List Nat), l.length ≤ k → ∃ m : List Nat, (∀ t ∈ m, t ∈ l) ∧ m.length < s ∧ (s : Int) ∣ dsum z m - dsum z l
  | 0, l, h => ⟨l, fun t ht => ht, by omega, ⟨0, by omega⟩⟩
  | k + 1, l, h => by
    by_cases hl : l.length < s
    · exact ⟨l, fun t ht => ht, hl, ⟨0, by omega⟩⟩
    · have : ∃ i j, i < j ∧ j ≤ s ∧ dsum z (l.take i) % (s : Int) = dsum z (l.take j) % (s : Int) := by
        apply Classical.byContradiction
        intro hn
        have nd : ((List.range (s + 1)).map fun i => (dsum z (l.take i) % (s : Int)).toNat).Nodup := by
          refine List.pairwise_map.mpr (List.Pairwise.imp_of_mem ?_ List.pairwise_lt_range)
          intro a b ha hb hab e
          have := Int.emod_nonneg (dsum z (l.take a)) (by omega : (s : Int) ≠ 0)
          have := Int.emod_nonneg (dsum z (l.take b)) (by omega : (s : Int) ≠ 0)
          exact hn ⟨a, b, hab, by have := List.mem_range.mp hb; omega, by omega⟩
        have := List.Nodup.length_le_of_subset (l₂ := List.range s) nd (fun b hb => by
          obtain ⟨a, _, rfl⟩ := List.mem_map.mp hb
          have := Int.emod_nonneg (dsum z (l.take a)) (by omega : (s : Int) ≠ 0)
          have := Int.emod_lt_of_pos (dsum z (l.take a)) (by omega : (0 : Int) < s)
          exact List.mem_range.mpr (by omega))
        rw [List.length_map, List.length_range, List.length_range] at this
        omega
      obtain ⟨i, j, hij, hj, e⟩ := this
      have hd : (s : Int) ∣ dsum z (l.take i ++ l.drop j) - dsum z l := by
        have e1 : dsum z l = dsum z (l.take j) + dsum z (l.drop j) := by rw [← dsum_append, List.take_append_drop]
        rw [dsum_append, e1, show dsum z (l.take i) + dsum z (l.drop j) - (dsum z (l.take j) + dsum z (l.drop j)) = dsum z (l.take i) - dsum z (l.take j) by omega]
        exact Int.dvd_of_emod_eq_zero (Int.emod_eq_emod_iff_emod_sub_eq_zero.mp e)
      obtain ⟨m, h1, h2, h3⟩ := fewer hs z k (l.take i ++ l.drop j) (by rw [List.length_append, List.length_take, List.length_drop]; omega)
      refine ⟨m, fun t ht => ?_, h2, ?_⟩
      · rcases List.mem_append.mp (h1 t ht) with h | h
        · exact List.mem_of_mem_take h
        · exact List.mem_of_mem_drop h
      · have := Int.dvd_add h3 hd
        rwa [show dsum z m - dsum z (l.take i ++ l.drop j) + (dsum z (l.take i ++ l.drop j) - dsum z l) = dsum z m - dsum z l by omega] at this
theorem copies (z : Nat) (l : List Nat) : ∀ w : Nat, dsum z (List.replicate w l).flatten = w * dsum z l
  | 0 => by show (0 : Int) - ((0 : Nat) : Int) * z = ((0 : Nat) : Int) * _; simp
  | w + 1 => by
    show dsum z (l ++ (List.replicate w l).flatten) = _
    rw [dsum_append, copies z l w, Int.natCast_add, Int.add_mul]
    simp
    omega
theorem odd_part : ∀ (k s : Nat), 1 ≤ s → s ≤ k → ∃ a o, s = 2 ^ a * o ∧ o % 2 = 1
  | 0, s, h1, h2 => by omega
  | k + 1, s, h1, h2 => by
    by_cases h : s % 2 = 1
    · exact ⟨0, s, by simp, h⟩
    · obtain ⟨a, o, e1, e2⟩ := odd_part k (s / 2) (by omega) (by omega)
      exact ⟨a + 1, o, by rw [Nat.pow_succ, Nat.mul_right_comm, ← e1]; omega, e2⟩
theorem pow_one_mod {o : Int} (x : Int) (h : o ∣ x - 1) : ∀ k : Nat, o ∣ x ^ k - 1
  | 0 => by rw [Int.pow_zero]; exact ⟨0, by omega⟩
  | k + 1 => by
    have ih := pow_one_mod x h k
    have := Int.dvd_add (Int.dvd_mul_of_dvd_right (b := x ^ k) h) ih
    rw [Int.pow_succ]
    rwa [show x ^ k * (x - 1) + (x ^ k - 1) = x ^ k * x - 1 by rw [Int.mul_sub]; omega] at this
/-- w times 2^n is 2^m -/
theorem scale_to {s m n : Nat} (hs : 1 ≤ s) (hm : s ≤ 2 ^ m) : ∃ w : Nat, (s : Int) ∣ w * 2 ^ n - 2 ^ m := by
  by_cases h : n ≤ m
  · refine ⟨2 ^ (m - n), ⟨0, ?_⟩⟩
    rw [Int.natCast_pow, show ((2 : Nat) : Int) = 2 from rfl, ← Int.pow_add, Nat.sub_add_cancel h]
    omega
  · obtain ⟨a, o, e1, e2⟩ := odd_part s s hs (Nat.le_refl _)
    have ho : 1 ≤ o := by omega
    have ha : a ≤ m := by
      apply Classical.byContradiction
      intro hn
      have h1 : 2 ^ (m + 1) ≤ 2 ^ a := Nat.pow_le_pow_right (by decide) (by omega)
      have h2 : 2 ^ a * 1 ≤ 2 ^ a * o := Nat.mul_le_mul_left _ ho
      have h3 : 2 ^ (m + 1) = 2 * 2 ^ m := by rw [Nat.pow_succ, Nat.mul_comm]
      have : 0 < 2 ^ m := Nat.pow_pos (by decide)
      omega
    refine ⟨((o + 1) / 2) ^ (n - m), ?_⟩
    have e3 : (((o + 1) / 2) ^ (n - m) : Nat) * 2 ^ n = 2 ^ m * (o + 1) ^ (n - m) := by
      have : n = m + (n - m) := by omega
      conv => lhs; rw [this, Nat.pow_add]
      rw [show m + (n - m) - m = n - m by omega, Nat.mul_left_comm, ← Nat.mul_pow, show (o + 1) / 2 * 2 = o + 1 by omega]
    have e4 : (((((o + 1) / 2) ^ (n - m) : Nat)) : Int) * 2 ^ n - 2 ^ m = 2 ^ m * (((o + 1 : Nat) : Int) ^ (n - m) - 1) := by
      have : ((((o + 1) / 2) ^ (n - m) * 2 ^ n : Nat) : Int) = ((2 ^ m * (o + 1) ^ (n - m) : Nat) : Int) := by rw [e3]
      rw [Int.natCast_mul, Int.natCast_mul, Int.natCast_pow 2 n, Int.natCast_pow 2 m, Int.natCast_pow (o + 1)] at this
      rw [Int.mul_sub, Int.mul_one]
      have e5 : ((2 : Nat) : Int) = 2 := rfl
      rw [e5] at this
      omega
    rw [e4, e1, Int.natCast_mul]
    refine Int.mul_dvd_mul ?_ (pow_one_mod _ ⟨1, by omega⟩ _)
    rw [Int.natCast_pow]
    exact ⟨2 ^ (m - a), by rw [show ((2 : Nat) : Int) = 2 from rfl, ← Int.pow_add, Nat.add_sub_cancel' ha]⟩
theorem isSum_bound {s m n : Nat} {ns : List Nat} {x : Int} (hs : 1 ≤ s) (hm : s ≤ 2 ^ m) (h : IsSum s ns n x) : IsSum s ns m x := by
  obtain ⟨l, h1, h2, h3⟩ := h
  match l, h2 with
  | [], h2 => simp at h2; exact absurd h2.symm (Nat.ne_of_gt (Nat.pow_pos (by decide)))
  | z :: l', h2 =>
    have hz := h1 z (List.mem_cons_self ..)
    generalize hl : z :: l' = l at *
    have ep : (l.length : Int) = 2 ^ n := by rw [h2]; exact Int.natCast_pow 2 n
    have d0 : (s : Int) ∣ dsum z l - 2 ^ n * (x - z) := by
      unfold dsum
      rwa [ep, show nsum l - 2 ^ n * z - 2 ^ n * (x - z) = nsum l - 2 ^ n * x by rw [Int.mul_sub]; omega]
    obtain ⟨w, hw⟩ := scale_to (n := n) hs hm
    obtain ⟨r, r1, r2, r3⟩ := fewer (by omega : 0 < s) z _ (List.replicate w l).flatten (Nat.le_refl _)
    rw [copies] at r3
    have er : ∀ (m t : Nat), nsum (List.replicate m t) = m * t := fun m t => by
      induction m with
      | zero => show (0 : Int) = ((0 : Nat) : Int) * t; simp
      | succ m ih => show (t : Int) + nsum (List.replicate m t) = _; rw [ih, Int.natCast_add, Int.add_mul]; simp; omega
    have hp : ((2 ^ m : Nat) : Int) = 2 ^ m := Int.natCast_pow 2 m
    refine ⟨r ++ List.replicate (2 ^ m - r.length) z, fun t ht => ?_, by rw [List.length_append, List.length_replicate]; omega, ?_⟩
    · rcases List.mem_append.mp ht with h | h
      · have := r1 t h
        obtain ⟨q, hq, ht'⟩ := List.mem_flatten.mp this
        rw [(List.mem_replicate.mp hq).2] at ht'
        exact h1 t ht'
      · rw [(List.mem_replicate.mp h).2]; exact hz
    · rw [nsum_append, er, Int.natCast_sub (by omega), hp]
      have e : nsum r + ((2 : Int) ^ m - r.length) * z - 2 ^ m * x = (dsum z r - w * dsum z l) + w * (dsum z l - 2 ^ n * (x - z)) + (w * 2 ^ n - 2 ^ m) * (x - z) := by
        unfold dsum
        rw [Int.sub_mul, Int.sub_mul, Int.mul_sub (w : Int) _ ((2 : Int) ^ n * (x - z)), ← Int.mul_assoc (w : Int), Int.mul_sub (2 ^ m)]
        omega
      rw [e]
      exact Int.dvd_add (Int.dvd_add r3 (Int.dvd_mul_of_dvd_right d0)) (Int.dvd_mul_of_dvd_left hw)
/-! the numbers -/
open PySem L2
theorem numOf_same {ss ss' : List Nat} {T T' : Nat → Bool} {x x' : Nat} {v v' : V} (h : ∀ n, Un ss T n x = true ↔ Un ss' T' n x' = true) (a : NumOf ss T x v) (b : NumOf ss' T' x' v') : v = v' := by
  have hf : ∀ n, Un ss T n x = Un ss' T' n x' := fun n => by rw [Bool.eq_iff_iff]; exact h n
  rcases a with ⟨n, rfl, a1, a2⟩ | ⟨rfl, a1⟩ <;> rcases b with ⟨m, rfl, b1, b2⟩ | ⟨rfl, b1⟩
  · rcases Nat.lt_trichotomy n m with q | q | q
    · have := b2 n q; rw [← hf, a1] at this; cases this
    · rw [q]
    · have := a2 m q; rw [hf, b1] at this; cases this
  · have := b1 n; rw [← hf, a1] at this; cases this
  · have := a1 m; rw [hf, b1] at this; cases this
  · rfl
open PySem.Spec PyProof.Rows in
theorem op_notInK {X : Cx} {K : PySem.W.Frag} (h : X.K = K) : OpR X (compareOp .NotIn) (rIn K true) := by subst h; exact op_notIn_seq
theorem inV_nV {l : List Nat} {n : Nat} : inV (V.int (n : Nat)) (nV l) = decide (n ∈ l) := by
  unfold inV nV
  rw [List.any_map, Bool.eq_iff_iff, List.any_eq_true, decide_eq_true_eq]
  constructor
  · rintro ⟨m, hm, h⟩
    have : (m : Int) = n := by simpa [eqV] using h
    have : m = n := by omega
    rw [← this]; exact hm
  · intro h
    exact ⟨n, h, by simp [eqV]⟩
theorem flat_nV (l : List Nat) : (nV l).all flatV = true := by
  unfold nV
  rw [List.all_map, List.all_eq_true]
  intro x _
  rfl
theorem nodup_map {l : List Nat} {φ : Nat → Nat} (h : l.Nodup) (hi : ∀ a ∈ l, ∀ b ∈ l, φ a = φ b → a = b) : (l.map φ).Nodup :=
  List.pairwise_map.mpr (List.Pairwise.imp_of_mem (fun ha hb hn e => hn (hi _ ha _ hb e)) h)
theorem lt_w {a : Nat} (h : a + 65 < PySem.cLine) : a + 1 < PySem.cLine := by omega
open PySem PySem.Spec PyProof.Rows L2 in
theorem sl_tupK {X : Cx} {K : PySem.W.Frag} (h : X.K = K) : SlR X (rSlT K) := by subst h; exact sl_tup
open PySem PySem.Spec PyProof.Rows L2 in
theorem sl_tupAK {X : Cx} {K : PySem.W.Frag} (h : X.K = K) : SlR X (rSlA K) := by subst h; exact sl_tupA
section
open PySem PySem.Spec PyProof.Rows L2
theorem cr_maxK {X : Cx} {K : PySem.W.Frag} (h : X.K = K) (hc : X.calm = true) : CallR X (.builtin "max") (rMax K) := by subst h; exact cr_max hc
/-- range(i, j), whatever walks it -/
def iRng2H (ta : TA) : TI := fun σ H R => ta σ H fun vs H1 => ∃ i j : Int, vs = [.int i, .int j] ∧ (-(2 ^ 62) ≤ i ∧ i < 2 ^ 62 ∧ -(2 ^ 62) ≤ j ∧ j < 2 ^ 62) ∧ ∀ J : It, Walk J (j - i).toNat (fun _ => True) (YFn fun k => .int (i + (k : Nat))) → R J H1
theorem pi_range2H {X : Cx} {a b tg : Expr} {ta : TA} {p pos : Pos} (hg : Gl X "range") (hm : X.mg "range" = none) (ha : PA X [a, b] ta) (hs : starEach [a, b] X.env = [(false, eval a X.env), (false, eval b X.env)] := by rfl) (hs2 : starEach [b] X.env = [(false, eval b X.env)] := by rfl) : PI X tg (.Call (.Name "range" p) [a, b] [] pos) (iRng2H ta) := by
  have h2 : PA X [a, b] fun σ H Q => ∃ Q0, ta σ H Q0 ∧ ∀ vs H1, Q0 vs H1 → Q vs H1 := ⟨fun pos pins s σ H Q I ⟨Q0, h0, imp⟩ => thn (ha.run pos pins s σ H Q0 I h0) fun us s1 ⟨vs, H1, I1, r1, q1⟩ => ⟨vs, H1, I1, r1, imp _ _ q1⟩⟩
  exact ⟨fun pins s σ H R I h => (pi_range2 hg hm h2 hs hs2).run pins s σ H R I ⟨_, h, fun vs H1 ⟨i, j, e, b, hR⟩ => ⟨i, j, e, b, hR _ (walk_range.mono (fun _ _ => trivial) fun _ _ _ _ _ _ y => ⟨y.1, y.2⟩)⟩⟩⟩
end
end Cs

/-! Da: dict(list of pairs whose keys are tuples of ints or words). -/
namespace Cs
open PySem PySem.Spec PyProof.Rows L2
section
variable {P : Program} {w : World} {A : Around} {E : Value → Shared → Prop}
theorem keyT_keep {h h' : Heap} {k : List Key} {a : Addr} (x : (tupleKind (mixKind P w)).is h k a) (e : ∀ o, h.get? a = some o → h'.get? a = some o) : (tupleKind (mixKind P w)).is h' k a := by
  obtain ⟨o, its, n, h1, h2, h3, h4⟩ := x
  exact ⟨o, its, n, e _ h1, h2, h3, h4⟩
theorem dictT_keep {h h' : Heap} {d : Addr} {xs : List (List Key × Addr × Value)} (x : h.DictOfH (tupleKind (mixKind P w)) d xs) (e : ∀ o, h.get? d = some o → h'.get? d = some o) (ek : ∀ y ∈ xs, ∀ o, h.get? y.2.1 = some o → h'.get? y.2.1 = some o) : h'.DictOfH (tupleKind (mixKind P w)) d xs := by
  obtain ⟨o, es, ep, h1, h2, h3, h4, h5, h6⟩ := x
  exact ⟨o, es, ep, e _ h1, h2, h3, h4, fun y hy => keyT_keep (h5 y hy) (ek y hy), h6⟩
theorem stored_in {xs : List (List Key × Addr × Value)} {k : List Key} {a : Addr} {v : Value} {y : List Key × Addr × Value} (h : y ∈ storedH xs k a v) : y.2.1 = a ∨ ∃ x ∈ xs, y.2.1 = x.2.1 := by
  unfold storedH at h
  split at h
  · obtain ⟨x, hx, rfl⟩ := List.mem_map.mp h
    refine .inr ⟨x, hx, ?_⟩
    unfold putAt
    split <;> rfl
  · rcases List.mem_append.mp h with h | h
    · exact .inr ⟨y, h, rfl⟩
    · rw [List.mem_singleton.mp h]
      exact .inl rfl
theorem stored_len {xs : List (List Key × Addr × Value)} {k : List Key} {a : Addr} {v : Value} : (storedH xs k a v).length ≤ xs.length + 1 := by
  unfold storedH
  split
  · rw [List.length_map]; omega
  · rw [List.length_append]; exact Nat.le_refl _
/-- pairs put one by one -/
def mrgH (xs more : List (List Key × Addr × Value)) : List (List Key × Addr × Value) := more.foldl (fun acc q => storedH acc q.1 q.2.1 q.2.2) xs
theorem updT_loop {R : Result → Shared → Prop} {S I l : Addr} {items : Array Value} {res : Value} (hh : A.handled = none) (hu : A.units + 1 < cLine) (hlI : l ≠ I) (hSI : S ≠ I) (hSl : S ≠ l) :
    ∀ (rest : List (List Key × Addr × Value)) (i : Nat) (acc : List (List Key × Addr × Value)) (ix : Int) (t : Tok) (s : Shared), items.size = i + rest.length → acc.length + rest.length ≤ sizeLine →
      (∀ (j : Nat) q, rest[j]? = some q → ∃ b, items[i + j]? = some (.ref b) ∧ b ≠ S ∧ b ≠ I ∧ q.2.1 ≠ S ∧ q.2.1 ≠ I ∧ IsTup s.heap b #[.ref q.2.1, q.2.2] ∧ (tupleKind (mixKind P w)).is s.heap q.1 q.2.1) →
      (∀ y ∈ acc, y.2.1 ≠ S ∧ y.2.1 ≠ I) → s.heap.IsListIter I l i → s.heap.IsList l items → s.heap.DictOfH (tupleKind (mixKind P w)) S acc →
      (∀ h' tk, h'.DictOfH (tupleKind (mixKind P w)) S (mrgH acc rest) → (∀ b o, b ≠ S → b ≠ I → s.heap.get? b = some o → h'.get? b = some o) → R (.ok (.ret res)) { s with heap := h', toks := tk }) →
      codeAny (model P w) A (.builtin "dict.update.loop" ⟨[.ref S, .ref I, .int ix t, res], []⟩) R s
  | [], i, acc, ix, t, s, hsz, hln, ht, ha, hit, hl, hm, hR => by
    refine codeAny_builtin ud_entry ?_
    rw [Around.under_plainId ud_plain _]
    show wpAny _ A.in1 (pyNext (.ref I) >>= _) _ _ s
    refine wpAny_bind (wpAny_pyNext_list_end (A := A.in1) hh hit hl (by first | exact Array.getElem?_eq_none (Nat.le_of_eq hsz) | (simp at hsz; simp; omega)) fun h' he => ?_)
    show wpAny _ A.in1 (Builtin.Dict.addKeywords S [] >>= _) _ _ _
    refine wpAny_bind (wpAny_pure (wpAny_pure ?_))
    exact hR h' s.toks (dictT_keep hm (fun o e => he S o hSI e) fun y hy o e => he _ o (ha y hy).2 e) fun b o _ hb e => he b o hb e
  | q :: rest, i, acc, ix, t, s, hsz, hln, ht, ha, hit, hl, hm, hR => by
    obtain ⟨b, hb, hbS, hbI, hkS, hkI, htup, hk⟩ := ht 0 q rfl
    rw [List.length_cons] at hsz hln
    refine codeAny_builtin ud_entry ?_
    rw [Around.under_plainId ud_plain _]
    show wpAny _ A.in1 (pyNext (.ref I) >>= _) _ _ s
    refine wpAny_bind (wpAny_pyNext_list_item (x := .ref b) hit hl (by simpa using hb) fun h1 hit1 hs1 => ?_)
    have ht1 : IsTup h1 b #[.ref q.2.1, q.2.2] := htup.extBut hs1.extBut hbI
    have hl1 : h1.IsList l items := hl.extBut hs1.extBut hlI
    have hm1 : h1.DictOfH (tupleKind (mixKind P w)) S acc := dictT_keep hm (fun o e => hs1.extBut S o hSI e) fun y hy o e => hs1.extBut _ o (ha y hy).2 e
    have hk1 : (tupleKind (mixKind P w)).is h1 q.1 q.2.1 := keyT_keep hk fun o e => hs1.extBut _ o hkI e
    obtain ⟨o, ho, hc, n, hd⟩ := id ht1
    show wpAny _ A.in1 (holding [Value.ref b] _ >>= _) _ _ _
    refine wpAny_bind (wpAny_holding ?_)
    refine wpAny_bind (wpAny_tryCatch ?_)
    unfold Builtin.Dict.pairItems
    refine wpAny_bind (wpAny_typeOf (T := "tuple") ⟨o, ho, hc⟩ ?_)
    rw [if_pos (by first | decide | rfl | simp)]
    refine wpAny_bind (wpAny_seqItems ho hd (wpAny_pure ?_))
    show wpAny _ A.in1 (holding [.ref q.2.1, q.2.2] (dictSet S (.ref q.2.1) q.2.2)) _ _ _
    refine wpAny_holding (wpAny_dictSet_heap (knd := tupleKind (mixKind P w)) (k := q.1) hu hk1 hm1 (fun h2 hm2 hs2 => ?_) (by omega))
    refine wpAny_pure ⟨plainId_quiet ud_plain _, updT_loop (items := items) hh hu hlI hSI hSl rest (i + 1) (storedH acc q.1 q.2.1 q.2.2) (ix + 1) 0 _ (show items.size = i + 1 + rest.length by omega) ?_ (fun j q' e => ?_) (fun y hy => ?_) ?_ ?_ hm2 fun h' tk hd' k => ?_⟩
    · have z := stored_len (xs := acc) (k := q.1) (a := q.2.1) (v := q.2.2)
      omega
    · obtain ⟨b', hb', hbS', hbI', hkS', hkI', htup', hk'⟩ := ht (j + 1) q' (by simpa using e)
      refine ⟨b', ?_, hbS', hbI', hkS', hkI', (htup'.extBut hs1.extBut hbI').extBut hs2.extBut hbS', keyT_keep hk' fun o e => hs2.extBut _ o hkS' (hs1.extBut _ o hkI' e)⟩
      rw [show i + 1 + j = i + (j + 1) by omega]
      exact hb'
    · rcases stored_in hy with e | ⟨x, hx, e⟩
      · rw [e]; exact ⟨hkS, hkI⟩
      · rw [e]; exact ha x hx
    · exact hit1.at fun o' e => hs2.extBut I o' (Ne.symm hSI) e
    · exact hl1.extBut hs2.extBut (Ne.symm hSl)
    · exact hR h' tk hd' fun c oc h3 h4 e => k c oc h3 h4 (hs2.extBut c oc h3 (hs1.extBut c oc h4 e))
end
section
variable {P : Program} {w : World} {A : Around} {E : Value → Shared → Prop}
theorem call_dict_tups {s : Shared} {l : Addr} {ol : Obj} {items : Array Value} {n : Nat} {prs : List (List Key × Addr × Value)} {Q : Value → Shared → Prop} (hh : A.handled = none) (hu : A.units + 2 < cLine) (hl : s.heap.get? l = some ol) (hc : ol.cls = .type "list") (hd : ol.dict = none)
    (hdat : ol.data = .seq items n) (hsz : items.size = prs.length) (hln : prs.length ≤ sizeLine)
    (ht : ∀ (j : Nat) q, prs[j]? = some q → ∃ b, items[j]? = some (.ref b) ∧ IsTup s.heap b #[.ref q.2.1, q.2.2] ∧ (tupleKind (mixKind P w)).is s.heap q.1 q.2.1)
    (h : ∀ h' tk, h'.DictOfH (tupleKind (mixKind P w)) s.heap.objs.size (mrgH [] prs) → (∀ b o, s.heap.get? b = some o → h'.get? b = some o) → Q (.ref s.heap.objs.size) { s with heap := h', toks := tk }) :
    wpAny (model P w) A (call (.type "dict") [.ref l]) Q E s := by
  refine callType_codes (Q₁ := fun obj s₁ => obj = .ref s.heap.objs.size ∧ s₁ = { s with heap := s.heap.push { cls := .type "dict", data := .dict #[] } }) PySem.F.kt_called_dict (PySem.F.kt_typeCall_dict_1 _) PySem.F.entry_dict_init (kt_code_dict_new _ ⟨rfl, rfl⟩) ?_
  rintro obj s₁ ⟨rfl, rfl⟩
  have hnew : (s.heap.push { cls := .type "dict", data := .dict #[] }).DictOfH (tupleKind (mixKind P w)) s.heap.objs.size [] := Heap.DictOfH.new s.heap
  have k0 : ∀ b o, s.heap.get? b = some o → (s.heap.push { cls := .type "dict", data := .dict #[] }).get? b = some o := fun b o e => Heap.get?_push_of_some _ e
  refine ⟨hnew.typeIs, PySem.F.args_dict_init_2 _ _, ?_⟩
  unfold Builtin.«dict.__init__»
  refine wpAny_bind ?_
  unfold Builtin.Dict.selfAndRest
  refine wpAny_bind (wpAny_notOrdered_dict hnew.typeIs ?_)
  show wpAny _ _ (pure (s.heap.objs.size, [Value.ref l])) _ _ _
  refine wpAny_pure ?_
  show wpAny _ _ (Builtin.Dict.updateFrom "dict.__init__" s.heap.objs.size (.ref l) [] .none) _ _ _
  unfold Builtin.Dict.updateFrom
  refine wpAny_bind (wpAny_typeOf (T := "list") ⟨ol, k0 _ _ hl, hc⟩ ?_)
  rw [if_pos (by first | decide | rfl | simp)]
  refine wpAny_bind (miss_list (k0 _ _ hl) hc hdat hd hh fun h1 tk1 hk1 => ?_)
  rw [if_pos (show (none : Option Value).isNone = true from rfl)]
  refine wpAny_bind (wpAny_rule ?_)
  have hl1 : h1.IsList l items := ⟨ol, hk1 _ _ (k0 _ _ hl), hc, n, hdat⟩
  have hS1 : s.heap.objs.size < h1.objs.size := by
    have e : (s.heap.push { cls := .type "dict", data := .dict #[] }).get? s.heap.objs.size = some { cls := .type "dict", data := .dict #[] } := Heap.get?_push_size _ rfl
    exact Heap.lt_size (hk1 _ _ e)
  refine wpAny_bind (wpAny_pyIter_list hl1 ?_)
  have k2 : ∀ b o, h1.get? b = some o → (h1.push { cls := .type "list_iterator", data := .fields #[.ref l, .int 0 0] }).get? b = some o := fun b o e => Heap.get?_push_of_some _ e
  have k3 : ∀ b o, s.heap.get? b = some o → (h1.push { cls := .type "list_iterator", data := .fields #[.ref l, .int 0 0] }).get? b = some o := fun b o e => k2 _ _ (hk1 _ _ (k0 _ _ e))
  have hlt : l < s.heap.objs.size := Heap.lt_size hl
  have key := updT_loop (P := P) (w := w) (A := A.in1) (R := wants (fun r s₂ => r = .none ∧ Q (.ref s.heap.objs.size) s₂) E) (S := s.heap.objs.size) (I := h1.objs.size) (l := l) (items := items) (res := Value.none) hh (show A.units + 1 + 1 < cLine by omega)
    (Nat.ne_of_lt (Nat.lt_trans hlt hS1)) (Nat.ne_of_lt hS1) (Nat.ne_of_gt hlt) prs 0 [] 0 0
    { s with heap := h1.push { cls := .type "list_iterator", data := .fields #[.ref l, .int 0 0] }, toks := tk1 } (by rw [hsz, Nat.zero_add]) (by rw [List.length_nil, Nat.zero_add]; exact hln)
    (fun j q e => by
      obtain ⟨b, e1, e2, e3⟩ := ht j q e
      have hb : b < s.heap.objs.size := e2.lt
      have hk : q.2.1 < s.heap.objs.size := by
        obtain ⟨o, its, m, h1, _⟩ := id e3
        exact Heap.lt_size h1
      exact ⟨b, by rw [Nat.zero_add]; exact e1, Nat.ne_of_lt hb, Nat.ne_of_lt (Nat.lt_trans hb hS1), Nat.ne_of_lt hk, Nat.ne_of_lt (Nat.lt_trans hk hS1), e2.keeps fun c o z => k3 _ _ z, keyT_keep e3 fun o z => k3 _ _ z⟩)
    (fun y hy => nomatch hy) ⟨_, Heap.get?_push_size _ rfl, rfl, rfl⟩ (hl1.at fun o e => k2 _ _ e) (dictT_keep hnew (fun o e => k2 _ _ (hk1 _ _ e)) fun y hy => nomatch hy)
    (fun h' tk hd' k => ⟨rfl, h h' tk hd' fun b o e => k b o (Nat.ne_of_lt (Heap.lt_size e)) (Nat.ne_of_lt (Nat.lt_trans (Heap.lt_size e) hS1)) (k3 _ _ e)⟩)
  first
    | exact wpAny_pure ⟨plainId_quiet ud_plain _, key⟩
    | exact wpAny_bind (wpAny_pure (wpAny_pure ⟨plainId_quiet ud_plain _, key⟩))
end
def mergeT (kvs more : List (List Key × V)) : List (List Key × V) := more.foldl (fun acc kv => putK acc kv.1 kv.2) kvs
theorem length_mergeT : ∀ (more kvs : List (List Key × V)), (mergeT kvs more).length ≤ kvs.length + more.length
  | [], kvs => by show kvs.length ≤ kvs.length + 0; omega
  | p :: r, kvs => by
    have h1 := length_mergeT r (putK kvs p.1 p.2)
    have h2 := length_putK kvs p.1 p.2
    show (mergeT (putK kvs p.1 p.2) r).length ≤ kvs.length + (r.length + 1)
    omega
section
variable {X : Cx}
theorem mergeT_rel {H : Hp} : ∀ {more : List (List Key × V)} {rs : List (List Key × Addr × Value)} {kvs : List (List Key × V)} {xs : List (List Key × Addr × Value)}, KT H more rs → KT H kvs xs → KT H (mergeT kvs more) (mrgH xs rs) := by
  intro more rs kvs xs r
  induction r generalizing kvs xs with
  | nil => exact fun h => h
  | @cons p q ps qs hq t ih =>
    intro h
    obtain ⟨e1, e2, e3⟩ := hq
    show KT H (mergeT (putK kvs p.1 p.2) ps) (mrgH (storedH xs q.1 q.2.1 q.2.2) qs)
    rw [← e1]
    exact ih (h.put p.1 e2 e3)
/-- a pair (tuple, value) at p -/
def PairT (K : PySem.W.Frag) (H : Hp) (p : Addr) (kv : List Key × V) : Prop := ∃ b, SqT K H p [V.ref b, kv.2] ∧ H b = some (.tup (kv.1.map kV))
theorem tups_of {pins : List (Addr × Obj)} {σ : L2.St} {H : Hp} {s : Shared} (I : Inv X pins σ H s) : ∀ {ps : List Addr} {kvs : List (List Key × V)}, Paired (PairT X.K H) ps kvs →
    ∃ prs : List (List Key × Addr × Value), KT H kvs prs ∧ prs.length = ps.length ∧ ∀ (j : Nat) q, prs[j]? = some q → ∃ b, ps[j]? = some b ∧ IsTup s.heap b #[.ref q.2.1, q.2.2] ∧ (tupleKind (mixKind X.prog X.w)).is s.heap q.1 q.2.1
  | _, _, .nil => ⟨[], .nil, rfl, fun j q e => by simp at e⟩
  | _, _, .cons (a := p) (b := kv) h t => by
    obtain ⟨prs, r, hl, hp⟩ := tups_of I t
    obtain ⟨b, hs, hb⟩ := h
    obtain ⟨its, rv, ht, _⟩ := I.tuple hs
    obtain ⟨u, y, ei, ru, ry⟩ := vals2 rv
    subst ei
    obtain rfl : u = Value.ref b := ru
    refine ⟨(kv.1, b, y) :: prs, .cons ⟨rfl, hb, ry⟩ r, by rw [List.length_cons, List.length_cons, hl], fun j q e => ?_⟩
    cases j with
    | zero =>
      have e' : (kv.1, b, y) = q := Option.some.inj e
      subst e'
      exact ⟨p, rfl, ht, key_of I.hok hb⟩
    | succ j =>
      obtain ⟨b', e1, e2, e3⟩ := hp j q (by simpa using e)
      exact ⟨b', by simpa using e1, e2, e3⟩
def rDictT (K : PySem.W.Frag) : List V → Hp → VK → Prop := fun xs H Q => ∃ (a : Addr) (ps : List Addr) (kvs : List (List Key × V)), xs = [.ref a] ∧ SqL K H a (ps.map V.ref) ∧ Paired (PairT K H) ps kvs ∧ ∀ p, H p = none → Q (.ref p) (upd H p (.dT (mergeT [] kvs)))
/-- dict(l), l a list of pairs with tuples as keys -/
theorem call_dictT (hcalm : X.calm = true) (hu : X.A.units + 64 < cLine) : CallR X (.type "dict") (rDictT X.K) := by
  intro pins s σ H xs us Q I r q
  obtain ⟨a, ps, kvs, ex, hq, hp, q⟩ := q
  subst ex
  obtain ⟨u, eu, rx⟩ := vals1 r
  subst eu
  cases rx
  obtain ⟨its, rv, pl, hz⟩ := I.list hq
  have ei := refs_at rv
  subst ei
  rw [List.length_map] at hz
  obtain ⟨prs, rel, hl, hpr⟩ := tups_of I hp
  obtain ⟨o, n, ho, hc, hd, hdat⟩ := pl
  refine call_dict_tups (prs := prs) (I.ok.hd hcalm) (by omega) ho hc hd hdat (by simp [hl]) (by rw [hl]; exact hz) (fun j q' e => ?_) fun h' tk hd' k => ?_
  · obtain ⟨b, e1, e2, e3⟩ := hpr j q' e
    exact ⟨b, by simp [e1], e2, e3⟩
  · have hm : (s.heap.objs.size == sysModules) = false := beq_eq_false_iff_ne.mpr (Nat.ne_of_gt I.big)
    have hlen : (mergeT [] kvs).length ≤ sizeLine := by
      refine Nat.le_trans (length_mergeT kvs []) ?_
      rw [List.length_nil, Nat.zero_add, Paired.length rel, hl]
      exact hz
    obtain ⟨od, es, ep, h1, h2, h3, h4, _, h6⟩ := hd'
    have fr := I.hok.fresh (Nat.le_refl s.heap.objs.size)
    exact ⟨.ref s.heap.objs.size, upd H s.heap.objs.size (.dT (mergeT [] kvs)), I.laid (t' := tk) k (Nat.le_refl _) (show ObjOk X.prog X.w _ _ _ (.dT (mergeT [] kvs)) from ⟨hlen, hm, mrgH [] prs, (mergeT_rel rel .nil).keeps fun c ys ec => by rw [upd_ne (ne_some ec fr)]; exact ec, od, es, ep, h1, h2, h3, h4, h6⟩), rfl, q _ fr⟩
end
theorem call_dictTK {X : Cx} {K : PySem.W.Frag} (h : X.K = K) (hcalm : X.calm = true) (hu : X.A.units + 64 < cLine) : CallR X (.type "dict") (rDictT K) := by subst h; exact call_dictT hcalm hu
/-! d.update(e), d not empty -/
section
variable {P : Program} {w : World} {A : Around} {E : Value → Shared → Prop} {s : Shared}
theorem setHashedT {d a : Addr} {xs : List (List Key × Addr × Value)} {k : List Key} {v : Value} {Q : Unit → Shared → Prop} (hu : A.units < cLine) (hkey : (tupleKind (mixKind P w)).is s.heap k a) (hm : s.heap.DictOfH (tupleKind (mixKind P w)) d xs)
    (hQ : ∀ h', h'.DictOfH (tupleKind (mixKind P w)) d (storedH xs k a v) → Heap.SameBut d s.heap h' → Q () { s with heap := h' }) (hsz : xs.length ≤ sizeLine) :
    wpAny (model P w) A (dictSetHashed d (.ref a) ((tupleKind (mixKind P w)).hash k) v) Q E s := by
  obtain ⟨o, es, ep, ho, hc, hd, he, his, hn⟩ := hm
  have kp : ∀ {h' : Heap} {y : List Key × Addr × Value}, Heap.SameBut d s.heap h' → y ∈ xs → (tupleKind (mixKind P w)).is h' y.1 y.2.1 := fun {h' y} sb hy => (tupleKind (mixKind P w)).keeps (his y hy) ho hd sb
  unfold dictSetHashed
  try with_reducible refine wpAny_holding ?_
  refine wpAny_bind (wpAny_dictFind_heap (knd := tupleKind (mixKind P w)) hu hkey ho hd he his hn (fun hno => ?_) fun j p hj => ?_)
  · have e0 := storedH_new (atKey_none_of_get hno) a v
    refine wpAny_bind (wpAny_rule (wpAny_updateDictKeys (hz := by have e := size_of_entries he; omega) ho hd (hQ _ ⟨_, _, ep + 1, Heap.get?_update_self _ ho (Obj.isFreed_of_dict (Obj.data_mapDictKeys hd _)), hc.mapDictKeys _, Obj.data_mapDictKeys hd _, ?_, fun y hy => ?_, ?_⟩ (Heap.SameBut.update ..))))
    · rw [e0]
      simp [he, entryOfKey]
    · rw [e0] at hy
      rcases List.mem_append.mp hy with hy | hy
      · exact kp (Heap.SameBut.update ..) hy
      · rw [List.mem_singleton.mp hy]
        exact (tupleKind (mixKind P w)).keeps hkey ho hd (Heap.SameBut.update ..)
    · rw [e0, List.map_append, List.nodup_append]
      exact ⟨hn, by simp, fun x hx y hy e => not_mem_keys_of_get hno (by rw [List.map_singleton, List.mem_singleton] at hy; have h3 : x = k := e.trans hy; exact h3 ▸ hx)⟩
  · have e0 := storedH_old (atKey_of_get hn hj) a v
    refine wpAny_bind (wpAny_rule (wpAny_bind (wpAny_updateDict ho hd (wpAny_point (hQ _ ⟨_, _, ep, Heap.get?_update_self _ ho (Obj.isFreed_of_dict (Obj.data_mapDict hd _)), hc.mapDict _, Obj.data_mapDict hd _, ?_, fun y hy => ?_, ?_⟩ (Heap.SameBut.update ..))))))
    · rw [e0]
      have := modify_map_putAt (entryOfKey (tupleKind (mixKind P w))) (fun e : DictEntry => { e with val := v }) k v (fun _ _ => rfl) hn hj
      rw [← he] at this
      obtain ⟨l⟩ := es
      simpa using this
    · rw [e0] at hy
      obtain ⟨z, hz, rfl⟩ := List.mem_map.mp hy
      unfold putAt
      split
      · exact kp (y := z) (Heap.SameBut.update ..) hz
      · exact kp (y := z) (Heap.SameBut.update ..) hz
    · rw [e0, keys_map_putAt]
      exact hn
theorem mrgH_take {xs more : List (List Key × Addr × Value)} {i : Nat} {q : List Key × Addr × Value} (h : more[i]? = some q) : mrgH xs (more.take (i + 1)) = storedH (mrgH xs (more.take i)) q.1 q.2.1 q.2.2 := by
  unfold mrgH
  rw [List.take_add_one, h, List.foldl_append]
  rfl
theorem mrgH_len : ∀ (more xs : List (List Key × Addr × Value)), (mrgH xs more).length ≤ xs.length + more.length
  | [], xs => by show xs.length ≤ xs.length + 0; omega
  | q :: r, xs => by
    have h1 := mrgH_len r (storedH xs q.1 q.2.1 q.2.2)
    have h2 := stored_len (xs := xs) (k := q.1) (a := q.2.1) (v := q.2.2)
    show (mrgH (storedH xs q.1 q.2.1 q.2.2) r).length ≤ xs.length + (r.length + 1)
    omega
theorem mergeDictT {nm : String} {d o : Addr} {xs more : List (List Key × Addr × Value)} {Q : Unit → Shared → Prop} (hu : A.units < cLine) (hdo : d ≠ o) (hoS : (o == sysModules) = false) (hx : xs ≠ [])
    (hd : s.heap.DictOfH (tupleKind (mixKind P w)) d xs) (ho : s.heap.DictOfH (tupleKind (mixKind P w)) o more)
    (hQ : ∀ h', h'.DictOfH (tupleKind (mixKind P w)) d (mrgH xs more) → Heap.SameBut d s.heap h' → Q () { s with heap := h' }) (hsz : xs.length + more.length ≤ sizeLine) :
    wpAny (model P w) A (Builtin.Dict.mergeDict nm d o) Q E s := by
  obtain ⟨od, esd, epd, hod, hcd, hdd, hed, hid, hnd⟩ := id hd
  obtain ⟨oo, eso, epo, hoo, hco, hdo', heo, hio, hno⟩ := id ho
  have hne : esd.isEmpty = false := by
    have := size_of_entries hed
    have h0 : xs.length ≠ 0 := fun e => hx (List.length_eq_zero_iff.mp e)
    cases hh : esd.isEmpty with
    | false => rfl
    | true =>
      have h1 := Array.isEmpty_iff.mp hh
      rw [h1] at this
      exact absurd (show xs.length = 0 from this.symm) h0
  have hlen : eso.size = more.length := size_of_entries heo
  unfold Builtin.Dict.mergeDict
  rw [if_neg (by simpa using hdo)]
  unfold Builtin.Dict.showsAll
  rw [if_neg (by rw [hoS]; exact Bool.false_ne_true)]
  refine wpAny_bind (wpAny_pure ?_)
  refine wpAny_bind (wpAny_dictEntries hoo hdo' ?_)
  have loop : wpAny (model P w) A (do
      let epoch ← dictEpoch o
      let l ← dictEntries o
      forIn [:l.size] PUnit.unit fun i (_ : PUnit) => (do
          let l' ← dictEntries o
          match l'[i]? with
            | some e => do
              holding [e.key, e.val] (dictSetHashed d e.key e.hash e.val)
              let ep' ← dictEpoch o
              if (ep' != epoch) = true then do
                  (unsupported (toString nm ++ toString ":source-changed-during-callback") : Sem PUnit)
                  pure (ForInStep.yield PUnit.unit)
                else pure (ForInStep.yield PUnit.unit)
            | _ => do
              (unsupported "internal:dict-merge" : Sem PUnit)
              pure (ForInStep.yield PUnit.unit) : Sem (ForInStep PUnit))
      pure ()) Q E s := by
    refine wpAny_bind (wpAny_dictEpoch hoo hdo' ?_)
    refine wpAny_bind (wpAny_dictEntries hoo hdo' ?_)
    refine wpAny_bind ?_
    rw [Std.Legacy.Range.forIn_eq_forIn_range']
    simp only [Std.Legacy.Range.size, Nat.sub_zero, Nat.add_sub_cancel, Nat.div_one]
    refine wpAny_forIn_list _
      (fun rest _ s' => ∃ h' i, s' = { s with heap := h' } ∧ rest = List.range' i (eso.size - i) ∧ i ≤ eso.size ∧ h'.DictOfH (tupleKind (mixKind P w)) d (mrgH xs (more.take i)) ∧ h'.get? o = some oo ∧ Heap.SameBut d s.heap h')
      _ ?_ ?_ _ _ ⟨s.heap, 0, rfl, by simp, Nat.zero_le _, by simpa [mrgH] using hd, hoo, Heap.SameBut.refl _ _⟩
    · rintro x rest b s' ⟨h', i, rfl, hr, hi, hd', hoo', hs'⟩
      have hlt : i < eso.size := by
        rcases Nat.lt_or_ge i eso.size with h | h
        · exact h
        · rw [Nat.sub_eq_zero_of_le h] at hr; simp at hr
      obtain ⟨rfl, hrest⟩ : x = i ∧ rest = List.range' (i + 1) (eso.size - (i + 1)) := by
        have e : eso.size - i = (eso.size - (i + 1)) + 1 := by omega
        rw [e, List.range'_succ] at hr
        injection hr with h1 h2
        exact ⟨h1, h2⟩
      refine wpAny_bind (wpAny_dictEntries hoo' hdo' ?_)
      have hm : more[x]? = some more[x] := List.getElem?_eq_getElem (by omega)
      have he : eso[x]? = some (entryOfKey (tupleKind (mixKind P w)) more[x]) := by rw [entry_at heo, hm]; rfl
      rw [he]
      have hk0 := hio more[x] (List.getElem_mem _)
      have hk : (tupleKind (mixKind P w)).is h' more[x].1 more[x].2.1 := (tupleKind (mixKind P w)).keeps hk0 hod hdd hs'
      show wpAny _ _ (holding [Value.ref more[x].2.1, more[x].2.2] (dictSetHashed d (.ref more[x].2.1) ((tupleKind (mixKind P w)).hash more[x].1) more[x].2.2) >>= _) _ _ _
      have hmx : (mrgH xs (more.take x)).length ≤ sizeLine := by
        have e1 := mrgH_len (more.take x) xs
        have e2 : (more.take x).length ≤ more.length := by rw [List.length_take]; omega
        omega
      refine wpAny_bind (wpAny_holding (setHashedT (s := { s with heap := h' }) hu hk hd' (fun h'' hd'' hs'' => ?_) hmx))
      have hoo'' : h''.get? o = some oo := (hs''.2 o (Ne.symm hdo)).trans hoo'
      refine wpAny_bind (wpAny_dictEpoch hoo'' hdo' ?_)
      rw [if_neg (by simp)]
      exact wpAny_pure ⟨h'', x + 1, rfl, hrest, hlt, by rw [mrgH_take hm]; exact hd'', hoo'', hs'.trans hs''⟩
    · rintro b s' ⟨h', i, rfl, hr, hi, hd', hoo', hs'⟩
      have hin : i = eso.size := by
        rcases Nat.lt_or_ge i eso.size with h | h
        · have e : eso.size - i = (eso.size - (i + 1)) + 1 := by omega
          rw [e, List.range'_succ] at hr; exact nomatch hr
        · exact Nat.le_antisymm hi h
      refine wpAny_pure (hQ h' ?_ hs')
      rw [hin, hlen, List.take_length] at hd'
      exact hd'
  dsimp only
  split
  · refine wpAny_bind (wpAny_dictEntries hod hdd ?_)
    rw [if_neg (by rw [hne]; exact Bool.false_ne_true)]
    exact loop
  · exact loop
/-- d.update(e): d not empty -/
theorem meetsUpdT (d o : Addr) (hdo : d ≠ o) (hoS : (o == sysModules) = false) :
    MeetsIn P w (Builtin.«dict.update» ⟨[.ref d, .ref o], []⟩) (fun A R s => A.units + 1 < cLine ∧ ∃ xs more, xs ≠ [] ∧ s.heap.DictOfH (tupleKind (mixKind P w)) d xs ∧ s.heap.DictOfH (tupleKind (mixKind P w)) o more ∧ xs.length + more.length ≤ sizeLine ∧
      ∀ h', h'.DictOfH (tupleKind (mixKind P w)) d (mrgH xs more) → Heap.SameBut d s.heap h' → R (.ok (.ret .none)) { s with heap := h' }) :=
  .of_wp fun A R s ⟨hu, xs, more, hx, hd, ho, hsz, h⟩ => by
    unfold Builtin.«dict.update»
    refine wpAny_bind ?_
    unfold Builtin.Dict.selfAndRest
    refine wpAny_bind (wpAny_notOrdered_dict hd.typeIs ?_)
    show wpAny _ _ (pure (d, [Value.ref o])) _ _ s
    refine wpAny_pure ?_
    show wpAny _ _ (Builtin.Dict.updateFrom "dict.update" d (.ref o) [] .none) _ _ s
    unfold Builtin.Dict.updateFrom
    refine wpAny_bind (wpAny_typeOf ho.typeIs ?_)
    rw [if_neg (by decide)]
    refine wpAny_bind ?_
    unfold Builtin.Dict.merge
    refine wpAny_bind ?_
    · unfold Builtin.Dict.readDirectly
      refine wpAny_bind (wpAny_isInstance ho.typeIs isSubtype_dict_dict ?_)
      simp only [Bool.not_true, Bool.false_eq_true, if_false]
      refine wpAny_bind (wpAny_specialOf ho.typeIs F.slot_dict_iter.lookup (wpAny_pure ?_))
      simp only [beq_self_eq_true, if_true]
      refine wpAny_bind (wpAny_pure ?_)
      refine mergeDictT (by first | exact hu | omega) hdo hoS hx hd ho (fun h' hd' hs' => ?_) hsz
      show wpAny _ _ (Builtin.Dict.addKeywords d [] >>= _) _ _ _
      exact wpAny_bind (wpAny_pure (wpAny_pure ⟨.none, rfl, h h' hd' hs'⟩))
end
section
variable {X : Cx}
def rUpdT : V → List V → Hp → VK → Prop := fun x xs H Q => ∃ (a b : Addr) (kvs more : List (List Key × V)), x = .ref a ∧ xs = [.ref b] ∧ a ≠ b ∧ kvs ≠ [] ∧ H a = some (.dT kvs) ∧ H b = some (.dT more) ∧ kvs.length + more.length ≤ sizeLine ∧ Q .non (upd H a (.dT (mergeT kvs more)))
theorem mt_updT (hu : X.A.units + 64 < cLine) : MtR X "dict.update" rUpdT := by
  intro pins s σ H x xs v us Q I rx rxs h
  obtain ⟨a, b, kvs, more, rfl, rfl, hab, hne, ha, hb, hz, q⟩ := h
  cases rx
  obtain ⟨u, rfl, r1⟩ := vals1 rxs
  cases r1
  obtain ⟨z, hd, xs', rel, dd⟩ := dt_of I.hok ha
  obtain ⟨z2, hd2, ys, rel2, dd2⟩ := dt_of I.hok hb
  have e1 : kvs.length = xs'.length := Paired.length rel
  have e2 : more.length = ys.length := Paired.length rel2
  refine call_meetsIn PySem.F.slot_dict_update dd.typeIs PySem.F.entry_dict_update (PySem.F.args_dict_update_2 _ _) (meetsUpdT a b hab hd2)
    ⟨by omega, xs', ys, fun e => hne (List.length_eq_zero_iff.mp (by rw [e1, e]; rfl)), dd, dd2, by omega, fun h' dd' hs => ?_⟩
  obtain ⟨o, es, ep, hq, h2, h3, h4, _, h5⟩ := dd'
  have I2 : Inv X pins σ (upd H a (.dT (mergeT kvs more))) { s with heap := h', toks := s.toks } :=
    d_write I (by rw [ha]; exact True.intro) hs ⟨o, hq⟩ ⟨Nat.le_trans (length_mergeT more kvs) hz, hd, _, (mergeT_rel rel2 rel).keeps (fun c ys ec => (by rw [upd_ne (ne_of ec ha (fun z => nomatch z))]; exact ec)), o, es, ep, hq, h2, h3, h4, h5⟩
  exact ⟨.non, _, I2, rfl, q⟩
def tUpdT (to : TE) (t : TA) : TE := fun σ H Q => to σ H fun x H1 => (∃ a, x = V.ref a ∧ IsD H1 a) ∧ t σ H1 fun xs H2 => rUpdT x xs H2 Q
variable {o e : Expr} {to : TE} {t : TA} {apos cpos : Pos}
theorem pe_updT (hu : X.A.units + 64 < cLine) (ho : PE X o to) (ha : PA X [e] t)
    (hbase : attributeBase o "update" X.env (eval o X.env) = eval o X.env := by rfl)
    (hfew : ((backTo cpos (starEach [e] X.env)).all (fun x => !x.1) && (backToKw cpos (keywordEach [] X.env)).all (fun x => x.1.isSome)
      && decide (([e] : List Expr).length + ([] : List Keyword).length + (if ([] : List Keyword).isEmpty then 0 else 1) < 30)) = true := by rfl)
    (hline : (apos.endLine == cpos.line) = true := by rfl) (hs : starEach [e] X.env = (false, eval e X.env) :: starEach [] X.env := by rfl) :
    PE X (.Call (.Attribute o "update" apos) [e] [] cpos) (tUpdT to t) := by
  refine ⟨fun pins s σ H Q I h => wpAny_Call_method_late hbase hfew hline rfl (thn (ho.run pins s σ H _ I h) fun v s1 ⟨x, H1, I1, r1, ty, q1⟩ => ?_)⟩
  obtain ⟨a, rfl, hka⟩ := ty
  obtain ⟨t1, t2, _⟩ := isD_at I1 hka
  cases r1
  refine ⟨"dict", "dict.update", PySem.F.plainAttrs_dict, PySem.F.slot_dict_update, PySem.F.type_dict_update, t1, t2, ?_⟩
  have hA := ha.run cpos pins s1 σ H1 _ I1 q1
  rw [hs] at hA ⊢
  refine Calls.callWith_builtin rfl (Calls.evalArgs_plain ?_)
  exact thn hA fun us s2 ⟨vs, H2, I2, r2, q2⟩ => mt_updT hu pins s2 σ H2 (.ref a) vs (.ref a) us Q I2 rfl r2 q2
end
end Cs

/-! Db: sorted(list of tuples of ints, all of one length), any number of them. -/
namespace Cs
open PySem PySem.Spec PyProof.Rows L2
section
variable {prog : Program} {w : World} {A : Around} {E : Value → Shared → Prop} {s : Shared}
theorem swo_key (k : Value → Int) : SrtO.Swo fun v u => decide (k v < k u) := by
  refine ⟨fun x y h => ?_, fun x y z h1 h2 => ?_⟩
  · have a := of_decide_eq_true h
    exact decide_eq_false (by omega)
  · have a := of_decide_eq_false h1
    have b := of_decide_eq_false h2
    exact decide_eq_false (by omega)
theorem swo_keyV (k : V → Int) : SrtO.Swo fun v u => decide (k v < k u) := by
  refine ⟨fun x y h => ?_, fun x y z h1 h2 => ?_⟩
  · have a := of_decide_eq_true h
    exact decide_eq_false (by omega)
  · have a := of_decide_eq_false h1
    have b := of_decide_eq_false h2
    exact decide_eq_false (by omega)
theorem tups_cmp {d : Nat} {B : Int} {vs : List Value} {k : Value → Int} (hp : ∀ v ∈ vs, ∃ ns, TS.TupInts s.heap v ns ∧ ns.length = d ∧ TS.Bd B ns ∧ k v = TS.code B ns) : SrtO.Cmp prog w A s (tuples' true) (fun p => p.1 ∈ vs) (SrtO.lt2 fun v u => decide (k v < k u)) := by
  intro p q hm hm'
  obtain ⟨ns, tp, lp, bp, kp⟩ := hp _ hm
  obtain ⟨ms, tq, lq, bq, kq⟩ := hp _ hm'
  show wpAny (model prog w) A (keyLt' (tuples' true) p.1 q.1) (fun r s' => s' = s ∧ r = decide (k p.1 < k q.1)) (fun _ _ => False) s
  rw [kp, kq]
  obtain ⟨a, xs, e1, ⟨o, ho, hc, n, hdt⟩, i⟩ := tp
  obtain ⟨a', ys, e2, ⟨o', ho', hc', n', hdt'⟩, i'⟩ := tq
  rw [e1, e2]
  refine PySem.W.kat_lt ho hdt ho' hdt' ?_
  have sz : decide (xs.size < ys.size) = false := by
    have l1 := i.length
    have l2 := i'.length
    rw [Array.length_toList] at l1 l2
    exact decide_eq_false (by omega)
  rw [sz]
  exact TS.lex_ints 0 i i' (by omega) bp bq ⟨rfl, rfl⟩
theorem tups_sortable {a : Addr} {d : Nat} {B : Int} {vs : List Value} {k : Value → Int} (hd : 1 ≤ d) (h0 : 0 < vs.length) (hp : ∀ v ∈ vs, ∃ ns, TS.TupInts s.heap v ns ∧ ns.length = d ∧ TS.Bd B ns ∧ k v = TS.code B ns) (ha : ∀ o, s.heap.get? a = some o → o.cls ≠ .type "tuple") :
    SrtO.SortableO prog w A s a vs fun v u => decide (k v < k u) := by
  intro h' keep
  have hp' : ∀ v ∈ vs, ∃ ns, TS.TupInts h' v ns ∧ ns.length = d ∧ TS.Bd B ns ∧ k v = TS.code B ns := fun v hm => by
    obtain ⟨ns, t, r⟩ := hp v hm
    exact ⟨ns, t.keeps fun b o e c => keep b o (fun z => by subst z; exact ha o e c) e, r⟩
  obtain ⟨fs, h1, h2, h3⟩ := TS.firsts_of (B := B) hd vs fun v hv => by
    obtain ⟨ns, t, l, b, _⟩ := hp' v hv
    exact ⟨ns, t, l, b⟩
  refine ⟨tuples' true, fun Q E hq => ?_, tups_cmp hp'⟩
  refine PySem.W.kat_kind (T := .type "int") h1 (by omega) (fun f hm => ?_) (by rfl) ?_
  · obtain ⟨x, t, rfl⟩ := h3 f hm
    exact PySem.W.Looks.now
  · have e : (Value.type "int" != Value.type "tuple") = true := by first | decide +kernel | rfl | decide
    rw [e]
    exact hq
/-- sorted(l) of tuples of ints, any number of them -/
theorem sorted_tupsO {l : Addr} {d : Nat} {B : Int} {vs : List Value} {k : Value → Int} {Q : Value → Shared → Prop} (hd : 1 ≤ d) (hl : s.heap.IsList l vs.toArray) (hz : vs.length ≤ sizeLine) (hp : ∀ v ∈ vs, ∃ ns, TS.TupInts s.heap v ns ∧ ns.length = d ∧ TS.Bd B ns ∧ k v = TS.code B ns)
    (h : ∀ (h' : Heap) (d : Addr) (out : List Value), SrtO.Srtd (fun v u => decide (k v < k u)) out → SrtO.Stb (fun v u => decide (k v < k u)) out vs → (∀ b o, s.heap.get? b = some o → h'.get? b = some o) → s.heap.objs.size ≤ d → (∃ n, h'.get? d = some (seqObj "list" out.toArray n)) → Q (.ref d) { s with heap := h' }) :
    wpAny (model prog w) A (call (.builtin "sorted") [.ref l]) Q E s := by
  refine SrtO.sorted_ord (swo_key k) hl hz (fun h2 h₁ a ha kk => ?_) fun out hs hb => ?_
  · refine tups_sortable (B := B) (s := { s with heap := h₁ }) hd (by omega) (fun v hm => ?_) fun o e => ?_
    · obtain ⟨ns, t, r⟩ := hp v hm
      exact ⟨ns, t.keeps fun b o e _ => (kk b o e).2, r⟩
    · have e' : some o = some (seqObj "list" vs.toArray 0) := e.symm.trans ha
      cases e'
      intro c
      exact absurd (Value.type.inj c) (by decide)
  · exact h _ _ out hs hb (fun b o e => sortedAll_old e) (Nat.le_succ _) (sortedAll_at s.heap vs out.toArray)
end
def intV : V → Int
  | .int i => i
  | _ => 0
theorem intV_map (ns : List Int) : (ns.map V.int).map intV = ns := by
  rw [List.map_map]
  exact Eq.trans (List.map_congr_left fun _ _ => rfl) (List.map_id _)
/-- the code of the tuple that a value stands for -/
def keyT (H : Hp) : V → Int
  | .ref t => match H t with
    | some (.tup xs) => TS.code (2 ^ 1000) (xs.map intV)
    | _ => 0
  | _ => 0
theorem keyT_at {H : Hp} {t : Addr} {ns : List Int} (h : H t = some (.tup (ns.map V.int))) : keyT H (.ref t) = TS.code (2 ^ 1000) ns := by
  show (match H t with | some (.tup xs) => TS.code (2 ^ 1000) (xs.map intV) | _ => 0) = _
  rw [h]
  show TS.code (2 ^ 1000) ((ns.map V.int).map intV) = _
  rw [intV_map]
/-- sorted(list of tuples of ints, all of one length), any number of them -/
def rSortTL : List V → Hp → VK → Prop := fun vs H Q => ∃ (l : Addr) (as : List Addr) (gs : List (List Int)) (d : Nat), vs = [.ref l] ∧ H l = some (.lst (as.map V.ref)) ∧ AsT H as gs ∧ 1 ≤ d ∧ (∀ g ∈ gs, g.length = d ∧ TS.Bd (2 ^ 1000) g) ∧
  ∀ p bs hs, H p = none → AsT H bs hs → hs.Perm gs → SrtT hs → Q (.ref p) (upd H p (.lst (bs.map V.ref)))
theorem cr_sortTL {X : Cx} : CallR X (.builtin "sorted") rSortTL := by
  intro pins s σ H vs us Q I r h
  obtain ⟨l, as, gs, d, rfl, hl, hA, d1, hb, q⟩ := h
  have hs : SqL X.K H l (as.map V.ref) := .inl (.inl hl)
  obtain ⟨its, rv, hl2, hz⟩ := I.list hs
  obtain ⟨u, rfl, ru⟩ := vals1 r
  obtain rfl : u = Value.ref l := ru
  have hin : ∀ x ∈ as.map V.ref, ∃ (t : Addr) (g : List Int), x = V.ref t ∧ H t = some (.tup (g.map V.int)) ∧ g.length = d ∧ TS.Bd (2 ^ 1000) g := fun x hx => by
    obtain ⟨t, ht, rfl⟩ := List.mem_map.mp hx
    obtain ⟨i, hi, e⟩ := List.getElem_of_mem ht
    have hi2 : i < gs.length := by rw [← hA.1]; exact hi
    have hg := List.getElem_mem hi2
    exact ⟨t, gs[i], rfl, hA.2 i t _ (by rw [List.getElem?_eq_getElem hi, e]) (List.getElem?_eq_getElem hi2), (hb _ hg).1, (hb _ hg).2⟩
  obtain ⟨e1, e2⟩ := refs_back rv fun x m => by
    obtain ⟨t, g, e, _⟩ := hin x m
    exact ⟨t, e⟩
  refine sorted_tupsO (d := d) (B := 2 ^ 1000) (k := fun u => keyT H (backV u)) d1 hl2.isList (by rw [← rv.length]; exact hz) (fun v hv => ?_) fun h' dd out h1 h2 kp hd hn => ?_
  · obtain ⟨t, rfl⟩ := e2 v hv
    have hm : V.ref t ∈ as.map V.ref := by rw [e1]; exact List.mem_map.mpr ⟨_, hv, rfl⟩
    obtain ⟨t', g, e, ht, hgl, hgb⟩ := hin _ hm
    cases e
    obtain ⟨_, its2, r2, ht2⟩ := I.hok _ _ ht
    refine ⟨g, ⟨t, its2.toArray, rfl, ?_, ?_⟩, hgl, hgb, keyT_at ht⟩
    · exact ht2
    · exact r2.ints
  · have h3 : ∀ u ∈ out, ∃ a, u = Value.ref a := fun u hu => e2 u (h2.perm.mem_iff.mp hu)
    obtain ⟨n, hn⟩ := hn
    have hb2 : SrtO.Stb (fun v u => decide (keyT H v < keyT H u)) (out.map backV) (as.map V.ref) := by
      rw [e1]
      exact SrtO.Stb.map (swo_keyV (keyT H)) backV h2
    have hsr := SrtO.srtd_map (lt := fun v u => decide (keyT H v < keyT H u)) (f := backV) h1
    have hzl : (as.zip gs).map (·.2) = gs := List.map_snd_zip (by rw [hA.1]; exact Nat.le_refl _)
    obtain ⟨zs, hzp, ez⟩ := perm_lift (f := fun p : Addr × List Int => V.ref p.1) hb2.perm (as.zip gs) (zip_refs hA.1)
    have hzat : ∀ z ∈ zs, H z.1 = some (.tup (z.2.map V.int)) := fun z hz2 => zip_at hA z (hzp.mem_iff.mp hz2)
    have q' := q dd (zs.map (·.1)) (zs.map (·.2)) (I.hok.fresh hd) ⟨by simp, fun i t g h1 h2 => ?_⟩ ?_ ?_
    · rw [List.map_map] at q'
      have ez' : zs.map (V.ref ∘ fun p : Addr × List Int => p.1) = out.map backV := ez
      rw [ez'] at q'
      refine ⟨.ref dd, upd H dd (.lst (out.map backV)), I.laid (t' := s.toks) kp hd ⟨?_, out, n, vals_back h3, hn⟩, rfl, q'⟩
      rw [hb2.len]
      exact hz
    · simp only [List.getElem?_map, Option.map_eq_some_iff] at h1 h2
      obtain ⟨z, hz1, rfl⟩ := h1
      obtain ⟨z', hz2, rfl⟩ := h2
      rw [hz1] at hz2
      obtain rfl := Option.some.inj hz2
      exact hzat z (List.mem_of_getElem? hz1)
    · have := hzp.map (·.2)
      rw [hzl] at this
      exact this
    · rw [← ez] at hsr
      unfold SrtT
      rw [List.pairwise_map]
      have hsr2 := List.pairwise_map.mp hsr
      refine List.Pairwise.imp_of_mem (fun {a b} ha hb h => ?_) hsr2
      have h := of_decide_eq_false h
      rw [keyT_at (hzat a ha), keyT_at (hzat b hb)] at h
      omega
end Cs

/-! Dc: l.pop(i) within a comprehension. -/
namespace Cs
open PySem PySem.Spec PyProof.Rows L2
/-- l.pop(i), l tracked -/
def tPopI (to : TE) (t : TA) : TE := fun σ H Q => to σ H fun x H1 => ∃ p, x = .ref p ∧ (∃ ys, H1 p = some (.lst ys)) ∧ t σ H1 fun vs H2 => rPopAt (.ref p) vs H2 Q
theorem pe_popI {X : Cx} {o e : Expr} {to : TE} {t : TA} {apos cpos : Pos} (ho : PE X o to) (ha : PA X [e] t)
    (hbase : attributeBase o "pop" X.env (eval o X.env) = eval o X.env := by rfl)
    (hfew : ((backTo cpos (starEach [e] X.env)).all (fun x => !x.1) && (backToKw cpos (keywordEach [] X.env)).all (fun x => x.1.isSome)
      && decide (([e] : List Expr).length + ([] : List Keyword).length + (if ([] : List Keyword).isEmpty then 0 else 1) < 30)) = true := by rfl)
    (hline : (apos.endLine == cpos.line) = true := by rfl) (hs : starEach [e] X.env = (false, eval e X.env) :: starEach [] X.env := by rfl) :
    PE X (.Call (.Attribute o "pop" apos) [e] [] cpos) (tPopI to t) := by
  refine ⟨fun pins s σ H Q I h => ?_⟩
  refine wpAny_Call_method_late hbase hfew hline rfl (thn (ho.run pins s σ H _ I h) fun v s1 ⟨x, H1, I1, r1, p, ex, ⟨ys, hp⟩, q1⟩ => ?_)
  subst ex
  have ty : tyV X.K "list" (.ref p) H1 := .inl ⟨rfl, ys, .inl (.inl hp)⟩
  obtain ⟨h1, h2⟩ := tyV_is I1 r1 ty
  refine ⟨"list", _, PySem.F.plainAttrs_list, PySem.F.slot_list_pop, PySem.F.type_list_pop, h1, h2, ?_⟩
  have hA := ha.run cpos pins s1 σ H1 _ I1 q1
  rw [hs] at hA ⊢
  refine Calls.callWith_builtin (by rfl) (Calls.evalArgs_plain ?_)
  exact thn hA fun us s2 ⟨vs, H2, I2, r2, q2⟩ => mt_popAt pins s2 σ H2 (.ref p) vs v us Q I2 r1 r2 q2
end Cs

/-! Co: the head with facts by names and by tests of one's own, nothing written out; the law's end over it. -/
namespace Cs
open PySem PySem.Spec PyProof.Rows L2 He
/-- facts fa, tests xs, defs fn, read off a part of the heap -/
def obsM (fa : List Fa) (xs : List (PySem.W.Frag → Bool)) (fn : List FnD) (K : PySem.W.Frag) : Al := (((fa.all fun f => f.ok K) && xs.all fun f => f K) && fn.all fun d => (Fa.code d.at_ d.qual).ok K, fn.map fun d => fnObs K d.at_)
def SaysM (fa : List Fa) (xs : List (PySem.W.Frag → Bool)) (fn : List FnD) (K : PySem.W.Frag) : Prop := obsM fa xs fn K = valE fn
def refsC (o : Obj) : List Addr := match o.data with
  | .cls cd => [cd.ns]
  | _ => []
def codeC (o : Obj) : List Addr := match o.data with
  | .func fd => refV fd.code
  | _ => []
def atG {α : Type} (g : Addr → Option Obj) (f : Obj → List α) (a : Addr) : List α := match g a with
  | some o => f o
  | none => []
/-- the names' objects, the dicts of the classes cs, what stands in them, the codes of all these -/
def asX (g : Addr → Option Obj) (cs : List Str) : List Addr :=
  (fun as1 ns => (fun fs => mainGlobals :: (as1 ++ (ns ++ (fs ++ (as1 ++ fs).flatMap (atG g codeC))))) (ns.flatMap (atG g refsO)))
    (atG g refsO mainGlobals) (cs.flatMap fun x => atG g refsC (ga (frG g [mainGlobals]) x))
def obsMG (n : List Str) (fa : List Fa) (xs : List (PySem.W.Frag → Bool)) (fn : List FnD) (g : Addr → Option Obj) : Al := obsM fa xs fn (frG g (asX g n))
def hookM (n : List Str) (fa : List Fa) (xs : List (PySem.W.Frag → Bool)) (fn : List FnD) : PySem.W.Hook where
  α := Al
  obs := fun s => obsMG n fa xs fn s.heap.get?
  val := fun _ => valE fn
  says := fun _ h => ∃ K : PySem.W.Frag, K.In h ∧ SaysM fa xs fn K
  of := fun _ _ e => ⟨_, frG_in, e⟩
  keeps := fun _ _ _ ⟨K, hK, c⟩ k => ⟨K, PySem.W.Frag.In.keeps hK k, c⟩
theorem obsMG_eq {n : List Str} {fa : List Fa} {xs : List (PySem.W.Frag → Bool)} {fn : List FnD} {g : Addr → Option Obj} {s : Shared} (h : ∀ a, g a = s.heap.get? a) : obsMG n fa xs fn g = (hookM n fa xs fn).obs s := by
  have e : g = s.heap.get? := funext h
  rw [e] <;> rfl
section
variable {fa : List Fa} {xs : List (PySem.W.Frag → Bool)} {fn : List FnD} {K : PySem.W.Frag}
theorem SaysM.all (c : SaysM fa xs fn K) : (((fa.all fun f => f.ok K) && xs.all fun f => f K) && fn.all fun d => (Fa.code d.at_ d.qual).ok K) = true := congrArg (fun z : Al => z.1) c
theorem SaysM.fact (c : SaysM fa xs fn K) (i : Nat) {f : Fa} (h : fa[i]? = some f := by rfl) : f.ok K = true :=
  List.all_eq_true.mp (ba (ba c.all).1).1 f (List.mem_of_getElem? h)
theorem SaysM.test (c : SaysM fa xs fn K) (i : Nat) {f : PySem.W.Frag → Bool} (h : xs[i]? = some f := by rfl) : f K = true :=
  List.all_eq_true.mp (ba (ba c.all).1).2 f (List.mem_of_getElem? h)
theorem SaysM.def_ (c : SaysM fa xs fn K) (i : Nat) {d : FnD} (h : fn[i]? = some d := by rfl) :
    ∃ oc od osl kV doc pm an cdv ct, K.lookup (fAd K d.at_) = some ⟨oc, od, .func (PySem.W.fnOf d.name d.qual d.params d.body d.scope .none kV doc pm an cdv ct), osl⟩ ∧ PySem.W.codeIn K cdv d.qual = true := by
  have e : fn.map (fun d => fnObs K d.at_) = fn.map FnD.val := congrArg (fun z : Al => z.2) c
  have e2 : (fn.map fun d => fnObs K d.at_)[i]? = (fn.map FnD.val)[i]? := by rw [e]
  rw [List.getElem?_map, List.getElem?_map, h] at e2
  exact fn_ok (Option.some.inj e2) (List.all_eq_true.mp (ba c.all).2 d (List.mem_of_getElem? h))
end
theorem keep_of {K : PySem.W.Frag} {x : Str} (c : (Fa.keep x).ok K = true) : PySem.W.keepIn K (.ref (fAd K (x, none))) = true := c
theorem glo_of {K : PySem.W.Frag} {x : Str} (c : (Fa.glo x).ok K = true) : PySem.W.nsIn K mainGlobals x = some (some (.ref (ga K x))) := eqO_ok c
theorem free_of {K : PySem.W.Frag} {x : Str} (c : (Fa.free x).ok K = true) : PySem.W.nsIn K mainGlobals x = some none := eqO_ok c
theorem int_of {K : PySem.W.Frag} {x : Str} {i : Int} (c : (Fa.int x i).ok K = true) : ∃ v, PySem.W.nsIn K mainGlobals x = some (some v) ∧ RelV (.int i) v := by
  have c2 : (match PySem.W.nsIn K mainGlobals x with
    | some (some (.int j _)) => decide (j = i)
    | _ => false) = true := c
  cases e : PySem.W.nsIn K mainGlobals x with
  | none => rw [e] at c2; cases c2
  | some o =>
    rw [e] at c2
    cases o with
    | none => cases c2
    | some v =>
      cases v with
      | int j t =>
        have ej : j = i := of_decide_eq_true c2
        rw [ej] at e ⊢
        exact ⟨_, rfl, t, rfl⟩
      | _ => cases c2
/-- the law's end over facts, the script's ints bounded -/
theorem walk_ofBE {l : PySem.W.OpenLaw} {n k : Nat} {q : Program} {loose : List Str} {XP : (Str → Option Value) → Heap → Prop} {YP : World → Heap → Prop} {d : DefRec} {CX : CXT} {x : Str}
    (hn : l.most = some n) (hn2 : n ≤ sizeLine) (hdf : d.params.defaults = []) (hr : Room k callerA)
    (F : ∀ (w : World) (mg : Str → Option Value) (fa : Addr) (h : Heap), YP w h → h.Ns mainGlobals mg → mg d.name = some (.ref fa) →
      ∃ (K : PySem.W.Frag) (fd : FuncData) (sp : Sp), K.In h ∧ (∀ (s : Shared) (u : Value), BindsTo s fd ⟨[u], []⟩ [(x, u)]) ∧
        (∀ (H : Hp) (a : Addr) (ns : List Int), ns.length ≤ n → (∀ z ∈ ns, Builtin.Int.intBits z ≤ 1048576) → Only H → SqL K H a (ns.map V.int) → sp [.ref a] H (fun v _ => v = .bl true) fun _ _ _ => False) ∧
        ∀ base : Heap, K.In base → base.Ns mainGlobals mg → FnOk l.prog w K mg base CX k fa fd [x] sp)
    (hCX : ∀ (H : Hp) (s : Shared) (e : Value) (s' : Shared), CX [] H s (fun _ _ _ => False) e s' → False) :
    PySem.W.WalkO q loose XP YP l.row.toRowW d [] (fun f vs => PySem.call f vs) := by
  refine Att.attach_callB hn hdf fun w s₀ s₁ mg mb fa o pm cd doc a vs ns G Y ho hd hcd hmg hobj hints hlen hbits hg => ?_
  obtain ⟨K, fd, sp, KX, hb, hsp, hF⟩ := F w mg fa _ Y G.T.g hmg
  exact law_call KX G.T.g G.T.b G.T.builtins G.T.nolimit hg hobj hints (Nat.le_trans hlen hn2) hr hF hb (fun H hO hS => hsp H a ns hlen hbits hO hS) fun H e s' => hCX H s₁ e s'
end Cs

/-! Cj: own exceptions over an own base: its __init__ by the base's name; clauses of a try one by one, with or without 'as'. -/
namespace Cs
open PySem PySem.Spec PyProof.Rows L2

/-! ### Base.__init__(self, ..), Base an own class over ValueError -/
/-- what the text has of such a base -/
structure BaseI (K : PySem.W.Frag) (B : Addr) : Prop where
  ga : PySem.W.specialIn K (.ref B) "__getattribute__" = some (some (.builtin "type.__getattribute__"))
  rd : PySem.W.readsIn K B (.type "type") = true
  at_ : PySem.W.findCls K (.ref B) (.type "type") "__init__" = some (.val (.builtin "ValueError.__init__"))
section
variable {X : Cx} {e : Expr} {es : List Expr} {ta : TA} {n : Str} {B : Addr} {p1 p2 pos : Pos}
theorem pe_baseinit {pl : Sem Bool} (T : BaseI X.K B) (hg : Gl X n) (hm : X.mg n = some (.ref B)) (ha : PA X (e :: es) ta)
    (hc : eval (.Call (.Attribute (.Name n p1) "__init__" p2) (e :: es) [] pos) X.env = (do
      let ov ← eval (.Name n p1) X.env
      standAt p2.atName
      let (f, first) ← holding [ov] (getMethod ov "__init__" pl)
      callWith pos f first (backTo pos (starEach (e :: es) X.env)) (backToKw pos (keywordEach [] X.env))) := by rfl)
    (hdb : (n == ("__debug__" : Str)) = false := by decide)
    (he : starEach (e :: es) X.env = (false, eval e X.env) :: starEach es X.env := by rfl) (hpl : (backTo pos (starEach es X.env)).any (·.1) = false := by rfl) :
    PE X (.Call (.Attribute (.Name n p1) "__init__" p2) (e :: es) [] pos) (tVeI X.K ta) := by
  refine ⟨fun pins s σ H Q I h => ?_⟩
  refine PySem.W.methodCall_KW (ld_glob I hg hm ?_ hdb) hc
  refine PySem.W.method_cls I.kIn T.ga (PySem.W.cls_value I.kIn T.rd T.at_ (by decide +kernel) ?_)
  show wpAny _ _ (callWith pos (Value.builtin "ValueError.__init__") [] (backTo pos (starEach (e :: es) X.env)) []) _ _ _
  refine PyProof.Rows.callWith_method1 (thn (ha.run pos pins _ σ H _ (I.tok _) h) fun us s1 ⟨vs, H1, I1, r1, q0⟩ => ?_) he hpl
  obtain ⟨a, C, ws, ev, hl, T1, ea, q⟩ := q0
  subst ev
  cases r1 with
  | @cons _ u0 _ ur ra rw' =>
    obtain rfl : u0 = Value.ref a := ra
    have hlen : ur.length ≤ sizeLine := by
      rw [← Paired.length rw', sizeLine_eq]
      omega
    exact oinit_ok T1 I1 ea hlen fun s' J => ⟨.non, H1, J, rfl, q⟩
end

/-! ### the clauses of a try, one by one -/
/-- a caught exception, before a clause is asked -/
def Got (X : Cx) (pins : List (Addr × Obj)) (a : Addr) (cls : Value) (d : Option Addr) (σ : L2.St) (H : Hp) (s : Shared) : Prop :=
  ∃ (B : Heap) (sI : Shared), Inv X pins σ H sI ∧ (∀ b o, sI.heap.get? b = some o → b ∉ frs X.stack → B.get? b = some o) ∧ sI.heap.UpToSlots s.heap ∧
    HandSPX.FlyingZ B X.stack a (Zc cls d) s.heap ∧ s.os = sI.os ∧ AllBare s.gens ∧ H a = none
/-- what the clauses hds do with what W wishes -/
def Hdl (X : Cx) (hds : List ExceptHandler) (W : Ends → WX) : Prop :=
  ∀ (pins : List (Addr × Obj)) (a : Addr) (cls : Value) (d : Option Addr) (σ : L2.St) (H : Hp) (s : Shared) (D : Ends), Got X pins a cls d σ H s → W D cls d σ H →
    wpAny (model X.prog X.w) X.A (handleBy (.ref a) X.env hds) (SP X pins D) X.xe s
/-- except c: ts -/
def wAny (K : PySem.W.Frag) (c : Value) (ts : Addr → Value → Option Addr → TS) (W : Ends → WX) : Ends → WX := fun D cls d σ H =>
  ∃ b, PySem.W.exmOne K cls c = some b ∧ (b = true → ∀ a, H a = none → ts a cls d D σ H) ∧ (b = false → W D cls d σ H)
/-- the ends of a suite behind which slot i is empty -/
def endsAs (i : Nat) (D : Ends) : Ends := { nx := fun σ' H' => D.nx (σ'.set i none) H', rt := D.rt, bk := fun σ' H' => D.bk (σ'.set i none) H', ct := fun σ' H' => D.ct (σ'.set i none) H' }
/-- except c as (slot i): ts -/
def wNam (K : PySem.W.Frag) (c : Value) (i : Nat) (ts : Addr → Value → Option Addr → TS) (W : Ends → WX) : Ends → WX := fun D cls d σ H =>
  ∃ b, PySem.W.exmOne K cls c = some b ∧ (b = true → ∀ a, H a = none → ts a cls d (endsAs i D) (σ.set i (some (.ref a))) H) ∧ (b = false → W D cls d σ H)
section
variable {X : Cx} {pins : List (Addr × Obj)} {a : Addr} {cls : Value} {d : Option Addr} {σ : L2.St} {H : Hp} {s : Shared} {D : Ends}
theorem Got.on {h' : Heap} {B : Heap} {sI : Shared} (I : Inv X pins σ H sI) (nb : ∀ b o, sI.heap.get? b = some o → b ∉ frs X.stack → B.get? b = some o) (up : sI.heap.UpToSlots h')
    (fl : HandSPX.FlyingZ B X.stack a (Zc cls d) h') (os : s.os = sI.os) (ag : AllBare s.gens) (na : H a = none) : Got X pins a cls d σ H { s with heap := h' } := ⟨B, sI, I, nb, up, fl, os, ag, na⟩
/-- a suite's context at such a point -/
theorem Got.suite (hs : X.stack = X.env :: X.outer) (hf : X.env.frame = some X.env.locals) (g : Got X pins a cls d σ H s) :
    ∃ oe vs, s.heap.get? a = some oe ∧ Zc cls d oe ∧ oe.data = .fields vs ∧ Inv X pins σ H s ∧ Inv (X.suite a ((a, oe) :: (X.pn ++ pins))) [] σ H s := by
  obtain ⟨B, sI, I, nb, up, fl, os, ag, na⟩ := g
  have J : Inv X pins σ H { s with heap := s.heap } := I.landed nb fl.1 up os ag
  obtain ⟨oe, vs, he, hz, hd⟩ := fl.there
  have out : a ∉ frs X.stack := fun m => by
    obtain ⟨_, o', e', no⟩ := fl.2.2.1.mem m
    rw [he] at e'
    cases e'
    exact no _ hd
  rw [hs] at out
  have nL : a ≠ X.env.locals := fun z => out (List.mem_filterMap.mpr ⟨X.env, List.mem_cons_self, by rw [hf, z]⟩)
  have nF : a ∉ X.fs := fun m => by
    obtain ⟨v, hv, q⟩ := List.mem_filterMap.mp m
    exact out (List.mem_filterMap.mpr ⟨v, List.mem_cons_of_mem _ hv, q⟩)
  exact ⟨oe, vs, he, hz, hd, J, J.suite he hd na nL nF⟩
/-- the exception's flight is ended once more -/
theorem Got.again {Q : Unit → Shared → Prop} {M : Model} {A : Around} {E : Value → Shared → Prop} (g : Got X pins a cls d σ H s) (h : ∀ h', Got X pins a cls d σ H { s with heap := h' } → Q () { s with heap := h' }) :
    wpAny M A (setFlight (.ref a) none) Q E s := by
  obtain ⟨B, sI, I, nb, up, fl, os, ag, na⟩ := g
  exact HandSPX.lands_againZ fl fun h4 fl4 up4 => h h4 ⟨B, sI, I, nb, up.trans up4, fl4, os, ag, na⟩
/-- a clause's test -/
theorem Got.test {x : Str} {c : Value} {np : Pos} {E : Value → Shared → Prop} {Q : Value → Shared → Prop} (hs : X.stack = X.env :: X.outer) (hf : X.env.frame = some X.env.locals) (g : Got X pins a cls d σ H s) (hc : Names X x c) (q : Q c s) :
    wpAny (model X.prog X.w) (X.A.mark (some (.ref a))) (eval (.Name x np) X.env) Q E s := by
  obtain ⟨oe, vs, he, hz, hd, J, S⟩ := g.suite hs hf
  obtain ⟨hg, hdbg, hm | ⟨hm, hv, hnn⟩⟩ := hc
  · exact ld_glob (X := X.suite a ((a, oe) :: (X.pn ++ pins))) S hg hm q hdbg
  · exact ld_blt (X := X.suite a ((a, oe) :: (X.pn ++ pins))) S hg hm hv q hnn hdbg
theorem Got.type (hs : X.stack = X.env :: X.outer) (hf : X.env.frame = some X.env.locals) (g : Got X pins a cls d σ H s) {M : Model} : PySem.W.Looks M s.heap (typeOf (.ref a)) cls := by
  obtain ⟨oe, vs, he, hz, hd, J, S⟩ := g.suite hs hf
  exact fun A Q E s' k q => wpAny_typeOf_ref (k _ _ he) (by rw [hz.1]; exact q)
theorem Got.kIn (hs : X.stack = X.env :: X.outer) (hf : X.env.frame = some X.env.locals) (g : Got X pins a cls d σ H s) : X.K.In s.heap := by
  obtain ⟨oe, vs, he, hz, hd, J, S⟩ := g.suite hs hf
  exact J.kIn
end
section
variable {X : Cx} {x n : Str} {c : Value} {i : Nat} {suite body : List Stmt} {b₀ : Stmt} {np pos pos' : Pos} {hds : List ExceptHandler} {W : Ends → WX} {Wout : WX} {ts : Addr → Value → Option Addr → TS} {tb : WX → TS}
theorem hdl_nil (hs : X.stack = X.env :: X.outer) (hf : X.env.frame = some X.env.locals) (tk : Takes X Wout) : Hdl X [] (fun _ => Wout) := by
  intro pins a cls d σ H s D g w
  obtain ⟨B, sI, I, nb, up, fl, os, ag, na⟩ := g
  refine wpAny_handleBy_nil ?_
  obtain ⟨_, _, _, oe, vs, T, oT, ts', he, hz, hd, h1, hr⟩ := id fl
  unfold PySem.passOn
  refine wpAny_bind (wpAny_field he hd h1 ?_)
  rw [if_neg (show ¬ ((Value.ref T == Value.none) = true) from by simp)]
  have fin : wpAny (model X.prog X.w) X.A (setFlight (.ref a) X.env.frame) (fun _ s4 => wpAny (model X.prog X.w) X.A (throw (.ref a) : Sem Flow) (SP X pins D) X.xe s4) X.xe s := by
    rw [hf]
    refine HandSPX.setFlight_upZ (by rw [hs] at fl; exact fl) fun h4 hh4 up4 => wpAny_throw (tk _ _ ?_)
    exact ⟨a, B, sI, pins, σ, H, cls, d, rfl, I, nb, up.trans up4, .inr (.inr (by rw [hs]; exact hh4)), na, os, ag, w⟩
  first
    | exact wpAny_bind (wpAny_pure (wpAny_bind fin))
    | exact wpAny_bind fin
theorem hdl_any (hs : X.stack = X.env :: X.outer) (hf : X.env.frame = some X.env.locals) (hc : Names X x c)
    (hsu : ∀ (a : Addr) (oe : Obj) (cls : Value) (d : Option Addr) (pn : List (Addr × Obj)), Zc cls d oe → (∃ vs, oe.data = .fields vs) → PSs (X.suite a ((a, oe) :: pn)) (b₀ :: suite) (ts a cls d))
    (r : Hdl X hds W) : Hdl X (.ExceptHandler (some (.Name x np)) none (b₀ :: suite) pos' :: hds) (wAny X.K c ts W) := by
  intro pins a cls d σ H s D g w
  obtain ⟨b, hb1, hyes, hno⟩ := w
  have LM := PySem.W.exm_one (M := model X.prog X.w) (g.kIn hs hf) (g.type hs hf) hb1
  refine wpAny_handleBy_cons (codeAny_handlers_test ?_) (by intro q; cases q)
  refine g.test hs hf hc (LM.here ?_)
  cases b with
  | true =>
    refine codeAny_handlers_suite (g.again fun h4 g4 => ?_)
    obtain ⟨oe, vs, he, hz, hd, J, S⟩ := g4.suite hs hf
    have ok := J.ok
    obtain ⟨_, _, _, _, _, _, _, _, na⟩ := g4
    refine wpAny_mono ((hsu a oe cls d (X.pn ++ pins) hz ⟨_, hd⟩).run [] _ _ H _ S (hyes rfl a na)) (fun f s6 hsp => ?_) (fun _ _ z => False.elim z)
    cases f with
    | ret u =>
      obtain ⟨v6, σ6, H6, S6, r6, q6⟩ := hsp
      exact ⟨_, _, _, S6.unsuite ok, r6, q6⟩
    | _ =>
      obtain ⟨σ6, H6, S6, q6⟩ := hsp
      exact ⟨_, _, S6.unsuite ok, q6⟩
  | false => exact r pins a cls d σ H s D g (hno rfl)
theorem hdl_as (hs : X.stack = X.env :: X.outer) (hf : X.env.frame = some X.env.locals) (hN : X.N.Nodup) (hi : X.N[i]? = some n) (hln : X.env.kindOf n = some .local) (hc : Names X x c)
    (hsu : ∀ (a : Addr) (oe : Obj) (cls : Value) (d : Option Addr) (pn : List (Addr × Obj)), Zc cls d oe → (∃ vs, oe.data = .fields vs) → PSs (X.suite a ((a, oe) :: pn)) (b₀ :: suite) (ts a cls d))
    (r : Hdl X hds W) : Hdl X (.ExceptHandler (some (.Name x np)) (some n) (b₀ :: suite) pos' :: hds) (wNam X.K c i ts W) := by
  intro pins a cls d σ H s D g w
  obtain ⟨b, hb1, hyes, hno⟩ := w
  have LM := PySem.W.exm_one (M := model X.prog X.w) (g.kIn hs hf) (g.type hs hf) hb1
  refine wpAny_handleBy_cons (codeAny_handlers_test ?_) (by intro q; cases q)
  refine g.test hs hf hc (LM.here ?_)
  cases b with
  | true =>
    refine codeAny_handlers_suite_as (g.again fun h4 g4 => ?_)
    obtain ⟨oe, vs, he, hz, hd, J, S⟩ := g4.suite hs hf
    have ok := J.ok
    obtain ⟨_, _, _, _, _, _, _, _, na⟩ := g4
    have hloc : Loc X.env.scope n := .inl hln
    refine store_ok (X := X.suite a ((a, oe) :: (X.pn ++ pins))) (v := .ref a) S hN hi hloc rfl (fun s5 S5 => ?_) (.inr hln)
    refine wpAny_mono ((hsu a oe cls d (X.pn ++ pins) hz ⟨_, hd⟩).run [] s5 _ H _ S5 (hyes rfl a na)) (fun f s6 hsp => ?_) (fun _ _ z => False.elim z)
    cases f with
    | ret u =>
      obtain ⟨v6, σ6, H6, S6, r6, q6⟩ := hsp
      exact gone_ok (S6.unsuite ok) hN hi hln fun s7 J7 => ⟨_, _, _, J7, r6, q6⟩
    | _ =>
      obtain ⟨σ6, H6, S6, q6⟩ := hsp
      exact gone_ok (S6.unsuite ok) hN hi hln fun s7 J7 => ⟨_, _, J7, q6⟩
  | false => exact r pins a cls d σ H s D g (hno rfl)
/-- try: body, and its clauses -/
theorem ps_tryH {h₀ : ExceptHandler} (hs : X.stack = X.env :: X.outer) (hf : X.env.frame = some X.env.locals)
    (hb : ∀ (W : WX) (pn : List (Addr × Obj)) (xe : Value → Shared → Prop), Takes (X.tr pn xe) W → PSs (X.tr pn xe) body (tb W))
    (hh : Hdl X (h₀ :: hds) W) : PS X (.Try body (h₀ :: hds) [] [] pos) (fun D σ H => tb (W D) D σ H) := by
  refine ⟨fun pins s σ H D I h => ?_⟩
  have ok := I.ok
  have hfr : X.A.frames = some (X.env :: X.outer) := by rw [ok.frames, hs]
  refine wpAny_Try_except ?_
  refine wpAny_mono ((hb (W D) (X.pn ++ pins) (fun e s₁ => wpAny (model X.prog X.w) X.A (noteFrame e X.env) (fun _ s₂ => wpAny (model X.prog X.w) X.A (setFlight e none) (fun _ s₃ =>
    wpAny (model X.prog X.w) X.A (handleBy e X.env (h₀ :: hds)) (SP X pins D) X.xe s₃) X.xe s₂) X.xe s₁) (fun u s' xx => ?_)).run [] s σ H D (I.toTry _) h) (fun f s1 hsp => ?_) (fun e s1 he => he)
  · obtain ⟨a, B, sI, pins', σ', H', cls, d, rfl, J', nb, up, sky, na, os, ag, w⟩ := xx
    have sky' : Sky B (X.env :: X.outer) a (Zc cls d) X.env.locals s'.heap := by rw [← hs]; exact sky
    show wpAny (model X.prog X.w) X.A (noteFrame (.ref a) X.env) _ _ _
    refine Sky.land Zc.steady hfr hf sky' fun h3 fl3 up3 => ?_
    exact hh pins a cls d σ' H' _ D ⟨B, sI, J'.ofTry ok, nb, up.trans up3, by rw [hs]; exact fl3, os, ag, na⟩ w
  · cases f with
    | next =>
      obtain ⟨σ', H', J', q⟩ := hsp
      exact wpAny_execs_nil ⟨σ', H', J'.ofTry ok, q⟩
    | ret u =>
      obtain ⟨v, σ', H', J', r, q⟩ := hsp
      exact ⟨v, σ', H', J'.ofTry ok, r, q⟩
    | _ =>
      obtain ⟨σ', H', J', q⟩ := hsp
      exact ⟨σ', H', J'.ofTry ok, q⟩
end

/-! ### what a clause says of a class, and what a raise leaves -/
theorem exm_at {K : PySem.W.Frag} {C D : Addr} {b : Bool} (h1 : PySem.W.subIn K (.ref D) (.type "BaseException") = some true) (h2 : PySem.W.isClsIn K D = true) (h3 : PySem.W.typeIn K (.ref D) = some (.type "type")) (h4 : PySem.W.subIn K (.ref C) (.ref D) = some b) :
    PySem.W.exmOne K (.ref C) (.ref D) = some b := by
  have h2' : (PySem.W.clsIn K D).isSome = true := h2
  unfold PySem.W.exmOne
  rw [h1, if_pos (by rfl)]
  show (if ((PySem.W.clsIn K D).isSome && PySem.W.typeIn K (.ref D) == some (.type "type")) = true then PySem.W.subIn K (.ref C) (.ref D) else none) = some b
  rw [h2', h3, if_pos (by rfl)]
  exact h4
/-- C.__init__(self, y): nothing but the field f -/
def spX (C : Addr) (f : Str) : Sp := fun vs H Q _ => ∃ (e : Addr) (y : V), vs = [.ref e, y] ∧ H e = some (exo e C none) ∧ ∀ dx, H dx = none → dx ≠ e → Q .non (upd (upd H dx (exd dx [(f, y)])) e (exo e C (some dx)))
theorem spX_made {C : Addr} {f : Str} {y : V} {H : Hp} {Q : XK} (q : ∀ d : Addr, H d = none → Q (.ref C) (some d) (upd H d (.xd [(f, y)]))) (a : Addr) (ha : H a = none) :
    spX C f [.ref a, y] (upd H a (exo a C none)) (fun v H2 => v = .non ∧ ∃ (d : Addr) (fs : List (Str × V)), H2 a = some (exo a C (some d)) ∧ H2 d = some (exd d fs) ∧ H d = none ∧ Q (.ref C) (some d) (upd (del H2 a) d (.xd fs))) (fun _ _ _ => False) := by
  refine ⟨a, y, rfl, upd_same, fun dx hdx ne => ⟨rfl, dx, [(f, y)], upd_same, by rw [upd_ne ne]; exact upd_same, ?_, ?_⟩⟩
  · rw [upd_ne ne] at hdx
    exact hdx
  · rw [upd_ne ne] at hdx
    have e : upd (del (upd (upd (upd H a (exo a C none)) dx (exd dx [(f, y)])) a (exo a C (some dx))) a) dx (.xd [(f, y)]) = upd H dx (.xd [(f, y)]) := by
      funext b
      by_cases h1 : b = dx
      · rw [h1, upd_same, upd_same]
      · rw [upd_ne h1, upd_ne h1]
        by_cases h2 : b = a
        · rw [h2, del_same, ha]
        · rw [del_ne h2, upd_ne h2, upd_ne h1, upd_ne h2]
    rw [e]
    exact q dx hdx
/-- C(x), x a name -/
theorem mkV {C : Addr} {f : Str} {i : Nat} {y : V} {σ : L2.St} {H : Hp} {Q : XK} (e : σ[i]? = some (some y)) (q : ∀ d : Addr, H d = none → Q (.ref C) (some d) (upd H d (.xd [(f, y)]))) : tMkO C (spX C f) [] (tCons (tVar i) tNil) σ H Q := by
  exact ⟨y, e, (by decide : 1 ≤ 1000), fun a ha => spX_made q a ha⟩
theorem mkC {C : Addr} {f : Str} {y : V} {σ : L2.St} {H : Hp} {Q : XK} (q : ∀ d : Addr, H d = none → Q (.ref C) (some d) (upd H d (.xd [(f, y)]))) : tMkO C (spX C f) [] (tCons (tC y) tNil) σ H Q := by
  exact ⟨(by decide : 1 ≤ 1000), fun a ha => spX_made q a ha⟩
end Cs

/-! Dd: defs that show values (repr): their promise holds where nothing is being shown around the call; FnG in FnOk's place, from the law down to them. -/
namespace Cs
open PySem PySem.Spec PyProof.Rows L2
/-- a promise kept where nothing is being shown around the call, and no exception leaves -/
structure FnG (P : Program) (w : World) (K : PySem.W.Frag) (mg : Str → Option Value) (base : Heap) (k : Nat) (f : Addr) (fd : FuncData) (ps : List Str) (sp : Sp) : Prop where
  many : ∀ vs H Q E, sp vs H Q E → vs.length = ps.length
  goes : ∀ (A : Around) (up : List Env) (s : Shared) (H : Hp) (ar : Args) (us : List Value) (vs : List V) (Q : VK) (E : XK), Room k A → A.guards = some [] → Env0 P w K mg base A up s H → BindsTo s fd ar (ps.zip us) → Vals vs us → sp vs H Q E →
    codeAny (model P w) A (.call (.ref f) ar) (CR CX0 up P w H s Q E) s
section
variable {P : Program} {w : World} {K : PySem.W.Frag} {mg : Str → Option Value} {base : Heap}
theorem funG {x qual : Str} {st : Stmt} {f : Addr} {fd : FuncData} {N ps : List Str} {k : Nat} {sp : Sp} (F : Fun K x qual st f fd) (S : FnScope N ps (defScope st)) (many : ∀ vs H Q E, sp vs H Q E → vs.length = ps.length)
    (bd : ∀ (cdv : Value) (A : Around) (up : List Env) (s : Shared) (H : Hp) (vs : List V) (Q : VK) (E : XK), Room k (A.deeper (envOfC qual (defScope st) s.heap.objs.size f cdv)) → A.guards = some [] → sp vs H Q E →
      ∃ t, PSs (cxOf CX0 P w K mg base N qual (defScope st) f cdv A up s H E).nox (defBody st) t ∧ t { nx := fun _ H' => Q .non H', rt := Q } (start N vs) H) : FnG P w K mg base (k + 1) f fd ps sp := by
  obtain ⟨oc, od, kV, doc, pm, an, cdv, ct, osl, rfl, lk, cod⟩ := F.ex
  refine ⟨many, fun A up s H ar us vs Q E room gd e0 bnd rel want => ?_⟩
  have inK : K.In s.heap := e0.mod.kin.keeps fun a u eu => (e0.bs a u eu).1
  have noL : s.heap.NoLimit := e0.mod.nolimit.keeps fun a u eu => (e0.bs a u eu).1
  have kinds : ∀ y ∈ ps.zip us, (defScope st).names.lookup y.1 = some .local ∨ ((defScope st).names.lookup y.1 = some .cell ∧ ((cellsFrom (s.heap.objs.size + 1) (defScope st).names []).lookup y.1).isSome = true) := by
    rintro ⟨nm, val⟩ hy
    have := S.par nm (List.of_mem_zip hy).1
    exact this.imp id fun c => ⟨c, PySem.W.cellsFrom_some _ _ _ (.inl c)⟩
  refine codeAny_call_function room.depth (inK _ _ lk) rfl S.co S.gen rfl (PySem.W.codeRec_of inK cod) (bnd _ _ _ _ (wpAny_newFunctionEnv_cells S.kind kinds fun env ev s1 ic => ?_))
  subst ev
  obtain ⟨t, body, reads⟩ := bd cdv A up s H vs Q E (room.deeper _) gd want
  have J0 : Inv (cxOf CX0 P w K mg base N qual (defScope st) f cdv A up s H E) [] (start N vs) H s1 := inv_start S room.hd e0 (many _ _ _ _ want) rel ic
  refine ⟨noL.keeps ic.toInCall.keep, codeAny_func (wpAny_mono (body.nox.run [] s1 (start N vs) H _ J0 reads) (fun fl s2 end_ => ?_) fun _ _ z => z)⟩
  match fl, end_ with
  | .ret u, ⟨v, σ2, H2, J, rv, q⟩ => exact ⟨v, H2, J.os, J.bare, J.base, J.hok, rv, q⟩
  | .next, ⟨σ2, H2, J, q⟩ => exact ⟨.non, H2, J.os, J.bare, J.base, J.hok, rfl, q⟩
  | .brk, ⟨_, _, _, q⟩ => exact q.elim
  | .cont, ⟨_, _, _, q⟩ => exact q.elim
end
section
variable {X : Cx} {k : Nat} {f : Addr} {fd : FuncData} {ps : List Str} {sp : Sp} {dvs : List V} {ds : List Value} {E : XK} {x : Str} {p pos : Pos} {e : Expr} {es : List Expr} {t : TA}
theorem runG {pins : List (Addr × Obj)} {σ : L2.St} {H : Hp} {s : Shared} {Q : VK} {us : List Value} {vs : List V} (F : FnG X.prog X.w X.K X.mg X.base k f fd ps sp) (room : Room k X.A) (gd : X.A.guards = some []) (hb : Binds X.K fd ps ds) (dv : Vals dvs ds)
    (J : Inv X pins σ H s) (rel : Vals vs us) (want : sp (vs ++ dvs) H Q E) : wpAny (model X.prog X.w) X.A (call (.ref f) us) (EP X pins σ Q) X.xe s := by
  have rel2 := rel.append dv
  have len2 : (us ++ ds).length = ps.length := rel2.length ▸ F.many _ _ _ _ want
  refine wpAny_call (codeAny_mono (F.goes X.A X.stack s H ⟨us, []⟩ _ _ Q E room gd J.env0 (hb s us J.kIn len2) rel2 want) fun r s2 hq => ?_)
  match r, hq with
  | .error _, hq => exact hq.elim
  | .ok (.ret u), hq => exact J.after hq
/-- f(e, ..), f a def that shows values -/
theorem pe_callG (F : FnG X.prog X.w X.K X.mg X.base k f fd ps sp) (room : Room k X.A) (gd : X.A.guards = some []) (hg : Gl X x) (hm : X.mg x = some (.ref f)) (kp : PySem.W.keepIn X.K (.ref f) = true) (hb : Binds X.K fd ps ds) (dv : Vals dvs ds)
    (ha : PA X (e :: es) t) (hdb : (x == ("__debug__" : Str)) = false := by decide) (hst : starEach (e :: es) X.env = (false, eval e X.env) :: starEach es X.env := by rfl) (hno : (backTo pos (starEach es X.env)).any (·.1) = false := by rfl) :
    PE X (.Call (.Name x p) (e :: es) [] pos) (tCall sp dvs E t) := by
  refine ⟨fun pins s σ H Q J want => wpAny_Call_Name_kw (ld_glob J hg hm (PySem.W.callWith_K (h₀ := X.base) J.ok.mod.kin kp ?_ hst hno) hdb)⟩
  exact thn (ha.run pos pins s σ H _ J want) fun us s1 ⟨vs, H1, J1, rel, q⟩ => ⟨J1.kIn, runG F room gd hb dv J1 rel q⟩
/-- repr(x), x a list, a tuple .. of data -/
def rRepr (K : PySem.W.Frag) : List V → Hp → VK → Prop := fun vs H Q => ∃ (a : Addr) (d : PyData), vs = [.ref a] ∧ Dp K H (.ref a) d ∧ d.showable = true ∧ d.hasDict = false ∧ d.depth ≤ 60 ∧ d.shown.length ≤ sizeLine ∧ Q (.str d.shown) H
theorem cr_repr (gd : X.A.guards = some []) (hu : X.A.units + 64 < cLine) : CallR X (.builtin "repr") (rRepr X.K) := by
  intro pins s σ H vs us Q J rel h
  obtain ⟨a, d, rfl, hd, h1, h2, h3, h4, q⟩ := h
  obtain ⟨u, rfl, ru⟩ := vals1 rel
  obtain ⟨as, rd⟩ := Dp.reads J d _ u hd ru
  obtain rfl : u = Value.ref a := ru
  exact repr_of_reads' rd h1 (fun z => by rw [h2] at z; cases z) gd (by omega) (fun _ _ z => z) (fun h' u tk hk => ⟨.str d.shown, H, J.kept (t' := tk) hk, ⟨_, rfl⟩, q⟩) h4
theorem cr_reprK {K : PySem.W.Frag} (h : X.K = K) (gd : X.A.guards = some []) (hu : X.A.units + 64 < cLine) : CallR X (.builtin "repr") (rRepr K) := by subst h; exact cr_repr gd hu
end
/-! ### the law's end -/
section
variable {P : Program} {w : World} {K : PySem.W.Frag} {mg mb : Str → Option Value} {k : Nat} {fa a : Addr} {fd : FuncData} {x : Str} {sp : Sp} {s1 : Shared} {vs : List Value} {ns : List Int}
/-- the law's call in an abstract heap where the script alone may be tracked -/
theorem goes_in {H : Hp} (inK : K.In s1.heap) (nsm : s1.heap.Ns mainGlobals mg) (nsb : s1.heap.Ns builtinsNs mb) (boot : ∀ y : Str, y ≠ "__name__" → mb y = bootBuiltins y) (noL : s1.heap.NoLimit) (gens : s1.gens = #[])
    (scr : s1.heap.get? a = some { cls := .type "list", data := .seq vs.toArray }) (room : Room k callerA) (F : ∀ base : Heap, K.In base → base.Ns mainGlobals mg → FnG P w K mg base k fa fd [x] sp) (bnd : ∀ (s : Shared) (u : Value), BindsTo s fd ⟨[u], []⟩ [(x, u)])
    (want : sp [.ref a] H (fun v _ => v = .bl true) fun _ _ _ => False) (hok : HOk P w H s1.heap) (only : ∀ b, H b = none ∨ (b = a ∧ K.lookup a = none ∧ ∃ ob xs, H b = some (.frz ob (.lst xs)))) :
    codeAny (model P w) callerA (.call (.ref fa) ⟨[.ref a], []⟩) (fun r s2 => r = .ok (.ret (.bool true)) ∧ OldK s1.heap s2.heap ∧ s2.os = s1.os ∧ AllBare s2.gens) s1 := by
  have hid : ∀ {b : Addr} {o : Obj}, s1.heap.get? b = some o → (b = a → K.lookup a ≠ none) → (hidT s1.heap H).get? b = some o := fun {b o} eb nb => by
    refine hidT_get eb ?_
    rcases only b with z | ⟨z1, z2, _⟩
    · exact z
    · exact absurd z2 (nb z1)
  have hidD : ∀ {b : Addr} {m : Str → Option Value}, s1.heap.Ns b m → (hidT s1.heap H).Ns b m := by
    rintro b m ⟨o, es, ep, eo, dat, rest⟩
    refine ⟨o, es, ep, hidT_get eo ?_, dat, rest⟩
    rcases only b with z | ⟨z1, _, _⟩
    · exact z
    · rw [z1, scr] at eo
      obtain rfl := Option.some.inj eo
      exact absurd dat (by simp)
  have inB : K.In (hidT s1.heap H) := fun b o eb => hid (inK b o eb) fun ba => by rw [← ba, eb]; simp
  obtain ⟨mc, nc1, nc2⟩ := noL
  have e0 : Env0 P w K mg (hidT s1.heap H) callerA [] s1 H := { frames := rfl, mod := ⟨inB, hidD nsm, ⟨mb, hidD nsb, boot⟩, ⟨mc, hidD nc1, nc2⟩⟩, bs := fun b o eb => of_hidT eb, bsz := Nat.le_of_eq (hidT_size _ _), funs := trivial, frf := (fun b hb => absurd hb (by simp [frs])), hok := hok, bare := .of_eq gens }
  refine codeAny_mono ((F _ inB (hidD nsm)).goes callerA [] s1 H ⟨[.ref a], []⟩ [.ref a] [.ref a] _ _ room rfl e0 (bnd s1 (.ref a)) (.cons rfl .nil) want) fun r s2 end_ => ?_
  match r, end_ with
  | .error _, end_ => exact end_.elim
  | .ok (.ret u), ⟨v, H2, os, bare, un, hok2, rv, q⟩ =>
    have q : v = .bl true := q
    subst q
    obtain rfl : u = Value.bool true := rv
    refine ⟨rfl, OldK.of_keep fun b o eb => ?_, os, bare⟩
    rcases only b with z | ⟨_, _, ob, xs, z⟩
    · exact un.keep b o eb z (fun y => by cases y) (by simp)
    · obtain ⟨y1, _⟩ := hok b _ z
      obtain ⟨y2, _⟩ := hok2 b _ (un.frzs b ob _ z)
      rw [y1] at eb
      obtain rfl := Option.some.inj eb
      exact y2
theorem goes_law (inK : K.In s1.heap) (nsm : s1.heap.Ns mainGlobals mg) (nsb : s1.heap.Ns builtinsNs mb) (boot : ∀ y : Str, y ≠ "__name__" → mb y = bootBuiltins y) (noL : s1.heap.NoLimit) (gens : s1.gens = #[])
    (scr : s1.heap.get? a = some { cls := .type "list", data := .seq vs.toArray }) (are : IntsAre vs ns) (few : ns.length ≤ sizeLine) (room : Room k callerA) (F : ∀ base : Heap, K.In base → base.Ns mainGlobals mg → FnG P w K mg base k fa fd [x] sp) (bnd : ∀ (s : Shared) (u : Value), BindsTo s fd ⟨[u], []⟩ [(x, u)])
    (want : ∀ H : Hp, Only H → SqL K H a (ns.map V.int) → sp [.ref a] H (fun v _ => v = .bl true) fun _ _ _ => False) :
    codeAny (model P w) callerA (.call (.ref fa) ⟨[.ref a], []⟩) (fun r s2 => r = .ok (.ret (.bool true)) ∧ OldK s1.heap s2.heap ∧ s2.os = s1.os ∧ AllBare s2.gens) s1 := by
  have rel := vals_ints are
  by_cases own : K.lookup a = none
  · have at_ : (if a = a then some (HO.frz { cls := .type "list", data := .seq vs.toArray } (.lst (ns.map V.int))) else none) = some (HO.frz { cls := .type "list", data := .seq vs.toArray } (.lst (ns.map V.int))) := if_pos rfl
    refine goes_in (H := fun b => if b = a then some (.frz { cls := .type "list", data := .seq vs.toArray } (.lst (ns.map V.int))) else none) inK nsm nsb boot noL gens scr room F bnd (want _ (fun b => ?_) (.inl (.inr ⟨_, at_⟩))) (fun b u hb => ?_) fun b => ?_
    · by_cases c : b = a
      · exact .inr ⟨_, _, if_pos c⟩
      · exact .inl (if_neg c)
    · by_cases c : b = a
      · subst c
        obtain rfl := Option.some.inj (at_.symm.trans hb)
        exact ⟨scr, by rw [List.length_map]; exact few, vs, _, rel, scr⟩
      · exact absurd ((if_neg c).symm.trans hb) (by simp)
    · by_cases c : b = a
      · exact .inr ⟨c, own, _, _, if_pos c⟩
      · exact .inl (if_neg c)
  · obtain ⟨o, eo⟩ := Option.ne_none_iff_exists'.mp own
    have same := (inK a o eo).symm.trans scr
    obtain rfl := Option.some.inj same
    exact goes_in (H := fun _ => none) inK nsm nsb boot noL gens scr room F bnd (want _ (fun _ => .inl rfl) (.inr ⟨_, vs.toArray, _, eo, rfl, rfl, rfl, by rw [List.size_toArray, are.length]; exact few, by simpa using rel⟩)) (fun b u hb => by cases hb) fun b => .inl rfl
end
theorem walk_ofBG {l : PySem.W.OpenLaw} {n k : Nat} {q : Program} {loose : List Str} {XP : (Str → Option Value) → Heap → Prop} {YP : World → Heap → Prop} {d : DefRec} {K : Params → PySem.W.Frag} {sp : World → Sp} {x : Str}
    (hn : l.most = some n) (hn2 : n ≤ sizeLine) (hdf : d.params.defaults = []) (room : Room k callerA) (inK : ∀ (w : World) (h : Heap), YP w h → (K w.params).In h)
    (F : ∀ (w : World) (mg : Str → Option Value) (fa : Addr) (h : Heap), (K w.params).In h → h.Ns mainGlobals mg → mg d.name = some (.ref fa) →
      ∃ fd : FuncData, (∀ (s : Shared) (u : Value), BindsTo s fd ⟨[u], []⟩ [(x, u)]) ∧ ∀ base : Heap, (K w.params).In base → base.Ns mainGlobals mg → FnG l.prog w (K w.params) mg base k fa fd [x] (sp w))
    (want : ∀ (w : World) (H : Hp) (a : Addr) (ns : List Int), ns.length ≤ n → (∀ z ∈ ns, Builtin.Int.intBits z ≤ 1048576) → Only H → SqL (K w.params) H a (ns.map V.int) → sp w [.ref a] H (fun v _ => v = .bl true) fun _ _ _ => False) :
    PySem.W.WalkO q loose XP YP l.row.toRowW d [] (fun f vs => PySem.call f vs) := by
  refine Att.attach_callB hn hdf fun w s0 s1 mg mb fa o pm cd doc a vs ns G Y _ _ _ hm scr are few bits gens => ?_
  obtain ⟨fd, bnd, FG⟩ := F w mg fa _ (inK w _ Y) G.T.g hm
  exact goes_law (inK w _ Y) G.T.g G.T.b G.T.builtins G.T.nolimit gens scr are (Nat.le_trans few hn2) room FG bnd fun H on sq => want w H a ns few bits on sq
theorem walk_ofBEG {l : PySem.W.OpenLaw} {n k : Nat} {q : Program} {loose : List Str} {XP : (Str → Option Value) → Heap → Prop} {YP : World → Heap → Prop} {d : DefRec} {x : Str}
    (hn : l.most = some n) (hn2 : n ≤ sizeLine) (hdf : d.params.defaults = []) (room : Room k callerA)
    (F : ∀ (w : World) (mg : Str → Option Value) (fa : Addr) (h : Heap), YP w h → h.Ns mainGlobals mg → mg d.name = some (.ref fa) →
      ∃ (K : PySem.W.Frag) (fd : FuncData) (sp : Sp), K.In h ∧ (∀ (s : Shared) (u : Value), BindsTo s fd ⟨[u], []⟩ [(x, u)]) ∧
        (∀ (H : Hp) (a : Addr) (ns : List Int), ns.length ≤ n → (∀ z ∈ ns, Builtin.Int.intBits z ≤ 1048576) → Only H → SqL K H a (ns.map V.int) → sp [.ref a] H (fun v _ => v = .bl true) fun _ _ _ => False) ∧
        ∀ base : Heap, K.In base → base.Ns mainGlobals mg → FnG l.prog w K mg base k fa fd [x] sp) :
    PySem.W.WalkO q loose XP YP l.row.toRowW d [] (fun f vs => PySem.call f vs) := by
  refine Att.attach_callB hn hdf fun w s0 s1 mg mb fa o pm cd doc a vs ns G Y _ _ _ hm scr are few bits gens => ?_
  obtain ⟨K, fd, sp, inK, bnd, want, FG⟩ := F w mg fa _ Y G.T.g hm
  exact goes_law inK G.T.g G.T.b G.T.builtins G.T.nolimit gens scr are (Nat.le_trans few hn2) room FG bnd fun H on sq => want H a ns few bits on sq
end Cs

/-! De: max(d.values()) of a dict with tuples as keys and ints as values. -/
namespace Cs
open PySem PySem.Spec PyProof.Rows L2
section
variable {X : Cx}
theorem kt_at {H : Hp} : ∀ {kvs : List (List Key × V)} {xs : List (List Key × Addr × Value)}, KT H kvs xs → ∀ {i : Nat} {y : List Key × Addr × Value}, xs[i]? = some y → ∃ x, kvs[i]? = some (y.1, x) ∧ RelV x y.2.2
  | _, _, .nil, _, _, h => by simp at h
  | _, _, .cons (a := a) (b := b) h t, 0, y, e => by
    obtain rfl := Option.some.inj e
    obtain ⟨e1, _, e3⟩ := h
    exact ⟨a.2, congrArg some (Prod.ext e1 rfl), e3⟩
  | _, _, .cons h t, i + 1, y, e => kt_at t (i := i) (by simpa using e)
theorem kt_len {H : Hp} : ∀ {kvs : List (List Key × V)} {xs : List (List Key × Addr × Value)}, KT H kvs xs → kvs.length = xs.length
  | _, _, .nil => rfl
  | _, _, .cons _ t => by rw [List.length_cons, List.length_cons, kt_len t]
/-- max(o.values()) -/
def tMaxVals (td : TE) : TE := fun σ H Q => td σ H fun x H1 => ∃ (a : Addr) (kvs : List (List Key × V)) (is : List Int), x = .ref a ∧ H1 a = some (.dT kvs) ∧ kvs.map (·.2) = is.map V.int ∧ is ≠ [] ∧ ∀ m, m ∈ is → (∀ j ∈ is, j ≤ m) → Q (.int m) H1
theorem pe_maxVals {o : Expr} {p pos apos mpos : Pos} {td : TE} (calm : X.calm = true) (hg : Gl X "max") (hm : X.mg "max" = none) (hd : PE X o td) (hbase : attributeBase o "values" X.env (eval o X.env) = eval o X.env := by rfl) (hline : (apos.endLine == mpos.line) = true := by rfl)
    (hse : starEach [Expr.Call (.Attribute o "values" apos) [] [] mpos] X.env = [(false, eval (Expr.Call (.Attribute o "values" apos) [] [] mpos) X.env)] := by rfl) :
    PE X (.Call (.Name "max" p) [.Call (.Attribute o "values" apos) [] [] mpos] [] pos) (tMaxVals td) := by
  refine ⟨fun pins s σ H Q J want => wpAny_Call_Name_kw (ld_blt J hg hm (u := .builtin "max") (by first | rfl | decide +kernel) ?_ (by first | decide +kernel | decide) (by first | decide +kernel | decide))⟩
  rw [hse]
  refine PySem.callWith_builtin1 (wpAny_Call_method0_late hbase hline (thn (hd.run pins s σ H _ J want) fun v s1 ⟨x, H1, J1, rel, a, kvs, is, ex, ha, hv, hne, q⟩ => ?_))
  subst ex
  obtain rfl : v = Value.ref a := rel
  obtain ⟨_, hsys, xs, kt, dh⟩ := dt_of J1.hok ha
  obtain ⟨es, ep, raw, hsz, hes⟩ := dh.raw
  obtain ⟨ob, hob, cl, dat⟩ := id raw
  have ty : s1.TypeIs (.ref a) "dict" := ⟨ob, hob, cl.1⟩
  refine ⟨"dict", "dict.values", F.plainAttrs_dict, F.slot_dict_values, F.type_dict_values, ty, fun b e => ?_, Calls.callWith_builtin rfl (PySem.evalArgs_none (call_meetsIn F.slot_dict_values ty F.entry_dict_values (F.args_dict_values_1 _) (meets_dict_values_raw a hsys) ⟨⟨es, ep, raw⟩, ?_⟩))⟩
  · cases e
    exact ⟨ob, hob, cl.2.1⟩
  have hlt : a < s1.heap.objs.size := Heap.lt_size hob
  have old1 : ∀ b u, s1.heap.get? b = some u → (s1.heap.push { cls := .type "dict_values", data := .fields #[.ref a] }).get? b = some u := fun b u e => Heap.get?_push_of_some _ e
  have raw1 := raw.at fun u e => old1 a u e
  have hsz1 : (s1.heap.push { cls := .type "dict_values", data := .fields #[.ref a] }).objs.size = s1.heap.objs.size + 1 := Heap.size_push _ _
  have hkl : es.size = is.length := by
    have l1 := kt_len kt
    have l2 := congrArg List.length hv
    rw [List.length_map, List.length_map] at l2
    omega
  have hval : ∀ (i : Nat) (v : Value), (∃ hi : i < es.size, v = es[i].val) → ∃ t, v = Value.int (is.getD i 0) t := by
    rintro i v ⟨hi, rfl⟩
    obtain ⟨y, hy, _, e2, _⟩ := hes i hi
    obtain ⟨x, hx, rx⟩ := kt_at kt hy
    have e3 : (kvs.map (·.2))[i]? = some x := by rw [List.getElem?_map, hx]; rfl
    rw [hv, List.getElem?_map] at e3
    obtain ⟨j, hj, rfl⟩ := Option.map_eq_some_iff.mp e3
    obtain ⟨t, e4⟩ := rx
    exact ⟨t, by rw [e2, e4, List.getD_eq_getElem?_getD, hj]; rfl⟩
  refine call_max_walk (wpAny_pyIter_values_raw (v := s1.heap.objs.size) (d := a) ⟨_, Heap.get?_push_size _ rfl, rfl, rfl⟩ raw1 ?_)
  refine ⟨_, _, _, _, _, _, _, rfl, Walks.rawValues (A := X.A.in1) (J.ok.hd calm) _ a (by rw [hsz1]; exact Nat.ne_of_lt (Nat.lt_succ_of_lt hlt)) es ep,
    ⟨⟨_, Heap.get?_push_size _ rfl, rfl, rfl⟩, raw1.at fun u e => Heap.get?_push_of_some _ e⟩, fun b hb => ?_, by rw [hkl]; exact List.length_pos_iff.mpr hne, CmpOf.ints_gt (fun i => is.getD i 0) hval, fun v h' tk hP hk => ?_⟩
  · rw [Heap.size_push, hsz1]
    rcases List.mem_cons.mp hb with z | hb
    · rw [z, hsz1]
      exact Nat.lt_succ_self _
    · rw [List.mem_singleton.mp hb]
      exact Nat.lt_succ_of_lt (Nat.lt_succ_of_lt hlt)
  · obtain ⟨t, rfl⟩ := hval _ v hP
    obtain ⟨b1, b2⟩ := argBest_gt (fun i => is.getD i 0) (es.size - 1)
    have hpos := List.length_pos_iff.mpr hne
    refine ⟨.int _, H1, J1.kept (t' := tk) fun b u e => hk b u (fun hmem => ?_) (Heap.get?_push_of_some _ (old1 b u e)), ⟨t, rfl⟩, q _ (PySem.getD_mem (by omega)) fun j hj => ?_⟩
    · have e1 := List.mem_singleton.mp hmem
      have e2 := Heap.lt_size e
      rw [hsz1] at e1
      rw [e1] at e2
      exact absurd e2 (Nat.not_lt.mpr (Nat.le_succ _))
    · obtain ⟨i, hi, e⟩ := List.mem_iff_getElem.mp hj
      have e2 : is.getD i 0 = j := by rw [List.getD_eq_getElem?_getD, List.getElem?_eq_getElem hi, ← e]; rfl
      rw [← e2]
      exact b2 i (by omega)
end
end Cs

/-! Df: sorted(a tuple or a list of ints). -/
namespace Cs
open PySem PySem.Spec PyProof.Rows L2 SrtO
section
variable {prog : Program} {w : World} {A : Around} {E : Value → Shared → Prop} {s : Shared}
theorem sorted_tupI {t : Addr} {vs : List Value} {ns : List Int} {Q : Value → Shared → Prop} (ht : IsTup s.heap t vs.toArray) (hi : IntsAre vs ns) (hz : vs.length ≤ sizeLine)
    (q : ∀ (p : Addr) (h' : Heap) (out : List Value) (e : Nat), (∀ b o, s.heap.get? b = some o → h'.get? b = some o) → s.heap.get? p = none → h'.get? p = some (seqObj "list" out.toArray e) → Srtd ltIv out → Stb ltIv out vs → Q (.ref p) { s with heap := h' }) :
    wpAny (model prog w) A (call (.builtin "sorted") [.ref t]) Q E s := by
  obtain ⟨o, ho, hc, n, hd⟩ := ht
  refine Calls.call_function_entry kind_sorted plain_sorted entry_sorted (args_sorted1 _) ?_
  unfold Builtin.«sorted»
  refine wpAny_bind (m := checkCount "sorted" 1 1 _) (wpAny_pure ?_)
  refine wpAny_bind (PySem.wpAny_collect_seq t (.inr rfl) ho hc hd (fun h1 k1 => ?_) (by rw [List.size_toArray]; exact hz))
  have k12 : ∀ b o, s.heap.get? b = some o → (h1.push (seqObj "list" vs.toArray 0)).get? b = some o := fun b o e => Heap.get?_push_of_some _ (k1 b o e)
  refine wpAny_bind (wpAny_newList ?_ hz)
  have new : (h1.push (seqObj "list" vs.toArray 0)).get? h1.objs.size = some (seqObj "list" vs.toArray 0) := Heap.get?_push_size _ rfl
  refine wpAny_bind (wpAny_holding (wpAny_call_entry slot_list_sort ⟨_, new, rfl⟩ entry_list_sort (list_sort_ord swo_int new hz (fun h2 => ints_sortable hi h2) fun out hs hb => ⟨_, rfl, ?_⟩) (args_list_sort _)))
  obtain ⟨e, he⟩ := sortedHeap_at (vs := vs) (out := out.toArray) new
  have gone : s.heap.get? h1.objs.size = none := by
    cases c : s.heap.get? h1.objs.size with
    | none => rfl
    | some u => exact absurd (Heap.lt_size (k1 _ _ c)) (Nat.lt_irrefl _)
  refine wpAny_pure ⟨_, rfl, q h1.objs.size _ out e (fun b u eb => ?_) gone he hs hb⟩
  have lt := Heap.lt_size (k1 _ _ eb)
  refine (sortedHeap_old (Nat.ne_of_lt lt) ?_).trans (k12 b u eb)
  rw [size_push']
  exact Nat.lt_succ_of_lt lt
end
/-- sorted(xs), xs a list or a tuple of ints -/
def rSortedQ (K : PySem.W.Frag) : List V → Hp → VK → Prop := fun vs H Q => ∃ (a : Addr) (ns : List Int), vs = [V.ref a] ∧ (SqL K H a (ns.map V.int) ∨ SqT K H a (ns.map V.int)) ∧
  ∀ (ns' : List Int) (p : Addr), ns'.Perm ns → ns'.Pairwise (· ≤ ·) → H p = none → Q (.ref p) (upd H p (.lst (ns'.map V.int)))
section
variable {X : Cx}
theorem cr_sortedQ : CallR X (.builtin "sorted") (rSortedQ X.K) := by
  intro pins s σ H vs us Q I r h
  obtain ⟨a, ns, rfl, hs | hs, q⟩ := h
  · exact cr_sortedI pins s σ H _ us Q I r ⟨a, ns, rfl, hs, q⟩
  obtain ⟨its, rv, ht, hz⟩ := I.tuple hs
  rw [Vals.ref1 r]
  have hi := rv.ints
  refine sorted_tupI ht hi (by rw [← rv.length]; exact hz) fun p h' out e k hp he h1 h2 => ?_
  obtain ⟨k1, k2, k3⟩ := ints_out hi h1 h2
  have hlen : ((out.map iv).map V.int).length ≤ sizeLine := by
    rw [List.length_map, k2.length_eq]
    rw [List.length_map] at hz
    exact hz
  have hn := I.hok.gone hp
  exact ⟨.ref p, upd H p (.lst ((out.map iv).map V.int)), I.laidN (t' := s.toks) k hp hn ⟨hlen, out, e, vals_of_ints k1, he⟩, rfl, q _ _ k2 k3 hn⟩
end
end Cs

/-! Dg: d.update(list of pairs), d with ints or texts as keys. -/
namespace Cs
open PySem PySem.Spec PyProof.Rows L2
section
variable {X : Cx}
theorem pairs_qs {pins : List (Addr × Obj)} {σ : L2.St} {H : Hp} {s : Shared} (I : Inv X pins σ H s) : ∀ {ps : List Addr} {kvs : List (Key × V)}, Paired (fun p kv => SqT X.K H p [kV kv.1, kv.2]) ps kvs →
    ∃ (prs : List (Key × Value)) (qs : List (Value × Value)), KV kvs prs ∧ prs.length = ps.length ∧ qs.length = ps.length ∧ ∀ (j : Nat) u y, qs[j]? = some (u, y) → ∃ k b, prs[j]? = some (k, y) ∧ keyIs k u = true ∧ ps[j]? = some b ∧ IsTup s.heap b #[u, y]
  | _, _, .nil => ⟨[], [], .nil, rfl, rfl, fun j u y e => by simp at e⟩
  | _, _, .cons (a := p) (b := kv) h t => by
    obtain ⟨prs, qs, r, l1, l2, hp⟩ := pairs_qs I t
    obtain ⟨its, rv, ht, _⟩ := I.tuple h
    obtain ⟨u, y, rfl, ru, ry⟩ := vals2 rv
    refine ⟨(kv.1, y) :: prs, (u, y) :: qs, .cons ⟨rfl, ry⟩ r, congrArg (· + 1) l1, congrArg (· + 1) l2, fun j u' y' e => ?_⟩
    cases j with
    | zero =>
      obtain ⟨rfl, rfl⟩ := Prod.mk.inj (Option.some.inj e)
      exact ⟨kv.1, p, rfl, kV_is (P := X.prog) (w := X.w) ru, rfl, ht⟩
    | succ j => exact hp j u' y' e
/-- what d.update(l) asks: l a list of pairs -/
def rUpdP (K : PySem.W.Frag) : V → List V → Hp → VK → Prop := fun x xs H Q => ∃ (a b : Addr) (kvs : List (Key × V)) (ps : List Addr) (more : List (Key × V)), x = .ref a ∧ xs = [.ref b] ∧ H a = some (.dK kvs) ∧ SqL K H b (ps.map V.ref) ∧ Paired (fun p kv => SqT K H p [kV kv.1, kv.2]) ps more ∧
  kvs.length + more.length ≤ sizeLine ∧ Q .non (upd H a (.dK (mergeK kvs more)))
theorem mt_updP (hcalm : X.calm = true) : MtR X "dict.update" (rUpdP X.K) := by
  intro pins s σ H x xs v us Q I rx rxs h
  obtain ⟨a, b, kvs, ps, more, rfl, rfl, ha, hb, hp, hz, q⟩ := h
  cases rx
  obtain ⟨u, rfl, r1⟩ := vals1 rxs
  cases r1
  obtain ⟨z, hd, xs', rel, dd⟩ := dk_of I.hok ha
  obtain ⟨its, rv, pl, hz2⟩ := I.list hb
  obtain rfl := refs_at rv
  obtain ⟨prs, qs, rp, l1, l2, hq⟩ := pairs_qs I hp
  obtain ⟨o, n, ho, hc, hdi, hdat⟩ := id pl
  obtain ⟨od, ed, epd, hod, hex, _⟩ := id dd
  have hab : a ≠ b := fun e => by
    subst e
    rw [ho] at hod
    obtain rfl := Option.some.inj hod
    rw [hex.1] at hc
    simp at hc
  have e1 := rel.length
  have e2 := rp.length
  have hPI : PairItems s.heap (ps.map Value.ref).toArray (fun j => ps.getD j 0) qs := by
    refine ⟨by simp [l2], fun j k y e => ?_⟩
    obtain ⟨k', b', h1, h2, h3, h4⟩ := hq j k y e
    refine ⟨by simp [List.getD_eq_getElem?_getD, h3], .inl ?_⟩
    show s.heap.IsTuple (ps.getD j 0) #[k, y]
    rw [List.getD_eq_getElem?_getD, h3]
    exact h4
  refine call_update_pairs (knd := mixKind X.prog X.w) (acc := xs') (kvs := prs) (PairArg.list b (ps.map Value.ref).toArray (fun j => ps.getD j 0) qs) (I.ok.hd hcalm) ⟨⟨o, n, ho, hc, hdi, hdat⟩, hPI⟩ (fun hm => ?_) ⟨by rw [l1, l2], fun i key y e => ?_⟩ dd (by rw [l2, ← l1]; omega) fun h' tk dd' k => ?_
  · rcases List.mem_cons.mp hm with e | hm
    · exact hab e
    · obtain ⟨j, hj, e⟩ := List.mem_map.mp hm
      have e : ps.getD j 0 = a := e
      have th : ∃ o2, s.heap.get? (ps.getD j 0) = some o2 ∧ (o2.cls = .type "tuple" ∨ o2.cls = .type "list") := by
        have hj2 := List.getElem?_eq_getElem (List.mem_range.mp hj)
        obtain ⟨_, b', _, _, h3, ⟨o2, q1, q2, _⟩⟩ := hq j _ _ hj2
        exact ⟨o2, by rw [List.getD_eq_getElem?_getD, h3]; exact q1, .inl q2⟩
      obtain ⟨o2, ho2, hc2⟩ := th
      rw [e, hod] at ho2
      obtain rfl := Option.some.inj ho2
      rw [hex.1] at hc2
      rcases hc2 with h | h <;> simp at h
  · obtain ⟨k', b', h1, h2, h3, h4⟩ := hq i key y e
    exact ⟨k', h1, h2⟩
  · obtain ⟨o2, es2, ep2, g1, g2⟩ := id dd'
    have I2 : Inv X pins σ (upd H a (.dK (mergeK kvs more))) { s with heap := h', toks := tk } :=
      I.write (x := a) (e := a) (by rw [ha]; exact True.intro) (.inl rfl) (fun b u hb z => k b u hb (by simp) z) ⟨o2, g1⟩
        (show ObjOk X.prog X.w _ _ _ (.dK (mergeK kvs more)) from ⟨Nat.le_trans (length_mergeK more kvs) hz, hd, merged xs' prs, KV.merge rp rel, dd'⟩)
    exact ⟨.non, _, I2, rfl, q⟩
def tUpdP (K : PySem.W.Frag) (to : TE) (t : TA) : TE := fun σ H Q => to σ H fun x H1 => (∃ a, x = V.ref a ∧ IsD H1 a) ∧ t σ H1 fun xs H2 => rUpdP K x xs H2 Q
variable {o e : Expr} {to : TE} {t : TA} {apos cpos : Pos}
theorem pe_updP {K : PySem.W.Frag} (hK : X.K = K) (hcalm : X.calm = true) (ho : PE X o to) (ha : PA X [e] t)
    (hb : attributeBase o "update" X.env (eval o X.env) = eval o X.env := by rfl)
    (hf : ((backTo cpos (starEach [e] X.env)).all (fun x => !x.1) && (backToKw cpos (keywordEach [] X.env)).all (fun x => x.1.isSome) && decide (([e] : List Expr).length + ([] : List Keyword).length + (if ([] : List Keyword).isEmpty then 0 else 1) < 30)) = true := by rfl)
    (hl : (apos.endLine == cpos.line) = true := by rfl) (hs : starEach [e] X.env = (false, eval e X.env) :: starEach [] X.env := by rfl) :
    PE X (.Call (.Attribute o "update" apos) [e] [] cpos) (tUpdP K to t) := by
  subst hK
  refine ⟨fun pins s σ H Q I h => wpAny_Call_method_late hb hf hl rfl (thn (ho.run pins s σ H _ I h) fun v s1 ⟨x, H1, I1, r1, ty, q1⟩ => ?_)⟩
  obtain ⟨a, rfl, hd⟩ := ty
  have ⟨t1, t2, _⟩ := isD_at I1 hd
  cases r1
  have hA := ha.run cpos pins s1 σ H1 _ I1 q1
  rw [hs] at hA
  refine ⟨"dict", "dict.update", PySem.F.plainAttrs_dict, PySem.F.slot_dict_update, PySem.F.type_dict_update, t1, t2, ?_⟩
  rw [hs]
  exact Calls.callWith_builtin rfl (Calls.evalArgs_plain (thn hA fun us s2 ⟨vs, H2, I2, r2, q2⟩ => mt_updP hcalm pins s2 σ H2 (.ref a) vs (.ref a) us Q I2 rfl r2 q2))
end
end Cs

/-! Dh: {k: v for target in iter}, k tuples: a new dict with tuple keys. -/
namespace Cs
open PySem PySem.Spec PyProof.Rows L2
section
variable {X : Cx}
/-- a key that is a tuple is put into the new dict -/
theorem put_tup {ps : List (Addr × Obj)} {τ : L2.St} {G : Hp} {t : Shared} {Er : Value → Shared → Prop} {d b : Addr} {old : List (List Key × V)} {ks : List Key} {y : V} {u : Value} {R : Unit → Shared → Prop} (hu : X.A.units + 1 < cLine) (J : Inv X ps τ G t) (ed : G d = some (.dT old)) (few : old.length < sizeLine)
    (eb : G b = some (.tup (ks.map kV))) (ry : RelV y u) (go : ∀ t', Inv X ps τ (upd G d (.dT (putK old ks y))) t' → R () t') : wpAny (model X.prog X.w) X.A (dictSet d (.ref b) u) R Er t := by
  obtain ⟨_, hsys, xs, rel, dd⟩ := dt_of J.hok ed
  have hx : xs.length ≤ sizeLine := by rw [← Paired.length rel]; omega
  refine wpAny_dictSet_heap (knd := tupleKind (mixKind X.prog X.w)) (show X.A.units < cLine by omega) (key_of J.hok eb) dd (fun h' dd' hs => go _ ?_) hx
  obtain ⟨o, es, ep, hq, h2, h3, h4, _, h5⟩ := dd'
  have hl : (putK old ks y).length ≤ sizeLine := by have := length_putK old ks y; omega
  refine d_write J (by rw [ed]; exact True.intro) hs ⟨o, hq⟩ ⟨hl, hsys, storedH xs ks b u, ?_, o, es, ep, hq, h2, h3, h4, h5⟩
  exact (KT.put rel ks eb ry).keeps fun c ys ec => (by rw [upd_ne (ne_of ec ed (fun z => nomatch z))]; exact ec)
/-- {k: v for target in iter}: tk gives tuples; W by the turn and a measure, as in tDc -/
def tDcT (wi : TI) (g : TG) (tk tv : TE) (vs : List Nat) : TE := fun τ G R => wi τ G fun J G1 => ∀ d, G1 d = none → ∃ W : Nat → Nat → Hp → Prop, (∃ m, W 0 m (upd G1 d (.dT []))) ∧ ∀ i m G2, W i m G2 →
  (J.stop i G2 ∧ R (.ref d) G2) ∨ (J.go i G2 ∧ ∃ Nx : Hp → Prop, (∀ G3, Nx G3 → ∃ m', m' < m ∧ W (i + 1) m' G3) ∧ ∀ x G3, J.yld i G2 x G3 → g x (wipe τ vs) G3 fun τ4 G4 => wipe τ4 vs = wipe τ vs ∧
    tk τ4 G4 fun y G5 => tv τ4 G5 fun z G6 => ∃ b old ks, y = .ref b ∧ G6 b = some (.tup (ks.map kV)) ∧ G6 d = some (.dT old) ∧ old.length < sizeLine ∧ Nx (upd G6 d (.dT (putK old ks z))))
theorem dcT_core {ps : List (Addr × Obj)} {t : Shared} {τ : L2.St} {G : Hp} {R : VK} {kx vx tg iter : Expr} {scope : Scope} {own : List (Str × Nat)} {pos pos' : Pos} {wi : TI} {g : TG} {tk tv : TE} {use : Option (Value → Sem Unit)} {Qf : Value → Shared → Prop} (calm : X.calm = true) (hu : X.A.units + 1 < cLine) (nd : X.N.Nodup) (J0 : Inv X ps τ G t) (hi : PI X tg iter wi) (ok : BlkOk X.N X.env.scope scope own)
    (hg : ∀ (t : Shared) (G : Hp) (c : Addr) (cl : List (Str × Addr)) (fp : List Addr), PG (X.blk t G scope (compEnvC scope cl c X.env) fp) tg g)
    (hk : ∀ (t : Shared) (G : Hp) (c : Addr) (cl : List (Str × Addr)) (fp : List Addr), PE (X.blk t G scope (compEnvC scope cl c X.env) fp) kx tk)
    (hv : ∀ (t : Shared) (G : Hp) (c : Addr) (cl : List (Str × Addr)) (fp : List Addr), PE (X.blk t G scope (compEnvC scope cl c X.env) fp) vx tv) (hf : ∀ x, foldedSetIterable iter X.env x = pure x) (want : tDcT wi g tk tv (own.map (·.2)) τ G R)
    (fin : ∀ d c t' m G', Inv X ps τ G' t' → R (.ref d) G' → t'.heap.Ns c m → FpOk X ps G' c → compPost (model X.prog X.w) X.A X.xe use Qf (.ref d) c (.ok .next) t') :
    wpAny (model X.prog X.w) X.A (comprehension (.DictComp kx vx [⟨tg, iter, [], 0⟩] scope pos) scope X.env pos' newDict false (eval iter X.env) use) Qf X.xe t := by
  have hfree : ∀ y ∈ scope.names, y.2 = .free → ∃ c, X.env.cells.lookup y.1 = some c := fun y hy e => (ok.free y hy e).elim (fun k => J0.ok.has _ (.inl k)) fun k => J0.ok.has _ (.inr k)
  refine wpAny_comprehension_free (use := use) rfl hf (closure_ok hfree) ok.kind (fun y hy e => by rw [ok.uniq y hy, e]) (thn (hi.run ps t τ G _ J0 want) fun xv t1 hx => thn hx fun itv t2 h2 => ?_)
  obtain ⟨it, fp, tn, It, G2, rfl, J2, T, st2, f2, q⟩ := h2
  refine wpAny_newObj_type (newEnv_comp ?_)
  generalize ed : t2.heap.objs.size = d
  obtain ⟨W, ⟨m0, w0⟩, turn⟩ := q d (J2.hok.fresh (Nat.le_of_eq ed))
  generalize e3 : ({ t2 with heap := t2.heap.push { cls := .type "dict", data := .dict #[] } } : Shared) = t3
  have J3 : Inv X ps τ (upd G2 d (.dT [])) t3 := by
    rw [← e3]
    refine J2.laid (t' := t2.toks) (fun b o e => Heap.get?_push_of_some _ e) (Nat.le_of_eq ed) ?_
    rw [← ed]
    exact dt_empty t2.heap J2.big
  have hp3 : t3.heap = t2.heap.push { cls := .type "dict", data := .dict #[] } := by rw [← e3]
  have grow : ∀ b o, t2.heap.get? b = some o → t3.heap.get? b = some o := fun b o e => by
    rw [hp3]
    exact Heap.get?_push_of_some _ e
  have f3 : ∀ b ∈ fp, FpOk X ps (upd G2 d (.dT [])) b ∧ b < t3.heap.objs.size := fun b hb => by
    obtain ⟨o, e, _⟩ := T.obj _ _ st2 b hb
    have lt := Heap.lt_size e
    exact ⟨⟨by rw [upd_ne (fun z => Nat.lt_irrefl _ (by rw [z, ← ed] at lt; exact lt))]; exact (f2 b hb).1, (f2 b hb).2⟩, Heap.lt_size (grow b o e)⟩
  have st3 : tn 0 t3.heap := T.keep _ _ _ st2 fun b _ o e => grow b o e
  have J4 := block_start J3 ok nd f3
  generalize ecl : cellsFrom (t3.heap.objs.size + 1) scope.names (cloFrom X.env.cells scope.names []) = cl at J4
  have rg := hg t3 (upd G2 d (.dT [])) t3.heap.objs.size cl fp
  have rk := hk t3 (upd G2 d (.dT [])) t3.heap.objs.size cl fp
  have rv := hv t3 (upd G2 d (.dT [])) t3.heap.objs.size cl fp
  have clean : ∀ b ∈ fp, (upd G2 d (.dT [])) b = none := fun b hb => (f3 b hb).1.1
  show codeAny _ _ (.compStart (.DictComp kx vx [⟨tg, iter, [], 0⟩] scope pos) 0 (.ref it) (.ref d) (compEnvC scope cl t3.heap.objs.size X.env)) (compPost (model X.prog X.w) X.A X.xe use Qf (.ref d) t3.heap.objs.size) { t3 with heap := pushCells (t3.heap.push { cls := .type "dict", data := .dict #[] }) scope.names }
  generalize ec : compEnvC scope cl t3.heap.objs.size X.env = ce at J4 rg rk rv ⊢
  have loc : ce.locals = t3.heap.objs.size := by subst ec; rfl
  generalize eG : upd G2 d (.dT []) = G3 at J3 J4 rg rk rv w0 clean f3
  generalize e4 : ({ t3 with heap := pushCells (t3.heap.push { cls := .type "dict", data := .dict #[] }) scope.names } : Shared) = t4 at J4 ⊢
  have st4 : tn 0 t4.heap := T.keep _ _ _ st3 fun b _ o e => by
    rw [← e4]
    exact pushCells_keeps _ _ _ _ (Heap.get?_push_of_some _ e)
  have fpok : ∀ {τ' : L2.St} {G' : Hp} {t' : Shared}, Inv (X.blk t3 G3 scope ce fp) [] τ' G' t' → (∀ b ∈ fp, G' b = none) → ∀ b ∈ fp, FpOk (X.blk t3 G3 scope ce fp) [] G' b := fun J' hn b hb =>
    ⟨hn b hb, (J'.ok.exf b hb).1, J'.ok.exfs b hb, .inl hb, fun x c e => (J'.ok.exf b hb).2 x c e, fun p hp => absurd (show p ∈ ([] : List (Addr × Obj)) ++ [] from hp) (by simp)⟩
  have turns : codeAny (model X.prog X.w) X.A (.compLoop (.DictComp kx vx [⟨tg, iter, [], 0⟩] scope pos) 0 (.ref it) (.ref d) ce) (compPost (model X.prog X.w) X.A X.xe use Qf (.ref d) t3.heap.objs.size) t4 := by
    refine compLoop_anyD (fun n t' => ∃ i G', Inv (X.blk t3 G3 scope ce fp) [] (wipe τ (own.map (·.2))) G' t' ∧ tn i t'.heap ∧ (∀ b ∈ fp, G' b = none) ∧ W i n G') ?_ m0 ⟨0, G3, J4, st4, clean, w0⟩
    rintro n t5 ⟨i, G5, J5, st5, n5, w5⟩
    rcases turn i n G5 w5 with ⟨halt, done⟩ | ⟨going, Nx, less, step⟩
    · refine thnF (T.done (X.blk t3 G3 scope ce fp) rfl rfl rfl calm i [] t5 _ G5 (fun _ _ => False) J5 (fpok J5 n5) st5 halt) fun r t6 ⟨er, J6⟩ => ?_
      subst er
      have J7 : Inv X ps τ G5 t6 := J3.call' (ch := fp) J6.os J6.base J6.hok J6.bare fun b hb => ⟨(f3 b hb).1.2.2.2.1, (f3 b hb).1.2.1, (f3 b hb).1.2.2.2.2.1, (f3 b hb).1.2.2.2.2.2⟩
      have hole : G5 ce.locals = none := J6.free
      obtain ⟨m, hm, _⟩ := J6.loc
      have hm : t6.heap.Ns ce.locals m := hm
      rw [loc] at hole hm
      exact fin d t3.heap.objs.size t6 m G5 J7 done hm (J3.fpOk (Nat.le_refl _) hole)
    · refine thnF (T.item (X.blk t3 G3 scope ce fp) rfl rfl rfl calm i [] t5 _ G5 (fun _ _ => False) J5 (fpok J5 n5) st5 going) fun r t6 ⟨u, er, h6⟩ => ?_
      subst er
      refine thnF h6 fun _ t7 ⟨x, G7, J7, r7, y7, st7, n7⟩ => ?_
      have P7 := J7.pinned (fpok J7 n7) (T.obj _ _ st7)
      refine thnF (rg.run _ t7 _ G7 x u _ P7 r7 (step x G7 y7)) fun _ t8 ⟨τ8, G8, J8, hw8, q8⟩ => ?_
      have next : ∀ {t' : Shared} {G' : Hp}, Inv (X.blk t3 G3 scope ce fp) ([] ++ pinsAt fp t7.heap) τ8 G' t' → Nx G' → ∃ m, m < n ∧ ∃ i G', Inv (X.blk t3 G3 scope ce fp) [] (wipe τ (own.map (·.2))) G' t' ∧ tn i t'.heap ∧ (∀ b ∈ fp, G' b = none) ∧ W i m G' := fun {t' G'} J' nx => by
        obtain ⟨m', lt, w'⟩ := less G' nx
        have kept : ∀ b ∈ fp, ∀ o, t7.heap.get? b = some o → t'.heap.get? b = some o ∧ G' b = none := fun b hb o e => by
          have z := J'.pin (b, o) (List.mem_append_right _ (List.mem_append_right _ (mem_pinsAt hb e)))
          exact ⟨z.1, z.2.1⟩
        refine ⟨m', lt, i + 1, G', (J'.unpinned (pins := [])).weak (by rw [← hw8, wipe_length]) (fun j v e => ?_), T.keep _ _ _ st7 fun b hb o e => (kept b hb o e).1, fun b hb => ?_, w'⟩
        · rw [← hw8] at e
          exact (wipe_some e).1
        · obtain ⟨o, e, _⟩ := T.obj _ _ st7 b hb
          exact (kept b hb o e).2
      show wpAny _ _ (forIn [] true _) _ _ t8
      refine wpAny_pure ?_
      rw [if_pos rfl]
      refine thnF (rk.run _ t8 τ8 G8 _ J8 q8) fun z9 t9 ⟨y9, G9, J9, ry9, q9⟩ => ?_
      refine thnF (rv.run _ t9 τ8 G9 _ J9 q9) fun z10 t10 ⟨y10, G10, J10, ry10, b, old, ks, ey, eb, eD, few, nx⟩ => ?_
      subst ey
      obtain rfl : z9 = Value.ref b := ry9
      exact put_tup (X := X.blk t3 G3 scope ce fp) hu J10 eD few eb ry10 fun t11 J11 => next J11 nx
  exact codeAny_compStart_dict turns (T.self X.A 0 _ _ _ st4 turns)
theorem pe_dcT {kx vx tg iter : Expr} {scope : Scope} {own : List (Str × Nat)} {pos : Pos} {wi : TI} {g : TG} {tk tv : TE} (calm : X.calm = true) (hu : X.A.units + 1 < cLine) (nd : X.N.Nodup) (hi : PI X tg iter wi) (ok : BlkOk X.N X.env.scope scope own)
    (hg : ∀ (t : Shared) (G : Hp) (c : Addr) (cl : List (Str × Addr)) (fp : List Addr), PG (X.blk t G scope (compEnvC scope cl c X.env) fp) tg g)
    (hk : ∀ (t : Shared) (G : Hp) (c : Addr) (cl : List (Str × Addr)) (fp : List Addr), PE (X.blk t G scope (compEnvC scope cl c X.env) fp) kx tk)
    (hv : ∀ (t : Shared) (G : Hp) (c : Addr) (cl : List (Str × Addr)) (fp : List Addr), PE (X.blk t G scope (compEnvC scope cl c X.env) fp) vx tv) (hf : ∀ x, foldedSetIterable iter X.env x = pure x := by intro _; rfl) :
    PE X (.DictComp kx vx [⟨tg, iter, [], 0⟩] scope pos) (tDcT wi g tk tv (own.map (·.2))) := by
  refine ⟨fun ps t τ G R J0 want => ?_⟩
  rw [arm_eval_DictComp]
  refine dcT_core calm hu nd J0 hi ok hg hk hv hf want fun d c t' m G' J q hm fo => ⟨m, hm, fun h'' sb => ?_⟩
  obtain ⟨p0, p1, _, p3, p4, p5⟩ := fo
  exact ⟨.ref d, G', J.turned (t' := t'.toks) (fun b o hb e => (sb.2 b hb).trans e) p0 p1 p3 p4 p5, rfl, q⟩
/-- name = {k: v for ..} on one line, the name a local -/
theorem ps_setDcT {i : Nat} {y : Str} {py : Pos} {kx vx tg iter : Expr} {scope : Scope} {own : List (Str × Nat)} {pos spos : Pos} {wi : TI} {g : TG} {tk tv : TE} (calm : X.calm = true) (hu : X.A.units + 1 < cLine) (nd : X.N.Nodup) (hy : X.N[i]? = some y) (loc : X.env.scope.names.lookup y = some .local)
    (sw : swapsWith (.DictComp kx vx [⟨tg, iter, [], 0⟩] scope pos) (some (.Name y py)) spos.line X.env = pure true) (hi : PI X tg iter wi) (ok : BlkOk X.N X.env.scope scope own)
    (hg : ∀ (t : Shared) (G : Hp) (c : Addr) (cl : List (Str × Addr)) (fp : List Addr), PG (X.blk t G scope (compEnvC scope cl c X.env) fp) tg g)
    (hk : ∀ (t : Shared) (G : Hp) (c : Addr) (cl : List (Str × Addr)) (fp : List Addr), PE (X.blk t G scope (compEnvC scope cl c X.env) fp) kx tk)
    (hv : ∀ (t : Shared) (G : Hp) (c : Addr) (cl : List (Str × Addr)) (fp : List Addr), PE (X.blk t G scope (compEnvC scope cl c X.env) fp) vx tv) (hf : ∀ x, foldedSetIterable iter X.env x = pure x := by intro _; rfl) :
    PS X (.Assign [.Name y py] (.DictComp kx vx [⟨tg, iter, [], 0⟩] scope pos) spos) (tAsg (tDcT wi g tk tv (own.map (·.2))) (gName i)) := by
  refine ⟨fun ps t τ G D J0 want => ?_⟩
  rw [exec_Assign_Name_used _ _ _ _ sw]
  refine wpAny_bind (wpAny_standAt (wpAny_bind ?_))
  show wpAny _ X.A (do let _ ← comprehension (.DictComp kx vx [⟨tg, iter, [], 0⟩] scope pos) scope X.env (firstIterPos [⟨tg, iter, [], 0⟩] pos) newDict false (eval iter X.env) (some (assign (.Name y py) X.env))) _ _ t
  have want : tDcT wi g tk tv (own.map (·.2)) τ G (fun x G1 => gName i x τ G1 D.nx) := want
  refine wpAny_bind (thn (dcT_core (Qf := fun _ t' => SP X ps D .next t') calm hu nd J0 hi ok hg hk hv hf want fun d c t' m G' J q hm fo => ?_) fun _ t' hq => wpAny_pure (wpAny_pure hq))
  show wpAny _ _ (assign (.Name y py) X.env (.ref d)) _ _ _
  refine wpAny_assign_Name (store_ok2 (v := V.ref d) J nd hy (.inl loc) rfl (fun t2 J2 ⟨a, sb, ha⟩ => ?_) (.inr loc))
  obtain ⟨p0, p1, _, p3, p4, p5⟩ := fo
  have off : c ≠ a := by
    rcases ha with z | z
    · rw [z]
      exact p1
    · exact fun e => p4 y a z e.symm
  exact ⟨m, hm.sameBut sb off, fun h3 sb3 => ⟨_, G', J2.turned (t' := t2.toks) (fun b o hb e => (sb3.2 b hb).trans e) p0 p1 p3 p4 p5, q⟩⟩
theorem sw_dict {kx vx : Expr} {gs : List Comprehension} {scope : Scope} {pos py : Pos} {y : Str} {l : Nat} {env : Env} (fn : env.scope.kind = .function) (loc : env.scope.names.lookup y = some .local) (ln : (py.line == pos.line) = true)
    (own : (scope.names.any fun (n, k) => n == y && (k == .local || k == .cell)) = false) : swapsWith (.DictComp kx vx gs scope pos) (some (.Name y py)) l env = pure true := by
  have k1 : env.kindOf y = some .local := loc
  have k2 : env.blockKind = .function := by
    unfold Env.blockKind
    rw [fn]
    rfl
  unfold swapsWith
  simp only [k2, k1, own, Expr.pos, ln]
  rfl
end
end Cs

/-! Di: sorted(a dict whose keys are tuples of ints of one length). -/
namespace Cs
open PySem PySem.Spec PyProof.Rows L2 SrtO
section
variable {prog : Program} {w : World} {A : Around} {E : Value → Shared → Prop} {s : Shared}
theorem sorted_srcT {T : String} {r d : Addr} {n dl : Nat} {P : Nat → Value → Prop} {OK : Heap → Prop} {B : Int} {k : Value → Int} {Q : Value → Shared → Prop} (S : PySem.W.KdlSrc prog w T r d n P OK) (hh : A.handled = none) (hok : OK s.heap) (hn : n ≤ sizeLine) (hd : 1 ≤ dl)
    (hp : ∀ acc : Array Value, ItemsOf P acc n → ∀ v ∈ acc.toList, ∃ ns, TS.TupInts s.heap v ns ∧ ns.length = dl ∧ TS.Bd B ns ∧ k v = TS.code B ns)
    (q : ∀ (p : Addr) (h' : Heap) (tk : Nat) (acc : Array Value) (out : List Value) (e : Nat), ItemsOf P acc n → (∀ b o, s.heap.get? b = some o → h'.get? b = some o) → s.heap.get? p = none → h'.get? p = some (seqObj "list" out.toArray e) → Srtd (fun v u => decide (k v < k u)) out → Stb (fun v u => decide (k v < k u)) out acc.toList → Q (.ref p) { s with heap := h', toks := tk }) :
    wpAny (model prog w) A (call (.builtin "sorted") [.ref r]) Q E s := by
  refine Calls.call_function_entry kind_sorted plain_sorted entry_sorted (args_sorted1 _) ?_
  unfold Builtin.«sorted»
  refine wpAny_bind (m := checkCount "sorted" 1 1 _) (wpAny_pure ?_)
  refine wpAny_bind (PySem.W.kdu_collect (A := A.in1) S hh hok hn fun h1 tk acc k1 hacc => ?_)
  have hl : acc.toList.length = n := by rw [Array.length_toList]; exact hacc.1
  have hz : acc.toList.length ≤ sizeLine := by omega
  have hp := hp acc hacc
  have q := fun p h' tk out e => q p h' tk acc out e hacc
  generalize acc.toList = vs at hl hz hp q ⊢
  have k12 : ∀ b o, s.heap.get? b = some o → (h1.push (seqObj "list" vs.toArray 0)).get? b = some o := fun b o e => Heap.get?_push_of_some _ (k1 b o e)
  refine wpAny_bind (wpAny_newList ?_ hz)
  have new : (h1.push (seqObj "list" vs.toArray 0)).get? h1.objs.size = some (seqObj "list" vs.toArray 0) := Heap.get?_push_size _ rfl
  refine wpAny_bind (wpAny_holding (wpAny_call_entry slot_list_sort ⟨_, new, rfl⟩ entry_list_sort (list_sort_ord (swo_key k) new hz (fun h2 => tups_sortable (B := B) hd (by omega) (fun v hv => ?_) fun o e => ?_) fun out hs hb => ⟨_, rfl, ?_⟩) (args_list_sort _)))
  · obtain ⟨ns, t, r⟩ := hp v hv
    exact ⟨ns, t.keeps fun b o e _ => k12 b o e, r⟩
  · have e' : some o = some (seqObj "list" vs.toArray 0) := e.symm.trans new
    cases e'
    intro c
    exact absurd (Value.type.inj c) (by decide)
  obtain ⟨e, he⟩ := sortedHeap_at (vs := vs) (out := out.toArray) new
  have gone : s.heap.get? h1.objs.size = none := by
    cases c : s.heap.get? h1.objs.size with
    | none => rfl
    | some u => exact absurd (Heap.lt_size (k1 _ _ c)) (Nat.lt_irrefl _)
  refine wpAny_pure ⟨_, rfl, q h1.objs.size _ tk out e (fun b u eb => ?_) gone he hs hb⟩
  have lt := Heap.lt_size (k1 _ _ eb)
  refine (sortedHeap_old (Nat.ne_of_lt lt) ?_).trans (k12 b u eb)
  rw [size_push']
  exact Nat.lt_succ_of_lt lt
end
theorem asT_keys {H : Hp} : ∀ {kvs : List (List Key × V)} {bs : List Addr} {gs : List (List Int)}, IsKeys H kvs bs → kvs.map Prod.fst = gs.map (fun g => g.map Sum.inl) → AsT H bs gs := by
  intro kvs bs gs h
  unfold IsKeys at h
  induction h generalizing gs with
  | nil =>
    intro e
    cases gs with
    | nil => exact ⟨rfl, fun i t g h1 h2 => by simp at h1⟩
    | cons g gs => simp at e
  | @cons p b ps bs hb t ih =>
    intro e
    cases gs with
    | nil => simp at e
    | cons g gs =>
      rw [List.map_cons, List.map_cons, List.cons.injEq] at e
      obtain ⟨h1, h2⟩ := ih e.2
      refine ⟨by simp [h1], fun i t g' e1 e2 => ?_⟩
      cases i with
      | zero =>
        simp only [List.getElem?_cons_zero, Option.some.injEq] at e1 e2
        subst e1 e2
        rw [hb, e.1, List.map_map]
        rfl
      | succ i => exact h2 i t g' (by simpa using e1) (by simpa using e2)
/-- sorted(d), d's keys tuples of ints, all of one length -/
def rSortDT : List V → Hp → VK → Prop := fun vs H Q => ∃ (d : Addr) (kvs : List (List Key × V)) (gs : List (List Int)) (dl : Nat), vs = [.ref d] ∧ H d = some (.dT kvs) ∧ kvs.map Prod.fst = gs.map (fun g => g.map Sum.inl) ∧ 1 ≤ dl ∧ (∀ g ∈ gs, g.length = dl ∧ TS.Bd (2 ^ 1000) g) ∧
  ∀ p bs hs, H p = none → AsT H bs hs → hs.Perm gs → SrtT hs → Q (.ref p) (upd H p (.lst (bs.map V.ref)))
theorem cr_sortDT {X : Cx} (hc : X.calm = true) : CallR X (.builtin "sorted") rSortDT := by
  intro pins s σ H vs us Q I r h
  obtain ⟨d, kvs, gs, dl, rfl, hd, hkg, d1, hb, q⟩ := h
  obtain ⟨u, rfl, ru⟩ := vals1 r
  obtain rfl : u = Value.ref d := ru
  obtain ⟨z, hs, ks, pr, o, es, ep, ho, hx, hdt, he, hn⟩ := (show ObjOk X.prog X.w H s.heap d (.dT kvs) from I.hok d _ hd)
  have l1 : es.size = ks.length := size_of_entries he
  have l2 : kvs.length = ks.length := Paired.length pr
  have hA : AsT H (ks.map fun x => x.2.1) gs := asT_keys (isKeys_of pr) hkg
  have hlb : (ks.map fun x => x.2.1).length = kvs.length := by rw [List.length_map, l2]
  have ea : ∀ acc : Array Value, ItemsOf (fun i v => ∃ en : DictEntry, es[i]? = some en ∧ v = en.key) acc es.size → acc.toList = (ks.map fun x => x.2.1).map Value.ref := fun acc it => by
    have hl : acc.toList.length = ks.length := by rw [Array.length_toList, it.1]; exact l1
    rw [List.map_map]
    apply List.ext_getElem?
    intro j
    rw [List.getElem?_map]
    cases hj : acc.toList[j]? with
    | none =>
      have h1 := List.getElem?_eq_none_iff.mp hj
      rw [List.getElem?_eq_none (by omega)]
      all_goals rfl
    | some v =>
      obtain ⟨en, hen, hv⟩ := it.2 j v (by rw [← Array.getElem?_toList]; exact hj)
      have qe := entry_at he j
      rw [hen] at qe
      cases hb : ks[j]? with
      | none =>
        rw [hb] at qe
        exact nomatch (show some en = none from qe)
      | some b =>
        rw [hb] at qe
        have e2 : en = entryOfKey (tupleKind (mixKind X.prog X.w)) b := Option.some.inj qe
        rw [hv, e2]
        all_goals rfl
  generalize (ks.map fun x => x.2.1) = as at hA ea hlb
  have hin : ∀ x ∈ as.map V.ref, ∃ (t : Addr) (g : List Int), x = V.ref t ∧ H t = some (.tup (g.map V.int)) ∧ g.length = dl ∧ TS.Bd (2 ^ 1000) g := fun x hx => by
    obtain ⟨t, ht, rfl⟩ := List.mem_map.mp hx
    obtain ⟨i, hi, e⟩ := List.getElem_of_mem ht
    have hi2 : i < gs.length := by rw [← hA.1]; exact hi
    have hg := List.getElem_mem hi2
    exact ⟨t, gs[i], rfl, hA.2 i t _ (by rw [List.getElem?_eq_getElem hi, e]) (List.getElem?_eq_getElem hi2), (hb _ hg).1, (hb _ hg).2⟩
  obtain ⟨e1, e2⟩ := refs_back (vals_refs as) fun x m => by
    obtain ⟨t, g, e, _⟩ := hin x m
    exact ⟨t, e⟩
  refine sorted_srcT (dl := dl) (B := 2 ^ 1000) (k := fun u => keyT H (backV u)) (kdl_raw hs hx hdt) (I.ok.hd hc) ho (by omega) d1 (fun acc it v hv => ?_) fun dd h' tk acc out n it kp hdn hn' h1 h2 => ?_
  · rw [ea acc it] at hv
    obtain ⟨t, ht, rfl⟩ := List.mem_map.mp hv
    obtain ⟨t', g, e, ht2, hgl, hgb⟩ := hin _ (List.mem_map.mpr ⟨t, ht, rfl⟩)
    cases e
    obtain ⟨_, its2, r2, ht3⟩ := I.hok _ _ ht2
    refine ⟨g, ⟨t, its2.toArray, rfl, ?_, ?_⟩, hgl, hgb, keyT_at ht2⟩
    · exact ht3
    · exact r2.ints
  · rw [ea acc it] at h2
    have h3 : ∀ u ∈ out, ∃ a, u = Value.ref a := fun u hu => e2 u (h2.perm.mem_iff.mp hu)
    have hb2 : SrtO.Stb (fun v u => decide (keyT H v < keyT H u)) (out.map backV) (as.map V.ref) := by
      rw [e1]
      exact SrtO.Stb.map (swo_keyV (keyT H)) backV h2
    have hsr := SrtO.srtd_map (lt := fun v u => decide (keyT H v < keyT H u)) (f := backV) h1
    have hzl : (as.zip gs).map (·.2) = gs := List.map_snd_zip (by rw [hA.1]; exact Nat.le_refl _)
    obtain ⟨zs, hzp, ez⟩ := perm_lift (f := fun p : Addr × List Int => V.ref p.1) hb2.perm (as.zip gs) (zip_refs hA.1)
    have hzat : ∀ z ∈ zs, H z.1 = some (.tup (z.2.map V.int)) := fun z hz2 => zip_at hA z (hzp.mem_iff.mp hz2)
    have hnn := I.hok.gone hdn
    have q' := q dd (zs.map (·.1)) (zs.map (·.2)) hnn ⟨by simp, fun i t g h1 h2 => ?_⟩ ?_ ?_
    · rw [List.map_map] at q'
      have ez' : zs.map (V.ref ∘ fun p : Addr × List Int => p.1) = out.map backV := ez
      rw [ez'] at q'
      refine ⟨.ref dd, upd H dd (.lst (out.map backV)), I.laidN (t' := tk) kp hdn hnn ⟨?_, out, n, vals_back h3, hn'⟩, rfl, q'⟩
      rw [hb2.len, List.length_map]
      omega
    · simp only [List.getElem?_map, Option.map_eq_some_iff] at h1 h2
      obtain ⟨z, hz1, rfl⟩ := h1
      obtain ⟨z', hz2, rfl⟩ := h2
      rw [hz1] at hz2
      obtain rfl := Option.some.inj hz2
      exact hzat z (List.mem_of_getElem? hz1)
    · have := hzp.map (·.2)
      rw [hzl] at this
      exact this
    · rw [← ez] at hsr
      unfold SrtT
      rw [List.pairwise_map]
      have hsr2 := List.pairwise_map.mp hsr
      refine List.Pairwise.imp_of_mem (fun {a b} ha hb h => ?_) hsr2
      have h := of_decide_eq_false h
      rw [keyT_at (hzat a ha), keyT_at (hzat b hb)] at h
      omega
end Cs

/-! Dj: a dict with tuple keys compared with an empty dict. -/
namespace Cs
open PySem PySem.Spec PyProof.Rows L2
section
variable {prog : Program} {w : World} {A : Around} {E : Value → Shared → Prop} {s : Shared}
theorem samePairs0 {nm : String} {a b : Addr} {oa ob : Obj} {es es' : Array DictEntry} {ep ep' : Nat} {Q : Bool → Shared → Prop} (ha : (a == sysModules) = false) (hb : (b == sysModules) = false)
    (hoa : s.heap.get? a = some oa) (hda : oa.data = .dict es ep) (hob : s.heap.get? b = some ob) (hdb : ob.data = .dict es' ep') (h0 : es'.size = 0) (h : Q (es.size == 0) s) :
    wpAny (model prog w) A (Builtin.Dict.samePairs nm a b) Q E s := by
  unfold Builtin.Dict.samePairs Builtin.Dict.showsAll
  rw [if_neg (show ¬ (a == sysModules) = true by rw [ha]; exact Bool.false_ne_true), if_neg (show ¬ (b == sysModules) = true by rw [hb]; exact Bool.false_ne_true)]
  refine wpAny_bind (wpAny_pure (wpAny_bind (wpAny_pure ?_)))
  refine wpAny_bind (wpAny_dictEntries hoa hda ?_)
  dsimp only
  refine wpAny_bind (wpAny_dictEntries hob hdb ?_)
  by_cases hsz : es.size = es'.size
  case neg =>
    rw [if_pos (by simpa using hsz)]
    have hbf : (es.size == 0) = false := by rw [h0] at hsz; simpa using hsz
    rw [hbf] at h
    exact wpAny_bind (wpAny_rule (wpAny_pure h))
  case pos =>
    have hbt : (es.size == 0) = true := by rw [h0] at hsz; simpa using hsz
    rw [hbt] at h
    rw [if_neg (by rw [hsz]; simp)]
    refine wpAny_bind (wpAny_dictEpoch hoa hda ?_)
    refine wpAny_bind ?_
    rw [Std.Legacy.Range.forIn_eq_forIn_range']
    simp only [Std.Legacy.Range.size, Nat.sub_zero, Nat.add_sub_cancel, Nat.div_one, hsz, h0, List.range'_zero]
    refine wpAny_forIn_list _ (fun rest q s' => s' = s ∧ q = (none, ()) ∧ rest = []) _ ?_ ?_ _ _ ⟨rfl, rfl, rfl⟩
    · rintro x rest q s' ⟨rfl, rfl, e⟩
      cases e
    · rintro q s' ⟨rfl, rfl, _⟩
      exact wpAny_pure h
end
/-- d != {}, d with tuple keys -/
def rNeDE : R2 := fun x y H Q => ∃ a b kvs, x = .ref a ∧ y = .ref b ∧ H a = some (.dT kvs) ∧ H b = some (.dK []) ∧ Q (.bl (!decide (kvs.length = 0))) H
theorem op_ne_dictE {X : Cx} (hu : X.A.units + 1 < cLine) : OpR X (compareOp .NotEq) rNeDE := by
  intro pins s σ H x y v u Q I rx ry h
  obtain ⟨a, b, kvs, rfl, rfl, ea, eb, q⟩ := h
  obtain rfl : v = Value.ref a := rx
  obtain rfl : u = Value.ref b := ry
  obtain ⟨z, ya, ks, pr, oa, es, ep, hoa, hxa, hda, he, hn⟩ := (show ObjOk X.prog X.w H s.heap a (.dT kvs) from I.hok a _ ea)
  obtain ⟨_, yb, vb, rb, ob, es', ep', hob, hcb, hdb, hkb, hpb, _⟩ := (show ObjOk X.prog X.w H s.heap b (.dK []) from I.hok b _ eb)
  have l1 : es.size = ks.length := size_of_entries he
  have l2 : kvs.length = ks.length := Paired.length pr
  have l3 : es'.size = 0 := by
    have h1 := rb.length
    have h2 := hpb.length
    rw [Array.length_toList] at h2
    simp at h1
    omega
  have ta : s.TypeIs (.ref a) "dict" := ⟨_, hoa, hxa.1⟩
  have tb : s.TypeIs (.ref b) "dict" := ⟨_, hob, hcb.1⟩
  refine wpAny_richCompare_same_room (op := .NotEq) ta tb PySem.F.slot_dict_ne (wpAny_call_entry PySem.F.slot_dict_ne ta PySem.F.entry_dict_ne ?_ (PySem.F.args_dict_ne_2 _ _)) (by omega)
  show wpAny _ _ (Builtin.Dict.dictSlotArgs "__ne__" ⟨[.ref a, .ref b], []⟩ >>= _) _ _ s
  refine wpAny_bind ?_
  unfold Builtin.Dict.dictSlotArgs
  refine wpAny_bind (wpAny_notOrdered_dict ta ?_)
  show wpAny _ _ (pure (Value.ref a, Value.ref b)) _ _ s
  refine wpAny_pure ?_
  refine wpAny_bind (wpAny_isInstance (T := "dict") tb PySem.F.sub_dict_dict ?_)
  simp only [Bool.not_true, Bool.false_eq_true, if_false]
  refine wpAny_bind (wpAny_pure (wpAny_bind (wpAny_pure ?_)))
  refine wpAny_bind (samePairs0 ya yb hoa hda hob hdb l3 ?_)
  refine wpAny_pure ⟨_, rfl, ?_, ?_⟩
  · exact fun x => nomatch x
  · have e : ((es.size == 0) == false) = !decide (kvs.length = 0) := by
      rw [l1, ← l2]
      cases kvs <;> simp
    rw [e]
    exact ⟨.bl (!decide (kvs.length = 0)), H, I, rfl, q⟩
end Cs

/-! Dk: d.update(e) for dicts with tuple keys, e empty too. -/
namespace Cs
open PySem PySem.Spec PyProof.Rows L2
section
variable {P : Program} {w : World} {A : Around} {E : Value → Shared → Prop} {s : Shared}
theorem mergeDictE {nm : String} {d o : Addr} {oo : Obj} {eso : Array DictEntry} {epo : Nat} {Q : Unit → Shared → Prop} (hdo : d ≠ o) (hoS : (o == sysModules) = false)
    (hoo : s.heap.get? o = some oo) (hdo' : oo.data = .dict eso epo) (h0 : eso.size = 0) (hQ : Q () s) :
    wpAny (model P w) A (Builtin.Dict.mergeDict nm d o) Q E s := by
  obtain rfl : eso = #[] := Array.eq_empty_of_size_eq_zero h0
  unfold Builtin.Dict.mergeDict
  rw [if_neg (by simpa using hdo)]
  unfold Builtin.Dict.showsAll
  rw [if_neg (by rw [hoS]; exact Bool.false_ne_true)]
  refine wpAny_bind (wpAny_pure ?_)
  refine wpAny_bind (wpAny_dictEntries hoo hdo' ?_)
  dsimp only
  rw [if_neg (by simp)]
  refine wpAny_bind (wpAny_dictEpoch hoo hdo' ?_)
  refine wpAny_bind (wpAny_dictEntries hoo hdo' ?_)
  refine wpAny_bind ?_
  rw [Std.Legacy.Range.forIn_eq_forIn_range']
  simp only [Std.Legacy.Range.size, Nat.sub_zero, Nat.add_sub_cancel, Nat.div_one, Array.size_empty, List.range'_zero]
  refine wpAny_forIn_list _ (fun rest q s' => s' = s ∧ rest = []) _ ?_ ?_ _ _ ⟨rfl, rfl⟩
  · rintro x rest q s' ⟨rfl, e⟩
    cases e
  · rintro q s' ⟨rfl, _⟩
    exact wpAny_pure hQ
theorem meetsUpdE (d o : Addr) (hdo : d ≠ o) (hoS : (o == sysModules) = false) :
    MeetsIn P w (Builtin.«dict.update» ⟨[.ref d, .ref o], []⟩) (fun A R s => s.TypeIs (.ref d) "dict" ∧ s.TypeIs (.ref o) "dict" ∧ (∃ oo eso epo, s.heap.get? o = some oo ∧ oo.data = .dict eso epo ∧ eso.size = 0) ∧ R (.ok (.ret .none)) s) :=
  .of_wp fun A R s ⟨hd, ho, ⟨oo, eso, epo, h1, h2, h3⟩, h⟩ => by
    unfold Builtin.«dict.update»
    refine wpAny_bind ?_
    unfold Builtin.Dict.selfAndRest
    refine wpAny_bind (wpAny_notOrdered_dict hd ?_)
    show wpAny _ _ (pure (d, [Value.ref o])) _ _ s
    refine wpAny_pure ?_
    show wpAny _ _ (Builtin.Dict.updateFrom "dict.update" d (.ref o) [] .none) _ _ s
    unfold Builtin.Dict.updateFrom
    refine wpAny_bind (wpAny_typeOf ho ?_)
    rw [if_neg (by decide)]
    refine wpAny_bind ?_
    unfold Builtin.Dict.merge
    refine wpAny_bind ?_
    · unfold Builtin.Dict.readDirectly
      refine wpAny_bind (wpAny_isInstance ho isSubtype_dict_dict ?_)
      simp only [Bool.not_true, Bool.false_eq_true, if_false]
      refine wpAny_bind (wpAny_specialOf ho F.slot_dict_iter.lookup (wpAny_pure ?_))
      simp only [beq_self_eq_true, if_true]
      refine wpAny_bind (wpAny_pure ?_)
      refine mergeDictE hdo hoS h1 h2 h3 ?_
      show wpAny _ _ (Builtin.Dict.addKeywords d [] >>= _) _ _ _
      exact wpAny_bind (wpAny_pure (wpAny_pure ⟨.none, rfl, h⟩))
end
section
variable {X : Cx}
def rUpdE : V → List V → Hp → VK → Prop := fun x xs H Q => rUpdT x xs H Q ∨ ∃ (a b : Addr) (kvs : List (List Key × V)), x = .ref a ∧ xs = [.ref b] ∧ a ≠ b ∧ H a = some (.dT kvs) ∧ H b = some (.dT []) ∧ Q .non H
theorem mt_updE (hu : X.A.units + 64 < cLine) : MtR X "dict.update" rUpdE := by
  intro pins s σ H x xs v us Q I rx rxs h
  rcases h with h | ⟨a, b, kvs, rfl, rfl, hab, ha, hb, q⟩
  · exact mt_updT hu pins s σ H x xs v us Q I rx rxs h
  cases rx
  obtain ⟨u, rfl, r1⟩ := vals1 rxs
  cases r1
  obtain ⟨z, hd, xs', rel, dd⟩ := dt_of I.hok ha
  obtain ⟨z2, hd2, ys, rel2, dd2⟩ := dt_of I.hok hb
  have e2 : ([] : List (List Key × V)).length = ys.length := Paired.length rel2
  obtain ⟨oo, eso, epo, h1, h2, h3, h4, _, _⟩ := id dd2
  have h5 := size_of_entries h4
  exact call_meetsIn PySem.F.slot_dict_update dd.typeIs PySem.F.entry_dict_update (PySem.F.args_dict_update_2 _ _) (meetsUpdE a b hab hd2)
    ⟨dd.typeIs, dd2.typeIs, ⟨oo, eso, epo, h1, h3, by simp at e2; omega⟩, ⟨.non, H, I, rfl, q⟩⟩
def tUpdE (to : TE) (t : TA) : TE := fun σ H Q => to σ H fun x H1 => (∃ a, x = V.ref a ∧ IsD H1 a) ∧ t σ H1 fun xs H2 => rUpdE x xs H2 Q
variable {o e : Expr} {to : TE} {t : TA} {apos cpos : Pos}
theorem pe_updE (hu : X.A.units + 64 < cLine) (ho : PE X o to) (ha : PA X [e] t)
    (hbase : attributeBase o "update" X.env (eval o X.env) = eval o X.env := by rfl)
    (hfew : ((backTo cpos (starEach [e] X.env)).all (fun x => !x.1) && (backToKw cpos (keywordEach [] X.env)).all (fun x => x.1.isSome)
      && decide (([e] : List Expr).length + ([] : List Keyword).length + (if ([] : List Keyword).isEmpty then 0 else 1) < 30)) = true := by rfl)
    (hline : (apos.endLine == cpos.line) = true := by rfl) (hs : starEach [e] X.env = (false, eval e X.env) :: starEach [] X.env := by rfl) :
    PE X (.Call (.Attribute o "update" apos) [e] [] cpos) (tUpdE to t) := by
  refine ⟨fun pins s σ H Q I h => wpAny_Call_method_late hbase hfew hline rfl (thn (ho.run pins s σ H _ I h) fun v s1 ⟨x, H1, I1, r1, ty, q1⟩ => ?_)⟩
  obtain ⟨a, rfl, hka⟩ := ty
  obtain ⟨t1, t2, _⟩ := isD_at I1 hka
  cases r1
  refine ⟨"dict", "dict.update", PySem.F.plainAttrs_dict, PySem.F.slot_dict_update, PySem.F.type_dict_update, t1, t2, ?_⟩
  have hA := ha.run cpos pins s1 σ H1 _ I1 q1
  rw [hs] at hA ⊢
  refine Calls.callWith_builtin rfl (Calls.evalArgs_plain ?_)
  exact thn hA fun us s2 ⟨vs, H2, I2, r2, q2⟩ => mt_updE hu pins s2 σ H2 (.ref a) vs (.ref a) us Q I2 rfl r2 q2
end
end Cs

namespace Lw
open PySem PySem.Spec PyProof.Rows L2 Cs
def top (i : Nat) : Stmt := PySem.Challenge.pw_calledseats_k10_reachability_on_small_ta.main.body.getD i (.Pass ⟨0, 0, 0, 0⟩)
abbrev d_is_integer : Stmt := top 9
abbrev N_is_integer : List Str := ["number"]
theorem sc_is_integer : FnScope N_is_integer ["number"] (defScope d_is_integer) := ⟨rfl, rfl, rfl, by decide +kernel, rfl, by decide +kernel, by decide +kernel⟩
abbrev d_is_place : Stmt := top 10
abbrev N_is_place : List Str := ["size", "place"]
theorem sc_is_place : FnScope N_is_place ["size", "place"] (defScope d_is_place) := ⟨rfl, rfl, rfl, by decide +kernel, rfl, by decide +kernel, by decide +kernel⟩
abbrev d_is_seat : Stmt := top 11
abbrev N_is_seat : List Str := ["sizes", "seat", "place", "size"]
theorem sc_is_seat : FnScope N_is_seat ["sizes", "seat"] (defScope d_is_seat) := ⟨rfl, rfl, rfl, by decide +kernel, rfl, by decide +kernel, by decide +kernel⟩
abbrev d_is_modulus : Stmt := top 12
abbrev N_is_modulus : List Str := ["modulus"]
theorem sc_is_modulus : FnScope N_is_modulus ["modulus"] (defScope d_is_modulus) := ⟨rfl, rfl, rfl, by decide +kernel, rfl, by decide +kernel, by decide +kernel⟩
abbrev d_are_weights : Stmt := top 13
abbrev N_are_weights : List Str := ["sizes", "modulus", "weights", "weight", "size"]
theorem sc_are_weights : FnScope N_are_weights ["sizes", "modulus", "weights"] (defScope d_are_weights) := ⟨rfl, rfl, rfl, by decide +kernel, rfl, by decide +kernel, by decide +kernel⟩
abbrev d_is_witness : Stmt := top 14
abbrev N_is_witness : List Str := ["sizes", "witness", "modulus", "weights", "residue"]
theorem sc_is_witness : FnScope N_is_witness ["sizes", "witness"] (defScope d_is_witness) := ⟨rfl, rfl, rfl, by decide +kernel, rfl, by decide +kernel, by decide +kernel⟩
abbrev d_require_seat : Stmt := top 15
abbrev N_require_seat : List Str := ["sizes", "seat"]
theorem sc_require_seat : FnScope N_require_seat ["sizes", "seat"] (defScope d_require_seat) := ⟨rfl, rfl, rfl, by decide +kernel, rfl, by decide +kernel, by decide +kernel⟩
abbrev d_require_witness : Stmt := top 16
abbrev N_require_witness : List Str := ["sizes", "witness"]
theorem sc_require_witness : FnScope N_require_witness ["sizes", "witness"] (defScope d_require_witness) := ⟨rfl, rfl, rfl, by decide +kernel, rfl, by decide +kernel, by decide +kernel⟩
abbrev d_require_seats : Stmt := top 17
abbrev N_require_seats : List Str := ["sizes", "seats", "seen", "index", "seat"]
theorem sc_require_seats : FnScope N_require_seats ["sizes", "seats"] (defScope d_require_seats) := ⟨rfl, rfl, rfl, by decide +kernel, rfl, by decide +kernel, by decide +kernel⟩
abbrev d_require_targets : Stmt := top 18
abbrev N_require_targets : List Str := ["sizes", "targets"]
theorem sc_require_targets : FnScope N_require_targets ["sizes", "targets"] (defScope d_require_targets) := ⟨rfl, rfl, rfl, by decide +kernel, rfl, by decide +kernel, by decide +kernel⟩
abbrev d_Table_init : Stmt := inClass (top 21) 0
abbrev N_Table_init : List Str := ["self", "rings"]
theorem sc_Table_init : FnScope N_Table_init ["self", "rings"] (defScope d_Table_init) := ⟨rfl, rfl, rfl, by decide +kernel, rfl, by decide +kernel, by decide +kernel⟩
abbrev d_Table_sizes : Stmt := inClass (top 21) 1
abbrev N_Table_sizes : List Str := ["self"]
theorem sc_Table_sizes : FnScope N_Table_sizes ["self"] (defScope d_Table_sizes) := ⟨rfl, rfl, rfl, by decide +kernel, rfl, by decide +kernel, by decide +kernel⟩
abbrev d_Table_count : Stmt := inClass (top 21) 2
abbrev N_Table_count : List Str := ["self", "seats", "size"]
theorem sc_Table_count : FnScope N_Table_count ["self"] (defScope d_Table_count) := ⟨rfl, rfl, rfl, by decide +kernel, rfl, by decide +kernel, by decide +kernel⟩
abbrev d_sizes_of : Stmt := top 22
abbrev N_sizes_of : List Str := ["table"]
theorem sc_sizes_of : FnScope N_sizes_of ["table"] (defScope d_sizes_of) := ⟨rfl, rfl, rfl, by decide +kernel, rfl, by decide +kernel, by decide +kernel⟩
abbrev d_are_sizes : Stmt := top 23
abbrev N_are_sizes : List Str := ["rings", "size"]
theorem sc_are_sizes : FnScope N_are_sizes ["rings"] (defScope d_are_sizes) := ⟨rfl, rfl, rfl, by decide +kernel, rfl, by decide +kernel, by decide +kernel⟩
abbrev d_weighted_sum : Stmt := top 25
abbrev N_weighted_sum : List Str := ["weights", "vector", "weight", "part"]
theorem sc_weighted_sum : FnScope N_weighted_sum ["weights", "vector"] (defScope d_weighted_sum) := ⟨rfl, rfl, rfl, by decide +kernel, rfl, by decide +kernel, by decide +kernel⟩
abbrev d_has_residue : Stmt := top 26
abbrev N_has_residue : List Str := ["witness", "seat", "modulus", "weights", "residue"]
theorem sc_has_residue : FnScope N_has_residue ["witness", "seat"] (defScope d_has_residue) := ⟨rfl, rfl, rfl, by decide +kernel, rfl, by decide +kernel, by decide +kernel⟩
abbrev d_common_divisor : Stmt := top 27
abbrev N_common_divisor : List Str := ["modulus", "weights", "common", "weight"]
theorem sc_common_divisor : FnScope N_common_divisor ["modulus", "weights"] (defScope d_common_divisor) := ⟨rfl, rfl, rfl, by decide +kernel, rfl, by decide +kernel, by decide +kernel⟩
abbrev d_odd_part : Stmt := top 29
abbrev N_odd_part : List Str := ["size"]
theorem sc_odd_part : FnScope N_odd_part ["size"] (defScope d_odd_part) := ⟨rfl, rfl, rfl, by decide +kernel, rfl, by decide +kernel, by decide +kernel⟩
abbrev d_difference : Stmt := top 30
abbrev N_difference : List Str := ["seat", "other", "place", "base"]
theorem sc_difference : FnScope N_difference ["seat", "other"] (defScope d_difference) := ⟨rfl, rfl, rfl, by decide +kernel, rfl, by decide +kernel, by decide +kernel⟩
abbrev d_shift_basis : Stmt := top 31
abbrev N_shift_basis : List Str := ["sizes", "targets", "odds", "basis", "target", "size"]
theorem sc_shift_basis : FnScope N_shift_basis ["sizes", "targets"] (defScope d_shift_basis) := ⟨rfl, rfl, rfl, by decide +kernel, rfl, by decide +kernel, by decide +kernel⟩
abbrev d_pivot_product : Stmt := top 32
abbrev N_pivot_product : List Str := ["basis", "count", "at", "row"]
theorem sc_pivot_product : FnScope N_pivot_product ["basis"] (defScope d_pivot_product) := ⟨rfl, rfl, rfl, by decide +kernel, rfl, by decide +kernel, by decide +kernel⟩
abbrev d_inverse_column : Stmt := top 33
abbrev N_inverse_column : List Str := ["basis", "modulus", "column", "weights", "at"]
theorem sc_inverse_column : FnScope N_inverse_column ["basis", "modulus", "column"] (defScope d_inverse_column) := ⟨rfl, rfl, rfl, by decide +kernel, rfl, by decide +kernel, by decide +kernel⟩
abbrev d_diagonal : Stmt := top 34
abbrev N_diagonal : List Str := ["entries", "rows", "at", "entry", "row"]
theorem sc_diagonal : FnScope N_diagonal ["entries"] (defScope d_diagonal) := ⟨rfl, rfl, rfl, by decide +kernel, rfl, by decide +kernel, by decide +kernel⟩
abbrev d_with_vector : Stmt := top 35
abbrev N_with_vector : List Str := ["basis", "odds", "vector", "rest", "rows", "at", "row", "pivoted", "factor", "lower", "part", "upper"]
theorem sc_with_vector : FnScope N_with_vector ["basis", "odds", "vector"] (defScope d_with_vector) := ⟨rfl, rfl, rfl, by decide +kernel, rfl, by decide +kernel, by decide +kernel⟩
abbrev d_reduced : Stmt := top 36
abbrev N_reduced : List Str := ["vector", "odds", "part", "odd"]
theorem sc_reduced : FnScope N_reduced ["vector", "odds"] (defScope d_reduced) := ⟨rfl, rfl, rfl, by decide +kernel, rfl, by decide +kernel, by decide +kernel⟩
abbrev d_coset_count : Stmt := top 38
abbrev N_coset_count : List Str := ["table", "targets", "sizes"]
theorem sc_coset_count : FnScope N_coset_count ["table", "targets"] (defScope d_coset_count) := ⟨rfl, rfl, rfl, by decide +kernel, rfl, by decide +kernel, by decide +kernel⟩
abbrev d_reach : Stmt := top 39
abbrev N_reach : List Str := ["table", "targets", "seat", "sizes", "basis", "shift", "modulus", "column", "weights"]
theorem sc_reach : FnScope N_reach ["table", "targets", "seat"] (defScope d_reach) := ⟨rfl, rfl, rfl, by decide +kernel, rfl, by decide +kernel, by decide +kernel⟩
abbrev d_check_witness : Stmt := top 40
abbrev N_check_witness : List Str := ["table", "targets", "seat", "witness", "sizes", "index", "target"]
theorem sc_check_witness : FnScope N_check_witness ["table", "targets", "seat", "witness"] (defScope d_check_witness) := ⟨rfl, rfl, rfl, by decide +kernel, rfl, by decide +kernel, by decide +kernel⟩
abbrev d_short_witness : Stmt := top 41
abbrev N_short_witness : List Str := ["modulus", "weights", "target", "common", "small", "reduced", "weight"]
theorem sc_short_witness : FnScope N_short_witness ["modulus", "weights", "target"] (defScope d_short_witness) := ⟨rfl, rfl, rfl, by decide +kernel, rfl, by decide +kernel, by decide +kernel⟩
abbrev d_law_mixed : Stmt := top 43
abbrev N_law_mixed : List Str := ["_law_cell", "_law_draw", "_law_number"]
theorem sc_law_mixed : FnScope N_law_mixed ["_law_cell", "_law_draw"] (defScope d_law_mixed) := ⟨rfl, rfl, rfl, by decide +kernel, rfl, by decide +kernel, by decide +kernel⟩
abbrev d_law_source : Stmt := top 44
abbrev N_law_source : List Str := ["_law_cell"]
theorem sc_law_source : FnScope N_law_source ["_law_cell"] (defScope d_law_source) := ⟨rfl, rfl, rfl, by decide +kernel, rfl, by decide +kernel, by decide +kernel⟩
abbrev d_law_take : Stmt := top 45
abbrev N_law_take : List Str := ["_law_source_here", "_law_count", "_law_drawn"]
theorem sc_law_take : FnScope N_law_take ["_law_source_here", "_law_count"] (defScope d_law_take) := ⟨rfl, rfl, rfl, by decide +kernel, rfl, by decide +kernel, by decide +kernel⟩
abbrev d_law_seat : Stmt := top 46
abbrev N_law_seat : List Str := ["_law_source_here", "_law_sizes", "_law_size"]
theorem sc_law_seat : FnScope N_law_seat ["_law_source_here", "_law_sizes"] (defScope d_law_seat) := ⟨rfl, rfl, rfl, by decide +kernel, rfl, by decide +kernel, by decide +kernel⟩
abbrev d_law_all : Stmt := top 47
abbrev N_law_all : List Str := ["_law_sizes", "_law_found", "_law_size", "_law_longer", "_law_begin", "_law_place"]
theorem sc_law_all : FnScope N_law_all ["_law_sizes"] (defScope d_law_all) := ⟨rfl, rfl, rfl, by decide +kernel, rfl, by decide +kernel, by decide +kernel⟩
abbrev d_law_sum : Stmt := top 48
abbrev N_law_sum : List Str := ["_law_first", "_law_second", "_law_sizes", "_law_a", "_law_b", "_law_size"]
theorem sc_law_sum : FnScope N_law_sum ["_law_first", "_law_second", "_law_sizes"] (defScope d_law_sum) := ⟨rfl, rfl, rfl, by decide +kernel, rfl, by decide +kernel, by decide +kernel⟩
abbrev d_law_times : Stmt := top 49
abbrev N_law_times : List Str := ["_law_factor", "_law_first", "_law_sizes", "_law_place", "_law_size"]
theorem sc_law_times : FnScope N_law_times ["_law_factor", "_law_first", "_law_sizes"] (defScope d_law_times) := ⟨rfl, rfl, rfl, by decide +kernel, rfl, by decide +kernel, by decide +kernel⟩
abbrev d_law_closed : Stmt := top 50
abbrev N_law_closed : List Str := ["_law_sizes", "_law_goals_here", "_law_found", "_law_every", "_law_grown", "_law_origin", "_law_twice", "_law_pairs", "_law_goal", "_law_one"]
theorem sc_law_closed : FnScope N_law_closed ["_law_sizes", "_law_goals_here"] (defScope d_law_closed) := ⟨rfl, rfl, rfl, by decide +kernel, rfl, by decide +kernel, by decide +kernel⟩
abbrev d_law_small : Stmt := top 51
abbrev N_law_small : List Str := ["_law_source_here", "_law_some"]
theorem sc_law_small : FnScope N_law_small ["_law_source_here"] (defScope d_law_small) := ⟨rfl, rfl, rfl, by decide +kernel, rfl, by decide +kernel, by decide +kernel⟩
abbrev d_law_goals : Stmt := top 52
abbrev N_law_goals : List Str := ["_law_source_here", "_law_sizes", "_law_factor", "_law_base", "_law_drawn", "_law_k", "_law_one"]
theorem sc_law_goals : FnScope N_law_goals ["_law_source_here", "_law_sizes"] (defScope d_law_goals) := ⟨rfl, rfl, rfl, by decide +kernel, rfl, by decide +kernel, by decide +kernel⟩
abbrev d_law_value : Stmt := top 53
abbrev N_law_value : List Str := ["_law_sheet", "_law_one", "_law_weight", "_law_place"]
theorem sc_law_value : FnScope N_law_value ["_law_sheet", "_law_one"] (defScope d_law_value) := ⟨rfl, rfl, rfl, by decide +kernel, rfl, by decide +kernel, by decide +kernel⟩
abbrev d_law_is_witness : Stmt := top 54
abbrev N_law_is_witness : List Str := ["_law_sizes", "_law_sheet", "_law_plain", "_law_one", "_law_weight", "_law_size"]
theorem sc_law_is_witness : FnScope N_law_is_witness ["_law_sizes", "_law_sheet"] (defScope d_law_is_witness) := ⟨rfl, rfl, rfl, by decide +kernel, rfl, by decide +kernel, by decide +kernel⟩
abbrev d_law_due : Stmt := top 55
abbrev N_law_due : List Str := ["_law_sizes", "_law_goals_here", "_law_origin", "_law_sheet", "_law_index", "_law_one"]
theorem sc_law_due : FnScope N_law_due ["_law_sizes", "_law_goals_here", "_law_origin", "_law_sheet"] (defScope d_law_due) := ⟨rfl, rfl, rfl, by decide +kernel, rfl, by decide +kernel, by decide +kernel⟩
abbrev d_law_check : Stmt := top 56
abbrev N_law_check : List Str := ["_law_source_here", "_law_sizes", "_law_board", "_law_goals_here", "_law_closed_here", "_law_given", "_law_split", "_law_origin", "_law_found", "_law_last", "_law_due_here"]
theorem sc_law_check : FnScope N_law_check ["_law_source_here"] (defScope d_law_check) := ⟨rfl, rfl, rfl, by decide +kernel, rfl, by decide +kernel, by decide +kernel⟩
abbrev d_law : Stmt := top 57
abbrev N_law : List Str := ["_law_script", "_law_cell"]
theorem sc_law : FnScope N_law ["_law_script"] (defScope d_law) := ⟨rfl, rfl, rfl, by decide +kernel, rfl, by decide +kernel, by decide +kernel⟩
structure Tx (K : PySem.W.Frag) (mg : Str → Option Value) : Type where
  f_is_integer : Addr
  fd_is_integer : FuncData
  F_is_integer : Fun K "is_integer" "is_integer" d_is_integer f_is_integer fd_is_integer
  b_is_integer : Binds K fd_is_integer ["number"] []
  g_is_integer : mg "is_integer" = some (.ref f_is_integer)
  f_is_place : Addr
  fd_is_place : FuncData
  F_is_place : Fun K "is_place" "is_place" d_is_place f_is_place fd_is_place
  b_is_place : Binds K fd_is_place ["size", "place"] []
  g_is_place : mg "is_place" = some (.ref f_is_place)
  f_is_seat : Addr
  fd_is_seat : FuncData
  F_is_seat : Fun K "is_seat" "is_seat" d_is_seat f_is_seat fd_is_seat
  b_is_seat : Binds K fd_is_seat ["sizes", "seat"] []
  g_is_seat : mg "is_seat" = some (.ref f_is_seat)
  f_is_modulus : Addr
  fd_is_modulus : FuncData
  F_is_modulus : Fun K "is_modulus" "is_modulus" d_is_modulus f_is_modulus fd_is_modulus
  b_is_modulus : Binds K fd_is_modulus ["modulus"] []
  g_is_modulus : mg "is_modulus" = some (.ref f_is_modulus)
  f_are_weights : Addr
  fd_are_weights : FuncData
  F_are_weights : Fun K "are_weights" "are_weights" d_are_weights f_are_weights fd_are_weights
  b_are_weights : Binds K fd_are_weights ["sizes", "modulus", "weights"] []
  g_are_weights : mg "are_weights" = some (.ref f_are_weights)
  f_is_witness : Addr
  fd_is_witness : FuncData
  F_is_witness : Fun K "is_witness" "is_witness" d_is_witness f_is_witness fd_is_witness
  b_is_witness : Binds K fd_is_witness ["sizes", "witness"] []
  g_is_witness : mg "is_witness" = some (.ref f_is_witness)
  f_require_seat : Addr
  fd_require_seat : FuncData
  F_require_seat : Fun K "require_seat" "require_seat" d_require_seat f_require_seat fd_require_seat
  b_require_seat : Binds K fd_require_seat ["sizes", "seat"] []
  g_require_seat : mg "require_seat" = some (.ref f_require_seat)
  f_require_witness : Addr
  fd_require_witness : FuncData
  F_require_witness : Fun K "require_witness" "require_witness" d_require_witness f_require_witness fd_require_witness
  b_require_witness : Binds K fd_require_witness ["sizes", "witness"] []
  g_require_witness : mg "require_witness" = some (.ref f_require_witness)
  f_require_seats : Addr
  fd_require_seats : FuncData
  F_require_seats : Fun K "require_seats" "require_seats" d_require_seats f_require_seats fd_require_seats
  b_require_seats : Binds K fd_require_seats ["sizes", "seats"] []
  g_require_seats : mg "require_seats" = some (.ref f_require_seats)
  f_require_targets : Addr
  fd_require_targets : FuncData
  F_require_targets : Fun K "require_targets" "require_targets" d_require_targets f_require_targets fd_require_targets
  b_require_targets : Binds K fd_require_targets ["sizes", "targets"] []
  g_require_targets : mg "require_targets" = some (.ref f_require_targets)
  f_Table_init : Addr
  fd_Table_init : FuncData
  F_Table_init : Fun K "__init__" "Table.__init__" d_Table_init f_Table_init fd_Table_init
  b_Table_init : Binds K fd_Table_init ["self", "rings"] []
  f_Table_sizes : Addr
  fd_Table_sizes : FuncData
  F_Table_sizes : Fun K "sizes" "Table.sizes" d_Table_sizes f_Table_sizes fd_Table_sizes
  b_Table_sizes : Binds K fd_Table_sizes ["self"] []
  f_Table_count : Addr
  fd_Table_count : FuncData
  F_Table_count : Fun K "count" "Table.count" d_Table_count f_Table_count fd_Table_count
  b_Table_count : Binds K fd_Table_count ["self"] []
  f_sizes_of : Addr
  fd_sizes_of : FuncData
  F_sizes_of : Fun K "sizes_of" "sizes_of" d_sizes_of f_sizes_of fd_sizes_of
  b_sizes_of : Binds K fd_sizes_of ["table"] []
  g_sizes_of : mg "sizes_of" = some (.ref f_sizes_of)
  f_are_sizes : Addr
  fd_are_sizes : FuncData
  F_are_sizes : Fun K "_are_sizes" "_are_sizes" d_are_sizes f_are_sizes fd_are_sizes
  b_are_sizes : Binds K fd_are_sizes ["rings"] []
  g_are_sizes : mg "_are_sizes" = some (.ref f_are_sizes)
  f_weighted_sum : Addr
  fd_weighted_sum : FuncData
  F_weighted_sum : Fun K "weighted_sum" "weighted_sum" d_weighted_sum f_weighted_sum fd_weighted_sum
  b_weighted_sum : Binds K fd_weighted_sum ["weights", "vector"] []
  g_weighted_sum : mg "weighted_sum" = some (.ref f_weighted_sum)
  f_has_residue : Addr
  fd_has_residue : FuncData
  F_has_residue : Fun K "has_residue" "has_residue" d_has_residue f_has_residue fd_has_residue
  b_has_residue : Binds K fd_has_residue ["witness", "seat"] []
  g_has_residue : mg "has_residue" = some (.ref f_has_residue)
  f_common_divisor : Addr
  fd_common_divisor : FuncData
  F_common_divisor : Fun K "common_divisor" "common_divisor" d_common_divisor f_common_divisor fd_common_divisor
  b_common_divisor : Binds K fd_common_divisor ["modulus", "weights"] []
  g_common_divisor : mg "common_divisor" = some (.ref f_common_divisor)
  f_odd_part : Addr
  fd_odd_part : FuncData
  F_odd_part : Fun K "odd_part" "odd_part" d_odd_part f_odd_part fd_odd_part
  b_odd_part : Binds K fd_odd_part ["size"] []
  g_odd_part : mg "odd_part" = some (.ref f_odd_part)
  f_difference : Addr
  fd_difference : FuncData
  F_difference : Fun K "difference" "difference" d_difference f_difference fd_difference
  b_difference : Binds K fd_difference ["seat", "other"] []
  g_difference : mg "difference" = some (.ref f_difference)
  f_shift_basis : Addr
  fd_shift_basis : FuncData
  F_shift_basis : Fun K "shift_basis" "shift_basis" d_shift_basis f_shift_basis fd_shift_basis
  b_shift_basis : Binds K fd_shift_basis ["sizes", "targets"] []
  g_shift_basis : mg "shift_basis" = some (.ref f_shift_basis)
  f_pivot_product : Addr
  fd_pivot_product : FuncData
  F_pivot_product : Fun K "pivot_product" "pivot_product" d_pivot_product f_pivot_product fd_pivot_product
  b_pivot_product : Binds K fd_pivot_product ["basis"] []
  g_pivot_product : mg "pivot_product" = some (.ref f_pivot_product)
  f_inverse_column : Addr
  fd_inverse_column : FuncData
  F_inverse_column : Fun K "inverse_column" "inverse_column" d_inverse_column f_inverse_column fd_inverse_column
  b_inverse_column : Binds K fd_inverse_column ["basis", "modulus", "column"] []
  g_inverse_column : mg "inverse_column" = some (.ref f_inverse_column)
  f_diagonal : Addr
  fd_diagonal : FuncData
  F_diagonal : Fun K "_diagonal" "_diagonal" d_diagonal f_diagonal fd_diagonal
  b_diagonal : Binds K fd_diagonal ["entries"] []
  g_diagonal : mg "_diagonal" = some (.ref f_diagonal)
  f_with_vector : Addr
  fd_with_vector : FuncData
  F_with_vector : Fun K "_with_vector" "_with_vector" d_with_vector f_with_vector fd_with_vector
  b_with_vector : Binds K fd_with_vector ["basis", "odds", "vector"] []
  g_with_vector : mg "_with_vector" = some (.ref f_with_vector)
  f_reduced : Addr
  fd_reduced : FuncData
  F_reduced : Fun K "_reduced" "_reduced" d_reduced f_reduced fd_reduced
  b_reduced : Binds K fd_reduced ["vector", "odds"] []
  g_reduced : mg "_reduced" = some (.ref f_reduced)
  f_coset_count : Addr
  fd_coset_count : FuncData
  F_coset_count : Fun K "coset_count" "coset_count" d_coset_count f_coset_count fd_coset_count
  b_coset_count : Binds K fd_coset_count ["table", "targets"] []
  g_coset_count : mg "coset_count" = some (.ref f_coset_count)
  f_reach : Addr
  fd_reach : FuncData
  F_reach : Fun K "reach" "reach" d_reach f_reach fd_reach
  b_reach : Binds K fd_reach ["table", "targets", "seat"] []
  g_reach : mg "reach" = some (.ref f_reach)
  f_check_witness : Addr
  fd_check_witness : FuncData
  F_check_witness : Fun K "check_witness" "check_witness" d_check_witness f_check_witness fd_check_witness
  b_check_witness : Binds K fd_check_witness ["table", "targets", "seat", "witness"] []
  g_check_witness : mg "check_witness" = some (.ref f_check_witness)
  f_short_witness : Addr
  fd_short_witness : FuncData
  F_short_witness : Fun K "_short_witness" "_short_witness" d_short_witness f_short_witness fd_short_witness
  b_short_witness : Binds K fd_short_witness ["modulus", "weights", "target"] []
  g_short_witness : mg "_short_witness" = some (.ref f_short_witness)
  f_law_mixed : Addr
  fd_law_mixed : FuncData
  F_law_mixed : Fun K "_law_mixed" "_law_mixed" d_law_mixed f_law_mixed fd_law_mixed
  b_law_mixed : Binds K fd_law_mixed ["_law_cell", "_law_draw"] []
  g_law_mixed : mg "_law_mixed" = some (.ref f_law_mixed)
  f_law_source : Addr
  fd_law_source : FuncData
  F_law_source : Fun K "_law_source" "_law_source" d_law_source f_law_source fd_law_source
  b_law_source : Binds K fd_law_source ["_law_cell"] []
  g_law_source : mg "_law_source" = some (.ref f_law_source)
  f_law_take : Addr
  fd_law_take : FuncData
  F_law_take : Fun K "_law_take" "_law_take" d_law_take f_law_take fd_law_take
  b_law_take : Binds K fd_law_take ["_law_source_here", "_law_count"] []
  g_law_take : mg "_law_take" = some (.ref f_law_take)
  f_law_seat : Addr
  fd_law_seat : FuncData
  F_law_seat : Fun K "_law_seat" "_law_seat" d_law_seat f_law_seat fd_law_seat
  b_law_seat : Binds K fd_law_seat ["_law_source_here", "_law_sizes"] []
  g_law_seat : mg "_law_seat" = some (.ref f_law_seat)
  f_law_all : Addr
  fd_law_all : FuncData
  F_law_all : Fun K "_law_all" "_law_all" d_law_all f_law_all fd_law_all
  b_law_all : Binds K fd_law_all ["_law_sizes"] []
  g_law_all : mg "_law_all" = some (.ref f_law_all)
  f_law_sum : Addr
  fd_law_sum : FuncData
  F_law_sum : Fun K "_law_sum" "_law_sum" d_law_sum f_law_sum fd_law_sum
  b_law_sum : Binds K fd_law_sum ["_law_first", "_law_second", "_law_sizes"] []
  g_law_sum : mg "_law_sum" = some (.ref f_law_sum)
  f_law_times : Addr
  fd_law_times : FuncData
  F_law_times : Fun K "_law_times" "_law_times" d_law_times f_law_times fd_law_times
  b_law_times : Binds K fd_law_times ["_law_factor", "_law_first", "_law_sizes"] []
  g_law_times : mg "_law_times" = some (.ref f_law_times)
  f_law_closed : Addr
  fd_law_closed : FuncData
  F_law_closed : Fun K "_law_closed" "_law_closed" d_law_closed f_law_closed fd_law_closed
  b_law_closed : Binds K fd_law_closed ["_law_sizes", "_law_goals_here"] []
  g_law_closed : mg "_law_closed" = some (.ref f_law_closed)
  f_law_small : Addr
  fd_law_small : FuncData
  F_law_small : Fun K "_law_small" "_law_small" d_law_small f_law_small fd_law_small
  b_law_small : Binds K fd_law_small ["_law_source_here"] []
  g_law_small : mg "_law_small" = some (.ref f_law_small)
  f_law_goals : Addr
  fd_law_goals : FuncData
  F_law_goals : Fun K "_law_goals" "_law_goals" d_law_goals f_law_goals fd_law_goals
  b_law_goals : Binds K fd_law_goals ["_law_source_here", "_law_sizes"] []
  g_law_goals : mg "_law_goals" = some (.ref f_law_goals)
  f_law_value : Addr
  fd_law_value : FuncData
  F_law_value : Fun K "_law_value" "_law_value" d_law_value f_law_value fd_law_value
  b_law_value : Binds K fd_law_value ["_law_sheet", "_law_one"] []
  g_law_value : mg "_law_value" = some (.ref f_law_value)
  f_law_is_witness : Addr
  fd_law_is_witness : FuncData
  F_law_is_witness : Fun K "_law_is_witness" "_law_is_witness" d_law_is_witness f_law_is_witness fd_law_is_witness
  b_law_is_witness : Binds K fd_law_is_witness ["_law_sizes", "_law_sheet"] []
  g_law_is_witness : mg "_law_is_witness" = some (.ref f_law_is_witness)
  f_law_due : Addr
  fd_law_due : FuncData
  F_law_due : Fun K "_law_due" "_law_due" d_law_due f_law_due fd_law_due
  b_law_due : Binds K fd_law_due ["_law_sizes", "_law_goals_here", "_law_origin", "_law_sheet"] []
  g_law_due : mg "_law_due" = some (.ref f_law_due)
  f_law_check : Addr
  fd_law_check : FuncData
  F_law_check : Fun K "_law_check" "_law_check" d_law_check f_law_check fd_law_check
  b_law_check : Binds K fd_law_check ["_law_source_here"] []
  g_law_check : mg "_law_check" = some (.ref f_law_check)
  f_law : Addr
  fd_law : FuncData
  F_law : Fun K "law" "law" d_law f_law fd_law
  b_law : Binds K fd_law ["_law_script"] []
  g_law : mg "law" = some (.ref f_law)
  c_Table : Addr
  g_Table : mg "Table" = some (.ref c_Table)
  cl_Table : Cls K c_Table
  M_Table : Mk K c_Table f_Table_init
  m_Table_sizes : Meth K c_Table "sizes" f_Table_sizes
  m_Table_count : Meth K c_Table "count" f_Table_count
  no_Table_sizes : NoAttr K c_Table "_sizes"
  ins_Table : C8.InsC K c_Table
  kb_coset_count_targets_table : KBn K fd_coset_count ["table", "targets"] 0 ["targets", "table"] (fun us ws => [ws.getD 1 Value.none, ws.getD 0 Value.none]) (fun us ws => [ws.getD 1 V.non, ws.getD 0 V.non])
  kb_reach_seat_targets_table : KBn K fd_reach ["table", "targets", "seat"] 0 ["seat", "targets", "table"] (fun us ws => [ws.getD 2 Value.none, ws.getD 1 Value.none, ws.getD 0 Value.none]) (fun us ws => [ws.getD 2 V.non, ws.getD 1 V.non, ws.getD 0 V.non])
  b_gcd : mg "gcd" = some (.builtin "math.gcd")
  v_MAX_RINGS : Value
  g_MAX_RINGS : mg "MAX_RINGS" = some v_MAX_RINGS
  r_MAX_RINGS : RelV (.int 4) v_MAX_RINGS
  n_all : mg "all" = none
  n_bool : mg "bool" = none
  n_dict : mg "dict" = none
  n_enumerate : mg "enumerate" = none
  n_int : mg "int" = none
  n_isinstance : mg "isinstance" = none
  n_len : mg "len" = none
  n_list : mg "list" = none
  n_range : mg "range" = none
  n_reversed : mg "reversed" = none
  n_set : mg "set" = none
  n_sorted : mg "sorted" = none
  n_sum : mg "sum" = none
  n_tuple : mg "tuple" = none
  n_zip : mg "zip" = none
-- RD5
local macro_rules | `(tactic| walk_at "rd") => `(tactic| simp only [cxOf, Cx.nox, Cx.wish, L2.start, tVar, tC, t2I, tIsN, tNotN, tB, tAnd, tOr, tNot, tAndV, tOrV, tNotV, L2.tIf, tNext, tSeq, tBreak, tCont, tDrop, tRet, tRetN, tIfS, tNever, gName, gNil, gCons, gTup, gSub, tAsg, tPar, tPar3, tAug, ipI, tOp, tUn, rI, rI0, rU, rEq, rNe, tTest, tChain, tFld, tCon, sFld, tNil, tCons, tTup, tLst, tCall, tMeth, tMake, tMakeK, tMethK, tCallK, tCallN, tCB, tNoPart, tPart, tSl, rIxL, rIxT, rSetL, rSlL, rAppend, rAll, rIsI, rIsA, tAppend, tLc_eq, tLc2_eq, tFor_eq, tStarH, tRevL, tRevT, tBits, tFmtB, tListZip, tAsg3, sFldAug, rOrI, tDGet, tDIn, tDNotIn, tDGet1, tDGet2, sDPut, tDNewT, tDNewK, tPopI, tMaxVals, tUpdP, tDcT, tLock, tLockE, iKeys, tUpdT, tCallK0, tExtend, tClear, tRever, tPop0, tLstRg, tBM, rGcd, rLcm, iSeqH, iSeqS, iZ2H, iZ3H, iEnH, iRevR, tRg1, tRg2, iRng1H, iRng2H, gTupH, tYes, wipe, scal_int, scal_str, scal_bl, List.map_cons, List.map_nil, List.replicate, List.length_cons, List.length_nil, List.cons_append, List.nil_append, List.append_nil, List.getElem?_cons_zero, List.getElem?_cons_succ, List.set_cons_zero, List.set_cons_succ, Option.some.injEq, V.int.injEq, V.bl.injEq, V.ref.injEq, V.str.injEq, V.ty.injEq, HO.lst.injEq, HO.tup.injEq, HO.ins.injEq, List.cons.injEq, and_true, true_and, and_assoc, exists_and_left, exists_and_right, exists_eq_left, exists_eq_left', exists_eq_right, exists_const, exists_eq, exists_eq', exists_false, exists_prop, false_and, and_false, false_or, or_false, true_or, or_true, List.length_map, Int.natCast_inj, Bool.not_eq_true', decide_eq_false_iff_not, decide_eq_true_eq, List.getElem?_map, Option.map_some, Option.map_none, Option.map_eq_some_iff, upd_same, sz_le, atI_0, atI_1, atI_2, ixN_30, ixN_31, ixN_32, cpow_10, cdivW_small, Int.reduceToNat, Int.reducePow, Int.reduceAdd, Int.reduceSub, Int.reduceMul, Int.reduceNeg, Int.reduceLT, Int.reduceLE, ge_iff_le, gt_iff_lt, Nat.reduceLeDiff, putF_one, lookup_one, Bool.not_true, Bool.not_false, if_true, if_false, Bool.false_eq_true, ite_true, ite_false, Nat.reduceAdd, Nat.reduceSub, Nat.add_zero, Nat.zero_add, Nat.sub_self, reduceCtorEq, decide_true, decide_false, Bool.or_false, Bool.or_true, Bool.and_true, Bool.and_false])
local macro_rules | `(tactic| walk_at "rh") => `(tactic| simp only [cxOf, Cx.nox, Cx.wish, L2.start, tVar, tC, t2I, tIsN, tNotN, tB, tAnd, tOr, tNot, tAndV, tOrV, tNotV, L2.tIf, tNext, tSeq, tBreak, tCont, tDrop, tRet, tRetN, tIfS, tNever, gName, gNil, gCons, gTup, gSub, tAsg, tPar, tPar3, tAug, ipI, tOp, tUn, rI, rI0, rU, rEq, rNe, tTest, tChain, tFld, tCon, sFld, tNil, tCons, tTup, tLst, tCall, tMeth, tMake, tMakeK, tMethK, tCallK, tCallN, tCB, tNoPart, tPart, tSl, rIxL, rIxT, rSetL, rSlL, rAppend, rAll, rIsI, rIsA, tAppend, tLc_eq, tLc2_eq, tFor_eq, tStarH, tRevL, tRevT, tBits, tFmtB, tListZip, tAsg3, sFldAug, rOrI, tDGet, tDIn, tDNotIn, tDGet1, tDGet2, sDPut, tDNewT, tDNewK, tPopI, tMaxVals, tUpdP, tDcT, tLock, tLockE, iKeys, tUpdT, tCallK0, tExtend, tClear, tRever, tPop0, tLstRg, tBM, rGcd, rLcm, iSeqH, iSeqS, iZ2H, iZ3H, iEnH, iRevR, tRg1, tRg2, iRng1H, iRng2H, gTupH, tYes, wipe, scal_int, scal_str, scal_bl, List.map_cons, List.map_nil, List.replicate, List.length_cons, List.length_nil, List.cons_append, List.nil_append, List.append_nil, List.getElem?_cons_zero, List.getElem?_cons_succ, List.set_cons_zero, List.set_cons_succ, Option.some.injEq, V.int.injEq, V.bl.injEq, V.ref.injEq, V.str.injEq, V.ty.injEq, HO.lst.injEq, HO.tup.injEq, HO.ins.injEq, List.cons.injEq, and_true, true_and, and_assoc, exists_and_left, exists_and_right, exists_eq_left, exists_eq_left', exists_eq_right, exists_const, exists_eq, exists_eq', exists_false, exists_prop, false_and, and_false, false_or, or_false, true_or, or_true, List.length_map, Int.natCast_inj, Bool.not_eq_true', decide_eq_false_iff_not, decide_eq_true_eq, List.getElem?_map, Option.map_some, Option.map_none, Option.map_eq_some_iff, upd_same, sz_le, atI_0, atI_1, atI_2, ixN_30, ixN_31, ixN_32, cpow_10, cdivW_small, Int.reduceToNat, Int.reducePow, Int.reduceAdd, Int.reduceSub, Int.reduceMul, Int.reduceNeg, Int.reduceLT, Int.reduceLE, ge_iff_le, gt_iff_lt, Nat.reduceLeDiff, putF_one, lookup_one, Bool.not_true, Bool.not_false, if_true, if_false, Bool.false_eq_true, ite_true, ite_false, Nat.reduceAdd, Nat.reduceSub, Nat.add_zero, Nat.zero_add, Nat.sub_self, reduceCtorEq, decide_true, decide_false, Bool.or_false, Bool.or_true, Bool.and_true, Bool.and_false, *])

/-! ### what the program's checks answer -/
theorem TyOf.same {K : PySem.W.Frag} {H H' : Hp} {x : V} {t : Value} (e : Same H H') (h : TyOf K H x t) : TyOf K H' x t := by
  cases h with
  | non => exact .non
  | bl b => exact .bl b
  | int i => exact .int i
  | str y => exact .str y
  | flt y => exact .flt y
  | lst ea => exact .lst (e _ _ ea)
  | frz ea => exact .frz (e _ _ ea)
  | tup ea => exact .tup (e _ _ ea)
  | dK ea => exact .dK (e _ _ ea)
  | dT ea => exact .dT (e _ _ ea)
  | ins ea cl ha hn htk hm => exact .ins (e _ _ ea) cl ha hn htk hm
theorem TyX.same {K : PySem.W.Frag} {H H' : Hp} {x : V} {t : Value} (e : Same H H') (h : TyX K H x t) : TyX K H' x t := by
  cases h with
  | base b => exact .base (TyOf.same e b)
  | byt b => exact .byt b
  | set ea => exact .set (e _ _ ea)
  | kList a b => exact .kList a b
  | kTuple a b => exact .kTuple a b
  | kDict a b => exact .kDict a b
  | fTuple ea => exact .fTuple (e _ _ ea)
  | fDict ea => exact .fDict (e _ _ ea)
theorem IsI.same {K : PySem.W.Frag} {H H' : Hp} {x c : V} {b : Bool} (e : Same H H') (h : IsI K H x c b) : IsI K H' x c b := by
  obtain ⟨t, u, h1, h2, h3⟩ := h
  exact ⟨t, u, h1, TyX.same e h2, h3⟩
theorem IsA.same {K : PySem.W.Frag} {H H' : Hp} {x : V} {cs : List V} {b : Bool} (e : Same H H') (h : IsA K H x cs b) : IsA K H' x cs b := by
  obtain ⟨t, us, h1, h2, h3⟩ := h
  exact ⟨t, us, h1, TyX.same e h2, h3⟩
/-- is_integer(x) is b -/
def IsInt (K : PySem.W.Frag) (H : Hp) (x : V) (b : Bool) : Prop := ∃ b1 b2, IsI K H x (.ty "int") b1 ∧ (b1 = true → IsI K H x (.ty "bool") b2) ∧ b = (b1 && !b2)
theorem IsInt.same {K : PySem.W.Frag} {H H' : Hp} {x : V} {b : Bool} (e : Same H H') (h : IsInt K H x b) : IsInt K H' x b := by
  obtain ⟨b1, b2, h1, h2, h3⟩ := h
  exact ⟨b1, b2, IsI.same e h1, fun z => IsI.same e (h2 z), h3⟩
theorem isInt_int {K : PySem.W.Frag} {H : Hp} (n : Int) : IsInt K H (.int n) true := ⟨true, false, isI_ty (.base (.int n)) (by decide +kernel), fun _ => isI_ty (.base (.int n)) (by decide +kernel), rfl⟩
/-- is_integer(x) and 0 <= x < s is c -/
def PlaceB (K : PySem.W.Frag) (H : Hp) (x : V) (s : Int) (c : Bool) : Prop := (IsInt K H x false ∧ c = false) ∨ ∃ n, x = .int n ∧ c = (decide (0 ≤ n) && decide (n < s))
theorem PlaceB.same {K : PySem.W.Frag} {H H' : Hp} {x : V} {s : Int} {c : Bool} (e : Same H H') (h : PlaceB K H x s c) : PlaceB K H' x s c := by
  rcases h with ⟨h, q⟩ | h
  · exact .inl ⟨IsInt.same e h, q⟩
  · exact .inr h
/-- is_seat(sizes, x) is b -/
def SeatB (K : PySem.W.Frag) (H : Hp) (ss : List Int) (x : V) (b : Bool) : Prop := (IsI K H x (.ty "tuple") false ∧ b = false) ∨ ∃ p xs, x = .ref p ∧ H p = some (.tup xs) ∧ ((xs.length ≠ ss.length ∧ b = false) ∨
  (xs.length = ss.length ∧ xs.length ≤ sizeLine ∧ ∃ bs : List Bool, bs.length = xs.length ∧ b = bs.all id ∧ ∀ (i : Nat) x s c, xs[i]? = some x → ss[i]? = some s → bs[i]? = some c → PlaceB K H x s c))
/-- is_call(sizes, x) is b -/
def CallB (K : PySem.W.Frag) (H : Hp) (n : Nat) (x : V) (b : Bool) : Prop := (IsI K H x (.ty "tuple") false ∧ b = false) ∨ ∃ p xs, x = .ref p ∧ H p = some (.tup xs) ∧ ((xs.length ≠ n ∧ b = false) ∨
  (xs.length = n ∧ xs.length ≤ sizeLine ∧ ∃ bs : List Bool, bs.length = xs.length ∧ b = bs.all id ∧ ∀ (i : Nat) x c, xs[i]? = some x → bs[i]? = some c → IsInt K H x c))
/-- is_direction(x) is b -/
def DirB (K : PySem.W.Frag) (H : Hp) (x : V) (b : Bool) : Prop := (IsI K H x (.ty "str") false ∧ b = false) ∨ ∃ z : Str, x = .str z ∧ b = (z == "forward" || z == "backward")
/-- _are_sizes(x) is b -/
def SizesB (K : PySem.W.Frag) (H : Hp) (x : V) (b : Bool) : Prop := (IsA K H x [.ty "list", .ty "tuple"] false ∧ b = false) ∨ ∃ k p xs, x = .ref p ∧ Sqh k H p xs ∧ ((¬ (1 ≤ xs.length ∧ xs.length ≤ 4) ∧ b = false) ∨
  (1 ≤ xs.length ∧ xs.length ≤ 4 ∧ ∃ bs : List Bool, bs.length = xs.length ∧ b = bs.all id ∧ ∀ (i : Nat) x c, xs[i]? = some x → bs[i]? = some c → (IsInt K H x false ∧ c = false) ∨ ∃ n, x = .int n ∧ c = decide (1 ≤ n)))
/-- a table at a, of the sizes ss -/
def TabAt (C : Addr) (H : Hp) (a : Addr) (ss : List Int) : Prop := ∃ dx t, H a = some (.ins C dx [("_sizes", .ref t)]) ∧ H t = some (.tup (ss.map V.int))
theorem TabAt.same {C : Addr} {H H' : Hp} {a : Addr} {ss : List Int} (e : Same H H') (h : TabAt C H a ss) : TabAt C H' a ss := by
  obtain ⟨dx, t, h1, h2⟩ := h
  exact ⟨dx, t, e _ _ h1, e _ _ h2⟩
section
variable {P : Program} {w : World} {K : PySem.W.Frag} {mg : Str → Option Value} {base : Heap}
def sp_is_integer (K : PySem.W.Frag) : Sp := fun vs H Q _ => ∃ x b, vs = [x] ∧ IsInt K H x b ∧ Q (.bl b) H
theorem ok_is_integer (T : Tx K mg) : FnOk P w K mg base CX0 1 T.f_is_integer T.fd_is_integer ["number"] (sp_is_integer K) := by
  refine T.F_is_integer.ok sc_is_integer (fun vs H Q E h => ?_) (fun cdv A outer s H vs Q E hr h => ?_)
  · obtain ⟨x, b, rfl, _⟩ := h; rfl
  · obtain ⟨x, b, rfl, ⟨b1, b2, h1, h2, rfl⟩, q⟩ := h
    refine ⟨_, (pss_one (ps_ret (pe_and (pe_callB (call_isIK (K := K) rfl) (by rfl) T.n_isinstance (by decide +kernel) (pa_cons (pv 0) (pa_cons (pe_bltn (v := .ty "int") (by rfl) T.n_int (by decide +kernel) rfl) pa_nil))) (pe_one (pe_not (pe_callB (call_isIK (K := K) rfl) (by rfl) T.n_isinstance (by decide +kernel) (pa_cons (pv 0) (pa_cons (pe_bltn (v := .ty "bool") (by rfl) T.n_bool (by decide +kernel) rfl) pa_nil)))))))), ?_⟩
    walk_at "rd"
    refine ⟨b1, h1, ?_⟩
    cases b1 with
    | false => walk_at "rd"; exact q
    | true =>
      walk_at "rd"
      exact ⟨b2, h2 rfl, q⟩
def sp_is_seat (K : PySem.W.Frag) : Sp := fun vs H Q _ => ∃ k a ss x b, vs = [.ref a, x] ∧ Sqh k H a (ss.map V.int) ∧ SeatB K H ss x b ∧ ∀ H', Same H H' → Q (.bl b) H'
theorem ok_is_seat (T : Tx K mg) : FnOk P w K mg base CX0 1 T.f_is_seat T.fd_is_seat ["sizes", "seat"] (sp_is_seat K) := by
  refine T.F_is_seat.ok sc_is_seat (fun vs H Q E h => ?_) (fun cdv A outer s H vs Q E hr h => ?_)
  · obtain ⟨k, a, ss, x, b, rfl, _⟩ := h; rfl
  · obtain ⟨k, a, ss, x, b, rfl, hs, hb, q⟩ := h
    refine ⟨_, (pss_cons (ps_if (PW.pt (pw_or (pt_not (pt_val (pe_callB (call_isIK (K := K) rfl) (by rfl) T.n_isinstance (by decide +kernel) (pa_cons (pv 1) (pa_cons (pe_bltn (v := .ty "tuple") (by rfl) T.n_tuple (by decide +kernel) rfl) pa_nil))))) (pw_or1 (pt_cmpR op_ne (pe_callB len_H (by rfl) T.n_len PySem.boot_len (pa_cons (pv 1) pa_nil)) (pe_callB len_H (by rfl) T.n_len PySem.boot_len (pa_cons (pv 0) pa_nil)) (nomark _))))) (pss_one (ps_ret pe_bl)) pss_nil)
      (pss_cons (ps_for PassesOwn.never rfl (pi_z2H (by rfl) T.n_zip (pa_cons (pv 1) (pa_cons (pv 0) pa_nil))) (pg_tupH (n := 2) rfl (pgs_cons (pg_name (i := 2) sc_is_seat.nd rfl (Or.inl rfl)) (pgs_cons (pg_name (i := 3) sc_is_seat.nd rfl (Or.inl rfl)) pgs_nil)))
        (pss_one (ps_if (PW.pt (pw_or (pt_not (pt_val (pe_callB (call_isIK (K := K) rfl) (by rfl) T.n_isinstance (by decide +kernel) (pa_cons (pv 2) (pa_cons (pe_bltn (v := .ty "int") (by rfl) T.n_int (by decide +kernel) rfl) pa_nil))))) (pw_or (pt_val (pe_callB (call_isIK (K := K) rfl) (by rfl) T.n_isinstance (by decide +kernel) (pa_cons (pv 2) (pa_cons (pe_bltn (v := .ty "bool") (by rfl) T.n_bool (by decide +kernel) rfl) pa_nil)))) (pw_or1 (pt_not (pt_chain op_le op_lt pe_int (pv 2) (pv 3))))))) (pss_one (ps_ret pe_bl)) pss_nil)))
      (pss_one (ps_ret pe_bl)))), ?_⟩
    walk_at "rd"
    rcases hb with ⟨h1, rfl⟩ | ⟨p, xs, rfl, hp, hb⟩
    · refine ⟨false, h1, ?_⟩
      walk_at "rd"
      exact q _ (Same.refl _)
    · refine ⟨true, isI_tup hp, ?_⟩
      have main : ∀ (hl : xs.length = ss.length) (J : It) (bs : List Bool), xs.length ≤ sizeLine → bs.length = xs.length → b = bs.all id → (∀ (i : Nat) x s c, xs[i]? = some x → ss[i]? = some s → bs[i]? = some c → PlaceB K H x s c) → Walk J xs.length (fun H => Sqh false H p xs ∧ Sqh k H a (ss.map V.int)) (YPair (fun i => xs[i]?) (fun i => (ss.map V.int)[i]?)) →
          ForR J (gTupH 2 (gCons (gName 2) (gCons (gName 3) gNil)))
                    (tIfS
                      (tOr (tNot (tB (tCB (rIsI K) (tCons (tVar 2) (tCons (tC (V.ty "int")) tNil)))))
                        (tOr (tB (tCB (rIsI K) (tCons (tVar 2) (tCons (tC (V.ty "bool")) tNil))))
                          (tNot
                            (tTest
                              (tChain (rI0 fun i j => V.bl (decide (i ≤ j))) (rI0 fun i j => V.bl (decide (i < j)))
                                (tC (V.int 0)) (tVar 2) (tVar 3))))))
                      (tRet (tC (V.bl false))) tNext)
                    { nx := tRet (tC (V.bl true)) { nx := fun x H' => Q V.non H', rt := Q }, rt := Q }
                    [some (V.ref a), some (V.ref p), none, none] H := fun hl J bs hz hbl hb hbs W => by
        subst hb
        refine forr W (fun i σ H' => Same H H' ∧ (∃ v2 v3, σ = [some (V.ref a), some (V.ref p), v2, v3]) ∧ (bs.take i).all id = true) ⟨Same.refl _, ⟨none, none, rfl⟩, rfl⟩ (fun i σ H' _ h => ⟨h.1 _ _ hp, hs.same h.1⟩) ?_ ?_
        · rintro i x σ2 H2 H3 hi ⟨s2, ⟨v2, v3, rfl⟩, hall⟩ ⟨T0, x1, y1, rfl, hT, rfl, e1, e2⟩
          simp only [List.getElem?_map, Option.map_eq_some_iff] at e1 e2
          obtain ⟨s3, hs3, rfl⟩ := e2
          have hib : i < bs.length := by rw [hbl]; exact hi
          have hc := List.getElem?_eq_getElem hib
          have sT := Same.new hT (o := .tup [x1, .int s3])
          have hpl := PlaceB.same (s2.trans sT) (hbs i x1 s3 _ e1 hs3 hc)
          have hno : bs[i] = false → bs.all id = false := fun e => by
            rw [Bool.eq_false_iff]
            intro h
            have := List.all_eq_true.mp h _ (List.getElem_mem hib)
            simp [e] at this
          have hyes : bs[i] = true → (bs.take (i + 1)).all id = true := fun e => by
            rw [List.take_add_one, hc, List.all_append, hall]
            simp [e]
          walk_at "rd"
          generalize upd H2 T0 (HO.tup [x1, V.int s3]) = H3 at sT hpl ⊢
          rcases hpl with ⟨⟨b1, b2, h1, h2, h3⟩, h0⟩ | ⟨n, rfl, h0⟩
          · rw [hno h0] at q
            refine ⟨b1, h1, ?_⟩
            cases b1 with
            | false => walk_at "rd"; exact q _ (s2.trans sT)
            | true =>
              walk_at "rd"
              refine ⟨b2, h2 rfl, ?_⟩
              cases b2 with
              | true => walk_at "rd"; exact q _ (s2.trans sT)
              | false => cases h3
          · rw [isI_int_int]
            walk_at "rd"
            rw [isI_int_bool]
            walk_at "rd"
            by_cases h4 : 0 ≤ n
            · rw [if_pos h4]
              rw [decide_eq_true h4, Bool.true_and] at h0
              by_cases h5 : n < s3
              · rw [if_neg (by omega)]
                exact ⟨s2.trans sT, hyes (by rw [h0, decide_eq_true h5])⟩
              · rw [if_pos (by omega)]
                rw [hno (by rw [h0, decide_eq_false h5])] at q
                exact q _ (s2.trans sT)
            · rw [if_neg h4]
              rw [decide_eq_false h4, Bool.false_and] at h0
              rw [hno h0] at q
              exact q _ (s2.trans sT)
        · rintro σ2 H2 ⟨s2, ⟨v2, v3, rfl⟩, hall⟩
          walk_at "rd"
          rw [← hbl, List.take_length] at hall
          rw [hall] at q
          exact q _ s2
      cases k with
      | true =>
        have hs' : H a = some (.lst (ss.map V.int)) := hs
        walk_at "rh"
        rcases hb with ⟨hl, rfl⟩ | ⟨hl, hz, bs, hbl, e, hbs⟩
        · rw [if_pos hl]; exact q _ (Same.refl _)
        · rw [if_neg (fun h => h hl)]
          exact ⟨false, true, xs, hp, _, hs, by rw [List.length_map]; exact hl, fun J W => main hl J bs hz hbl e hbs W⟩
      | false =>
        have hs' : H a = some (.tup (ss.map V.int)) := hs
        walk_at "rh"
        rcases hb with ⟨hl, rfl⟩ | ⟨hl, hz, bs, hbl, e, hbs⟩
        · rw [if_pos hl]; exact q _ (Same.refl _)
        · rw [if_neg (fun h => h hl)]
          exact ⟨false, false, xs, hp, _, hs, by rw [List.length_map]; exact hl, fun J W => main hl J bs hz hbl e hbs W⟩
/-- is_place(size, x) -/
def sp_is_place (K : PySem.W.Frag) : Sp := fun vs H Q _ => ∃ s x c, vs = [.int s, x] ∧ PlaceB K H x s c ∧ Q (.bl c) H
theorem ok_is_place (T : Tx K mg) : FnOk P w K mg base CX0 1 T.f_is_place T.fd_is_place ["size", "place"] (sp_is_place K) := by
  refine T.F_is_place.ok sc_is_place (fun vs H Q E h => ?_) (fun cdv A outer s H vs Q E hr h => ?_)
  · obtain ⟨z, x, c, rfl, _⟩ := h; rfl
  · obtain ⟨z, x, c, rfl, hb, q⟩ := h
    refine ⟨_, (pss_one (ps_ret (pe_and (pe_callB (call_isIK (K := K) rfl) (by rfl) T.n_isinstance (by decide +kernel) (pa_cons (pv 1) (pa_cons (pe_bltn (v := .ty "int") (by rfl) T.n_int (by decide +kernel) rfl) pa_nil))) (pe_and (pe_not (pe_callB (call_isIK (K := K) rfl) (by rfl) T.n_isinstance (by decide +kernel) (pa_cons (pv 1) (pa_cons (pe_bltn (v := .ty "bool") (by rfl) T.n_bool (by decide +kernel) rfl) pa_nil)))) (pe_one (pe_chain op_le op_lt pe_int (pv 1) (pv 0))))))), ?_⟩
    walk_at "rd"
    rcases hb with ⟨⟨b1, b2, h1, h2, h3⟩, rfl⟩ | ⟨n, rfl, rfl⟩
    · refine ⟨b1, h1, ?_⟩
      cases b1 with
      | false => walk_at "rd"; exact q
      | true =>
        walk_at "rd"
        refine ⟨b2, h2 rfl, ?_⟩
        cases b2 with
        | true => walk_at "rd"; exact q
        | false => cases h3
    · rw [isI_int_int]
      walk_at "rd"
      rw [isI_int_bool]
      walk_at "rd"
      by_cases h4 : 0 ≤ n
      · rw [if_pos h4]
        rw [decide_eq_true h4, Bool.true_and] at q
        exact q
      · rw [if_neg h4]
        rw [decide_eq_false h4, Bool.false_and] at q
        exact q
def sp_is_call (K : PySem.W.Frag) : Sp := fun vs H Q _ => ∃ k a ss x b, vs = [.ref a, x] ∧ Sqh k H a ss ∧ CallB K H ss.length x b ∧ ∀ H', Same H H' → Q (.bl b) H'
def sp_is_direction (K : PySem.W.Frag) : Sp := fun vs H Q _ => ∃ x b, vs = [x] ∧ DirB K H x b ∧ ∀ H', Same H H' → Q (.bl b) H'
def sp_require_seat (K : PySem.W.Frag) : Sp := fun vs H Q _ => ∃ k a ss x, vs = [.ref a, x] ∧ Sqh k H a (ss.map V.int) ∧ SeatB K H ss x true ∧ ∀ H', Same H H' → Q .non H'
theorem ok_require_seat (T : Tx K mg) : FnOk P w K mg base CX0 2 T.f_require_seat T.fd_require_seat ["sizes", "seat"] (sp_require_seat K) := by
  refine T.F_require_seat.ok sc_require_seat (fun vs H Q E h => ?_) (fun cdv A outer s H vs Q E hr h => ?_)
  · obtain ⟨k, a, ss, x, rfl, _⟩ := h; rfl
  · obtain ⟨k, a, ss, x, rfl, hs, hb, q⟩ := h
    refine ⟨_, (pss_one (ps_if (pt_not (pt_val (pe_call (ok_is_seat T) (hr.mono (by decide)) (by rfl) T.g_is_seat T.F_is_seat.kp T.b_is_seat .nil pass0 (pa_cons (pv 0) (pa_cons (pv 1) pa_nil))))) (pss_one ps_never) pss_nil)), ?_⟩
    walk_at "rd"
    refine ⟨k, a, ss, x, true, rfl, hs, hb, fun H' s1 => ?_⟩
    walk_at "rd"
    exact q _ s1
def sp_require_call (K : PySem.W.Frag) : Sp := fun vs H Q _ => ∃ k a ss x, vs = [.ref a, x] ∧ Sqh k H a ss ∧ CallB K H ss.length x true ∧ ∀ H', Same H H' → Q .non H'
def sp_require_direction (K : PySem.W.Frag) : Sp := fun vs H Q _ => ∃ x, vs = [x] ∧ DirB K H x true ∧ ∀ H', Same H H' → Q .non H'
def sp_are_sizes (K : PySem.W.Frag) : Sp := fun vs H Q _ => ∃ x b, vs = [x] ∧ SizesB K H x b ∧ ∀ H', Same H H' → Q (.bl b) H'
theorem ok_are_sizes (T : Tx K mg) : FnOk P w K mg base CX0 2 T.f_are_sizes T.fd_are_sizes ["rings"] (sp_are_sizes K) := by
  refine T.F_are_sizes.ok sc_are_sizes (fun vs H Q E h => ?_) (fun cdv A outer s H vs Q E hr h => ?_)
  · obtain ⟨x, b, rfl, _⟩ := h; rfl
  · obtain ⟨x, b, rfl, hb, q⟩ := h
    refine ⟨_, (pss_cons (ps_if (PW.pt (pw_or (pt_not (pt_val (pe_callB (call_isAK (K := K) rfl) (by rfl) T.n_isinstance (by decide +kernel) (pa_cons (pv 0) (pa_cons (pe_tup (pa_cons (pe_bltn (v := .ty "list") (by rfl) T.n_list (by decide +kernel) rfl) (pa_cons (pe_bltn (v := .ty "tuple") (by rfl) T.n_tuple (by decide +kernel) rfl) pa_nil))) pa_nil))))) (pw_or1 (pt_not (pt_chain op_le op_le pe_int (pe_callB len_H (by rfl) T.n_len PySem.boot_len (pa_cons (pv 0) pa_nil)) (pe_glob (by rfl) T.g_MAX_RINGS T.r_MAX_RINGS)))))) (pss_one (ps_ret pe_bl)) pss_nil)
      (pss_one (ps_ret (pe_callB (all_H rfl) (by rfl) T.n_all (by decide +kernel) (pa_cons (pe_lc (own := [("size", 1)]) (g := (gName 1)) (tt := tYes) rfl sc_are_sizes.nd (pi_seqH (pv 0)) (blkOk_by (own := [("size", 1)]) (N := N_are_sizes) (sc := defScope d_are_sizes) (by decide +kernel)) (fun _ _ _ _ _ => (pg_name (i := 1) sc_are_sizes.nd rfl (Or.inl rfl))) (fun _ _ _ _ _ => pts_nil) (fun _ _ _ _ _ => (pe_and (pe_call (ok_is_integer T) (hr.mono (by decide)) (by rfl) T.g_is_integer T.F_is_integer.kp T.b_is_integer .nil pass0 (pa_cons (pv 1) pa_nil)) (pe_one (pe_cmpR op_ge (pv 1) pe_int (nomark _)))))) pa_nil))))), ?_⟩
    walk_at "rd"
    intro tp htp
    have s1 := Same.new htp (o := .tup [V.ty "list", V.ty "tuple"])
    generalize upd H tp (HO.tup [V.ty "list", V.ty "tuple"]) = H1 at s1 ⊢
    rcases hb with ⟨h1, rfl⟩ | ⟨k, p, xs, rfl, hs, hb⟩
    · refine ⟨false, IsA.same s1 h1, ?_⟩
      rw [if_pos rfl]
      exact q _ s1
    · have hs1 : Sqh k H1 p xs := hs.same s1
      have main : ∀ (J : It) (G : Hp → Prop) (bs : List Bool), xs.length ≤ sizeLine → bs.length = xs.length → b = bs.all id → (∀ (i : Nat) x c, xs[i]? = some x → bs[i]? = some c → (IsInt K H x false ∧ c = false) ∨ ∃ n, x = .int n ∧ c = decide (1 ≤ n)) → (∀ H2, Same H1 H2 → G H2) → Walk J xs.length G (YAt xs) →
          LcR J (gName 1) tYes (tAndV (tCall (sp_is_integer K) [] E0 (tCons (tVar 1) tNil)) (tOp (rI0 fun i j => V.bl (decide (j ≤ i))) (tVar 1) (tC (V.int 1)))) [1] [some (V.ref p), none] H1
            fun x H1 => ∃ p, x = V.ref p ∧ ∃ bs : List Bool, H1 p = some (HO.lst (List.map V.bl bs)) ∧ Q (V.bl (bs.all id)) H1 := fun J G bs hz hbl hb hbs hG W => by
        subst hb
        refine lcr_map W (bs.map V.bl) (by rw [List.length_map]; exact hbl) hz hG (fun _ _ _ _ y => YAt.same y) ?_ ?_
        · intro i x H2 H3 y Qy hi s2 hy hr hq
          obtain ⟨rfl, hx⟩ := hy
          simp only [List.getElem?_map, Option.map_eq_some_iff] at hr
          obtain ⟨c, hc, rfl⟩ := hr
          walk_at "rd"
          rcases hbs i x c hx hc with ⟨h0, rfl⟩ | ⟨n, rfl, rfl⟩
          · refine ⟨_, false, rfl, IsInt.same (s1.trans s2) h0, ?_⟩
            walk_at "rd"
            exact hq _ (Same.refl _)
          · refine ⟨_, true, rfl, isInt_int n, ?_⟩
            walk_at "rd"
            exact hq _ (Same.refl _)
        · intro D H2 hD s2 h1
          exact ⟨D, rfl, bs, h1, q _ (s1.trans s2)⟩
      cases k with
      | true =>
        have hs' : H1 p = some (.lst xs) := hs1
        refine ⟨true, isA_two (.base (.lst hs')) (b1 := true) (b2 := false) (by decide +kernel) (by decide +kernel) rfl, ?_⟩
        walk_at "rh"
        rcases hb with ⟨hl, rfl⟩ | ⟨hl, hz, bs, hbl, e, hbs⟩
        · by_cases h1 : 1 ≤ xs.length
          · rw [if_pos (by omega), if_pos (by omega)]; exact q _ s1
          · rw [if_neg (by omega)]; exact q _ s1
        · rw [if_pos (by omega), if_neg (by omega)]
          exact fun J W => main J _ bs (Nat.le_trans hz (by decide)) hbl e hbs (fun H2 s2 => s2 _ _ hs') W
      | false =>
        have hs' : H1 p = some (.tup xs) := hs1
        refine ⟨true, isA_two (.base (.tup hs')) (b1 := false) (b2 := true) (by decide +kernel) (by decide +kernel) rfl, ?_⟩
        walk_at "rh"
        rcases hb with ⟨hl, rfl⟩ | ⟨hl, hz, bs, hbl, e, hbs⟩
        · by_cases h1 : 1 ≤ xs.length
          · rw [if_pos (by omega), if_pos (by omega)]; exact q _ s1
          · rw [if_neg (by omega)]; exact q _ s1
        · rw [if_pos (by omega), if_neg (by omega)]
          exact fun J W => main J _ bs (Nat.le_trans hz (by decide)) hbl e hbs (fun H2 s2 => s2 _ _ hs') W
/-- an instance is written; all else is as it was -/
def sp_Table_init (K : PySem.W.Frag) (C : Addr) : Sp := fun vs H Q _ => ∃ (a dx : Addr) (x : V) (p : Addr) (k : Bool) (ss : List Int), vs = [.ref a, x] ∧ H a = some (.ins C dx []) ∧ x = .ref p ∧ Sqh k H p (ss.map V.int) ∧ 1 ≤ ss.length ∧ ss.length ≤ 4 ∧ (∀ n ∈ ss, 1 ≤ n) ∧
  ∀ H' t, Sx a H H' → H' a = some (.ins C dx [("_sizes", .ref t)]) → H' t = some (.tup (ss.map V.int)) → Q .non H'
theorem ok_Table_init (T : Tx K mg) : FnOk P w K mg base CX0 3 T.f_Table_init T.fd_Table_init ["self", "rings"] (sp_Table_init K T.c_Table) := by
  refine T.F_Table_init.ok sc_Table_init (fun vs H Q E h => ?_) (fun cdv A outer s H vs Q E hr h => ?_)
  · obtain ⟨a, dx, x, p, k, ss, rfl, _⟩ := h; rfl
  · obtain ⟨a, dx, x, p, k, ss, rfl, ha, rfl, hs, h1, h4, hpos, q⟩ := h
    refine ⟨_, (pss_cons (ps_if (pt_not (pt_val (pe_call (ok_are_sizes T) (hr.mono (by decide)) (by rfl) T.g_are_sizes T.F_are_sizes.kp T.b_are_sizes .nil pass0 (pa_cons (pv 1) pa_nil)))) (pss_one ps_never) pss_nil)
      (pss_one (ps_fld (pv 0) (pe_callTy tuple_H (by rfl) T.n_tuple (by decide +kernel) (pa_cons (pv 1) pa_nil)) rfl))), ?_⟩
    walk_at "rd"
    refine ⟨_, true, rfl, .inr ⟨k, p, ss.map V.int, rfl, hs, .inr ⟨by rw [List.length_map]; exact h1, by rw [List.length_map]; exact h4, List.replicate ss.length true, by simp, by simp, fun i x c hx hc => ?_⟩⟩, fun H1 s1 => ?_⟩
    · simp only [List.getElem?_map, Option.map_eq_some_iff] at hx
      obtain ⟨n, hn, rfl⟩ := hx
      have hi : i < ss.length := (List.getElem?_eq_some_iff.mp hn).1
      rw [List.getElem?_replicate, if_pos hi] at hc
      refine .inr ⟨n, rfl, ?_⟩
      rw [decide_eq_true (hpos n (List.mem_of_getElem? hn))]
      exact (Option.some.inj hc).symm
    · have ha1 := s1 _ _ ha
      have hs1 := hs.same s1
      have cl := T.cl_Table
      have no := T.no_Table_sizes
      walk_at "rd"
      cases k with
      | true =>
        have hs' : H1 p = some (.lst (ss.map V.int)) := hs1
        walk_at "rh"
        intro l hl
        have e1 : upd H1 l (.tup (ss.map V.int)) a = some (.ins T.c_Table dx []) := by rw [upd_old hl (by rw [ha1]; simp)]; exact ha1
        rw [e1]
        refine ⟨_, _, _, rfl, cl, no, by decide, ?_⟩
        have nla : l ≠ a := fun e => by rw [e, ha1] at hl; cases hl
        exact q _ l (Sx.trans (Sx.of (s1.trans (Same.new hl))) Sx.put) upd_same (by rw [upd_ne nla]; exact upd_same)
      | false =>
        have hs' : H1 p = some (.tup (ss.map V.int)) := hs1
        walk_at "rh"
        have npa : p ≠ a := ne_two hs' ha1 (by simp)
        exact ⟨by decide, q _ p (Sx.trans (Sx.of s1) Sx.put) upd_same (by rw [upd_ne npa]; exact hs')⟩
def sp_Table_sizes (K : PySem.W.Frag) (C : Addr) : Sp := fun vs H Q _ => ∃ (a : Addr) (ss : List Int), vs = [.ref a] ∧ TabAt C H a ss ∧ ∀ t, H t = some (.tup (ss.map V.int)) → Q (.ref t) H
theorem ok_Table_sizes (T : Tx K mg) : FnOk P w K mg base CX0 1 T.f_Table_sizes T.fd_Table_sizes ["self"] (sp_Table_sizes K T.c_Table) := by
  refine T.F_Table_sizes.ok sc_Table_sizes (fun vs H Q E h => ?_) (fun cdv A outer s H vs Q E hr h => ?_)
  · obtain ⟨a, ss, rfl, _⟩ := h; rfl
  · obtain ⟨a, ss, rfl, ⟨dx, t, h1, h2⟩, q⟩ := h
    refine ⟨_, (pss_one (ps_ret (pe_fld (pv 0) rfl))), ?_⟩
    have cl := T.cl_Table
    have no := T.no_Table_sizes
    walk_at "rh"
def prodI (ss : List Int) : Int := ss.foldl (fun a b => a * b) 1
theorem prodI_take {ss : List Int} {i : Nat} {n : Int} (h : ss[i]? = some n) : prodI (ss.take (i + 1)) = prodI (ss.take i) * n := by
  unfold prodI
  rw [List.take_add_one, h, List.foldl_append]
  rfl
theorem prodI_small {B : Nat} : ∀ {ss : List Int}, (∀ n ∈ ss, n.natAbs < 2 ^ B) → (prodI ss).natAbs < 2 ^ (B * ss.length + 1) := by
  have gen : ∀ (ss : List Int) (a : Int) (A : Nat), (∀ n ∈ ss, n.natAbs < 2 ^ B) → a.natAbs < 2 ^ A → (ss.foldl (fun a b => a * b) a).natAbs < 2 ^ (A + B * ss.length) := by
    intro ss
    induction ss with
    | nil => intro a A _ h; simpa using h
    | cons x r ih =>
      intro a A h ha
      have h1 : (a * x).natAbs < 2 ^ (A + B) := wide_lt ha (h x (List.mem_cons_self ..))
      have h2 := ih (a * x) (A + B) (fun n hn => h n (List.mem_cons_of_mem _ hn)) h1
      rw [List.length_cons, Nat.mul_succ, show A + (B * r.length + B) = A + B + B * r.length by omega]
      exact h2
  intro ss h
  have q := gen ss 1 1 h (by decide)
  rw [Nat.add_comm 1] at q
  exact q
/-- the sizes of a table that is used: 1 to 4, each of at most 1000 bits -/
structure Sz (ss : List Int) : Prop where
  lo : 1 ≤ ss.length
  hi : ss.length ≤ 4
  pos : ∀ n ∈ ss, 1 ≤ n
  bits : ∀ n ∈ ss, n.natAbs < 2 ^ 1000
theorem Sz.mul {ss : List Int} (z : Sz ss) {i : Nat} {n : Int} (h : ss[i]? = some n) : CMulW (prodI (ss.take i)) n := by
  have h1 := prodI_small (B := 1000) (ss := ss.take i) fun n hn => z.bits n (List.mem_of_mem_take hn)
  have h2 := z.bits n (List.mem_of_getElem? h)
  have h3 : (ss.take i).length ≤ 4 := Nat.le_trans (by rw [List.length_take]; omega) z.hi
  exact wide_mul h1 h2 (by omega) (by omega) (by omega)
def sp_Table_count (K : PySem.W.Frag) (C : Addr) : Sp := fun vs H Q _ => ∃ (a : Addr) (ss : List Int), vs = [.ref a] ∧ TabAt C H a ss ∧ Sz ss ∧ Q (.int (prodI ss)) H
theorem ok_Table_count (T : Tx K mg) : FnOk P w K mg base CX0 1 T.f_Table_count T.fd_Table_count ["self"] (sp_Table_count K T.c_Table) := by
  refine T.F_Table_count.ok sc_Table_count (fun vs H Q E h => ?_) (fun cdv A outer s H vs Q E hr h => ?_)
  · obtain ⟨a, ss, rfl, _⟩ := h; rfl
  · obtain ⟨a, ss, rfl, ⟨dx, t, h1, h2⟩, z, q⟩ := h
    refine ⟨_, (pss_cons (ps_set (i := 1) sc_Table_count.nd rfl (Or.inl rfl) pe_int)
      (pss_cons (ps_for PassesOwn.never rfl (pi_seqH (pe_fld (pv 0) rfl)) (pg_name (i := 2) sc_Table_count.nd rfl (Or.inl rfl))
        (pss_one (ps_set (i := 1) sc_Table_count.nd rfl (Or.inl rfl) (pe_op op_mulA (pv 1) (pv 2)))))
      (pss_one (ps_ret (pv 1))))), ?_⟩
    have cl := T.cl_Table
    have no := T.no_Table_sizes
    walk_at "rh"
    intro J W
    refine forr W (fun i σ H' => H' = H ∧ ∃ v, σ = [some (V.ref a), some (V.int (prodI (ss.take i))), v]) ⟨rfl, _, rfl⟩ (fun i σ H' _ hp => by rw [hp.1]; exact h2) ?_ ?_
    · rintro i x σ H1 H2 hi ⟨rfl, v, rfl⟩ ⟨rfl, hx⟩
      simp only [List.getElem?_map, Option.map_eq_some_iff] at hx
      obtain ⟨n, hn, rfl⟩ := hx
      walk_at "rd"
      refine ⟨.inr (.inr (z.mul hn)), ?_⟩
      rw [prodI_take hn]
    · rintro σ H1 ⟨rfl, v, rfl⟩
      walk_at "rd"
      rw [List.take_length]
      exact q
/-- the places of the steps -/
def mv (g : Int → Int → Int) : List Int → List Int → List Int → List Int
  | p :: ps, c :: cs, s :: ss => (g p c % s) :: mv g ps cs ss
  | _, _, _ => []
theorem mv_len {g : Int → Int → Int} : ∀ {ps cs ss : List Int}, ps.length = cs.length → cs.length = ss.length → (mv g ps cs ss).length = ps.length
  | [], [], [], _, _ => rfl
  | p :: ps, c :: cs, s :: ss, h1, h2 => by
    show (mv g ps cs ss).length + 1 = ps.length + 1
    rw [mv_len (by simpa using h1) (by simpa using h2)]
theorem mv_get {g : Int → Int → Int} : ∀ {ps cs ss : List Int} {i : Nat} {p c s : Int}, ps[i]? = some p → cs[i]? = some c → ss[i]? = some s → (mv g ps cs ss)[i]? = some (g p c % s)
  | p :: ps, c :: cs, s :: ss, 0, _, _, _, h1, h2, h3 => by
    simp only [List.getElem?_cons_zero, Option.some.injEq] at h1 h2 h3
    subst h1 h2 h3
    rfl
  | p :: ps, c :: cs, s :: ss, i + 1, _, _, _, h1, h2, h3 => mv_get (ps := ps) (cs := cs) (ss := ss) (i := i) h1 h2 h3
  | [], _, _, _, _, _, _, h, _, _ => by simp at h
  | _ :: _, [], _, _, _, _, _, _, h, _ => by simp at h
  | _ :: _, _ :: _, [], _, _, _, _, _, _, h => by simp at h
/-- ps a seat of the sizes ss -/
structure Seat (ss ps : List Int) : Prop where
  len : ps.length = ss.length
  ok : ∀ (i : Nat) p s, ps[i]? = some p → ss[i]? = some s → 0 ≤ p ∧ p < s
theorem Seat.b {K : PySem.W.Frag} {H : Hp} {ss ps : List Int} {p : Addr} (h : Seat ss ps) (z : Sz ss) (hp : H p = some (.tup (ps.map V.int))) : SeatB K H ss (.ref p) true := by
  refine .inr ⟨p, _, rfl, hp, .inr ⟨by rw [List.length_map]; exact h.len, ?_, List.replicate ps.length true, by simp, by simp, fun i x s c hx hs hc => ?_⟩⟩
  · have h4 := z.hi
    have hl := h.len
    rw [List.length_map]
    exact Nat.le_trans (by omega : ps.length ≤ 4) (by decide)
  · simp only [List.getElem?_map, Option.map_eq_some_iff] at hx
    obtain ⟨n, hn, rfl⟩ := hx
    have hi : i < ps.length := (List.getElem?_eq_some_iff.mp hn).1
    rw [List.getElem?_replicate, if_pos hi] at hc
    obtain ⟨h1, h2⟩ := h.ok i n s hn hs
    refine .inr ⟨n, rfl, ?_⟩
    rw [decide_eq_true h1, decide_eq_true h2]
    exact (Option.some.inj hc).symm
theorem call_b {K : PySem.W.Frag} {H : Hp} {cs : List Int} {n : Nat} {p : Addr} (h : cs.length = n) (hn : n ≤ 4) (hp : H p = some (.tup (cs.map V.int))) : CallB K H n (.ref p) true := by
  refine .inr ⟨p, _, rfl, hp, .inr ⟨by rw [List.length_map]; exact h, ?_, List.replicate cs.length true, by simp, by simp, fun i x c hx hc => ?_⟩⟩
  · rw [List.length_map]
    exact Nat.le_trans (by omega : cs.length ≤ 4) (by decide)
  · simp only [List.getElem?_map, Option.map_eq_some_iff] at hx
    obtain ⟨m, hm, rfl⟩ := hx
    have hi : i < cs.length := (List.getElem?_eq_some_iff.mp hm).1
    rw [List.getElem?_replicate, if_pos hi] at hc
    obtain rfl := Option.some.inj hc
    exact isInt_int m
def fw (p c : Int) : Int := p + c
def bw (p c : Int) : Int := p - c
def sp_both_moves (K : PySem.W.Frag) : Sp := fun vs H Q _ => ∃ (kt : Bool) (t p c : Addr) (ss ps cs : List Int), vs = [.ref t, .ref p, .ref c] ∧ Sqh kt H t (ss.map V.int) ∧ H p = some (.tup (ps.map V.int)) ∧ H c = some (.tup (cs.map V.int)) ∧ ps.length = cs.length ∧ cs.length = ss.length ∧ ss.length ≤ 4 ∧ (∀ n ∈ ss, 0 < n) ∧
  ∀ H' r f b, Same H H' → H' r = some (.tup [.ref f, .ref b]) → H' f = some (.tup ((mv fw ps cs ss).map V.int)) → H' b = some (.tup ((mv bw ps cs ss).map V.int)) → Q (.ref r) H'
theorem mv_snoc {g : Int → Int → Int} {ps cs ss : List Int} {i : Nat} {p c s : Int} (h1 : ps[i]? = some p) (h2 : cs[i]? = some c) (h3 : ss[i]? = some s) : (mv g ps cs ss).take (i + 1) = (mv g ps cs ss).take i ++ [g p c % s] := by
  rw [List.take_add_one, mv_get h1 h2 h3]
  rfl
def sp_Table_moves (K : PySem.W.Frag) (C : Addr) : Sp := fun vs H Q _ => ∃ (a p c : Addr) (ss ps cs : List Int), vs = [.ref a, .ref p, .ref c] ∧ TabAt C H a ss ∧ Sz ss ∧ H p = some (.tup (ps.map V.int)) ∧ Seat ss ps ∧ H c = some (.tup (cs.map V.int)) ∧ cs.length = ss.length ∧
  ∀ H' r f b, Same H H' → H' r = some (.tup [.ref f, .ref b]) → H' f = some (.tup ((mv fw ps cs ss).map V.int)) → H' b = some (.tup ((mv bw ps cs ss).map V.int)) → Q (.ref r) H'
def sp_stepped (K : PySem.W.Frag) : Sp := fun vs H Q _ => ∃ (kt : Bool) (t p c : Addr) (z : Str) (ss ps cs : List Int), vs = [.ref t, .ref p, .ref c, .str z] ∧ Sqh kt H t (ss.map V.int) ∧ H p = some (.tup (ps.map V.int)) ∧ H c = some (.tup (cs.map V.int)) ∧ ps.length = cs.length ∧ cs.length = ss.length ∧ ss.length ≤ 4 ∧ (∀ n ∈ ss, 0 < n) ∧ (z = "forward" ∨ z = "backward") ∧
  ∀ H' f, Same H H' → H' f = some (.tup ((mv (if z = "forward" then fw else bw) ps cs ss).map V.int)) → Q (.ref f) H'
def sp_Table_step (K : PySem.W.Frag) (C : Addr) : Sp := fun vs H Q _ => ∃ (a p c : Addr) (z : Str) (ss ps cs : List Int), vs = [.ref a, .ref p, .ref c, .str z] ∧ TabAt C H a ss ∧ Sz ss ∧ H p = some (.tup (ps.map V.int)) ∧ Seat ss ps ∧ H c = some (.tup (cs.map V.int)) ∧ cs.length = ss.length ∧ (z = "forward" ∨ z = "backward") ∧
  ∀ H' f, Same H H' → H' f = some (.tup ((mv (if z = "forward" then fw else bw) ps cs ss).map V.int)) → Q (.ref f) H'
end

/-- lists of ints at the addresses as -/
def AsL (H : Hp) (as : List Addr) (rows : List (List Int)) : Prop := as.length = rows.length ∧ ∀ (i : Nat) t r, as[i]? = some t → rows[i]? = some r → H t = some (.lst (r.map V.int))
theorem AsL.same {H H' : Hp} {as : List Addr} {rows : List (List Int)} (e : Same H H') (h : AsL H as rows) : AsL H' as rows := ⟨h.1, fun i t r h1 h2 => e _ _ (h.2 i t r h1 h2)⟩
theorem AsL.nil {H : Hp} : AsL H [] [] := ⟨rfl, fun i t r h _ => by simp at h⟩
theorem AsL.snoc {H : Hp} {as : List Addr} {rows : List (List Int)} {t : Addr} {r : List Int} (h : AsL H as rows) (ht : H t = some (.lst (r.map V.int))) : AsL H (as ++ [t]) (rows ++ [r]) := by
  refine ⟨by rw [List.length_append, List.length_append, h.1]; rfl, fun i u g h1 h2 => ?_⟩
  by_cases hlt : i < as.length
  · rw [List.getElem?_append_left hlt] at h1
    rw [List.getElem?_append_left (by rw [← h.1]; exact hlt)] at h2
    exact h.2 i u g h1 h2
  · rw [List.getElem?_append_right (by omega)] at h1
    rw [List.getElem?_append_right (by rw [← h.1]; omega), ← h.1] at h2
    cases hk : i - as.length with
    | zero =>
      rw [hk] at h1 h2
      simp only [List.getElem?_cons_zero, Option.some.injEq] at h1 h2
      rw [← h1, ← h2]; exact ht
    | succ m => rw [hk] at h1; simp at h1
theorem AsL.put {H : Hp} {as : List Addr} {rows : List (List Int)} {D : Addr} {o : HO} (h : AsL H as rows) (hd : ∀ t ∈ as, t ≠ D) : AsL (upd H D o) as rows :=
  ⟨h.1, fun i t r h1 h2 => by rw [upd_ne (hd t (List.mem_of_getElem? h1))]; exact h.2 i t r h1 h2⟩
theorem row_ne {H : Hp} {t D : Addr} {r : List Int} {bs : List Addr} (h1 : H t = some (.lst (r.map V.int))) (h2 : H D = some (.lst (bs.map V.ref))) (h : r ≠ []) : t ≠ D := fun e => by
  rw [e, h2] at h1
  have h3 : bs.map V.ref = r.map V.int := by
    have := Option.some.inj h1
    injection this
  cases r with
  | nil => exact h rfl
  | cons x r => cases bs <;> simp at h3
theorem AsL.ne {H : Hp} {as : List Addr} {rows : List (List Int)} {D : Addr} {bs : List Addr} (h : AsL H as rows) (hD : H D = some (.lst (bs.map V.ref))) (hr : ∀ r ∈ rows, r ≠ []) : ∀ t ∈ as, t ≠ D := fun t ht => by
  obtain ⟨i, hi, e⟩ := List.getElem_of_mem ht
  have hi2 : i < rows.length := by rw [← h.1]; exact hi
  exact row_ne (h.2 i t rows[i] (by rw [List.getElem?_eq_getElem hi, e]) (List.getElem?_eq_getElem hi2)) hD (hr _ (List.getElem_mem hi2))
/-- a list of lists of ints, at a -/
def LstL (H : Hp) (a : Addr) (rows : List (List Int)) : Prop := ∃ as : List Addr, H a = some (.lst (as.map V.ref)) ∧ AsL H as rows
theorem LstL.same {H H' : Hp} {a : Addr} {rows : List (List Int)} (e : Same H H') (h : LstL H a rows) : LstL H' a rows := by
  obtain ⟨as, h1, h2⟩ := h
  exact ⟨as, e _ _ h1, h2.same e⟩

/-! ### order and halves -/
section
variable {P : Program} {w : World} {K : PySem.W.Frag} {mg : Str → Option Value} {base : Heap}
/-- one ring's part of an order -/
def ordS (c : Nat) (z : Int × Int) : Nat := Nat.lcm c (z.2 / ((Nat.gcd z.1.natAbs z.2.natAbs : Nat) : Int)).natAbs
def ordI (ps ss : List Int) : Nat := (ps.zip ss).foldl ordS 1
theorem ord_take {ps ss : List Int} {i : Nat} {p s : Int} (hp : ps[i]? = some p) (hs : ss[i]? = some s) : ((ps.zip ss).take (i + 1)).foldl ordS 1 = ordS (((ps.zip ss).take i).foldl ordS 1) (p, s) := by
  have h : (ps.zip ss)[i]? = some (p, s) := by
    rw [List.getElem?_zip_eq_some]
    exact ⟨hp, hs⟩
  rw [List.take_add_one, h, List.foldl_append]
  rfl
theorem ord_small {B : Nat} : ∀ (zs : List (Int × Int)) (c A : Nat), (∀ z ∈ zs, 1 ≤ z.2 ∧ z.2.natAbs < 2 ^ B) → c < 2 ^ A → zs.foldl ordS c < 2 ^ (A + B * zs.length)
  | [], c, A, _, h => by simpa using h
  | z :: zs, c, A, hz, hc => by
    obtain ⟨h1, h2⟩ := hz z (List.mem_cons_self ..)
    have hq : (z.2 / ((Nat.gcd z.1.natAbs z.2.natAbs : Nat) : Int)).natAbs ≤ z.2.natAbs := by
      have := Int.natAbs_ediv_le_natAbs z.2 ((Nat.gcd z.1.natAbs z.2.natAbs : Nat) : Int)
      exact this
    have h3 : ordS c z < 2 ^ (A + B) := by
      have e1 : ordS c z ≤ c * (z.2 / ((Nat.gcd z.1.natAbs z.2.natAbs : Nat) : Int)).natAbs := lcm_le_mul _ _
      rw [Nat.pow_add]
      exact Nat.lt_of_le_of_lt e1 (Nat.mul_lt_mul'' hc (Nat.lt_of_le_of_lt hq h2))
    have h4 := ord_small (B := B) zs (ordS c z) (A + B) (fun y hy => hz y (List.mem_cons_of_mem _ hy)) h3
    rw [List.length_cons, Nat.mul_succ, show A + (B * zs.length + B) = A + B + B * zs.length by omega]
    exact h4
theorem mem_zip_sz {ss ps : List Int} (z : Sz ss) : ∀ y ∈ ps.zip ss, 1 ≤ y.2 ∧ y.2.natAbs < 2 ^ 1000 := fun y hy => by
  obtain ⟨p, s⟩ := y
  have h := (List.of_mem_zip hy).2
  exact ⟨z.pos s h, z.bits s h⟩
def sp_Table_order (K : PySem.W.Frag) (C : Addr) : Sp := fun vs H Q _ => ∃ (a p : Addr) (ss ps : List Int), vs = [.ref a, .ref p] ∧ TabAt C H a ss ∧ Sz ss ∧ H p = some (.tup (ps.map V.int)) ∧ Seat ss ps ∧ ∀ H', Same H H' → Q (.int (ordI ps ss : Nat)) H'
/-- the halves of a place -/
def hpl (p s : Int) : List Int := ([p, p + s].filter fun d => d % 2 == 0).map fun d => d / 2
def sp_half_places (K : PySem.W.Frag) : Sp := fun vs H Q _ => ∃ p s : Int, vs = [.int p, .int s] ∧ ∀ H' l, Same H H' → H l = none → H' l = some (.lst ((hpl p s).map V.int)) → Q (.ref l) H'
def halF (found : List (List Int)) (z : Int × Int) : List (List Int) := found.flatMap fun h => (hpl z.1 z.2).map fun x => h ++ [x]
def halI (ps ss : List Int) : List (List Int) := (ps.zip ss).foldl halF [[]]
theorem hpl_len (p s : Int) : (hpl p s).length ≤ 2 := by
  unfold hpl
  rw [List.length_map]
  exact List.length_filter_le _ _
theorem flat_len (f : List Int → List (List Int)) (hf : ∀ h, (f h).length ≤ 2) : ∀ hss : List (List Int), (hss.flatMap f).length ≤ 2 * hss.length
  | [] => by simp
  | h :: hss => by
    rw [List.flatMap_cons, List.length_append, List.length_cons]
    have h1 := hf h
    have h2 := flat_len f hf hss
    omega
theorem halF_len (found : List (List Int)) (z : Int × Int) : (halF found z).length ≤ 2 * found.length := flat_len _ (fun h => by rw [List.length_map]; exact hpl_len _ _) found
theorem hal_len : ∀ (zs : List (Int × Int)) (found : List (List Int)), (zs.foldl halF found).length ≤ 2 ^ zs.length * found.length
  | [], found => by simp
  | z :: zs, found => by
    have h1 := hal_len zs (halF found z)
    have h2 := halF_len found z
    rw [List.foldl_cons, List.length_cons, Nat.pow_succ, Nat.mul_assoc]
    exact Nat.le_trans h1 (Nat.mul_le_mul_left _ h2)
theorem hal_take {ps ss : List Int} {i : Nat} {p s : Int} (hp : ps[i]? = some p) (hs : ss[i]? = some s) : ((ps.zip ss).take (i + 1)).foldl halF [[]] = halF (((ps.zip ss).take i).foldl halF [[]]) (p, s) := by
  have h : (ps.zip ss)[i]? = some (p, s) := by
    rw [List.getElem?_zip_eq_some]
    exact ⟨hp, hs⟩
  rw [List.take_add_one, h, List.foldl_append]
  rfl
theorem hal_in : ∀ (zs : List (Int × Int)) (found : List (List Int)) (k : Nat), (∀ h ∈ found, h.length ≤ k) → ∀ h ∈ zs.foldl halF found, h.length ≤ k + zs.length
  | [], found, k, hf, h, hh => by simpa using hf h hh
  | z :: zs, found, k, hf, h, hh => by
    rw [List.foldl_cons] at hh
    have h1 := hal_in zs (halF found z) (k + 1) (fun g hg => by
      simp only [halF, List.mem_flatMap, List.mem_map] at hg
      obtain ⟨f, hf1, x, hx, rfl⟩ := hg
      rw [List.length_append]
      have := hf f hf1
      simp
      omega) h hh
    rw [List.length_cons]
    omega
/-- one list's part of the choices -/
def choF (found : List (List Int)) (parts : List Int) : List (List Int) := found.flatMap fun h => parts.map fun x => h ++ [x]
def choI (rows : List (List Int)) : List (List Int) := rows.foldl choF [[]]
theorem choF_len (parts : List Int) : ∀ found : List (List Int), (choF found parts).length = found.length * parts.length
  | [] => by simp [choF]
  | h :: found => by
    have ih := choF_len parts found
    unfold choF at ih ⊢
    rw [List.flatMap_cons, List.length_append, ih, List.length_map, List.length_cons, Nat.succ_mul]
    omega
theorem cho_take {rows : List (List Int)} {i : Nat} {r : List Int} (h : rows[i]? = some r) : (rows.take (i + 1)).foldl choF [[]] = choF ((rows.take i).foldl choF [[]]) r := by
  rw [List.take_add_one, h, List.foldl_append]
  rfl
theorem cho_in : ∀ (rows found : List (List Int)) (k : Nat), (∀ h ∈ found, h.length ≤ k) → ∀ h ∈ rows.foldl choF found, h.length ≤ k + rows.length
  | [], found, k, hf, h, hh => by simpa using hf h hh
  | z :: zs, found, k, hf, h, hh => by
    rw [List.foldl_cons] at hh
    have h1 := cho_in zs (choF found z) (k + 1) (fun g hg => by
      simp only [choF, List.mem_flatMap, List.mem_map] at hg
      obtain ⟨f, hf1, x, hx, rfl⟩ := hg
      rw [List.length_append]
      have := hf f hf1
      simp
      omega) h hh
    rw [List.length_cons]
    omega
def sp_all_choices (K : PySem.W.Frag) : Sp := fun vs H Q _ => ∃ (o : Addr) (rows : List (List Int)), vs = [.ref o] ∧ LstL H o rows ∧ rows.length ≤ 4 ∧ (∀ i, ((rows.take i).foldl choF [[]]).length ≤ 1000) ∧ (∀ r ∈ rows, r.length ≤ 1000) ∧ ∀ H' l, Same H H' → H l = none → LstT H' l (choI rows) → Q (.ref l) H'
/-- a comprehension whose elements are new lists of ints -/
theorem lcr_lists {J : It} {n : Nat} {G : Hp → Prop} {Y : Nat → Hp → V → Hp → Prop} (W : Walk J n G Y) {g : TG} {te : TE} {vs : List Nat} {σ : L2.St} {H : Hp} {Q : VK} (rows : List (List Int)) (hl : rows.length = n) (hn : n ≤ sizeLine) (hG : ∀ H3, Same H H3 → G H3)
    (hY : ∀ i x H H', Y i H x H' → Same H H')
    (hte : ∀ i x H1 H2 r (Qy : VK), i < n → Same H H1 → Y i H1 x H2 → rows[i]? = some r → (∀ p H4, Same H2 H4 → H2 p = none → H4 p = some (.lst (r.map V.int)) → Qy (.ref p) H4) → g x (wipe σ vs) H2 fun σ2 H2 => wipe σ2 vs = wipe σ vs ∧ te σ2 H2 Qy)
    (hq : ∀ D H3, H D = none → Same H H3 → LstL H3 D rows → Q (.ref D) H3) : LcR J g tYes te vs σ H Q := fun D hD => by
  refine lc_gen W (fun i acc H' => Same H H' ∧ ∃ bs : List Addr, acc = bs.map V.ref ∧ AsL H' bs (rows.take i) ∧ ∀ b ∈ bs, b ≠ D) hn ⟨Same.new hD, [], rfl, AsL.nil, by simp⟩ (fun i acc H' _ h _ => hG _ h.1) (fun i acc H' l h hn => ?_) (fun i acc x H1 H2 Qy hi ha h e hy hq => ?_) (fun acc H' ha h e => ?_)
  · obtain ⟨h1, bs, rfl, hB, hb⟩ := h
    exact ⟨fun b o e => by rw [upd_ne (ne_some e hD)]; exact h1 b o e, bs, rfl, hB.put hb, hb⟩
  · obtain ⟨h1, bs, rfl, hB, hb⟩ := h
    have hi2 : i < rows.length := by omega
    have hr := List.getElem?_eq_getElem hi2
    have e2 := hY _ _ _ _ hy _ _ e
    refine hte i x H1 H2 _ _ hi h1 hy hr fun p H4 s4 hp f4 => ?_
    refine hq _ _ (s4 _ _ e2) ⟨h1.trans ((hY _ _ _ _ hy).trans s4), bs ++ [p], by rw [List.map_append]; rfl, ?_, fun b hb2 => ?_⟩
    · rw [List.take_add_one, hr]
      exact (hB.same ((hY _ _ _ _ hy).trans s4)).snoc f4
    · rcases List.mem_append.mp hb2 with h | h
      · exact hb b h
      · rw [List.mem_singleton.mp h]
        exact fun e3 => by rw [e3, e2] at hp; cases hp
  · obtain ⟨h1, bs, rfl, hB, hb⟩ := h
    rw [← hl, List.take_length] at hB
    exact hq D H' hD h1 ⟨bs, e, hB⟩
def sp_Table_halves (K : PySem.W.Frag) (C : Addr) : Sp := fun vs H Q _ => ∃ (a p : Addr) (ss ps : List Int), vs = [.ref a, .ref p] ∧ TabAt C H a ss ∧ Sz ss ∧ H p = some (.tup (ps.map V.int)) ∧ Seat ss ps ∧ ∀ H' l, Same H H' → H l = none → LstT H' l (halI ps ss) → Q (.ref l) H'
def hrows (ps ss : List Int) : List (List Int) := (ps.zip ss).map fun z => hpl z.1 z.2
theorem hrows_get {ps ss : List Int} {i : Nat} {p s : Int} (hp : ps[i]? = some p) (hs : ss[i]? = some s) : (hrows ps ss)[i]? = some (hpl p s) := by
  have h : (ps.zip ss)[i]? = some (p, s) := by
    rw [List.getElem?_zip_eq_some]
    exact ⟨hp, hs⟩
  unfold hrows
  rw [List.getElem?_map, h]
  rfl
theorem cho_hal (zs : List (Int × Int)) : ∀ found : List (List Int), (zs.map fun z => hpl z.1 z.2).foldl choF found = zs.foldl halF found := by
  induction zs with
  | nil => intro found; rfl
  | cons z zs ih => intro found; rw [List.map_cons, List.foldl_cons, List.foldl_cons, ih]; rfl
theorem hal_cho (ps ss : List Int) (i : Nat) : ((hrows ps ss).take i).foldl choF [[]] = ((ps.zip ss).take i).foldl halF [[]] := by
  unfold hrows
  rw [← List.map_take, cho_hal]
end

/-! ### reach -/
section
variable {P : Program} {w : World} {K : PySem.W.Frag} {mg : Str → Option Value} {base : Heap}
theorem isI_own {C a dx : Addr} {fs : List (Str × V)} {H : Hp} (c : C8.InsC K C) (ha : H a = some (.ins C dx fs)) : IsI K H (.ref a) (.ref C) true := ⟨_, _, .own C, .base (.ins ha c.cl c.ha c.hn c.htk c.hm), c.me⟩
def sp_sizes_of (K : PySem.W.Frag) (C : Addr) : Sp := fun vs H Q _ => ∃ (a : Addr) (ss : List Int), vs = [.ref a] ∧ TabAt C H a ss ∧ ∀ t, H t = some (.tup (ss.map V.int)) → Q (.ref t) H
theorem ok_sizes_of (T : Tx K mg) : FnOk P w K mg base CX0 2 T.f_sizes_of T.fd_sizes_of ["table"] (sp_sizes_of K T.c_Table) := by
  refine T.F_sizes_of.ok sc_sizes_of (fun vs H Q E h => ?_) (fun cdv A outer s H vs Q E hr h => ?_)
  · obtain ⟨a, ss, rfl, _⟩ := h; rfl
  · obtain ⟨a, ss, rfl, hT, q⟩ := h
    refine ⟨_, (pss_cons (ps_if (pt_not (pt_val (pe_callB (call_isIK (K := K) rfl) (by rfl) T.n_isinstance (by decide +kernel) (pa_cons (pv 0) (pa_cons (pe_glob (v := .ref T.c_Table) (by rfl) T.g_Table rfl) pa_nil))))) (pss_one ps_never) pss_nil)
      (pss_one (ps_ret (pe_meth0 (pv 0) T.cl_Table T.m_Table_sizes (ok_Table_sizes T) (hr.mono (by decide)) T.b_Table_sizes .nil pass0)))), ?_⟩
    obtain ⟨dx, t, h1, h2⟩ := id hT
    walk_at "rd"
    refine ⟨true, isI_own T.ins_Table h1, ?_⟩
    rw [if_neg (by decide)]
    have e : (("sizes" : Str) == ("_sizes" : Str)) = false := by decide +kernel
    exact ⟨_, _, h1, by simp [List.lookup, e], a, ss, rfl, hT, q⟩
def dot : List Int → List Int → Int
  | x :: xs, y :: ys => x * y + dot xs ys
  | _, _ => 0
theorem dot_sum : ∀ xs ys : List Int, (List.zipWith (· * ·) xs ys).sum = dot xs ys
  | [], _ => by simp [dot]
  | _ :: _, [] => by simp [dot]
  | x :: xs, y :: ys => by
    rw [List.zipWith_cons_cons, List.sum_cons, dot_sum xs ys]
    rfl
theorem zw_get {g : Int → Int → Int} {xs ys : List Int} {i : Nat} {x y : Int} (hx : xs[i]? = some x) (hy : ys[i]? = some y) : (List.zipWith g xs ys)[i]? = some (g x y) := by
  rw [List.getElem?_zipWith, hx, hy]
/-- [g(x, y) for x, y in zip(xs, ys)] -/
theorem lcr_two {J : It} {xs ys : List Int} {G : Hp → Prop} {Q : VK} {te : TE} {σ : L2.St} {H : Hp} {p q : Nat} {g : TG} (hlen : xs.length = ys.length) (hs : xs.length ≤ 64) (φ : Int → Int → Int)
    (W : Walk J (xs.map V.int).length G (YPair (fun i => (xs.map V.int)[i]?) fun i => (ys.map V.int)[i]?)) (hG : ∀ H3, Same H H3 → G H3)
    (hg : ∀ (T0 : Addr) (x y : Int) (H3 : Hp) (R : L2.St → Hp → Prop), H3 T0 = some (.tup [V.int x, V.int y]) → R ((σ.set p (some (V.int x))).set q (some (V.int y))) H3 → g (.ref T0) (wipe σ [p, q]) H3 R)
    (hw : ∀ (x y : Option V), wipe ((σ.set p x).set q y) [p, q] = wipe σ [p, q])
    (hte : ∀ (i : Nat) (x y : Int) (Qy : VK) H3, xs[i]? = some x → ys[i]? = some y → Qy (.int (φ x y)) H3 → te ((σ.set p (some (V.int x))).set q (some (V.int y))) H3 Qy)
    (hq : ∀ D H3, H D = none → Same H H3 → H3 D = some (.lst ((List.zipWith φ xs ys).map V.int)) → Q (.ref D) H3) : LcR J g tYes te [p, q] σ H Q := by
  refine lcr_map W ((List.zipWith φ xs ys).map V.int) (by simp [hlen]) (by rw [List.length_map]; exact Nat.le_trans hs (by decide)) hG (fun _ _ _ _ y => YPair.same y) ?_ hq
  intro i x H3 H4 y Qy hi s3 hy hr hq
  obtain ⟨T0, x1, y1, rfl, hT, rfl, e1, e2⟩ := hy
  simp only [List.getElem?_map, Option.map_eq_some_iff] at hr e1 e2
  obtain ⟨x2, hx2, rfl⟩ := e1
  obtain ⟨y2, hy2, rfl⟩ := e2
  rw [zw_get hx2 hy2] at hr
  obtain ⟨r, hr, rfl⟩ := hr
  obtain rfl := Option.some.inj hr
  exact hg T0 x2 y2 _ _ upd_same ⟨hw _ _, hte i x2 y2 Qy _ hx2 hy2 (hq _ (Same.refl _))⟩
def sp_weighted_sum (K : PySem.W.Frag) : Sp := fun vs H Q _ => ∃ (k1 k2 : Bool) (a b : Addr) (xs ys : List Int), vs = [.ref a, .ref b] ∧ Sqh k1 H a (xs.map V.int) ∧ Sqh k2 H b (ys.map V.int) ∧ xs.length = ys.length ∧ xs.length ≤ 64 ∧
  (∀ (i : Nat) x y, xs[i]? = some x → ys[i]? = some y → CMulA x y) ∧ ∀ H', Same H H' → Q (.int (dot xs ys)) H'
theorem ok_weighted_sum (T : Tx K mg) : FnOk P w K mg base CX0 1 T.f_weighted_sum T.fd_weighted_sum ["weights", "vector"] (sp_weighted_sum K) := by
  refine T.F_weighted_sum.ok sc_weighted_sum (fun vs H Q E h => ?_) (fun cdv A outer s H vs Q E hr h => ?_)
  · obtain ⟨k1, k2, a, b, xs, ys, rfl, _⟩ := h; rfl
  · obtain ⟨k1, k2, a, b, xs, ys, rfl, hx, hy, hl, h64, hm, q⟩ := h
    refine ⟨_, (pss_one (ps_ret (pe_callB (cr_sum rfl) (by rfl) T.n_sum (by decide +kernel) (pa_cons (pe_lc (own := [("weight", 2), ("part", 3)]) (g := (gTupH 2 (gCons (gName 2) (gCons (gName 3) gNil)))) (tt := tYes) rfl sc_weighted_sum.nd (pi_z2H (by rfl) T.n_zip (pa_cons (pv 0) (pa_cons (pv 1) pa_nil))) (blkOk_by (own := [("weight", 2), ("part", 3)]) (N := N_weighted_sum) (sc := defScope d_weighted_sum) (by decide +kernel)) (fun _ _ _ _ _ => (pg_tupH (n := 2) rfl (pgs_cons (pg_name (i := 2) sc_weighted_sum.nd rfl (Or.inl rfl)) (pgs_cons (pg_name (i := 3) sc_weighted_sum.nd rfl (Or.inl rfl)) pgs_nil)))) (fun _ _ _ _ _ => pts_nil) (fun _ _ _ _ _ => (pe_op op_mulA (pv 2) (pv 3)))) pa_nil)))), ?_⟩
    walk_at "rd"
    refine ⟨k1, k2, xs.map V.int, hx, ys.map V.int, hy, by rw [List.length_map, List.length_map, hl], fun J W => ?_⟩
    refine lcr_two (p := 2) (q := 3) hl h64 (fun x y => x * y) W (fun H3 s3 => ⟨hx.same s3, hy.same s3⟩) (fun T0 x y H3 R hT hR => ?_) (fun x y => rfl) (fun i x y Qy H3 h1 h2 hq => ?_) fun D H3 hD s3 h3 => ?_
    · walk_at "rh"
      exact hR
    · walk_at "rd"
      exact ⟨hm i x y h1 h2, hq⟩
    · refine ⟨D, List.zipWith (fun x y => x * y) xs ys, rfl, .inl (.inl h3), ?_⟩
      rw [show (List.zipWith (fun x y => x * y) xs ys).sum = dot xs ys from dot_sum xs ys]
      exact q _ s3
def sub2 (xs ys : List Int) : List Int := List.zipWith (fun x y => x - y) xs ys
def mod2 (xs ys : List Int) : List Int := List.zipWith (fun x y => x % y) xs ys
def sp_difference (K : PySem.W.Frag) : Sp := fun vs H Q _ => ∃ (k1 k2 : Bool) (a b : Addr) (xs ys : List Int), vs = [.ref a, .ref b] ∧ Sqh k1 H a (xs.map V.int) ∧ Sqh k2 H b (ys.map V.int) ∧ xs.length = ys.length ∧ xs.length ≤ 64 ∧
  ∀ H' l, Same H H' → H l = none → H' l = some (.lst ((sub2 xs ys).map V.int)) → Q (.ref l) H'
theorem ok_difference (T : Tx K mg) : FnOk P w K mg base CX0 1 T.f_difference T.fd_difference ["seat", "other"] (sp_difference K) := by
  refine T.F_difference.ok sc_difference (fun vs H Q E h => ?_) (fun cdv A outer s H vs Q E hr h => ?_)
  · obtain ⟨k1, k2, a, b, xs, ys, rfl, _⟩ := h; rfl
  · obtain ⟨k1, k2, a, b, xs, ys, rfl, hx, hy, hl, h64, q⟩ := h
    refine ⟨_, (pss_one (ps_ret (pe_lc (own := [("place", 2), ("base", 3)]) (g := (gTupH 2 (gCons (gName 2) (gCons (gName 3) gNil)))) (tt := tYes) rfl sc_difference.nd (pi_z2H (by rfl) T.n_zip (pa_cons (pv 0) (pa_cons (pv 1) pa_nil))) (blkOk_by (own := [("place", 2), ("base", 3)]) (N := N_difference) (sc := defScope d_difference) (by decide +kernel)) (fun _ _ _ _ _ => (pg_tupH (n := 2) rfl (pgs_cons (pg_name (i := 2) sc_difference.nd rfl (Or.inl rfl)) (pgs_cons (pg_name (i := 3) sc_difference.nd rfl (Or.inl rfl)) pgs_nil)))) (fun _ _ _ _ _ => pts_nil) (fun _ _ _ _ _ => (pe_op op_sub (pv 2) (pv 3)))))), ?_⟩
    walk_at "rd"
    refine ⟨k1, k2, xs.map V.int, hx, ys.map V.int, hy, by rw [List.length_map, List.length_map, hl], fun J W => ?_⟩
    refine lcr_two (p := 2) (q := 3) hl h64 (fun x y => x - y) W (fun H3 s3 => ⟨hx.same s3, hy.same s3⟩) (fun T0 x y H3 R hT hR => ?_) (fun x y => rfl) (fun i x y Qy H3 h1 h2 hq => ?_) fun D H3 hD s3 h3 => q _ D s3 hD h3
    · walk_at "rh"
      exact hR
    · walk_at "rd"
      exact hq
def sp_reduced (K : PySem.W.Frag) : Sp := fun vs H Q _ => ∃ (k1 k2 : Bool) (a b : Addr) (xs ys : List Int), vs = [.ref a, .ref b] ∧ Sqh k1 H a (xs.map V.int) ∧ Sqh k2 H b (ys.map V.int) ∧ xs.length = ys.length ∧ xs.length ≤ 64 ∧ (∀ y ∈ ys, 0 < y) ∧
  ∀ H' l, Same H H' → H l = none → H' l = some (.lst ((mod2 xs ys).map V.int)) → Q (.ref l) H'
theorem ok_reduced (T : Tx K mg) : FnOk P w K mg base CX0 1 T.f_reduced T.fd_reduced ["vector", "odds"] (sp_reduced K) := by
  refine T.F_reduced.ok sc_reduced (fun vs H Q E h => ?_) (fun cdv A outer s H vs Q E hr h => ?_)
  · obtain ⟨k1, k2, a, b, xs, ys, rfl, _⟩ := h; rfl
  · obtain ⟨k1, k2, a, b, xs, ys, rfl, hx, hy, hl, h64, hp, q⟩ := h
    refine ⟨_, (pss_one (ps_ret (pe_lc (own := [("part", 2), ("odd", 3)]) (g := (gTupH 2 (gCons (gName 2) (gCons (gName 3) gNil)))) (tt := tYes) rfl sc_reduced.nd (pi_z2H (by rfl) T.n_zip (pa_cons (pv 0) (pa_cons (pv 1) pa_nil))) (blkOk_by (own := [("part", 2), ("odd", 3)]) (N := N_reduced) (sc := defScope d_reduced) (by decide +kernel)) (fun _ _ _ _ _ => (pg_tupH (n := 2) rfl (pgs_cons (pg_name (i := 2) sc_reduced.nd rfl (Or.inl rfl)) (pgs_cons (pg_name (i := 3) sc_reduced.nd rfl (Or.inl rfl)) pgs_nil)))) (fun _ _ _ _ _ => pts_nil) (fun _ _ _ _ _ => (pe_op op_mod (pv 2) (pv 3)))))), ?_⟩
    walk_at "rd"
    refine ⟨k1, k2, xs.map V.int, hx, ys.map V.int, hy, by rw [List.length_map, List.length_map, hl], fun J W => ?_⟩
    refine lcr_two (p := 2) (q := 3) hl h64 (fun x y => x % y) W (fun H3 s3 => ⟨hx.same s3, hy.same s3⟩) (fun T0 x y H3 R hT hR => ?_) (fun x y => rfl) (fun i x y Qy H3 h1 h2 hq => ?_) fun D H3 hD s3 h3 => q _ D s3 hD h3
    · walk_at "rh"
      exact hR
    · walk_at "rd"
      exact ⟨hp y (List.mem_of_getElem? h2), hq⟩
/-! the odd part -/
def lowN (n : Nat) : Nat := n - (n &&& (n - 1))
theorem low_even {q : Nat} (h : 0 < q) : lowN (2 * q) = 2 * lowN q := by
  unfold lowN
  have e : (2 * q) &&& (2 * q - 1) = 2 * (q &&& (q - 1)) := by
    have h1 : ((2 * q) &&& (2 * q - 1)) / 2 = q &&& (q - 1) := by
      rw [Nat.and_div_two, show 2 * q / 2 = q by omega, show (2 * q - 1) / 2 = q - 1 by omega]
    have h2 : ((2 * q) &&& (2 * q - 1)) % 2 = 0 := by
      have h3 := Nat.and_mod_two_pow (a := 2 * q) (b := 2 * q - 1) (n := 1)
      rw [Nat.pow_one, show (2 * q) % 2 = 0 by omega, Nat.zero_and] at h3
      exact h3
    omega
  have h4 : q &&& (q - 1) ≤ q := Nat.and_le_left
  rw [e]
  omega
theorem low_odd (q : Nat) : lowN (2 * q + 1) = 1 := by
  unfold lowN
  have e : (2 * q + 1) &&& (2 * q + 1 - 1) = 2 * q := by
    have h1 : ((2 * q + 1) &&& (2 * q + 1 - 1)) / 2 = q := by
      rw [Nat.and_div_two, show (2 * q + 1) / 2 = q by omega, show (2 * q + 1 - 1) / 2 = q by omega, Nat.and_self]
    have h2 : ((2 * q + 1) &&& (2 * q + 1 - 1)) % 2 = 0 := by
      have h3 := Nat.and_mod_two_pow (a := 2 * q + 1) (b := 2 * q + 1 - 1) (n := 1)
      rw [Nat.pow_one, show (2 * q + 1 - 1) % 2 = 0 by omega, Nat.and_zero] at h3
      exact h3
    omega
  omega
def oddN (n : Nat) : Nat := n / lowN n
theorem odd_even {q : Nat} (h : 0 < q) : oddN (2 * q) = oddN q := by
  unfold oddN
  rw [low_even h, Nat.mul_div_mul_left _ _ (by decide)]
theorem odd_odd (q : Nat) : oddN (2 * q + 1) = 2 * q + 1 := by
  unfold oddN
  rw [low_odd, Nat.div_one]
/-- a size is its odd part times a power of 2 -/
theorem odd_split : ∀ n : Nat, 0 < n → ∃ k, n = oddN n * 2 ^ k ∧ oddN n % 2 = 1 := by
  intro n
  induction n using Nat.strongRecOn with
  | ind n ih =>
    intro h
    by_cases h2 : n % 2 = 0
    · obtain ⟨q, rfl⟩ : ∃ q, n = 2 * q := ⟨n / 2, by omega⟩
      obtain ⟨k, e1, e2⟩ := ih q (by omega) (by omega)
      rw [odd_even (by omega)]
      exact ⟨k + 1, by rw [Nat.pow_succ, ← Nat.mul_assoc, ← e1]; omega, e2⟩
    · obtain ⟨q, rfl⟩ : ∃ q, n = 2 * q + 1 := ⟨n / 2, by omega⟩
      rw [odd_odd]
      exact ⟨0, by simp, by omega⟩
theorem odd_pos {n : Nat} (h : 0 < n) : 0 < oddN n := by
  obtain ⟨k, _, e⟩ := odd_split n h
  omega
theorem low_pos {n : Nat} (h : 0 < n) : 0 < lowN n := by
  have h1 := odd_pos h
  unfold oddN at h1
  by_cases e : lowN n = 0
  · rw [e] at h1; simp at h1
  · omega
theorem and_neg {n : Nat} (h : 0 < n) : Builtin.bitAnd (n : Int) (-(n : Int)) = (lowN n : Nat) := by
  rw [bitAnd_pn (by omega) (by omega)]
  have e : (Builtin.bitNot (-(n : Int))).toNat = n - 1 := by
    unfold Builtin.bitNot
    omega
  rw [e, Int.toNat_natCast]
  unfold lowN
  have h4 : n &&& (n - 1) ≤ n := Nat.and_le_left
  omega
def oddI (s : Int) : Int := (oddN s.toNat : Nat)
def sp_odd_part (K : PySem.W.Frag) : Sp := fun vs H Q _ => ∃ s : Int, vs = [.int s] ∧ 1 ≤ s ∧ s.natAbs < 2 ^ 6000 ∧ Q (.int (oddI s)) H
theorem ok_odd_part (T : Tx K mg) : FnOk P w K mg base CX0 1 T.f_odd_part T.fd_odd_part ["size"] (sp_odd_part K) := by
  refine T.F_odd_part.ok sc_odd_part (fun vs H Q E h => ?_) (fun cdv A outer s H vs Q E hr h => ?_)
  · obtain ⟨z, rfl, _⟩ := h; rfl
  · obtain ⟨z, rfl, h1, hb, q⟩ := h
    refine ⟨_, (pss_one (ps_ret (pe_op op_fdivW (pv 0) (pe_op op_and (pv 0) (pe_un un_neg (pv 0)))))), ?_⟩
    obtain ⟨n, rfl⟩ := Int.eq_ofNat_of_zero_le (by omega : 0 ≤ z)
    have hn : 0 < n := by omega
    walk_at "rd"
    rw [and_neg hn]
    have hle : lowN n ≤ n := Nat.sub_le _ _
    have hlp := low_pos hn
    refine ⟨wide_div (b := 6000) (by omega) (by rw [Int.natAbs_natCast] at hb ⊢; omega) (by decide) (by decide), ?_⟩
    have e : ((n : Int) / (lowN n : Nat)) = oddI n := by
      unfold oddI oddN
      rw [Int.toNat_natCast, Int.natCast_ediv]
    rw [e]
    exact q
theorem ixN_in {n i : Nat} (h : i < n) : ixN n (i : Int) = some i := by
  unfold ixN
  simp [h]
def rowI (es : List Int) (i : Nat) : List Int := (List.replicate es.length (0 : Int)).set i (es.getD i 0)
def diagI (es : List Int) : List (List Int) := (List.range es.length).map (rowI es)
theorem flat0 (k : Nat) : (List.replicate k [V.int 0]).flatten = (List.replicate k (0 : Int)).map V.int := by
  induction k with
  | zero => rfl
  | succ k ih => rw [List.replicate_succ, List.flatten_cons, ih, List.replicate_succ]; rfl
theorem diag_take {es : List Int} {i : Nat} (h : i < es.length) : (diagI es).take (i + 1) = (diagI es).take i ++ [rowI es i] := by
  have e : (diagI es)[i]? = some (rowI es i) := by
    unfold diagI
    rw [List.getElem?_map, List.getElem?_range h]
    rfl
  rw [List.take_add_one, e]
  rfl
def MD1 (l : Addr) (H : Hp) (σ : L2.St) (H' : Hp) : Prop := ∃ D, σ = [some (V.ref l), some (V.ref D), none, none, none] ∧ Same H H' ∧ H D = none ∧ H' D = some (.lst [])
def MD2 (l D : Addr) (es : List Int) (H : Hp) (σ : L2.St) (H' : Hp) : Prop := ∃ v2 v3 v4, σ = [some (V.ref l), some (V.ref D), v2, v3, v4] ∧ Same H H' ∧ LstL H' D (diagI es)
def MD3 (l D : Addr) (i : Nat) (e : Int) (es : List Int) (H : Hp) (σ : L2.St) (H' : Hp) : Prop := ∃ r, σ = [some (V.ref l), some (V.ref D), some (V.int (i : Nat)), some (V.int e), some (V.ref r)] ∧ Same H H' ∧ H r = none ∧ H' r = some (.lst ((List.replicate es.length (0 : Int)).map V.int))
def MD4 (l D r : Addr) (i : Nat) (e : Int) (es : List Int) (H : Hp) (σ : L2.St) (H' : Hp) : Prop := σ = [some (V.ref l), some (V.ref D), some (V.int (i : Nat)), some (V.int e), some (V.ref r)] ∧ Same H H' ∧ H' r = some (.lst ((rowI es i).map V.int))
def sp_diagonal (K : PySem.W.Frag) : Sp := fun vs H Q _ => ∃ (l : Addr) (es : List Int), vs = [.ref l] ∧ H l = some (.lst (es.map V.int)) ∧ es.length ≤ 64 ∧ ∀ H' D, Same H H' → H D = none → LstL H' D (diagI es) → Q (.ref D) H'
theorem ok_diagonal (T : Tx K mg) : FnOk P w K mg base CX0 1 T.f_diagonal T.fd_diagonal ["entries"] (sp_diagonal K) := by
  refine T.F_diagonal.ok sc_diagonal (fun vs H Q E h => ?_) (fun cdv A outer s H vs Q E hr h => ?_)
  · obtain ⟨l, es, rfl, _⟩ := h; rfl
  · obtain ⟨l, es, rfl, hl, h64, q⟩ := h
    refine ⟨_, (C8.pss_cut (ps_set (i := 1) sc_diagonal.nd rfl (Or.inl rfl) (pe_lst pa_nil))
      (C8.pss_cut (ps_for PassesOwn.never rfl (pi_enH (by rfl) T.n_enumerate (pa_cons (pv 0) pa_nil)) (pg_tupH (n := 2) rfl (pgs_cons (pg_name (i := 2) sc_diagonal.nd rfl (Or.inl rfl)) (pgs_cons (pg_name (i := 3) sc_diagonal.nd rfl (Or.inl rfl)) pgs_nil)))
        (C8.pss_cut (ps_set (i := 4) sc_diagonal.nd rfl (Or.inl rfl) (pe_op op_rep (pe_lst (pa_cons pe_int pa_nil)) (pe_callB len_H (by rfl) T.n_len PySem.boot_len (pa_cons (pv 0) pa_nil))))
        (C8.pss_cut (ps_asg (pv 3) (pg_sub (pv 4) (pv 2) set_lH))
        (pss_one (ps_expr (pe_append (pv 1) (pa_cons (pv 4) pa_nil)))))))
      (pss_one (ps_ret (pv 1))))), ?_⟩
    refine ⟨MD1 l H, ?_, ?_⟩
    · walk_at "rd"
      exact fun D hD => ⟨D, rfl, Same.new hD, hD, upd_same⟩
    rintro σ1 H1 ⟨D, rfl, s1, hD, hD1⟩
    have hl1 := s1 _ _ hl
    refine ⟨MD2 l D es H, ?_, ?_⟩
    · walk_at "rd"
      refine ⟨true, es.map V.int, hl1, fun J W => ?_⟩
      refine forr W (fun i σ H' => Same H H' ∧ LstL H' D ((diagI es).take i) ∧ ∃ v2 v3 v4, σ = [some (V.ref l), some (V.ref D), v2, v3, v4]) ⟨s1, ⟨[], hD1, AsL.nil⟩, none, none, none, rfl⟩ (fun i σ H' _ h => h.1 _ _ hl) ?_ ?_
      · rintro i x σ2 H2 H3 hi ⟨s2, hL, v2, v3, v4, rfl⟩ hy
        obtain ⟨T0, x1, rfl, hT, rfl, hx⟩ := hy
        simp only [List.getElem?_map, Option.map_eq_some_iff] at hx
        obtain ⟨e, he, rfl⟩ := hx
        have hil : i < es.length := (List.getElem?_eq_some_iff.mp he).1
        walk_at "rd"
        have sT := Same.new hT (o := .tup [V.int (i : Nat), V.int e])
        generalize upd H2 T0 (HO.tup [V.int (i : Nat), V.int e]) = H3 at sT ⊢
        have s3 := s2.trans sT
        have hL3 := hL.same sT
        refine ⟨MD3 l D i e es H3, ?_, ?_⟩
        · walk_at "rd"
          intro p hp
          have sp := Same.new hp (o := .lst [V.int 0])
          have fp : (upd H3 p (.lst [V.int 0])) p = some (.lst [V.int 0]) := upd_same
          generalize upd H3 p (HO.lst [V.int 0]) = H4 at sp fp ⊢
          refine .inl ⟨_, sp _ _ (s3 _ _ hl), p, (es.length : Int), [V.int 0], rfl, by rw [List.length_map], fp, by omega, by omega, ?_, fun r hr => ?_⟩
          · rw [Int.toNat_natCast]
            exact Nat.le_trans (by simpa using h64 : [V.int 0].length * es.length ≤ 64) (by decide)
          · rw [Int.toNat_natCast, flat0]
            have hr3 : H3 r = none := by
              cases e2 : H3 r with
              | none => rfl
              | some o => rw [sp _ _ e2] at hr; cases hr
            exact ⟨r, rfl, sp.trans (Same.new hr), hr3, upd_same⟩
        rintro σ4 H4 ⟨r, rfl, s4, hr, hr4⟩
        refine ⟨MD4 l D r i e es H3, ?_, ?_⟩
        · walk_at "rd"
          refine ⟨_, hr4, i, ?_, rfl, ?_, ?_⟩
          · exact ixN_in (by rw [List.length_map, List.length_replicate]; exact hil)
          · intro b o hb
            rw [upd_ne (ne_some hb hr)]
            exact s4 _ _ hb
          · rw [upd_same]
            congr 2
            unfold rowI
            rw [List.map_set, List.getD_eq_getElem?_getD, he]
            rfl
        rintro σ5 H5 ⟨rfl, s5, hr5⟩
        walk_at "rd"
        obtain ⟨as, hD5, hA⟩ := hL3.same s5
        have hlen : as.length ≤ es.length := by
          rw [hA.1, List.length_take]
          unfold diagI
          rw [List.length_map, List.length_range]
          omega
        refine ⟨⟨_, hD5⟩, _, hD5, ?_, ?_, as ++ [r], ?_, ?_⟩
        · rw [List.length_map]
          exact Nat.lt_of_le_of_lt (Nat.le_trans hlen h64) (by decide)
        · intro b o hb
          rw [upd_ne (ne_some hb hD)]
          exact s5 _ _ (s3 _ _ hb)
        · rw [upd_same, List.map_append]
          rfl
        · rw [diag_take hil]
          have hA2 := hA.snoc hr5
          have hnD := hA2.ne hD5 (fun g hg => by
            have hlg : ∀ j, (rowI es j).length = es.length := fun j => by unfold rowI; simp
            have h0 : g.length = es.length := by
              rcases List.mem_append.mp hg with h | h
              · have h := List.mem_of_mem_take h
                unfold diagI at h
                obtain ⟨j, _, rfl⟩ := List.mem_map.mp h
                exact hlg j
              · rw [List.mem_singleton.mp h]; exact hlg i
            intro e1
            rw [e1, List.length_nil] at h0
            omega)
          exact AsL.put hA2 hnD
      · rintro σ2 H2 ⟨s2, hL, v2, v3, v4, rfl⟩
        refine ⟨v2, v3, v4, rfl, s2, ?_⟩
        rw [List.length_map, show es.length = (diagI es).length by unfold diagI; simp, List.take_length] at hL
        exact hL
    rintro σ2 H2 ⟨v2, v3, v4, rfl, s2, hL⟩
    walk_at "rd"
    exact q _ D s2 hD hL
end

/-! ### a basis with one more vector -/
section
variable {P : Program} {w : World} {K : PySem.W.Frag} {mg : Str → Option Value} {base : Heap}
def lowV (piv rest : List Int) (at' : Nat) : List Int := List.zipWith (fun p u => p - (rest.getD at' 0 / piv.getD at' 0) * u) rest piv
/-- one step: what is left of the rest -/
def nxtV (odds piv rest : List Int) (at' : Nat) : List Int := mod2 (lowV piv rest at') odds
def euc (odds : List Int) (at' : Nat) : Nat → List Int → List Int → List Int × List Int
  | 0, piv, rest => (piv, rest)
  | f + 1, piv, rest => if rest.getD at' 0 = 0 then (piv, rest) else if (nxtV odds piv rest at').getD at' 0 = 0 then (piv, nxtV odds piv rest at') else euc odds at' f (nxtV odds piv rest at') piv
def withV (odds : List Int) : Nat → List (List Int) → List Int → List (List Int)
  | _, [], _ => []
  | at', row :: rows, rest => (euc odds at' (row.getD at' 0).toNat row rest).1 :: withV odds (at' + 1) rows (euc odds at' (row.getD at' 0).toNat row rest).2
/-- a vector that is reduced by the odds -/
structure RedV (odds rest : List Int) : Prop where
  len : rest.length = odds.length
  ok : ∀ (j : Nat) x o, rest[j]? = some x → odds[j]? = some o → 0 ≤ x ∧ x ≤ o
theorem mod2_red {odds v : List Int} (hl : v.length = odds.length) (hp : ∀ o ∈ odds, 0 < o) : RedV odds (mod2 v odds) := by
  refine ⟨by unfold mod2; simp [hl], fun j x o hx ho => ?_⟩
  have hj : j < v.length := by rw [hl]; exact (List.getElem?_eq_some_iff.mp ho).1
  have e := zw_get (g := fun x y => x % y) (List.getElem?_eq_getElem hj) ho
  unfold mod2 at hx
  rw [e] at hx
  obtain rfl := Option.some.inj hx
  have := hp o (List.mem_of_getElem? ho)
  exact ⟨Int.emod_nonneg _ (by omega), Int.le_of_lt (Int.emod_lt_of_pos _ this)⟩
/-- entries of at most 1000 bits -/
def Bnd (v : List Int) : Prop := ∀ x ∈ v, x.natAbs < 2 ^ 1000
theorem RedV.bnd {odds rest : List Int} (h : RedV odds rest) (hb : Bnd odds) : Bnd rest := fun x hx => by
  obtain ⟨j, hj, rfl⟩ := List.getElem_of_mem hx
  have hj2 : j < odds.length := by rw [← h.len]; exact hj
  obtain ⟨h0, h1⟩ := h.ok j _ _ (List.getElem?_eq_getElem hj) (List.getElem?_eq_getElem hj2)
  have := hb _ (List.getElem_mem hj2)
  omega
theorem low_len {odds piv rest : List Int} {i : Nat} (h1 : piv.length = odds.length) (h2 : rest.length = odds.length) : (lowV piv rest i).length = odds.length := by unfold lowV; rw [List.length_zipWith, h1, h2, Nat.min_self]
theorem nxt_red {odds piv rest : List Int} {i : Nat} (hp : ∀ o ∈ odds, 0 < o) (h1 : piv.length = odds.length) (h2 : rest.length = odds.length) : RedV odds (nxtV odds piv rest i) := mod2_red (low_len h1 h2) hp
theorem euc_next {odds piv rest : List Int} {at' : Nat} (ha : at' < odds.length) (hl : RedV odds piv) (hr : RedV odds rest) (h0 : 0 < piv.getD at' 0) :
    (nxtV odds piv rest at').getD at' 0 = rest.getD at' 0 % piv.getD at' 0 ∧ 0 ≤ (nxtV odds piv rest at').getD at' 0 ∧ (nxtV odds piv rest at').getD at' 0 < piv.getD at' 0 := by
  have h1 : at' < rest.length := by rw [hr.len]; exact ha
  have h2 : at' < piv.length := by rw [hl.len]; exact ha
  have e1 := List.getElem?_eq_getElem h1
  have e2 := List.getElem?_eq_getElem h2
  have e3 := List.getElem?_eq_getElem ha
  obtain ⟨r0, r1⟩ := hl.ok at' _ _ e2 e3
  have g1 : rest.getD at' 0 = rest[at'] := by rw [List.getD_eq_getElem?_getD, e1]; rfl
  have g2 : piv.getD at' 0 = piv[at'] := by rw [List.getD_eq_getElem?_getD, e2]; rfl
  rw [g2] at h0 ⊢
  rw [g1]
  have hm : (nxtV odds piv rest at')[at']? = some (((rest[at'] - (rest[at'] / piv[at']) * piv[at'])) % odds[at']) := by
    unfold nxtV mod2
    refine zw_get (g := fun x y => x % y) ?_ e3
    unfold lowV
    rw [zw_get (g := fun p u => p - (rest.getD at' 0 / piv.getD at' 0) * u) e1 e2, g1, g2]
  have e4 : rest[at'] - (rest[at'] / piv[at']) * piv[at'] = rest[at'] % piv[at'] := by
    have := Int.emod_add_mul_ediv rest[at'] piv[at']
    rw [Int.mul_comm (rest[at'] / piv[at'])]
    omega
  have h5 := Int.emod_nonneg rest[at'] (by omega : piv[at'] ≠ 0)
  have h6 := Int.emod_lt_of_pos rest[at'] h0
  have g3 : (nxtV odds piv rest at').getD at' 0 = rest[at'] % piv[at'] := by
    rw [List.getD_eq_getElem?_getD, hm, e4, Int.emod_eq_of_lt h5 (by omega)]
    rfl
  rw [g3]
  exact ⟨rfl, h5, h6⟩
theorem euc_zero {odds piv rest : List Int} {at' : Nat} (h : rest.getD at' 0 = 0) : ∀ f, euc odds at' f piv rest = (piv, rest)
  | 0 => rfl
  | f + 1 => by
    show (if rest.getD at' 0 = 0 then (piv, rest) else _) = _
    rw [if_pos h]
def MV1 (b o v : Addr) (rest : List Int) (H : Hp) (σ : L2.St) (H' : Hp) : Prop := ∃ t, σ = [some (V.ref b), some (V.ref o), some (V.ref v), some (V.ref t), none, none, none, none, none, none, none, none] ∧ Same H H' ∧ H' t = some (.lst (rest.map V.int))
def MV2 (b o v t : Addr) (H : Hp) (σ : L2.St) (H' : Hp) : Prop := ∃ D, σ = [some (V.ref b), some (V.ref o), some (V.ref v), some (V.ref t), some (V.ref D), none, none, none, none, none, none, none] ∧ Same H H' ∧ H D = none ∧ H' D = some (.lst [])
def MV3 (D : Addr) (res : List (List Int)) (H : Hp) (σ : L2.St) (H' : Hp) : Prop := ∃ b o v t v5 v6 v7 v8 v9, σ = [some (V.ref b), some (V.ref o), some (V.ref v), some (V.ref t), some (V.ref D), v5, v6, v7, v8, v9, none, none] ∧ Same H H' ∧ LstL H' D res
/-- what holds ahead of the i-th row -/
def IV (b o v D : Addr) (odds : List Int) (rows : List (List Int)) (res : List (List Int)) (H : Hp) (i : Nat) (σ : L2.St) (H' : Hp) : Prop := ∃ t rest done v5 v6 v7 v8 v9, σ = [some (V.ref b), some (V.ref o), some (V.ref v), some (V.ref t), some (V.ref D), v5, v6, v7, v8, v9, none, none] ∧
  Same H H' ∧ H' t = some (.lst (rest.map V.int)) ∧ RedV odds rest ∧ LstL H' D done ∧ done.length = i ∧ (∀ r ∈ done, r ≠ []) ∧ res = done ++ withV odds i (rows.drop i) rest
def MV4 (b o v D t a : Addr) (i : Nat) (H : Hp) (σ : L2.St) (H' : Hp) : Prop := ∃ v8 v9, σ = [some (V.ref b), some (V.ref o), some (V.ref v), some (V.ref t), some (V.ref D), some (V.int (i : Nat)), some (V.ref a), some (V.ref a), v8, v9, none, none] ∧ Same H H'
/-- within Euclid's steps -/
def IW (b o v D a : Addr) (i : Nat) (odds : List Int) (fin : List Int × List Int) (H : Hp) (m : Nat) (σ : L2.St) (H' : Hp) : Prop := ∃ t p piv rest v8 v9, σ = [some (V.ref b), some (V.ref o), some (V.ref v), some (V.ref t), some (V.ref D), some (V.int (i : Nat)), some (V.ref a), some (V.ref p), v8, v9, none, none] ∧
  Same H H' ∧ H' t = some (.lst (rest.map V.int)) ∧ H' p = some (.lst (piv.map V.int)) ∧ RedV odds piv ∧ 0 < piv.getD i 0 ∧ RedV odds rest ∧ m = (if rest.getD i 0 = 0 then 0 else (piv.getD i 0).toNat) ∧ ∃ f, m ≤ f ∧ euc odds i f piv rest = fin
def MV5 (b o v D a : Addr) (i : Nat) (odds : List Int) (fin : List Int × List Int) (H : Hp) (σ : L2.St) (H' : Hp) : Prop := ∃ t p v8 v9, σ = [some (V.ref b), some (V.ref o), some (V.ref v), some (V.ref t), some (V.ref D), some (V.int (i : Nat)), some (V.ref a), some (V.ref p), v8, v9, none, none] ∧
  Same H H' ∧ H' t = some (.lst (fin.2.map V.int)) ∧ H' p = some (.lst (fin.1.map V.int)) ∧ fin.1.length = odds.length ∧ RedV odds fin.2
def ME (σ0 : L2.St) (H0 : Hp) (σ : L2.St) (H' : Hp) : Prop := σ = σ0 ∧ H' = H0
def ML (b o v t D a p : Addr) (i : Nat) (fac : Int) (low : List Int) (H : Hp) (σ : L2.St) (H' : Hp) : Prop := ∃ l, σ = [some (V.ref b), some (V.ref o), some (V.ref v), some (V.ref t), some (V.ref D), some (V.int (i : Nat)), some (V.ref a), some (V.ref p), some (V.int fac), some (V.ref l), none, none] ∧ Same H H' ∧ H' l = some (.lst (low.map V.int))
def MN (b o v D a p : Addr) (i : Nat) (fac : Int) (nx : List Int) (H : Hp) (σ : L2.St) (H' : Hp) : Prop := ∃ t l, σ = [some (V.ref b), some (V.ref o), some (V.ref v), some (V.ref t), some (V.ref D), some (V.int (i : Nat)), some (V.ref a), some (V.ref p), some (V.int fac), some (V.ref l), none, none] ∧ Same H H' ∧ H' t = some (.lst (nx.map V.int))
def sp_with_vector (K : PySem.W.Frag) : Sp := fun vs H Q _ => ∃ (b o v : Addr) (k : Bool) (rows : List (List Int)) (odds vec : List Int), vs = [.ref b, .ref o, .ref v] ∧ LstL H b rows ∧ H o = some (.lst (odds.map V.int)) ∧ Sqh k H v (vec.map V.int) ∧
  rows.length = odds.length ∧ vec.length = odds.length ∧ odds.length ≤ 4 ∧ 1 ≤ odds.length ∧ (∀ r ∈ rows, RedV odds r) ∧ (∀ (j : Nat) r, rows[j]? = some r → 0 < r.getD j 0) ∧ (∀ x ∈ odds, 0 < x) ∧ Bnd odds ∧
  ∀ H' D, Same H H' → H D = none → LstL H' D (withV odds 0 rows (mod2 vec odds)) → Q (.ref D) H'
theorem ok_with_vector (T : Tx K mg) : FnOk P w K mg base CX0 2 T.f_with_vector T.fd_with_vector ["basis", "odds", "vector"] (sp_with_vector K) := by
  refine T.F_with_vector.ok sc_with_vector (fun vs H Q E h => ?_) (fun cdv A outer s H vs Q E hr h => ?_)
  · obtain ⟨b, o, v, k, rows, odds, vec, rfl, _⟩ := h; rfl
  · obtain ⟨b, o, v, k, rows, odds, vec, rfl, hb, ho, hv, l1, l2, l4, l0, hrows, hpiv, hpos, hbd, q⟩ := h
    refine ⟨_, (C8.pss_cut (ps_set (i := 3) sc_with_vector.nd rfl (Or.inl rfl) (pe_call (ok_reduced T) (hr.mono (by decide)) (by rfl) T.g_reduced T.F_reduced.kp T.b_reduced .nil pass0 (pa_cons (pv 2) (pa_cons (pv 1) pa_nil))))
      (C8.pss_cut (ps_set (i := 4) sc_with_vector.nd rfl (Or.inl rfl) (pe_lst pa_nil))
      (C8.pss_cut (ps_for PassesOwn.never rfl (pi_enH (by rfl) T.n_enumerate (pa_cons (pv 0) pa_nil)) (pg_tupH (n := 2) rfl (pgs_cons (pg_name (i := 5) sc_with_vector.nd rfl (Or.inl rfl)) (pgs_cons (pg_name (i := 6) sc_with_vector.nd rfl (Or.inl rfl)) pgs_nil)))
        (C8.pss_cut (ps_set (i := 7) sc_with_vector.nd rfl (Or.inl rfl) (pv 6))
        (C8.pss_cut (ps_while PassesOwn.never (pt_cmpR op_ne (pe_ix ix_lH (pv 3) (pv 5) (fun _ _ => rfl)) pe_int (nomark _)) (C8.pss_cut (ps_set (i := 8) sc_with_vector.nd rfl (Or.inr rfl) (pe_op op_fdivW (pe_ix ix_lH (pv 3) (pv 5) (fun _ _ => rfl)) (pe_ix ix_lH (pv 7) (pv 5) (fun _ _ => rfl))))
          (C8.pss_cut (ps_setLc (i := 9) (own := [("part", 10), ("upper", 11)]) (g := (gTupH 2 (gCons (gName 10) (gCons (gName 11) gNil)))) (tt := tYes) rfl sc_with_vector.nd rfl rfl (sw_true rfl rfl rfl (by decide +kernel)) (pi_z2H (by rfl) T.n_zip (pa_cons (pv 3) (pa_cons (pv 7) pa_nil))) (blkOk_by (own := [("part", 10), ("upper", 11)]) (N := N_with_vector) (sc := defScope d_with_vector) (by decide +kernel)) (fun _ _ _ _ _ => (pg_tupH (n := 2) rfl (pgs_cons (pg_name (i := 10) sc_with_vector.nd rfl (Or.inl rfl)) (pgs_cons (pg_name (i := 11) sc_with_vector.nd rfl (Or.inl rfl)) pgs_nil)))) (fun _ _ _ _ _ => pts_nil) (fun _ _ _ _ _ => (pe_op op_sub (pv 10) (pe_op op_mulA (pv 8) (pv 11)))))
          (C8.pss_cut (ps_set (i := 3) sc_with_vector.nd rfl (Or.inl rfl) (pe_call (ok_reduced T) (hr.mono (by decide)) (by rfl) T.g_reduced T.F_reduced.kp T.b_reduced .nil pass0 (pa_cons (pv 9) (pa_cons (pv 1) pa_nil))))
          (pss_one (ps_if (pt_cmpR op_ne (pe_ix ix_lH (pv 3) (pv 5) (fun _ _ => rfl)) pe_int (nomark _)) (pss_one (ps_par (i := 7) (j := 3) (by rfl) sc_with_vector.nd rfl rfl (by decide) rfl rfl (pa_cons (pv 3) (pa_cons (pv 7) pa_nil)) (by rfl))) pss_nil))))))
        (pss_one (ps_expr (pe_append (pv 4) (pa_cons (pv 7) pa_nil)))))))
      (pss_one (ps_ret (pv 4)))))), ?_⟩
    have hr0 := mod2_red l2 hpos
    generalize hrest0 : mod2 vec odds = rest0 at q hr0
    generalize hres : withV odds 0 rows rest0 = res at q
    refine ⟨MV1 b o v rest0 H, ?_, ?_⟩
    · walk_at "rd"
      refine ⟨k, true, v, o, vec, odds, rfl, hv, ho, l2, by omega, hpos, fun H1 t s1 hn ht => ?_⟩
      rw [hrest0] at ht
      exact ⟨t, rfl, s1, ht⟩
    rintro σ1 H1 ⟨t, rfl, s1, ht1⟩
    refine ⟨MV2 b o v t H1, ?_, ?_⟩
    · walk_at "rd"
      exact fun D hD => ⟨D, rfl, Same.new hD, hD, upd_same⟩
    rintro σ2 H2 ⟨D, rfl, s2, hD, hD2⟩
    have s02 := s1.trans s2
    have hHD : H D = none := by
      cases e : H D with
      | none => rfl
      | some u => rw [s1 _ _ e] at hD; cases hD
    obtain ⟨as, hba, hA⟩ := hb
    refine ⟨MV3 D res H, ?_, ?_⟩
    · walk_at "rd"
      refine ⟨true, as.map V.ref, s02 _ _ hba, fun J W => ?_⟩
      refine forr W (fun i σ H' => IV b o v D odds rows res H i σ H') ⟨t, rest0, [], none, none, none, none, none, rfl, s02, s2 _ _ ht1, hr0, ⟨[], hD2, AsL.nil⟩, rfl, by simp, by rw [← hres]; rfl⟩ (fun i σ H' _ h => by obtain ⟨_, _, _, _, _, _, _, _, _, h, _⟩ := h; exact h _ _ hba) ?_ ?_
      · rintro i x σ3 H3 H4 hi ⟨t, rest, done, v5, v6, v7, v8, v9, rfl, s3, ht3, hr3, hL3, hdl, hdn, hres3⟩ hy
        obtain ⟨T0, x1, rfl, hT, rfl, hx⟩ := hy
        simp only [List.getElem?_map, Option.map_eq_some_iff] at hx
        obtain ⟨a, ha, rfl⟩ := hx
        rw [List.length_map, hA.1, l1] at hi
        have hir : i < rows.length := by omega
        have hrow := List.getElem?_eq_getElem hir
        have hrr := hrows _ (List.getElem_mem hir)
        have hrl := hrr.len
        have hrp := hpiv i _ hrow
        have haH := hA.2 i a _ ha hrow
        have sT := Same.new hT (o := .tup [V.int (i : Nat), V.ref a])
        walk_at "rd"
        generalize upd H3 T0 (HO.tup [V.int (i : Nat), V.ref a]) = H4 at sT ⊢
        have s4 := s3.trans sT
        refine ⟨MV4 b o v D t a i H4, ?_, ?_⟩
        · walk_at "rd"
          exact ⟨v8, v9, rfl, Same.refl _⟩
        rintro σ5 H5 ⟨v8, v9, rfl, s5⟩
        have s05 := s4.trans s5
        generalize hfin : euc odds i (rows[i].getD i 0).toNat rows[i] rest = fin
        refine ⟨MV5 b o v D a i odds fin H5, ?_, ?_⟩
        · refine ⟨fun m σ H' => IW b o v D a i odds fin H5 m σ H', ⟨_, t, a, rows[i], rest, v8, v9, rfl, Same.refl _, s5 _ _ (sT _ _ ht3), s05 _ _ haH, hrr, hrp, hr3, rfl, _, by split <;> omega, hfin⟩, ?_⟩
          rintro m σ6 H6 ⟨t6, p6, piv, rest6, v8, v9, rfl, s6, ht6, hp6, hpl, hpp, hr6, hm, f, hf, hfe⟩
          have h1 : i < rest6.length := by rw [hr6.len]; exact hi
          have h2 : i < piv.length := by rw [hpl.len]; exact hi
          have g1 : rest6[i]? = some (rest6.getD i 0) := by rw [List.getD_eq_getElem?_getD, List.getElem?_eq_getElem h1]; rfl
          have g2 : piv[i]? = some (piv.getD i 0) := by rw [List.getD_eq_getElem?_getD, List.getElem?_eq_getElem h2]; rfl
          walk_at "rd"
          refine ⟨_, ht6, .int (rest6.getD i 0), atI_nat (by rw [List.getElem?_map, g1]; rfl), rfl, ?_⟩
          by_cases h0 : rest6.getD i 0 = 0
          · rw [if_neg (fun h => h (by rw [h0]))]
            have e : fin = (piv, rest6) := by rw [← hfe, euc_zero h0]
            rw [e]
            exact ⟨t6, p6, v8, v9, rfl, s6, ht6, hp6, hpl.len, hr6⟩
          · rw [if_pos (fun e => h0 (by injection e))]
            obtain ⟨e1, e2, e3⟩ := euc_next hi hpl hr6 hpp
            have hb6 := hr6.bnd hbd
            have hpb := hpl.bnd hbd
            have hpi : (piv.getD i 0).natAbs < 2 ^ 1000 := hpb _ (List.mem_of_getElem? g2)
            have hri : (rest6.getD i 0).natAbs < 2 ^ 1000 := hb6 _ (List.mem_of_getElem? g1)
            refine ⟨fun σ' H' => ∃ m', m' < m ∧ IW b o v D a i odds fin H5 m' σ' H', fun _ _ h => h, ?_⟩
            refine ⟨ME [some (V.ref b), some (V.ref o), some (V.ref v), some (V.ref t6), some (V.ref D), some (V.int (i : Nat)), some (V.ref a), some (V.ref p6), some (V.int (rest6.getD i 0 / piv.getD i 0)), v9, none, none] H6, ?_, ?_⟩
            · walk_at "rd"
              refine ⟨_, ht6, _, atI_nat (by rw [List.getElem?_map, g1]; rfl), _, hp6, _, atI_nat (by rw [List.getElem?_map, g2]; rfl), ?_⟩
              refine ⟨_, rfl, _, rfl, wide_div (b := 1000) hpp hpi (by decide) (by decide), rfl, rfl⟩
            rintro σ7 H7 ⟨rfl, rfl⟩
            refine ⟨ML b o v t6 D a p6 i (rest6.getD i 0 / piv.getD i 0) (lowV piv rest6 i) H7, ?_, ?_⟩
            · walk_at "rd"
              refine ⟨true, true, rest6.map V.int, ht6, piv.map V.int, hp6, by rw [List.length_map, List.length_map, hpl.len, hr6.len], fun J W => ?_⟩
              refine lcr_two (p := 10) (q := 11) (by rw [hpl.len, hr6.len]) (by rw [hr6.len]; omega) (fun p u => p - (rest6.getD i 0 / piv.getD i 0) * u) W (fun H8 s8 => ⟨s8 _ _ ht6, s8 _ _ hp6⟩) (fun T0 x y H8 R hT hR => ?_) (fun x y => rfl) (fun j x y Qy H8 h1 h2 hq => ?_) fun L H8 hL s8 h8 => ⟨L, rfl, s8, h8⟩
              · walk_at "rh"
                exact hR
              · walk_at "rd"
                refine ⟨.inr (.inr (wide_mul (a := 1001) (b := 1000) ?_ (hpb y (List.mem_of_getElem? h2)) (by decide) (by decide) (by decide))), hq⟩
                exact Nat.lt_of_le_of_lt (Int.natAbs_ediv_le_natAbs _ _) (Nat.lt_of_lt_of_le hri (Nat.pow_le_pow_right (by decide) (by decide)))
            rintro σ8 H8 ⟨l, rfl, s8, hl8⟩
            have hlow := low_len (i := i) hpl.len hr6.len
            have hnr := nxt_red (i := i) hpos hpl.len hr6.len
            have hg3 : (nxtV odds piv rest6 i)[i]? = some ((nxtV odds piv rest6 i).getD i 0) := by rw [List.getD_eq_getElem?_getD, List.getElem?_eq_getElem (by rw [hnr.len]; exact hi)]; rfl
            have hf1 : ∃ f', f = f' + 1 := ⟨f - 1, by rw [if_neg h0] at hm; omega⟩
            obtain ⟨f', rfl⟩ := hf1
            rw [if_neg h0] at hm
            have hstep : euc odds i (f' + 1) piv rest6 = if (nxtV odds piv rest6 i).getD i 0 = 0 then (piv, nxtV odds piv rest6 i) else euc odds i f' (nxtV odds piv rest6 i) piv := by
              show (if rest6.getD i 0 = 0 then (piv, rest6) else _) = _
              rw [if_neg h0]
            refine ⟨MN b o v D a p6 i (rest6.getD i 0 / piv.getD i 0) (nxtV odds piv rest6 i) H8, ?_, ?_⟩
            · walk_at "rd"
              exact ⟨true, true, l, o, lowV piv rest6 i, odds, rfl, hl8, s8 _ _ (s6 _ _ (s05 _ _ ho)), hlow, by omega, hpos, fun H9 t9 s9 hn9 ht9 => ⟨t9, l, rfl, s9, ht9⟩⟩
            rintro σ9 H9 ⟨t9, l9, rfl, s9, ht9⟩
            have s69 := s6.trans (s8.trans s9)
            walk_at "rd"
            refine ⟨_, ht9, .int ((nxtV odds piv rest6 i).getD i 0), atI_nat (by rw [List.getElem?_map, hg3]; rfl), rfl, ?_⟩
            by_cases h9 : (nxtV odds piv rest6 i).getD i 0 = 0
            · rw [if_neg (fun h => h (by rw [h9]))]
              rw [if_pos h9] at hstep
              refine ⟨0, by omega, t9, p6, piv, nxtV odds piv rest6 i, _, _, rfl, s69, ht9, s9 _ _ (s8 _ _ hp6), hpl, hpp, hnr, by rw [if_pos h9], 0, Nat.le_refl _, ?_⟩
              rw [← hfe, hstep]
              rfl
            · rw [if_pos (fun e => h9 (by injection e))]
              rw [if_neg h9] at hstep
              refine ⟨((nxtV odds piv rest6 i).getD i 0).toNat, by omega, p6, t9, nxtV odds piv rest6 i, piv, _, _, rfl, s69, s9 _ _ (s8 _ _ hp6), ht9, hnr, by omega, hpl, by rw [if_neg (by omega)], f', by omega, ?_⟩
              rw [← hfe, hstep]
        rintro σ6 H6 ⟨t6, p6, v8, v9, rfl, s6, ht6, hp6, hfl, hfr⟩
        walk_at "rd"
        have hL6 := (hL3.same sT).same (s5.trans s6)
        obtain ⟨ds, hD6, hA6⟩ := hL6
        have hA7 := hA6.snoc hp6
        have hf1 : fin.1 ≠ [] := fun e => by rw [e, List.length_nil] at hfl; omega
        have hnD := hA7.ne hD6 (fun g hg => by
          rcases List.mem_append.mp hg with h | h
          · exact hdn g h
          · rw [List.mem_singleton.mp h]; exact hf1)
        have s06 := s05.trans s6
        have ntD : t6 ≠ D := by
          refine row_ne ht6 hD6 fun e => ?_
          have := hfr.len
          rw [e, List.length_nil] at this
          omega
        refine ⟨⟨_, hD6⟩, _, hD6, ?_, t6, fin.2, done ++ [fin.1], _, _, _, _, _, rfl, ?_, ?_, hfr, ⟨ds ++ [p6], by rw [upd_same, List.map_append]; rfl, hA7.put hnD⟩, ?_, ?_, ?_⟩
        · rw [List.length_map, hA6.1, hdl]
          exact Nat.lt_of_lt_of_le (by omega : i < 4) (by decide)
        · intro c u hb'
          rw [upd_ne (ne_some hb' hHD)]
          exact s06 _ _ hb'
        · rw [upd_ne ntD]
          exact ht6
        · rw [List.length_append, hdl]; rfl
        · intro g hg
          rcases List.mem_append.mp hg with h | h
          · exact hdn g h
          · rw [List.mem_singleton.mp h]; exact hf1
        · rw [hres3, List.drop_eq_getElem_cons hir]
          show done ++ ((euc odds i (rows[i].getD i 0).toNat rows[i] rest).1 :: withV odds (i + 1) (rows.drop (i + 1)) (euc odds i (rows[i].getD i 0).toNat rows[i] rest).2) = _
          rw [hfin]
          simp
      · rintro σ3 H3 ⟨t, rest, done, v5, v6, v7, v8, v9, rfl, s3, ht3, hr3, hL3, hdl, hdn, hres3⟩
        refine ⟨b, o, v, t, v5, v6, v7, v8, v9, rfl, s3, ?_⟩
        rw [List.length_map, hA.1, List.drop_length] at hres3
        rw [hres3]
        show LstL H3 D (done ++ [])
        rw [List.append_nil]
        exact hL3
    rintro σ3 H3 ⟨b', o', v', t', v5, v6, v7, v8, v9, rfl, s3, hL⟩
    walk_at "rd"
    exact q _ D s3 hHD hL
end

/-! ### the basis of the free shifts -/
section
variable {P : Program} {w : World} {K : PySem.W.Frag} {mg : Str → Option Value} {base : Heap}
/-- n rows of n entries of at most 1000 bits -/
structure Rows (odds : List Int) (rows : List (List Int)) : Prop where
  len : rows.length = odds.length
  row : ∀ r ∈ rows, r.length = odds.length ∧ Bnd r
  red : ∀ r ∈ rows, RedV odds r
theorem euc_ok {odds : List Int} (hp : ∀ o ∈ odds, 0 < o) (at' : Nat) : ∀ (f : Nat) (piv rest : List Int), RedV odds piv → RedV odds rest →
    RedV odds (euc odds at' f piv rest).1 ∧ RedV odds (euc odds at' f piv rest).2
  | 0, piv, rest, h1, h3 => ⟨h1, h3⟩
  | f + 1, piv, rest, h1, h3 => by
    show RedV odds (if rest.getD at' 0 = 0 then (piv, rest) else if (nxtV odds piv rest at').getD at' 0 = 0 then (piv, nxtV odds piv rest at') else euc odds at' f (nxtV odds piv rest at') piv).1 ∧ RedV odds (if rest.getD at' 0 = 0 then (piv, rest) else if (nxtV odds piv rest at').getD at' 0 = 0 then (piv, nxtV odds piv rest at') else euc odds at' f (nxtV odds piv rest at') piv).2
    have hn := nxt_red (i := at') hp h1.len h3.len
    by_cases h0 : rest.getD at' 0 = 0
    · rw [if_pos h0]; exact ⟨h1, h3⟩
    · rw [if_neg h0]
      by_cases h9 : (nxtV odds piv rest at').getD at' 0 = 0
      · rw [if_pos h9]; exact ⟨h1, hn⟩
      · rw [if_neg h9]
        exact euc_ok hp at' f _ _ hn h1
theorem withV_ok {odds : List Int} (hp : ∀ o ∈ odds, 0 < o) : ∀ (rows : List (List Int)) (at' : Nat) (rest : List Int), RedV odds rest → (∀ r ∈ rows, RedV odds r) →
    (withV odds at' rows rest).length = rows.length ∧ ∀ r ∈ withV odds at' rows rest, RedV odds r
  | [], at', rest, _, _ => ⟨rfl, fun r h => by simp [withV] at h⟩
  | row :: rows, at', rest, hr, h => by
    have h1 := h row (List.mem_cons_self ..)
    obtain ⟨e1, e3⟩ := euc_ok hp at' (row.getD at' 0).toNat row rest h1 hr
    obtain ⟨i1, i2⟩ := withV_ok hp rows (at' + 1) _ e3 (fun r hr => h r (List.mem_cons_of_mem _ hr))
    refine ⟨by show (withV odds (at' + 1) rows _).length + 1 = _; rw [i1]; rfl, fun r hm => ?_⟩
    rcases List.mem_cons.mp hm with rfl | hm
    · exact e1
    · exact i2 r hm
theorem Rows.of {odds : List Int} {rows : List (List Int)} (hb : Bnd odds) (h : rows.length = odds.length) (r : ∀ r ∈ rows, RedV odds r) : Rows odds rows := ⟨h, fun x hx => ⟨(r x hx).len, (r x hx).bnd hb⟩, r⟩
theorem Rows.withV {odds : List Int} {rows : List (List Int)} {v : List Int} (hp : ∀ o ∈ odds, 0 < o) (hb : Bnd odds) (h : Rows odds rows) (hv : v.length = odds.length) : Rows odds (withV odds 0 rows (mod2 v odds)) := by
  obtain ⟨h1, h2⟩ := withV_ok hp rows 0 (mod2 v odds) (mod2_red hv hp) h.red
  exact Rows.of hb (by rw [h1, h.len]) h2
theorem Rows.diag {odds : List Int} (hp : ∀ o ∈ odds, 0 < o) (hb : Bnd odds) : Rows odds (diagI odds) := by
  refine Rows.of hb (by unfold diagI; simp) fun r hr => ?_
  unfold diagI at hr
  obtain ⟨i, hi, rfl⟩ := List.mem_map.mp hr
  have hi' := List.mem_range.mp hi
  refine ⟨by unfold rowI; simp, fun j x o hx ho => ?_⟩
  have hop := hp o (List.mem_of_getElem? ho)
  unfold rowI at hx
  by_cases e : i = j
  · subst e
    rw [List.getElem?_set_self (by simpa using hi'), List.getD_eq_getElem?_getD, ho] at hx
    obtain rfl := Option.some.inj hx
    exact ⟨Int.le_of_lt hop, Int.le_refl o⟩
  · rw [List.getElem?_set_ne e, List.getElem?_replicate] at hx
    split at hx
    · obtain rfl := Option.some.inj hx
      omega
    · cases hx
def pivA (rows : List (List Int)) (i : Nat) : Int := (rows.getD i []).getD i 0
def pivP (rows : List (List Int)) (n : Nat) : Int := (List.range n).foldl (fun c i => c * pivA rows i) 1
theorem pivP_succ (rows : List (List Int)) (n : Nat) : pivP rows (n + 1) = pivP rows n * pivA rows n := by
  unfold pivP
  rw [List.range_succ, List.foldl_append]
  rfl
theorem pow_pos2 : (0 : Nat) < 2 ^ 1000 := Nat.pow_pos (by decide)
theorem pivA_bnd {odds : List Int} {rows : List (List Int)} (h : Rows odds rows) (i : Nat) : (pivA rows i).natAbs < 2 ^ 1000 := by
  unfold pivA
  rw [List.getD_eq_getElem?_getD, List.getD_eq_getElem?_getD]
  cases e : rows[i]? with
  | none => exact pow_pos2
  | some r =>
    cases e2 : r[i]? with
    | none => simp only [Option.getD_some, e2]; exact pow_pos2
    | some x =>
      have h1 := (h.row r (List.mem_of_getElem? e)).2 x (List.mem_of_getElem? e2)
      simpa [e2] using h1
theorem pivP_bnd {odds : List Int} {rows : List (List Int)} (h : Rows odds rows) : ∀ n : Nat, (pivP rows n).natAbs < 2 ^ (1000 * n + 1)
  | 0 => by
    show 1 < 2 ^ 1
    decide
  | n + 1 => by
    rw [pivP_succ, show 1000 * (n + 1) + 1 = (1000 * n + 1) + 1000 by omega]
    exact wide_lt (pivP_bnd h n) (pivA_bnd h n)
def sp_pivot_product (K : PySem.W.Frag) : Sp := fun vs H Q _ => ∃ (b : Addr) (odds : List Int) (rows : List (List Int)), vs = [.ref b] ∧ LstL H b rows ∧ Rows odds rows ∧ odds.length ≤ 4 ∧ ∀ H', Same H H' → Q (.int (pivP rows rows.length)) H'
theorem ok_pivot_product (T : Tx K mg) : FnOk P w K mg base CX0 1 T.f_pivot_product T.fd_pivot_product ["basis"] (sp_pivot_product K) := by
  refine T.F_pivot_product.ok sc_pivot_product (fun vs H Q E h => ?_) (fun cdv A outer s H vs Q E hr h => ?_)
  · obtain ⟨b, odds, rows, rfl, _⟩ := h; rfl
  · obtain ⟨b, odds, rows, rfl, ⟨as, hb, hA⟩, hR, h4, q⟩ := h
    refine ⟨_, (pss_cons (ps_set (i := 1) sc_pivot_product.nd rfl (Or.inl rfl) pe_int)
      (pss_cons (ps_for PassesOwn.never rfl (pi_enH (by rfl) T.n_enumerate (pa_cons (pv 0) pa_nil)) (pg_tupH (n := 2) rfl (pgs_cons (pg_name (i := 2) sc_pivot_product.nd rfl (Or.inl rfl)) (pgs_cons (pg_name (i := 3) sc_pivot_product.nd rfl (Or.inl rfl)) pgs_nil)))
        (pss_one (ps_set (i := 1) sc_pivot_product.nd rfl (Or.inl rfl) (pe_op op_mulA (pv 1) (pe_ix ix_lH (pv 3) (pv 2) (fun _ _ => rfl))))))
      (pss_one (ps_ret (pv 1))))), ?_⟩
    walk_at "rd"
    refine ⟨true, as.map V.ref, hb, fun J W => ?_⟩
    refine forr W (fun i σ H' => Same H H' ∧ ∃ v2 v3, σ = [some (V.ref b), some (V.int (pivP rows i)), v2, v3]) ⟨Same.refl _, none, none, rfl⟩ (fun i σ H' _ h => h.1 _ _ hb) ?_ ?_
    · rintro i x σ2 H2 H3 hi ⟨s2, v2, v3, rfl⟩ ⟨T0, x1, rfl, hT, rfl, hx⟩
      simp only [List.getElem?_map, Option.map_eq_some_iff] at hx
      obtain ⟨a, ha, rfl⟩ := hx
      rw [List.length_map, hA.1] at hi
      have hrow := List.getElem?_eq_getElem hi
      have har := hA.2 i a _ ha hrow
      have hrl := (hR.row _ (List.getElem_mem hi)).1
      have hir : i < rows[i].length := by rw [hrl, ← hR.len]; exact hi
      have sT := Same.new hT (o := .tup [V.int (i : Nat), V.ref a])
      walk_at "rd"
      have hp : pivA rows i = rows[i][i] := by
        unfold pivA
        have e : rows.getD i [] = rows[i] := by rw [List.getD_eq_getElem?_getD, hrow]; rfl
        rw [e, List.getD_eq_getElem?_getD, List.getElem?_eq_getElem hir]
        rfl
      refine ⟨_, sT _ _ (s2 _ _ har), _, atI_nat (by rw [List.getElem?_map, List.getElem?_eq_getElem hir]; rfl), _, rfl, ?_, s2.trans sT, ?_⟩
      · refine .inr (.inr (wide_mul (pivP_bnd hR i) (by rw [← hp]; exact pivA_bnd hR i) (by omega) ?_ ?_))
        · have := hR.len; omega
        · have := hR.len; omega
      · rw [pivP_succ, hp]
    · rintro σ2 H2 ⟨s2, v2, v3, rfl⟩
      walk_at "rd"
      rw [hA.1]
      exact q _ s2
end

section
variable {P : Program} {w : World} {K : PySem.W.Frag} {mg : Str → Option Value} {base : Heap}
def oddsI (ss : List Int) : List Int := ss.map oddI
theorem odds_pos {ss : List Int} (h : ∀ s ∈ ss, 1 ≤ s) : ∀ o ∈ oddsI ss, 0 < o := fun o ho => by
  obtain ⟨s, hs, rfl⟩ := List.mem_map.mp ho
  have h1 := h s hs
  have := odd_pos (n := s.toNat) (by omega)
  unfold oddI
  omega
theorem odds_bnd {ss : List Int} (h : ∀ s ∈ ss, s.natAbs < 2 ^ 1000) : Bnd (oddsI ss) := fun o ho => by
  obtain ⟨s, hs, rfl⟩ := List.mem_map.mp ho
  have h1 := h s hs
  have h2 : oddN s.toNat ≤ s.toNat := Nat.div_le_self _ _
  unfold oddI
  rw [Int.natAbs_natCast]
  omega
def stepB (odds g0 : List Int) (rows : List (List Int)) (g : List Int) : List (List Int) := withV odds 0 rows (mod2 (sub2 g g0) odds)
def shiftB (ss : List Int) (gs : List (List Int)) : List (List Int) := gs.foldl (stepB (oddsI ss) (gs.headD [])) (diagI (oddsI ss))
theorem fold_rows {odds g0 : List Int} (hp : ∀ o ∈ odds, 0 < o) (hb : Bnd odds) (h0 : g0.length = odds.length) : ∀ (gs : List (List Int)) (rows : List (List Int)), (∀ g ∈ gs, g.length = odds.length) → Rows odds rows → Rows odds (gs.foldl (stepB odds g0) rows)
  | [], rows, _, h => h
  | g :: gs, rows, hg, h => fold_rows hp hb h0 gs _ (fun x hx => hg x (List.mem_cons_of_mem _ hx)) (h.withV hp hb (by
      have := hg g (List.mem_cons_self ..)
      unfold sub2
      rw [List.length_zipWith, this, h0, Nat.min_self]))
theorem headD_mem {gs : List (List Int)} (h : gs ≠ []) : gs.headD [] ∈ gs := by
  cases gs with
  | nil => exact absurd rfl h
  | cons g gs => exact List.mem_cons_self ..
theorem shift_rows {ss : List Int} {gs : List (List Int)} (z : Sz ss) (hg : gs ≠ []) (hl : ∀ g ∈ gs, g.length = ss.length) : Rows (oddsI ss) (shiftB ss gs) := by
  have e : (oddsI ss).length = ss.length := by unfold oddsI; simp
  exact fold_rows (odds_pos z.pos) (odds_bnd z.bits) (by rw [e]; exact hl _ (headD_mem hg)) gs _ (fun g h => by rw [e]; exact hl g h) (Rows.diag (odds_pos z.pos) (odds_bnd z.bits))
/-- zeros ahead of the i-th entry -/
def Zer (i : Nat) (r : List Int) : Prop := ∀ j, j < i → r.getD j 0 = 0
/-- a positive i-th entry behind zeros -/
def Pv (i : Nat) (r : List Int) : Prop := Zer i r ∧ 0 < r.getD i 0
theorem getD_zw {g : Int → Int → Int} {xs ys : List Int} {j : Nat} (h1 : j < xs.length) (h2 : j < ys.length) : (List.zipWith g xs ys).getD j 0 = g (xs.getD j 0) (ys.getD j 0) := by
  rw [List.getD_eq_getElem?_getD, zw_get (List.getElem?_eq_getElem h1) (List.getElem?_eq_getElem h2), List.getD_eq_getElem?_getD, List.getD_eq_getElem?_getD, List.getElem?_eq_getElem h1, List.getElem?_eq_getElem h2]
  rfl
theorem low_zer {odds piv rest : List Int} {i : Nat} (hi : i ≤ odds.length) (h1 : piv.length = odds.length) (h2 : rest.length = odds.length) (z1 : Zer i piv) (z2 : Zer i rest) : Zer i (nxtV odds piv rest i) := fun j hj => by
  have l1 := low_len (i := i) h1 h2
  unfold nxtV mod2
  rw [getD_zw (by omega) (by omega)]
  unfold lowV
  rw [getD_zw (by omega) (by omega), z1 j hj, z2 j hj]
  simp
/-- Euclid's steps leave a positive entry in the row and zero in the rest -/
theorem euc_tri {odds : List Int} (hp : ∀ o ∈ odds, 0 < o) {i : Nat} (hi : i < odds.length) : ∀ (f : Nat) (piv rest : List Int), RedV odds piv → RedV odds rest → Zer i rest → Pv i piv → (piv.getD i 0).toNat ≤ f →
    Pv i (euc odds i f piv rest).1 ∧ Zer (i + 1) (euc odds i f piv rest).2
  | 0, piv, rest, h1, h2, z2, z1, hf => by have := z1.2; omega
  | f + 1, piv, rest, h1, h2, z2, z1, hf => by
    show Pv i (if rest.getD i 0 = 0 then (piv, rest) else if (nxtV odds piv rest i).getD i 0 = 0 then (piv, nxtV odds piv rest i) else euc odds i f (nxtV odds piv rest i) piv).1 ∧ Zer (i + 1) (if rest.getD i 0 = 0 then (piv, rest) else if (nxtV odds piv rest i).getD i 0 = 0 then (piv, nxtV odds piv rest i) else euc odds i f (nxtV odds piv rest i) piv).2
    have last : ∀ {r : List Int}, Zer i r → r.getD i 0 = 0 → Zer (i + 1) r := fun {r} z e j hj => by
      by_cases e2 : j < i
      · exact z j e2
      · have : j = i := by omega
        subst this
        exact e
    have hz := low_zer (Nat.le_of_lt hi) h1.len h2.len z1.1 z2
    by_cases h0 : rest.getD i 0 = 0
    · rw [if_pos h0]; exact ⟨z1, last z2 h0⟩
    · rw [if_neg h0]
      obtain ⟨e1, e2, e3⟩ := euc_next hi h1 h2 z1.2
      by_cases h9 : (nxtV odds piv rest i).getD i 0 = 0
      · rw [if_pos h9]; exact ⟨z1, last hz h9⟩
      · rw [if_neg h9]
        exact euc_tri hp hi f _ _ (nxt_red hp h1.len h2.len) h1 z1.1 ⟨hz, by omega⟩ (by omega)
theorem withV_tri {odds : List Int} (hp : ∀ o ∈ odds, 0 < o) : ∀ (rows : List (List Int)) (i : Nat) (rest : List Int), RedV odds rest → Zer i rest → i + rows.length = odds.length → (∀ r ∈ rows, RedV odds r) → (∀ (j : Nat) r, rows[j]? = some r → Pv (i + j) r) →
    ∀ (j : Nat) r, (withV odds i rows rest)[j]? = some r → Pv (i + j) r
  | [], i, rest, _, _, _, _, _, j, r, h => by simp [withV] at h
  | row :: rows, i, rest, hr, z, hl, hrow, hpv, j, r, h => by
    have h1 := hrow row (List.mem_cons_self ..)
    have hi : i < odds.length := by rw [← hl, List.length_cons]; omega
    obtain ⟨e1, e3⟩ := euc_ok hp i (row.getD i 0).toNat row rest h1 hr
    obtain ⟨t1, t2⟩ := euc_tri hp hi (row.getD i 0).toNat row rest h1 hr z (hpv 0 row rfl) (Nat.le_refl _)
    cases j with
    | zero =>
      obtain rfl := Option.some.inj (show some (euc odds i (row.getD i 0).toNat row rest).1 = some r from h)
      exact t1
    | succ j =>
      have := withV_tri hp rows (i + 1) _ e3 t2 (by rw [← hl, List.length_cons]; omega) (fun r hr => hrow r (List.mem_cons_of_mem _ hr)) (fun j r hj => by
        have := hpv (j + 1) r hj
        rw [show i + 1 + j = i + (j + 1) by omega]
        exact this) j r h
      rw [show i + (j + 1) = i + 1 + j by omega]
      exact this
/-- rows with positive pivots behind zeros -/
def Tri (rows : List (List Int)) : Prop := ∀ (j : Nat) r, rows[j]? = some r → Pv j r
theorem diag_tri {odds : List Int} (hp : ∀ o ∈ odds, 0 < o) : Tri (diagI odds) := fun j r h => by
  have hj : j < odds.length := by
    have := (List.getElem?_eq_some_iff.mp h).1
    unfold diagI at this
    simpa using this
  have e : (diagI odds)[j]? = some (rowI odds j) := by
    unfold diagI
    rw [List.getElem?_map, List.getElem?_range hj]
    rfl
  rw [e] at h
  obtain rfl := Option.some.inj h
  unfold rowI
  refine ⟨fun i hi => ?_, ?_⟩
  · rw [List.getD_eq_getElem?_getD, List.getElem?_set_ne (by omega), List.getElem?_replicate]
    split <;> rfl
  · rw [List.getD_eq_getElem?_getD, List.getElem?_set_self (by simpa using hj), Option.getD_some, List.getD_eq_getElem?_getD, List.getElem?_eq_getElem hj]
    exact hp _ (List.getElem_mem hj)
theorem fold_tri {odds g0 : List Int} (hp : ∀ o ∈ odds, 0 < o) (hb : Bnd odds) (h0 : g0.length = odds.length) : ∀ (gs : List (List Int)) (rows : List (List Int)), (∀ g ∈ gs, g.length = odds.length) → Rows odds rows → Tri rows → Tri (gs.foldl (stepB odds g0) rows)
  | [], rows, _, _, h => h
  | g :: gs, rows, hg, hR, h => by
    have hv : (sub2 g g0).length = odds.length := by
      have := hg g (List.mem_cons_self ..)
      unfold sub2
      rw [List.length_zipWith, this, h0, Nat.min_self]
    refine fold_tri hp hb h0 gs _ (fun x hx => hg x (List.mem_cons_of_mem _ hx)) (hR.withV hp hb hv) fun j r hj => ?_
    have := withV_tri hp rows 0 _ (mod2_red hv hp) (fun j hj => absurd hj (Nat.not_lt_zero j)) (by rw [hR.len]; omega) hR.red (fun j r hj => by rw [Nat.zero_add]; exact h j r hj) j r hj
    rw [Nat.zero_add] at this
    exact this
theorem pivA_posT {rows : List (List Int)} (h : Tri rows) {i : Nat} (hi : i < rows.length) : 0 < pivA rows i := by
  have h2 := (h i _ (List.getElem?_eq_getElem hi)).2
  unfold pivA
  rw [show rows.getD i [] = rows[i] by rw [List.getD_eq_getElem?_getD, List.getElem?_eq_getElem hi]; rfl]
  exact h2
theorem pivP_pos {rows : List (List Int)} (h : Tri rows) : ∀ n : Nat, n ≤ rows.length → 0 < pivP rows n
  | 0, _ => by show (0 : Int) < 1; decide
  | n + 1, hn => by
    rw [pivP_succ]
    have h1 := pivP_pos h n (by omega)
    have hi : n < rows.length := by omega
    have h2 := (h n _ (List.getElem?_eq_getElem hi)).2
    have e : pivA rows n = rows[n].getD n 0 := by
      unfold pivA
      rw [show rows.getD n [] = rows[n] by rw [List.getD_eq_getElem?_getD, List.getElem?_eq_getElem hi]; rfl]
    rw [e]
    exact Int.mul_pos h1 h2
theorem piv_ones {rows : List (List Int)} (h : Tri rows) : ∀ n : Nat, n ≤ rows.length → pivP rows n = 1 → ∀ i, i < n → pivA rows i = 1
  | 0, _, _, i, hi => by omega
  | n + 1, hn, e, i, hi => by
    rw [pivP_succ] at e
    have h1 := pivP_pos h n (by omega)
    have h2 := pivA_posT h (i := n) (by omega)
    have e1 := Int.eq_one_of_mul_eq_one_right (Int.le_of_lt h1) e
    have e2 := Int.eq_one_of_mul_eq_one_left (Int.le_of_lt h2) e
    by_cases c : i = n
    · subst c; exact e2
    · exact piv_ones h n (by omega) e1 i (by omega)
theorem withV_one {odds : List Int} (hp : ∀ o ∈ odds, 0 < o) : ∀ (rows : List (List Int)) (i : Nat) (rest : List Int), RedV odds rest → i + rows.length = odds.length → (∀ r ∈ rows, RedV odds r) → (∀ (j : Nat) r, rows[j]? = some r → r.getD (i + j) 0 = 1) → withV odds i rows rest = rows
  | [], _, _, _, _, _, _ => rfl
  | row :: rows, i, rest, hr, hl, hrow, h1 => by
    have hi : i < odds.length := by rw [← hl, List.length_cons]; omega
    have hrr := hrow row (List.mem_cons_self ..)
    have e1 : row.getD i 0 = 1 := h1 0 row rfl
    obtain ⟨_, e3⟩ := euc_ok hp i (row.getD i 0).toNat row rest hrr hr
    have e : (euc odds i (row.getD i 0).toNat row rest).1 = row := by
      rw [e1]
      show (if rest.getD i 0 = 0 then (row, rest) else if (nxtV odds row rest i).getD i 0 = 0 then (row, nxtV odds row rest i) else euc odds i 0 (nxtV odds row rest i) row).1 = row
      split
      · rfl
      · obtain ⟨n1, n2, n3⟩ := euc_next hi hrr hr (by omega)
        rw [if_pos (by omega)]
    show (euc odds i (row.getD i 0).toNat row rest).1 :: withV odds (i + 1) rows (euc odds i (row.getD i 0).toNat row rest).2 = _
    rw [e, withV_one hp rows (i + 1) _ e3 (by rw [← hl, List.length_cons]; omega) (fun r hr => hrow r (List.mem_cons_of_mem _ hr)) fun j r hj => by
      have := h1 (j + 1) r hj
      rw [show i + 1 + j = i + (j + 1) by omega]
      exact this]
/-- a lattice that has all vectors stays as it is -/
theorem fold_done {odds g0 : List Int} (hp : ∀ o ∈ odds, 0 < o) (h0 : g0.length = odds.length) {rows : List (List Int)} (hR : Rows odds rows) (hT : Tri rows) (h1 : pivP rows rows.length = 1) : ∀ (gs : List (List Int)), (∀ g ∈ gs, g.length = odds.length) → gs.foldl (stepB odds g0) rows = rows
  | [], _ => rfl
  | g :: gs, hg => by
    have hv : (sub2 g g0).length = odds.length := by
      have := hg g (List.mem_cons_self ..)
      unfold sub2
      rw [List.length_zipWith, this, h0, Nat.min_self]
    rw [List.foldl_cons]
    have e : stepB odds g0 rows g = rows := withV_one hp rows 0 _ (mod2_red hv hp) (by rw [hR.len]; omega) hR.red fun j r hj => by
      have hj2 := (List.getElem?_eq_some_iff.mp hj).1
      have e := piv_ones hT rows.length (Nat.le_refl _) h1 j hj2
      unfold pivA at e
      rw [List.getD_eq_getElem?_getD (l := rows), hj] at e
      rw [Nat.zero_add]
      exact e
    rw [e]
    exact fold_done hp h0 hR hT h1 gs fun x hx => hg x (List.mem_cons_of_mem _ hx)
/-- targets gs at tg -/
def TgtAt (k : Bool) (H : Hp) (tg : Addr) (gs : List (List Int)) : Prop := ∃ as : List Addr, Sqh k H tg (as.map V.ref) ∧ AsT H as gs
theorem TgtAt.same {k : Bool} {H H' : Hp} {tg : Addr} {gs : List (List Int)} (e : Same H H') (h : TgtAt k H tg gs) : TgtAt k H' tg gs := by
  obtain ⟨as, h1, h2⟩ := h
  exact ⟨as, h1.same e, h2.same e⟩
theorem ix_seq {k : Bool} {H : Hp} {p : Addr} {xs : List V} {i : Int} {v : V} {R : V → Prop} (h : Sqh k H p xs) (hv : atI xs i = some v) (q : R v) :
    (∃ xs, H p = some (HO.lst xs) ∧ ∃ v, atI xs i = some v ∧ R v) ∨ ∃ xs, H p = some (HO.tup xs) ∧ ∃ v, atI xs i = some v ∧ R v := by
  cases k with
  | true => exact .inl ⟨xs, h, v, hv, q⟩
  | false => exact .inr ⟨xs, h, v, hv, q⟩
def MS1 (z tg : Addr) (ss : List Int) (H : Hp) (σ : L2.St) (H' : Hp) : Prop := ∃ o, σ = [some (V.ref z), some (V.ref tg), some (V.ref o), none, none, none] ∧ Same H H' ∧ H' o = some (.lst ((oddsI ss).map V.int))
def MS2 (z tg o : Addr) (ss : List Int) (H : Hp) (σ : L2.St) (H' : Hp) : Prop := ∃ b, σ = [some (V.ref z), some (V.ref tg), some (V.ref o), some (V.ref b), none, none] ∧ Same H H' ∧ LstL H' b (diagI (oddsI ss))
def MS3 (z tg o : Addr) (res : List (List Int)) (H : Hp) (σ : L2.St) (H' : Hp) : Prop := ∃ b v4 v5, σ = [some (V.ref z), some (V.ref tg), some (V.ref o), some (V.ref b), v4, v5] ∧ Same H H' ∧ LstL H' b res
def MS4 (z tg o : Addr) (res : List (List Int)) (H : Hp) (σ : L2.St) (H' : Hp) : Prop := ∃ b v4 v5, σ = [some (V.ref z), some (V.ref tg), some (V.ref o), some (V.ref b), v4, v5] ∧ Same H H' ∧ LstL H' b res
def sp_shift_basis (K : PySem.W.Frag) : Sp := fun vs H Q _ => ∃ (kz k : Bool) (z tg : Addr) (ss : List Int) (gs : List (List Int)), vs = [.ref z, .ref tg] ∧ Sqh kz H z (ss.map V.int) ∧ TgtAt k H tg gs ∧ gs ≠ [] ∧ (∀ g ∈ gs, g.length = ss.length) ∧ Sz ss ∧
  ∀ H' D, Same H H' → LstL H' D (shiftB ss gs) → Q (.ref D) H'
theorem ok_shift_basis (T : Tx K mg) : FnOk P w K mg base CX0 3 T.f_shift_basis T.fd_shift_basis ["sizes", "targets"] (sp_shift_basis K) := by
  refine T.F_shift_basis.ok sc_shift_basis (fun vs H Q E h => ?_) (fun cdv A outer s H vs Q E hr h => ?_)
  · obtain ⟨kz, k, z, tg, ss, gs, rfl, _⟩ := h; rfl
  · obtain ⟨kz, k, zz, tg, ss, gs, rfl, hz, ⟨as, htg, hA⟩, hne, hgl, z, q⟩ := h
    refine ⟨_, (C8.pss_cut (ps_setLc (i := 2) (own := [("size", 5)]) (g := (gName 5)) (tt := tYes) rfl sc_shift_basis.nd rfl rfl (sw_true rfl rfl rfl (by decide +kernel)) (pi_seqH (pv 0)) (blkOk_by (own := [("size", 5)]) (N := N_shift_basis) (sc := defScope d_shift_basis) (by decide +kernel)) (fun _ _ _ _ _ => (pg_name (i := 5) sc_shift_basis.nd rfl (Or.inl rfl))) (fun _ _ _ _ _ => pts_nil) (fun _ _ _ _ _ => (pe_call (ok_odd_part T) (hr.mono (by decide)) (by rfl) T.g_odd_part T.F_odd_part.kp T.b_odd_part .nil pass0 (pa_cons (pv 5) pa_nil))))
      (C8.pss_cut (ps_set (i := 3) sc_shift_basis.nd rfl (Or.inl rfl) (pe_call (ok_diagonal T) (hr.mono (by decide)) (by rfl) T.g_diagonal T.F_diagonal.kp T.b_diagonal .nil pass0 (pa_cons (pv 2) pa_nil)))
      (C8.pss_cut (ps_for PassesOwn.never rfl (pi_seqH (pv 1)) (pg_name (i := 4) sc_shift_basis.nd rfl (Or.inl rfl))
        (C8.pss_cut (ps_set (i := 3) sc_shift_basis.nd rfl (Or.inl rfl) (pe_call (ok_with_vector T) (hr.mono (by decide)) (by rfl) T.g_with_vector T.F_with_vector.kp T.b_with_vector .nil pass0 (pa_cons (pv 3) (pa_cons (pv 2) (pa_cons (pe_call (ok_difference T) (hr.mono (by decide)) (by rfl) T.g_difference T.F_difference.kp T.b_difference .nil pass0 (pa_cons (pv 4) (pa_cons (pe_ix (IxR.or ix_lH ix_tH) (pv 1) pe_int (fun _ _ => rfl)) pa_nil))) pa_nil)))))
        (pss_one (ps_if (pt_cmpR op_eq (pe_call (ok_pivot_product T) (hr.mono (by decide)) (by rfl) T.g_pivot_product T.F_pivot_product.kp T.b_pivot_product .nil pass0 (pa_cons (pv 3) pa_nil)) pe_int (nomark _)) (pss_one (ps_ret (pv 3))) pss_nil))))
      (pss_one (ps_ret (pv 3)))))), ?_⟩
    have el : (oddsI ss).length = ss.length := by unfold oddsI; simp
    have hn4 := z.hi
    have hn1 := z.lo
    refine ⟨MS1 zz tg ss H, ?_, ?_⟩
    · walk_at "rd"
      have main : ∀ (J : It) (G : Hp → Prop), Walk J (ss.map V.int).length G (YAt (ss.map V.int)) → (∀ H', Same H H' → G H') → LcR J (gName 5) tYes (tCall (sp_odd_part K) [] E0 (tCons (tVar 5) tNil)) [5] [some (V.ref zz), some (V.ref tg), none, none, none, none] H fun x H1 => MS1 zz tg ss H [some (V.ref zz), some (V.ref tg), some x, none, none, none] H1 := by
        intro J G W hG
        refine lcr_map W ((oddsI ss).map V.int) (by rw [List.length_map, List.length_map, el]) ?_ hG (fun _ _ _ _ y => YAt.same y) ?_ fun D H3 hD s3 h3 => ⟨D, rfl, s3, h3⟩
        · rw [List.length_map]
          exact Nat.le_trans hn4 (by decide)
        · rintro i x H3 H4 y Qy hi s3 ⟨rfl, hx⟩ hr hq
          unfold oddsI at hr
          simp only [List.getElem?_map, Option.map_eq_some_iff] at hr hx
          obtain ⟨x2, hx2, rfl⟩ := hx
          obtain ⟨r, ⟨r2, hr2, rfl⟩, rfl⟩ := hr
          rw [hx2] at hr2
          obtain rfl := Option.some.inj hr2
          walk_at "rd"
          exact ⟨x2, rfl, z.pos _ (List.mem_of_getElem? hx2), Nat.lt_of_lt_of_le (z.bits _ (List.mem_of_getElem? hx2)) (Nat.pow_le_pow_right (by decide) (by decide)), hq _ (Same.refl _)⟩
      cases kz with
      | true => exact .inl ⟨_, hz, fun J W => main J _ W fun H' s => s _ _ hz⟩
      | false => exact .inr ⟨_, hz, fun J W => main J _ W fun H' s => s _ _ hz⟩
    rintro σ1 H1 ⟨o, rfl, s1, ho⟩
    refine ⟨MS2 zz tg o ss H1, ?_, ?_⟩
    · walk_at "rd"
      exact ⟨o, oddsI ss, rfl, ho, by omega, fun H2 D s2 hD hL => ⟨D, rfl, s2, hL⟩⟩
    rintro σ2 H2 ⟨b, rfl, s2, hb2⟩
    have s02 := s1.trans s2
    have ho2 := s2 _ _ ho
    refine ⟨MS3 zz tg o (shiftB ss gs) H2, ?_, ?_⟩
    · walk_at "rd"
      have htg2 := htg.same s02
      have hA2 := hA.same s02
      have h0m := headD_mem hne
      obtain ⟨a0, ha0⟩ : ∃ a0, as[0]? = some a0 := by
        have : 0 < as.length := by rw [hA.1]; exact List.length_pos_iff.mpr hne
        exact ⟨as[0], List.getElem?_eq_getElem this⟩
      have hg0 : gs[0]? = some (gs.headD []) := by
        cases gs with
        | nil => exact absurd rfl hne
        | cons g gs => rfl
      have main : ∀ (J : It) (G : Hp → Prop), Walk J (as.map V.ref).length G (YAt (as.map V.ref)) → (∀ H', Same H2 H' → G H') → ForR J (gName 4)
          (C8.tCut (tAsg (tCall (sp_with_vector K) [] E0 (tCons (tVar 3) (tCons (tVar 2) (tCons (tCall (sp_difference K) [] E0 (tCons (tVar 4) (tCons (tOp (fun x y H Q => (∃ p, x = V.ref p ∧ ∃ x, y = V.int x ∧ ∃ xs, H p = some (HO.lst xs) ∧ ∃ v, atI xs x = some v ∧ Q v H) ∨
            ∃ p, x = V.ref p ∧ ∃ x, y = V.int x ∧ ∃ xs, H p = some (HO.tup xs) ∧ ∃ v, atI xs x = some v ∧ Q v H) (tVar 1) (tC (V.int 0))) tNil))) tNil)))) (gName 3)) (tIfS (tTest (tOp rEq (tCall (sp_pivot_product K) [] E0 (tCons (tVar 3) tNil)) (tC (V.int 1)))) (tRet (tVar 3)) tNext)) { nx := MS3 zz tg o (shiftB ss gs) H2, rt := Q } [some (V.ref zz), some (V.ref tg), some (V.ref o), some (V.ref b), none, none] H2 := by
        intro J G W hG
        refine forr W (fun i σ H' => ∃ b' v4 v5, σ = [some (V.ref zz), some (V.ref tg), some (V.ref o), some (V.ref b'), v4, v5] ∧ Same H2 H' ∧ LstL H' b' ((gs.take i).foldl (stepB (oddsI ss) (gs.headD [])) (diagI (oddsI ss)))) ⟨b, none, none, rfl, Same.refl _, hb2⟩ (fun i σ H' _ h => by obtain ⟨_, _, _, _, h, _⟩ := h; exact hG _ h) ?_ ?_
        · rintro i x σ3 H3o H3 hi ⟨b', v4, v5, rfl, s3, hb3⟩ ⟨rfl, hx⟩
          simp only [List.getElem?_map, Option.map_eq_some_iff] at hx
          obtain ⟨a, ha, rfl⟩ := hx
          rw [List.length_map, hA.1] at hi
          have hg := List.getElem?_eq_getElem hi
          have hga := (hA2.same s3).2 i a _ ha hg
          have hga0 := (hA2.same s3).2 0 a0 _ ha0 hg0
          have hgl1 := hgl _ (List.getElem_mem hi)
          have hgl0 := hgl _ h0m
          have hsub : (sub2 gs[i] (gs.headD [])).length = (oddsI ss).length := by
            unfold sub2
            rw [List.length_zipWith, hgl1, hgl0, Nat.min_self, el]
          have hR := fold_rows (odds_pos z.pos) (odds_bnd z.bits) (by rw [hgl0, el]) (gs.take i) _ (fun g h => by rw [el]; exact hgl g (List.mem_of_mem_take h)) (Rows.diag (odds_pos z.pos) (odds_bnd z.bits))
          have hTr := fold_tri (odds_pos z.pos) (odds_bnd z.bits) (by rw [hgl0, el]) (gs.take i) _ (fun g h => by rw [el]; exact hgl g (List.mem_of_mem_take h)) (Rows.diag (odds_pos z.pos) (odds_bnd z.bits)) (diag_tri (odds_pos z.pos))
          have hR1 := fold_rows (odds_pos z.pos) (odds_bnd z.bits) (by rw [hgl0, el]) (gs.take (i + 1)) _ (fun g h => by rw [el]; exact hgl g (List.mem_of_mem_take h)) (Rows.diag (odds_pos z.pos) (odds_bnd z.bits))
          have hTr1 := fold_tri (odds_pos z.pos) (odds_bnd z.bits) (by rw [hgl0, el]) (gs.take (i + 1)) _ (fun g h => by rw [el]; exact hgl g (List.mem_of_mem_take h)) (Rows.diag (odds_pos z.pos) (odds_bnd z.bits)) (diag_tri (odds_pos z.pos))
          refine ⟨MS4 zz tg o ((gs.take (i + 1)).foldl (stepB (oddsI ss) (gs.headD [])) (diagI (oddsI ss))) H2, ?_, ?_⟩
          · walk_at "rd"
            have hv0 : atI (as.map V.ref) (0 : Int) = some (V.ref a0) := atI_nat (j := 0) (by rw [List.getElem?_map, ha0]; rfl)
            refine ix_seq (i := 0) (htg2.same s3) hv0 ?_
            refine ⟨false, false, a, a0, gs[i], gs.headD [], rfl, hga, hga0, by rw [hgl1, hgl0], by omega, fun H4 d s4 hd hd4 => ?_⟩
            refine ⟨b', o, d, true, _, oddsI ss, _, rfl, hb3.same s4, s4 _ _ (s3 _ _ ho2), hd4, hR.len, hsub, by omega, by omega, hR.red, fun j r hj => (hTr j r hj).2, odds_pos z.pos, odds_bnd z.bits, fun H5 D s5 hD hL => ?_⟩
            refine ⟨D, _, _, rfl, (s3.trans s4).trans s5, ?_⟩
            rw [List.take_add_one, hg, List.foldl_append]
            exact hL
          rintro σ4 H4 ⟨b4, v4, v5, rfl, s4, hb4⟩
          walk_at "rd"
          refine ⟨b4, oddsI ss, _, rfl, hb4, hR1, by omega, fun H5 s5 => ?_⟩
          walk_at "rd"
          split
          · rename_i e1
            have hfull : shiftB ss gs = (gs.take (i + 1)).foldl (stepB (oddsI ss) (gs.headD [])) (diagI (oddsI ss)) := by
              have := fold_done (odds_pos z.pos) (by rw [hgl0, el]) hR1 hTr1 e1 (gs.drop (i + 1)) fun g h => by rw [el]; exact hgl g (List.mem_of_mem_drop h)
              rw [← List.foldl_append, List.take_append_drop] at this
              exact this
            refine q _ b4 ((s02.trans s4).trans s5) ?_
            rw [hfull]
            exact hb4.same s5
          · exact ⟨s4.trans s5, hb4.same s5⟩
        · rintro σ3 H3 ⟨b', v4, v5, rfl, s3, hb3⟩
          refine ⟨b', v4, v5, rfl, s3, ?_⟩
          rw [List.length_map, hA.1, List.take_length] at hb3
          exact hb3
      cases k with
      | true => exact .inl ⟨_, htg2, fun J W => main J _ W fun H' s => s _ _ htg2⟩
      | false => exact .inr ⟨_, htg2, fun J W => main J _ W fun H' s => s _ _ htg2⟩
    rintro σ3 H3 ⟨b3, v4, v5, rfl, s3, hb3⟩
    walk_at "rd"
    exact q _ b3 (s02.trans s3) hb3
end

section
variable {P : Program} {w : World} {K : PySem.W.Frag} {mg : Str → Option Value} {base : Heap}
theorem or_seq {k : Bool} {H : Hp} {p : Addr} {xs : List V} {R : List V → Prop} (h : Sqh k H p xs) (r : R xs) : (∃ xs, H p = some (HO.lst xs) ∧ R xs) ∨ ∃ xs, H p = some (HO.tup xs) ∧ R xs := by
  cases k with
  | true => exact .inl ⟨xs, h, r⟩
  | false => exact .inr ⟨xs, h, r⟩
def sp_require_seats (K : PySem.W.Frag) : Sp := fun vs H Q _ => ∃ (kz k : Bool) (z tg : Addr) (ss : List Int) (gs : List (List Int)), vs = [.ref z, .ref tg] ∧ Sqh kz H z (ss.map V.int) ∧ TgtAt k H tg gs ∧ gs.Nodup ∧ gs.length < 60 ∧ (∀ g ∈ gs, Seat ss g) ∧ Sz ss ∧ ∀ H', Same H H' → Q .non H'
theorem ok_require_seats (T : Tx K mg) : FnOk P w K mg base CX0 2 T.f_require_seats T.fd_require_seats ["sizes", "seats"] (sp_require_seats K) := by
  refine T.F_require_seats.ok sc_require_seats (fun vs H Q E h => ?_) (fun cdv A outer s H vs Q E hr h => ?_)
  · obtain ⟨kz, k, z, tg, ss, gs, rfl, _⟩ := h; rfl
  · obtain ⟨kz, k, zz, tg, ss, gs, rfl, hz, ⟨as, htg, hA⟩, hnd, h60, hSt, z, q⟩ := h
    refine ⟨_, (pss_cons (ps_if (pt_not (pt_val (pe_callB (call_isAK (K := K) rfl) (by rfl) T.n_isinstance (by decide +kernel) (pa_cons (pv 1) (pa_cons (pe_tup (pa_cons (pe_bltn (v := .ty "list") (by rfl) T.n_list (by decide +kernel) rfl) (pa_cons (pe_bltn (v := .ty "tuple") (by rfl) T.n_tuple (by decide +kernel) rfl) pa_nil))) pa_nil))))) (pss_one ps_never) pss_nil)
      (pss_cons (ps_set (i := 2) sc_require_seats.nd rfl (Or.inl rfl) (pe_callTy0 cr_set0T (by rfl) T.n_set (by decide +kernel)))
      (pss_one (ps_for PassesOwn.never rfl (pi_enH (by rfl) T.n_enumerate (pa_cons (pv 1) pa_nil)) (pg_tupH (n := 2) rfl (pgs_cons (pg_name (i := 3) sc_require_seats.nd rfl (Or.inl rfl)) (pgs_cons (pg_name (i := 4) sc_require_seats.nd rfl (Or.inl rfl)) pgs_nil)))
        (pss_cons (ps_if (PW.pt (pw_or (pt_not (pt_val (pe_call (ok_is_seat T) (hr.mono (by decide)) (by rfl) T.g_is_seat T.F_is_seat.kp T.b_is_seat .nil pass0 (pa_cons (pv 0) (pa_cons (pv 4) pa_nil))))) (pw_or1 (pt_cmpR (op_inT hr.units) (pv 4) (pv 2) rfl)))) (pss_one ps_never) pss_nil)
        (pss_one (ps_expr (pe_addT hr.units (pv 2) (pa_cons (pv 4) pa_nil))))))))), ?_⟩
    walk_at "rd"
    intro tp htp
    have s1 := Same.new htp (o := .tup [V.ty "list", V.ty "tuple"])
    generalize upd H tp (HO.tup [V.ty "list", V.ty "tuple"]) = H1 at s1 ⊢
    refine ⟨true, ?_, ?_⟩
    · cases k with
      | true => exact isA_two (b1 := true) (b2 := false) (.base (.lst (s1 _ _ htg))) (by decide +kernel) (by decide +kernel) rfl
      | false => exact isA_two (b1 := false) (b2 := true) (.base (.tup (s1 _ _ htg))) (by decide +kernel) (by decide +kernel) rfl
    rw [if_neg (by decide)]
    refine ⟨rfl, fun S hS => ?_⟩
    have s2 := Same.new hS (o := SetTO P w S [])
    have f2 : (upd H1 S (SetTO P w S [])) S = some (SetTO P w S []) := upd_same
    generalize upd H1 S (SetTO P w S []) = H2 at s2 f2 ⊢
    have s02 := s1.trans s2
    have hHS : H S = none := by
      cases e : H S with
      | none => rfl
      | some u => rw [s1 _ _ e] at hS; cases hS
    refine ⟨k, as.map V.ref, htg.same s02, fun J W => ?_⟩
    refine forr W (fun i σ H' => Same H H' ∧ ∃ L v3 v4, σ = [some (V.ref zz), some (V.ref tg), some (V.ref S), v3, v4] ∧ H' S = some (SetTO P w S L) ∧ L.length = i ∧ (∀ p ∈ L, H p.1 = some (.tup (p.2.map V.int))) ∧ ∀ g, g ∈ L.map (·.2) ↔ g ∈ gs.take i)
      ⟨s02, [], none, none, rfl, f2, rfl, by simp, by simp⟩ (fun i σ H' _ h => htg.same h.1) ?_ ?_
    · rintro i x σ3 H3 H4 hi ⟨s3, L, v3, v4, rfl, hS3, hLl, hL, hLm⟩ ⟨T0, x1, rfl, hT, rfl, hx⟩
      simp only [List.getElem?_map, Option.map_eq_some_iff] at hx
      obtain ⟨a, ha, rfl⟩ := hx
      rw [List.length_map, hA.1] at hi
      have hg := List.getElem?_eq_getElem hi
      have haH := hA.2 i a _ ha hg
      have hSg := hSt _ (List.getElem_mem hi)
      have sT := Same.new hT (o := .tup [V.int (i : Nat), V.ref a])
      walk_at "rd"
      generalize upd H3 T0 (HO.tup [V.int (i : Nat), V.ref a]) = H4 at sT ⊢
      have s04 := s3.trans sT
      refine ⟨kz, zz, ss, .ref a, true, rfl, hz.same s04, hSg.b z (s04 _ _ haH), fun H5 s5 => ⟨true, rfl, ?_⟩⟩
      rw [if_neg (by decide)]
      have s05 := s04.trans s5
      have hS5 := s5 _ _ (sT _ _ hS3)
      have hgn : gs[i] ∉ gs.take i := by
        intro hm
        obtain ⟨j, hj, e⟩ := List.getElem_of_mem hm
        rw [List.length_take] at hj
        rw [List.getElem_take] at e
        exact absurd e (List.pairwise_iff_getElem.mp hnd j i (by omega) hi (by omega))
      have hgL : gs[i] ∉ L.map (·.2) := fun h => hgn ((hLm _).mp h)
      refine ⟨a, S, gs[i], L, rfl, rfl, s05 _ _ haH, hS5, fun p hp => s05 _ _ (hL p hp), ?_⟩
      refine ⟨_, rfl, ?_⟩
      rw [if_neg Bool.false_ne_true, decide_eq_false hgL, if_neg Bool.false_ne_true]
      simp only [tAddT]
      walk_at "rd"
      refine ⟨⟨L, hS5⟩, a, S, gs[i], L, rfl, rfl, s05 _ _ haH, hS5, fun p hp => s05 _ _ (hL p hp), by omega, fun L' _ hperm => ?_⟩
      have hp := hperm hgL
      refine ⟨fun c u hc => by rw [upd_ne (ne_some hc hHS)]; exact s05 _ _ hc, L', upd_same, by rw [hp.length_eq, List.length_cons, hLl], fun p hpm => ?_, fun g => ?_⟩
      · rcases List.mem_cons.mp (hp.mem_iff.mp hpm) with rfl | h
        · exact haH
        · exact hL p h
      · rw [(hp.map _).mem_iff, List.map_cons, List.mem_cons, hLm]
        have e : gs.take (i + 1) = gs.take i ++ [gs[i]] := by rw [List.take_add_one, hg]; rfl
        rw [e, List.mem_append, List.mem_singleton]
        exact Or.comm
    · rintro σ3 H3 ⟨s3, L, v3, v4, rfl, hS3, hLl, hL, hLm⟩
      exact q _ s3
def sp_require_targets (K : PySem.W.Frag) : Sp := fun vs H Q _ => ∃ (kz k : Bool) (z tg : Addr) (ss : List Int) (gs : List (List Int)), vs = [.ref z, .ref tg] ∧ Sqh kz H z (ss.map V.int) ∧ TgtAt k H tg gs ∧ gs ≠ [] ∧ gs.Nodup ∧ gs.length < 60 ∧ (∀ g ∈ gs, Seat ss g) ∧ Sz ss ∧ ∀ H', Same H H' → Q .non H'
theorem ok_require_targets (T : Tx K mg) : FnOk P w K mg base CX0 3 T.f_require_targets T.fd_require_targets ["sizes", "targets"] (sp_require_targets K) := by
  refine T.F_require_targets.ok sc_require_targets (fun vs H Q E h => ?_) (fun cdv A outer s H vs Q E hr h => ?_)
  · obtain ⟨kz, k, z, tg, ss, gs, rfl, _⟩ := h; rfl
  · obtain ⟨kz, k, zz, tg, ss, gs, rfl, hz, hG, hne, hnd, h60, hSt, z, q⟩ := h
    refine ⟨_, (pss_cons (ps_expr (pe_call (ok_require_seats T) (hr.mono (by decide)) (by rfl) T.g_require_seats T.F_require_seats.kp T.b_require_seats .nil pass0 (pa_cons (pv 0) (pa_cons (pv 1) pa_nil))))
      (pss_one (ps_if (pt_cmpR op_eq (pe_callB len_H (by rfl) T.n_len PySem.boot_len (pa_cons (pv 1) pa_nil)) pe_int (nomark _)) (pss_one ps_never) pss_nil))), ?_⟩
    walk_at "rd"
    refine ⟨kz, k, zz, tg, ss, gs, rfl, hz, hG, hnd, h60, hSt, z, fun H1 s1 => ?_⟩
    obtain ⟨as, htg, hA⟩ := hG.same s1
    have hl0 : 0 < as.length := by rw [hA.1]; exact List.length_pos_iff.mpr hne
    refine or_seq htg ?_
    rw [if_neg (by rw [List.length_map]; omega)]
    exact q _ s1
end

section
variable {P : Program} {w : World} {K : PySem.W.Frag} {mg : Str → Option Value} {base : Heap}
def cosetI (ss : List Int) (gs : List (List Int)) : Int := pivP (shiftB ss gs) ss.length
/-- valid targets -/
structure Tgts (ss : List Int) (gs : List (List Int)) : Prop where
  ne : gs ≠ []
  nd : gs.Nodup
  few : gs.length < 60
  ok : ∀ g ∈ gs, Seat ss g
def sp_coset_count (K : PySem.W.Frag) (C : Addr) : Sp := fun vs H Q _ => ∃ (k : Bool) (a tg : Addr) (ss : List Int) (gs : List (List Int)), vs = [.ref a, .ref tg] ∧ TabAt C H a ss ∧ TgtAt k H tg gs ∧ Tgts ss gs ∧ Sz ss ∧ ∀ H', Same H H' → Q (.int (cosetI ss gs)) H'
theorem ok_coset_count (T : Tx K mg) : FnOk P w K mg base CX0 4 T.f_coset_count T.fd_coset_count ["table", "targets"] (sp_coset_count K T.c_Table) := by
  refine T.F_coset_count.ok sc_coset_count (fun vs H Q E h => ?_) (fun cdv A outer s H vs Q E hr h => ?_)
  · obtain ⟨k, a, tg, ss, gs, rfl, _⟩ := h; rfl
  · obtain ⟨k, a, tg, ss, gs, rfl, hT, hG, hgs, z, q⟩ := h
    refine ⟨_, (pss_cons (ps_set (i := 2) sc_coset_count.nd rfl (Or.inl rfl) (pe_call (ok_sizes_of T) (hr.mono (by decide)) (by rfl) T.g_sizes_of T.F_sizes_of.kp T.b_sizes_of .nil pass0 (pa_cons (pv 0) pa_nil)))
      (pss_cons (ps_expr (pe_call (ok_require_targets T) (hr.mono (by decide)) (by rfl) T.g_require_targets T.F_require_targets.kp T.b_require_targets .nil pass0 (pa_cons (pv 2) (pa_cons (pv 1) pa_nil))))
      (pss_one (ps_ret (pe_call (ok_pivot_product T) (hr.mono (by decide)) (by rfl) T.g_pivot_product T.F_pivot_product.kp T.b_pivot_product .nil pass0 (pa_cons (pe_call (ok_shift_basis T) (hr.mono (by decide)) (by rfl) T.g_shift_basis T.F_shift_basis.kp T.b_shift_basis .nil pass0 (pa_cons (pv 2) (pa_cons (pv 1) pa_nil))) pa_nil)))))), ?_⟩
    walk_at "rd"
    refine ⟨a, ss, rfl, hT, fun t ht => ⟨false, k, t, tg, ss, gs, rfl, ht, hG, hgs.ne, hgs.nd, hgs.few, hgs.ok, z, fun H1 s1 => ?_⟩⟩
    have hlen : ∀ g ∈ gs, g.length = ss.length := fun g hg => (hgs.ok g hg).len
    refine ⟨false, k, t, tg, ss, gs, rfl, s1 _ _ ht, hG.same s1, hgs.ne, hlen, z, fun H2 D s2 hL => ?_⟩
    have hR := shift_rows z hgs.ne hlen
    have hn := hR.len
    have el : (oddsI ss).length = ss.length := by unfold oddsI; simp
    refine ⟨D, oddsI ss, shiftB ss gs, rfl, hL, hR, by have := z.hi; omega, fun H3 s3 => ?_⟩
    rw [hn, el]
    exact q _ ((s1.trans s2).trans s3)
theorem shift_tri {ss : List Int} {gs : List (List Int)} (z : Sz ss) (hg : gs ≠ []) (hl : ∀ g ∈ gs, g.length = ss.length) : Tri (shiftB ss gs) := by
  have e : (oddsI ss).length = ss.length := by unfold oddsI; simp
  exact fold_tri (odds_pos z.pos) (odds_bnd z.bits) (by rw [e]; exact hl _ (headD_mem hg)) gs _ (fun g h => by rw [e]; exact hl g h) (Rows.diag (odds_pos z.pos) (odds_bnd z.bits)) (diag_tri (odds_pos z.pos))
end

section
variable {P : Program} {w : World} {K : PySem.W.Frag} {mg : Str → Option Value} {base : Heap}
theorem walk_itc {lo c : Int} {n : Nat} : Walk (Itc lo c n) n (fun _ => True) (YFn fun i => .int (lo + (i : Nat) * c)) := by
  refine ⟨fun i _ hi _ => hi, fun _ _ => Nat.le_refl _, fun i H v H' _ _ y => y⟩
def BW (B : Nat) (w : List Int) : Prop := ∀ x ∈ w, x.natAbs < 2 ^ B
theorem dot_bnd {a b : Nat} : ∀ (xs ys : List Int), (∀ x ∈ xs, x.natAbs < 2 ^ a) → (∀ y ∈ ys, y.natAbs < 2 ^ b) → (dot xs ys).natAbs < 2 ^ (a + b) * (xs.length + 1)
  | [], _, _, _ => by
    have : 0 < 2 ^ (a + b) := Nat.pow_pos (by decide)
    simpa [dot] using this
  | x :: xs, [], _, _ => by
    have h : 0 < 2 ^ (a + b) := Nat.pow_pos (by decide)
    have : 0 < 2 ^ (a + b) * ((x :: xs).length + 1) := Nat.mul_pos h (Nat.succ_pos _)
    simpa [dot] using this
  | x :: xs, y :: ys, hx, hy => by
    have h1 : (x * y).natAbs < 2 ^ (a + b) := wide_lt (hx x (List.mem_cons_self ..)) (hy y (List.mem_cons_self ..))
    have h2 := dot_bnd xs ys (fun x h => hx x (List.mem_cons_of_mem _ h)) (fun y h => hy y (List.mem_cons_of_mem _ h))
    have h3 : (dot (x :: xs) (y :: ys)).natAbs ≤ (x * y).natAbs + (dot xs ys).natAbs := Int.natAbs_add_le _ _
    rw [List.length_cons, Nat.mul_succ]
    omega
def wstep (rows : List (List Int)) (i : Nat) (w : List Int) : List Int := w.set i (-(dot (rows.getD i []) w) / pivA rows i)
def invC (rows : List (List Int)) (m : Int) (c : Nat) (k : Nat) : List Int := (List.range k).foldl (fun w j => wstep rows (c - 1 - j) w) ((List.replicate rows.length (0 : Int)).set c (m / pivA rows c))
theorem invC_succ (rows : List (List Int)) (m : Int) (c k : Nat) : invC rows m c (k + 1) = wstep rows (c - 1 - k) (invC rows m c k) := by
  unfold invC
  rw [List.range_succ, List.foldl_append]
  rfl
theorem invC_len (rows : List (List Int)) (m : Int) (c : Nat) : ∀ k, (invC rows m c k).length = rows.length
  | 0 => by unfold invC; simp
  | k + 1 => by rw [invC_succ]; unfold wstep; rw [List.length_set, invC_len rows m c k]
theorem row_at {odds : List Int} {rows : List (List Int)} (h : Rows odds rows) {i : Nat} (hi : i < rows.length) : rows.getD i [] = rows[i] ∧ rows[i].length = odds.length ∧ Bnd rows[i] := by
  refine ⟨by rw [List.getD_eq_getElem?_getD, List.getElem?_eq_getElem hi]; rfl, h.row _ (List.getElem_mem hi)⟩
theorem invC_bnd {odds : List Int} {rows : List (List Int)} (h : Rows odds rows) (h4 : odds.length ≤ 4) {m : Int} (hm : m.natAbs < 2 ^ 4001) (c : Nat) : ∀ k, BW (4001 + 1003 * k) (invC rows m c k)
  | 0 => fun x hx => by
    unfold invC at hx
    rcases List.mem_or_eq_of_mem_set hx with h1 | h1
    · rw [(List.mem_replicate.mp h1).2]
      exact Nat.pow_pos (by decide)
    · rw [h1]
      exact Nat.lt_of_le_of_lt (Int.natAbs_ediv_le_natAbs _ _) hm
  | k + 1 => fun x hx => by
    have ih := invC_bnd h h4 hm c k
    rw [invC_succ] at hx
    unfold wstep at hx
    have hmono : 2 ^ (4001 + 1003 * k) ≤ 2 ^ (4001 + 1003 * (k + 1)) := Nat.pow_le_pow_right (by decide) (by omega)
    rcases List.mem_or_eq_of_mem_set hx with h1 | h1
    · exact Nat.lt_of_lt_of_le (ih x h1) hmono
    · rw [h1]
      refine Nat.lt_of_le_of_lt (Int.natAbs_ediv_le_natAbs _ _) ?_
      rw [Int.natAbs_neg]
      have hrow : (∀ x ∈ rows.getD (c - 1 - k) [], x.natAbs < 2 ^ 1000) ∧ (rows.getD (c - 1 - k) []).length ≤ 4 := by
        rw [List.getD_eq_getElem?_getD]
        cases e : rows[c - 1 - k]? with
        | none => simp
        | some r =>
          obtain ⟨h5, h6⟩ := h.row r (List.mem_of_getElem? e)
          exact ⟨h6, by rw [Option.getD_some, h5]; exact h4⟩
      have h7 := dot_bnd (a := 1000) (b := 4001 + 1003 * k) _ _ hrow.1 ih
      have h8 : 2 ^ (1000 + (4001 + 1003 * k)) * ((rows.getD (c - 1 - k) []).length + 1) ≤ 2 ^ (1000 + (4001 + 1003 * k)) * 8 := Nat.mul_le_mul_left _ (by omega)
      have h9 : 2 ^ (1000 + (4001 + 1003 * k)) * 8 = 2 ^ (4001 + 1003 * (k + 1)) := by
        rw [show (8 : Nat) = 2 ^ 3 by rfl, ← Nat.pow_add]
        congr 1
        omega
      omega
theorem wide_mono {x : Int} {a b : Nat} (h : x.natAbs < 2 ^ a) (hab : a ≤ b) : x.natAbs < 2 ^ b := Nat.lt_of_lt_of_le h (Nat.pow_le_pow_right (by decide) hab)
def MI1 (b : Addr) (m : Int) (c : Nat) (n : Nat) (H : Hp) (σ : L2.St) (H' : Hp) : Prop := ∃ D, σ = [some (V.ref b), some (V.int m), some (V.int (c : Nat)), some (V.ref D), none] ∧ Same H H' ∧ H D = none ∧ H' D = some (.lst ((List.replicate n (0 : Int)).map V.int))
def MI2 (b D : Addr) (m : Int) (c : Nat) (w : List Int) (H : Hp) (σ : L2.St) (H' : Hp) : Prop := ∃ v4, σ = [some (V.ref b), some (V.int m), some (V.int (c : Nat)), some (V.ref D), v4] ∧ Same H H' ∧ H' D = some (.lst (w.map V.int))
def sp_inverse_column (K : PySem.W.Frag) : Sp := fun vs H Q _ => ∃ (b : Addr) (m : Int) (c : Nat) (odds : List Int) (rows : List (List Int)), vs = [.ref b, .int m, .int (c : Nat)] ∧ LstL H b rows ∧ Rows odds rows ∧ Tri rows ∧ odds.length ≤ 4 ∧ c < rows.length ∧ m.natAbs < 2 ^ 4001 ∧
  ∀ H' D, Same H H' → H D = none → H' D = some (.lst ((invC rows m c c).map V.int)) → Q (.ref D) H'
theorem ok_inverse_column (T : Tx K mg) : FnOk P w K mg base CX0 2 T.f_inverse_column T.fd_inverse_column ["basis", "modulus", "column"] (sp_inverse_column K) := by
  refine T.F_inverse_column.ok sc_inverse_column (fun vs H Q E h => ?_) (fun cdv A outer s H vs Q E hr h => ?_)
  · obtain ⟨b, m, c, odds, rows, rfl, _⟩ := h; rfl
  · obtain ⟨b, m, c, odds, rows, rfl, ⟨as, hb, hA⟩, hR, hTr, h4, hc, hm, q⟩ := h
    refine ⟨_, (C8.pss_cut (ps_set (i := 3) sc_inverse_column.nd rfl (Or.inl rfl) (pe_op op_rep (pe_lst (pa_cons pe_int pa_nil)) (pe_callB len_H (by rfl) T.n_len PySem.boot_len (pa_cons (pv 0) pa_nil))))
      (C8.pss_cut (ps_asg (pe_op op_fdivW (pv 1) (pe_ix ix_lH (pe_ix ix_lH (pv 0) (pv 2) (fun _ _ => rfl)) (pv 2) (fun _ _ => rfl))) (pg_sub (pv 3) (pv 2) set_lH))
      (C8.pss_cut (ps_for PassesOwn.never rfl (pi_revR (by rfl) T.n_reversed (prg_1 (by rfl) T.n_range (pv 2))) (pg_name (i := 4) sc_inverse_column.nd rfl (Or.inl rfl))
        (pss_one (ps_asg (pe_op op_fdivW (pe_un un_neg (pe_call (ok_weighted_sum T) (hr.mono (by decide)) (by rfl) T.g_weighted_sum T.F_weighted_sum.kp T.b_weighted_sum .nil pass0 (pa_cons (pe_ix ix_lH (pv 0) (pv 4) (fun _ _ => rfl)) (pa_cons (pv 3) pa_nil)))) (pe_ix ix_lH (pe_ix ix_lH (pv 0) (pv 4) (fun _ _ => rfl)) (pv 4) (fun _ _ => rfl))) (pg_sub (pv 3) (pv 4) set_lH))))
      (pss_one (ps_ret (pv 3)))))), ?_⟩
    have hrn := hR.len
    have rowr : ∀ {G : Hp} {i : Nat}, Same H G → (hi : i < rows.length) → ∃ a, as[i]? = some a ∧ G b = some (.lst (as.map V.ref)) ∧ G a = some (.lst (rows[i].map V.int)) := fun {G i} s hi => by
      have hia : i < as.length := by rw [hA.1]; exact hi
      exact ⟨as[i], List.getElem?_eq_getElem hia, s _ _ hb, s _ _ (hA.2 i _ _ (List.getElem?_eq_getElem hia) (List.getElem?_eq_getElem hi))⟩
    have pivr : ∀ {i : Nat} (hi : i < rows.length), rows[i][i]? = some (pivA rows i) ∧ 0 < pivA rows i := fun {i} hi => by
      obtain ⟨e1, e2, e3⟩ := row_at hR hi
      have hii : i < rows[i].length := by rw [e2]; omega
      have hp := (hTr i _ (List.getElem?_eq_getElem hi)).2
      have e : pivA rows i = rows[i].getD i 0 := by unfold pivA; rw [e1]
      refine ⟨?_, by rw [e]; exact hp⟩
      rw [e, List.getD_eq_getElem?_getD, List.getElem?_eq_getElem hii]
      rfl
    refine ⟨MI1 b m c rows.length H, ?_, ?_⟩
    · walk_at "rd"
      intro p hp
      have sp := Same.new hp (o := .lst [V.int 0])
      have fp : (upd H p (.lst [V.int 0])) p = some (.lst [V.int 0]) := upd_same
      generalize upd H p (HO.lst [V.int 0]) = H1 at sp fp ⊢
      refine .inl ⟨_, sp _ _ hb, p, (rows.length : Int), [V.int 0], rfl, by rw [List.length_map, hA.1], fp, by omega, by omega, ?_, fun r hr => ?_⟩
      · rw [Int.toNat_natCast]
        exact Nat.le_trans (by simp; omega : [V.int 0].length * rows.length ≤ 4) (by decide)
      · rw [Int.toNat_natCast, flat0]
        have hr3 : H r = none := by
          cases e2 : H r with
          | none => rfl
          | some o => rw [sp _ _ e2] at hr; cases hr
        exact ⟨r, rfl, sp.trans (Same.new hr), hr3, upd_same⟩
    rintro σ1 H1 ⟨D, rfl, s1, hD, hD1⟩
    refine ⟨MI2 b D m c (invC rows m c 0) H, ?_, ?_⟩
    · walk_at "rd"
      obtain ⟨a, ha, hb1, har⟩ := rowr s1 hc
      obtain ⟨e1, e2⟩ := pivr hc
      refine ⟨_, hb1, .ref a, atI_nat (by rw [List.getElem?_map, ha]; rfl), a, rfl, _, har, .int (pivA rows c), atI_nat (by rw [List.getElem?_map, e1]; rfl), _, rfl, wide_div (b := 1000) e2 (pivA_bnd hR c) (by decide) (by decide), _, hD1, c, ixN_in (by rw [List.length_map, List.length_replicate]; exact hc), none, rfl, ?_, ?_⟩
      · intro x o hx
        rw [upd_ne (ne_some hx hD)]
        exact s1 _ _ hx
      · rw [upd_same]
        unfold invC
        rw [List.range_zero, List.foldl_nil, List.map_set]
    rintro σ2 H2 ⟨v4, rfl, s2, hD2⟩
    refine ⟨MI2 b D m c (invC rows m c c) H, ?_, ?_⟩
    · walk_at "rd"
      refine ⟨by omega, by omega, ?_⟩
      rw [show ((c : Int) - 0).toNat = c by omega]
      refine forr walk_itc (fun i σ H' => ∃ v4, σ = [some (V.ref b), some (V.int m), some (V.int (c : Nat)), some (V.ref D), v4] ∧ Same H H' ∧ H' D = some (.lst ((invC rows m c i).map V.int))) ⟨v4, rfl, s2, hD2⟩ (fun _ _ _ _ _ => trivial) ?_ ?_
      · rintro i x σ3 H3o H3 hi ⟨v4, rfl, s3, hD3⟩ ⟨rfl, hx⟩
        have hj : c - 1 - i < rows.length := by omega
        have hx2 : x = V.int ((c - 1 - i : Nat) : Int) := by
          rw [hx]
          show V.int (0 + (c : Int) - 1 + (i : Nat) * -1) = _
          congr 1
          omega
        subst hx2
        obtain ⟨a, ha, hb3, har⟩ := rowr s3 hj
        obtain ⟨e1, e2⟩ := pivr hj
        obtain ⟨r1, r2, r3⟩ := row_at hR hj
        have hw := invC_len rows m c i
        have hwb := invC_bnd hR h4 hm c i
        walk_at "rd"
        refine ⟨_, hb3, .ref a, atI_nat (by rw [List.getElem?_map, ha]; rfl), ?_⟩
        refine ⟨true, true, a, D, rows[c - 1 - i], invC rows m c i, rfl, har, hD3, by rw [r2, hw, hrn], by omega, fun j x y hx hy => ?_, fun H4 s4 => ?_⟩
        · exact .inr (.inr (wide_mul (a := 1000) (b := 4001 + 1003 * i) (r3 x (List.mem_of_getElem? hx)) (hwb y (List.mem_of_getElem? hy)) (by decide) (by omega) (by omega)))
        obtain ⟨a', ha', hb4, har4⟩ := rowr (s3.trans s4) hj
        refine ⟨_, rfl, _, hb4, .ref a', atI_nat (by rw [List.getElem?_map, ha']; rfl), a', rfl, _, har4, .int (pivA rows (c - 1 - i)), atI_nat (by rw [List.getElem?_map, e1]; rfl), _, rfl, wide_div (b := 1000) e2 (pivA_bnd hR _) (by decide) (by decide), _, s4 _ _ hD3, c - 1 - i, ixN_in (by rw [List.length_map, hw]; exact hj), ?_, ?_⟩
        · intro x o hx
          rw [upd_ne (ne_some hx hD)]
          exact s4 _ _ (s3 _ _ hx)
        · rw [invC_succ]
          unfold wstep
          rw [List.map_set, r1]
      · rintro σ3 H3 ⟨v4, rfl, s3, hD3⟩
        exact ⟨v4, rfl, s3, hD3⟩
    rintro σ3 H3 ⟨v4, rfl, s3, hD3⟩
    walk_at "rd"
    exact q _ D s3 hD hD3
end

section
variable {P : Program} {w : World} {K : PySem.W.Frag} {mg : Str → Option Value} {base : Heap}
def gcdW (m : Int) (ws : List Int) : Int := ws.foldl (fun c x => ((Nat.gcd c.natAbs x.natAbs : Nat) : Int)) m
def smallW (m : Int) (ws : List Int) : Int := m / gcdW m ws
def redW (m : Int) (ws : List Int) : List Int := ws.map fun x => x / gcdW m ws % smallW m ws
theorem gcdW_dvd : ∀ (ws : List Int) (m : Int), 0 < m → 0 < gcdW m ws ∧ gcdW m ws ∣ m ∧ ∀ x ∈ ws, gcdW m ws ∣ x
  | [], m, h => ⟨h, Int.dvd_refl _, by simp⟩
  | x :: ws, m, h => by
    have hg : 0 < Nat.gcd m.natAbs x.natAbs := Nat.gcd_pos_of_pos_left _ (by omega)
    obtain ⟨h1, h2, h3⟩ := gcdW_dvd ws ((Nat.gcd m.natAbs x.natAbs : Nat) : Int) (by omega)
    have g1 : ((Nat.gcd m.natAbs x.natAbs : Nat) : Int) ∣ m := by
      rw [← Int.natAbs_dvd_natAbs, Int.natAbs_natCast]; exact Nat.gcd_dvd_left _ _
    have g2 : ((Nat.gcd m.natAbs x.natAbs : Nat) : Int) ∣ x := by
      rw [← Int.natAbs_dvd_natAbs, Int.natAbs_natCast]; exact Nat.gcd_dvd_right _ _
    refine ⟨h1, Int.dvd_trans h2 g1, fun y hy => ?_⟩
    rcases List.mem_cons.mp hy with rfl | hy
    · exact Int.dvd_trans h2 g2
    · exact h3 y hy
theorem smallW_pos {ws : List Int} {m : Int} (h : 0 < m) : 0 < smallW m ws := by
  obtain ⟨h1, h2, _⟩ := gcdW_dvd ws m h
  unfold smallW
  exact Int.ediv_pos_of_pos_of_dvd h (by omega) h2
def sp_common_divisor (K : PySem.W.Frag) : Sp := fun vs H Q _ => ∃ (k : Bool) (m : Int) (a : Addr) (ws : List Int), vs = [.int m, .ref a] ∧ Sqh k H a (ws.map V.int) ∧ Q (.int (gcdW m ws)) H
theorem ok_common_divisor (T : Tx K mg) : FnOk P w K mg base CX0 1 T.f_common_divisor T.fd_common_divisor ["modulus", "weights"] (sp_common_divisor K) := by
  refine T.F_common_divisor.ok sc_common_divisor (fun vs H Q E h => ?_) (fun cdv A outer s H vs Q E hr h => ?_)
  · obtain ⟨k, m, a, ws, rfl, _⟩ := h; rfl
  · obtain ⟨k, m, a, ws, rfl, ha, q⟩ := h
    refine ⟨_, (pss_cons (ps_set (i := 2) sc_common_divisor.nd rfl (Or.inl rfl) (pv 0))
      (pss_cons (ps_for PassesOwn.never rfl (pi_seqH (pv 1)) (pg_name (i := 3) sc_common_divisor.nd rfl (Or.inl rfl))
        (pss_one (ps_set (i := 2) sc_common_divisor.nd rfl (Or.inl rfl) (pe_callBfun cr_gcd (by rfl) T.b_gcd (pa_cons (pv 2) (pa_cons (pv 3) pa_nil))))))
      (pss_one (ps_ret (pv 2))))), ?_⟩
    walk_at "rd"
    have fin : ∀ (J : It) (G : Hp → Prop), Walk J (ws.map V.int).length G (YAt (ws.map V.int)) → G H → ForR J (gName 3) (tAsg (tCB rGcd (tCons (tVar 2) (tCons (tVar 3) tNil))) (gName 2)) { nx := fun σ' H' => tRet (tVar 2) { nx := fun _ H' => Q V.non H', rt := Q } σ' H', rt := Q } [some (V.int m), some (V.ref a), some (V.int m), none] H := by
      intro J G W hG
      refine forr W (fun i σ H' => H' = H ∧ ∃ v3, σ = [some (V.int m), some (V.ref a), some (V.int (gcdW m (ws.take i))), v3]) ⟨rfl, none, rfl⟩ (fun i σ H' _ h => by rw [h.1]; exact hG) ?_ ?_
      · rintro i x σ2 H2o H2 hi ⟨rfl, v4, rfl⟩ ⟨rfl, hx⟩
        simp only [List.getElem?_map, Option.map_eq_some_iff] at hx
        obtain ⟨y, hy, rfl⟩ := hx
        walk_at "rd"
        have e : gcdW m (ws.take (i + 1)) = ((Nat.gcd (gcdW m (ws.take i)).natAbs y.natAbs : Nat) : Int) := by
          unfold gcdW
          rw [List.take_add_one, hy, List.foldl_append]
          rfl
        rw [e]
      · rintro σ2 H2 ⟨rfl, v4, rfl⟩
        rw [List.length_map, List.take_length]
        walk_at "rd"
        exact q
    cases k with
    | true => exact .inl ⟨_, ha, fun J W => fin J _ W ha⟩
    | false => exact .inr ⟨_, ha, fun J W => fin J _ W ha⟩
def MH2 (m : Int) (a t : Addr) (c : Int) (H : Hp) (σ : L2.St) (H' : Hp) : Prop := σ = [some (V.int m), some (V.ref a), some (V.ref t), some (V.int c), none, none, none] ∧ H' = H
def MH2b (m : Int) (a t : Addr) (c s : Int) (H : Hp) (σ : L2.St) (H' : Hp) : Prop := σ = [some (V.int m), some (V.ref a), some (V.ref t), some (V.int c), some (V.int s), none, none] ∧ H' = H
def MH3 (m : Int) (a t : Addr) (c s : Int) (red : List Int) (H : Hp) (σ : L2.St) (H' : Hp) : Prop := ∃ r, σ = [some (V.int m), some (V.ref a), some (V.ref t), some (V.int c), some (V.int s), some (V.ref r), none] ∧ Same H H' ∧ H' r = some (.tup (red.map V.int))
def sp_short_witness (K : PySem.W.Frag) : Sp := fun vs H Q _ => ∃ (k : Bool) (m : Int) (a t : Addr) (ws gt : List Int), vs = [.int m, .ref a, .ref t] ∧ 0 < m ∧ m.natAbs < 2 ^ 4001 ∧ H a = some (.lst (ws.map V.int)) ∧ Sqh k H t (gt.map V.int) ∧ ws.length = gt.length ∧ ws.length ≤ 64 ∧ BW 9000 ws ∧ BW 9000 gt ∧
  ∀ H' D r, Same H H' → H' D = some (.tup [V.int (smallW m ws), .ref r, .int (dot (redW m ws) gt % smallW m ws)]) → H' r = some (.tup ((redW m ws).map V.int)) → Q (.ref D) H'
theorem ok_short_witness (T : Tx K mg) : FnOk P w K mg base CX0 2 T.f_short_witness T.fd_short_witness ["modulus", "weights", "target"] (sp_short_witness K) := by
  refine T.F_short_witness.ok sc_short_witness (fun vs H Q E h => ?_) (fun cdv A outer s H vs Q E hr h => ?_)
  · obtain ⟨k, m, a, t, ws, gt, rfl, _⟩ := h; rfl
  · obtain ⟨k, m, a, t, ws, gt, rfl, hm, hmb, ha, ht, hl, h64, hwb, hgb, q⟩ := h
    refine ⟨_, (C8.pss_cut (ps_set (i := 3) sc_short_witness.nd rfl (Or.inr rfl) (pe_call (ok_common_divisor T) (hr.mono (by decide)) (by rfl) T.g_common_divisor T.F_common_divisor.kp T.b_common_divisor .nil pass0 (pa_cons (pv 0) (pa_cons (pv 1) pa_nil))))
      (C8.pss_cut (ps_set (i := 4) sc_short_witness.nd rfl (Or.inr rfl) (pe_op op_fdivW (pv 0) (pv 3)))
      (C8.pss_cut (ps_set (i := 5) sc_short_witness.nd rfl (Or.inl rfl) (pe_callTy tuple_H (by rfl) T.n_tuple (by decide +kernel) (pa_cons (pe_lc (own := [("weight", 6)]) (g := (gName 6)) (tt := tYes) rfl sc_short_witness.nd (pi_seqH (pv 1)) (blkOk_by (own := [("weight", 6)]) (N := N_short_witness) (sc := defScope d_short_witness) (by decide +kernel)) (fun _ _ _ _ _ => (pg_name (i := 6) sc_short_witness.nd rfl (Or.inl rfl))) (fun _ _ _ _ _ => pts_nil) (fun _ _ _ _ _ => (pe_op op_mod (pe_op op_fdivW (pv 6) (pv 3)) (pv 4)))) pa_nil)))
      (pss_one (ps_ret (pe_tup (pa_cons (pv 4) (pa_cons (pv 5) (pa_cons (pe_op op_mod (pe_call (ok_weighted_sum T) (hr.mono (by decide)) (by rfl) T.g_weighted_sum T.F_weighted_sum.kp T.b_weighted_sum .nil pass0 (pa_cons (pv 5) (pa_cons (pv 2) pa_nil))) (pv 4)) pa_nil))))))))), ?_⟩
    obtain ⟨g1, g2, g3⟩ := gcdW_dvd ws m hm
    have gs := smallW_pos (ws := ws) hm
    have hgc : (gcdW m ws).natAbs < 2 ^ 4001 := by
      have := Int.le_of_dvd hm g2
      omega
    refine ⟨MH2 m a t (gcdW m ws) H, ?_, ?_⟩
    · walk_at "rd"
      exact ⟨true, m, a, ws, rfl, ha, rfl, rfl⟩
    rintro σ2 H2 ⟨rfl, rfl⟩
    refine ⟨MH2b m a t (gcdW m ws) (smallW m ws) H2, ?_, ?_⟩
    · walk_at "rd"
      exact ⟨wide_div (b := 4001) g1 hgc (by decide) (by decide), rfl, rfl⟩
    rintro σ3 H3 ⟨rfl, rfl⟩
    refine ⟨MH3 m a t (gcdW m ws) (smallW m ws) (redW m ws) H3, ?_, ?_⟩
    · walk_at "rd"
      refine .inl ⟨_, ha, fun J W => ?_⟩
      refine lcr_map W ((redW m ws).map V.int) (by unfold redW; simp) (by rw [List.length_map]; exact Nat.le_trans h64 (by decide)) (fun H4 s4 => s4 _ _ ha) (fun _ _ _ _ y => YAt.same y) ?_ fun D H4 hD s4 h4 => ⟨D, rfl, .inl ⟨_, h4, fun r hr => ⟨r, rfl, s4.trans (Same.new hr), upd_same⟩⟩⟩
      rintro i x H4 H5 y Qy hi s4 ⟨rfl, hx⟩ hr hq
      unfold redW at hr
      simp only [List.getElem?_map, Option.map_eq_some_iff] at hr hx
      obtain ⟨x2, hx2, rfl⟩ := hx
      obtain ⟨r, ⟨r2, hr2, rfl⟩, rfl⟩ := hr
      rw [hx2] at hr2
      obtain rfl := Option.some.inj hr2
      walk_at "rd"
      exact ⟨wide_div (b := 4001) g1 hgc (by decide) (by decide), gs, hq _ (Same.refl _)⟩
    rintro σ4 H4 ⟨r, rfl, s4, hr4⟩
    walk_at "rd"
    have hrl : (redW m ws).length = ws.length := by unfold redW; simp
    refine ⟨false, k, r, t, redW m ws, gt, rfl, hr4, ht.same s4, by rw [hrl, hl], by omega, fun i x y hx hy => ?_, fun H5 s5 => ?_⟩
    · have hx0 : 0 ≤ x ∧ x < smallW m ws := by
        have hxm := List.mem_of_getElem? hx
        unfold redW at hxm
        obtain ⟨u, _, rfl⟩ := List.mem_map.mp hxm
        exact ⟨Int.emod_nonneg _ (by omega), Int.emod_lt_of_pos _ gs⟩
      have hsm : smallW m ws ≤ m := by
        unfold smallW
        exact Int.ediv_le_self _ (by omega)
      exact .inr (.inr (wide_mul (a := 4001) (b := 9000) (by omega) (hgb y (List.mem_of_getElem? hy)) (by decide) (by decide) (by decide)))
    · refine ⟨_, rfl, gs, fun D hD => ?_⟩
      have sD := Same.new hD (o := .tup [V.int (smallW m ws), V.ref r, V.int (dot (redW m ws) gt % smallW m ws)])
      exact q _ D r ((s4.trans s5).trans sD) upd_same (sD _ _ (s5 _ _ hr4))
/-! reach -/
/-- the first column whose weights tell the shift from the lattice -/
def colF (rows : List (List Int)) (n : Nat) (v : List Int) (c : Nat) : Bool := !decide (dot (invC rows (pivP rows n) c c) v % pivP rows n = 0)
def reachI (ss : List Int) (gs : List (List Int)) (p : List Int) : Option Nat := (List.range ss.length).find? (colF (shiftB ss gs) ss.length (sub2 p (gs.headD [])))
/-- what reach answers, at D -/
def RchAt (H : Hp) (D : Addr) (ss : List Int) (gs : List (List Int)) (p : List Int) : Prop := (reachI ss gs p = none ∧ H D = some (.tup [.str "reachable"])) ∨
  ∃ (c : Nat) (u r : Addr), reachI ss gs p = some c ∧ H D = some (.tup [.str "unreachable", .ref u]) ∧ H u = some (.tup [.int (smallW (cosetI ss gs) (invC (shiftB ss gs) (cosetI ss gs) c c)), .ref r, .int (dot (redW (cosetI ss gs) (invC (shiftB ss gs) (cosetI ss gs) c c)) (gs.headD []) % smallW (cosetI ss gs) (invC (shiftB ss gs) (cosetI ss gs) c c))]) ∧
    H r = some (.tup ((redW (cosetI ss gs) (invC (shiftB ss gs) (cosetI ss gs) c c)).map V.int))
def MR1 (a tg p : Addr) (ss : List Int) (H : Hp) (σ : L2.St) (H' : Hp) : Prop := ∃ t, σ = [some (V.ref a), some (V.ref tg), some (V.ref p), some (V.ref t), none, none, none, none, none] ∧ Same H H' ∧ H' t = some (.tup (ss.map V.int))
def MR2 (a tg p t : Addr) (H : Hp) (σ : L2.St) (H' : Hp) : Prop := σ = [some (V.ref a), some (V.ref tg), some (V.ref p), some (V.ref t), none, none, none, none, none] ∧ Same H H'
def MR3 (a tg p t : Addr) (rows : List (List Int)) (H : Hp) (σ : L2.St) (H' : Hp) : Prop := ∃ b, σ = [some (V.ref a), some (V.ref tg), some (V.ref p), some (V.ref t), some (V.ref b), none, none, none, none] ∧ Same H H' ∧ LstL H' b rows
def MR4 (a tg p t b : Addr) (v : List Int) (H : Hp) (σ : L2.St) (H' : Hp) : Prop := ∃ d, σ = [some (V.ref a), some (V.ref tg), some (V.ref p), some (V.ref t), some (V.ref b), some (V.ref d), none, none, none] ∧ Same H H' ∧ H' d = some (.lst (v.map V.int))
def MR5 (a tg p t b d : Addr) (m : Int) (H : Hp) (σ : L2.St) (H' : Hp) : Prop := σ = [some (V.ref a), some (V.ref tg), some (V.ref p), some (V.ref t), some (V.ref b), some (V.ref d), some (V.int m), none, none] ∧ Same H H'
def MR6 (N : Prop) (H : Hp) (σ : L2.St) (H' : Hp) : Prop := σ.length = 9 ∧ Same H H' ∧ N
def MR7 (a tg p t b d : Addr) (m : Int) (c : Nat) (w : List Int) (H : Hp) (σ : L2.St) (H' : Hp) : Prop := ∃ u, σ = [some (V.ref a), some (V.ref tg), some (V.ref p), some (V.ref t), some (V.ref b), some (V.ref d), some (V.int m), some (V.int (c : Nat)), some (V.ref u)] ∧ Same H H' ∧ H' u = some (.lst (w.map V.int))
def sp_reach (K : PySem.W.Frag) (C : Addr) : Sp := fun vs H Q _ => ∃ (k : Bool) (a tg p : Addr) (ss : List Int) (gs : List (List Int)) (ps : List Int), vs = [.ref a, .ref tg, .ref p] ∧ TabAt C H a ss ∧ TgtAt k H tg gs ∧ Tgts ss gs ∧ Sz ss ∧ H p = some (.tup (ps.map V.int)) ∧ Seat ss ps ∧
  ∀ H' D, Same H H' → RchAt H' D ss gs ps → Q (.ref D) H'
theorem ok_reach (T : Tx K mg) : FnOk P w K mg base CX0 4 T.f_reach T.fd_reach ["table", "targets", "seat"] (sp_reach K T.c_Table) := by
  refine T.F_reach.ok sc_reach (fun vs H Q E h => ?_) (fun cdv A outer s H vs Q E hr h => ?_)
  · obtain ⟨k, a, tg, p, ss, gs, ps, rfl, _⟩ := h; rfl
  · obtain ⟨k, a, tg, p, ss, gs, ps, rfl, hT, hG, hgs, z, hp, hS, q⟩ := h
    refine ⟨_, (C8.pss_cut (ps_set (i := 3) sc_reach.nd rfl (Or.inl rfl) (pe_call (ok_sizes_of T) (hr.mono (by decide)) (by rfl) T.g_sizes_of T.F_sizes_of.kp T.b_sizes_of .nil pass0 (pa_cons (pv 0) pa_nil)))
      (C8.pss_cut (ps_expr (pe_call (ok_require_targets T) (hr.mono (by decide)) (by rfl) T.g_require_targets T.F_require_targets.kp T.b_require_targets .nil pass0 (pa_cons (pv 3) (pa_cons (pv 1) pa_nil))))
      (C8.pss_cut (ps_expr (pe_call (ok_require_seat T) (hr.mono (by decide)) (by rfl) T.g_require_seat T.F_require_seat.kp T.b_require_seat .nil pass0 (pa_cons (pv 3) (pa_cons (pv 2) pa_nil))))
      (C8.pss_cut (ps_set (i := 4) sc_reach.nd rfl (Or.inl rfl) (pe_call (ok_shift_basis T) (hr.mono (by decide)) (by rfl) T.g_shift_basis T.F_shift_basis.kp T.b_shift_basis .nil pass0 (pa_cons (pv 3) (pa_cons (pv 1) pa_nil))))
      (C8.pss_cut (ps_set (i := 5) sc_reach.nd rfl (Or.inl rfl) (pe_call (ok_difference T) (hr.mono (by decide)) (by rfl) T.g_difference T.F_difference.kp T.b_difference .nil pass0 (pa_cons (pv 2) (pa_cons (pe_ix (IxR.or ix_lH ix_tH) (pv 1) pe_int (fun _ _ => rfl)) pa_nil))))
      (C8.pss_cut (ps_set (i := 6) sc_reach.nd rfl (Or.inl rfl) (pe_call (ok_pivot_product T) (hr.mono (by decide)) (by rfl) T.g_pivot_product T.F_pivot_product.kp T.b_pivot_product .nil pass0 (pa_cons (pv 4) pa_nil)))
      (C8.pss_cut (ps_for PassesOwn.never rfl (pi_range1H (by rfl) T.n_range (pa_cons (pe_callB len_H (by rfl) T.n_len PySem.boot_len (pa_cons (pv 3) pa_nil)) pa_nil)) (pg_name (i := 7) sc_reach.nd rfl (Or.inl rfl))
        (C8.pss_cut (ps_set (i := 8) sc_reach.nd rfl (Or.inl rfl) (pe_call (ok_inverse_column T) (hr.mono (by decide)) (by rfl) T.g_inverse_column T.F_inverse_column.kp T.b_inverse_column .nil pass0 (pa_cons (pv 4) (pa_cons (pv 6) (pa_cons (pv 7) pa_nil)))))
        (pss_one (ps_if (pt_cmpR op_ne (pe_op op_mod (pe_call (ok_weighted_sum T) (hr.mono (by decide)) (by rfl) T.g_weighted_sum T.F_weighted_sum.kp T.b_weighted_sum .nil pass0 (pa_cons (pv 8) (pa_cons (pv 5) pa_nil))) (pv 6)) pe_int (nomark _)) (pss_one (ps_ret (pe_tup (pa_cons pe_str (pa_cons (pe_call (ok_short_witness T) (hr.mono (by decide)) (by rfl) T.g_short_witness T.F_short_witness.kp T.b_short_witness .nil pass0 (pa_cons (pv 6) (pa_cons (pv 8) (pa_cons (pe_ix (IxR.or ix_lH ix_tH) (pv 1) pe_int (fun _ _ => rfl)) pa_nil)))) pa_nil))))) pss_nil))))
      (pss_one (ps_ret (pe_tup (pa_cons pe_str pa_nil))))))))))), ?_⟩
    have hlen : ∀ g ∈ gs, g.length = ss.length := fun g hg => (hgs.ok g hg).len
    have hR := shift_rows z hgs.ne hlen
    have hTr := shift_tri z hgs.ne hlen
    have el : (oddsI ss).length = ss.length := by unfold oddsI; simp
    have hn := hR.len
    have h4 := z.hi
    have hmp : 0 < cosetI ss gs := pivP_pos hTr _ (by omega)
    have hmb : (cosetI ss gs).natAbs < 2 ^ 4001 := by
      have := pivP_bnd hR ss.length
      exact wide_mono this (by omega)
    have h0m := headD_mem hgs.ne
    have h0l := hlen _ h0m
    refine ⟨MR1 a tg p ss H, ?_, ?_⟩
    · walk_at "rd"
      exact ⟨a, ss, rfl, hT, fun t ht => ⟨t, rfl, Same.refl _, ht⟩⟩
    rintro σ1 H1 ⟨t, rfl, s1, ht⟩
    refine ⟨MR2 a tg p t H1, ?_, ?_⟩
    · walk_at "rd"
      exact ⟨false, k, t, tg, ss, gs, rfl, ht, hG.same s1, hgs.ne, hgs.nd, hgs.few, hgs.ok, z, fun H2 s2 => ⟨rfl, s2⟩⟩
    rintro σ2 H2 ⟨rfl, s2⟩
    refine ⟨MR2 a tg p t H2, ?_, ?_⟩
    · walk_at "rd"
      exact ⟨false, t, ss, .ref p, rfl, s2 _ _ ht, hS.b z (s2 _ _ (s1 _ _ hp)), fun H3 s3 => ⟨rfl, s3⟩⟩
    rintro σ3 H3 ⟨rfl, s3⟩
    have s03 := (s1.trans s2).trans s3
    refine ⟨MR3 a tg p t (shiftB ss gs) H3, ?_, ?_⟩
    · walk_at "rd"
      exact ⟨false, k, t, tg, ss, gs, rfl, s3 _ _ (s2 _ _ ht), hG.same s03, hgs.ne, hlen, z, fun H4 D s4 hL => ⟨D, rfl, s4, hL⟩⟩
    rintro σ4 H4 ⟨b, rfl, s4, hb⟩
    have s04 := s03.trans s4
    obtain ⟨as, htg, hA⟩ := id hG
    obtain ⟨a0, ha0⟩ : ∃ a0, as[0]? = some a0 := by
      have : 0 < as.length := by rw [hA.1]; exact List.length_pos_iff.mpr hgs.ne
      exact ⟨as[0], List.getElem?_eq_getElem this⟩
    have hg0 : gs[0]? = some (gs.headD []) := by
      cases e : gs with
      | nil => exact absurd e hgs.ne
      | cons g gs => rfl
    have hv0 : atI (as.map V.ref) (0 : Int) = some (V.ref a0) := atI_nat (j := 0) (by rw [List.getElem?_map, ha0]; rfl)
    have ha0H := hA.2 0 a0 _ ha0 hg0
    refine ⟨MR4 a tg p t b (sub2 ps (gs.headD [])) H4, ?_, ?_⟩
    · walk_at "rd"
      refine ix_seq (i := 0) (htg.same s04) hv0 ?_
      exact ⟨false, false, p, a0, ps, gs.headD [], rfl, s04 _ _ hp, s04 _ _ ha0H, by rw [hS.len, h0l], by rw [hS.len]; omega, fun H5 D s5 hD hL => ⟨D, rfl, s5, hL⟩⟩
    rintro σ5 H5 ⟨d, rfl, s5, hd⟩
    have s05 := s04.trans s5
    have hb5 := hb.same s5
    refine ⟨MR5 a tg p t b d (cosetI ss gs) H5, ?_, ?_⟩
    · walk_at "rd"
      refine ⟨b, oddsI ss, shiftB ss gs, rfl, hb5, hR, by omega, fun H6 s6 => ?_⟩
      rw [hn, el]
      exact ⟨rfl, s6⟩
    rintro σ6 H6 ⟨rfl, s6⟩
    have s06 := s05.trans s6
    have hvl : (sub2 ps (gs.headD [])).length = ss.length := by unfold sub2; rw [List.length_zipWith, hS.len, h0l, Nat.min_self]
    refine ⟨MR6 (reachI ss gs ps = none) H6, ?_, ?_⟩
    · walk_at "rd"
      have ht6 := (((s2.trans s3).trans s4).trans (s5.trans s6)) _ _ ht
      have hd6 := s6 _ _ hd
      have hb6 := hb5.same s6
      have g0b : BW 1000 (gs.headD []) := fun x hx => by
        obtain ⟨j, hj, rfl⟩ := List.getElem_of_mem hx
        have hj2 : j < ss.length := by rw [← h0l]; exact hj
        obtain ⟨h1, h2⟩ := (hgs.ok _ h0m).ok j _ _ (List.getElem?_eq_getElem hj) (List.getElem?_eq_getElem hj2)
        have := z.bits _ (List.getElem_mem hj2)
        omega
      have hvb : BW 1001 (sub2 ps (gs.headD [])) := fun x hx => by
        obtain ⟨j, hj, rfl⟩ := List.getElem_of_mem hx
        have hj2 : j < ss.length := by rw [← hvl]; exact hj
        have hj3 : j < ps.length := by rw [hS.len]; exact hj2
        have hj4 : j < (gs.headD []).length := by rw [h0l]; exact hj2
        obtain ⟨h1, h2⟩ := (hgs.ok _ h0m).ok j _ _ (List.getElem?_eq_getElem hj4) (List.getElem?_eq_getElem hj2)
        obtain ⟨h5, h6⟩ := hS.ok j _ _ (List.getElem?_eq_getElem hj3) (List.getElem?_eq_getElem hj2)
        have hb := z.bits _ (List.getElem_mem hj2)
        have e : (sub2 ps (gs.headD []))[j] = ps[j] - (gs.headD [])[j] := by
          have := zw_get (g := fun x y => x - y) (List.getElem?_eq_getElem hj3) (List.getElem?_eq_getElem hj4)
          rw [show List.zipWith (fun x y => x - y) ps (gs.headD []) = sub2 ps (gs.headD []) from rfl, List.getElem?_eq_getElem hj] at this
          exact Option.some.inj this
        rw [e]
        have hpow : (2 : Nat) ^ 1001 = 2 ^ 1000 * 2 := Nat.pow_succ 2 1000
        omega
      have hl64 : (((ss.map V.int).length : Nat) : Int).toNat = ss.length := by simp
      refine .inr ⟨_, ht6, by omega, by rw [List.length_map]; omega, fun J W => ?_⟩
      rw [hl64] at W
      refine forr W (fun i σ H' => ∃ v7 v8, σ = [some (V.ref a), some (V.ref tg), some (V.ref p), some (V.ref t), some (V.ref b), some (V.ref d), some (V.int (cosetI ss gs)), v7, v8] ∧ Same H6 H' ∧ ∀ c, c < i → colF (shiftB ss gs) ss.length (sub2 ps (gs.headD [])) c = false) ⟨none, none, rfl, Same.refl _, fun c hc => absurd hc (Nat.not_lt_zero c)⟩ (fun _ _ _ _ _ => trivial) ?_ ?_
      · rintro i x σ8 H8o H8 hi ⟨v7, v8, rfl, s8, hno⟩ ⟨rfl, rfl⟩
        refine ⟨MR7 a tg p t b d (cosetI ss gs) i (invC (shiftB ss gs) (cosetI ss gs) i i) H8, ?_, ?_⟩
        · walk_at "rd"
          exact ⟨b, cosetI ss gs, i, oddsI ss, shiftB ss gs, rfl, hb6.same s8, hR, hTr, by omega, by omega, hmb, fun H9 D s9 hD hd9 => ⟨D, rfl, s9, hd9⟩⟩
        rintro σ9 H9 ⟨u, rfl, s9, hu⟩
        have s69 := s8.trans s9
        have s09 := s06.trans s69
        have hwl := invC_len (shiftB ss gs) (cosetI ss gs) i i
        have hwb := invC_bnd hR (by omega) hmb i i
        walk_at "rd"
        refine ⟨true, true, u, d, invC (shiftB ss gs) (cosetI ss gs) i i, sub2 ps (gs.headD []), rfl, hu, s69 _ _ hd6, by rw [hwl, hvl]; omega, by omega, fun j x y hx hy => ?_, fun H10 s10 => ?_⟩
        · exact .inr (.inr (wide_mul (a := 4001 + 1003 * i) (b := 1001) (hwb x (List.mem_of_getElem? hx)) (hvb y (List.mem_of_getElem? hy)) (by omega) (by decide) (by omega)))
        refine ⟨_, rfl, hmp, ?_⟩
        by_cases hz : dot (invC (shiftB ss gs) (cosetI ss gs) i i) (sub2 ps (gs.headD [])) % cosetI ss gs = 0
        · rw [if_neg (fun h => h hz)]
          refine ⟨s69.trans s10, fun c hc => ?_⟩
          by_cases e : c < i
          · exact hno c e
          · obtain rfl : c = i := by omega
            unfold colF
            rw [show pivP (shiftB ss gs) ss.length = cosetI ss gs from rfl, decide_eq_true hz]
            rfl
        · rw [if_pos hz]
          have s010 := s09.trans s10
          refine ix_seq (i := 0) (htg.same s010) hv0 ?_
          refine ⟨false, cosetI ss gs, u, a0, invC (shiftB ss gs) (cosetI ss gs) i i, gs.headD [], rfl, hmp, hmb, s10 _ _ hu, s010 _ _ ha0H, by rw [hwl, h0l]; omega, by omega, fun x hx => wide_mono (hwb x hx) (by omega), fun x hx => wide_mono (g0b x hx) (by decide), fun H11 D r s11 hD hr => fun p2 hp2 => ?_⟩
          have s12 := Same.new hp2 (o := .tup [V.str "unreachable", V.ref D])
          have hi2 : colF (shiftB ss gs) ss.length (sub2 ps (gs.headD [])) i = true := by
            unfold colF
            rw [show pivP (shiftB ss gs) ss.length = cosetI ss gs from rfl, decide_eq_false hz]
            rfl
          exact q _ p2 ((s010.trans s11).trans s12) (.inr ⟨i, D, r, find_range _ hi hi2 hno, upd_same, s12 _ _ hD, s12 _ _ hr⟩)
      · rintro σ8 H8 ⟨v7, v8, rfl, s8, hno⟩
        exact ⟨rfl, s8, find_range_none _ hno⟩
    rintro σ7 H7 ⟨_, s7, hno⟩
    walk_at "rd"
    intro D hD
    exact q _ D (s06.trans (s7.trans (Same.new hD))) (.inl ⟨hno, upd_same⟩)
end

/-! ### odd parts -/
theorem cd_of {n : Nat} {z : Int} (h : n ∣ z.natAbs) : ((n : Nat) : Int) ∣ z := Int.natAbs_dvd_natAbs.mp (by rw [Int.natAbs_natCast]; exact h)
theorem cd_to {n : Nat} {z : Int} (h : ((n : Nat) : Int) ∣ z) : n ∣ z.natAbs := by
  have := Int.natAbs_dvd_natAbs.mpr h
  rwa [Int.natAbs_natCast] at this
theorem oddI_pos {s : Int} (h : 1 ≤ s) : 0 < oddI s := by
  have := odd_pos (n := s.toNat) (by omega)
  unfold oddI
  omega
theorem oddI_split {s : Int} (h : 1 ≤ s) : ∃ k : Nat, s = oddI s * 2 ^ k ∧ oddI s % 2 = 1 := by
  obtain ⟨k, e1, e2⟩ := odd_split s.toNat (by omega)
  refine ⟨k, ?_, by unfold oddI; omega⟩
  have : (s.toNat : Int) = ((oddN s.toNat * 2 ^ k : Nat) : Int) := by rw [← e1]
  rw [Int.natCast_mul, Int.natCast_pow] at this
  unfold oddI
  rw [Int.toNat_of_nonneg (by omega)] at this
  exact this
theorem odd_dvd {e x : Int} {k : Nat} (he : e % 2 = 1) (h : e ∣ x * 2 ^ k) : e ∣ x := by
  have hc : Nat.Coprime e.natAbs (2 ^ k) := by
    refine Nat.Coprime.pow_right k ?_
    have h2 : e.natAbs % 2 = 1 := by omega
    show Nat.gcd e.natAbs 2 = 1
    rw [Nat.gcd_comm, Nat.gcd_rec, h2]
    rfl
  have h1 := Int.natAbs_dvd_natAbs.mpr h
  rw [Int.natAbs_mul, Int.natAbs_pow] at h1
  exact Int.natAbs_dvd_natAbs.mp (hc.dvd_of_dvd_mul_right h1)
theorem dvd_odd {e o : Int} (h : e ∣ o) (ho : o % 2 = 1) : e % 2 = 1 := by
  obtain ⟨c, rfl⟩ := h
  have h12 : e % 2 = 0 ∨ e % 2 = 1 := by omega
  rcases h12 with h | h
  · exfalso
    rw [Int.mul_emod, h] at ho
    simp at ho
  · exact h
theorem oddI_dvd {s : Int} (h : 1 ≤ s) : oddI s ∣ s := by
  obtain ⟨k, e, _⟩ := oddI_split h
  exact ⟨2 ^ k, e⟩

/-! ### one target -/
theorem getD_getD {α : Type} (l : List α) (i : Nat) (d : α) : l.getD i d = (l[i]?).getD d := by rw [List.getD_eq_getElem?_getD]
/-- rows are left where the rest is zero -/
theorem withV_zero {odds rest : List Int} (h : ∀ j, rest.getD j 0 = 0) : ∀ (rows : List (List Int)) (i : Nat), withV odds i rows rest = rows
  | [], _ => rfl
  | row :: rows, i => by
    have e : euc odds i (row.getD i 0).toNat row rest = (row, rest) := euc_zero (h i) _
    show (euc odds i (row.getD i 0).toNat row rest).1 :: withV odds (i + 1) rows (euc odds i (row.getD i 0).toNat row rest).2 = _
    rw [e, withV_zero h rows (i + 1)]
theorem self_zero (t odds : List Int) (j : Nat) : (mod2 (sub2 t t) odds).getD j 0 = 0 := by
  rw [getD_getD]
  unfold mod2 sub2
  rw [List.getElem?_zipWith, List.getElem?_zipWith]
  cases h1 : t[j]? with
  | none => rfl
  | some x =>
    cases h2 : odds[j]? with
    | none => rfl
    | some o => simp
theorem shift_single (ss t : List Int) : shiftB ss [t] = diagI (oddsI ss) := by
  show withV (oddsI ss) 0 (diagI (oddsI ss)) (mod2 (sub2 t t) (oddsI ss)) = _
  exact withV_zero (self_zero t _) _ _
theorem diag_row {es : List Int} {i : Nat} (h : i < es.length) : (diagI es).getD i [] = rowI es i := by
  unfold diagI
  rw [getD_getD, List.getElem?_map, List.getElem?_range h]
  rfl
theorem row_get {es : List Int} {i j : Nat} (h : i < es.length) : (rowI es i).getD j 0 = if j = i then es.getD i 0 else 0 := by
  unfold rowI
  rw [getD_getD]
  by_cases e : j = i
  · subst e
    rw [List.getElem?_set_self (by simpa using h), if_pos rfl]
    rfl
  · rw [List.getElem?_set_ne (fun x => e x.symm), if_neg e, List.getElem?_replicate]
    split <;> rfl
theorem piv_diag {es : List Int} {i : Nat} (h : i < es.length) : pivA (diagI es) i = es.getD i 0 := by
  unfold pivA
  rw [diag_row h, row_get h, if_pos rfl]
theorem pivP_diag {es : List Int} : ∀ k : Nat, k ≤ es.length → pivP (diagI es) k = prodI (es.take k)
  | 0, _ => rfl
  | k + 1, h => by
    have hk : k < es.length := by omega
    rw [pivP_succ, pivP_diag k (by omega), prodI_take (List.getElem?_eq_getElem hk), piv_diag hk, getD_getD, List.getElem?_eq_getElem hk]
    rfl
theorem coset_single {ss t : List Int} : cosetI ss [t] = prodI (oddsI ss) := by
  unfold cosetI
  have el : (oddsI ss).length = ss.length := by unfold oddsI; simp
  rw [shift_single, ← el, pivP_diag _ (Nat.le_refl _), List.take_length]
theorem dot_unit : ∀ (r w : List Int) (i : Nat), (∀ j, j ≠ i → r.getD j 0 = 0 ∨ w.getD j 0 = 0) → r.length = w.length → dot r w = r.getD i 0 * w.getD i 0
  | [], [], i, _, _ => by simp [dot]
  | x :: r, y :: w, i, h, hl => by
    show x * y + dot r w = _
    cases i with
    | zero =>
      have e : dot r w = 0 := by
        have := dot_unit r w r.length (fun j _ => h (j + 1) (by omega)) (by simpa using hl)
        rw [this, getD_getD, List.getElem?_eq_none (Nat.le_refl _)]
        simp
      rw [e]
      simp
    | succ i =>
      have e0 : x * y = 0 := by
        rcases h 0 (by omega) with h0 | h0
        · rw [show x = 0 from h0, Int.zero_mul]
        · rw [show y = 0 from h0, Int.mul_zero]
      rw [e0, Int.zero_add]
      exact dot_unit r w i (fun j hj => h (j + 1) (by omega)) (by simpa using hl)
/-- the weights of one column -/
def unitV (n c : Nat) (x : Int) : List Int := (List.replicate n (0 : Int)).set c x
theorem unit_get {n c j : Nat} {x : Int} (h : c < n) : (unitV n c x).getD j 0 = if j = c then x else 0 := by
  unfold unitV
  rw [getD_getD]
  by_cases e : j = c
  · subst e
    rw [List.getElem?_set_self (by simpa using h), if_pos rfl]
    rfl
  · rw [List.getElem?_set_ne (fun x => e x.symm), if_neg e, List.getElem?_replicate]
    split <;> rfl
theorem unit_len {n c : Nat} {x : Int} : (unitV n c x).length = n := by unfold unitV; simp
theorem diag_len {es : List Int} : (diagI es).length = es.length := by unfold diagI; simp
theorem inv_diag {es : List Int} {m : Int} {c : Nat} (h : c < es.length) : ∀ k, k ≤ c → invC (diagI es) m c k = unitV es.length c (m / es.getD c 0)
  | 0, _ => by
    show ((List.replicate (diagI es).length (0 : Int)).set c (m / pivA (diagI es) c)) = _
    rw [diag_len, piv_diag h]
    rfl
  | k + 1, hk => by
    rw [invC_succ, inv_diag h k (by omega)]
    have hi : c - 1 - k < es.length := by omega
    have hne : c - 1 - k ≠ c := by omega
    unfold wstep
    rw [diag_row hi, dot_unit _ _ (c - 1 - k) (fun j hj => .inl (by rw [row_get hi, if_neg hj])) (by unfold rowI; rw [unit_len]; simp), unit_get h, if_neg hne, Int.mul_zero, Int.neg_zero, Int.zero_ediv]
    unfold unitV
    rw [List.set_comm _ _ hne.symm]
    congr 1
    refine List.ext_getElem (by simp) fun i h1 h2 => ?_
    rw [List.getElem_set]
    split
    · simp
    · rfl
theorem dot_unitV {n c : Nat} {x : Int} {v : List Int} (h : c < n) (hv : v.length = n) : dot (unitV n c x) v = x * v.getD c 0 := by
  rw [dot_unit _ _ c (fun j hj => .inl (by rw [unit_get h, if_neg hj])) (by rw [unit_len, hv]), unit_get h, if_pos rfl]
theorem prodI_dvd : ∀ {es : List Int} {c : Nat}, c < es.length → es.getD c 0 ∣ prodI es := by
  intro es c h
  have key : ∀ k, c < k → k ≤ es.length → es.getD c 0 ∣ prodI (es.take k) := by
    intro k
    induction k with
    | zero => intro h; omega
    | succ k ih =>
      intro h1 h2
      rw [prodI_take (List.getElem?_eq_getElem (by omega : k < es.length))]
      by_cases e : c = k
      · subst e
        rw [getD_getD, List.getElem?_eq_getElem (by omega : c < es.length)]
        exact Int.dvd_mul_left _ _
      · exact Int.dvd_trans (ih (by omega) (by omega)) (Int.dvd_mul_right _ _)
  have := key es.length h (Nat.le_refl _)
  rwa [List.take_length] at this
theorem prodI_pos : ∀ {es : List Int}, (∀ e ∈ es, 0 < e) → 0 < prodI es := by
  intro es h
  have key : ∀ k, k ≤ es.length → 0 < prodI (es.take k) := by
    intro k
    induction k with
    | zero => intro _; show (0 : Int) < 1; decide
    | succ k ih =>
      intro h2
      rw [prodI_take (List.getElem?_eq_getElem (by omega : k < es.length))]
      exact Int.mul_pos (ih (by omega)) (h _ (List.getElem_mem _))
  have := key es.length (Nat.le_refl _)
  rwa [List.take_length] at this
/-- a column tells whether the odd part divides the entry -/
theorem col_diag {es v : List Int} {c : Nat} (hp : ∀ e ∈ es, 0 < e) (h : c < es.length) (hv : v.length = es.length) : colF (diagI es) es.length v c = !decide (es.getD c 0 ∣ v.getD c 0) := by
  unfold colF
  have hP := prodI_pos hp
  have hd := prodI_dvd h
  rw [pivP_diag _ (Nat.le_refl _), List.take_length, inv_diag h c (Nat.le_refl _), dot_unitV h hv]
  generalize prodI es = m at *
  have ho : 0 < es.getD c 0 := by
    rw [getD_getD, List.getElem?_eq_getElem h]
    exact hp _ (List.getElem_mem h)
  generalize es.getD c 0 = o at *
  generalize v.getD c 0 = x
  obtain ⟨q, rfl⟩ := hd
  have hq : 0 < q := by
    rcases Int.lt_trichotomy q 0 with h | h | h
    · have := Int.mul_neg_of_pos_of_neg ho h; omega
    · subst h; simp at hP
    · exact h
  rw [Int.mul_ediv_cancel_left _ (by omega)]
  congr 1
  apply decide_eq_decide.mpr
  rw [← Int.dvd_iff_emod_eq_zero, Int.mul_comm o q]
  exact Int.mul_dvd_mul_iff_left (by omega)
theorem reach_single {ss t p : List Int} (hp : ∀ s ∈ oddsI ss, 0 < s) (ht : t.length = ss.length) (hl : p.length = ss.length) : (reachI ss [t] p).isNone = true ↔ ∀ c, c < ss.length → oddI (ss.getD c 0) ∣ p.getD c 0 - t.getD c 0 := by
  have el : (oddsI ss).length = ss.length := by unfold oddsI; simp
  have hv : (sub2 p t).length = (oddsI ss).length := by unfold sub2; rw [List.length_zipWith, ht, hl, Nat.min_self, el]
  unfold reachI
  rw [shift_single, show ([t] : List (List Int)).headD [] = t from rfl, ← el, Option.isNone_iff_eq_none, List.find?_eq_none]
  have hc : ∀ c, c < (oddsI ss).length → (¬ colF (diagI (oddsI ss)) (oddsI ss).length (sub2 p t) c = true ↔ oddI (ss.getD c 0) ∣ p.getD c 0 - t.getD c 0) := fun c h => by
    rw [col_diag hp h hv]
    have e1 : (oddsI ss).getD c 0 = oddI (ss.getD c 0) := by
      have h2 : c < ss.length := by rw [← el]; exact h
      unfold oddsI
      rw [getD_getD, getD_getD, List.getElem?_map, List.getElem?_eq_getElem h2]
      rfl
    have e2 : (sub2 p t).getD c 0 = p.getD c 0 - t.getD c 0 := getD_zw (by omega) (by omega)
    rw [e1, e2]
    simp
  exact ⟨fun h c hlt => (hc c hlt).mp (h c (List.mem_range.mpr hlt)), fun h c hm => (hc c (List.mem_range.mp hm)).mpr (h c (List.mem_range.mp hm))⟩

/-! ### groups of vectors -/
def fv (l : List Int) : Nat → Int := fun i => l.getD i 0
def eU (j : Nat) (x : Int) : Nat → Int := fun i => if i = j then x else 0
structure Grp (S : (Nat → Int) → Prop) : Prop where
  zero : S fun _ => 0
  add : ∀ (u v : Nat → Int) (c : Int), S u → S v → S fun i => u i + c * v i
theorem fv_out {l : List Int} {i : Nat} (h : l.length ≤ i) : fv l i = 0 := by
  unfold fv
  rw [getD_getD, List.getElem?_eq_none h]
  rfl
theorem fv_zw {g : Int → Int → Int} {xs ys : List Int} (hl : xs.length = ys.length) (h0 : g 0 0 = 0) : fv (List.zipWith g xs ys) = fun i => g (fv xs i) (fv ys i) := by
  funext i
  by_cases h : i < xs.length
  · exact getD_zw h (by omega)
  · rw [fv_out (by rw [List.length_zipWith]; omega), fv_out (by omega), fv_out (by omega), h0]
theorem grp_red_one {S : (Nat → Int) → Prop} (G : Grp S) {n k : Nat} {o q v w : Nat → Int} (ho : ∀ j, k < j → j < n → S (eU j (o j))) (hw : ∀ i, i < n → w i = v i - q i * o i) (h1 : ∀ i, i ≤ k → w i = v i) (h2 : ∀ i, n ≤ i → w i = v i) (h : S v) : S w := by
  have key : ∀ t, t ≤ n → S fun i => if i < t then w i else v i := by
    intro t
    induction t with
    | zero => intro _; simpa using h
    | succ t ih =>
      intro ht
      have h3 := ih (by omega)
      by_cases hk : t ≤ k
      · have e : (fun i => if i < t + 1 then w i else v i) = fun i => if i < t then w i else v i := by
          funext i
          by_cases e : i = t
          · subst e; rw [if_pos (by omega), if_neg (by omega), h1 i hk]
          · by_cases e2 : i < t
            · rw [if_pos (by omega), if_pos e2]
            · rw [if_neg (by omega), if_neg e2]
        rw [e]; exact h3
      · have h4 := G.add _ _ (-q t) h3 (ho t (by omega) (by omega))
        have e : (fun i => if i < t + 1 then w i else v i) = fun i => (if i < t then w i else v i) + -q t * eU t (o t) i := by
          funext i
          unfold eU
          by_cases e : i = t
          · subst e
            rw [if_pos (by omega), if_neg (by omega), if_pos rfl, hw i (by omega), Int.neg_mul]
            omega
          · rw [if_neg e, Int.mul_zero, Int.add_zero]
            by_cases e2 : i < t
            · rw [if_pos (by omega), if_pos e2]
            · rw [if_neg (by omega), if_neg e2]
        rw [e]; exact h4
  have h5 := key n (Nat.le_refl _)
  have e : (fun i => if i < n then w i else v i) = w := by
    funext i
    by_cases e : i < n
    · rw [if_pos e]
    · rw [if_neg e, h2 i (by omega)]
  rw [e] at h5
  exact h5
theorem grp_red {S : (Nat → Int) → Prop} (G : Grp S) {n k : Nat} {o q v w : Nat → Int} (ho : ∀ j, k < j → j < n → S (eU j (o j))) (hw : ∀ i, i < n → w i = v i - q i * o i) (h1 : ∀ i, i ≤ k → w i = v i) (h2 : ∀ i, n ≤ i → w i = v i) : S v ↔ S w :=
  ⟨grp_red_one G ho hw h1 h2, grp_red_one G (q := fun i => -q i) ho (fun i hi => by rw [hw i hi, Int.neg_mul]; omega) (fun i hi => (h1 i hi).symm) fun i hi => (h2 i hi).symm⟩
/-- reduced by all odd parts -/
theorem grp_mod {S : (Nat → Int) → Prop} (G : Grp S) {odds v : List Int} (hl : v.length = odds.length) (ho : ∀ j, j < odds.length → S (eU j (odds.getD j 0))) : S (fv v) ↔ S (fv (mod2 v odds)) := by
  have e : fv (mod2 v odds) = fun i => fv v i % fv odds i := fv_zw hl (by simp)
  rw [e]
  by_cases h0 : 0 < odds.length
  · have key : ∀ (w w2 : Nat → Int) (q : Nat → Int), (∀ i, i < odds.length → w2 i = w i - q i * fv odds i) → (∀ i, odds.length ≤ i → w2 i = w i) → S w → S w2 := by
      intro w w2 q hq h2 hw
      -- the first entry by hand
      have h3 := G.add _ _ (-q 0) hw (ho 0 h0)
      refine (grp_red G (n := odds.length) (k := 0) (o := fv odds) (q := fun i => if i = 0 then 0 else q i) (v := fun i => w i + -q 0 * eU 0 (odds.getD 0 0) i) (w := w2) (fun j _ h => ho j h) (fun i hi => ?_) (fun i hi => ?_) fun i hi => ?_).mp h3
      · by_cases e : i = 0
        · subst e
          rw [if_pos rfl, hq 0 hi]
          unfold eU fv
          rw [if_pos rfl, Int.neg_mul]
          omega
        · rw [if_neg e, hq i hi]
          unfold eU
          rw [if_neg e]
          omega
      · have : i = 0 := by omega
        subst this
        rw [hq 0 h0]
        unfold eU fv
        rw [if_pos rfl, Int.neg_mul]
        omega
      · rw [h2 i hi]
        unfold eU
        rw [if_neg (by omega)]
        omega
    have hmod : ∀ i, fv v i % fv odds i = fv v i - (fv v i / fv odds i) * fv odds i := fun i => by
      have := Int.emod_add_mul_ediv (fv v i) (fv odds i)
      rw [Int.mul_comm (fv v i / fv odds i)]
      omega
    have hout : ∀ i, odds.length ≤ i → fv v i % fv odds i = fv v i := fun i hi => by
      rw [fv_out (l := v) (by omega)]
      simp
    refine ⟨key _ _ (fun i => fv v i / fv odds i) (fun i _ => hmod i) hout, key _ _ (fun i => -(fv v i / fv odds i)) (fun i _ => ?_) fun i hi => (hout i hi).symm⟩
    rw [hmod i, Int.neg_mul]
    omega
  · have e2 : v = [] := List.eq_nil_of_length_eq_zero (by omega)
    subst e2
    have : (fun i => fv [] i % fv odds i) = fv [] := by funext i; simp [fv]
    rw [this]
theorem low_fv {piv rest : List Int} {i : Nat} (hl : piv.length = rest.length) : fv (lowV piv rest i) = fun j => fv rest j - (rest.getD i 0 / piv.getD i 0) * fv piv j := by
  unfold lowV
  exact fv_zw (g := fun p u => p - (rest.getD i 0 / piv.getD i 0) * u) hl.symm (by simp)
/-- one step leaves the group that is spanned -/
theorem nxt_grp {odds : List Int} {S : (Nat → Int) → Prop} (G : Grp S) {i : Nat} (hi : i < odds.length) (hod : ∀ j, i < j → j < odds.length → S (eU j (odds.getD j 0))) {piv rest : List Int} (h1 : RedV odds piv) (h2 : RedV odds rest) (z2 : Zer i rest) (z1 : Pv i piv) :
    ((S (fv piv) ∧ S (fv rest)) ↔ (S (fv piv) ∧ S (fv (nxtV odds piv rest i)))) := by
  obtain ⟨e1, e2, e3⟩ := euc_next hi h1 h2 z1.2
  have l1 := low_len (i := i) h1.len h2.len
  have hlow := low_fv (piv := piv) (rest := rest) (i := i) (by rw [h1.len, h2.len])
  have hm : fv (nxtV odds piv rest i) = fun j => fv (lowV piv rest i) j % fv odds j := fv_zw l1 (by simp)
  have hred : S (fv (lowV piv rest i)) ↔ S (fv (nxtV odds piv rest i)) := by
    refine grp_red G (n := odds.length) (k := i) (o := fv odds) (q := fun j => fv (lowV piv rest i) j / fv odds j) hod (fun j hj => ?_) (fun j hj => ?_) fun j hj => ?_
    · rw [hm]
      have := Int.emod_add_mul_ediv (fv (lowV piv rest i) j) (fv odds j)
      show fv (lowV piv rest i) j % fv odds j = _
      rw [Int.mul_comm (fv (lowV piv rest i) j / fv odds j)]
      omega
    · by_cases e : j < i
      · rw [hm]
        show fv (lowV piv rest i) j % fv odds j = _
        have : fv (lowV piv rest i) j = 0 := by
          rw [hlow]
          show fv rest j - _ * fv piv j = 0
          rw [show fv piv j = 0 from z1.1 j e, show fv rest j = 0 from z2 j e]
          simp
        rw [this]; simp
      · have : j = i := by omega
        subst this
        have e4 : fv (lowV piv rest j) j = rest.getD j 0 % piv.getD j 0 := by
          rw [hlow]
          show rest.getD j 0 - rest.getD j 0 / piv.getD j 0 * piv.getD j 0 = _
          have := Int.emod_add_mul_ediv (rest.getD j 0) (piv.getD j 0)
          rw [Int.mul_comm (rest.getD j 0 / piv.getD j 0)]
          omega
        rw [e4]
        exact e1
    · rw [hm]
      show fv (lowV piv rest i) j % fv odds j = _
      rw [fv_out (l := lowV piv rest i) (by omega)]
      simp
  rw [← hred, hlow]
  constructor
  · rintro ⟨a, b⟩
    refine ⟨a, ?_⟩
    have := G.add _ _ (-(rest.getD i 0 / piv.getD i 0)) b a
    have e : (fun j => fv rest j - (rest.getD i 0 / piv.getD i 0) * fv piv j) = fun j => fv rest j + -(rest.getD i 0 / piv.getD i 0) * fv piv j := by
      funext j; rw [Int.neg_mul]; omega
    rw [e]; exact this
  · rintro ⟨a, b⟩
    refine ⟨a, ?_⟩
    have := G.add _ _ (rest.getD i 0 / piv.getD i 0) b a
    have e : fv rest = fun j => fv rest j - (rest.getD i 0 / piv.getD i 0) * fv piv j + (rest.getD i 0 / piv.getD i 0) * fv piv j := by
      funext j; omega
    rw [e]; exact this
/-- Euclid's steps leave the group that is spanned -/
theorem euc_grp {odds : List Int} (hp : ∀ o ∈ odds, 0 < o) {S : (Nat → Int) → Prop} (G : Grp S) {i : Nat} (hi : i < odds.length) (hod : ∀ j, i < j → j < odds.length → S (eU j (odds.getD j 0))) : ∀ (f : Nat) (piv rest : List Int), RedV odds piv → RedV odds rest → Zer i rest → Pv i piv →
    ((S (fv piv) ∧ S (fv rest)) ↔ (S (fv (euc odds i f piv rest).1) ∧ S (fv (euc odds i f piv rest).2)))
  | 0, piv, rest, _, _, _, _ => Iff.rfl
  | f + 1, piv, rest, h1, h2, z2, z1 => by
    show _ ↔ (S (fv (if rest.getD i 0 = 0 then (piv, rest) else if (nxtV odds piv rest i).getD i 0 = 0 then (piv, nxtV odds piv rest i) else euc odds i f (nxtV odds piv rest i) piv).1) ∧ S (fv (if rest.getD i 0 = 0 then (piv, rest) else if (nxtV odds piv rest i).getD i 0 = 0 then (piv, nxtV odds piv rest i) else euc odds i f (nxtV odds piv rest i) piv).2))
    by_cases h0 : rest.getD i 0 = 0
    · rw [if_pos h0]
    · rw [if_neg h0]
      obtain ⟨e1, e2, e3⟩ := euc_next hi h1 h2 z1.2
      have hg := nxt_grp G hi hod h1 h2 z2 z1
      by_cases h9 : (nxtV odds piv rest i).getD i 0 = 0
      · rw [if_pos h9]; exact hg
      · rw [if_neg h9, ← euc_grp hp G hi hod f _ _ (nxt_red hp h1.len h2.len) h1 z1.1 ⟨low_zer (Nat.le_of_lt hi) h1.len h2.len z1.1 z2, by omega⟩, hg]
        exact And.comm
/-- the odd parts behind k are spanned by the rows behind k -/
def Hod (odds : List Int) (i : Nat) (rows : List (List Int)) : Prop := ∀ S : (Nat → Int) → Prop, Grp S → ∀ k, (∀ r ∈ rows.drop k, S (fv r)) → ∀ j, i + k ≤ j → j < odds.length → S (eU j (odds.getD j 0))
theorem withV_grp {odds : List Int} (hp : ∀ o ∈ odds, 0 < o) : ∀ (rows : List (List Int)) (i : Nat) (rest : List Int), RedV odds rest → Zer i rest → i + rows.length = odds.length → (∀ r ∈ rows, RedV odds r) → (∀ (j : Nat) r, rows[j]? = some r → Pv (i + j) r) → Hod odds i rows →
    (∀ S : (Nat → Int) → Prop, Grp S → (((∀ r ∈ rows, S (fv r)) ∧ S (fv rest)) ↔ ∀ r ∈ withV odds i rows rest, S (fv r))) ∧ Hod odds i (withV odds i rows rest)
  | [], i, rest, hr, z, hl, hrow, hpv, hod => by
    refine ⟨fun S G => ⟨fun _ r h => by simp [withV] at h, fun _ => ⟨by simp, ?_⟩⟩, fun S G k _ j h1 h2 => ?_⟩
    · have e : fv rest = fun _ => 0 := by
        funext j
        by_cases h : j < rest.length
        · exact z j (by have := hr.len; simp at hl; omega)
        · exact fv_out (by omega)
      rw [e]; exact G.zero
    · simp at hl; omega
  | row :: rows, i, rest, hr, z, hl, hrow, hpv, hod => by
    have h1 := hrow row (List.mem_cons_self ..)
    have hi : i < odds.length := by rw [← hl, List.length_cons]; omega
    obtain ⟨e1, e3⟩ := euc_ok hp i (row.getD i 0).toNat row rest h1 hr
    have hpr := hpv 0 row rfl
    rw [Nat.add_zero] at hpr
    obtain ⟨t1, t2⟩ := euc_tri hp hi (row.getD i 0).toNat row rest h1 hr z hpr (Nat.le_refl _)
    have hod' : Hod odds (i + 1) rows := fun S G k hS j hj1 hj2 => hod S G (k + 1) (by rw [List.drop_succ_cons]; exact hS) j (by omega) hj2
    obtain ⟨ih1, ih2⟩ := withV_grp hp rows (i + 1) (euc odds i (row.getD i 0).toNat row rest).2 e3 t2 (by rw [← hl, List.length_cons]; omega) (fun r hr => hrow r (List.mem_cons_of_mem _ hr)) (fun j r hj => by
      have := hpv (j + 1) r hj
      rw [show i + 1 + j = i + (j + 1) by omega]
      exact this) hod'
    have main : ∀ S : (Nat → Int) → Prop, Grp S → (((∀ r ∈ row :: rows, S (fv r)) ∧ S (fv rest)) ↔ ∀ r ∈ withV odds i (row :: rows) rest, S (fv r)) := by
      intro S G
      show _ ↔ ∀ r ∈ (euc odds i (row.getD i 0).toNat row rest).1 :: withV odds (i + 1) rows (euc odds i (row.getD i 0).toNat row rest).2, S (fv r)
      rw [List.forall_mem_cons, List.forall_mem_cons, ← ih1 S G]
      constructor
      · rintro ⟨⟨a, b⟩, c⟩
        obtain ⟨d1, d2⟩ := (euc_grp hp G hi (fun j hj1 hj2 => hod' S G 0 (by simpa using b) j (by omega) hj2) (row.getD i 0).toNat row rest h1 hr z hpr).mp ⟨a, c⟩
        exact ⟨d1, b, d2⟩
      · rintro ⟨a, b, c⟩
        obtain ⟨d1, d2⟩ := (euc_grp hp G hi (fun j hj1 hj2 => hod' S G 0 (by simpa using b) j (by omega) hj2) (row.getD i 0).toNat row rest h1 hr z hpr).mpr ⟨a, c⟩
        exact ⟨⟨d1, b⟩, d2⟩
    refine ⟨main, fun S G k hS j hj1 hj2 => ?_⟩
    cases k with
    | zero => exact hod S G 0 (by simpa using ((main S G).mpr (by simpa using hS)).1) j hj1 hj2
    | succ k => exact ih2 S G k hS j (by omega) hj2
theorem row_fv {odds : List Int} {j : Nat} (h : j < odds.length) : fv (rowI odds j) = eU j (odds.getD j 0) := by
  funext i
  exact row_get h
theorem diag_at {odds : List Int} {j : Nat} (h : j < odds.length) : (diagI odds)[j]? = some (rowI odds j) := by
  unfold diagI
  rw [List.getElem?_map, List.getElem?_range h]
  rfl
theorem hod_diag (odds : List Int) : Hod odds 0 (diagI odds) := fun S G k hS j h1 h2 => by
  rw [← row_fv h2]
  refine hS _ (List.mem_of_getElem? (i := j - k) ?_)
  rw [List.getElem?_drop, show k + (j - k) = j by omega]
  exact diag_at h2
theorem step_all {odds g0 : List Int} (hp : ∀ o ∈ odds, 0 < o) (hb : Bnd odds) (h0 : g0.length = odds.length) : ∀ (gs : List (List Int)) (rows : List (List Int)), (∀ g ∈ gs, g.length = odds.length) → Rows odds rows → Tri rows → Hod odds 0 rows →
    (∀ S : (Nat → Int) → Prop, Grp S → ((∀ r ∈ gs.foldl (stepB odds g0) rows, S (fv r)) ↔ (∀ r ∈ rows, S (fv r)) ∧ ∀ g ∈ gs, S (fv (sub2 g g0)))) ∧ Hod odds 0 (gs.foldl (stepB odds g0) rows)
  | [], rows, _, _, _, hod => ⟨fun S G => by simp, hod⟩
  | g :: gs, rows, hg, hR, hT, hod => by
    have hgl := hg g (List.mem_cons_self ..)
    have hv : (sub2 g g0).length = odds.length := by
      unfold sub2
      rw [List.length_zipWith, hgl, h0, Nat.min_self]
    have hred := mod2_red hv hp
    have hz : Zer 0 (mod2 (sub2 g g0) odds) := fun j hj => absurd hj (Nat.not_lt_zero j)
    have htri : ∀ (j : Nat) r, rows[j]? = some r → Pv (0 + j) r := fun j r hj => by rw [Nat.zero_add]; exact hT j r hj
    obtain ⟨a1, a2⟩ := withV_grp hp rows 0 _ hred hz (by rw [hR.len]; omega) hR.red htri hod
    have hT2 : Tri (stepB odds g0 rows g) := fun j r hj => by
      have := withV_tri hp rows 0 _ hred hz (by rw [hR.len]; omega) hR.red htri j r hj
      rw [Nat.zero_add] at this
      exact this
    obtain ⟨b1, b2⟩ := step_all hp hb h0 gs (stepB odds g0 rows g) (fun x hx => hg x (List.mem_cons_of_mem _ hx)) (hR.withV hp hb hv) hT2 a2
    refine ⟨fun S G => ?_, b2⟩
    rw [List.foldl_cons, b1 S G, List.forall_mem_cons]
    have e : (∀ r ∈ stepB odds g0 rows g, S (fv r)) ↔ (∀ r ∈ rows, S (fv r)) ∧ S (fv (mod2 (sub2 g g0) odds)) := (a1 S G).symm
    rw [e]
    constructor
    · rintro ⟨⟨c1, c2⟩, c3⟩
      exact ⟨c1, (grp_mod G hv fun j hj => hod S G 0 (by simpa using c1) j (by omega) hj).mpr c2, c3⟩
    · rintro ⟨c1, c2, c3⟩
      exact ⟨⟨c1, (grp_mod G hv fun j hj => hod S G 0 (by simpa using c1) j (by omega) hj).mp c2⟩, c3⟩
/-- what the free shifts are spanned by -/
def Gen (ss : List Int) (gs : List (List Int)) (S : (Nat → Int) → Prop) : Prop := (∀ j, j < ss.length → S (eU j (oddI (ss.getD j 0)))) ∧ ∀ g ∈ gs, S (fv (sub2 g (gs.headD [])))
theorem odds_get {ss : List Int} {j : Nat} (h : j < ss.length) : (oddsI ss).getD j 0 = oddI (ss.getD j 0) := by
  unfold oddsI
  rw [getD_getD, getD_getD, List.getElem?_map, List.getElem?_eq_getElem h]
  rfl
theorem odds_len {ss : List Int} : (oddsI ss).length = ss.length := by unfold oddsI; simp
theorem shift_grp {ss : List Int} {gs : List (List Int)} (z : Sz ss) (hg : gs ≠ []) (hl : ∀ g ∈ gs, g.length = ss.length) : (∀ S : (Nat → Int) → Prop, Grp S → ((∀ r ∈ shiftB ss gs, S (fv r)) ↔ Gen ss gs S)) ∧ Hod (oddsI ss) 0 (shiftB ss gs) := by
  have el : (oddsI ss).length = ss.length := odds_len
  obtain ⟨a, b⟩ := step_all (g0 := gs.headD []) (odds_pos z.pos) (odds_bnd z.bits) (by rw [el]; exact hl _ (headD_mem hg)) gs (diagI (oddsI ss)) (fun g h => by rw [el]; exact hl g h) (Rows.diag (odds_pos z.pos) (odds_bnd z.bits)) (diag_tri (odds_pos z.pos)) (hod_diag _)
  refine ⟨fun S G => ?_, b⟩
  unfold shiftB Gen
  rw [a S G]
  refine and_congr ⟨fun h j hj => ?_, fun h r hr => ?_⟩ Iff.rfl
  · have := hod_diag (oddsI ss) S G 0 (by simpa using h) j (by omega) (by omega)
    rw [odds_get hj] at this
    exact this
  · obtain ⟨j, hj, e⟩ := List.getElem_of_mem hr
    rw [diag_len] at hj
    have e2 := diag_at hj
    rw [List.getElem?_eq_getElem (by rw [diag_len]; exact hj), e] at e2
    rw [Option.some.inj e2, row_fv hj, odds_get (by omega)]
    exact h j (by omega)
/-! ### the weights of the columns -/
def dotF (w v : Nat → Int) : Nat → Int
  | 0 => 0
  | n + 1 => dotF w v n + w n * v n
theorem dotF_succ (w v : Nat → Int) : ∀ n, dotF w v (n + 1) = w 0 * v 0 + dotF (fun i => w (i + 1)) (fun i => v (i + 1)) n
  | 0 => by simp [dotF]
  | n + 1 => by
    show dotF w v (n + 1) + w (n + 1) * v (n + 1) = w 0 * v 0 + (dotF (fun i => w (i + 1)) (fun i => v (i + 1)) n + w (n + 1) * v (n + 1))
    rw [dotF_succ w v n]
    omega
theorem dot_F : ∀ (xs ys : List Int), xs.length = ys.length → dot xs ys = dotF (fv xs) (fv ys) xs.length
  | [], [], _ => rfl
  | x :: xs, y :: ys, h => by
    rw [List.length_cons, dotF_succ]
    show x * y + dot xs ys = _
    rw [dot_F xs ys (by simpa using h)]
    rfl
theorem dotF_add (w u v : Nat → Int) (c : Int) : ∀ n, dotF w (fun i => u i + c * v i) n = dotF w u n + c * dotF w v n
  | 0 => by simp [dotF]
  | n + 1 => by
    show dotF w (fun i => u i + c * v i) n + w n * (u n + c * v n) = (dotF w u n + w n * u n) + c * (dotF w v n + w n * v n)
    rw [dotF_add w u v c n, Int.mul_add, Int.mul_add, Int.mul_left_comm]
    omega
theorem dotF_zero (w : Nat → Int) : ∀ n, dotF w (fun _ => 0) n = 0
  | 0 => rfl
  | n + 1 => by
    show dotF w (fun _ => 0) n + w n * 0 = 0
    rw [dotF_zero w n]
    simp
theorem dotF_unit (w : Nat → Int) (j : Nat) (x : Int) : ∀ n, dotF w (eU j x) n = if j < n then w j * x else 0
  | 0 => by simp [dotF]
  | n + 1 => by
    show dotF w (eU j x) n + w n * eU j x n = _
    rw [dotF_unit w j x n]
    unfold eU
    by_cases e : n = j
    · subst e; rw [if_neg (by omega), if_pos rfl, if_pos (by omega)]; omega
    · rw [if_neg e, Int.mul_zero, Int.add_zero]
      by_cases e2 : j < n
      · rw [if_pos e2, if_pos (by omega)]
      · rw [if_neg e2, if_neg (by omega)]
theorem grp_dot (w : Nat → Int) (m : Int) (n : Nat) : Grp fun v => m ∣ dotF w v n :=
  ⟨by rw [dotF_zero]; exact Int.dvd_zero _, fun u v c h1 h2 => by rw [dotF_add]; exact Int.dvd_add h1 (Int.dvd_mul_of_dvd_right h2)⟩
theorem dot_set : ∀ (r w : List Int) (i : Nat) (x : Int), i < w.length → r.length = w.length → dot r (w.set i x) = dot r w + r.getD i 0 * (x - w.getD i 0)
  | [], [], i, x, h, _ => by simp at h
  | a :: r, b :: w, i, x, h, hl => by
    cases i with
    | zero =>
      show a * x + dot r w = a * b + dot r w + a * (x - b)
      rw [Int.mul_sub]
      omega
    | succ i =>
      show a * b + dot r (w.set i x) = a * b + dot r w + r.getD i 0 * (x - w.getD i 0)
      rw [dot_set r w i x (by simpa using h) (by simpa using hl)]
      omega
theorem set_get (w : List Int) (i j : Nat) (x : Int) (h : i < w.length) : (w.set i x).getD j 0 = if j = i then x else w.getD j 0 := by
  rw [getD_getD, getD_getD]
  by_cases e : j = i
  · subst e
    rw [List.getElem?_set_self h, if_pos rfl]
    rfl
  · rw [List.getElem?_set_ne (fun x => e x.symm), if_neg e]
theorem pivP_dvd (rows : List (List Int)) (i j : Nat) (h : i ≤ j) : pivP rows i ∣ pivP rows j := by
  induction j with
  | zero =>
    have : i = 0 := by omega
    subst this
    exact Int.dvd_refl _
  | succ j ih =>
    by_cases e : i = j + 1
    · subst e; exact Int.dvd_refl _
    · rw [pivP_succ]
      exact Int.dvd_trans (ih (by omega)) (Int.dvd_mul_right _ _)
theorem dvd_dot {p : Int} : ∀ (r w : List Int), (∀ j, p ∣ w.getD j 0) → p ∣ dot r w
  | [], _, _ => by simp [dot]
  | _ :: _, [], _ => by simp [dot]
  | a :: r, b :: w, h => by
    show p ∣ a * b + dot r w
    exact Int.dvd_add (Int.dvd_mul_of_dvd_right (h 0)) (dvd_dot r w fun j => h (j + 1))
structure InvW (rows : List (List Int)) (m : Int) (c t : Nat) (w : List Int) : Prop where
  len : w.length = rows.length
  out : ∀ j, c < j ∨ j < c - t → w.getD j 0 = 0
  top : w.getD c 0 = m / pivA rows c
  dvd : ∀ j, pivP rows (c - t) ∣ w.getD j 0
  nul : ∀ i, c - t ≤ i → i < c → dot (rows.getD i []) w = 0
theorem invW {odds : List Int} {rows : List (List Int)} (hR : Rows odds rows) (hT : Tri rows) {c : Nat} (hc : c < rows.length) : ∀ t, t ≤ c → InvW rows (pivP rows rows.length) c t (invC rows (pivP rows rows.length) c t)
  | 0, _ => by
    have hpp : ∀ i, i < rows.length → 0 < pivA rows i := fun i hi => by
      have h1 := (hT i _ (List.getElem?_eq_getElem hi)).2
      unfold pivA
      rw [(row_at hR hi).1]
      exact h1
    have hw : ∀ j, ((List.replicate rows.length (0 : Int)).set c (pivP rows rows.length / pivA rows c)).getD j 0 = if j = c then pivP rows rows.length / pivA rows c else 0 := fun j => by
      rw [set_get _ _ _ _ (by simpa using hc)]
      by_cases e : j = c
      · rw [if_pos e, if_pos e]
      · rw [if_neg e, if_neg e, getD_getD, List.getElem?_replicate]
        split <;> rfl
    refine ⟨by show ((List.replicate rows.length (0 : Int)).set c _).length = _; simp, fun j hj => ?_, ?_, fun j => ?_, fun i h1 h2 => by omega⟩
    · show ((List.replicate rows.length (0 : Int)).set c (pivP rows rows.length / pivA rows c)).getD j 0 = 0
      rw [hw, if_neg (by omega)]
    · show ((List.replicate rows.length (0 : Int)).set c (pivP rows rows.length / pivA rows c)).getD c 0 = _
      rw [hw, if_pos rfl]
    · show pivP rows (c - 0) ∣ ((List.replicate rows.length (0 : Int)).set c (pivP rows rows.length / pivA rows c)).getD j 0
      rw [hw, Nat.sub_zero]
      split
      · obtain ⟨q, hq⟩ := pivP_dvd rows (c + 1) rows.length (by omega)
        rw [hq, pivP_succ]
        have := hpp c hc
        rw [Int.mul_right_comm, Int.mul_ediv_cancel _ (by omega)]
        exact Int.dvd_mul_right _ _
      · exact Int.dvd_zero _
  | t + 1, ht => by
    have ih := invW hR hT hc t (by omega)
    rw [invC_succ]
    generalize invC rows (pivP rows rows.length) c t = w at ih
    have hi : c - 1 - t < rows.length := by omega
    have ei : c - t = (c - 1 - t) + 1 := by omega
    have ei2 : c - (t + 1) = c - 1 - t := by omega
    have hpos : 0 < pivA rows (c - 1 - t) := by
      have h1 := (hT _ _ (List.getElem?_eq_getElem hi)).2
      unfold pivA
      rw [(row_at hR hi).1]
      exact h1
    have hd := dvd_dot (rows.getD (c - 1 - t) []) w ih.dvd
    rw [ei, pivP_succ] at hd
    obtain ⟨q, hq⟩ := hd
    have hx : -(dot (rows.getD (c - 1 - t) []) w) / pivA rows (c - 1 - t) = -(pivP rows (c - 1 - t) * q) := by
      rw [hq, Int.mul_right_comm, ← Int.neg_mul, Int.mul_ediv_cancel _ (by omega)]
    have hw0 := ih.out (c - 1 - t) (.inr (by omega))
    have hlw : c - 1 - t < w.length := by rw [ih.len]; exact hi
    have hg : ∀ j, (wstep rows (c - 1 - t) w).getD j 0 = if j = c - 1 - t then -(pivP rows (c - 1 - t) * q) else w.getD j 0 := fun j => by
      unfold wstep
      rw [hx, set_get _ _ _ _ hlw]
    refine ⟨by unfold wstep; rw [List.length_set]; exact ih.len, fun j hj => ?_, ?_, fun j => ?_, fun i h1 h2 => ?_⟩
    · rw [hg, if_neg (by omega)]
      exact ih.out j (by omega)
    · rw [hg, if_neg (by omega)]
      exact ih.top
    · rw [hg, ei2]
      split
      · exact Int.dvd_neg.mpr (Int.dvd_mul_right _ _)
      · refine Int.dvd_trans ?_ (ih.dvd j)
        exact pivP_dvd rows _ _ (by omega)
    · rw [ei2] at h1
      have hil : i < rows.length := by omega
      have hrl : (rows.getD i []).length = w.length := by rw [(row_at hR hil).1, (row_at hR hil).2.1, ih.len, hR.len]
      unfold wstep
      rw [dot_set _ _ _ _ hlw hrl, hx, hw0, Int.sub_zero]
      by_cases e : i = c - 1 - t
      · subst e
        rw [hq]
        show pivP rows (c - 1 - t) * pivA rows (c - 1 - t) * q + pivA rows (c - 1 - t) * -(pivP rows (c - 1 - t) * q) = 0
        rw [Int.mul_neg, ← Int.mul_assoc, Int.mul_comm (pivA rows (c - 1 - t))]
        omega
      · rw [ih.nul i (by omega) h2]
        have hz := (hT i _ (List.getElem?_eq_getElem hil)).1 (c - 1 - t) (by omega)
        rw [(row_at hR hil).1, hz]
        simp
/-- the rows under the weights of a column -/
theorem dual {odds : List Int} {rows : List (List Int)} (hR : Rows odds rows) (hT : Tri rows) {c k : Nat} (hc : c < rows.length) (hk : k < rows.length) : dot (rows.getD k []) (invC rows (pivP rows rows.length) c c) = if k = c then pivP rows rows.length else 0 := by
  have h := invW hR hT hc c (Nat.le_refl _)
  generalize invC rows (pivP rows rows.length) c c = w at h
  have hrl : (rows.getD k []).length = w.length := by rw [(row_at hR hk).1, (row_at hR hk).2.1, h.len, hR.len]
  have hz := (hT k _ (List.getElem?_eq_getElem hk)).1
  rw [← (row_at hR hk).1] at hz
  by_cases hkc : k < c
  · rw [if_neg (by omega)]
    exact h.nul k (by omega) hkc
  · rw [dot_unit _ _ k (fun j hj => ?_) hrl]
    · by_cases e : k = c
      · subst e
        rw [if_pos rfl, h.top]
        show pivA rows k * (pivP rows rows.length / pivA rows k) = _
        refine Int.mul_ediv_cancel' ?_
        refine Int.dvd_trans ?_ (pivP_dvd rows (k + 1) rows.length (by omega))
        rw [pivP_succ]
        exact Int.dvd_mul_left _ _
      · rw [if_neg e, h.out k (.inl (by omega))]
        simp
    · by_cases e : j < k
      · exact .inl (hz j e)
      · exact .inr (h.out j (.inl (by omega)))

/-- v is told from the lattice by no column: it is in it -/
theorem col_mem {odds : List Int} {rows : List (List Int)} (hR : Rows odds rows) (hT : Tri rows) {v : List Int} (hv : v.length = rows.length) (h : ∀ c, c < rows.length → pivP rows rows.length ∣ dot (invC rows (pivP rows rows.length) c c) v) {S : (Nat → Int) → Prop} (G : Grp S) (hS : ∀ r ∈ rows, S (fv r)) : S (fv v) := by
  have hm := pivP_pos hT rows.length (Nat.le_refl _)
  have hwl : ∀ c, (invC rows (pivP rows rows.length) c c).length = rows.length := fun c => invC_len _ _ _ _
  have hdot : ∀ c, dot (invC rows (pivP rows rows.length) c c) v = dotF (fv (invC rows (pivP rows rows.length) c c)) (fv v) rows.length := fun c => by rw [dot_F _ _ (by rw [hwl, hv]), hwl]
  have hrow : ∀ c k, c < rows.length → k < rows.length → dotF (fv (invC rows (pivP rows rows.length) c c)) (fv (rows.getD k [])) rows.length = if k = c then pivP rows rows.length else 0 := fun c k hc hk => by
    have e := dual hR hT hc hk
    have hl : (rows.getD k []).length = rows.length := by rw [(row_at hR hk).1, (row_at hR hk).2.1, hR.len]
    have comm : ∀ (a b : Nat → Int) n, dotF a b n = dotF b a n := fun a b n => by
      induction n with
      | zero => rfl
      | succ n ih => show dotF a b n + a n * b n = dotF b a n + b n * a n; rw [ih, Int.mul_comm]
    rw [dot_F _ _ (by rw [hl, hwl]), hl] at e
    rw [comm]
    exact e
  generalize hW : (fun c => fv (invC rows (pivP rows rows.length) c c)) = W at *
  have hWc : ∀ c, fv (invC rows (pivP rows rows.length) c c) = W c := fun c => by rw [← hW]
  have hout : ∀ c, c < rows.length → ∀ j, c < j → W c j = 0 := fun c hc j hj => by
    rw [← hWc]
    exact (invW hR hT hc c (Nat.le_refl _)).out j (.inl hj)
  have htop : ∀ c, c < rows.length → W c c ≠ 0 := fun c hc => by
    rw [← hWc]
    have e := (invW hR hT hc c (Nat.le_refl _)).top
    rw [show fv (invC rows (pivP rows rows.length) c c) c = _ from e]
    obtain ⟨q, hq⟩ := pivP_dvd rows (c + 1) rows.length (by omega)
    rw [pivP_succ] at hq
    have hp0 : pivA rows c ≠ 0 := fun e => by rw [e] at hq; simp at hq; omega
    rw [hq, Int.mul_right_comm, Int.mul_ediv_cancel _ hp0]
    intro e2
    rw [Int.mul_right_comm, e2, Int.zero_mul] at hq
    omega
  simp only [hWc] at hdot hrow h
  have hq : ∀ c, c < rows.length → ∃ q, dotF (W c) (fv v) rows.length = pivP rows rows.length * q := fun c hc => by
    have := h c hc
    rw [hdot] at this
    exact this
  obtain ⟨a, ha⟩ : ∃ a : Nat → Int, ∀ c, c < rows.length → dotF (W c) (fv v) rows.length = pivP rows rows.length * a c := by
    refine ⟨fun c => dotF (W c) (fv v) rows.length / pivP rows rows.length, fun c hc => ?_⟩
    obtain ⟨q, e⟩ := hq c hc
    show _ = _ * (dotF (W c) (fv v) rows.length / pivP rows rows.length)
    rw [e, Int.mul_ediv_cancel_left _ (by omega)]
  let U : Nat → Nat → Int := fun k => Nat.rec (fv v) (fun k u i => u i + -a k * fv (rows.getD k []) i) k
  have hU0 : U 0 = fv v := rfl
  have hUs : ∀ k, U (k + 1) = fun i => U k i + -a k * fv (rows.getD k []) i := fun _ => rfl
  have hdU : ∀ k, k ≤ rows.length → ∀ c, c < rows.length → dotF (W c) (U k) rows.length = if c < k then 0 else pivP rows rows.length * a c := by
    intro k
    induction k with
    | zero => intro _ c hc; rw [hU0, if_neg (by omega)]; exact ha c hc
    | succ k ih =>
      intro hk c hc
      rw [hUs, dotF_add, ih (by omega) c hc, hrow c k hc (by omega)]
      by_cases e : k = c
      · subst e
        rw [if_pos rfl, if_neg (by omega), if_pos (by omega), Int.neg_mul, Int.mul_comm (a k)]
        omega
      · rw [if_neg e, Int.mul_zero, Int.add_zero]
        by_cases e2 : c < k
        · rw [if_pos e2, if_pos (by omega)]
        · rw [if_neg e2, if_neg (by omega)]
  have hUo : ∀ k, k ≤ rows.length → ∀ j, rows.length ≤ j → U k j = 0 := by
    intro k
    induction k with
    | zero => intro _ j hj; rw [hU0]; exact fv_out (by omega)
    | succ k ih =>
      intro hk j hj
      rw [hUs]
      show U k j + -a k * fv (rows.getD k []) j = 0
      rw [ih (by omega) j hj, fv_out (by rw [(row_at hR (by omega)).1, (row_at hR (by omega)).2.1, ← hR.len]; exact hj)]
      simp
  have hz : ∀ c, c < rows.length → U rows.length c = 0 := by
    intro c
    induction c using Nat.strongRecOn with
    | ind c ih =>
      intro hc
      have e := hdU rows.length (Nat.le_refl _) c hc
      rw [if_pos hc] at e
      have key : ∀ n, dotF (W c) (U rows.length) n = if c < n then W c c * U rows.length c else 0 := by
        intro n
        induction n with
        | zero => rfl
        | succ n ihn =>
          show dotF (W c) (U rows.length) n + W c n * U rows.length n = _
          rw [ihn]
          by_cases e1 : n = c
          · subst e1; rw [if_neg (by omega), if_pos (by omega)]; omega
          · by_cases e2 : c < n
            · rw [if_pos e2, if_pos (by omega), hout c hc n e2]; simp
            · rw [if_neg e2, if_neg (by omega), ih n (by omega) (by omega)]; simp
      rw [key, if_pos hc] at e
      rcases Int.mul_eq_zero.mp e with h1 | h1
      · exact absurd h1 (htop c hc)
      · exact h1
  have hUn : U rows.length = fun _ => 0 := by
    funext j
    by_cases h : j < rows.length
    · exact hz j h
    · exact hUo _ (Nat.le_refl _) j (by omega)
  have back : ∀ k, k ≤ rows.length → S (U (rows.length - k)) := by
    intro k
    induction k with
    | zero => intro _; rw [Nat.sub_zero, hUn]; exact G.zero
    | succ k ih =>
      intro hk
      have e1 : rows.length - k = (rows.length - (k + 1)) + 1 := by omega
      have h1 := ih (by omega)
      rw [e1, hUs] at h1
      generalize hi : rows.length - (k + 1) = i at h1 ⊢
      have hin : i < rows.length := by omega
      have hr := hS rows[i] (List.getElem_mem hin)
      rw [← (row_at hR hin).1] at hr
      have h2 := G.add _ _ (a i) h1 hr
      have e3 : (fun j => U i j + -a i * fv (rows.getD i []) j + a i * fv (rows.getD i []) j) = U i := by
        funext j
        rw [Int.neg_mul]
        omega
      rw [e3] at h2
      exact h2
  have := back rows.length (Nat.le_refl _)
  rw [Nat.sub_self] at this
  exact this
/-- the free shifts: what is in every group that holds what spans them -/
def Free (ss : List Int) (gs : List (List Int)) (v : Nat → Int) : Prop := ∀ S : (Nat → Int) → Prop, Grp S → Gen ss gs S → S v
structure LatW (ss : List Int) (gs : List (List Int)) (m : Int) (w : List Int) : Prop where
  len : w.length = ss.length
  odd : ∀ j, j < ss.length → m ∣ w.getD j 0 * oddI (ss.getD j 0)
  dif : ∀ g ∈ gs, m ∣ dot w (sub2 g (gs.headD []))
theorem lat_w {ss : List Int} {gs : List (List Int)} (z : Sz ss) (hg : gs ≠ []) (hl : ∀ g ∈ gs, g.length = ss.length) {c : Nat} (hc : c < ss.length) : LatW ss gs (cosetI ss gs) (invC (shiftB ss gs) (cosetI ss gs) c c) ∧ Gen ss gs fun v => cosetI ss gs ∣ dotF (fv (invC (shiftB ss gs) (cosetI ss gs) c c)) v ss.length := by
  have hR := shift_rows z hg hl
  have hT := shift_tri z hg hl
  have hn : (shiftB ss gs).length = ss.length := by rw [hR.len, odds_len]
  obtain ⟨hspan, _⟩ := shift_grp z hg hl
  have e : cosetI ss gs = pivP (shiftB ss gs) (shiftB ss gs).length := by unfold cosetI; rw [hn]
  have hwl := invC_len (shiftB ss gs) (cosetI ss gs) c c
  have hgen : Gen ss gs fun v => cosetI ss gs ∣ dotF (fv (invC (shiftB ss gs) (cosetI ss gs) c c)) v ss.length := by
    refine (hspan _ (grp_dot _ _ _)).mp fun r hr => ?_
    obtain ⟨k, hk, er⟩ := List.getElem_of_mem hr
    have hd := dual hR hT (by omega : c < (shiftB ss gs).length) hk
    have comm : ∀ (a b : Nat → Int) n, dotF a b n = dotF b a n := fun a b n => by
      induction n with
      | zero => rfl
      | succ n ih => show dotF a b n + a n * b n = dotF b a n + b n * a n; rw [ih, Int.mul_comm]
    have hrl : r.length = ss.length := by rw [← er, (row_at hR hk).2.1, odds_len]
    rw [(row_at hR hk).1, er, ← e] at hd
    rw [comm, ← hrl, ← dot_F _ _ (by rw [hwl, hrl, hn]), hd]
    split
    · exact Int.dvd_refl _
    · exact Int.dvd_zero _
  refine ⟨⟨by rw [hwl, hn], fun j hj => ?_, fun g hgm => ?_⟩, hgen⟩
  · have h1 : cosetI ss gs ∣ dotF (fv (invC (shiftB ss gs) (cosetI ss gs) c c)) (eU j (oddI (ss.getD j 0))) ss.length := hgen.1 j hj
    rw [dotF_unit, if_pos hj] at h1
    exact h1
  · have := hgen.2 g hgm
    have hsl : (sub2 g (gs.headD [])).length = ss.length := by
      unfold sub2
      rw [List.length_zipWith, hl g hgm, hl _ (headD_mem hg), Nat.min_self]
    rw [dot_F _ _ (by rw [hwl, hsl, hn]), hwl, hn]
    exact this
theorem reach_free {ss : List Int} {gs : List (List Int)} (z : Sz ss) (hg : gs ≠ []) (hl : ∀ g ∈ gs, g.length = ss.length) {p : List Int} (hp : p.length = ss.length) : reachI ss gs p = none ↔ Free ss gs (fv (sub2 p (gs.headD []))) := by
  have hR := shift_rows z hg hl
  have hT := shift_tri z hg hl
  have hn : (shiftB ss gs).length = ss.length := by rw [hR.len, odds_len]
  have e : cosetI ss gs = pivP (shiftB ss gs) (shiftB ss gs).length := by unfold cosetI; rw [hn]
  have hsl : (sub2 p (gs.headD [])).length = ss.length := by
    unfold sub2
    rw [List.length_zipWith, hp, hl _ (headD_mem hg), Nat.min_self]
  obtain ⟨hspan, _⟩ := shift_grp z hg hl
  have hcol : ∀ c, c < ss.length → (¬ colF (shiftB ss gs) ss.length (sub2 p (gs.headD [])) c = true ↔ cosetI ss gs ∣ dot (invC (shiftB ss gs) (cosetI ss gs) c c) (sub2 p (gs.headD []))) := fun c hc => by
    unfold colF
    rw [show pivP (shiftB ss gs) ss.length = cosetI ss gs from rfl, Int.dvd_iff_emod_eq_zero]
    simp
  unfold reachI
  rw [List.find?_eq_none]
  constructor
  · intro h S G hgen
    refine col_mem hR hT (by rw [hsl, hn]) (fun c hc => ?_) G ((hspan S G).mpr hgen)
    rw [← e]
    exact (hcol c (by omega)).mp (h c (List.mem_range.mpr (by omega)))
  · intro h c hm
    have hc := List.mem_range.mp hm
    refine (hcol c hc).mpr ?_
    have hwl := invC_len (shiftB ss gs) (cosetI ss gs) c c
    have := h _ (grp_dot _ _ _) (lat_w z hg hl hc).2
    rw [dot_F _ _ (by rw [hwl, hsl, hn]), hwl, hn]
    exact this

/-! ### pivots -/
theorem dotF_comm (a b : Nat → Int) : ∀ n, dotF a b n = dotF b a n
  | 0 => rfl
  | n + 1 => by
    show dotF a b n + a n * b n = dotF b a n + b n * a n
    rw [dotF_comm a b n, Int.mul_comm]
theorem pivA_eq {odds : List Int} {rows : List (List Int)} (hR : Rows odds rows) {k : Nat} (hk : k < rows.length) : pivA rows k = fv (rows.getD k []) k := rfl
theorem pivA_pos {odds : List Int} {rows : List (List Int)} (hR : Rows odds rows) (hT : Tri rows) {k : Nat} (hk : k < rows.length) : 0 < pivA rows k := by
  have h1 := (hT k _ (List.getElem?_eq_getElem hk)).2
  unfold pivA
  rw [(row_at hR hk).1]
  exact h1
/-- what is spanned and has zeros ahead of k is divided by the pivot there -/
theorem span_piv {odds : List Int} {rows : List (List Int)} (hR : Rows odds rows) (hT : Tri rows) {v : Nat → Int} (h : ∀ S : (Nat → Int) → Prop, Grp S → (∀ r ∈ rows, S (fv r)) → S v) {k : Nat} (hk : k < rows.length) (hz : ∀ j, j < k → v j = 0) : pivA rows k ∣ v k := by
  have hwl := invC_len rows (pivP rows rows.length) k k
  have hW := invW hR hT hk k (Nat.le_refl _)
  have h1 := h _ (grp_dot (fv (invC rows (pivP rows rows.length) k k)) (pivP rows rows.length) rows.length) fun r hr => by
    obtain ⟨i, hi, er⟩ := List.getElem_of_mem hr
    have hd := dual hR hT hk hi
    have hrl : r.length = rows.length := by rw [← er, (row_at hR hi).2.1, hR.len]
    rw [(row_at hR hi).1, er, dot_F _ _ (by rw [hrl, hwl]), hrl] at hd
    rw [dotF_comm, hd]
    split
    · exact Int.dvd_refl _
    · exact Int.dvd_zero _
  have key : ∀ n, dotF (fv (invC rows (pivP rows rows.length) k k)) v n = if k < n then (pivP rows rows.length / pivA rows k) * v k else 0 := by
    intro n
    induction n with
    | zero => rfl
    | succ n ih =>
      show dotF _ v n + fv (invC rows (pivP rows rows.length) k k) n * v n = _
      rw [ih]
      by_cases e1 : n = k
      · subst e1
        rw [if_neg (by omega), if_pos (by omega), show fv (invC rows (pivP rows rows.length) n n) n = _ from hW.top]
        omega
      · by_cases e2 : k < n
        · rw [if_pos e2, if_pos (by omega), show fv (invC rows (pivP rows rows.length) k k) n = 0 from hW.out n (.inl e2)]
          omega
        · rw [if_neg e2, if_neg (by omega), hz n (by omega)]
          omega
  rw [key, if_pos hk] at h1
  have hp := pivA_pos hR hT hk
  have hm := pivP_pos hT rows.length (Nat.le_refl _)
  obtain ⟨q, hq⟩ : pivA rows k ∣ pivP rows rows.length := Int.dvd_trans (by rw [pivP_succ]; exact Int.dvd_mul_left _ _) (pivP_dvd rows (k + 1) rows.length (by omega))
  rw [hq, Int.mul_ediv_cancel_left _ (by omega)] at h1
  rw [hq] at hm
  have hq0 : q ≠ 0 := fun e => by rw [e] at hm; simp at hm
  rw [Int.mul_comm (pivA rows k)] at h1
  exact Int.dvd_of_mul_dvd_mul_left hq0 h1
theorem pivP_dvd_of {rows rows' : List (List Int)} : ∀ n, (∀ k, k < n → pivA rows' k ∣ pivA rows k) → pivP rows' n ∣ pivP rows n
  | 0, _ => Int.dvd_refl _
  | n + 1, h => by
    rw [pivP_succ, pivP_succ]
    exact Int.mul_dvd_mul (pivP_dvd_of n fun k hk => h k (by omega)) (h n (by omega))
theorem piv_all_eq {rows rows' : List (List Int)} : ∀ n, (∀ k, k < n → 0 < pivA rows k ∧ 0 < pivA rows' k ∧ pivA rows' k ∣ pivA rows k) → pivP rows' n = pivP rows n → ∀ k, k < n → pivA rows' k = pivA rows k
  | 0, _, _ => fun k hk => absurd hk (Nat.not_lt_zero k)
  | n + 1, h, e => by
    rw [pivP_succ, pivP_succ] at e
    have hpos : ∀ n', n' ≤ n → 0 < pivP rows n' ∧ 0 < pivP rows' n' := by
      intro n'
      induction n' with
      | zero => intro _; exact ⟨by show (0 : Int) < 1; decide, by show (0 : Int) < 1; decide⟩
      | succ j ih =>
        intro hj
        obtain ⟨a, b⟩ := ih (by omega)
        obtain ⟨c, d, _⟩ := h j (by omega)
        rw [pivP_succ, pivP_succ]
        exact ⟨Int.mul_pos a c, Int.mul_pos b d⟩
    obtain ⟨p1, p2⟩ := hpos n (Nat.le_refl _)
    obtain ⟨c, d, hd⟩ := h n (by omega)
    have hP := Int.le_of_dvd p1 (pivP_dvd_of n fun k hk => (h k (by omega)).2.2)
    have hq := Int.le_of_dvd c hd
    have e1 : pivP rows' n = pivP rows n := by
      by_cases hlt : pivP rows' n < pivP rows n
      · have h1 : pivP rows' n * pivA rows' n ≤ pivP rows' n * pivA rows n := Int.mul_le_mul_of_nonneg_left hq (by omega)
        have h2 : pivP rows' n * pivA rows n < pivP rows n * pivA rows n := Int.mul_lt_mul_of_pos_right hlt c
        omega
      · omega
    have e2 : pivA rows' n = pivA rows n := by
      rw [e1] at e
      exact Int.eq_of_mul_eq_mul_left (by omega) e
    intro k hk
    by_cases ek : k = n
    · subst ek; exact e2
    · exact piv_all_eq n (fun k hk => h k (by omega)) e1 k (by omega)
/-- a vector of one lattice is in a smaller one with the same pivots -/
theorem span_back {odds : List Int} {rows rows' : List (List Int)} (hR : Rows odds rows) (hT : Tri rows) (hR' : Rows odds rows') (hT' : Tri rows') (heq : ∀ k, k < rows.length → pivA rows' k = pivA rows k) {S : (Nat → Int) → Prop} (G : Grp S) (hS : ∀ r ∈ rows, S (fv r))
    (hsub : ∀ S : (Nat → Int) → Prop, Grp S → (∀ r ∈ rows', S (fv r)) → ∀ r ∈ rows, S (fv r)) : ∀ (d k : Nat) (v : Nat → Int), k + d = rows.length → (∀ j, rows.length ≤ j → v j = 0) → (∀ j, j < k → v j = 0) → (∀ S : (Nat → Int) → Prop, Grp S → (∀ r ∈ rows', S (fv r)) → S v) → S v
  | 0, k, v, hd, ho, hz, h => by
    have : v = fun _ => 0 := by
      funext j
      by_cases e : j < k
      · exact hz j e
      · exact ho j (by omega)
    rw [this]; exact G.zero
  | d + 1, k, v, hd, ho, hz, h => by
    have hk : k < rows.length := by omega
    have hn : rows'.length = rows.length := by rw [hR.len, hR'.len]
    have h1 := span_piv hR' hT' h (by omega : k < rows'.length) hz
    rw [heq k hk] at h1
    obtain ⟨q, hq⟩ := h1
    have hrow := hS rows[k] (List.getElem_mem hk)
    have hrk := (row_at hR hk).1
    have hzk := (hT k _ (List.getElem?_eq_getElem hk)).1
    have hv : S fun i => v i + -q * fv rows[k] i := by
      refine span_back hR hT hR' hT' heq G hS hsub d (k + 1) _ (by omega) (fun j hj => ?_) (fun j hj => ?_) fun S' G' hS' => ?_
      · show v j + -q * fv rows[k] j = 0
        rw [ho j hj, fv_out (by rw [(row_at hR hk).2.1, ← hR.len]; exact hj)]
        simp
      · show v j + -q * fv rows[k] j = 0
        by_cases e : j = k
        · subst e
          have : fv rows[j] j = pivA rows j := by unfold pivA; rw [hrk]; rfl
          rw [hq, this, Int.neg_mul, Int.mul_comm]
          omega
        · rw [hz j (by omega), show fv rows[k] j = 0 from hzk j (by omega)]
          simp
      · exact G'.add _ _ _ (h S' G' hS') (hsub S' G' hS' _ (List.getElem_mem hk))
    have h2 := G.add _ _ q hv hrow
    have e3 : (fun i => v i + -q * fv rows[k] i + q * fv rows[k] i) = v := by
      funext i
      rw [Int.neg_mul]
      omega
    rw [e3] at h2
    exact h2
section
variable {ss : List Int} {gs hs : List (List Int)} (z : Sz ss) (hg : gs ≠ []) (hl : ∀ g ∈ gs, g.length = ss.length)
include z hg hl
theorem coset_pos : 0 < cosetI ss gs := pivP_pos (shift_tri z hg hl) _ (by rw [(shift_rows z hg hl).len, odds_len]; exact Nat.le_refl _)
theorem coset_dvd_prod : cosetI ss gs ∣ prodI (oddsI ss) := by
  have hR := shift_rows z hg hl
  have hT := shift_tri z hg hl
  have hn : (shiftB ss gs).length = ss.length := by rw [hR.len, odds_len]
  obtain ⟨hspan, _⟩ := shift_grp z hg hl
  have key : ∀ k, k ≤ ss.length → pivP (shiftB ss gs) k ∣ prodI ((oddsI ss).take k) := by
    intro k
    induction k with
    | zero => intro _; exact Int.dvd_refl _
    | succ k ih =>
      intro hk
      have hko : k < (oddsI ss).length := by rw [odds_len]; omega
      rw [pivP_succ, prodI_take (List.getElem?_eq_getElem hko)]
      refine Int.mul_dvd_mul (ih (by omega)) ?_
      have h1 := span_piv hR hT (v := eU k (oddI (ss.getD k 0))) (fun S G hS => ((hspan S G).mp hS).1 k (by omega)) (by omega : k < (shiftB ss gs).length) (fun j hj => by unfold eU; rw [if_neg (by omega)])
      have e : (oddsI ss)[k] = oddI (ss.getD k 0) := by
        rw [← odds_get (by omega), getD_getD, List.getElem?_eq_getElem hko]
        rfl
      rw [e]
      unfold eU at h1
      rw [if_pos rfl] at h1
      exact h1
  have := key ss.length (Nat.le_refl _)
  rw [← odds_len (ss := ss), List.take_length, odds_len] at this
  exact this
theorem coset_odd : cosetI ss gs % 2 = 1 := by
  refine dvd_odd (coset_dvd_prod z hg hl) ?_
  have key : ∀ k, k ≤ (oddsI ss).length → prodI ((oddsI ss).take k) % 2 = 1 := by
    intro k
    induction k with
    | zero => intro _; rfl
    | succ k ih =>
      intro hk
      have hko : k < (oddsI ss).length := by omega
      rw [prodI_take (List.getElem?_eq_getElem hko), Int.mul_emod, ih (by omega)]
      have hks : k < ss.length := by rw [← odds_len (ss := ss)]; exact hko
      have e : (oddsI ss)[k] = oddI ss[k] := List.getElem_map oddI
      rw [e]
      obtain ⟨_, _, h⟩ := oddI_split (z.pos _ (List.getElem_mem hks))
      rw [h]
      rfl
  have := key _ (Nat.le_refl _)
  rwa [List.take_length] at this
variable (hh : hs ≠ []) (hhl : ∀ g ∈ hs, g.length = ss.length) (hsub : ∀ S : (Nat → Int) → Prop, Grp S → Gen ss hs S → Gen ss gs S)
include hh hhl hsub
/-- more targets: fewer sets -/
theorem coset_dvd : cosetI ss hs ∣ cosetI ss gs := by
  have hR := shift_rows z hg hl
  have hT := shift_tri z hg hl
  have hR' := shift_rows z hh hhl
  have hT' := shift_tri z hh hhl
  have hn : (shiftB ss gs).length = ss.length := by rw [hR.len, odds_len]
  have hn' : (shiftB ss hs).length = ss.length := by rw [hR'.len, odds_len]
  refine pivP_dvd_of _ fun k hk => ?_
  have hr : fv ((shiftB ss gs).getD k []) k = pivA (shiftB ss gs) k := rfl
  rw [← hr]
  refine span_piv hR' hT' (fun S G hS => ?_) (by omega) fun j hj => ?_
  · have h1 := ((shift_grp z hg hl).1 S G).mpr (hsub S G (((shift_grp z hh hhl).1 S G).mp hS))
    rw [(row_at hR (by omega)).1]
    exact h1 _ (List.getElem_mem (by omega))
  · rw [(row_at hR (by omega)).1]
    exact (hT k _ (List.getElem?_eq_getElem (by omega))).1 j hj
/-- as many sets: the same free shifts -/
theorem coset_same (e : cosetI ss hs = cosetI ss gs) {v : Nat → Int} (hv : ∀ j, ss.length ≤ j → v j = 0) (h : Free ss hs v) : Free ss gs v := by
  have hR := shift_rows z hg hl
  have hT := shift_tri z hg hl
  have hR' := shift_rows z hh hhl
  have hT' := shift_tri z hh hhl
  have hn : (shiftB ss gs).length = ss.length := by rw [hR.len, odds_len]
  have hn' : (shiftB ss hs).length = ss.length := by rw [hR'.len, odds_len]
  have hrows : ∀ S : (Nat → Int) → Prop, Grp S → (∀ r ∈ shiftB ss hs, S (fv r)) → ∀ r ∈ shiftB ss gs, S (fv r) := fun S G hS => ((shift_grp z hg hl).1 S G).mpr (hsub S G (((shift_grp z hh hhl).1 S G).mp hS))
  have hpd : ∀ k, k < ss.length → pivA (shiftB ss hs) k ∣ pivA (shiftB ss gs) k := fun k hk => by
    have hr : fv ((shiftB ss gs).getD k []) k = pivA (shiftB ss gs) k := rfl
    rw [← hr]
    refine span_piv hR' hT' (fun S G hS => ?_) (by omega) fun j hj => ?_
    · rw [(row_at hR (by omega)).1]
      exact hrows S G hS _ (List.getElem_mem (by omega))
    · rw [(row_at hR (by omega)).1]
      exact (hT k _ (List.getElem?_eq_getElem (by omega))).1 j hj
  have hpe := piv_all_eq ss.length (fun k hk => ⟨pivA_pos hR hT (by omega), pivA_pos hR' hT' (by omega), hpd k hk⟩) e
  intro S G hgen
  refine span_back hR hT hR' hT' (fun k hk => hpe k (by omega)) G (((shift_grp z hg hl).1 S G).mpr hgen) hrows (shiftB ss gs).length 0 v (by omega) (fun j hj => hv j (by omega)) (fun j hj => absurd hj (Nat.not_lt_zero j)) fun S' G' hS' => ?_
  exact h S' G' (((shift_grp z hh hhl).1 S' G').mp hS')
end
/-! ### witnesses -/
/-- a witness: modulus, weights, residue -/
structure Wit (ss : List Int) (m : Int) (ws : List Int) (r : Int) : Prop where
  len : ws.length = ss.length
  three : 3 ≤ m
  odd : m % 2 = 1
  rng : ∀ x ∈ ws, 0 ≤ x ∧ x < m
  fit : ∀ (i : Nat) x s, ws[i]? = some x → ss[i]? = some s → x * s % m = 0
  res : 0 ≤ r ∧ r < m
theorem emod_eq_iff {m a b : Int} : a % m = b % m ↔ m ∣ a - b := by
  rw [Int.emod_eq_emod_iff_emod_sub_eq_zero, Int.dvd_iff_emod_eq_zero]

theorem dot_mod {d sm : Int} (hd : d ≠ 0) : ∀ (ws xs : List Int), (∀ x ∈ ws, d ∣ x) → d * sm ∣ dot ws xs - d * dot (ws.map fun x => x / d % sm) xs
  | [], xs, _ => by simp [dot]
  | x :: ws, [], _ => by simp [dot]
  | x :: ws, y :: xs, h => by
    obtain ⟨u, rfl⟩ := h x (List.mem_cons_self ..)
    have ih := dot_mod (sm := sm) hd ws xs (fun x hx => h x (List.mem_cons_of_mem _ hx))
    show d * sm ∣ d * u * y + dot ws xs - d * (d * u / d % sm * y + dot (ws.map fun x => x / d % sm) xs)
    rw [Int.mul_ediv_cancel_left _ hd]
    have e : d * u * y + dot ws xs - d * (u % sm * y + dot (ws.map fun x => x / d % sm) xs) = d * sm * (u / sm * y) + (dot ws xs - d * dot (ws.map fun x => x / d % sm) xs) := by
      have h1 : u = u % sm + sm * (u / sm) := by have := Int.emod_add_mul_ediv u sm; omega
      have h2 : d * u * y = d * (u % sm * y) + d * sm * (u / sm * y) := by
        conv => lhs; rw [h1]
        rw [Int.mul_add, Int.add_mul]
        congr 1
        · rw [Int.mul_assoc]
        · rw [← Int.mul_assoc, Int.mul_assoc (d * sm)]
      rw [h2, Int.mul_add]
      omega
    rw [e]
    exact Int.dvd_add (Int.dvd_mul_right _ _) ih
theorem dot_sub2 : ∀ (w a b : List Int), w.length = a.length → a.length = b.length → dot w (sub2 a b) = dot w a - dot w b
  | [], _, _, _, _ => by simp [dot]
  | x :: w, a :: as, b :: bs, h1, h2 => by
    show x * (a - b) + dot w (sub2 as bs) = (x * a + dot w as) - (x * b + dot w bs)
    rw [dot_sub2 w as bs (by simpa using h1) (by simpa using h2), Int.mul_sub]
    omega
  | x :: w, [], _, h1, _ => by simp at h1
  | x :: w, a :: as, [], _, h2 => by simp at h2
theorem red_dvd {m : Int} {w x : List Int} (hm : 0 < m) : smallW m w ∣ dot (redW m w) x ↔ m ∣ dot w x := by
  obtain ⟨g1, g2, g3⟩ := gcdW_dvd w m hm
  have hms : m = gcdW m w * smallW m w := by
    unfold smallW
    rw [Int.mul_ediv_cancel' g2]
  have h1 := dot_mod (d := gcdW m w) (sm := smallW m w) (by omega) w x g3
  rw [← hms] at h1
  have e : (w.map fun x => x / gcdW m w % smallW m w) = redW m w := rfl
  rw [e] at h1
  constructor
  · rintro ⟨q, hq⟩
    have h2 : m ∣ gcdW m w * dot (redW m w) x := by
      rw [hq, ← Int.mul_assoc, ← hms]
      exact Int.dvd_mul_right _ _
    have := Int.dvd_add h1 h2
    rw [Int.sub_add_cancel] at this
    exact this
  · intro h
    have h2 := Int.dvd_sub h h1
    rw [show dot w x - (dot w x - gcdW m w * dot (redW m w) x) = gcdW m w * dot (redW m w) x by omega] at h2
    have h3 : gcdW m w * smallW m w ∣ gcdW m w * dot (redW m w) x := by rw [← hms]; exact h2
    exact Int.dvd_of_mul_dvd_mul_left (by omega) h3
/-- what reach answers is a witness: all targets have its residue, the seat has not -/
theorem reach_wit {ss : List Int} {gs : List (List Int)} (z : Sz ss) (hg : gs ≠ []) (hl : ∀ g ∈ gs, g.length = ss.length) {p : List Int} (hp : p.length = ss.length) {c : Nat} (h : reachI ss gs p = some c) :
    Wit ss (smallW (cosetI ss gs) (invC (shiftB ss gs) (cosetI ss gs) c c)) (redW (cosetI ss gs) (invC (shiftB ss gs) (cosetI ss gs) c c)) (dot (redW (cosetI ss gs) (invC (shiftB ss gs) (cosetI ss gs) c c)) (gs.headD []) % smallW (cosetI ss gs) (invC (shiftB ss gs) (cosetI ss gs) c c)) ∧
    (∀ g ∈ gs, dot (redW (cosetI ss gs) (invC (shiftB ss gs) (cosetI ss gs) c c)) g % smallW (cosetI ss gs) (invC (shiftB ss gs) (cosetI ss gs) c c) = dot (redW (cosetI ss gs) (invC (shiftB ss gs) (cosetI ss gs) c c)) (gs.headD []) % smallW (cosetI ss gs) (invC (shiftB ss gs) (cosetI ss gs) c c)) ∧
    dot (redW (cosetI ss gs) (invC (shiftB ss gs) (cosetI ss gs) c c)) p % smallW (cosetI ss gs) (invC (shiftB ss gs) (cosetI ss gs) c c) ≠ dot (redW (cosetI ss gs) (invC (shiftB ss gs) (cosetI ss gs) c c)) (gs.headD []) % smallW (cosetI ss gs) (invC (shiftB ss gs) (cosetI ss gs) c c) := by
  unfold reachI at h
  have hcol := List.find?_some h
  have hc := List.mem_range.mp (List.mem_of_find?_eq_some h)
  unfold colF at hcol
  rw [show pivP (shiftB ss gs) ss.length = cosetI ss gs from rfl] at hcol
  have hcol : ¬ cosetI ss gs ∣ dot (invC (shiftB ss gs) (cosetI ss gs) c c) (sub2 p (gs.headD [])) := by
    rw [Int.dvd_iff_emod_eq_zero]
    simpa using hcol
  have hL := (lat_w z hg hl hc).1
  have hm := coset_pos z hg hl
  have hodd := coset_odd z hg hl
  generalize invC (shiftB ss gs) (cosetI ss gs) c c = w at *
  generalize cosetI ss gs = m at *
  have hs := smallW_pos (ws := w) hm
  have hrl : (redW m w).length = ss.length := by unfold redW; rw [List.length_map]; exact hL.len
  have hg0 := hl _ (headD_mem hg)
  have hx : ∀ x : List Int, x.length = ss.length → (dot (redW m w) x % smallW m w = dot (redW m w) (gs.headD []) % smallW m w ↔ m ∣ dot w (sub2 x (gs.headD []))) := fun x hxl => by
    rw [emod_eq_iff, ← dot_sub2 _ _ _ (by rw [hrl, hxl]) (by rw [hxl, hg0]), red_dvd hm]
  obtain ⟨g1, g2, g3⟩ := gcdW_dvd w m hm
  have hms : m = gcdW m w * smallW m w := by
    unfold smallW
    rw [Int.mul_ediv_cancel' g2]
  have hne : dot (redW m w) p % smallW m w ≠ dot (redW m w) (gs.headD []) % smallW m w := fun e => hcol ((hx p hp).mp e)
  have ho : smallW m w % 2 = 1 := dvd_odd ⟨gcdW m w, by rw [Int.mul_comm]; exact hms⟩ hodd
  have h1 : smallW m w ≠ 1 := fun e => by
    rw [e] at hne
    simp at hne
  refine ⟨⟨hrl, by omega, ho, fun x hx => ?_, fun i x s h1 h2 => ?_, Int.emod_nonneg _ (by omega), Int.emod_lt_of_pos _ hs⟩, fun g hgm => (hx g (hl g hgm)).mpr (hL.dif g hgm), hne⟩
  · unfold redW at hx
    obtain ⟨u, _, rfl⟩ := List.mem_map.mp hx
    exact ⟨Int.emod_nonneg _ (by omega), Int.emod_lt_of_pos _ hs⟩
  · unfold redW at h1
    rw [List.getElem?_map, Option.map_eq_some_iff] at h1
    obtain ⟨u, hu, rfl⟩ := h1
    have hi : i < ss.length := (List.getElem?_eq_some_iff.mp h2).1
    have h3 := hL.odd i hi
    rw [getD_getD, hu, getD_getD, h2, Option.getD_some, Option.getD_some] at h3
    obtain ⟨v, rfl⟩ := g3 u (List.mem_of_getElem? hu)
    have hos := oddI_dvd (z.pos s (List.mem_of_getElem? h2))
    rw [Int.mul_ediv_cancel_left _ (by omega : gcdW m w ≠ 0)]
    have h4 : gcdW m w * smallW m w ∣ gcdW m w * (v * oddI s) := by rw [← hms, ← Int.mul_assoc]; exact h3
    have h5 := Int.dvd_of_mul_dvd_mul_left (by omega : gcdW m w ≠ 0) h4
    have h6 : smallW m w ∣ v * s := Int.dvd_trans h5 (Int.mul_dvd_mul (Int.dvd_refl _) hos)
    have h7 := Int.dvd_iff_emod_eq_zero.mp h6
    rw [Int.mul_emod] at h7
    rw [Int.mul_emod, Int.emod_emod_of_dvd _ (Int.dvd_refl _), h7]

/-! ### words of directions, one step by a word -/
section
variable {P : Program} {w : World} {K : PySem.W.Frag} {mg : Str → Option Value} {base : Heap}
/-- the word of a direction -/
def offW (b : Bool) : Str := if b then "backward" else "forward"
/-- one step of a move, forward (1) or backward (-1) -/
def sgn (b : Bool) : Int := if b then -1 else 1
def mvW (b : Bool) (ps cs ss : List Int) : List Int := if b then mv bw ps cs ss else mv fw ps cs ss
theorem mvW_get {b : Bool} {ps cs ss : List Int} {i : Nat} {p c s : Int} (h1 : ps[i]? = some p) (h2 : cs[i]? = some c) (h3 : ss[i]? = some s) : (mvW b ps cs ss)[i]? = some ((p + sgn b * c) % s) := by
  cases b with
  | true =>
    show (mv bw ps cs ss)[i]? = _
    rw [mv_get h1 h2 h3]
    show some ((p - c) % s) = some ((p + -1 * c) % s)
    congr 2
    omega
  | false =>
    show (mv fw ps cs ss)[i]? = _
    rw [mv_get h1 h2 h3]
    show some ((p + c) % s) = some ((p + 1 * c) % s)
    congr 2
    omega
theorem mvW_len {b : Bool} {ps cs ss : List Int} (h1 : ps.length = ss.length) (h2 : cs.length = ss.length) : (mvW b ps cs ss).length = ss.length := by
  cases b with
  | true => show (mv bw ps cs ss).length = _; rw [mv_len (by rw [h1, h2]) h2, h1]
  | false => show (mv fw ps cs ss).length = _; rw [mv_len (by rw [h1, h2]) h2, h1]
theorem mv_seatW {g : Int → Int → Int} : ∀ {ps cs ss : List Int}, ps.length = ss.length → cs.length = ss.length → (∀ s ∈ ss, 1 ≤ s) → Seat ss (mv g ps cs ss) := fun {ps cs ss} h1 h2 h3 =>
  ⟨by rw [mv_len (by rw [h1, h2]) h2, h1], fun i p s hp hs => by
    have hi : i < ss.length := (List.getElem?_eq_some_iff.mp hs).1
    rw [mv_get (List.getElem?_eq_getElem (by omega)) (List.getElem?_eq_getElem (by omega)) hs] at hp
    obtain rfl := Option.some.inj hp
    have := h3 s (List.mem_of_getElem? hs)
    exact ⟨Int.emod_nonneg _ (by omega), Int.emod_lt_of_pos _ (by omega)⟩⟩
theorem mvW_seat {b : Bool} {ps cs ss : List Int} (h1 : ps.length = ss.length) (h2 : cs.length = ss.length) (h3 : ∀ s ∈ ss, 1 ≤ s) : Seat ss (mvW b ps cs ss) := by
  cases b with
  | true => exact mv_seatW h1 h2 h3
  | false => exact mv_seatW h1 h2 h3
theorem offW_or (b : Bool) : offW b = "forward" ∨ offW b = "backward" := by cases b <;> simp [offW]
theorem step_off (b : Bool) (ps cs ss : List Int) : mv (if offW b = "forward" then fw else bw) ps cs ss = mvW b ps cs ss := by
  cases b with
  | true =>
    have e : ¬ (offW true = ("forward" : Str)) := by decide +kernel
    rw [if_neg e]
    rfl
  | false =>
    have e : offW false = ("forward" : Str) := rfl
    rw [if_pos e]
    rfl
theorem offW_dir {K : PySem.W.Frag} {H : Hp} (b : Bool) : DirB K H (.str (offW b)) true := .inr ⟨offW b, rfl, by cases b <;> decide +kernel⟩
end

theorem seat_cons {s p : Int} {ss ps : List Int} (h : Seat (s :: ss) (p :: ps)) : (0 ≤ p ∧ p < s) ∧ Seat ss ps :=
  ⟨h.ok 0 p s rfl rfl, by simpa using h.len, fun i q t hq ht => h.ok (i + 1) q t hq ht⟩
theorem Seat.cons {s p : Int} {ss ps : List Int} (h1 : 0 ≤ p) (h2 : p < s) (h : Seat ss ps) : Seat (s :: ss) (p :: ps) :=
  ⟨by simp [h.len], fun i q t hq ht => by
    cases i with
    | zero =>
      obtain rfl := Option.some.inj hq
      obtain rfl := Option.some.inj ht
      exact ⟨h1, h2⟩
    | succ i => exact h.ok i q t hq ht⟩
theorem Seat.nil : Seat [] [] := ⟨rfl, fun i q t h _ => by simp at h⟩
theorem mv_seat {g : Int → Int → Int} : ∀ {ps cs ss : List Int}, ps.length = ss.length → cs.length = ss.length → (∀ s ∈ ss, 1 ≤ s) → Seat ss (mv g ps cs ss)
  | [], [], [], _, _, _ => .nil
  | _ :: _, _, [], h, _, _ => by simp at h
  | [], _, _ :: _, h, _, _ => by simp at h
  | _, [], _ :: _, _, h, _ => by simp at h
  | _, _ :: _, [], _, h, _ => by simp at h
  | p :: ps, c :: cs, s :: ss, h1, h2, h3 => by
    have hs := h3 s (List.mem_cons_self ..)
    exact .cons (Int.emod_nonneg _ (by omega)) (Int.emod_lt_of_pos _ (by omega)) (mv_seat (by simpa using h1) (by simpa using h2) fun t ht => h3 t (List.mem_cons_of_mem _ ht))

/-! ### tuples that stay, lists of tuples and of moves -/
section
variable {P : Program} {w : World} {K : PySem.W.Frag} {mg : Str → Option Value} {base : Heap}
/-- all tuples stay -/
def Tp (H H' : Hp) : Prop := ∀ b xs, H b = some (.tup xs) → H' b = some (.tup xs)
theorem Tp.of {H H' : Hp} (s : Same H H') : Tp H H' := fun b xs h => s _ _ h
theorem Tp.trans {H H1 H2 : Hp} (s : Tp H H1) (t : Tp H1 H2) : Tp H H2 := fun b xs h => t _ _ (s _ _ h)
theorem Tp.sx {a : Addr} {H H' : Hp} {o : HO} (s : Sx a H H') (ha : H a = some o) (ho : ∀ xs, o ≠ .tup xs) : Tp H H' := fun b xs h => s _ _ (ne_two h ha fun e => ho _ e.symm) h
theorem Tp.put {a : Addr} {H : Hp} {o u : HO} (ha : H a = some o) (ho : ∀ xs, o ≠ .tup xs) : Tp H (upd H a u) := fun b xs h => by rw [upd_ne (ne_two h ha fun e => ho _ e.symm)]; exact h
theorem _root_.Cs.AsT.tp {H H' : Hp} {as : List Addr} {hs : List (List Int)} (h : AsT H as hs) (s : Tp H H') : AsT H' as hs := ⟨h.1, fun i t g h1 h2 => s _ _ (h.2 i t g h1 h2)⟩
theorem _root_.Cs.Sqh.sxi {k : Bool} {a g C dx : Addr} {fs : List (Str × V)} {H H' : Hp} {xs : List V} (h : Sqh k H g xs) (ha : H a = some (.ins C dx fs)) (s : Sx a H H') : Sqh k H' g xs := by
  cases k with
  | true => exact s _ _ (ne_two (show H g = some (.lst xs) from h) ha (by simp)) h
  | false => exact s _ _ (ne_two (show H g = some (.tup xs) from h) ha (by simp)) h
theorem Tp.sxi {a C dx : Addr} {fs : List (Str × V)} {H H' : Hp} (ha : H a = some (.ins C dx fs)) (s : Sx a H H') : Tp H H' := Tp.sx s ha (by simp)
/-- one more at the end of a list of tuples -/
theorem _root_.Cs.LstT.push {H : Hp} {D t : Addr} {L : List (List Int)} {gs : List Int} (h : LstT H D L) (ht : H t = some (.tup (gs.map V.int))) : ∃ as : List Addr, H D = some (.lst (as.map V.ref)) ∧ as.length = L.length ∧ LstT (upd H D (.lst (as.map V.ref ++ [V.ref t]))) D (L ++ [gs]) := by
  obtain ⟨as, h1, h2⟩ := h
  refine ⟨as, h1, h2.1, as ++ [t], by rw [upd_same, List.map_append]; rfl, ?_⟩
  exact (h2.tp (Tp.put h1 (by simp))).snoc (by rw [upd_ne (ne_two ht h1 (by simp))]; exact ht)
/-- moves mv at the addresses ms -/
def AsM (H : Hp) (ms : List Addr) (mv : List (List Int × Bool)) : Prop := ms.length = mv.length ∧ ∀ (i : Nat) m c, ms[i]? = some m → mv[i]? = some c → ∃ p, H m = some (.tup [.ref p, .str (offW c.2)]) ∧ H p = some (.tup (c.1.map V.int))
theorem AsM.tp {H H' : Hp} {ms : List Addr} {mv : List (List Int × Bool)} (h : AsM H ms mv) (s : Tp H H') : AsM H' ms mv := ⟨h.1, fun i m c h1 h2 => by
  obtain ⟨p, h3, h4⟩ := h.2 i m c h1 h2
  exact ⟨p, s _ _ h3, s _ _ h4⟩⟩
theorem AsM.same {H H' : Hp} {ms : List Addr} {mv : List (List Int × Bool)} (s : Same H H') (h : AsM H ms mv) : AsM H' ms mv := h.tp (Tp.of s)
def MovAt (k : Bool) (H : Hp) (a : Addr) (mv : List (List Int × Bool)) : Prop := ∃ ms : List Addr, Sqh k H a (ms.map V.ref) ∧ AsM H ms mv
theorem MovAt.same {k : Bool} {H H' : Hp} {a : Addr} {mv : List (List Int × Bool)} (s : Same H H') (h : MovAt k H a mv) : MovAt k H' a mv := by
  obtain ⟨ms, h1, h2⟩ := h
  exact ⟨ms, h1.same s, h2.same s⟩
theorem AsM.snoc {H : Hp} {ms : List Addr} {mv : List (List Int × Bool)} {m p : Addr} {cs : List Int} {b : Bool} (h : AsM H ms mv) (hm : H m = some (.tup [.ref p, .str (offW b)])) (hp : H p = some (.tup (cs.map V.int))) : AsM H (ms ++ [m]) (mv ++ [(cs, b)]) := by
  refine ⟨by rw [List.length_append, List.length_append, h.1]; rfl, fun i u c h1 h2 => ?_⟩
  by_cases hlt : i < ms.length
  · rw [List.getElem?_append_left hlt] at h1
    rw [List.getElem?_append_left (by rw [← h.1]; exact hlt)] at h2
    exact h.2 i u c h1 h2
  · rw [List.getElem?_append_right (by omega)] at h1
    rw [List.getElem?_append_right (by rw [← h.1]; omega), ← h.1] at h2
    cases hk : i - ms.length with
    | zero =>
      rw [hk] at h1 h2
      simp only [List.getElem?_cons_zero, Option.some.injEq] at h1 h2
      rw [← h1, ← h2]
      exact ⟨p, hm, hp⟩
    | succ m => rw [hk] at h1; simp at h1
theorem MovAt.push {H : Hp} {D m p : Addr} {mv : List (List Int × Bool)} {cs : List Int} {b : Bool} (h : MovAt true H D mv) (hm : H m = some (.tup [.ref p, .str (offW b)])) (hp : H p = some (.tup (cs.map V.int))) :
    ∃ ms : List Addr, H D = some (.lst (ms.map V.ref)) ∧ ms.length = mv.length ∧ MovAt true (upd H D (.lst (ms.map V.ref ++ [V.ref m]))) D (mv ++ [(cs, b)]) := by
  obtain ⟨ms, h1, h2⟩ := h
  have h1 : H D = some (.lst (ms.map V.ref)) := h1
  refine ⟨ms, h1, h2.1, ms ++ [m], by show _ = some (HO.lst _); rw [upd_same, List.map_append]; rfl, ?_⟩
  exact (h2.tp (Tp.put h1 (by simp))).snoc (by rw [upd_ne (ne_two hm h1 (by simp))]; exact hm) (by rw [upd_ne (ne_two hp h1 (by simp))]; exact hp)
theorem eqD_tups' {K : PySem.W.Frag} {H : Hp} {a b : Addr} {hss : List (List Int)} {Q : VK} (h1 : LstT H a hss) (h2 : LstT H b hss) (q : Q (.bl true) H) : rEqD K (.ref a) (.ref b) H Q :=
  ⟨_, _, dp_lstT h1, dp_lstT h2, shaped_tups _, shaped_tups _, by rw [show PyData.eqv (.list (hss.map tupI)) (.list (hss.map tupI)) = decide (hss = hss) from eqv_tups hss hss, decide_eq_true rfl]; exact q⟩
end

/-! ### seats, indexes and numbers, without the program -/
section
variable {P : Program} {w : World} {K : PySem.W.Frag} {mg : Str → Option Value} {base : Heap}
theorem ixo_snoc {s d : Nat} : ∀ {ps ds : List Nat}, ds.length = ps.length → ixo (ps ++ [s]) (ds ++ [d]) = ixo ps ds * s + d
  | [], [], _ => by show d * 1 + 0 = 0 * s + d; omega
  | p :: ps, x :: ds, h => by
    have ih := ixo_snoc (s := s) (d := d) (ps := ps) (ds := ds) (by simpa using h)
    show x * cnt (ps ++ [s]) + ixo (ps ++ [s]) (ds ++ [d]) = (x * cnt ps + ixo ps ds) * s + d
    rw [ih, cnt_snoc, Nat.add_mul, Nat.mul_assoc]
    omega
  | [], _ :: _, h => by simp at h
  | _ :: _, [], h => by simp at h
theorem dg_take {m : Nat} {ss ds : List Nat} (h : Dg m ss ds) : ∀ i, Dg m (ss.take i) (ds.take i) := by
  induction h with
  | nil => intro i; rw [List.take_nil]; exact .nil
  | @cons s d ss ds h _ ih =>
    intro i
    cases i with
    | zero => exact .nil
    | succ i => exact .cons h (ih i)
def iN (l : List Nat) : List Int := l.map fun (n : Nat) => ((n : Nat) : Int)
def iS (ss : List Nat) (i : Nat) : List Int := iN (stt ss i)
theorem seats_rng (ss : List Nat) : seatsF ss = (List.range (cnt ss)).map (stt ss) := by
  refine List.ext_getElem? fun i => ?_
  rw [List.getElem?_map]
  by_cases hi : i < cnt ss
  · rw [(stt_ok hi).2.2, List.getElem?_range hi]; rfl
  · rw [List.getElem?_eq_none (by rw [seatsF_len]; omega), List.getElem?_eq_none (by rw [List.length_range]; omega)]; rfl
theorem cho_seats : ∀ (ss : List Nat) (xs : List (List Int)), (ss.map fun s => iN (List.range s)).foldl choF xs = xs.flatMap fun x => (seatsF ss).map fun ds => x ++ iN ds
  | [], xs => by simp [seatsF, iN]
  | s :: ss, xs => by
    rw [List.map_cons, List.foldl_cons, cho_seats ss]
    unfold choF
    rw [List.flatMap_assoc]
    congr 1
    funext x
    simp only [seatsF, List.map_flatMap, List.flatMap_map, List.map_map, iN]
    congr 1
    funext d
    congr 1
    funext ds
    simp
theorem cho_iS (ss : List Nat) : choI (ss.map fun s => iN (List.range s)) = (List.range (cnt ss)).map (iS ss) := by
  unfold choI
  rw [cho_seats, seats_rng]
  simp only [List.flatMap_cons, List.flatMap_nil, List.append_nil, List.nil_append, List.map_map]
  rfl
theorem mem_cnt {s : Nat} : ∀ {ss : List Nat}, (∀ s ∈ ss, 1 ≤ s) → s ∈ ss → s ≤ cnt ss
  | [], _, h => by cases h
  | t :: ss, hp, hs => by
    have h1 : 1 ≤ cnt ss := (cnt_take (fun x hx => hp x (List.mem_cons_of_mem _ hx)) 0).1
    have ht := hp t (List.mem_cons_self ..)
    rcases List.mem_cons.mp hs with rfl | hs
    · exact Nat.le_mul_of_pos_right _ h1
    · have := mem_cnt (fun x hx => hp x (List.mem_cons_of_mem _ hx)) hs
      exact Nat.le_trans this (Nat.le_mul_of_pos_left _ ht)
def kS (ps : List Int) : List Key := ps.map Sum.inl
theorem kS_kV (ps : List Int) : (kS ps).map kV = ps.map V.int := by unfold kS; rw [List.map_map]; rfl
theorem kS_inj {a b : List Int} (h : kS a = kS b) : a = b := by
  unfold kS at h
  exact (List.map_inj_right fun x y e => Sum.inl.inj e).mp h
theorem iN_inj {a b : List Nat} (h : iN a = iN b) : a = b := List.map_inj_right (fun x y e => Int.ofNat.inj e) |>.mp h
theorem iS_inj {ss : List Nat} {i j : Nat} (hi : i < cnt ss) (hj : j < cnt ss) (h : iS ss i = iS ss j) : i = j := by
  have := iN_inj h
  rw [← (stt_ok hi).2.1, ← (stt_ok hj).2.1, this]
end
/-! ### numbers of seats -/
section
variable {P : Program} {w : World} {K : PySem.W.Frag} {mg : Str → Option Value} {base : Heap}
def lvl (ss : List Nat) (U : Nat → Bool) (i : Nat) : Option Nat := (List.range (cnt ss)).find? fun n => Un ss U n i
def oV (o : Option Nat) : V := match o with | none => .non | some n => .int (n : Nat)
theorem un_none {ss : List Nat} {U : Nat → Bool} (h : Rn ss U 0 = []) : ∀ n i, i < Cs.cnt ss → Un ss U n i = false
  | 0, i, hi => by
    cases e : Un ss U 0 i with
    | false => rfl
    | true =>
      have : i ∈ Rn ss U 0 := mem_Rn.mpr ⟨hi, e, fun m hm => absurd hm (Nat.not_lt_zero _)⟩
      rw [h] at this
      cases this
  | n + 1, i, hi => by
    cases e : Un ss U (n + 1) i with
    | false => rfl
    | true =>
      obtain ⟨j, hj, h1, _⟩ := un_succ.mp e
      rw [un_none h n j hj] at h1
      cases h1
theorem un_row {ss : List Nat} {U : Nat → Bool} {n x : Nat} (hx : x < Cs.cnt ss) (h : Un ss U n x = true) (hm : ∀ m, m < n → Un ss U m x = false) : ∀ m, m < n + 1 → Rn ss U m ≠ [] := fun m hmn e => by
  cases m with
  | zero =>
    rw [un_none e n x hx] at h
    cases h
  | succ m =>
    have hst : ∀ i, i < Cs.cnt ss → Un ss U (m + 1) i = true → Un ss U m i = true := fun i hi hu => by
      cases e2 : Un ss U m i with
      | true => rfl
      | false =>
        have : i ∈ Rn ss U (m + 1) := mem_Rn.mpr ⟨hi, hu, fun k hk => by
          cases e3 : Un ss U k i with
          | false => rfl
          | true => rw [un_le hi (by omega) e3] at e2; cases e2⟩
        rw [e] at this
        cases this
    have := un_stable (n := m) (m := n) hst (by omega) hx h
    rw [hm m (by omega)] at this
    cases this
theorem un_few {ss : List Nat} {U : Nat → Bool} {n x : Nat} (hx : x < Cs.cnt ss) (h : Un ss U n x = true) (hm : ∀ m, m < n → Un ss U m x = false) : n < Cs.cnt ss := by
  have h1 := lev_few (ss := ss) (T := U) (n := n) fun m hmn => un_row hx h hm m (by omega)
  have h2 : (Kn ss U n).length ≤ Cs.cnt ss := by unfold Kn; exact Nat.le_trans (List.length_filter_le _ _) (by rw [List.length_range]; exact Nat.le_refl _)
  omega
theorem lvl_some {ss : List Nat} {U : Nat → Bool} {n x : Nat} (hx : x < Cs.cnt ss) : lvl ss U x = some n ↔ Un ss U n x = true ∧ ∀ m, m < n → Un ss U m x = false := by
  unfold lvl
  constructor
  · intro h
    obtain ⟨h1, i, hi, e, h2⟩ := List.find?_eq_some_iff_getElem.mp h
    rw [List.length_range] at hi
    have e : (List.range (Cs.cnt ss))[i]'(by rw [List.length_range]; exact hi) = n := e
    rw [List.getElem_range] at e
    subst e
    refine ⟨by simpa using h1, fun m hm => ?_⟩
    have := h2 m hm
    rw [List.getElem_range] at this
    simpa using this
  · rintro ⟨h1, h2⟩
    have hn := un_few hx h1 h2
    refine List.find?_eq_some_iff_getElem.mpr ⟨by simpa using h1, n, by rw [List.length_range]; exact hn, by rw [List.getElem_range], fun j hj => ?_⟩
    rw [List.getElem_range]
    have := h2 j hj
    simp [this]
theorem lvl_none {ss : List Nat} {U : Nat → Bool} {x : Nat} (h : ∀ n, Un ss U n x = false) : lvl ss U x = none := by
  unfold lvl
  exact List.find?_eq_none.mpr fun n _ => by rw [h n]; simp
theorem numOf_lvl {ss : List Nat} {U : Nat → Bool} {x : Nat} {v : V} (hx : x < Cs.cnt ss) (h : NumOf ss U x v) : v = oV (lvl ss U x) := by
  rcases h with ⟨n, rfl, h1, h2⟩ | ⟨rfl, h⟩
  · rw [(lvl_some hx).mpr ⟨h1, h2⟩]
    rfl
  · rw [lvl_none h]
    rfl
end
/-! ### seats as tuples of integers, their numbers -/
section
def toN (l : List Int) : List Nat := l.map Int.toNat
theorem iN_toN {l : List Int} (h : ∀ x ∈ l, 0 ≤ x) : iN (toN l) = l := by
  unfold iN toN
  rw [List.map_map]
  refine Eq.trans (List.map_congr_left fun x hx => ?_) (List.map_id _)
  show ((x.toNat : Nat) : Int) = x
  exact Int.toNat_of_nonneg (h x hx)
theorem toN_iN (l : List Nat) : toN (iN l) = l := by
  unfold iN toN
  rw [List.map_map]
  exact Eq.trans (List.map_congr_left fun x hx => Int.toNat_natCast x) (List.map_id _)
theorem seat_nn {ss p : List Int} (h : Seat ss p) : ∀ x ∈ p, 0 ≤ x := fun x hx => by
  obtain ⟨i, hi⟩ := List.mem_iff_getElem?.mp hx
  have hl := (List.getElem?_eq_some_iff.mp hi).1
  exact (h.ok i x _ hi (List.getElem?_eq_getElem (by rw [← h.len]; exact hl))).1
theorem seat_dg : ∀ {ss p : List Int}, Seat ss p → Dg 1 (toN ss) (toN p)
  | [], [], _ => .nil
  | [], _ :: _, h => by have := h.len; simp at this
  | _ :: _, [], h => by have := h.len; simp at this
  | s :: ss, x :: p, h => by
    obtain ⟨⟨h1, h2⟩, h3⟩ := seat_cons h
    exact .cons (by omega) (seat_dg h3)
/-- the index of a seat -/
def ix (ss p : List Int) : Nat := ixo (toN ss) (toN p)
theorem ix_lt {ss p : List Int} (h : Seat ss p) : ix ss p < cnt (toN ss) := (ixo_at (seat_dg h)).1
theorem iS_ix {ss p : List Int} (h : Seat ss p) : iS (toN ss) (ix ss p) = p := by
  unfold iS ix
  rw [stt_ixo (seat_dg h), iN_toN (seat_nn h)]
theorem ix_inj {ss p q : List Int} (h : Seat ss p) (g : Seat ss q) (e : ix ss p = ix ss q) : p = q := by
  rw [← iS_ix h, e, iS_ix g]
theorem cnt_prod : ∀ {ss : List Int}, (∀ s ∈ ss, 1 ≤ s) → ((cnt (toN ss) : Nat) : Int) = prodI ss := fun {ss} h => by
  have key : ∀ (ss : List Int) (c : Int), (∀ s ∈ ss, 1 ≤ s) → ss.foldl (fun a b => a * b) c = c * ((cnt (toN ss) : Nat) : Int) := fun ss => by
    induction ss with
    | nil => intro c _; show c = c * ((1 : Nat) : Int); omega
    | cons s ss ih =>
      intro c h
      rw [List.foldl_cons, ih _ fun x hx => h x (List.mem_cons_of_mem _ hx)]
      show c * s * _ = c * (((s.toNat * cnt (toN ss) : Nat)) : Int)
      have := h s (List.mem_cons_self ..)
      rw [Int.natCast_mul, Int.toNat_of_nonneg (by omega), Int.mul_assoc]
  have := key ss 1 h
  rw [Int.one_mul] at this
  rw [← this]
  rfl
theorem smS_of {ss : List Int} (z : Sz ss) (h : prodI ss ≤ 2000) : SmS (toN ss) := by
  refine ⟨by unfold toN; rw [List.length_map]; exact z.hi, fun s hs => ?_, ?_⟩
  · obtain ⟨n, hn, rfl⟩ := List.mem_map.mp hs
    have := z.pos n hn
    omega
  · have := cnt_prod z.pos
    omega
theorem sz_nn {ss : List Int} (z : Sz ss) : iN (toN ss) = ss := iN_toN fun x hx => by have := z.pos x hx; omega
def ixs (ss : List Int) (gs : List (List Int)) : List Nat := gs.map (ix ss)
theorem iS_ixs {ss : List Int} {gs : List (List Int)} (h : ∀ g ∈ gs, Seat ss g) : (ixs ss gs).map (iS (toN ss)) = gs := by
  unfold ixs
  rw [List.map_map]
  exact Eq.trans (List.map_congr_left fun x hx => iS_ix (h x hx)) (List.map_id _)
theorem ixs_ok {ss : List Int} {gs : List (List Int)} (h : Tgts ss gs) : ixs ss gs ≠ [] ∧ (ixs ss gs).Nodup ∧ ∀ n ∈ ixs ss gs, n < cnt (toN ss) := by
  refine ⟨fun e => h.ne (List.map_eq_nil_iff.mp e), ?_, fun n hn => ?_⟩
  · have key : ∀ gs : List (List Int), gs.Nodup → (∀ g ∈ gs, Seat ss g) → (gs.map (ix ss)).Nodup := fun gs => by
      induction gs with
      | nil => intro _ _; exact List.nodup_nil
      | cons g gs ih =>
        intro h1 h2
        obtain ⟨h3, h4⟩ := List.nodup_cons.mp h1
        refine List.nodup_cons.mpr ⟨fun hm => ?_, ih h4 fun x hx => h2 x (List.mem_cons_of_mem _ hx)⟩
        obtain ⟨x, hx, e⟩ := List.mem_map.mp hm
        rw [ix_inj (h2 x (List.mem_cons_of_mem _ hx)) (h2 g (List.mem_cons_self ..)) e] at hx
        exact h3 hx
    exact key gs h.nd h.ok
  · obtain ⟨g, hg, rfl⟩ := List.mem_map.mp hn
    exact ix_lt (h.ok g hg)
/-- the number of a seat -/
def lev (ss : List Int) (gs : List (List Int)) (p : List Int) : Option Nat := lvl (toN ss) (tgB (ixs ss gs)) (ix ss p)
end
section
structure Tab (ss : List Int) (gs : List (List Int)) : Prop where
  z : Sz ss
  few : prodI ss ≤ 300
  tg : Tgts ss gs
end

/-! ### games that are the same up to names -/
section
def MidL : List Int → List Int → List Int → List Int → Prop
  | [], [], [], [] => True
  | s :: ss, p :: ps, a :: as, b :: bs => s ∣ a + b - 2 * p ∧ MidL ss ps as bs
  | _, _, _, _ => False
theorem dvd_smod (a n : Int) : n ∣ a % n - a := ⟨-(a / n), by rw [Int.emod_def, Int.mul_neg]; omega⟩
theorem prt_mid : ∀ {ss p a b : List Int}, (∀ s ∈ ss, 1 ≤ s) → Seat ss p → Seat ss a → Seat ss b → (MidL ss p a b ↔ prt (toN ss) (toN p) (toN a) = toN b)
  | [], [], [], [], _, _, _, _ => ⟨fun _ => rfl, fun _ => trivial⟩
  | s :: ss, p :: ps, a :: as, b :: bs, hs, h1, h2, h3 => by
    obtain ⟨⟨p0, p1⟩, hp⟩ := seat_cons h1
    obtain ⟨⟨a0, a1⟩, ha⟩ := seat_cons h2
    obtain ⟨⟨b0, b1⟩, hb⟩ := seat_cons h3
    have ih := prt_mid (fun x hx => hs x (List.mem_cons_of_mem _ hx)) hp ha hb
    have hs1 := hs s (List.mem_cons_self ..)
    show s ∣ a + b - 2 * p ∧ MidL ss ps as bs ↔ (2 * p.toNat % s.toNat + (s.toNat - a.toNat)) % s.toNat :: prt (toN ss) (toN ps) (toN as) = b.toNat :: toN bs
    rw [ih, List.cons.injEq]
    refine and_congr_left fun _ => ?_
    have e : (((2 * p.toNat % s.toNat + (s.toNat - a.toNat)) % s.toNat : Nat) : Int) = (2 * p - a) % s := by
      rw [Int.natCast_emod, Int.natCast_add, Int.natCast_emod, Int.natCast_mul, Int.natCast_sub (by omega), Int.toNat_of_nonneg p0, Int.toNat_of_nonneg a0, Int.toNat_of_nonneg (by omega : 0 ≤ s), Int.emod_add_emod, show ((2 : Nat) : Int) * p + (s - a) = (2 * p - a) + s by omega, Int.add_emod_right]
    constructor
    · rintro ⟨k, hk⟩
      have : ((2 * p - a) % s) = b := by
        rw [show 2 * p - a = b + s * (-k) by rw [Int.mul_neg, ← hk]; omega, Int.add_mul_emod_self_left, Int.emod_eq_of_lt b0 b1]
      omega
    · intro h
      have : ((2 * p - a) % s) = b := by omega
      have h2 := dvd_smod (2 * p - a) s
      rw [this] at h2
      rwa [show b - (2 * p - a) = a + b - 2 * p by omega] at h2
  | [], _ :: _, _, _, _, h, _, _ => by have := h.len; simp at this
  | [], [], _ :: _, _, _, _, h, _ => by have := h.len; simp at this
  | [], [], [], _ :: _, _, _, _, h => by have := h.len; simp at this
  | _ :: _, [], _, _, _, h, _, _ => by have := h.len; simp at this
  | _ :: _, _ :: _, [], _, _, _, h, _ => by have := h.len; simp at this
  | _ :: _, _ :: _, _ :: _, [], _, _, _, h => by have := h.len; simp at this
theorem dg_seat : ∀ {ss : List Int} {d : List Nat}, (∀ s ∈ ss, 1 ≤ s) → Dg 1 (toN ss) d → Seat ss (iN d)
  | [], _, _, h => by cases h; exact .nil
  | s :: ss, _, hs, h => by
    cases h with
    | @cons _ d _ ds h hd =>
      have := hs s (List.mem_cons_self ..)
      exact .cons (by show 0 ≤ ((d : Nat) : Int); omega) (by show ((d : Nat) : Int) < s; omega) (dg_seat (fun x hx => hs x (List.mem_cons_of_mem _ hx)) hd)
theorem un_mid {ss p : List Int} {T : Nat → Bool} {n : Nat} (hs : ∀ s ∈ ss, 1 ≤ s) (hp : Seat ss p) : Un (toN ss) T (n + 1) (ix ss p) = true ↔ ∃ a b, Seat ss a ∧ Seat ss b ∧ MidL ss p a b ∧ Un (toN ss) T n (ix ss a) = true ∧ Un (toN ss) T n (ix ss b) = true := by
  rw [un_succ]
  have px : ∀ {a : List Int}, Seat ss a → prx (toN ss) (ix ss p) (ix ss a) = ixo (toN ss) (prt (toN ss) (toN p) (toN a)) := fun {a} ha => by
    unfold prx ix
    rw [stt_ixo (seat_dg hp), stt_ixo (seat_dg ha)]
  constructor
  · rintro ⟨i, hi, h1, h2⟩
    obtain ⟨d1, d2, _⟩ := stt_ok hi
    have ha := dg_seat hs d1
    have hix : ix ss (iN (stt (toN ss) i)) = i := by unfold ix; rw [toN_iN, d2]
    have hd := prt_dg (seat_dg hp) d1
    have hb := dg_seat hs hd
    have e := px ha
    rw [hix, toN_iN] at e
    refine ⟨iN (stt (toN ss) i), iN (prt (toN ss) (toN p) (stt (toN ss) i)), ha, hb, (prt_mid hs hp ha hb).mpr (by rw [toN_iN, toN_iN]), by rw [hix]; exact h1, ?_⟩
    rw [e] at h2
    unfold ix
    rw [toN_iN]
    exact h2
  · rintro ⟨a, b, ha, hb, hm, h1, h2⟩
    refine ⟨ix ss a, ix_lt ha, h1, ?_⟩
    rw [px ha, (prt_mid hs hp ha hb).mp hm]
    exact h2
/-- a renaming of seats that keeps middles -/
structure Iso (ss ss' : List Int) (F : List Int → List Int) : Prop where
  pos : ∀ s ∈ ss, 1 ≤ s
  pos' : ∀ s ∈ ss', 1 ≤ s
  cnt : cnt (toN ss') = cnt (toN ss)
  seat : ∀ p, Seat ss p → Seat ss' (F p)
  inj : ∀ p q, Seat ss p → Seat ss q → F p = F q → p = q
  sur : ∀ q, Seat ss' q → ∃ p, Seat ss p ∧ F p = q
  mid : ∀ p a b, Seat ss p → Seat ss a → Seat ss b → (MidL ss p a b ↔ MidL ss' (F p) (F a) (F b))
theorem tgB_ix {ss p : List Int} {gs : List (List Int)} (hg : ∀ g ∈ gs, Seat ss g) (hp : Seat ss p) : tgB (ixs ss gs) (ix ss p) = true ↔ p ∈ gs := by
  unfold tgB ixs
  rw [decide_eq_true_eq, List.mem_map]
  constructor
  · rintro ⟨g, h1, h2⟩
    rw [← ix_inj (hg g h1) hp h2]
    exact h1
  · intro h
    exact ⟨p, h, rfl⟩
theorem Iso.un {ss ss' : List Int} {F : List Int → List Int} (I : Iso ss ss' F) {gs gs' : List (List Int)} (hg : ∀ g ∈ gs, Seat ss g) (hg' : ∀ g ∈ gs', Seat ss' g) (hm : ∀ p, Seat ss p → (F p ∈ gs' ↔ p ∈ gs)) : ∀ (n : Nat) (p : List Int), Seat ss p → (Un (toN ss') (tgB (ixs ss' gs')) n (ix ss' (F p)) = true ↔ Un (toN ss) (tgB (ixs ss gs)) n (ix ss p) = true)
  | 0, p, hp => by
    show tgB _ _ = true ↔ tgB _ _ = true
    rw [tgB_ix hg hp, tgB_ix hg' (I.seat p hp), hm p hp]
  | n + 1, p, hp => by
    rw [un_mid I.pos hp, un_mid I.pos' (I.seat p hp)]
    constructor
    · rintro ⟨a', b', ha', hb', h1, h2, h3⟩
      obtain ⟨a, ha, rfl⟩ := I.sur a' ha'
      obtain ⟨b, hb, rfl⟩ := I.sur b' hb'
      exact ⟨a, b, ha, hb, (I.mid p a b hp ha hb).mpr h1, (I.un hg hg' hm n a ha).mp h2, (I.un hg hg' hm n b hb).mp h3⟩
    · rintro ⟨a, b, ha, hb, h1, h2, h3⟩
      exact ⟨F a, F b, I.seat a ha, I.seat b hb, (I.mid p a b hp ha hb).mp h1, (I.un hg hg' hm n a ha).mpr h2, (I.un hg hg' hm n b hb).mpr h3⟩
theorem Iso.lev {ss ss' : List Int} {F : List Int → List Int} (I : Iso ss ss' F) {gs gs' : List (List Int)} (hg : ∀ g ∈ gs, Seat ss g) (hg' : ∀ g ∈ gs', Seat ss' g) (hm : ∀ p, Seat ss p → (F p ∈ gs' ↔ p ∈ gs)) {p : List Int} (hp : Seat ss p) : Lw.lev ss' gs' (F p) = Lw.lev ss gs p := by
  unfold Lw.lev lvl
  rw [I.cnt]
  congr 1
  funext n
  have := I.un hg hg' hm n p hp
  cases h1 : Un (toN ss') (tgB (ixs ss' gs')) n (ix ss' (F p)) <;> cases h2 : Un (toN ss) (tgB (ixs ss gs)) n (ix ss p) <;> simp_all
end

/-! ### witnesses in the program -/
section
variable {P : Program} {w : World} {K : PySem.W.Frag} {mg : Str → Option Value} {base : Heap}
/-- a witness at sh -/
def ShAt (H : Hp) (sh : Addr) (m : Int) (ws : List Int) (r : Int) : Prop := ∃ u, H sh = some (.tup [.int m, .ref u, .int r]) ∧ H u = some (.tup (ws.map V.int))
theorem ShAt.same {H H' : Hp} {sh : Addr} {m : Int} {ws : List Int} {r : Int} (e : Same H H') (h : ShAt H sh m ws r) : ShAt H' sh m ws r := by
  obtain ⟨u, h1, h2⟩ := h
  exact ⟨u, e _ _ h1, e _ _ h2⟩
theorem mul_seat {ss ws ps : List Int} {m r : Int} (hw : Wit ss m ws r) (z : Sz ss) (hmb : m.natAbs < 2 ^ 8000) (h : Seat ss ps) : ∀ (i : Nat) x y, ws[i]? = some x → ps[i]? = some y → CMulA x y := fun i x y hx hy => by
  have h1 := hw.rng _ (List.mem_of_getElem? hx)
  have hi : i < ss.length := by rw [← hw.len]; exact (List.getElem?_eq_some_iff.mp hx).1
  have h2 := h.ok i y _ hy (List.getElem?_eq_getElem hi)
  have h3 := z.bits _ (List.getElem_mem hi)
  exact .inr (.inr (wide_mul (a := 8000) (b := 1000) (by omega) (by omega) (by decide) (by decide) (by decide)))
theorem Seat.b4 {K : PySem.W.Frag} {H : Hp} {ss ps : List Int} {p : Addr} (h : Seat ss ps) (z : ss.length ≤ 4) (hp : H p = some (.tup (ps.map V.int))) : SeatB K H ss (.ref p) true := by
  refine .inr ⟨p, _, rfl, hp, .inr ⟨by rw [List.length_map]; exact h.len, ?_, List.replicate ps.length true, by simp, by simp, fun i x s c hx hs hc => ?_⟩⟩
  · have hl := h.len
    rw [List.length_map]
    exact Nat.le_trans (by omega : ps.length ≤ 4) (by decide)
  · simp only [List.getElem?_map, Option.map_eq_some_iff] at hx
    obtain ⟨n, hn, rfl⟩ := hx
    have hi : i < ps.length := (List.getElem?_eq_some_iff.mp hn).1
    rw [List.getElem?_replicate, if_pos hi] at hc
    obtain ⟨h1, h2⟩ := h.ok i n s hn hs
    refine .inr ⟨n, rfl, ?_⟩
    rw [decide_eq_true h1, decide_eq_true h2]
    exact (Option.some.inj hc).symm
theorem Wit.seat {ss ws : List Int} {m r : Int} (hw : Wit ss m ws r) : Seat (List.replicate ss.length m) ws := by
  refine ⟨by rw [hw.len]; simp, fun i p s hp hs => ?_⟩
  rw [List.getElem?_replicate] at hs
  split at hs
  · obtain rfl := Option.some.inj hs
    exact hw.rng _ (List.mem_of_getElem? hp)
  · cases hs
def sp_is_modulus (K : PySem.W.Frag) : Sp := fun vs H Q _ => ∃ m : Int, vs = [.int m] ∧ 3 ≤ m ∧ m % 2 = 1 ∧ Q (.bl true) H
theorem ok_is_modulus (T : Tx K mg) : FnOk P w K mg base CX0 2 T.f_is_modulus T.fd_is_modulus ["modulus"] (sp_is_modulus K) := by
  refine T.F_is_modulus.ok sc_is_modulus (fun vs H Q E h => ?_) (fun cdv A outer s H vs Q E hr h => ?_)
  · obtain ⟨m, rfl, _⟩ := h; rfl
  · obtain ⟨m, rfl, h3, h2, q⟩ := h
    refine ⟨_, (pss_one (ps_ret (pe_and (pe_call (ok_is_integer T) (hr.mono (by decide)) (by rfl) T.g_is_integer T.F_is_integer.kp T.b_is_integer .nil pass0 (pa_cons (pv 0) pa_nil)) (pe_and (pe_cmpR op_ge (pv 0) pe_int (nomark _)) (pe_one (pe_cmpR op_eq (pe_op op_mod (pv 0) pe_int) pe_int (nomark _))))))), ?_⟩
    walk_at "rd"
    refine ⟨_, true, rfl, isInt_int m, ?_⟩
    walk_at "rd"
    rw [if_pos h3, decide_eq_true h2]
    exact q
theorem flatm (m : Int) (k : Nat) : (List.replicate k [V.int m]).flatten = (List.replicate k m).map V.int := by
  induction k with
  | zero => rfl
  | succ k ih => rw [List.replicate_succ, List.flatten_cons, ih, List.replicate_succ]; rfl
def sp_are_weights (K : PySem.W.Frag) : Sp := fun vs H Q _ => ∃ (kz : Bool) (z u : Addr) (ss ws : List Int) (m r : Int), vs = [.ref z, .int m, .ref u] ∧ Sqh kz H z (ss.map V.int) ∧ H u = some (.tup (ws.map V.int)) ∧ Wit ss m ws r ∧ Sz ss ∧ m.natAbs < 2 ^ 8000 ∧ ∀ H', Same H H' → Q (.bl true) H'
theorem ok_are_weights (T : Tx K mg) : FnOk P w K mg base CX0 2 T.f_are_weights T.fd_are_weights ["sizes", "modulus", "weights"] (sp_are_weights K) := by
  refine T.F_are_weights.ok sc_are_weights (fun vs H Q E h => ?_) (fun cdv A outer s H vs Q E hr h => ?_)
  · obtain ⟨kz, z, u, ss, ws, m, r, rfl, _⟩ := h; rfl
  · obtain ⟨kz, zz, u, ss, ws, m, r, rfl, hz, hu, hw, z, hmb, q⟩ := h
    refine ⟨_, (pss_cons (ps_if (pt_not (pt_val (pe_call (ok_is_seat T) (hr.mono (by decide)) (by rfl) T.g_is_seat T.F_is_seat.kp T.b_is_seat .nil pass0 (pa_cons (pe_op op_rep (pe_lst (pa_cons (pv 1) pa_nil)) (pe_callB len_H (by rfl) T.n_len PySem.boot_len (pa_cons (pv 0) pa_nil))) (pa_cons (pv 2) pa_nil))))) (pss_one (ps_ret pe_bl)) pss_nil)
      (pss_one (ps_ret (pe_callB (all_H rfl) (by rfl) T.n_all (by decide +kernel) (pa_cons (pe_lc (own := [("weight", 3), ("size", 4)]) (g := (gTupH 2 (gCons (gName 3) (gCons (gName 4) gNil)))) (tt := tYes) rfl sc_are_weights.nd (pi_z2H (by rfl) T.n_zip (pa_cons (pv 2) (pa_cons (pv 0) pa_nil))) (blkOk_by (own := [("weight", 3), ("size", 4)]) (N := N_are_weights) (sc := defScope d_are_weights) (by decide +kernel)) (fun _ _ _ _ _ => (pg_tupH (n := 2) rfl (pgs_cons (pg_name (i := 3) sc_are_weights.nd rfl (Or.inl rfl)) (pgs_cons (pg_name (i := 4) sc_are_weights.nd rfl (Or.inl rfl)) pgs_nil)))) (fun _ _ _ _ _ => pts_nil) (fun _ _ _ _ _ => (pe_cmpR op_eq (pe_op op_mod (pe_op op_mulA (pv 3) (pv 4)) (pv 1)) pe_int (nomark _)))) pa_nil))))), ?_⟩
    walk_at "rd"
    intro p hp
    have sp := Same.new hp (o := .lst [V.int m])
    have fp : (upd H p (.lst [V.int m])) p = some (.lst [V.int m]) := upd_same
    have key : rRep (V.ref p) (V.int ((ss.map V.int).length : Nat)) (upd H p (.lst [V.int m])) fun x H1 =>
              sp_is_seat K [x, V.ref u] H1
                (fun x H1 =>
                  ∃ c,
                    x = V.bl c ∧
                      if c = false then Q (V.bl false) H1
                      else
                        ∃ k1 k2 xs,
                          Sqh k1 H1 u xs ∧
                            ∃ x,
                              Sqh k2 H1 zz x ∧
                                xs.length = x.length ∧
                                  ∀ (J : It),
                                    Walk J xs.length (fun H => Sqh k1 H u xs ∧ Sqh k2 H zz x)
                                        (YPair (fun i => xs[i]?) fun i => x[i]?) →
                                      LcR J (gTupH 2 (gCons (gName 3) (gCons (gName 4) gNil))) tYes
                                        (tOp rEq
                                          (tOp (rI (fun x j => 0 < j) fun i j => V.int (i % j))
                                            (tOp (rI CMulA fun i j => V.int (i * j)) (tVar 3) (tVar 4)) (tVar 1))
                                          (tC (V.int 0)))
                                        [3, 4] [some (V.ref zz), some (V.int m), some (V.ref u), none, none] H1
                                        fun x H1 =>
                                        ∃ p,
                                          x = V.ref p ∧
                                            ∃ bs, H1 p = some (HO.lst (List.map V.bl bs)) ∧ Q (V.bl (bs.all id)) H1)
                E0 := by
      have h4 := z.hi
      refine ⟨p, ss.length, [V.int m], rfl, by rw [List.length_map], fp, by omega, by omega, ?_, fun r' hr' => ?_⟩
      · rw [Int.toNat_natCast]
        exact Nat.le_trans (by have := z.hi; simp; omega : [V.int m].length * ss.length ≤ 4) (by decide)
      rw [Int.toNat_natCast, flatm]
      have sr := Same.new hr' (o := .lst ((List.replicate ss.length m).map V.int))
      have s2 := sp.trans sr
      refine ⟨true, r', List.replicate ss.length m, .ref u, true, rfl, upd_same, hw.seat.b4 (by simpa using z.hi) (s2 _ _ hu), fun H3 s3 => ⟨true, rfl, ?_⟩⟩
      rw [if_neg (by decide)]
      have s03 := s2.trans s3
      refine ⟨false, kz, _, s03 _ _ hu, _, hz.same s03, by rw [List.length_map, List.length_map, hw.len], fun J W => ?_⟩
      have hm0 : 0 < m := by have := hw.three; omega
      refine lcr_map W ((List.replicate ws.length true).map V.bl) (by simp) (by rw [List.length_map, hw.len]; exact Nat.le_trans z.hi (by decide)) (fun H4 s4 => ⟨s4 _ _ (s03 _ _ hu), (hz.same s03).same s4⟩) (fun _ _ _ _ y => YPair.same y) ?_ ?_
      · rintro i x H4 H5 y Qy hi s4 ⟨T0, x1, y1, rfl, hT, rfl, e1, e2⟩ hr hq
        simp only [List.getElem?_map, Option.map_eq_some_iff] at e1 e2 hr
        obtain ⟨x2, hx2, rfl⟩ := e1
        obtain ⟨y2, hy2, rfl⟩ := e2
        obtain ⟨c, hc, rfl⟩ := hr
        rw [List.getElem?_replicate] at hc
        split at hc
        · obtain rfl := Option.some.inj hc
          have h3 := hw.rng _ (List.mem_of_getElem? hx2)
          walk_at "rd"
          refine ⟨.inr (.inr (wide_mul (a := 8000) (b := 1000) (by omega) (z.bits _ (List.mem_of_getElem? hy2)) (by decide) (by decide) (by decide))), hm0, ?_⟩
          rw [decide_eq_true (hw.fit i _ _ hx2 hy2)]
          exact hq _ (Same.refl _)
        · cases hc
      · intro D H4 hD s4 h4
        refine ⟨D, rfl, _, h4, ?_⟩
        rw [show (List.replicate ws.length true).all id = true by simp]
        exact q _ (s03.trans s4)
    cases kz with
    | true => exact .inl ⟨_, sp _ _ hz, key⟩
    | false => exact .inr ⟨_, sp _ _ hz, key⟩
def sp_is_witness (K : PySem.W.Frag) : Sp := fun vs H Q _ => ∃ (kz : Bool) (z sh : Addr) (ss ws : List Int) (m r : Int), vs = [.ref z, .ref sh] ∧ Sqh kz H z (ss.map V.int) ∧ ShAt H sh m ws r ∧ Wit ss m ws r ∧ Sz ss ∧ m.natAbs < 2 ^ 8000 ∧ ∀ H', Same H H' → Q (.bl true) H'
theorem ok_is_witness (T : Tx K mg) : FnOk P w K mg base CX0 3 T.f_is_witness T.fd_is_witness ["sizes", "witness"] (sp_is_witness K) := by
  refine T.F_is_witness.ok sc_is_witness (fun vs H Q E h => ?_) (fun cdv A outer s H vs Q E hr h => ?_)
  · obtain ⟨kz, z, sh, ss, ws, m, r, rfl, _⟩ := h; rfl
  · obtain ⟨kz, zz, sh, ss, ws, m, r, rfl, hz, hsh, hw, z, hmb, q⟩ := h
    refine ⟨_, (pss_cons (ps_if (PW.pt (pw_or (pt_not (pt_val (pe_callB (call_isIK (K := K) rfl) (by rfl) T.n_isinstance (by decide +kernel) (pa_cons (pv 1) (pa_cons (pe_bltn (v := .ty "tuple") (by rfl) T.n_tuple (by decide +kernel) rfl) pa_nil))))) (pw_or1 (pt_cmpR op_ne (pe_callB len_H (by rfl) T.n_len PySem.boot_len (pa_cons (pv 1) pa_nil)) pe_int (nomark _))))) (pss_one (ps_ret pe_bl)) pss_nil)
      (pss_cons (ps_asg (pv 1) (pg_tupH (n := 3) rfl (pgs_cons (pg_name (i := 2) sc_is_witness.nd rfl (Or.inl rfl)) (pgs_cons (pg_name (i := 3) sc_is_witness.nd rfl (Or.inl rfl)) (pgs_cons (pg_name (i := 4) sc_is_witness.nd rfl (Or.inl rfl)) pgs_nil)))))
      (pss_cons (ps_if (PW.pt (pw_or (pt_not (pt_val (pe_call (ok_is_modulus T) (hr.mono (by decide)) (by rfl) T.g_is_modulus T.F_is_modulus.kp T.b_is_modulus .nil pass0 (pa_cons (pv 2) pa_nil)))) (pw_or1 (pt_not (pt_val (pe_call (ok_are_weights T) (hr.mono (by decide)) (by rfl) T.g_are_weights T.F_are_weights.kp T.b_are_weights .nil pass0 (pa_cons (pv 0) (pa_cons (pv 2) (pa_cons (pv 3) pa_nil))))))))) (pss_one (ps_ret pe_bl)) pss_nil)
      (pss_one (ps_ret (pe_call (ok_is_place T) (hr.mono (by decide)) (by rfl) T.g_is_place T.F_is_place.kp T.b_is_place .nil pass0 (pa_cons (pv 2) (pa_cons (pv 4) pa_nil)))))))), ?_⟩
    obtain ⟨u, h1, h2⟩ := id hsh
    walk_at "rd"
    refine ⟨true, isI_tup h1, ?_⟩
    rw [if_neg (by decide)]
    refine .inr ⟨_, h1, ?_⟩
    rw [if_neg (fun h => h rfl)]
    refine ⟨_, h1, rfl, _, _, rfl, _, _, rfl, _, _, rfl, rfl, m, rfl, hw.three, hw.odd, true, rfl, ?_⟩
    rw [if_neg (by decide)]
    refine ⟨kz, zz, u, ss, ws, m, r, rfl, hz, h2, hw, z, hmb, fun H1 s1 => ⟨true, rfl, ?_⟩⟩
    rw [if_neg (by decide)]
    refine ⟨m, .int r, true, rfl, .inr ⟨r, rfl, ?_⟩, q _ s1⟩
    rw [decide_eq_true hw.res.1, decide_eq_true hw.res.2]
    rfl
def sp_require_witness (K : PySem.W.Frag) : Sp := fun vs H Q _ => ∃ (kz : Bool) (z sh : Addr) (ss ws : List Int) (m r : Int), vs = [.ref z, .ref sh] ∧ Sqh kz H z (ss.map V.int) ∧ ShAt H sh m ws r ∧ Wit ss m ws r ∧ Sz ss ∧ m.natAbs < 2 ^ 8000 ∧ ∀ H', Same H H' → Q .non H'
theorem ok_require_witness (T : Tx K mg) : FnOk P w K mg base CX0 4 T.f_require_witness T.fd_require_witness ["sizes", "witness"] (sp_require_witness K) := by
  refine T.F_require_witness.ok sc_require_witness (fun vs H Q E h => ?_) (fun cdv A outer s H vs Q E hr h => ?_)
  · obtain ⟨kz, z, sh, ss, ws, m, r, rfl, _⟩ := h; rfl
  · obtain ⟨kz, zz, sh, ss, ws, m, r, rfl, hz, hsh, hw, z, hmb, q⟩ := h
    refine ⟨_, (pss_one (ps_if (pt_not (pt_val (pe_call (ok_is_witness T) (hr.mono (by decide)) (by rfl) T.g_is_witness T.F_is_witness.kp T.b_is_witness .nil pass0 (pa_cons (pv 0) (pa_cons (pv 1) pa_nil))))) (pss_one ps_never) pss_nil)), ?_⟩
    walk_at "rd"
    refine ⟨kz, zz, sh, ss, ws, m, r, rfl, hz, hsh, hw, z, hmb, fun H1 s1 => ⟨true, rfl, ?_⟩⟩
    rw [if_neg (by decide)]
    exact q _ s1
def sp_has_residue (K : PySem.W.Frag) : Sp := fun vs H Q _ => ∃ (sh p : Addr) (ps ws : List Int) (m r : Int), vs = [.ref sh, .ref p] ∧ ShAt H sh m ws r ∧ H p = some (.tup (ps.map V.int)) ∧ ws.length = ps.length ∧ ws.length ≤ 64 ∧ 0 < m ∧ (∀ (i : Nat) x y, ws[i]? = some x → ps[i]? = some y → CMulA x y) ∧
  ∀ H', Same H H' → Q (.bl (decide (dot ws ps % m = r))) H'
theorem ok_has_residue (T : Tx K mg) : FnOk P w K mg base CX0 2 T.f_has_residue T.fd_has_residue ["witness", "seat"] (sp_has_residue K) := by
  refine T.F_has_residue.ok sc_has_residue (fun vs H Q E h => ?_) (fun cdv A outer s H vs Q E hr h => ?_)
  · obtain ⟨sh, p, ps, ws, m, r, rfl, _⟩ := h; rfl
  · obtain ⟨sh, p, ps, ws, m, r, rfl, ⟨u, h1, h2⟩, hp, hl, h64, hm, hmul, q⟩ := h
    refine ⟨_, (pss_cons (ps_asg (pv 0) (pg_tupH (n := 3) rfl (pgs_cons (pg_name (i := 2) sc_has_residue.nd rfl (Or.inl rfl)) (pgs_cons (pg_name (i := 3) sc_has_residue.nd rfl (Or.inl rfl)) (pgs_cons (pg_name (i := 4) sc_has_residue.nd rfl (Or.inl rfl)) pgs_nil)))))
      (pss_one (ps_ret (pe_cmpR op_eq (pe_op op_mod (pe_call (ok_weighted_sum T) (hr.mono (by decide)) (by rfl) T.g_weighted_sum T.F_weighted_sum.kp T.b_weighted_sum .nil pass0 (pa_cons (pv 3) (pa_cons (pv 1) pa_nil))) (pv 2)) (pv 4) (nomark _))))), ?_⟩
    walk_at "rd"
    refine ⟨_, h1, rfl, ?_⟩
    walk_at "rd"
    refine ⟨false, false, u, p, ws, ps, rfl, h2, hp, hl, h64, hmul, fun H1 s1 => ⟨_, rfl, hm, q _ s1⟩⟩
end

section
variable {P : Program} {w : World} {K : PySem.W.Frag} {mg : Str → Option Value} {base : Heap}
def sp_check_witness (K : PySem.W.Frag) (C : Addr) : Sp := fun vs H Q _ => ∃ (k : Bool) (a tg p sh : Addr) (ss : List Int) (gs : List (List Int)) (ps ws : List Int) (m r : Int), vs = [.ref a, .ref tg, .ref p, .ref sh] ∧ TabAt C H a ss ∧ TgtAt k H tg gs ∧ Tgts ss gs ∧ Sz ss ∧ H p = some (.tup (ps.map V.int)) ∧ Seat ss ps ∧ ShAt H sh m ws r ∧ Wit ss m ws r ∧ m.natAbs < 2 ^ 8000 ∧
  (∀ g ∈ gs, dot ws g % m = r) ∧ dot ws ps % m ≠ r ∧ ∀ H', Same H H' → Q .non H'
def MCW0 (a tg p sh : Addr) (ss : List Int) (H : Hp) (σ : L2.St) (H' : Hp) : Prop := ∃ t, σ = [some (V.ref a), some (V.ref tg), some (V.ref p), some (V.ref sh), some (V.ref t), none, none] ∧ H' = H ∧ H' t = some (.tup (ss.map V.int))
def MCW1 (a tg p sh t : Addr) (H : Hp) (σ : L2.St) (H' : Hp) : Prop := ∃ v5 v6, σ = [some (V.ref a), some (V.ref tg), some (V.ref p), some (V.ref sh), some (V.ref t), v5, v6] ∧ Same H H'
theorem ok_check_witness (T : Tx K mg) : FnOk P w K mg base CX0 5 T.f_check_witness T.fd_check_witness ["table", "targets", "seat", "witness"] (sp_check_witness K T.c_Table) := by
  refine T.F_check_witness.ok sc_check_witness (fun vs H Q E h => ?_) (fun cdv A outer s H vs Q E hr h => ?_)
  · obtain ⟨k, a, tg, p, sh, ss, gs, ps, ws, m, r, rfl, _⟩ := h; rfl
  · obtain ⟨k, a, tg, p, sh, ss, gs, ps, ws, m, r, rfl, hT, hG, hgs, z, hp, hS, hsh, hw, hmb, hres, hne, q⟩ := h
    refine ⟨_, (C8.pss_cut (ps_set (i := 4) sc_check_witness.nd rfl (Or.inl rfl) (pe_call (ok_sizes_of T) (hr.mono (by decide)) (by rfl) T.g_sizes_of T.F_sizes_of.kp T.b_sizes_of .nil pass0 (pa_cons (pv 0) pa_nil)))
      (C8.pss_cut (ps_expr (pe_call (ok_require_targets T) (hr.mono (by decide)) (by rfl) T.g_require_targets T.F_require_targets.kp T.b_require_targets .nil pass0 (pa_cons (pv 4) (pa_cons (pv 1) pa_nil))))
      (C8.pss_cut (ps_expr (pe_call (ok_require_seat T) (hr.mono (by decide)) (by rfl) T.g_require_seat T.F_require_seat.kp T.b_require_seat .nil pass0 (pa_cons (pv 4) (pa_cons (pv 2) pa_nil))))
      (C8.pss_cut (ps_expr (pe_call (ok_require_witness T) (hr.mono (by decide)) (by rfl) T.g_require_witness T.F_require_witness.kp T.b_require_witness .nil pass0 (pa_cons (pv 4) (pa_cons (pv 3) pa_nil))))
      (C8.pss_cut (ps_for PassesOwn.never rfl (pi_enH (by rfl) T.n_enumerate (pa_cons (pv 1) pa_nil)) (pg_tupH (n := 2) rfl (pgs_cons (pg_name (i := 5) sc_check_witness.nd rfl (Or.inl rfl)) (pgs_cons (pg_name (i := 6) sc_check_witness.nd rfl (Or.inl rfl)) pgs_nil)))
        (pss_one (ps_if (pt_not (pt_val (pe_call (ok_has_residue T) (hr.mono (by decide)) (by rfl) T.g_has_residue T.F_has_residue.kp T.b_has_residue .nil pass0 (pa_cons (pv 3) (pa_cons (pv 6) pa_nil))))) (pss_one ps_never) pss_nil)))
      (pss_one (ps_if (pt_val (pe_call (ok_has_residue T) (hr.mono (by decide)) (by rfl) T.g_has_residue T.F_has_residue.kp T.b_has_residue .nil pass0 (pa_cons (pv 3) (pa_cons (pv 2) pa_nil)))) (pss_one ps_never) pss_nil))))))), ?_⟩
    refine ⟨MCW0 a tg p sh ss H, ?_, ?_⟩
    · walk_at "rd"
      exact ⟨a, ss, rfl, hT, fun t' ht' => ⟨t', rfl, rfl, ht'⟩⟩
    rintro σ1 H1 ⟨t, rfl, rfl, ht⟩
    refine ⟨MCW1 a tg p sh t H1, ?_, ?_⟩
    · walk_at "rd"
      exact ⟨false, k, t, tg, ss, gs, rfl, ht, hG, hgs.ne, hgs.nd, hgs.few, hgs.ok, z, fun H2 s2 => ⟨none, none, rfl, s2⟩⟩
    rintro σ2 H2 ⟨v5, v6, rfl, s2⟩
    refine ⟨MCW1 a tg p sh t H1, ?_, ?_⟩
    · walk_at "rd"
      exact ⟨false, t, ss, .ref p, rfl, s2 _ _ ht, hS.b z (s2 _ _ hp), fun H3 s3 => ⟨v5, v6, rfl, s2.trans s3⟩⟩
    rintro σ3 H3 ⟨v5, v6, rfl, s3⟩
    refine ⟨MCW1 a tg p sh t H1, ?_, ?_⟩
    · walk_at "rd"
      exact ⟨false, t, sh, ss, ws, m, r, rfl, s3 _ _ ht, hsh.same s3, hw, z, hmb, fun H4 s4 => ⟨v5, v6, rfl, s3.trans s4⟩⟩
    rintro σ5 H5 ⟨v5, v6, rfl, s5⟩
    have hm0 : 0 < m := by have := hw.three; omega
    have hw4 : ws.length ≤ 64 := by rw [hw.len]; have := z.hi; omega
    obtain ⟨as, htg, hA⟩ := id hG
    refine ⟨MCW1 a tg p sh t H1, ?_, ?_⟩
    · walk_at "rd"
      refine ⟨k, as.map V.ref, htg.same s5, fun J W => ?_⟩
      refine forr W (fun i σ H' => MCW1 a tg p sh t H1 σ H') ⟨v5, v6, rfl, s5⟩ (fun i σ H' _ h => by obtain ⟨_, _, _, h⟩ := h; exact htg.same h) ?_ ?_
      · rintro i x σ6 H6 H7 hi ⟨v5, v6, rfl, s6⟩ ⟨T0, x1, rfl, hT0, rfl, hx⟩
        simp only [List.getElem?_map, Option.map_eq_some_iff] at hx
        obtain ⟨ai, hai, rfl⟩ := hx
        rw [List.length_map, hA.1] at hi
        have hg := List.getElem?_eq_getElem hi
        have hgm := List.getElem_mem hi
        have har := hA.2 i ai _ hai hg
        have sT := Same.new hT0 (o := .tup [V.int (i : Nat), V.ref ai])
        walk_at "rd"
        generalize upd H6 T0 (HO.tup [V.int (i : Nat), V.ref ai]) = H7 at sT ⊢
        have s7 := s6.trans sT
        refine ⟨sh, ai, gs[i], ws, m, r, rfl, hsh.same s7, s7 _ _ har, by rw [hw.len, (hgs.ok _ hgm).len], hw4, hm0, mul_seat hw z hmb (hgs.ok _ hgm), fun H8 s8 => ?_⟩
        rw [decide_eq_true (hres _ hgm)]
        refine ⟨_, rfl, ?_⟩
        rw [if_neg (by decide)]
        exact ⟨_, _, rfl, s7.trans s8⟩
      · rintro σ6 H6 ⟨v5, v6, rfl, s6⟩
        exact ⟨v5, v6, rfl, s6⟩
    rintro σ6 H6 ⟨v5, v6, rfl, s6⟩
    walk_at "rd"
    refine ⟨sh, p, ps, ws, m, r, rfl, hsh.same s6, s6 _ _ hp, by rw [hw.len, hS.len], hw4, hm0, mul_seat hw z hmb hS, fun H7 s7 => ?_⟩
    rw [decide_eq_false hne]
    refine ⟨_, rfl, ?_⟩
    rw [if_neg (by decide)]
    exact q _ (s6.trans s7)
end


/-! ### the law's gcd, odd part, values, witnesses -/
section
variable {P : Program} {w : World} {K : PySem.W.Frag} {mg : Str → Option Value} {base : Heap}
theorem fmod_abs (a : Int) {b : Int} (h : b ≠ 0) : (a.fmod b).natAbs < b.natAbs := by
  rw [Int.fmod_eq_emod]
  have h1 := Int.emod_nonneg a h
  have h2 := Int.emod_lt a h
  by_cases hp : 0 ≤ b
  · rw [if_pos (.inl hp)]; omega
  · by_cases hd : b ∣ a
    · rw [if_pos (.inr hd)]; omega
    · rw [if_neg (by rintro (h | h); exact hp h; exact hd h)]
      have : a % b ≠ 0 := fun e => hd (Int.dvd_of_emod_eq_zero e)
      omega
theorem fmod_gcd (a : Int) {b : Int} : Nat.gcd b.natAbs (a.fmod b).natAbs = Nat.gcd a.natAbs b.natAbs := by
  have e : a.fmod b = a - b * a.fdiv b := Int.fmod_def a b
  apply Nat.dvd_antisymm
  · refine Nat.dvd_gcd ?_ (Nat.gcd_dvd_left _ _)
    have h1 : ((Nat.gcd b.natAbs (a.fmod b).natAbs : Nat) : Int) ∣ b := cd_of (Nat.gcd_dvd_left _ _)
    have h2 : ((Nat.gcd b.natAbs (a.fmod b).natAbs : Nat) : Int) ∣ a.fmod b := cd_of (Nat.gcd_dvd_right _ _)
    have h3 := Int.dvd_add h2 (Int.dvd_mul_of_dvd_left (c := a.fdiv b) h1)
    have e2 : a.fmod b + b * a.fdiv b = a := by rw [e]; omega
    rw [e2] at h3
    exact cd_to h3
  · refine Nat.dvd_gcd (Nat.gcd_dvd_right _ _) ?_
    have h1 : ((Nat.gcd a.natAbs b.natAbs : Nat) : Int) ∣ b := cd_of (Nat.gcd_dvd_right _ _)
    have h2 : ((Nat.gcd a.natAbs b.natAbs : Nat) : Int) ∣ a := cd_of (Nat.gcd_dvd_left _ _)
    have h3 := Int.dvd_sub h2 (Int.dvd_mul_of_dvd_left (c := a.fdiv b) h1)
    rw [← e] at h3
    exact cd_to h3
def sp_law_gcd (K : PySem.W.Frag) : Sp := fun vs H Q _ => ∃ a b : Int, vs = [.int a, .int b] ∧ Q (.int ((Nat.gcd a.natAbs b.natAbs : Nat) : Int)) H
theorem oddI_even {n : Int} (h : 1 ≤ n) (e : n % 2 = 0) : oddI (n / 2) = oddI n := by
  obtain ⟨m, rfl⟩ := Int.eq_ofNat_of_zero_le (by omega : 0 ≤ n)
  obtain ⟨q, hq⟩ : ∃ q, m = 2 * q := ⟨m / 2, by omega⟩
  unfold oddI
  have e1 : ((m : Int) / 2).toNat = q := by omega
  rw [e1, Int.toNat_natCast, hq, odd_even (by omega)]
theorem oddI_odd {n : Int} (h : 1 ≤ n) (e : n % 2 = 1) : oddI n = n := by
  obtain ⟨m, rfl⟩ := Int.eq_ofNat_of_zero_le (by omega : 0 ≤ n)
  obtain ⟨q, hq⟩ : ∃ q, m = 2 * q + 1 := ⟨m / 2, by omega⟩
  unfold oddI
  rw [Int.toNat_natCast, hq, odd_odd]
def sp_law_odd_part (K : PySem.W.Frag) : Sp := fun vs H Q _ => ∃ n : Int, vs = [.int n] ∧ 1 ≤ n ∧ Q (.int (oddI n)) H
def sp_law_value (K : PySem.W.Frag) : Sp := fun vs H Q _ => ∃ (sh o : Addr) (m r : Int) (ws ps : List Int), vs = [.ref sh, .ref o] ∧ ShAt H sh m ws r ∧ H o = some (.tup (ps.map V.int)) ∧ ws.length = ps.length ∧ ws.length ≤ 64 ∧ 0 < m ∧
  (∀ (i : Nat) x y, ws[i]? = some x → ps[i]? = some y → CMulA x y) ∧ ∀ H', Same H H' → Q (.int (dot ws ps % m)) H'
theorem ok_law_value (T : Tx K mg) : FnOk P w K mg base CX0 1 T.f_law_value T.fd_law_value ["_law_sheet", "_law_one"] (sp_law_value K) := by
  refine T.F_law_value.ok sc_law_value (fun vs H Q E h => ?_) (fun cdv A outer s H vs Q E hr h => ?_)
  · obtain ⟨sh, o, m, r, ws, ps, rfl, _⟩ := h; rfl
  · obtain ⟨sh, o, m, r, ws, ps, rfl, ⟨u, h1, h2⟩, ho, hl, h64, hm, hmul, q⟩ := h
    refine ⟨_, (pss_one (ps_ret (pe_op op_mod (pe_callB (cr_sum rfl) (by rfl) T.n_sum (by decide +kernel) (pa_cons (pe_lc (own := [("_law_weight", 2), ("_law_place", 3)]) (g := (gTupH 2 (gCons (gName 2) (gCons (gName 3) gNil)))) (tt := tYes) rfl sc_law_value.nd (pi_z2H (by rfl) T.n_zip (pa_cons (pe_ix ix_tH (pv 0) pe_int (fun _ _ => rfl)) (pa_cons (pv 1) pa_nil))) (blkOk_by (own := [("_law_weight", 2), ("_law_place", 3)]) (N := N_law_value) (sc := defScope d_law_value) (by decide +kernel)) (fun _ _ _ _ _ => (pg_tupH (n := 2) rfl (pgs_cons (pg_name (i := 2) sc_law_value.nd rfl (Or.inl rfl)) (pgs_cons (pg_name (i := 3) sc_law_value.nd rfl (Or.inl rfl)) pgs_nil)))) (fun _ _ _ _ _ => pts_nil) (fun _ _ _ _ _ => (pe_op op_mulA (pv 2) (pv 3)))) pa_nil)) (pe_ix ix_tH (pv 0) pe_int (fun _ _ => rfl))))), ?_⟩
    walk_at "rh"
    refine ⟨false, false, ws.map V.int, h2, ps.map V.int, ho, by rw [List.length_map, List.length_map, hl], fun J W => ?_⟩
    refine lcr_two (p := 2) (q := 3) hl h64 (fun x y => x * y) W (fun H3 s3 => ⟨s3 _ _ h2, s3 _ _ ho⟩) (fun T0 x y H3 R hT hR => ?_) (fun x y => rfl) (fun i x y Qy H3 h1 h2 hq => ?_) fun D H3 hD s3 h3 => ?_
    · walk_at "rh"
      exact hR
    · walk_at "rd"
      exact ⟨hmul i x y h1 h2, hq⟩
    · refine ⟨D, List.zipWith (fun x y => x * y) ws ps, rfl, .inl (.inl h3), ?_⟩
      rw [show (List.zipWith (fun x y => x * y) ws ps).sum = dot ws ps from dot_sum ws ps]
      exact ⟨_, s3 _ _ h1, _, atI_0, _, rfl, m, rfl, hm, q _ s3⟩
def MB1 (l sh : Addr) (H : Hp) (σ : L2.St) (H' : Hp) : Prop := σ = [some (V.ref l), some (V.ref sh), none, none, none, none] ∧ Same H H'
def MB2 (l sh : Addr) (xs : List Int) (H : Hp) (σ : L2.St) (H' : Hp) : Prop := ∃ pl, σ = [some (V.ref l), some (V.ref sh), some (V.ref pl), none, none, none] ∧ Same H H' ∧ H' pl = some (.lst (xs.map V.int))
def MB3 (l sh pl : Addr) (H : Hp) (σ : L2.St) (H' : Hp) : Prop := σ = [some (V.ref l), some (V.ref sh), some (V.ref pl), none, none, none] ∧ Same H H'
theorem cut_front (xs : List V) (n : Nat) : cutV xs none (some (n : Int)) = xs.take n := by
  unfold cutV
  rw [HT.sIx_none, HT.sIx_nat]
  show (xs.drop 0).take (min n xs.length - 0) = xs.take n
  rw [List.drop_zero, Nat.sub_zero]
  by_cases h : n ≤ xs.length
  · rw [Nat.min_eq_left h]
  · rw [Nat.min_eq_right (by omega), List.take_length, List.take_of_length_le (by omega)]
theorem cut_tail (x : V) (xs : List V) : cutV (x :: xs) (some 1) none = xs := by
  unfold cutV
  rw [show (1 : Int) = ((1 : Nat) : Int) by rfl, HT.sIx_nat, HT.sIx_none]
  simp
/-- a comprehension whose test fails everywhere -/
theorem lcr_none {J : It} {n : Nat} {G : Hp → Prop} {Y : Nat → Hp → V → Hp → Prop} (w : Walk J n G Y) {g : TG} {tt : TT} {te : TE} {vs : List Nat} {σ : L2.St} {H1 : Hp} {Q : VK} (hn : n < sizeLine) (hG : ∀ H, Same H1 H → G H)
    (hY : ∀ i x H H', Y i H x H' → Same H H')
    (hs : ∀ i x H H' (Qn : Hp → Prop) (Qy : VK), i < n → Same H1 H → Y i H x H' → (∀ H4, Same H' H4 → Qn H4) → g x (wipe σ vs) H' fun σ2 H2 => wipe σ2 vs = wipe σ vs ∧ tt σ2 H2 fun b H3 => if b = true then te σ2 H3 Qy else Qn H3)
    (hd : ∀ D H, Same H1 H → H1 D = none → H D = some (.lst []) → Q (.ref D) H) : LcR J g tt te vs σ H1 Q :=
  lcr_if w (fun D i acc H => Same H1 H ∧ acc = []) hn (fun D hD => ⟨Same.new hD, rfl⟩) (fun D i acc H hD hi h e => hG H h.1) (fun D i acc H l hD h hne => ⟨fun b o e => by rw [upd_ne (ne_some e hD)]; exact h.1 b o e, h.2⟩)
    (fun D i acc x H H' Qn Qy hD hi h e hy hn hq => hs i x H H' Qn Qy hi h.1 hy fun H4 s4 => hn H4 (by
      have := (hY _ _ _ _ hy).trans s4
      exact this _ _ e) ⟨h.1.trans ((hY _ _ _ _ hy).trans s4), h.2⟩) fun D acc H hD _ h e => hd D H h.1 hD (by rw [h.2] at e; exact e)
def sp_law_is_witness (K : PySem.W.Frag) : Sp := fun vs H Q _ => ∃ (kl : Bool) (l sh : Addr) (ss ws : List Int) (m r : Int), vs = [.ref l, .ref sh] ∧ Sqh kl H l (ss.map V.int) ∧ ShAt H sh m ws r ∧ Wit ss m ws r ∧ Sz ss ∧ m.natAbs < 2 ^ 8000 ∧ ∀ H', Same H H' → Q (.bl true) H'
theorem ok_law_is_witness (T : Tx K mg) : FnOk P w K mg base CX0 1 T.f_law_is_witness T.fd_law_is_witness ["_law_sizes", "_law_sheet"] (sp_law_is_witness K) := by
  refine T.F_law_is_witness.ok sc_law_is_witness (fun vs H Q E h => ?_) (fun cdv A outer s H vs Q E hr h => ?_)
  · obtain ⟨kl, l, sh, ss, ws, m, r, rfl, _⟩ := h; rfl
  · obtain ⟨kl, l, sh, ss, ws, m, r, rfl, hl, hsh, hw, z, hmb, q⟩ := h
    refine ⟨_, (C8.pss_cut (ps_if (PW.pt (pw_or (pt_not (pt_val (pe_callB (call_isIK (K := K) rfl) (by rfl) T.n_isinstance (by decide +kernel) (pa_cons (pv 1) (pa_cons (pe_bltn (v := .ty "tuple") (by rfl) T.n_tuple (by decide +kernel) rfl) pa_nil))))) (pw_or (pt_cmpR op_ne (pe_callB len_H (by rfl) T.n_len PySem.boot_len (pa_cons (pv 1) pa_nil)) pe_int (nomark _)) (pw_or1 (pt_not (pt_val (pe_callB (call_isIK (K := K) rfl) (by rfl) T.n_isinstance (by decide +kernel) (pa_cons (pe_ix ix_tH (pv 1) pe_int (fun _ _ => rfl)) (pa_cons (pe_bltn (v := .ty "tuple") (by rfl) T.n_tuple (by decide +kernel) rfl) pa_nil))))))))) (pss_one (ps_ret pe_bl)) pss_nil)
      (C8.pss_cut (ps_set (i := 2) sc_law_is_witness.nd rfl (Or.inl rfl) (pe_op op_catS (pe_lst (pa_cons (pe_ix ix_tH (pv 1) pe_int (fun _ _ => rfl)) (pa_cons (pe_ix ix_tH (pv 1) pe_int (fun _ _ => rfl)) pa_nil))) (pe_callTy list_H (by rfl) T.n_list (by decide +kernel) (pa_cons (pe_ix ix_tH (pv 1) pe_int (fun _ _ => rfl)) pa_nil))))
      (C8.pss_cut (ps_if (pt_cmpR (op_neDK (K := K) rfl hr.units) (pe_lc (own := [("_law_one", 3)]) (g := (gName 3)) rfl sc_law_is_witness.nd (pi_seqH (pv 2)) (blkOk_by (own := [("_law_one", 3)]) (N := N_law_is_witness) (sc := defScope d_law_is_witness) (by decide +kernel)) (fun _ _ _ _ _ => (pg_name (i := 3) sc_law_is_witness.nd rfl (Or.inl rfl))) (fun _ _ _ _ _ => (pts_one (PW.pt (pw_or (pt_not (pt_val (pe_callB (call_isIK (K := K) rfl) (by rfl) T.n_isinstance (by decide +kernel) (pa_cons (pv 3) (pa_cons (pe_bltn (v := .ty "int") (by rfl) T.n_int (by decide +kernel) rfl) pa_nil))))) (pw_or1 (pt_val (pe_callB (call_isIK (K := K) rfl) (by rfl) T.n_isinstance (by decide +kernel) (pa_cons (pv 3) (pa_cons (pe_bltn (v := .ty "bool") (by rfl) T.n_bool (by decide +kernel) rfl) pa_nil))))))))) (fun _ _ _ _ _ => pe_int)) (pe_lst pa_nil) (nomark _)) (pss_one (ps_ret pe_bl)) pss_nil)
      (C8.pss_cut (ps_if (PW.pt (pw_or (pt_cmpR op_lt (pe_ix ix_tH (pv 1) pe_int (fun _ _ => rfl)) pe_int (nomark _)) (pw_or (pt_cmpR op_eq (pe_op op_mod (pe_ix ix_tH (pv 1) pe_int (fun _ _ => rfl)) pe_int) pe_int (nomark _)) (pw_or1 (pt_cmpR op_ne (pe_callB len_H (by rfl) T.n_len PySem.boot_len (pa_cons (pe_ix ix_tH (pv 1) pe_int (fun _ _ => rfl)) pa_nil)) (pe_callB len_H (by rfl) T.n_len PySem.boot_len (pa_cons (pv 0) pa_nil)) (nomark _)))))) (pss_one (ps_ret pe_bl)) pss_nil)
      (C8.pss_cut (ps_if (pt_cmpR (op_neDK (K := K) rfl hr.units) (pe_lc (own := [("_law_one", 3)]) (g := (gName 3)) rfl sc_law_is_witness.nd (pi_seqH (pe_slice sl_list (pv 2) (po_some pe_int) po_none)) (blkOk_by (own := [("_law_one", 3)]) (N := N_law_is_witness) (sc := defScope d_law_is_witness) (by decide +kernel)) (fun _ _ _ _ _ => (pg_name (i := 3) sc_law_is_witness.nd rfl (Or.inl rfl))) (fun _ _ _ _ _ => (pts_one (pt_not (pt_chain op_le op_lt pe_int (pv 3) (pe_ix ix_tH (pv 1) pe_int (fun _ _ => rfl)))))) (fun _ _ _ _ _ => pe_int)) (pe_lst pa_nil) (nomark _)) (pss_one (ps_ret pe_bl)) pss_nil)
      (pss_one (ps_ret (pe_cmpR (op_eqDK (K := K) rfl hr.units) (pe_lc (own := [("_law_weight", 4), ("_law_size", 5)]) (g := (gTupH 2 (gCons (gName 4) (gCons (gName 5) gNil)))) rfl sc_law_is_witness.nd (pi_z2H (by rfl) T.n_zip (pa_cons (pe_ix ix_tH (pv 1) pe_int (fun _ _ => rfl)) (pa_cons (pv 0) pa_nil))) (blkOk_by (own := [("_law_weight", 4), ("_law_size", 5)]) (N := N_law_is_witness) (sc := defScope d_law_is_witness) (by decide +kernel)) (fun _ _ _ _ _ => (pg_tupH (n := 2) rfl (pgs_cons (pg_name (i := 4) sc_law_is_witness.nd rfl (Or.inl rfl)) (pgs_cons (pg_name (i := 5) sc_law_is_witness.nd rfl (Or.inl rfl)) pgs_nil)))) (fun _ _ _ _ _ => (pts_one (pt_cmpR op_ne (pe_op op_mod (pe_op op_mulA (pv 4) (pv 5)) (pe_ix ix_tH (pv 1) pe_int (fun _ _ => rfl))) pe_int (nomark _)))) (fun _ _ _ _ _ => pe_int)) (pe_lst pa_nil) (nomark _))))))))), ?_⟩
    obtain ⟨u, h1, h2⟩ := id hsh
    have hwl : ws.length ≤ 4 := by rw [hw.len]; exact z.hi
    refine ⟨MB1 l sh H, ?_, ?_⟩
    · walk_at "rd"
      refine ⟨true, isI_tup h1, ?_⟩
      rw [if_neg (by decide)]
      refine .inr ⟨_, h1, ?_⟩
      rw [if_neg (fun h => h rfl)]
      refine ⟨_, h1, _, atI_1, true, isI_tup h2, ?_⟩
      rw [if_neg (by decide)]
      exact ⟨rfl, Same.refl _⟩
    rintro σ1 H1 ⟨rfl, s1⟩
    have g1 := s1 _ _ h1
    have g2 := s1 _ _ h2
    refine ⟨MB2 l sh (m :: r :: ws) H1, ?_, ?_⟩
    · walk_at "rd"
      refine ⟨_, g1, _, atI_0, _, g1, _, atI_2, fun p hp => ?_⟩
      have sp := Same.new hp (o := .lst [.int m, .int r])
      refine ⟨_, sp _ _ g1, _, atI_1, u, rfl, .inr ⟨_, sp _ _ g2, fun l1 hl1 => ?_⟩⟩
      have sq := Same.new hl1 (o := .lst (ws.map V.int))
      refine ⟨_, .inl (.inl (sq _ _ upd_same)), _, .inl (.inl upd_same), ?_, fun p2 hp2 => ⟨p2, rfl, (sp.trans sq).trans (Same.new hp2), ?_⟩⟩
      · rw [List.length_map]
        exact Nat.le_trans (by simp; omega : [V.int m, V.int r].length + ws.length ≤ 10) (by decide)
      · rw [upd_same]
        rfl
    rintro σ2 H2 ⟨pl, rfl, s2, hpl⟩
    refine ⟨MB3 l sh pl H2, ?_, ?_⟩
    · walk_at "rd"
      refine .inl ⟨_, hpl, fun J W => ?_⟩
      refine lcr_none W ?_ (fun H' s => s _ _ hpl) (fun _ _ _ _ y => YAt.same y) ?_ ?_
      · rw [List.length_map]
        exact Nat.lt_of_le_of_lt (by simp; omega : (m :: r :: ws).length ≤ 10) (by decide)
      · rintro i x H6 H7 Qn Qy hi s6 ⟨rfl, hx⟩ hn
        simp only [List.getElem?_map, Option.map_eq_some_iff] at hx
        obtain ⟨n, _, rfl⟩ := hx
        walk_at "rd"
        refine ⟨true, isI_ty (.base (.int n)) (by decide +kernel), ?_⟩
        rw [if_neg (by decide)]
        refine ⟨false, isI_ty (.base (.int n)) (by decide +kernel), ?_⟩
        rw [if_neg (by decide)]
        exact hn _ (Same.refl _)
      · rintro D H6 s6 hD hD6 p hp
        refine neD_lst (ns := []) (ms := []) (by rw [upd_old hp (by rw [hD6]; simp)]; exact hD6) upd_same ⟨_, rfl, ?_⟩
        rw [if_neg (by decide)]
        exact ⟨rfl, s6.trans (Same.new hp)⟩
    rintro σ3 H3 ⟨rfl, s3⟩
    have s03 := (s1.trans s2).trans s3
    refine ⟨MB3 l sh pl H3, ?_, ?_⟩
    · walk_at "rd"
      refine ⟨_, s03 _ _ h1, _, atI_0, m, rfl, ?_⟩
      rw [if_neg (by have := hw.three; omega)]
      refine ⟨_, s03 _ _ h1, _, atI_0, m, rfl, ?_⟩
      rw [if_neg (by have := hw.odd; omega)]
      refine ⟨_, s03 _ _ h1, _, atI_1, u, rfl, .inr ⟨_, s03 _ _ h2, or_seq (hl.same s03) ?_⟩⟩
      rw [if_neg (fun h => h (by rw [List.length_map, List.length_map, hw.len]))]
      exact ⟨rfl, Same.refl _⟩
    rintro σ4 H4 ⟨rfl, s4⟩
    have s04 := s03.trans s4
    refine ⟨MB3 l sh pl H4, ?_, ?_⟩
    · walk_at "rd"
      refine ⟨_, .inl (.inl ((s3.trans s4) _ _ hpl)), fun p hp J W => ?_⟩
      have sp := Same.new hp (o := .lst (cutV ((m :: r :: ws).map V.int) (some 1) none))
      have e : cutV ((m :: r :: ws).map V.int) (some 1) none = (r :: ws).map V.int := cut_tail _ _
      rw [e] at W sp ⊢
      refine lcr_none W ?_ (fun H' s => s _ _ upd_same) (fun _ _ _ _ y => YAt.same y) ?_ ?_
      · rw [List.length_map]
        exact Nat.lt_of_le_of_lt (by simp; omega : (r :: ws).length ≤ 10) (by decide)
      · rintro i x H6 H7 Qn Qy hi s6 ⟨rfl, hx⟩ hn
        simp only [List.getElem?_map, Option.map_eq_some_iff] at hx
        obtain ⟨n, hnm, rfl⟩ := hx
        have hn2 : 0 ≤ n ∧ n < m := by
          have hm := List.mem_of_getElem? hnm
          rcases List.mem_cons.mp hm with rfl | hm
          · exact hw.res
          · exact hw.rng _ hm
        walk_at "rd"
        rw [if_pos hn2.1]
        refine ⟨_, s6 _ _ (sp _ _ (s04 _ _ h1)), _, atI_0, m, rfl, ?_⟩
        rw [if_neg (fun h => h hn2.2)]
        exact hn _ (Same.refl _)
      · rintro D H6 s6 hD hD6 p hp
        refine neD_lst (ns := []) (ms := []) (by rw [upd_old hp (by rw [hD6]; simp)]; exact hD6) upd_same ⟨_, rfl, ?_⟩
        rw [if_neg (by decide)]
        exact ⟨rfl, sp.trans (s6.trans (Same.new hp))⟩
    rintro σ5 H5 ⟨rfl, s5⟩
    have s05 := s04.trans s5
    walk_at "rd"
    refine ⟨_, s05 _ _ h1, _, atI_1, u, rfl, false, kl, _, s05 _ _ h2, _, hl.same s05, by rw [List.length_map, List.length_map, hw.len], fun J W => ?_⟩
    refine lcr_none W ?_ (fun H' s => ⟨s _ _ (s05 _ _ h2), (hl.same s05).same s⟩) (fun _ _ _ _ y => YPair.same y) ?_ ?_
    · rw [List.length_map]
      exact Nat.lt_of_le_of_lt hwl (by decide)
    · rintro i x H6 H7 Qn Qy hi s6 ⟨T0, x1, y1, rfl, hT, rfl, e1, e2⟩ hn
      simp only [List.getElem?_map, Option.map_eq_some_iff] at e1 e2
      obtain ⟨x2, hx2, rfl⟩ := e1
      obtain ⟨y2, hy2, rfl⟩ := e2
      have sT := Same.new hT (o := .tup [V.int x2, V.int y2])
      walk_at "rd"
      refine ⟨.inr (.inr (wide_mul (a := 8000) (b := 1000) ?_ (z.bits _ (List.mem_of_getElem? hy2)) (by decide) (by decide) (by decide))), _, sT _ _ (s6 _ _ (s05 _ _ h1)), _, atI_0, m, rfl, by have := hw.three; omega, ?_⟩
      · have := hw.rng _ (List.mem_of_getElem? hx2)
        omega
      · rw [if_neg (fun h => h (hw.fit i _ _ hx2 hy2))]
        exact hn _ (Same.refl _)
    · rintro D H6 s6 hD hD6 p hp
      refine eqD_lst (ns := []) (ms := []) (by rw [upd_old hp (by rw [hD6]; simp)]; exact hD6) upd_same ?_
      rw [decide_eq_true rfl]
      exact q _ (s05.trans (s6.trans (Same.new hp)))
def sp_law_due (K : PySem.W.Frag) : Sp := fun vs H Q _ => ∃ (kl k : Bool) (l tg o sh : Addr) (ss ws ps : List Int) (gs : List (List Int)) (m r : Int), vs = [.ref l, .ref tg, .ref o, .ref sh] ∧ Sqh kl H l (ss.map V.int) ∧ TgtAt k H tg gs ∧ H o = some (.tup (ps.map V.int)) ∧ ShAt H sh m ws r ∧ Wit ss m ws r ∧ Sz ss ∧ m.natAbs < 2 ^ 8000 ∧ Seat ss ps ∧ (∀ g ∈ gs, Seat ss g) ∧
  (∀ g ∈ gs, dot ws g % m = r) ∧ dot ws ps % m ≠ r ∧ ∀ H', Same H H' → Q .non H'
theorem ok_law_due (T : Tx K mg) : FnOk P w K mg base CX0 2 T.f_law_due T.fd_law_due ["_law_sizes", "_law_goals_here", "_law_origin", "_law_sheet"] (sp_law_due K) := by
  refine T.F_law_due.ok sc_law_due (fun vs H Q E h => ?_) (fun cdv A outer s H vs Q E hr h => ?_)
  · obtain ⟨kl, k, l, tg, o, sh, ss, ws, ps, gs, m, r, rfl, _⟩ := h; rfl
  · obtain ⟨kl, k, l, tg, o, sh, ss, ws, ps, gs, m, r, rfl, hl, ⟨as, htg, hA⟩, ho, hsh, hw, z, hmb, hS, hgs, hres, hne, q⟩ := h
    refine ⟨_, (pss_cons (ps_if (pt_not (pt_val (pe_call (ok_law_is_witness T) (hr.mono (by decide)) (by rfl) T.g_law_is_witness T.F_law_is_witness.kp T.b_law_is_witness .nil pass0 (pa_cons (pv 0) (pa_cons (pv 3) pa_nil))))) (pss_one (ps_ret (pe_un un_neg pe_int))) pss_nil)
      (pss_cons (ps_for PassesOwn.never rfl (pi_enH (by rfl) T.n_enumerate (pa_cons (pv 1) pa_nil)) (pg_tupH (n := 2) rfl (pgs_cons (pg_name (i := 4) sc_law_due.nd rfl (Or.inl rfl)) (pgs_cons (pg_name (i := 5) sc_law_due.nd rfl (Or.inl rfl)) pgs_nil)))
        (pss_one (ps_if (pt_cmpR op_ne (pe_call (ok_law_value T) (hr.mono (by decide)) (by rfl) T.g_law_value T.F_law_value.kp T.b_law_value .nil pass0 (pa_cons (pv 3) (pa_cons (pv 5) pa_nil))) (pe_ix ix_tH (pv 3) pe_int (fun _ _ => rfl)) (nomark _)) (pss_one (ps_ret (pv 4))) pss_nil)))
      (pss_one (ps_ret (pe_ifExp (pt_cmpR op_eq (pe_call (ok_law_value T) (hr.mono (by decide)) (by rfl) T.g_law_value T.F_law_value.kp T.b_law_value .nil pass0 (pa_cons (pv 3) (pa_cons (pv 2) pa_nil))) (pe_ix ix_tH (pv 3) pe_int (fun _ _ => rfl)) (nomark _)) (pe_callB len_H (by rfl) T.n_len PySem.boot_len (pa_cons (pv 1) pa_nil)) pe_non))))), ?_⟩
    walk_at "rd"
    refine ⟨kl, l, sh, ss, ws, m, r, rfl, hl, hsh, hw, z, hmb, fun H1 s1 => ⟨true, rfl, ?_⟩⟩
    rw [if_neg (by decide)]
    have hm0 : 0 < m := by have := hw.three; omega
    have hw4 : ws.length ≤ 64 := by rw [hw.len]; have := z.hi; omega
    refine ⟨k, as.map V.ref, htg.same s1, fun J W => ?_⟩
    refine forr W (fun i σ H' => Same H H' ∧ ∃ v4 v5, σ = [some (V.ref l), some (V.ref tg), some (V.ref o), some (V.ref sh), v4, v5]) ⟨s1, none, none, rfl⟩ (fun i σ H' _ h => htg.same h.1) ?_ ?_
    · rintro i x σ2 H2 H3 hi ⟨s2, v4, v5, rfl⟩ ⟨T0, x1, rfl, hT, rfl, hx⟩
      simp only [List.getElem?_map, Option.map_eq_some_iff] at hx
      obtain ⟨a, ha, rfl⟩ := hx
      rw [List.length_map, hA.1] at hi
      have hg := List.getElem?_eq_getElem hi
      have hgm := List.getElem_mem hi
      have har := hA.2 i a _ ha hg
      have sT := Same.new hT (o := .tup [V.int (i : Nat), V.ref a])
      walk_at "rd"
      generalize upd H2 T0 (HO.tup [V.int (i : Nat), V.ref a]) = H3 at sT ⊢
      have s3 := s2.trans sT
      refine ⟨sh, a, m, r, ws, gs[i], rfl, hsh.same s3, s3 _ _ har, by rw [hw.len, (hgs _ hgm).len], hw4, hm0, mul_seat hw z hmb (hgs _ hgm), fun H4 s4 => ?_⟩
      obtain ⟨u, h1, h2⟩ := id hsh
      refine ⟨_, (s3.trans s4) _ _ h1, _, atI_2, rfl, ?_⟩
      rw [if_neg (fun h => h (by rw [hres _ hgm]))]
      exact s3.trans s4
    · rintro σ2 H2 ⟨s2, v4, v5, rfl⟩
      walk_at "rd"
      refine ⟨sh, o, m, r, ws, ps, rfl, hsh.same s2, s2 _ _ ho, by rw [hw.len, hS.len], hw4, hm0, mul_seat hw z hmb hS, fun H4 s4 => ?_⟩
      obtain ⟨u, h1, h2⟩ := id hsh
      refine ⟨_, (s2.trans s4) _ _ h1, _, atI_2, rfl, ?_⟩
      rw [if_neg (fun e => hne (by injection e))]
      exact q _ (s2.trans s4)
theorem flat_ints : ∀ ts : List Int, (ts.map V.int).all flatV = true
  | [] => rfl
  | t :: ts => by
    rw [List.map_cons, List.all_cons, flat_ints ts]
    rfl
theorem inV_ints (n : Int) : ∀ ts : List Int, inV (V.int n) (ts.map V.int) = decide (n ∈ ts)
  | [] => rfl
  | t :: ts => by
    have ih := inV_ints n ts
    unfold inV at ih ⊢
    rw [List.map_cons, List.any_cons, ih]
    show ((t == n) || decide (n ∈ ts)) = _
    by_cases h : t = n
    · subst h; simp
    · have : ¬ n = t := fun e => h e.symm
      simp [h, this]
/-! what reach answers, held against ('reachable',) -/
def foundD (ss : List Int) (gs : List (List Int)) (p : List Int) : PyData := match reachI ss gs p with
  | none => .tuple [.str "reachable"]
  | some c => .tuple [.str "unreachable", .tuple [.int (smallW (cosetI ss gs) (invC (shiftB ss gs) (cosetI ss gs) c c)), tupI (redW (cosetI ss gs) (invC (shiftB ss gs) (cosetI ss gs) c c)), .int (dot (redW (cosetI ss gs) (invC (shiftB ss gs) (cosetI ss gs) c c)) (gs.headD []) % smallW (cosetI ss gs) (invC (shiftB ss gs) (cosetI ss gs) c c))]]
theorem found_dp {H : Hp} {D : Addr} {ss : List Int} {gs : List (List Int)} {p : List Int} (h : RchAt H D ss gs p) : Dp K H (.ref D) (foundD ss gs p) := by
  unfold foundD
  rcases h with ⟨e, h1⟩ | ⟨c, u, r, e, h1, h2, h3⟩
  · rw [e]
    exact .tup (.inl (.inl h1)) (.cons (.str _) .nil)
  · rw [e]
    exact .tup (.inl (.inl h1)) (.cons (.str _) (.cons (.tup (.inl (.inl h2)) (.cons (.int _) (.cons (dp_tupI (.inl (.inl h3))) (.cons (.int _) .nil)))) .nil))
theorem word_shaped : SeqAt.shaped (.tuple [.str "reachable"]) = true := by decide +kernel
theorem word_eqv : PyData.eqv (.tuple [.str "reachable"]) (.tuple [.str "reachable"]) = true := by decide +kernel
theorem found_shaped (ss : List Int) (gs : List (List Int)) (p : List Int) : SeqAt.shaped (foundD ss gs p) = true := by
  unfold foundD
  cases reachI ss gs p with
  | none => exact word_shaped
  | some c =>
    have key : ∀ (m : Int) (ws : List Int) (r : Int), SeqAt.shaped (.tuple [.str "unreachable", .tuple [.int m, tupI ws, .int r]]) = true := fun m ws r => by
      have h1 : PyData.canLay0 (.tuple [.str "unreachable", .tuple [.int m, tupI ws, .int r]]) = true := by
        show (PyData.canLay0 (.str "unreachable") && ((true && (PyData.canLayAll0 (ws.map PyData.int) && (true && true))) && true)) = true
        rw [canLay_ints, show PyData.canLay0 (.str "unreachable") = true by decide +kernel]
        rfl
      have h2 : PyData.depth (.tuple [.str "unreachable", .tuple [.int m, tupI ws, .int r]]) ≤ 64 := by
        show max 0 (max (max 0 (max (PyData.depth (tupI ws)) (max 0 0)) + 1) 0) + 1 ≤ 64
        rw [depth_tupI]
        decide
      unfold SeqAt.shaped
      rw [h1, decide_eq_true h2]
      rfl
    exact key _ _ _
theorem found_eqv (ss : List Int) (gs : List (List Int)) (p : List Int) : PyData.eqv (foundD ss gs p) (.tuple [.str "reachable"]) = (reachI ss gs p).isNone := by
  unfold foundD
  cases reachI ss gs p with
  | none => exact word_eqv
  | some c =>
    have key : ∀ d : PyData, PyData.eqv (.tuple [.str "unreachable", d]) (.tuple [.str "reachable"]) = false := fun d => by
      show (PyData.eqv (.str "unreachable") (.str "reachable") && PyData.eqvAll [d] []) = false
      rw [show PyData.eqv (.str "unreachable") (.str "reachable") = false by decide +kernel]
      rfl
    exact key _
theorem found_eq {H : Hp} {D w : Addr} {ss : List Int} {gs : List (List Int)} {p : List Int} {Q : VK} (h : RchAt H D ss gs p) (hw : H w = some (.tup [.str "reachable"])) (q : Q (.bl (reachI ss gs p).isNone) H) : rEqD K (.ref D) (.ref w) H Q :=
  ⟨_, _, found_dp h, .tup (.inl (.inl hw)) (.cons (.str _) .nil), found_shaped _ _ _, word_shaped, by rw [found_eqv]; exact q⟩
theorem found_ne {H : Hp} {D w : Addr} {ss : List Int} {gs : List (List Int)} {p : List Int} {Q : VK} (h : RchAt H D ss gs p) (hw : H w = some (.tup [.str "reachable"])) (q : Q (.bl (!(reachI ss gs p).isNone)) H) : rNeD K (.ref D) (.ref w) H Q :=
  ⟨_, _, found_dp h, .tup (.inl (.inl hw)) (.cons (.str _) .nil), found_shaped _ _ _, word_shaped, by rw [found_eqv]; exact q⟩
theorem RchAt.same {H H' : Hp} {D : Addr} {ss : List Int} {gs : List (List Int)} {p : List Int} (s : Same H H') (h : RchAt H D ss gs p) : RchAt H' D ss gs p := by
  rcases h with ⟨e, h1⟩ | ⟨c, u, r, e, h1, h2, h3⟩
  · exact .inl ⟨e, s _ _ h1⟩
  · exact .inr ⟨c, u, r, e, s _ _ h1, s _ _ h2, s _ _ h3⟩
end

/-! ### the law's draws -/
section
variable {P : Program} {w : World} {K : PySem.W.Frag} {mg : Str → Option Value} {base : Heap}
def Src (H : Hp) (a : Addr) : Prop := ∃ s c d : Int, H a = some (.lst [.int s, .int c, .int d])
theorem Src.same {H H' : Hp} {a : Addr} (e : Same H H') (h : Src H a) : Src H' a := by
  obtain ⟨s, c, d, h⟩ := h
  exact ⟨s, c, d, e _ _ h⟩
theorem Src.ne {H : Hp} {a p : Addr} (h : Src H a) (hp : H p = none) : p ≠ a := fun e => by
  obtain ⟨s, c, d, h⟩ := h
  rw [e, h] at hp
  cases hp
theorem upd_none_of {H : Hp} {p q : Addr} {o : HO} (h : upd H p o q = none) : H q = none ∧ q ≠ p := by
  unfold upd at h
  by_cases e : q = p
  · rw [if_pos e] at h; cases h
  · rw [if_neg e] at h; exact ⟨h, e⟩
theorem Src.put {H : Hp} {a p : Addr} {o : HO} (h : Src H a) (n : a ≠ p) : Src (upd H p o) a := by
  obtain ⟨s, c, d, h⟩ := h
  exact ⟨s, c, d, by rw [upd_ne n]; exact h⟩
def sp_law_mixed (K : PySem.W.Frag) : Sp := fun vs H Q _ => ∃ c d : Int, vs = [.int c, .int d] ∧ ∀ r : Int, Q (.int r) H
theorem ok_law_mixed (T : Tx K mg) : FnOk P w K mg base CX0 1 T.f_law_mixed T.fd_law_mixed ["_law_cell", "_law_draw"] (sp_law_mixed K) := by
  refine T.F_law_mixed.ok sc_law_mixed (fun vs H Q E h => ?_) (fun cdv A outer s H vs Q E hr h => ?_)
  · obtain ⟨c, d, rfl, _⟩ := h; rfl
  · obtain ⟨c, d, rfl, q⟩ := h
    refine ⟨_, (pss_cons (ps_set (i := 2) sc_law_mixed.nd rfl (Or.inl rfl) (pe_op op_mod (pe_op op_mulA (pe_op op_add (pe_op op_mod (pv 0) pe_int) pe_int) (pe_op op_add (pe_op op_mulA (pv 1) pe_int) pe_int)) pe_int))
      (pss_cons (ps_set (i := 2) sc_law_mixed.nd rfl (Or.inl rfl) (pe_op op_mod (pe_op op_mulA (pe_op op_add (pv 2) (pe_op op_mulA (pe_op op_mod (pe_op op_fdivW (pv 0) pe_int) pe_int) (pe_op op_add (pv 1) pe_int))) pe_int) pe_int))
      (pss_cons (ps_set (i := 2) sc_law_mixed.nd rfl (Or.inl rfl) (pe_op op_mod (pe_op op_mulA (pv 2) (pe_op op_add (pe_op op_add (pe_op op_fdivW (pv 2) pe_int) pe_int) (pv 1))) pe_int))
      (pss_one (ps_ret (pe_op op_mod (pe_op op_mulA (pv 2) (pe_op op_add (pe_op op_fdivW (pv 2) pe_int) pe_int)) pe_int)))))), ?_⟩
    walk_at "rd"
    refine ⟨.inr (.inl (by decide)), .inl ?_, .inl ?_, .inr (.inl (by decide)), .inl ?_, .inl ?_, q _⟩
    · omega
    · omega
    · generalize ((c % 2147483646 + 1) * (d * 7919 + 104729) % 2147483647 + c / 2147483646 % 1000003 * (d + 31)) * 48271 = z
      omega
    · generalize ((c % 2147483646 + 1) * (d * 7919 + 104729) % 2147483647 + c / 2147483646 % 1000003 * (d + 31)) * 48271 % 2147483629 * (((c % 2147483646 + 1) * (d * 7919 + 104729) % 2147483647 + c / 2147483646 % 1000003 * (d + 31)) * 48271 % 2147483629 / 1013 + 69621 + d) = z
      omega
def sp_law_take (K : PySem.W.Frag) : Sp := fun vs H Q _ => ∃ (a : Addr) (n : Int), vs = [.ref a, .int n] ∧ Src H a ∧ 0 < n ∧ n.natAbs < 2 ^ 8000 ∧ ∀ H' r, Sx a H H' → Src H' a → 0 ≤ r → r < n → Q (.int r) H'
theorem ok_law_take (T : Tx K mg) : FnOk P w K mg base CX0 2 T.f_law_take T.fd_law_take ["_law_source_here", "_law_count"] (sp_law_take K) := by
  refine T.F_law_take.ok sc_law_take (fun vs H Q E h => ?_) (fun cdv A outer s H vs Q E hr h => ?_)
  · obtain ⟨a, n, rfl, _⟩ := h; rfl
  · obtain ⟨a, n, rfl, ⟨s, c, d, hs⟩, hn, hb, q⟩ := h
    refine ⟨_, (pss_cons (ps_if (pt_cmpR op_ge (pe_ix ix_lH (pv 0) pe_int (fun _ _ => rfl)) (pe_op op_pow pe_int pe_int) (nomark _)) (pss_cons (ps_set (i := 2) sc_law_take.nd rfl (Or.inl rfl) (pe_op op_mod (pe_ix ix_lH (pv 0) pe_int (fun _ _ => rfl)) (pv 1)))
        (pss_cons (ps_asg (pe_op op_fdivW (pe_ix ix_lH (pv 0) pe_int (fun _ _ => rfl)) (pv 1)) (pg_sub (pv 0) pe_int set_lH))
        (pss_one (ps_ret (pv 2))))) pss_nil)
      (pss_cons (ps_asg (pe_op op_add (pe_ix ix_lH (pv 0) pe_int (fun _ _ => rfl)) pe_int) (pg_sub (pv 0) pe_int set_lH))
      (pss_one (ps_ret (pe_op op_mod (pe_call (ok_law_mixed T) (hr.mono (by decide)) (by rfl) T.g_law_mixed T.F_law_mixed.kp T.b_law_mixed .nil pass0 (pa_cons (pe_ix ix_lH (pv 0) pe_int (fun _ _ => rfl)) (pa_cons (pe_ix ix_lH (pv 0) pe_int (fun _ _ => rfl)) pa_nil))) (pv 1)))))), ?_⟩
    walk_at "rh"
    by_cases h : 1000000000000000000 ≤ s
    · rw [if_pos h]
      exact ⟨wide_div hn hb (by decide) (by decide), q _ _ Sx.put ⟨s / n, c, d, upd_same⟩ (Int.emod_nonneg _ (by omega)) (Int.emod_lt_of_pos _ hn)⟩
    · rw [if_neg h]
      refine ⟨c, d + 1, rfl, fun r => ?_⟩
      walk_at "rd"
      exact q _ _ Sx.put ⟨s, c, d + 1, upd_same⟩ (Int.emod_nonneg _ (by omega)) (Int.emod_lt_of_pos _ hn)
theorem take_small {n : Int} (h : 0 < n) (h2 : n < 2 ^ 64) : n.natAbs < 2 ^ 8000 := Nat.lt_of_lt_of_le (by omega : n.natAbs < 2 ^ 64) (Nat.pow_le_pow_right (by decide) (by decide))
def sp_law_source (K : PySem.W.Frag) : Sp := fun vs H Q _ => ∃ c : Int, vs = [.int c] ∧ ∀ H' a, Same H H' → H a = none → Src H' a → Q (.ref a) H'
theorem ok_law_source (T : Tx K mg) : FnOk P w K mg base CX0 1 T.f_law_source T.fd_law_source ["_law_cell"] (sp_law_source K) := by
  refine T.F_law_source.ok sc_law_source (fun vs H Q E h => ?_) (fun cdv A outer s H vs Q E hr h => ?_)
  · obtain ⟨c, rfl, _⟩ := h; rfl
  · obtain ⟨c, rfl, q⟩ := h
    refine ⟨_, (pss_one (ps_ret (pe_lst (pa_cons (pv 0) (pa_cons (pv 0) (pa_cons pe_int pa_nil)))))), ?_⟩
    walk_at "rd"
    intro p hp
    exact q _ p (Same.new hp) hp ⟨_, _, _, upd_same⟩
/-- a comprehension whose elements draw -/
theorem lcr_draw {J : It} {n : Nat} {G : Hp → Prop} {Y : Nat → Hp → V → Hp → Prop} (w : Walk J n G Y) {g : TG} {te : TE} {vs : List Nat} {σ : L2.St} {H1 : Hp} {Q : VK} {a : Addr} (R : Nat → V → Prop) (hs1 : Src H1 a) (hn : n ≤ sizeLine)
    (hG : ∀ H, Sx a H1 H → G H) (hY : ∀ i x H H', Y i H x H' → Same H H')
    (hs : ∀ i x H H' (Qy : VK), i < n → Sx a H1 H → Src H' a → Y i H x H' → (∀ y H4, Sx a H' H4 → Src H4 a → R i y → Qy y H4) → g x (wipe σ vs) H' fun σ2 H2 => wipe σ2 vs = wipe σ vs ∧ te σ2 H2 Qy)
    (hd : ∀ D acc H, H1 D = none → Sx a H1 H → Src H a → acc.length = n → (∀ (i : Nat) y, acc[i]? = some y → R i y) → H D = some (.lst acc) → Q (.ref D) H) : LcR J g tYes te vs σ H1 Q := fun D hD => by
  have nDa : D ≠ a := hs1.ne hD
  refine lc_gen w (fun i acc H => Sx a H1 H ∧ Src H a ∧ acc.length = i ∧ ∀ (j : Nat) y, acc[j]? = some y → R j y) hn ⟨Sx.of (Same.new hD), hs1.same (Same.new hD), rfl, fun j y h => by simp at h⟩ (fun i acc H _ h _ => hG H h.1) (fun i acc H l h _ => ⟨fun b o nb e => ?_, h.2.1.put nDa.symm, h.2.2⟩) (fun i acc x H H' Qy hi ha h e hy hq => ?_) (fun acc H ha h e => hd D acc H hD h.1 h.2.1 ha h.2.2.2 e)
  · rw [upd_ne (ne_some e hD)]
    exact h.1 b o nb e
  · refine hs i x H H' Qy hi h.1 (h.2.1.same (hY _ _ _ _ hy)) hy fun y H4 s4 hs4 hR => hq y H4 (s4 _ _ nDa (hY _ _ _ _ hy _ _ e)) ⟨(h.1.trans (Sx.of (hY _ _ _ _ hy))).trans s4, hs4, by rw [List.length_append, h.2.2.1]; rfl, fun j z hj => ?_⟩
    by_cases hlt : j < acc.length
    · rw [List.getElem?_append_left hlt] at hj
      exact h.2.2.2 j z hj
    · rw [List.getElem?_append_right (by omega)] at hj
      cases hk : j - acc.length with
      | zero =>
        rw [hk] at hj
        have e1 : j = i := by omega
        rw [e1]
        simp only [List.getElem?_cons_zero, Option.some.injEq] at hj
        rw [← hj]; exact hR
      | succ m => rw [hk] at hj; simp at hj
theorem ints_of {acc : List V} {R : Nat → Int → Prop} (h : ∀ (i : Nat) y, acc[i]? = some y → ∃ n, y = V.int n ∧ R i n) : ∃ ns : List Int, acc = ns.map V.int ∧ ∀ (i : Nat) n, ns[i]? = some n → R i n := by
  have key : ∀ (acc : List V) (k : Nat), (∀ (i : Nat) y, acc[i]? = some y → ∃ n, y = V.int n ∧ R (i + k) n) → ∃ ns : List Int, acc = ns.map V.int ∧ ∀ (i : Nat) n, ns[i]? = some n → R (i + k) n := by
    intro acc
    induction acc with
    | nil => intro k _; exact ⟨[], rfl, fun i n h => by simp at h⟩
    | cons x r ih =>
      intro k h
      obtain ⟨n, e, hn⟩ := h 0 x rfl
      obtain ⟨ns, e2, h2⟩ := ih (k + 1) fun i y hy => by
        obtain ⟨m, e3, h3⟩ := h (i + 1) y hy
        exact ⟨m, e3, by rw [show i + (k + 1) = i + 1 + k by omega]; exact h3⟩
      refine ⟨n :: ns, by rw [e, e2]; rfl, fun i m hm => ?_⟩
      cases i with
      | zero =>
        simp only [List.getElem?_cons_zero, Option.some.injEq] at hm
        rw [← hm]; exact hn
      | succ i =>
        have := h2 i m hm
        rw [show i + (k + 1) = i + 1 + k by omega] at this
        exact this
  obtain ⟨ns, e, h2⟩ := key acc 0 (fun i y hy => h i y hy)
  exact ⟨ns, e, fun i n hn => h2 i n hn⟩
/-- a list of ints at an index that is drawn -/
theorem atI_ints {ns : List Int} {i : Int} (h0 : 0 ≤ i) (h1 : i < ns.length) : ∃ n, n ∈ ns ∧ atI (ns.map V.int) i = some (.int n) := by
  obtain ⟨v, hv, e⟩ := atI_in (xs := ns.map V.int) h0 (by rw [List.length_map]; exact h1)
  obtain ⟨n, hn, rfl⟩ := List.mem_map.mp hv
  exact ⟨n, hn, e⟩
end

section
variable {K : PySem.W.Frag}
theorem Src.ne_of {H : Hp} {a p : Addr} {o : HO} (h : Src H a) (hp : H p = some o) (d : ∀ x y z : Int, o ≠ .lst [.int x, .int y, .int z]) : p ≠ a := fun e => by
  obtain ⟨x, y, z, h⟩ := h
  rw [e, h] at hp
  exact d x y z (Option.some.inj hp).symm
theorem TabAt.sx {C : Addr} {H H' : Hp} {a b : Addr} {ss : List Int} (h : TabAt C H b ss) (hs : Src H a) (s : Sx a H H') : TabAt C H' b ss := by
  obtain ⟨dx, t, h1, h2⟩ := h
  exact ⟨dx, t, s _ _ (hs.ne_of h1 fun _ _ _ => by simp) h1, s _ _ (hs.ne_of h2 fun _ _ _ => by simp) h2⟩
end

section
variable {P : Program} {w : World} {K : PySem.W.Frag} {mg : Str → Option Value} {base : Heap}
theorem _root_.Cs.AsT.keep {H : Hp} {M : Addr} {xs : List V} {o : HO} {as : List Addr} {hs : List (List Int)} (h : AsT H as hs) (hM : H M = some (.lst xs)) : AsT (upd H M o) as hs := ⟨h.1, fun i t g h1 h2 => by
  have h3 := h.2 i t g h1 h2
  rw [upd_ne (ne_two h3 hM (by simp))]
  exact h3⟩
theorem _root_.Cs.AsT.app {H : Hp} {as bs : List Addr} {gs hs : List (List Int)} (h1 : AsT H as gs) (h2 : AsT H bs hs) : AsT H (as ++ bs) (gs ++ hs) := by
  refine ⟨by rw [List.length_append, List.length_append, h1.1, h2.1], fun i t g e1 e2 => ?_⟩
  by_cases hlt : i < as.length
  · rw [List.getElem?_append_left hlt] at e1
    rw [List.getElem?_append_left (by rw [← h1.1]; exact hlt)] at e2
    exact h1.2 i t g e1 e2
  · rw [List.getElem?_append_right (by omega)] at e1
    rw [List.getElem?_append_right (by rw [← h1.1]; omega), ← h1.1] at e2
    exact h2.2 _ t g e1 e2
theorem _root_.Cs.AsT.part {H : Hp} {as : List Addr} {hs : List (List Int)} (h : AsT H as hs) (d n : Nat) : AsT H ((as.drop d).take n) ((hs.drop d).take n) := by
  refine ⟨by rw [List.length_take, List.length_take, List.length_drop, List.length_drop, h.1], fun i t g e1 e2 => ?_⟩
  rw [List.getElem?_take] at e1 e2
  split at e1
  · rename_i hi
    rw [if_pos hi] at e2
    rw [List.getElem?_drop] at e1 e2
    exact h.2 _ t g e1 e2
  · cases e1
theorem cut_to {xs : List V} {n : Nat} (h : n ≤ xs.length) : cutV xs none (some (n : Int)) = xs.take n := by
  have e : HT.sIx xs.length xs.length (some (n : Int)) = n := by
    show (if (n : Int) < 0 then ((n : Int) + (xs.length : Int)).toNat else min (n : Int).toNat xs.length) = n
    rw [if_neg (by omega)]
    omega
  unfold cutV
  rw [e, show HT.sIx xs.length 0 none = 0 from rfl, List.drop_zero, Nat.sub_zero]
theorem cut_from {xs : List V} {n : Nat} (h : n ≤ xs.length) : cutV xs (some (n : Int)) none = xs.drop n := by
  have e : HT.sIx xs.length 0 (some (n : Int)) = n := by
    show (if (n : Int) < 0 then ((n : Int) + (xs.length : Int)).toNat else min (n : Int).toNat xs.length) = n
    rw [if_neg (by omega)]
    omega
  unfold cutV
  rw [e, show HT.sIx xs.length xs.length none = xs.length from rfl, List.take_of_length_le (by rw [List.length_drop]; omega)]
theorem cut_two {H : Hp} {L R : Addr} {gs ps : List (List Int)} {f : List Int → List Int} (hL : LstT H L gs) (hR : LstT H R ((gs ++ ps).map f)) :
    ∃ as ms : List Addr, H L = some (.lst (as.map V.ref)) ∧ H R = some (.lst (ms.map V.ref)) ∧ ∀ p, H p = none → (upd H p (HO.lst (cutV (ms.map V.ref) none (some ((as.map V.ref).length : Int))))) L = some (.lst (as.map V.ref)) ∧
      (upd H p (HO.lst (cutV (ms.map V.ref) none (some ((as.map V.ref).length : Int))))) R = some (.lst (ms.map V.ref)) ∧ ∀ p1, (upd H p (HO.lst (cutV (ms.map V.ref) none (some ((as.map V.ref).length : Int))))) p1 = none →
        ∀ H', H' = upd (upd H p (HO.lst (cutV (ms.map V.ref) none (some ((as.map V.ref).length : Int))))) p1 (HO.lst (cutV (ms.map V.ref) (some ((as.map V.ref).length : Int)) none)) → Same H H' ∧ LstT H' p (gs.map f) ∧ LstT H' p1 (ps.map f) := by
  obtain ⟨as, hLa, hA⟩ := hL
  obtain ⟨ms, hM6a, hms⟩ := hR
  have hml : ms.length = gs.length + ps.length := by rw [hms.1, List.length_map, List.length_append]
  have hn : (as.map V.ref).length = gs.length := by rw [List.length_map, hA.1]
  refine ⟨as, ms, hLa, hM6a, fun p hp => ?_⟩
  rw [hn, cut_to (by rw [List.length_map]; omega), cut_from (by rw [List.length_map]; omega), ← List.map_take, ← List.map_drop]
  have s7 := Same.new hp (o := .lst ((ms.take gs.length).map V.ref))
  have f7 : (upd H p (.lst ((ms.take gs.length).map V.ref))) p = some (.lst ((ms.take gs.length).map V.ref)) := upd_same
  generalize upd H p (HO.lst ((ms.take gs.length).map V.ref)) = H7 at s7 f7 ⊢
  refine ⟨s7 _ _ hLa, s7 _ _ hM6a, fun p2 hp2 H' e => ?_⟩
  have s8 := Same.new hp2 (o := .lst ((ms.drop gs.length).map V.ref))
  have f8 : (upd H7 p2 (.lst ((ms.drop gs.length).map V.ref))) p2 = some (.lst ((ms.drop gs.length).map V.ref)) := upd_same
  rw [← e] at s8 f8
  have hms8 := (hms.same s7).same s8
  refine ⟨s7.trans s8, ⟨_, s8 _ _ f7, ?_⟩, ⟨_, f8, ?_⟩⟩
  · have := hms8.part 0 gs.length
    rw [List.drop_zero, List.drop_zero, List.map_append, List.take_left' (by rw [List.length_map])] at this
    exact this
  · have := hms8.part gs.length ms.length
    rw [List.take_of_length_le (by rw [List.length_drop]; omega), List.take_of_length_le (by rw [List.length_drop, List.length_map, List.length_append]; omega), List.map_append, List.drop_left' (by rw [List.length_map])] at this
    exact this
theorem app_get {H : Hp} {C : Addr} {as bs : List Addr} (h : H C = some (.lst (as.map V.ref ++ bs.map V.ref))) : H C = some (.lst ((as ++ bs).map V.ref)) := by rw [h, List.map_append]
end

/-! ### comprehensions that make lists of tuples of ints -/
section
variable {P : Program} {w : World} {K : PySem.W.Frag} {mg : Str → Option Value} {base : Heap}
theorem lcr_tups {J : It} {n : Nat} {G : Hp → Prop} {Y : Nat → Hp → V → Hp → Prop} (w : Walk J n G Y) {g : TG} {te : TE} {vs : List Nat} {σ : L2.St} {H1 : Hp} {Q : VK} (f : Nat → List Int) (hn : n ≤ 1000)
    (hG : ∀ H, Same H1 H → G H) (hY : ∀ i x H H', Y i H x H' → Same H H')
    (hs : ∀ i x H H' (Qy : VK), i < n → Same H1 H → Y i H x H' → (∀ t H4, Same H' H4 → H4 t = some (.tup ((f i).map V.int)) → Qy (.ref t) H4) → g x (wipe σ vs) H' fun σ2 H2 => wipe σ2 vs = wipe σ vs ∧ te σ2 H2 Qy)
    (hd : ∀ D H, H1 D = none → Same H1 H → LstT H D ((List.range n).map f) → Q (.ref D) H) : LcR J g tYes te vs σ H1 Q := fun D hD => by
  refine lc_gen w (fun i acc H => Same H1 H ∧ (∃ ys, H D = some (.lst ys)) ∧ ∃ as, acc = as.map V.ref ∧ AsT H as ((List.range i).map f)) (Nat.le_trans hn (by decide)) ⟨Same.new hD, ⟨_, upd_same⟩, [], rfl, AsT.nil⟩ (fun i acc H _ h _ => hG H h.1) (fun i acc H l h _ => ?_) (fun i acc x H H' Qy hi ha h e hy hq => ?_) (fun acc H ha h e => ?_)
  · obtain ⟨h1, ⟨ys, h2⟩, as, h3, h4⟩ := h
    exact ⟨fun b o hb => by rw [upd_ne (ne_some hb hD)]; exact h1 _ _ hb, ⟨_, upd_same⟩, as, h3, h4.keep h2⟩
  · obtain ⟨h1, ⟨ys, h2⟩, as, h3, h4⟩ := h
    refine hs i x H H' Qy hi h1 hy fun t H4 s4 h5 => ?_
    have s04 := (hY _ _ _ _ hy).trans s4
    refine hq (.ref t) H4 (s04 _ _ e) ⟨h1.trans s04, ⟨_, s04 _ _ h2⟩, as ++ [t], by rw [h3, List.map_append]; rfl, ?_⟩
    rw [List.range_succ, List.map_append]
    exact (h4.same s04).snoc h5
  · obtain ⟨h1, _, as, h3, h4⟩ := h
    exact hd D H hD h1 ⟨as, by rw [← h3]; exact e, h4⟩
theorem lcr_tupsD {J : It} {n : Nat} {G : Hp → Prop} {Y : Nat → Hp → V → Hp → Prop} (w : Walk J n G Y) {g : TG} {te : TE} {vs : List Nat} {σ : L2.St} {H1 : Hp} {Q : VK} {a : Addr} (R : List Int → Prop) (hs1 : Src H1 a) (hn : n ≤ 1000)
    (hG : ∀ H, Sx a H1 H → G H) (hY : ∀ i x H H', Y i H x H' → Same H H')
    (hs : ∀ i x H H' (Qy : VK), i < n → Sx a H1 H → Src H' a → Y i H x H' → (∀ t z H4, Sx a H' H4 → Src H4 a → R z → H4 t = some (.tup (z.map V.int)) → Qy (.ref t) H4) → g x (wipe σ vs) H' fun σ2 H2 => wipe σ2 vs = wipe σ vs ∧ te σ2 H2 Qy)
    (hd : ∀ D zs H, H1 D = none → Sx a H1 H → Src H a → zs.length = n → (∀ z ∈ zs, R z) → LstT H D zs → Q (.ref D) H) : LcR J g tYes te vs σ H1 Q := fun D hD => by
  have nDa : D ≠ a := hs1.ne hD
  refine lc_gen w (fun i acc H => Sx a H1 H ∧ Src H a ∧ (∃ ys, H D = some (.lst ys)) ∧ ∃ as zs, acc = as.map V.ref ∧ AsT H as zs ∧ zs.length = i ∧ ∀ z ∈ zs, R z) (Nat.le_trans hn (by decide)) ⟨Sx.of (Same.new hD), hs1.same (Same.new hD), ⟨_, upd_same⟩, [], [], rfl, AsT.nil, rfl, by simp⟩ (fun i acc H _ h _ => hG H h.1) (fun i acc H l h _ => ?_) (fun i acc x H H' Qy hi ha h e hy hq => ?_) (fun acc H ha h e => ?_)
  · obtain ⟨h1, h1s, ⟨ys, h2⟩, as, zs, h3, h4, h5, h6⟩ := h
    exact ⟨fun b o nb hb => by rw [upd_ne (ne_some hb hD)]; exact h1 _ _ nb hb, h1s.put nDa.symm, ⟨_, upd_same⟩, as, zs, h3, h4.keep h2, h5, h6⟩
  · obtain ⟨h1, h1s, ⟨ys, h2⟩, as, zs, h3, h4, h5, h6⟩ := h
    have sy := hY _ _ _ _ hy
    refine hs i x H H' Qy hi h1 (h1s.same sy) hy fun t z H4 s4 hs4 hz ht => ?_
    have h4' := h4.same sy
    have h44 : AsT H4 as zs := ⟨h4'.1, fun j t g e1 e2 => by
      have e3 := h4'.2 j t g e1 e2
      exact s4 _ _ ((h1s.same sy).ne_of e3 fun _ _ _ => by simp) e3⟩
    refine hq (.ref t) H4 (s4 _ _ nDa (sy _ _ e)) ⟨(h1.trans (Sx.of sy)).trans s4, hs4, ⟨_, s4 _ _ nDa (sy _ _ h2)⟩, as ++ [t], zs ++ [z], by rw [h3, List.map_append]; rfl, h44.snoc ht, by rw [List.length_append, h5]; rfl, fun y hy2 => ?_⟩
    rcases List.mem_append.mp hy2 with h | h
    · exact h6 y h
    · rw [List.mem_singleton.mp h]; exact hz
  · obtain ⟨h1, h1s, _, as, zs, h3, h4, h5, h6⟩ := h
    exact hd D zs H hD h1 h1s h5 h6 ⟨as, by rw [← h3]; exact e, h4⟩
theorem range_get {α : Type} (l : List (List Int)) (f : List Int → List Int) : (List.range l.length).map (fun i => f (l.getD i [])) = l.map f := by
  refine List.ext_getElem (by simp) fun i h1 h2 => ?_
  simp only [List.length_map, List.length_range] at h1
  rw [List.getElem_map, List.getElem_map, List.getElem_range, List.getD_eq_getElem?_getD, List.getElem?_eq_getElem h1]
  rfl
theorem range_getI (l : List Int) (f : Int → List Int) : (List.range l.length).map (fun i => f (l.getD i 0)) = l.map f := by
  refine List.ext_getElem (by simp) fun i h1 h2 => ?_
  simp only [List.length_map, List.length_range] at h1
  rw [List.getElem_map, List.getElem_map, List.getElem_range, List.getD_eq_getElem?_getD, List.getElem?_eq_getElem h1]
  rfl
end

/-! ### all seats, as the laws make them -/
section
variable {P : Program} {w : World} {K : PySem.W.Frag} {mg : Str → Option Value} {base : Heap}
theorem catA_ints {H : Hp} {a b : Addr} {xs ys : List Int} {Q : VK} (h1 : H a = some (.tup (xs.map V.int))) (h2 : H b = some (.tup (ys.map V.int))) (hz : xs.length + ys.length ≤ 1000) (q : ∀ c H', Same H H' → H' c = some (.tup ((xs ++ ys).map V.int)) → Q (.ref c) H') : rCatA K (.ref a) (.ref b) H Q := by
  refine ⟨a, b, _, _, rfl, rfl, .inl (.inl h1), .inl (.inl h2), by rw [List.length_map, List.length_map]; exact Nat.le_trans hz (by decide), fun e => ?_, fun _ e => ?_, fun _ _ p hp => ?_⟩
  · obtain rfl := List.map_eq_nil_iff.mp e
    exact q b H (Same.refl _) h2
  · obtain rfl := List.map_eq_nil_iff.mp e
    refine q a H (Same.refl _) ?_
    rw [List.append_nil]
    exact h1
  · refine q p _ (Same.new hp) ?_
    rw [upd_same, List.map_append]
theorem slA_ints {H : Hp} {a : Addr} {xs ys : List Int} {lo hi : Option Int} {Q : VK} (h1 : H a = some (.tup (xs.map V.int))) (e : cutV (xs.map V.int) lo hi = ys.map V.int) (q : ∀ c H', Same H H' → H' c = some (.tup (ys.map V.int)) → Q (.ref c) H') : rSlA K (.ref a) lo hi H Q := by
  refine ⟨a, _, rfl, .inl (.inl h1), fun hw => ?_, fun _ p hp => ?_⟩
  · refine q a H (Same.refl _) ?_
    rw [← e]
    unfold cutV
    rw [hw.1, hw.2, List.drop_zero, Nat.sub_zero, List.take_length]
    exact h1
  · refine q p _ (Same.new hp) ?_
    rw [upd_same, e]
theorem cut_take {xs : List Int} {n : Nat} : cutV (xs.map V.int) none (some (n : Int)) = (xs.take n).map V.int := by
  unfold cutV
  rw [HT.sIx_none, HT.sIx_nat]
  show ((xs.map V.int).drop 0).take (min n (xs.map V.int).length - 0) = _
  rw [List.drop_zero, Nat.sub_zero, List.map_take, List.length_map]
  by_cases h : n ≤ xs.length
  · rw [Nat.min_eq_left h]
  · rw [Nat.min_eq_right (by omega), List.take_of_length_le (by rw [List.length_map]; omega), List.take_of_length_le (by rw [List.length_map]; omega)]
theorem cut_drop {xs : List Int} {n : Nat} (h : n ≤ xs.length) : cutV (xs.map V.int) (some (n : Int)) none = (xs.drop n).map V.int := by
  unfold cutV
  rw [HT.sIx_nat, HT.sIx_none, List.length_map, Nat.min_eq_left h, List.map_drop]
  rw [List.take_of_length_le]
  rw [List.length_drop, List.length_map]
  exact Nat.le_refl _

/-- every seat -/
def rngI (s : Int) : List Int := (List.range s.toNat).map fun (i : Nat) => (i : Int)
def allI (ss : List Int) : List (List Int) := choI (ss.map rngI)
/-- behind j of the rows that are made longer -/
def ExtAt (H3 : Hp) (D : Addr) (found : List (List Int)) (parts : List Int) (j : Nat) (H' : Hp) : Prop := Same H3 H' ∧ ∃ bs : List Addr, H' D = some (.lst (bs.map V.ref)) ∧ AsT H' bs (choF (found.take j) parts)
theorem ExtAt.init {H3 : Hp} {D : Addr} {found : List (List Int)} {parts : List Int} (hD : H3 D = none) : ExtAt H3 D found parts 0 (upd H3 D (.lst [])) := ⟨Same.new hD, [], upd_same, AsT.nil⟩
theorem choF_more {found : List (List Int)} {parts : List Int} {j : Nat} {h : List Int} (e : found[j]? = some h) : choF (found.take (j + 1)) parts = choF (found.take j) parts ++ parts.map fun x => h ++ [x] := by
  unfold choF
  rw [List.take_add_one, e, List.flatMap_append]
  simp
theorem ExtAt.step {H3 H' H4 : Hp} {D D2 : Addr} {found : List (List Int)} {parts : List Int} {j : Nat} {h : List Int} (hD : H3 D = none) (k : ExtAt H3 D found parts j H') (e : found[j]? = some h) (s : Same H' H4) (hL : LstT H4 D2 (parts.map fun x => h ++ [x])) (hz : found.length * parts.length ≤ 1000) :
    ∃ ys zs, H4 D = some (.lst ys) ∧ H4 D2 = some (.lst zs) ∧ ys.length + zs.length ≤ sizeLine ∧ ExtAt H3 D found parts (j + 1) (upd H4 D (.lst (ys ++ zs))) := by
  obtain ⟨s1, bs, hb, hA⟩ := k
  obtain ⟨cs, hc, hC⟩ := hL
  have hb4 := s _ _ hb
  have hA2 := (hA.same s).app hC
  refine ⟨_, _, hb4, hc, ?_, ?_, bs ++ cs, by rw [upd_same, List.map_append], ?_⟩
  · have l1 := hA2.1
    rw [← choF_more e, choF_len] at l1
    rw [List.length_map, List.length_map, ← List.length_append, l1]
    refine Nat.le_trans (Nat.mul_le_mul_right _ (?_ : _ ≤ found.length)) (Nat.le_trans hz (by decide))
    rw [List.length_take]
    omega
  · intro b o hb2
    rw [upd_ne (ne_some hb2 hD)]
    exact s _ _ (s1 _ _ hb2)
  · rw [choF_more e]
    exact hA2.keep hb4
theorem allI_take {ss : List Int} {i : Nat} {s : Int} (h : ss[i]? = some s) : allI (ss.take (i + 1)) = choF (allI (ss.take i)) (rngI s) := by
  unfold allI choI
  rw [List.map_take, List.map_take]
  exact cho_take (by rw [List.getElem?_map, h]; rfl)
theorem allI_cnt (ss : List Int) : allI ss = (List.range (Cs.cnt (toN ss))).map (iS (toN ss)) := by
  rw [← cho_iS]
  unfold allI toN
  rw [List.map_map]
  rfl
theorem allI_few {ss : List Int} (z : Sz ss) (h : prodI ss ≤ 1000) (i : Nat) : (allI (ss.take i)).length ≤ 1000 := by
  rw [allI_cnt, List.length_map, List.length_range]
  have h1 := cnt_prod z.pos
  have h2 := (Cs.cnt_take (ss := toN ss) (fun n hn => by
    obtain ⟨x, hx, rfl⟩ := List.mem_map.mp hn
    have := z.pos x hx
    omega) i).1
  have h3 : toN (ss.take i) = (toN ss).take i := by unfold toN; rw [List.map_take]
  rw [h3]
  omega
theorem sz_900 {ss : List Int} (z : Sz ss) (h : prodI ss ≤ 900) : ∀ s ∈ ss, 0 ≤ s ∧ s ≤ 900 := fun s hs => by
  have h1 := cnt_prod z.pos
  have h2 := Lw.mem_cnt (s := s.toNat) (ss := toN ss) (fun n hn => by
    obtain ⟨x, hx, rfl⟩ := List.mem_map.mp hn
    have := z.pos x hx
    omega) (List.mem_map.mpr ⟨s, hs, rfl⟩)
  have := z.pos s hs
  omega
end

section
variable {P : Program} {w : World} {K : PySem.W.Frag} {mg : Str → Option Value} {base : Heap}
def MAl (l : Addr) (ss : List Int) (i : Nat) (H : Hp) (σ : L2.St) (H' : Hp) : Prop := ∃ (L : Addr) (v2 v3 v4 v5 : Option V), σ = [some (V.ref l), some (V.ref L), v2, v3, v4, v5] ∧ Same H H' ∧ LstT H' L (allI (ss.take i))
def MAi (l L D : Addr) (s : Int) (found : List (List Int)) (H3 : Hp) (j : Nat) (σ : L2.St) (H' : Hp) : Prop := ∃ (v4 v5 : Option V), σ = [some (V.ref l), some (V.ref L), some (V.int s), some (V.ref D), v4, v5] ∧ ExtAt H3 D found (rngI s) j H'
def sp_law_all (K : PySem.W.Frag) : Sp := fun vs H Q _ => ∃ (k : Bool) (l : Addr) (ss : List Int), vs = [.ref l] ∧ Sqh k H l (ss.map V.int) ∧ Sz ss ∧ prodI ss ≤ 900 ∧ ∀ H' L, Same H H' → LstT H' L (allI ss) → Q (.ref L) H'
theorem ok_law_all (T : Tx K mg) : FnOk P w K mg base CX0 1 T.f_law_all T.fd_law_all ["_law_sizes"] (sp_law_all K) := by
  refine T.F_law_all.ok sc_law_all (fun vs H Q E h => ?_) (fun cdv A outer s H vs Q E hr h => ?_)
  · obtain ⟨k, l, ss, rfl, _⟩ := h; rfl
  · obtain ⟨k, l, ss, rfl, hl, zz, hp9, q⟩ := h
    have h4 := zz.hi
    have hss := sz_900 zz hp9
    have hz := allI_few zz (by omega)
    refine ⟨_, (pss_cons (ps_set (i := 1) sc_law_all.nd rfl (Or.inl rfl) (pe_lst (pa_cons (pe_tup pa_nil) pa_nil)))
      (pss_cons (ps_for PassesOwn.never rfl (pi_seqH (pv 0)) (pg_name (i := 2) sc_law_all.nd rfl (Or.inl rfl))
        (pss_cons (ps_set (i := 3) sc_law_all.nd rfl (Or.inl rfl) (pe_lst pa_nil))
        (pss_cons (ps_for PassesOwn.never rfl (pi_seqH (pv 1)) (pg_name (i := 4) sc_law_all.nd rfl (Or.inr rfl))
          (pss_one (ps_expr (pe_extendL (pv 3) (pa_cons (pe_lc (own := [("_law_place", 5)]) (g := (gName 5)) (tt := tYes) rfl sc_law_all.nd (pi_range1H (by rfl) T.n_range (pa_cons (pv 2) pa_nil)) (blkOk_by (own := [("_law_place", 5)]) (N := N_law_all) (sc := defScope d_law_all) (by decide +kernel)) (fun _ _ _ _ _ => (pg_name (i := 5) sc_law_all.nd rfl (Or.inl rfl))) (fun _ _ _ _ _ => pts_nil) (fun _ _ _ _ _ => (pe_op (op_catAK (K := K) rfl) (pv 4) (pe_tup (pa_cons (pv 5) pa_nil))))) pa_nil)))))
        (pss_one (ps_set (i := 1) sc_law_all.nd rfl (Or.inl rfl) (pv 3))))))
      (pss_one (ps_ret (pv 1))))), ?_⟩
    walk_at "rd"
    intro p hp p1 hp1
    obtain ⟨hp1n, n1p⟩ := upd_none_of hp1
    have s1 := (Same.new hp (o := .tup [])).trans (Same.new hp1 (o := .lst [V.ref p]))
    have fp := Same.new hp1 (o := .lst [V.ref p]) _ _ (upd_same : (upd H p (.tup [])) p = some (.tup []))
    have fL : LstT (upd (upd H p (.tup [])) p1 (.lst [V.ref p])) p1 [[]] := ⟨[p], upd_same, AsT.snoc (hs := []) AsT.nil fp⟩
    generalize upd (upd H p (HO.tup [])) p1 (HO.lst [V.ref p]) = H1 at s1 fL ⊢
    refine seq_or (hl.same s1) fun J W => ?_
    refine forr W (fun i σ H' => MAl l ss i H σ H') ⟨p1, none, none, none, none, rfl, s1, fL⟩ (fun i σ H' _ h => by obtain ⟨_, _, _, _, _, _, h, _⟩ := h; exact hl.same h) ?_ ?_
    · rintro i x σ H2 H3 hi ⟨L, v2, v3, v4, v5, rfl, s2, hL⟩ ⟨rfl, hx⟩
      simp only [List.getElem?_map, Option.map_eq_some_iff] at hx
      obtain ⟨s, hs, rfl⟩ := hx
      have hsb := hss s (List.mem_of_getElem? hs)
      have hz2 := hz (i + 1)
      rw [allI_take hs, choF_len] at hz2
      have at2 := allI_take hs
      generalize hfd : allI (ss.take i) = found at *
      obtain ⟨as, hLs, hAs⟩ := hL
      walk_at "rd"
      intro D hD
      have nLD : L ≠ D := ne_some hLs hD
      refine .inl ⟨_, Same.new hD _ _ hLs, fun J2 W2 => ?_⟩
      refine forr W2 (fun j σ H' => MAi l L D s found H3 j σ H') ⟨v4, v5, rfl, .init hD⟩ (fun j σ H' _ h => by obtain ⟨_, _, _, h, _⟩ := h; exact h _ _ hLs) ?_ ?_
      · rintro j x σ H4o H4 hj ⟨v4, v5, rfl, k4⟩ ⟨rfl, hx⟩
        simp only [List.getElem?_map, Option.map_eq_some_iff] at hx
        obtain ⟨t, ht, rfl⟩ := hx
        have hjl : j < found.length := by rw [← hAs.1]; exact (List.getElem?_eq_some_iff.mp ht).1
        have hrow := hAs.2 j t _ ht (List.getElem?_eq_getElem hjl)
        have hrow4 := k4.1 _ _ hrow
        obtain ⟨bs, hb, _⟩ := id k4.2
        have hrl : found[j].length ≤ 4 := by
          have h1 := cho_in ((ss.take i).map rngI) [[]] 0 (by simp) found[j] (by rw [show ((ss.take i).map rngI).foldl choF [[]] = found from hfd]; exact List.getElem_mem hjl)
          rw [List.length_map, List.length_take] at h1
          omega
        walk_at "rd"
        refine ⟨⟨_, hb⟩, by omega, by omega, fun J3 W3 => ?_⟩
        refine lcr_tups W3 (fun i => found[j] ++ [(i : Int)]) (by omega) (fun _ _ => trivial) (fun i x H H' y => by rw [y.1]; exact Same.refl _) ?_ ?_
        · rintro i2 x H5 H6 Qy hi2 s5 ⟨rfl, rfl⟩ hq
          walk_at "rd"
          intro g hg
          have sg := Same.new hg (o := .tup [V.int (i2 : Nat)])
          refine catA_ints (ys := [(i2 : Int)]) (sg _ _ (s5 _ _ hrow4)) upd_same (by simp; omega) fun c H7 s7 hc => hq c H7 (sg.trans s7) hc
        · intro D2 H5 hD2 s5 hL5
          obtain ⟨ys, zs, e1, e2, e3, e4⟩ := k4.step (h := found[j]) (D2 := D2) hD (List.getElem?_eq_getElem hjl) s5 (by
            rw [show (rngI s).map (fun x => found[j] ++ [x]) = (List.range s.toNat).map fun (i : Nat) => found[j] ++ [(i : Int)] by unfold rngI; rw [List.map_map]; rfl]
            exact hL5) hz2
          exact ⟨D2, rfl, ys, e1, zs, e2, e3, _, _, rfl, e4⟩
      · rintro σ H4 ⟨v4, v5, rfl, s4, bs, hb, hA⟩
        rw [List.length_map, hAs.1, List.take_length] at hA
        walk_at "rd"
        exact ⟨D, _, _, _, _, rfl, s2.trans s4, bs, hb, by rw [at2]; exact hA⟩
    · rintro σ H2 ⟨L, v2, v3, v4, v5, rfl, s2, hL⟩
      rw [List.length_map, List.take_length] at hL
      walk_at "rd"
      exact q _ L s2 hL
end

section
variable {P : Program} {w : World} {K : PySem.W.Frag} {mg : Str → Option Value} {base : Heap}
/-- what a comprehension with two clauses has made so far -/
def AccP {β : Type} (P : Hp → V → β → Prop) (H1 : Hp) (D : Addr) (bs : List β) (acc : List V) (H : Hp) : Prop := Same H1 H ∧ (∃ ys, H D = some (.lst ys)) ∧ acc.length = bs.length ∧ ∀ (j : Nat) y b, acc[j]? = some y → bs[j]? = some b → P H y b
theorem AccP.init {β : Type} {P : Hp → V → β → Prop} {H1 : Hp} {D : Addr} (hD : H1 D = none) : AccP P H1 D [] [] (upd H1 D (.lst [])) := ⟨Same.new hD, ⟨_, upd_same⟩, rfl, fun j y b h _ => by simp at h⟩
theorem AccP.put {β : Type} {P : Hp → V → β → Prop} {H1 : Hp} {D : Addr} {bs : List β} {acc : List V} {H : Hp} {l l0 : List V} (hP : ∀ {H H' : Hp} {y b}, P H y b → Tp H H' → P H' y b) (hD : H1 D = none) (h : AccP P H1 D bs acc H) (e : H D = some (.lst l0)) : AccP P H1 D bs acc (upd H D (.lst l)) := by
  obtain ⟨h1, _, h3, h4⟩ := h
  exact ⟨fun b o hb => by rw [upd_ne (ne_some hb hD)]; exact h1 _ _ hb, ⟨_, upd_same⟩, h3, fun j y b e1 e2 => hP (h4 j y b e1 e2) (Tp.put e (by simp))⟩
theorem AccP.snoc {β : Type} {P : Hp → V → β → Prop} {H1 : Hp} {D : Addr} {bs : List β} {acc : List V} {H H' : Hp} {y : V} {b : β} (hP : ∀ {H H' : Hp} {y b}, P H y b → Tp H H' → P H' y b) (h : AccP P H1 D bs acc H) (s : Same H H') (hy : P H' y b) : AccP P H1 D (bs ++ [b]) (acc ++ [y]) H' := by
  obtain ⟨h1, ⟨ys, h2⟩, h3, h4⟩ := h
  refine ⟨h1.trans s, ⟨ys, s _ _ h2⟩, by rw [List.length_append, List.length_append, h3]; rfl, fun j y' b' e1 e2 => ?_⟩
  by_cases hlt : j < acc.length
  · rw [List.getElem?_append_left hlt] at e1
    rw [List.getElem?_append_left (by omega)] at e2
    exact hP (h4 j y' b' e1 e2) (Tp.of s)
  · rw [List.getElem?_append_right (by omega)] at e1
    rw [List.getElem?_append_right (by omega), ← h3] at e2
    cases hk : j - acc.length with
    | zero =>
      rw [hk] at e1 e2
      simp only [List.getElem?_cons_zero, Option.some.injEq] at e1 e2
      subst e1 e2
      exact hy
    | succ m => rw [hk] at e1; simp at e1
theorem lcr_acc {β : Type} {J : It} {n : Nat} {G : Hp → Prop} {Y : Nat → Hp → V → Hp → Prop} (w : Walk J n G Y) {g : TG} {te : TE} {vs : List Nat} {σ : L2.St} {H1 : Hp} {Q : VK} (P : Hp → V → β → Prop) (hP : ∀ {H H' : Hp} {y b}, P H y b → Tp H H' → P H' y b) (bs : List β) (hl : bs.length = n) (hn : n ≤ 1000)
    (hG : ∀ H, Same H1 H → G H) (hY : ∀ i x H H', Y i H x H' → Same H H')
    (hs : ∀ i x b H H' (Qy : VK), i < n → bs[i]? = some b → Same H1 H → Y i H x H' → (∀ y H4, Same H' H4 → P H4 y b → Qy y H4) → g x (wipe σ vs) H' fun σ2 H2 => wipe σ2 vs = wipe σ vs ∧ te σ2 H2 Qy)
    (hd : ∀ D ys H, H1 D = none → Same H1 H → H D = some (.lst ys) → ys.length = bs.length → (∀ (i : Nat) y b, ys[i]? = some y → bs[i]? = some b → P H y b) → Q (.ref D) H) : LcR J g tYes te vs σ H1 Q := fun D hD => by
  refine lc_gen w (fun i acc H => AccP P H1 D (bs.take i) acc H) (Nat.le_trans hn (by decide)) (.init hD) (fun i acc H _ h _ => hG H h.1) (fun i acc H l h _ => ?_) (fun i acc x H H' Qy hi ha h e hy hq => ?_) (fun acc H ha h e => ?_)
  · obtain ⟨l0, e⟩ := h.2.1
    exact h.put hP hD e
  · have hb := List.getElem?_eq_getElem (by omega : i < bs.length)
    refine hs i x _ H H' Qy hi hb h.1 hy fun y H4 s4 hp => ?_
    have s04 := (hY _ _ _ _ hy).trans s4
    refine hq y H4 (s04 _ _ e) ?_
    rw [List.take_add_one, hb]
    exact AccP.snoc hP h s04 hp
  · have ht : bs.take n = bs := by rw [← hl]; exact List.take_length
    rw [ht] at h
    exact hd D acc H hD h.1 e h.2.2.1 h.2.2.2

end
section
variable {P : Program} {w : World} {K : PySem.W.Frag} {mg : Str → Option Value} {base : Heap}
/-- a pair of tuples of ints -/
def PP (H : Hp) (y : V) (z : List Int × List Int) : Prop := ∃ r b t, y = .ref r ∧ H r = some (.tup [.ref b, .ref t]) ∧ H b = some (.tup (z.1.map V.int)) ∧ H t = some (.tup (z.2.map V.int))
theorem PP.tp {H H' : Hp} {y : V} {z : List Int × List Int} (h : PP H y z) (s : Tp H H') : PP H' y z := by
  obtain ⟨r, b, t, h1, h2, h3, h4⟩ := h
  exact ⟨r, b, t, h1, s _ _ h2, s _ _ h3, s _ _ h4⟩
theorem pp_paired {H : Hp} : ∀ {ys : List V} {zs : List (List Int × List Int)}, ys.length = zs.length → (∀ (i : Nat) y z, ys[i]? = some y → zs[i]? = some z → PP H y z) →
    ∃ ps kvs, ys = ps.map V.ref ∧ Paired (PairT K H) ps kvs ∧ (∀ z ∈ zs, ∃ q ∈ kvs, q.1 = kS z.1) ∧ ∀ q ∈ kvs, ∃ z ∈ zs, ∃ t, q = (kS z.1, V.ref t) ∧ H t = some (.tup (z.2.map V.int))
  | [], [], _, _ => ⟨[], [], rfl, .nil, by simp, by simp⟩
  | y :: ys, z :: zs, hl, h => by
    obtain ⟨r, b, t, rfl, h2, h3, h4⟩ := h 0 y z rfl rfl
    obtain ⟨ps, kvs, e, hp, h5, h6⟩ := pp_paired (ys := ys) (zs := zs) (by simpa using hl) fun i y z h1 h2 => h (i + 1) y z h1 h2
    refine ⟨r :: ps, (kS z.1, .ref t) :: kvs, by rw [e]; rfl, .cons ⟨b, .inl (.inl h2), by rw [h3]; show _ = some (HO.tup ((kS z.1).map kV)); rw [kS_kV]⟩ hp, fun z' hz => ?_, fun q hq => ?_⟩
    · rcases List.mem_cons.mp hz with rfl | hz
      · exact ⟨_, List.mem_cons_self .., rfl⟩
      · obtain ⟨q, hq, e⟩ := h5 z' hz
        exact ⟨q, List.mem_cons_of_mem _ hq, e⟩
    · rcases List.mem_cons.mp hq with rfl | hq
      · exact ⟨z, List.mem_cons_self .., t, rfl, h4⟩
      · obtain ⟨z', hz, t', e⟩ := h6 q hq
        exact ⟨z', List.mem_cons_of_mem _ hz, t', e⟩
  | [], _ :: _, h, _ => by simp at h
  | _ :: _, [], h, _ => by simp at h
theorem valV_merge {k : List Key} : ∀ {more kvs : List (List Key × V)}, (∃ q ∈ more, q.1 = k) → ∃ q ∈ more, q.1 = k ∧ valV (mergeT kvs more) k = some q.2
  | [], _, h => by obtain ⟨q, hq, _⟩ := h; simp at hq
  | p :: r, kvs, h => by
    show ∃ q ∈ p :: r, q.1 = k ∧ valV (mergeT (putK kvs p.1 p.2) r) k = some q.2
    by_cases c : ∃ q ∈ r, q.1 = k
    · obtain ⟨q, hq, e, hv⟩ := valV_merge (kvs := putK kvs p.1 p.2) c
      exact ⟨q, List.mem_cons_of_mem _ hq, e, hv⟩
    · have e : p.1 = k := by
        obtain ⟨q, hq, e⟩ := h
        rcases List.mem_cons.mp hq with rfl | hq
        · exact e
        · exact absurd ⟨q, hq, e⟩ c
      have key : ∀ (r kvs : List (List Key × V)), (∀ q ∈ r, q.1 ≠ k) → valV (mergeT kvs r) k = valV kvs k := fun r => by
        induction r with
        | nil => intro _ _; rfl
        | cons x r ih =>
          intro kvs h
          show valV (mergeT (putK kvs x.1 x.2) r) k = _
          rw [ih _ fun q hq => h q (List.mem_cons_of_mem _ hq), valV_put, if_neg (h x (List.mem_cons_self ..)).symm]
      refine ⟨p, List.mem_cons_self .., e, ?_⟩
      rw [key r _ fun q hq e => c ⟨q, hq, e⟩, valV_put, if_pos e.symm]
/-- the dict tells F of all of gs -/
def DT (H : Hp) (kvs : List (List Key × V)) (gs : List (List Int)) (F : List Int → List Int) : Prop := ∀ g ∈ gs, ∃ t, valV kvs (kS g) = some (.ref t) ∧ H t = some (.tup ((F g).map V.int))
theorem DT.tp {H H' : Hp} {kvs : List (List Key × V)} {gs : List (List Int)} {F : List Int → List Int} (h : DT H kvs gs F) (s : Tp H H') : DT H' kvs gs F := fun g hg => by
  obtain ⟨t, h1, h2⟩ := h g hg
  exact ⟨t, h1, s _ _ h2⟩
theorem DT.put {H : Hp} {kvs : List (List Key × V)} {gs : List (List Int)} {F : List Int → List Int} (h : DT H kvs gs F) {g : List Int} {t : Addr} (ht : H t = some (.tup ((F g).map V.int))) : DT H (putK kvs (kS g) (.ref t)) (gs ++ [g]) F := fun x hx => by
  rw [valV_put]
  by_cases e : kS x = kS g
  · rw [if_pos e, kS_inj e]
    exact ⟨t, rfl, ht⟩
  · rw [if_neg e]
    rcases List.mem_append.mp hx with hx | hx
    · exact h x hx
    · rw [List.mem_singleton.mp hx] at e
      exact absurd rfl e
theorem DT.made {H : Hp} {kvs : List (List Key × V)} {gs : List (List Int)} {F : List Int → List Int} {zs : List (List Int × List Int)} (h1 : ∀ z ∈ zs, ∃ q ∈ kvs, q.1 = kS z.1) (h2 : ∀ q ∈ kvs, ∃ z ∈ zs, ∃ t, q = (kS z.1, V.ref t) ∧ H t = some (.tup (z.2.map V.int)))
    (hg : ∀ g ∈ gs, ∃ z ∈ zs, z.1 = g) (hF : ∀ z ∈ zs, z.2 = F z.1) : DT H (mergeT [] kvs) gs F := fun g hm => by
  obtain ⟨z, hz, rfl⟩ := hg g hm
  obtain ⟨q, hq, e, hv⟩ := valV_merge (kvs := []) (h1 z hz)
  obtain ⟨z', hz', t, rfl, ht⟩ := h2 q hq
  have e : kS z'.1 = kS z.1 := e
  refine ⟨t, hv, ?_⟩
  rw [ht, hF z' hz', kS_inj e]
/-- a tuple of ints -/
def TPt (H : Hp) (y : V) (b : List Int) : Prop := ∃ t, y = .ref t ∧ H t = some (.tup (b.map V.int))
theorem TPt.tp {H H' : Hp} {y : V} {b : List Int} (h : TPt H y b) (s : Tp H H') : TPt H' y b := by
  obtain ⟨t, h1, h2⟩ := h
  exact ⟨t, h1, s _ _ h2⟩
theorem asT_of {H : Hp} : ∀ {ys : List V} {bs : List (List Int)}, ys.length = bs.length → (∀ (i : Nat) y b, ys[i]? = some y → bs[i]? = some b → TPt H y b) → ∃ as : List Addr, ys = as.map V.ref ∧ AsT H as bs
  | [], [], _, _ => ⟨[], rfl, AsT.nil⟩
  | y :: ys, b :: bs, hl, h => by
    obtain ⟨t, rfl, ht⟩ := h 0 y b rfl rfl
    obtain ⟨as, e, hA⟩ := asT_of (ys := ys) (bs := bs) (by simpa using hl) fun i y z h1 h2 => h (i + 1) y z h1 h2
    refine ⟨t :: as, by rw [e]; rfl, by have := hA.1; simp [this], fun i u g h1 h2 => ?_⟩
    cases i with
    | zero =>
      simp only [List.getElem?_cons_zero, Option.some.injEq] at h1 h2
      subst h1 h2
      exact ht
    | succ i => exact hA.2 i u g (by simpa using h1) (by simpa using h2)
  | [], _ :: _, h, _ => by simp at h
  | _ :: _, [], h, _ => by simp at h
theorem lstT_of {H : Hp} {D : Addr} {ys : List V} {bs : List (List Int)} (h : H D = some (.lst ys)) (hl : ys.length = bs.length) (hp : ∀ (i : Nat) y b, ys[i]? = some y → bs[i]? = some b → TPt H y b) : LstT H D bs := by
  obtain ⟨as, rfl, hA⟩ := asT_of hl hp
  exact ⟨as, h, hA⟩
theorem neD_tups' {H : Hp} {a b : Addr} {hss : List (List Int)} {Q : VK} (h1 : LstT H a hss) (h2 : LstT H b hss) (q : Q (.bl false) H) : rNeD K (.ref a) (.ref b) H Q :=
  ⟨_, _, dp_lstT h1, dp_lstT h2, shaped_tups _, shaped_tups _, by rw [show PyData.eqv (.list (hss.map tupI)) (.list (hss.map tupI)) = decide (hss = hss) from eqv_tups hss hss, decide_eq_true rfl]; exact q⟩
end

/-! ### k21: the numbers by the rules: mathematics and dicts -/
section
variable {P : Program} {w : World} {K : PySem.W.Frag} {mg : Str → Option Value} {base : Heap}
/-- p is known after n rounds -/
def kn (ss : List Int) (gs : List (List Int)) (n : Nat) (p : List Int) : Bool := Un (toN ss) (tgB (ixs ss gs)) n (ix ss p)
theorem lev_some {ss : List Int} {gs : List (List Int)} {p : List Int} {n : Nat} (hp : Seat ss p) : lev ss gs p = some n ↔ kn ss gs n p = true ∧ ∀ m, m < n → kn ss gs m p = false := lvl_some (ix_lt hp)
theorem kn_le {ss : List Int} {gs : List (List Int)} {p : List Int} {n m : Nat} (hp : Seat ss p) (h : n ≤ m) (k : kn ss gs n p = true) : kn ss gs m p = true := un_le (ix_lt hp) h k
theorem kn_lev {ss : List Int} {gs : List (List Int)} {p : List Int} (hp : Seat ss p) : ∀ {n : Nat}, kn ss gs n p = true → ∃ m, m ≤ n ∧ lev ss gs p = some m
  | 0, k => ⟨0, Nat.le_refl _, (lev_some hp).mpr ⟨k, fun m hm => absurd hm (Nat.not_lt_zero _)⟩⟩
  | n + 1, k => by
    by_cases c : kn ss gs n p = true
    · obtain ⟨m, h1, h2⟩ := kn_lev hp c
      exact ⟨m, by omega, h2⟩
    · refine ⟨n + 1, Nat.le_refl _, (lev_some hp).mpr ⟨k, fun m hm => ?_⟩⟩
      cases e : kn ss gs m p with
      | false => rfl
      | true => exact absurd (kn_le hp (by omega) e) c
theorem lev_kn {ss : List Int} {gs : List (List Int)} {p : List Int} (hp : Seat ss p) {m n : Nat} (h : lev ss gs p = some m) : kn ss gs n p = decide (m ≤ n) := by
  obtain ⟨h1, h2⟩ := (lev_some hp).mp h
  by_cases c : m ≤ n
  · rw [kn_le hp c h1, decide_eq_true c]
  · rw [h2 n (by omega), decide_eq_false c]
theorem lev_zero {ss : List Int} {gs : List (List Int)} (hg : ∀ g ∈ gs, Seat ss g) {p : List Int} (hp : Seat ss p) : lev ss gs p = some 0 ↔ p ∈ gs := by
  rw [lev_some hp, ← tgB_ix hg hp]
  exact ⟨fun h => h.1, fun h => ⟨h, fun m hm => absurd hm (Nat.not_lt_zero _)⟩⟩
theorem mid_mv : ∀ {ss p c : List Int}, Seat ss p → Seat ss c → MidL ss p (mv fw p c ss) (mv bw p c ss)
  | [], [], [], _, _ => trivial
  | s :: ss, p :: ps, c :: cs, h1, h2 => by
    refine ⟨?_, mid_mv (seat_cons h1).2 (seat_cons h2).2⟩
    obtain ⟨k1, e1⟩ := dvd_smod (p + c) s
    obtain ⟨k2, e2⟩ := dvd_smod (p - c) s
    refine ⟨k1 + k2, ?_⟩
    show (p + c) % s + (p - c) % s - 2 * p = _
    rw [Int.mul_add, ← e1, ← e2]
    omega
  | [], _ :: _, _, h, _ => by have := h.len; simp at this
  | [], [], _ :: _, _, h => by have := h.len; simp at this
  | _ :: _, [], _, h, _ => by have := h.len; simp at this
  | _ :: _, _ :: _, [], _, h => by have := h.len; simp at this
/-- the call for a middle -/
theorem mid_call : ∀ {ss p a b : List Int}, (∀ s ∈ ss, 1 ≤ s) → Seat ss p → Seat ss a → Seat ss b → MidL ss p a b → ∃ c, Seat ss c ∧ mv fw p c ss = a ∧ mv bw p c ss = b
  | [], [], [], [], _, _, _, _, _ => ⟨[], Seat.nil, rfl, rfl⟩
  | s :: ss, p :: ps, a :: as, b :: bs, hs, h1, h2, h3, hm => by
    obtain ⟨⟨a0, a1⟩, ha⟩ := seat_cons h2
    obtain ⟨⟨b0, b1⟩, hb⟩ := seat_cons h3
    have hs1 := hs s (List.mem_cons_self ..)
    obtain ⟨⟨k, hk⟩, hm2⟩ := hm
    obtain ⟨c, hc, e1, e2⟩ := mid_call (fun x hx => hs x (List.mem_cons_of_mem _ hx)) (seat_cons h1).2 ha hb hm2
    refine ⟨((a - p) % s) :: c, Seat.cons (Int.emod_nonneg _ (by omega)) (Int.emod_lt_of_pos _ (by omega)) hc, ?_, ?_⟩
    · show (p + (a - p) % s) % s :: mv fw ps c ss = _
      rw [e1, Int.add_emod_emod, show p + (a - p) = a by omega, Int.emod_eq_of_lt a0 a1]
    · show (p - (a - p) % s) % s :: mv bw ps c ss = _
      rw [e2, Int.sub_emod_emod, show p - (a - p) = b + s * (-k) by rw [Int.mul_neg, ← hk]; omega, Int.add_mul_emod_self_left, Int.emod_eq_of_lt b0 b1]
  | [], _ :: _, _, _, _, h, _, _, _ => by have := h.len; simp at this
  | [], [], _ :: _, _, _, _, h, _, _ => by have := h.len; simp at this
  | [], [], [], _ :: _, _, _, _, h, _ => by have := h.len; simp at this
  | _ :: _, [], _, _, _, h, _, _, _ => by have := h.len; simp at this
  | _ :: _, _ :: _, [], _, _, _, h, _, _ => by have := h.len; simp at this
  | _ :: _, _ :: _, _ :: _, [], _, _, _, h, _ => by have := h.len; simp at this
theorem allI_mem {ss : List Int} (z : Sz ss) {p : List Int} : p ∈ allI ss ↔ Seat ss p := by
  rw [allI_cnt]
  constructor
  · intro h
    obtain ⟨n, hn, rfl⟩ := List.mem_map.mp h
    exact dg_seat z.pos (stt_ok (List.mem_range.mp hn)).1
  · intro hp
    exact List.mem_map.mpr ⟨ix ss p, List.mem_range.mpr (ix_lt hp), iS_ix hp⟩
/-- some call from p leads to known seats alone -/
def clT (ss : List Int) (gs : List (List Int)) (n : Nat) (p : List Int) : Bool := (allI ss).any fun c => kn ss gs n (mv fw p c ss) && kn ss gs n (mv bw p c ss)
theorem kn_succ {ss : List Int} {gs : List (List Int)} {n : Nat} {p : List Int} (z : Sz ss) (hp : Seat ss p) : kn ss gs (n + 1) p = clT ss gs n p := by
  have key : kn ss gs (n + 1) p = true ↔ clT ss gs n p = true := by
    refine (un_mid z.pos hp).trans ?_
    unfold clT
    rw [List.any_eq_true]
    constructor
    · rintro ⟨a, b, ha, hb, hm, h1, h2⟩
      obtain ⟨c, hc, e1, e2⟩ := mid_call z.pos hp ha hb hm
      refine ⟨c, (allI_mem z).mpr hc, ?_⟩
      rw [e1, e2, Bool.and_eq_true]
      exact ⟨h1, h2⟩
    · rintro ⟨c, hc, h⟩
      rw [Bool.and_eq_true] at h
      have hc := (allI_mem z).mp hc
      exact ⟨_, _, mv_seat hp.len hc.len z.pos, mv_seat hp.len hc.len z.pos, mid_mv hp hc, h.1, h.2⟩
  cases h1 : kn ss gs (n + 1) p <;> cases h2 : clT ss gs n p <;> simp_all
/-- the seats of a number -/
def rowS (ss : List Int) (gs : List (List Int)) (n : Nat) : List (List Int) := (allI ss).filter fun p => decide (lev ss gs p = some n)
theorem mem_rowS {ss : List Int} {gs : List (List Int)} {n : Nat} (z : Sz ss) {p : List Int} : p ∈ rowS ss gs n ↔ Seat ss p ∧ lev ss gs p = some n := by
  unfold rowS
  rw [List.mem_filter, allI_mem z, decide_eq_true_eq]
theorem rowS_succ {ss : List Int} {gs : List (List Int)} {n : Nat} (z : Sz ss) : ((allI ss).filter fun p => !kn ss gs n p).filter (clT ss gs n) = rowS ss gs (n + 1) := by
  unfold rowS
  rw [List.filter_filter]
  refine List.filter_congr fun p hp => ?_
  have hp := (allI_mem z).mp hp
  rw [← kn_succ z hp]
  by_cases c : lev ss gs p = some (n + 1)
  · rw [lev_kn hp c, lev_kn hp c, decide_eq_true c]
    simp
  · rw [decide_eq_false c]
    cases h1 : kn ss gs n p with
    | true => simp
    | false =>
      cases h2 : kn ss gs (n + 1) p with
      | false => rfl
      | true =>
        obtain ⟨m, hm, e⟩ := kn_lev hp h2
        rw [lev_kn hp e] at h1
        have := of_decide_eq_false h1
        exact absurd (by rw [e]; congr; omega) c
theorem rowS_Rn {ss : List Int} {gs : List (List Int)} {n : Nat} (z : Sz ss) : rowS ss gs n = (Rn (toN ss) (tgB (ixs ss gs)) n).map (iS (toN ss)) := by
  have e : Rn (toN ss) (tgB (ixs ss gs)) n = (List.range (Cs.cnt (toN ss))).filter fun i => decide (lvl (toN ss) (tgB (ixs ss gs)) i = some n) := by
    refine asc_uniq Rn_asc (List.Pairwise.filter _ List.pairwise_lt_range) fun x => ?_
    rw [mem_Rn, List.mem_filter, List.mem_range, decide_eq_true_eq]
    exact ⟨fun h => ⟨h.1, (lvl_some h.1).mpr h.2⟩, fun h => ⟨h.1, (lvl_some h.1).mp h.2⟩⟩
  rw [e]
  unfold rowS
  rw [allI_cnt, List.filter_map]
  congr 1
  refine List.filter_congr fun i hi => ?_
  have hi := List.mem_range.mp hi
  show decide (lvl _ _ (ix ss (iS (toN ss) i)) = some n) = _
  have : ix ss (iS (toN ss) i) = i := by unfold ix iS; rw [toN_iN, (stt_ok hi).2.1]
  rw [this]
/-- found, behind n rounds -/
def FnD (ss : List Int) (gs : List (List Int)) (n : Nat) (kvs : List (List Key × V)) : Prop := (∀ p, Seat ss p → valV kvs (kS p) = if kn ss gs n p then (lev ss gs p).map fun m => V.int (m : Nat) else none) ∧
  (∀ q ∈ kvs, ∃ p m, Seat ss p ∧ q = (kS p, V.int (m : Nat)) ∧ lev ss gs p = some m) ∧ (kvs.map Prod.fst).Nodup
theorem mem_putK {kvs : List (List Key × V)} {k : List Key} {v : V} {q : List Key × V} (h : q ∈ putK kvs k v) : q ∈ kvs ∨ q = (k, v) := by
  unfold putK at h
  split at h
  · obtain ⟨x, hx, rfl⟩ := List.mem_map.mp h
    by_cases c : x.1 = k
    · rw [if_pos c]
      exact .inr (by rw [← c])
    · rw [if_neg c]
      exact .inl hx
  · rcases List.mem_append.mp h with h | h
    · exact .inl h
    · exact .inr (List.mem_singleton.mp h)
theorem fst_putK {kvs : List (List Key × V)} {k : List Key} {v : V} : (putK kvs k v).map Prod.fst = kvs.map Prod.fst ∨ k ∉ kvs.map Prod.fst ∧ (putK kvs k v).map Prod.fst = kvs.map Prod.fst ++ [k] := by
  have h : (kvs.any fun kv => decide (kv.1 = k)) = true ↔ k ∈ kvs.map Prod.fst := by simp
  unfold putK
  by_cases c : k ∈ kvs.map Prod.fst
  · rw [if_pos (h.mpr c), List.map_map]
    exact .inl (List.map_congr_left fun x _ => by show (if x.1 = k then (x.1, v) else x).1 = x.1; split <;> rfl)
  · rw [if_neg fun e => c (h.mp e), List.map_append]
    exact .inr ⟨c, rfl⟩
theorem nd_putK {kvs : List (List Key × V)} {k : List Key} {v : V} (h : (kvs.map Prod.fst).Nodup) : ((putK kvs k v).map Prod.fst).Nodup := by
  rcases fst_putK (kvs := kvs) (k := k) (v := v) with e | ⟨c, e⟩
  · rw [e]
    exact h
  · rw [e]
    exact List.nodup_append.mpr ⟨h, List.pairwise_singleton _ _, fun a ha b hb e => c (by rw [← List.mem_singleton.mp hb, ← e]; exact ha)⟩
theorem nd_mergeT : ∀ (more kvs : List (List Key × V)), (kvs.map Prod.fst).Nodup → ((mergeT kvs more).map Prod.fst).Nodup
  | [], _, h => h
  | x :: r, kvs, h => nd_mergeT r _ (nd_putK (k := x.1) (v := x.2) h)
theorem mem_mergeT {q : List Key × V} : ∀ {more kvs : List (List Key × V)}, q ∈ mergeT kvs more → q ∈ kvs ∨ q ∈ more
  | [], _, h => .inl h
  | x :: r, kvs, h => by
    rcases mem_mergeT (more := r) (kvs := putK kvs x.1 x.2) h with h | h
    · rcases mem_putK h with h | h
      · exact .inl h
      · exact .inr (by rw [h]; exact List.mem_cons_self ..)
    · exact .inr (List.mem_cons_of_mem _ h)
theorem valV_mem {k : List Key} {v : V} : ∀ {kvs : List (List Key × V)}, valV kvs k = some v → (k, v) ∈ kvs
  | [], h => by cases h
  | x :: r, h => by
    by_cases c : x.1 = k
    · rw [valV_pos c] at h
      obtain rfl := Option.some.inj h
      rw [← c]
      exact List.mem_cons_self ..
    · rw [valV_neg c] at h
      exact List.mem_cons_of_mem _ (valV_mem h)
theorem FnD.zero {ss : List Int} {gs : List (List Int)} (hg : ∀ g ∈ gs, Seat ss g) : FnD ss gs 0 (mergeT [] (gs.map fun g => (kS g, V.int 0))) := by
  have hq : ∀ q ∈ mergeT [] (gs.map fun g => (kS g, V.int 0)), ∃ g ∈ gs, q = (kS g, V.int 0) := fun q hq => by
    rcases mem_mergeT hq with h | h
    · cases h
    · obtain ⟨g, hg, rfl⟩ := List.mem_map.mp h
      exact ⟨g, hg, rfl⟩
  refine ⟨fun p hp => ?_, fun q h => ?_, nd_mergeT _ _ List.nodup_nil⟩
  · by_cases c : p ∈ gs
    · obtain ⟨q, hm, e, hv⟩ := valV_merge (kvs := []) (more := gs.map fun g => (kS g, V.int 0)) (k := kS p) ⟨_, List.mem_map.mpr ⟨p, c, rfl⟩, rfl⟩
      obtain ⟨g, _, rfl⟩ := List.mem_map.mp hm
      have e0 := (lev_zero hg hp).mpr c
      rw [hv, lev_kn hp e0, e0, if_pos (by simp)]
      rfl
    · rw [if_neg (fun k => ?_)]
      · cases hv : valV (mergeT [] (gs.map fun g => (kS g, V.int 0))) (kS p) with
        | none => rfl
        | some v =>
          obtain ⟨g, hg, e⟩ := hq _ (valV_mem hv)
          have := kS_inj (congrArg Prod.fst e)
          exact absurd (by rw [this]; exact hg) c
      · obtain ⟨m, hm, e⟩ := kn_lev hp k
        obtain rfl : m = 0 := by omega
        exact c ((lev_zero hg hp).mp e)
  · obtain ⟨g, hm, rfl⟩ := hq q h
    exact ⟨g, 0, hg g hm, rfl, (lev_zero hg (hg g hm)).mpr hm⟩
theorem FnD.get {ss : List Int} {gs : List (List Int)} {n : Nat} {kvs : List (List Key × V)} (h : FnD ss gs n kvs) {p : List Int} (hp : Seat ss p) : (valV kvs (kS p)).isSome = kn ss gs n p := by
  rw [h.1 p hp]
  cases c : kn ss gs n p with
  | false => rfl
  | true =>
    obtain ⟨m, _, e⟩ := kn_lev hp c
    rw [e]
    rfl
/-- found, where part of a round is put in -/
def FnP (ss : List Int) (gs : List (List Int)) (n : Nat) (ps : List (List Int)) (kvs : List (List Key × V)) : Prop := (∀ p, Seat ss p → valV kvs (kS p) = if p ∈ ps then some (V.int (n + 1 : Nat)) else if kn ss gs n p then (lev ss gs p).map fun m => V.int (m : Nat) else none) ∧
  (∀ q ∈ kvs, ∃ p m, Seat ss p ∧ q = (kS p, V.int (m : Nat)) ∧ lev ss gs p = some m) ∧ (kvs.map Prod.fst).Nodup
theorem FnD.part {ss : List Int} {gs : List (List Int)} {n : Nat} {kvs : List (List Key × V)} (h : FnD ss gs n kvs) : FnP ss gs n [] kvs := ⟨fun p hp => by rw [h.1 p hp]; simp, h.2⟩
theorem FnP.put {ss : List Int} {gs : List (List Int)} {n : Nat} {ps : List (List Int)} {kvs : List (List Key × V)} (h : FnP ss gs n ps kvs) {x : List Int} (hx : Seat ss x) (e : lev ss gs x = some (n + 1)) : FnP ss gs n (ps ++ [x]) (putK kvs (kS x) (V.int (n + 1 : Nat))) := by
  refine ⟨fun p hp => ?_, fun q hq => ?_, nd_putK h.2.2⟩
  · rw [valV_put, h.1 p hp]
    by_cases c : p = x
    · subst c
      rw [if_pos rfl, if_pos (by simp)]
    · rw [if_neg (fun e => c (kS_inj e))]
      simp only [List.mem_append, List.mem_singleton, c, or_false]
  · rcases mem_putK hq with h2 | h2
    · exact h.2.1 q h2
    · exact ⟨x, n + 1, hx, h2, e⟩
theorem FnP.full {ss : List Int} {gs : List (List Int)} {n : Nat} {kvs : List (List Key × V)} (z : Sz ss) (h : FnP ss gs n (rowS ss gs (n + 1)) kvs) : FnD ss gs (n + 1) kvs := by
  refine ⟨fun p hp => ?_, h.2⟩
  rw [h.1 p hp]
  by_cases c : lev ss gs p = some (n + 1)
  · rw [if_pos ((mem_rowS z).mpr ⟨hp, c⟩), if_pos (by rw [lev_kn hp c]; simp), c]
    rfl
  · rw [if_neg fun h => c ((mem_rowS z).mp h).2]
    cases h2 : kn ss gs (n + 1) p with
    | false =>
      have : kn ss gs n p = false := by
        cases h1 : kn ss gs n p with
        | false => rfl
        | true => rw [kn_le hp (Nat.le_succ n) h1] at h2; cases h2
      rw [this]
    | true =>
      obtain ⟨m, hm, e⟩ := kn_lev hp h2
      rw [e] at c ⊢
      have : kn ss gs n p = true := by
        rw [lev_kn hp e]
        have : m ≠ n + 1 := fun h => c (by rw [h])
        exact decide_eq_true (by omega)
      rw [this]
theorem FnD.done {ss : List Int} {gs : List (List Int)} {n : Nat} {kvs : List (List Key × V)} (z : Sz ss) (h : FnD ss gs n kvs) (hr : rowS ss gs n = []) {p : List Int} (hp : Seat ss p) : valV kvs (kS p) = (lev ss gs p).map fun m => V.int (m : Nat) := by
  rw [h.1 p hp]
  cases e : lev ss gs p with
  | none =>
    split <;> rfl
  | some m =>
    rw [lev_kn hp e]
    obtain ⟨h1, h2⟩ := (lev_some hp).mp e
    have hrow := un_row (ix_lt hp) h1 h2
    by_cases c : m ≤ n
    · rw [if_pos (by simpa using c)]
    · have := hrow n (by omega)
      rw [rowS_Rn z, List.map_eq_nil_iff] at hr
      exact absurd hr this
theorem row_few {ss : List Int} {gs : List (List Int)} {n : Nat} (z : Sz ss) (h : rowS ss gs n ≠ []) : n < Cs.cnt (toN ss) := by
  obtain ⟨p, hp⟩ := List.exists_mem_of_ne_nil _ h
  obtain ⟨h1, h2⟩ := (mem_rowS z).mp hp
  obtain ⟨h3, h4⟩ := (lev_some h1).mp h2
  exact un_few (ix_lt h1) h3 h4
/-- a pair of a tuple and 0 -/
def PZ (H : Hp) (y : V) (g : List Int) : Prop := ∃ r b, y = .ref r ∧ H r = some (.tup [.ref b, .int 0]) ∧ H b = some (.tup (g.map V.int))
theorem PZ.tp {H H' : Hp} {y : V} {g : List Int} (h : PZ H y g) (s : Tp H H') : PZ H' y g := by
  obtain ⟨r, b, h1, h2, h3⟩ := h
  exact ⟨r, b, h1, s _ _ h2, s _ _ h3⟩
theorem pz_paired {H : Hp} : ∀ {ys : List V} {gs : List (List Int)}, ys.length = gs.length → (∀ (i : Nat) y g, ys[i]? = some y → gs[i]? = some g → PZ H y g) →
    ∃ ps : List Addr, ys = ps.map V.ref ∧ Paired (PairT K H) ps (gs.map fun g => (kS g, V.int 0))
  | [], [], _, _ => ⟨[], rfl, .nil⟩
  | y :: ys, g :: gs, hl, h => by
    obtain ⟨r, b, rfl, h2, h3⟩ := h 0 y g rfl rfl
    obtain ⟨ps, e, hp⟩ := pz_paired (ys := ys) (gs := gs) (by simpa using hl) fun i y z h1 h2 => h (i + 1) y z h1 h2
    exact ⟨r :: ps, by rw [e]; rfl, .cons ⟨b, .inl (.inl h2), by rw [h3]; show _ = some (HO.tup ((kS g).map kV)); rw [kS_kV]⟩ hp⟩
  | [], _ :: _, h, _ => by simp at h
  | _ :: _, [], h, _ => by simp at h
/-! ### comprehensions that keep some of a list -/
theorem lcr_keepP {β : Type} {J : It} {n : Nat} {G : Hp → Prop} {Y : Nat → Hp → V → Hp → Prop} (w : Walk J n G Y) {g : TG} {tt : TT} {te : TE} {vs : List Nat} {σ : L2.St} {H1 : Hp} {Q : VK} (zs : List (V × β)) (pr : β → Bool) (hl : zs.length = n) (hn : n < sizeLine) (hG : ∀ H, Same H1 H → G H)
    (hY : ∀ i x H H', i < n → Y i H x H' → Same H H' ∧ ∃ b, zs[i]? = some (x, b))
    (hs : ∀ x b H (Qn : Hp → Prop) (Qy : VK), (x, b) ∈ zs → Same H1 H → (pr b = false → ∀ H4, Same H H4 → Qn H4) → (pr b = true → ∀ H4, Same H H4 → Qy x H4) → g x (wipe σ vs) H fun σ2 H2 => wipe σ2 vs = wipe σ vs ∧ tt σ2 H2 fun b H3 => if b = true then te σ2 H3 Qy else Qn H3)
    (hd : ∀ D H, H1 D = none → Same H1 H → H D = some (.lst ((zs.filter fun z => pr z.2).map (·.1))) → Q (.ref D) H) : LcR J g tt te vs σ H1 Q := by
  refine lcr_if w (fun D i acc H => Same H1 H ∧ acc = ((zs.take i).filter fun z => pr z.2).map (·.1)) hn (fun D hD => ⟨Same.new hD, rfl⟩) (fun D i acc H hD hi h e => hG H h.1) (fun D i acc H l hD h hne => ⟨fun b o e => by rw [upd_ne (ne_some e hD)]; exact h.1 b o e, h.2⟩) ?_ ?_
  · rintro D i acc x H H' Qn Qy hD hi ⟨s1, rfl⟩ e hy hqn hqy
    obtain ⟨s2, b, hx⟩ := hY _ _ _ _ hi hy
    refine hs x b H' Qn Qy (List.mem_of_getElem? hx) (s1.trans s2) (fun hf H4 s4 => hqn _ (s4 _ _ (s2 _ _ e)) ⟨(s1.trans s2).trans s4, ?_⟩) fun ht H4 s4 => hqy _ _ (s4 _ _ (s2 _ _ e)) ⟨(s1.trans s2).trans s4, ?_⟩
    · rw [List.take_add_one, hx, List.filter_append]
      simp [hf]
    · rw [List.take_add_one, hx, List.filter_append, List.map_append]
      simp [ht]
  · rintro D acc H hD hl2 ⟨s1, rfl⟩ e
    rw [← hl, List.take_length] at e
    exact hd D H hD s1 e
/-- a list of tuples with its words -/
def ZsT (H : Hp) (zs : List (V × List Int)) : Prop := ∀ z ∈ zs, TPt H z.1 z.2
theorem zsT_of {H : Hp} : ∀ {as : List Addr} {gs : List (List Int)}, AsT H as gs → ∃ zs : List (V × List Int), as.map V.ref = zs.map (·.1) ∧ gs = zs.map (·.2) ∧ ZsT H zs
  | [], [], _ => ⟨[], rfl, rfl, fun z hz => by cases hz⟩
  | a :: as, g :: gs, h => by
    obtain ⟨zs, e1, e2, h3⟩ := zsT_of (as := as) (gs := gs) ⟨by have := h.1; simpa using this, fun i t g h1 h2 => h.2 (i + 1) t g h1 h2⟩
    refine ⟨(.ref a, g) :: zs, by rw [List.map_cons, List.map_cons, e1], by rw [List.map_cons, ← e2], fun z hz => ?_⟩
    rcases List.mem_cons.mp hz with rfl | hz
    · exact ⟨a, rfl, h.2 0 a g rfl rfl⟩
    · exact h3 z hz
  | [], _ :: _, h => by have := h.1; simp at this
  | _ :: _, [], h => by have := h.1; simp at this
theorem ZsT.lst {H : Hp} {D : Addr} {zs : List (V × List Int)} (h : ZsT H zs) (e : H D = some (.lst (zs.map (·.1)))) : LstT H D (zs.map (·.2)) := by
  refine lstT_of e (by simp) fun i y b h1 h2 => ?_
  rw [List.getElem?_map, Option.map_eq_some_iff] at h1 h2
  obtain ⟨z, hz, rfl⟩ := h1
  obtain ⟨z', hz', rfl⟩ := h2
  rw [hz] at hz'
  obtain rfl := Option.some.inj hz'
  exact h z (List.mem_of_getElem? hz)
theorem ZsT.same {H H' : Hp} {zs : List (V × List Int)} (h : ZsT H zs) (s : Same H H') : ZsT H' zs := fun z hz => (h z hz).tp (Tp.of s)
/-- of a list of tuples those with pr -/
theorem lcr_keepT {J : It} {a : Addr} {as : List Addr} {gs : List (List Int)} {H1 : Hp} (ha : H1 a = some (.lst (as.map V.ref))) (hA : AsT H1 as gs) (hk : gs.length ≤ 1000) (w : Walk J (as.map V.ref).length (fun H => H a = some (.lst (as.map V.ref))) (YAt (as.map V.ref))) {g : TG} {tt : TT} {te : TE} {vs : List Nat} {σ : L2.St} {Q : VK} (pr : List Int → Bool)
    (hs : ∀ t b H (Qn : Hp → Prop) (Qy : VK), b ∈ gs → Same H1 H → H t = some (.tup (b.map V.int)) → (pr b = false → ∀ H4, Same H H4 → Qn H4) → (pr b = true → ∀ H4, Same H H4 → Qy (.ref t) H4) → g (.ref t) (wipe σ vs) H fun σ2 H2 => wipe σ2 vs = wipe σ vs ∧ tt σ2 H2 fun b H3 => if b = true then te σ2 H3 Qy else Qn H3)
    (hd : ∀ D H, H1 D = none → Same H1 H → LstT H D (gs.filter pr) → Q (.ref D) H) : LcR J g tt te vs σ H1 Q := by
  obtain ⟨zs, e1, e2, hz⟩ := zsT_of hA
  have hlz : zs.length = (as.map V.ref).length := by rw [e1, List.length_map]
  refine lcr_keepP w zs pr hlz (Nat.lt_of_le_of_lt (by rw [List.length_map, hA.1]; exact hk) (by decide)) (fun H s => s _ _ ha) ?_ ?_ ?_
  · rintro i x H H' hi ⟨rfl, hx⟩
    rw [e1, List.getElem?_map, Option.map_eq_some_iff] at hx
    obtain ⟨z, hz, rfl⟩ := hx
    exact ⟨Same.refl _, z.2, hz⟩
  · intro x b H Qn Qy hm s1 q1 q2
    obtain ⟨t, rfl, ht⟩ := hz _ hm
    exact hs t b H Qn Qy (by rw [e2]; exact List.mem_map.mpr ⟨_, hm, rfl⟩) s1 (s1 _ _ ht) q1 q2
  · intro D H hD s1 e
    refine hd D H hD s1 ?_
    have := ZsT.lst (zs := zs.filter fun z => pr z.2) (fun z hz2 => (hz.same s1) z (List.mem_filter.mp hz2).1) e
    rw [e2, List.filter_map]
    exact this
/-- a list of pairs of tuples is no empty list -/
theorem dp_pp {H : Hp} {y : V} {z : List Int × List Int} (h : PP H y z) : Dp K H y (.tuple [tupI z.1, tupI z.2]) := by
  obtain ⟨r, b, t, rfl, h1, h2, h3⟩ := h
  exact .tup (.inl (.inl h1)) (.cons (dp_tupI (.inl (.inl h2))) (.cons (dp_tupI (.inl (.inl h3))) .nil))
def ppD (z : List Int × List Int) : PyData := .tuple [tupI z.1, tupI z.2]
theorem dpAll_pp {H : Hp} : ∀ {zs : List (V × (List Int × List Int))}, (∀ z ∈ zs, PP H z.1 z.2) → DpAll K H (zs.map (·.1)) (zs.map fun z => ppD z.2)
  | [], _ => .nil
  | z :: zs, h => .cons (dp_pp (h z (List.mem_cons_self ..))) (dpAll_pp fun x hx => h x (List.mem_cons_of_mem _ hx))
theorem lay_pps : ∀ zs : List (V × (List Int × List Int)), PyData.canLayAll0 (zs.map fun z => ppD z.2) = true
  | [] => rfl
  | z :: zs => by
    show (PyData.canLay0 (ppD z.2) && PyData.canLayAll0 (zs.map fun z => ppD z.2)) = true
    rw [lay_pps zs]
    show ((PyData.canLay0 (tupI z.2.1) && (PyData.canLay0 (tupI z.2.2) && true)) && true) = true
    rw [SeqAt.canLay_of_shaped (shaped_tupI z.2.1), SeqAt.canLay_of_shaped (shaped_tupI z.2.2)]
    rfl
theorem dep_pps : ∀ zs : List (V × (List Int × List Int)), PyData.depthAll (zs.map fun z => ppD z.2) ≤ 2
  | [] => by decide
  | z :: zs => by
    show max (max (PyData.depth (tupI z.2.1)) (max (PyData.depth (tupI z.2.2)) 0) + 1) (PyData.depthAll (zs.map fun z => ppD z.2)) ≤ 2
    have := dep_pps zs
    rw [depth_tupI, depth_tupI]
    omega
theorem neD_pps {H : Hp} {a b : Addr} {zs : List (V × (List Int × List Int))} {Q : VK} (h1 : H a = some (.lst (zs.map (·.1)))) (h : ∀ z ∈ zs, PP H z.1 z.2) (h2 : H b = some (.lst [])) (q : Q (.bl (!decide (zs = []))) H) : rNeD K (.ref a) (.ref b) H Q := by
  have sh : SeqAt.shaped (.list (zs.map fun z => ppD z.2)) = true := by
    have h2 : PyData.depth (.list (zs.map fun z => ppD z.2)) ≤ 64 := by
      show PyData.depthAll (zs.map fun z => ppD z.2) + 1 ≤ 64
      have := dep_pps zs
      omega
    unfold SeqAt.shaped
    rw [show PyData.canLay0 (.list (zs.map fun z => ppD z.2)) = true from lay_pps zs, decide_eq_true h2]
    rfl
  refine ⟨_, _, .lst (.inl (.inl h1)) (dpAll_pp h), .lst (.inl (.inl h2)) .nil, sh, by decide +kernel, ?_⟩
  have : PyData.eqv (.list (zs.map fun z => ppD z.2)) (.list []) = decide (zs = []) := by
    cases zs with
    | nil => rfl
    | cons z zs => exact (decide_eq_false (by simp)).symm
  rw [this]
  exact q
theorem neD_tupsE {H : Hp} {a b : Addr} {gs : List (List Int)} {Q : VK} (h1 : LstT H a gs) (h2 : H b = some (.lst [])) (q : Q (.bl (!decide (gs = []))) H) : rNeD K (.ref a) (.ref b) H Q := by
  have h3 : LstT H b [] := ⟨[], h2, AsT.nil⟩
  refine ⟨_, _, dp_lstT h1, dp_lstT h3, shaped_tups _, shaped_tups _, ?_⟩
  rw [show PyData.eqv (.list (gs.map tupI)) (.list (([] : List (List Int)).map tupI)) = decide (gs = []) from eqv_tups _ _]
  exact q
theorem zs_of {β : Type} {H : Hp} {P : Hp → V → β → Prop} : ∀ {ys : List V} {bs : List β}, ys.length = bs.length → (∀ (i : Nat) y b, ys[i]? = some y → bs[i]? = some b → P H y b) → ∃ zs : List (V × β), ys = zs.map (·.1) ∧ bs = zs.map (·.2) ∧ ∀ z ∈ zs, P H z.1 z.2
  | [], [], _, _ => ⟨[], rfl, rfl, fun z hz => by cases hz⟩
  | y :: ys, b :: bs, hl, h => by
    obtain ⟨zs, e1, e2, h3⟩ := zs_of (H := H) (P := P) (ys := ys) (bs := bs) (by simpa using hl) fun i y z h1 h2 => h (i + 1) y z h1 h2
    refine ⟨(y, b) :: zs, by rw [e1]; rfl, by rw [e2]; rfl, fun z hz => ?_⟩
    rcases List.mem_cons.mp hz with rfl | hz
    · exact h 0 y b rfl rfl
    · exact h3 z hz
  | [], _ :: _, h, _ => by simp at h
  | _ :: _, [], h, _ => by simp at h
end

section
theorem midL_iff : ∀ {ss p a b : List Int}, p.length = ss.length → a.length = ss.length → b.length = ss.length → (MidL ss p a b ↔ ∀ i, i < ss.length → ss.getD i 0 ∣ a.getD i 0 + b.getD i 0 - 2 * p.getD i 0)
  | [], [], [], [], _, _, _ => ⟨fun _ i h => by simp at h, fun _ => trivial⟩
  | s :: ss, p :: ps, a :: as, b :: bs, h1, h2, h3 => by
    show s ∣ a + b - 2 * p ∧ MidL ss ps as bs ↔ _
    rw [midL_iff (by simpa using h1) (by simpa using h2) (by simpa using h3)]
    constructor
    · rintro ⟨h, g⟩ i hi
      cases i with
      | zero => exact h
      | succ i => exact g i (by simpa using hi)
    · intro h
      exact ⟨h 0 (by simp), fun i hi => h (i + 1) (by simpa using hi)⟩
  | [], _ :: _, _, _, h, _, _ => by simp at h
  | [], [], _ :: _, _, _, h, _ => by simp at h
  | [], [], [], _ :: _, _, _, h => by simp at h
  | _ :: _, [], _, _, h, _, _ => by simp at h
  | _ :: _, _ :: _, [], _, _, h, _ => by simp at h
  | _ :: _, _ :: _, _ :: _, [], _, _, h => by simp at h
theorem ext_getD {p q : List Int} (hl : p.length = q.length) (h : ∀ i, i < p.length → p.getD i 0 = q.getD i 0) : p = q := by
  refine List.ext_getElem? fun i => ?_
  by_cases hi : i < p.length
  · have := h i hi
    rw [List.getD_eq_getElem?_getD, List.getD_eq_getElem?_getD, List.getElem?_eq_getElem hi, List.getElem?_eq_getElem (by omega)] at this
    rw [List.getElem?_eq_getElem hi, List.getElem?_eq_getElem (by omega)]
    exact congrArg some this
  · rw [List.getElem?_eq_none (by omega), List.getElem?_eq_none (by omega)]
end

/-! ### what the targets reach by middles: a coset of the lattice -/
section
variable {S : (Nat → Int) → Prop}
theorem grp_smul (G : Grp S) {v : Nat → Int} (h : S v) (c : Int) : S fun i => c * v i := by
  have := G.add _ v c G.zero h
  have e : (fun i => (0 : Int) + c * v i) = fun i => c * v i := funext fun i => Int.zero_add _
  rwa [e] at this
theorem grp_sum (G : Grp S) {u v : Nat → Int} (h1 : S u) (h2 : S v) : S fun i => u i + v i := by
  have := G.add u v 1 h1 h2
  have e : (fun i => u i + 1 * v i) = fun i => u i + v i := funext fun i => by rw [Int.one_mul]
  rwa [e] at this
theorem grp_all (G : Grp S) {n : Nat} {o f : Nat → Int} (ho : ∀ j, j < n → S (eU j (o j))) (hf : ∀ j, j < n → o j ∣ f j) (hz : ∀ j, n ≤ j → f j = 0) : S f := by
  have key : ∀ k, k ≤ n → S fun i => if i < k then f i else 0 := fun k => by
    induction k with
    | zero =>
      intro _
      have e : (fun i => if i < 0 then f i else 0) = fun _ => (0 : Int) := funext fun i => if_neg (Nat.not_lt_zero i)
      rw [e]
      exact G.zero
    | succ k ih =>
      intro hk
      obtain ⟨q, hq⟩ := hf k (by omega)
      have := G.add _ _ q (ih (by omega)) (ho k (by omega))
      have e : (fun i => (if i < k then f i else 0) + q * eU k (o k) i) = fun i => if i < k + 1 then f i else 0 := funext fun i => by
        unfold eU
        by_cases h1 : i = k
        · subst h1
          rw [if_neg (Nat.lt_irrefl _), if_pos rfl, if_pos (Nat.lt_succ_self _), hq, Int.mul_comm q]
          omega
        · rw [if_neg h1, Int.mul_zero, Int.add_zero]
          by_cases h2 : i < k
          · rw [if_pos h2, if_pos (by omega)]
          · rw [if_neg h2, if_neg (by omega)]
      rwa [e] at this
  have := key n (Nat.le_refl _)
  have e : (fun i => if i < n then f i else 0) = f := funext fun i => by
    by_cases h : i < n
    · rw [if_pos h]
    · rw [if_neg h, hz i (by omega)]
  rwa [e] at this
theorem odd_common {o : Nat → Int} : ∀ n, (∀ j, j < n → o j % 2 = 1) → ∃ N : Int, N % 2 = 1 ∧ ∀ j, j < n → o j ∣ N
  | 0, _ => ⟨1, rfl, fun j h => absurd h (Nat.not_lt_zero _)⟩
  | n + 1, h => by
    obtain ⟨N, h1, h2⟩ := odd_common n fun j hj => h j (by omega)
    refine ⟨N * o n, ?_, fun j hj => ?_⟩
    · rw [Int.mul_emod, h1, h n (by omega)]
      rfl
    · by_cases e : j = n
      · subst e
        exact Int.dvd_mul_left ..
      · exact Int.dvd_trans (h2 j (by omega)) (Int.dvd_mul_right ..)
theorem nat_common {ss : List Int} (hp : ∀ s ∈ ss, 1 ≤ s) : ∃ M : Nat, 1 ≤ M ∧ ∀ s ∈ ss, s ∣ (M : Int) := by
  induction ss with
  | nil => exact ⟨1, Nat.le_refl _, fun s h => by cases h⟩
  | cons s ss ih =>
    obtain ⟨M, h1, h2⟩ := ih fun x hx => hp x (List.mem_cons_of_mem _ hx)
    have hs := hp s (List.mem_cons_self ..)
    refine ⟨s.toNat * M, Nat.mul_pos (by omega) h1, fun x hx => ?_⟩
    have e : ((s.toNat * M : Nat) : Int) = s * (M : Int) := by rw [Int.natCast_mul, Int.toNat_of_nonneg (by omega)]
    rw [e]
    rcases List.mem_cons.mp hx with rfl | hx
    · exact Int.dvd_mul_right ..
    · exact Int.dvd_trans (h2 x hx) (Int.dvd_mul_left ..)
end
section
theorem fv_sub {p g : List Int} (h : p.length = g.length) : fv (sub2 p g) = fun i => fv p i - fv g i := by
  unfold sub2
  exact fv_zw h (by decide)
theorem clos_free {ss : List Int} {gs : List (List Int)} (z : Sz ss) (hne : gs ≠ []) (hg : ∀ g ∈ gs, Seat ss g) : ∀ (n : Nat) (p : List Int), Seat ss p → kn ss gs n p = true → Free ss gs (fv (sub2 p (gs.headD [])))
  | 0, p, hp, k => fun S G H => H.2 p ((tgB_ix hg hp).mp k)
  | n + 1, p, hp, k => fun S G H => by
    obtain ⟨a, b, ha, hb, hm, ka, kb⟩ := (un_mid z.pos hp).mp k
    have sa := clos_free z hne hg n a ha ka S G H
    have sb := clos_free z hne hg n b hb kb S G H
    have hg0 := (hg _ (headD_mem hne)).len
    generalize gs.headD [] = g0 at sa sb hg0 ⊢
    rw [fv_sub (by rw [hp.len, hg0])]
    rw [fv_sub (by rw [ha.len, hg0])] at sa
    rw [fv_sub (by rw [hb.len, hg0])] at sb
    have hmi := (midL_iff hp.len ha.len hb.len).mp hm
    have hod : ∀ j, j < ss.length → ∃ e, ss.getD j 0 = oddI (ss.getD j 0) * 2 ^ e ∧ oddI (ss.getD j 0) % 2 = 1 := fun j hj => by
      have e3 : ss.getD j 0 = ss[j] := by rw [getD_getD, List.getElem?_eq_getElem hj]; rfl
      obtain ⟨k, e1, e2⟩ := oddI_split (z.pos _ (List.getElem_mem hj))
      rw [e3]
      exact ⟨k, e1, e2⟩
    have hout : ∀ (q : List Int) j, q.length = ss.length → ss.length ≤ j → fv q j = 0 := fun q j hq hj => fv_out (by rw [hq]; exact hj)
    obtain ⟨N, hN, hNd⟩ := odd_common (o := fun j => oddI (ss.getD j 0)) ss.length fun j hj => by obtain ⟨_, _, h⟩ := hod j hj; exact h
    have s1 : S fun i => N * (fv p i - fv g0 i) := grp_all G H.1 (fun j hj => Int.dvd_trans (hNd j hj) (Int.dvd_mul_right ..)) fun j hj => by rw [hout p j hp.len hj, hout g0 j hg0 hj]; simp
    have s2 : S fun i => 2 * (fv p i - fv g0 i) - ((fv a i - fv g0 i) + (fv b i - fv g0 i)) := by
      refine grp_all G H.1 (fun j hj => ?_) fun j hj => by rw [hout p j hp.len hj, hout g0 j hg0 hj, hout a j ha.len hj, hout b j hb.len hj]; simp
      obtain ⟨k, hk⟩ := hmi j hj
      obtain ⟨e, e1, _⟩ := hod j hj
      refine Int.dvd_trans ⟨2 ^ e, e1⟩ ⟨-k, ?_⟩
      rw [Int.mul_neg, ← hk]
      unfold fv
      omega
    have s3 := grp_sum G s2 (grp_sum G sa sb)
    have s4 := G.add _ _ (-((N - 1) / 2)) s1 s3
    have e : (fun i => N * (fv p i - fv g0 i) + -((N - 1) / 2) * (2 * (fv p i - fv g0 i) - ((fv a i - fv g0 i) + (fv b i - fv g0 i)) + ((fv a i - fv g0 i) + (fv b i - fv g0 i)))) = fun i => fv p i - fv g0 i := funext fun i => by
      generalize fv p i - fv g0 i = x
      generalize (fv a i - fv g0 i) + (fv b i - fv g0 i) = y
      obtain ⟨m, rfl⟩ : ∃ m, N = 2 * m + 1 := ⟨N / 2, by omega⟩
      have h1 : (2 * m + 1 - 1) / 2 = m := by omega
      rw [h1, show 2 * x - y + y = 2 * x by omega, Int.neg_mul, Int.add_mul, Int.one_mul, Int.mul_assoc 2 m x, Int.mul_left_comm m 2 x]
      omega
    rwa [e] at s4
end
section
variable {ss : List Int}
/-- c moved by v -/
def redV (ss c : List Int) (v : Nat → Int) : List Int := (List.range ss.length).map fun i => (c.getD i 0 + v i) % ss.getD i 0
theorem redV_len (c : List Int) (v : Nat → Int) : (redV ss c v).length = ss.length := by unfold redV; rw [List.length_map, List.length_range]
theorem redV_get {c : List Int} {v : Nat → Int} {i : Nat} (hi : i < ss.length) : (redV ss c v).getD i 0 = (c.getD i 0 + v i) % ss.getD i 0 := by
  unfold redV
  rw [List.getD_eq_getElem?_getD, List.getElem?_map, List.getElem?_range hi]
  rfl
theorem getD_mem {l : List Int} {i : Nat} (hi : i < l.length) : l.getD i 0 ∈ l := by
  rw [List.getD_eq_getElem?_getD, List.getElem?_eq_getElem hi]
  exact List.getElem_mem hi
theorem redV_dvd (hp : ∀ s ∈ ss, 1 ≤ s) {c : List Int} {v : Nat → Int} {i : Nat} (hi : i < ss.length) : ∃ q, (redV ss c v).getD i 0 = c.getD i 0 + v i - ss.getD i 0 * q := by
  rw [redV_get hi]
  exact ⟨_, by rw [Int.emod_def]⟩
theorem redV_seat (hp : ∀ s ∈ ss, 1 ≤ s) (c : List Int) (v : Nat → Int) : Seat ss (redV ss c v) := by
  refine ⟨redV_len c v, fun i p s h1 h2 => ?_⟩
  have hi : i < ss.length := (List.getElem?_eq_some_iff.mp h2).1
  unfold redV at h1
  rw [List.getElem?_map, List.getElem?_range hi] at h1
  obtain rfl := Option.some.inj h1
  have e : ss.getD i 0 = s := by rw [List.getD_eq_getElem?_getD, h2]; rfl
  have hs := hp s (List.mem_of_getElem? h2)
  show 0 ≤ (c.getD i 0 + v i) % ss.getD i 0 ∧ (c.getD i 0 + v i) % ss.getD i 0 < s
  rw [e]
  exact ⟨Int.emod_nonneg _ (by omega), Int.emod_lt_of_pos _ (by omega)⟩
theorem seat_ext {p q : List Int} (hp : Seat ss p) (hq : Seat ss q) (h : ∀ i, i < ss.length → ss.getD i 0 ∣ p.getD i 0 - q.getD i 0) : p = q := by
  refine ext_getD (by rw [hp.len, hq.len]) fun i hi => ?_
  rw [hp.len] at hi
  have hip : i < p.length := by rw [hp.len]; exact hi
  have hiq : i < q.length := by rw [hq.len]; exact hi
  obtain ⟨k, hk⟩ := h i hi
  have b1 := hp.ok i _ _ (List.getElem?_eq_getElem hip) (List.getElem?_eq_getElem hi)
  have b2 := hq.ok i _ _ (List.getElem?_eq_getElem hiq) (List.getElem?_eq_getElem hi)
  have e1 : p.getD i 0 = p[i] := by rw [List.getD_eq_getElem?_getD, List.getElem?_eq_getElem hip]; rfl
  have e2 : q.getD i 0 = q[i] := by rw [List.getD_eq_getElem?_getD, List.getElem?_eq_getElem hiq]; rfl
  have e3 : ss.getD i 0 = ss[i] := by rw [List.getD_eq_getElem?_getD, List.getElem?_eq_getElem hi]; rfl
  rw [e1, e2, e3] at hk
  rw [e1, e2]
  have hs : 0 < ss[i] := by omega
  by_cases h0 : k = 0
  · rw [h0, Int.mul_zero] at hk
    omega
  · exfalso
    rcases Int.lt_or_gt_of_ne h0 with h1 | h1
    · have := Int.mul_le_mul_of_nonneg_left (show k ≤ -1 by omega) (Int.le_of_lt hs)
      omega
    · have := Int.mul_le_mul_of_nonneg_left (show 1 ≤ k by omega) (Int.le_of_lt hs)
      omega
variable {gs : List (List Int)}
/-- p is reached at all -/
def Cl (ss : List Int) (gs : List (List Int)) (p : List Int) : Prop := ∃ n, kn ss gs n p = true
theorem cl_mid (z : Sz ss) {p a b : List Int} (hp : Seat ss p) (ha : Seat ss a) (hb : Seat ss b) (ca : Cl ss gs a) (cb : Cl ss gs b) (h : ∀ i, i < ss.length → ss.getD i 0 ∣ a.getD i 0 + b.getD i 0 - 2 * p.getD i 0) : Cl ss gs p := by
  obtain ⟨n, hn⟩ := ca
  obtain ⟨m, hm⟩ := cb
  refine ⟨max n m + 1, (un_mid z.pos hp).mpr ⟨a, b, ha, hb, (midL_iff hp.len ha.len hb.len).mpr h, kn_le ha (by omega) hn, kn_le hb (by omega) hm⟩⟩
theorem cl_dyad (z : Sz ss) {x y : List Int} (hx : Seat ss x) (hy : Seat ss y) (cx : Cl ss gs x) (cy : Cl ss gs y) : ∀ (n k : Nat) (p : List Int), k ≤ 2 ^ n → Seat ss p → (∀ i, i < ss.length → ss.getD i 0 ∣ (2 ^ n : Nat) * p.getD i 0 - (((2 ^ n : Nat) - (k : Int)) * x.getD i 0 + k * y.getD i 0)) → Cl ss gs p
  | 0, k, p, hk, hp, h => by
    have hk : k = 0 ∨ k = 1 := by simp at hk; omega
    rcases hk with rfl | rfl
    · have : p = x := seat_ext hp hx fun i hi => by
        have := h i hi
        simpa using this
      rw [this]
      exact cx
    · have : p = y := seat_ext hp hy fun i hi => by
        have := h i hi
        simpa using this
      rw [this]
      exact cy
  | n + 1, k, p, hk, hp, h => by
    have hpw : ((2 ^ (n + 1) : Nat) : Int) = 2 * ((2 ^ n : Nat) : Int) := by rw [Nat.pow_succ, Int.natCast_mul]; exact Int.mul_comm _ _
    rw [hpw] at h
    have hk2 : k ≤ 2 * 2 ^ n := by rw [Nat.pow_succ] at hk; omega
    have step : ∀ (w : List Int), Seat ss w → Cl ss gs w → ∀ k' : Nat, k' ≤ 2 ^ n → (∀ i, i < ss.length → (2 * ((2 ^ n : Nat) : Int) - k) * x.getD i 0 + k * y.getD i 0 - ((2 ^ n : Nat) : Int) * w.getD i 0 = (((2 ^ n : Nat) : Int) - k') * x.getD i 0 + k' * y.getD i 0) → Cl ss gs p := fun w hw cw k' hk' he => by
      have hb := redV_seat z.pos p (fun i => p.getD i 0 - w.getD i 0)
      refine cl_mid z hp hw hb cw (cl_dyad z hx hy cx cy n k' _ hk' hb fun i hi => ?_) fun i hi => ?_
      · obtain ⟨q, hq⟩ := redV_dvd z.pos (c := p) (v := fun i => p.getD i 0 - w.getD i 0) hi
        obtain ⟨r, hr⟩ := h i hi
        rw [hq, ← he i hi]
        generalize ((2 ^ n : Nat) : Int) = P at *
        refine ⟨r - P * q, ?_⟩
        rw [Int.mul_sub (ss.getD i 0), ← hr, Int.mul_left_comm (ss.getD i 0) P q, Int.mul_assoc 2 P, Int.mul_sub P, Int.mul_add P, Int.mul_sub P]
        omega
      · obtain ⟨q, hq⟩ := redV_dvd z.pos (c := p) (v := fun i => p.getD i 0 - w.getD i 0) hi
        rw [hq]
        exact ⟨-q, by rw [Int.mul_neg]; omega⟩
    by_cases hlt : k ≤ 2 ^ n
    · refine step x hx cx k hlt fun i hi => ?_
      generalize ((2 ^ n : Nat) : Int) = P
      rw [Int.sub_mul, Int.sub_mul, Int.mul_assoc]
      omega
    · refine step y hy cy (k - 2 ^ n) (by omega) fun i hi => ?_
      have e : ((k - 2 ^ n : Nat) : Int) = (k : Int) - ((2 ^ n : Nat) : Int) := by omega
      rw [e]
      generalize ((2 ^ n : Nat) : Int) = P
      rw [show P - ((k : Int) - P) = 2 * P - k by omega, Int.sub_mul (k : Int) P]
      omega
theorem cl_refl (z : Sz ss) {x y p : List Int} (hx : Seat ss x) (hy : Seat ss y) (hp : Seat ss p) (cx : Cl ss gs x) (cy : Cl ss gs y) (h : ∀ i, i < ss.length → ss.getD i 0 ∣ p.getD i 0 - (2 * y.getD i 0 - x.getD i 0)) : Cl ss gs p := by
  obtain ⟨M, hM, hd⟩ := nat_common z.pos
  have hlt := Nat.lt_two_pow_self (n := M)
  refine cl_dyad z hx hy cx cy M ((2 ^ M * 2) % M) p (Nat.le_of_lt (Nat.lt_trans (Nat.mod_lt _ (by omega)) hlt)) hp fun i hi => ?_
  obtain ⟨q, hq⟩ := h i hi
  obtain ⟨m, hm⟩ := hd _ (getD_mem hi)
  have e : (((2 ^ M * 2) % M : Nat) : Int) = ((2 ^ M : Nat) : Int) * 2 - (M : Int) * (((2 ^ M * 2) / M : Nat) : Int) := by
    have h1 := Nat.mod_add_div (2 ^ M * 2) M
    have h2 : (((2 ^ M * 2) % M : Nat) : Int) + (M : Int) * (((2 ^ M * 2) / M : Nat) : Int) = ((2 ^ M : Nat) : Int) * 2 := by
      rw [← Int.natCast_mul, ← Int.natCast_add, h1, Int.natCast_mul]
      rfl
    omega
  rw [e, hm]
  generalize ((2 ^ M : Nat) : Int) = P
  generalize (((2 ^ M * 2) / M : Nat) : Int) = Q
  have e2 : p.getD i 0 = ss.getD i 0 * q + (2 * y.getD i 0 - x.getD i 0) := by omega
  rw [e2]
  generalize ss.getD i 0 = s
  generalize x.getD i 0 = a
  generalize y.getD i 0 = b
  refine ⟨P * q + m * Q * (b - a), ?_⟩
  have t1 : P * (s * q + (2 * b - a)) = s * (P * q) + (P * (2 * b) - P * a) := by rw [Int.mul_add, Int.mul_sub, Int.mul_left_comm]
  have t2 : (P - (P * 2 - s * m * Q)) * a + (P * 2 - s * m * Q) * b = P * (2 * b) - P * a - s * (m * Q * (b - a)) := by
    rw [Int.sub_mul, Int.sub_mul, Int.sub_mul, Int.mul_sub (m * Q), Int.mul_sub s, Int.mul_assoc s m Q, Int.mul_assoc s (m * Q) a, Int.mul_assoc s (m * Q) b, Int.mul_assoc P 2 a, Int.mul_assoc P 2 b, Int.mul_left_comm P 2 a]
    omega
  rw [t1, t2, Int.mul_add s]
  omega
theorem cl_add (z : Sz ss) {a b c p : List Int} (ha : Seat ss a) (hb : Seat ss b) (hc : Seat ss c) (hp : Seat ss p) (ca : Cl ss gs a) (cb : Cl ss gs b) (cc : Cl ss gs c) (h : ∀ i, i < ss.length → ss.getD i 0 ∣ p.getD i 0 - (c.getD i 0 + (b.getD i 0 - a.getD i 0))) : Cl ss gs p := by
  have hu := redV_seat z.pos c (fun i => c.getD i 0 - a.getD i 0)
  have hv := redV_seat z.pos b (fun i => b.getD i 0 - a.getD i 0)
  have cu : Cl ss gs (redV ss c fun i => c.getD i 0 - a.getD i 0) := cl_refl z ha hc hu ca cc fun i hi => by
    obtain ⟨q, hq⟩ := redV_dvd z.pos (c := c) (v := fun i => c.getD i 0 - a.getD i 0) hi
    rw [hq]
    exact ⟨-q, by rw [Int.mul_neg]; omega⟩
  have cv : Cl ss gs (redV ss b fun i => b.getD i 0 - a.getD i 0) := cl_refl z ha hb hv ca cb fun i hi => by
    obtain ⟨q, hq⟩ := redV_dvd z.pos (c := b) (v := fun i => b.getD i 0 - a.getD i 0) hi
    rw [hq]
    exact ⟨-q, by rw [Int.mul_neg]; omega⟩
  refine cl_mid z hp hu hv cu cv fun i hi => ?_
  obtain ⟨q1, h1⟩ := redV_dvd z.pos (c := c) (v := fun i => c.getD i 0 - a.getD i 0) hi
  obtain ⟨q2, h2⟩ := redV_dvd z.pos (c := b) (v := fun i => b.getD i 0 - a.getD i 0) hi
  obtain ⟨q3, h3⟩ := h i hi
  rw [h1, h2]
  exact ⟨-q1 - q2 - 2 * q3, by rw [Int.mul_sub, Int.mul_sub, Int.mul_neg, Int.mul_left_comm _ 2 q3, ← h3]; omega⟩
/-- moves that keep what is reached -/
def Kp (ss : List Int) (gs : List (List Int)) (v : Nat → Int) : Prop := ∀ c, Seat ss c → Cl ss gs c → Cl ss gs (redV ss c v)
theorem kp_congr (z : Sz ss) {u v : Nat → Int} (h : Kp ss gs u) (e : ∀ i, i < ss.length → ss.getD i 0 ∣ v i - u i) : Kp ss gs v := fun c hc cc => by
  have : redV ss c v = redV ss c u := seat_ext (redV_seat z.pos c v) (redV_seat z.pos c u) fun i hi => by
    obtain ⟨q1, h1⟩ := redV_dvd z.pos (c := c) (v := v) hi
    obtain ⟨q2, h2⟩ := redV_dvd z.pos (c := c) (v := u) hi
    obtain ⟨q3, h3⟩ := e i hi
    rw [h1, h2]
    exact ⟨q3 - q1 + q2, by rw [Int.mul_add, Int.mul_sub, ← h3]; omega⟩
  rw [this]
  exact h c hc cc
theorem kp_sum (z : Sz ss) {u v : Nat → Int} (h : Kp ss gs u) (g : Kp ss gs v) : Kp ss gs fun i => u i + v i := fun c hc cc => by
  have h1 := g _ (redV_seat z.pos c u) (h c hc cc)
  have : redV ss c (fun i => u i + v i) = redV ss (redV ss c u) v := seat_ext (redV_seat z.pos c _) (redV_seat z.pos _ v) fun i hi => by
    obtain ⟨q1, h1⟩ := redV_dvd z.pos (c := c) (v := fun i => u i + v i) hi
    obtain ⟨q2, h2⟩ := redV_dvd z.pos (c := c) (v := u) hi
    obtain ⟨q3, h3⟩ := redV_dvd z.pos (c := redV ss c u) (v := v) hi
    rw [h1, h3, h2]
    exact ⟨q2 + q3 - q1, by rw [Int.mul_sub, Int.mul_add]; omega⟩
  rw [this]
  exact h1
theorem kp_zero (z : Sz ss) : Kp ss gs fun _ => 0 := fun c hc cc => by
  have : redV ss c (fun _ => 0) = c := seat_ext (redV_seat z.pos c _) hc fun i hi => by
    obtain ⟨q1, h1⟩ := redV_dvd z.pos (c := c) (v := fun _ => 0) hi
    rw [h1]
    exact ⟨-q1, by rw [Int.mul_neg]; omega⟩
  rw [this]
  exact cc
theorem kp_nat (z : Sz ss) {v : Nat → Int} (h : Kp ss gs v) : ∀ m : Nat, Kp ss gs fun i => (m : Int) * v i
  | 0 => kp_congr z (kp_zero z) fun i _ => ⟨0, by simp⟩
  | m + 1 => kp_congr z (kp_sum z (kp_nat z h m) h) fun i _ => ⟨0, by rw [Int.natCast_succ, Int.add_mul]; omega⟩
theorem kp_grp (z : Sz ss) : Grp (Kp ss gs) := by
  refine ⟨kp_zero z, fun u v c hu hv => kp_sum z hu ?_⟩
  obtain ⟨M, hM, hd⟩ := nat_common z.pos
  refine kp_congr z (kp_nat z hv (c % (M : Int)).toNat) fun i hi => ?_
  obtain ⟨m, hm⟩ := hd _ (getD_mem hi)
  have e : (((c % (M : Int)).toNat : Nat) : Int) = c - M * (c / M) := by
    rw [Int.toNat_of_nonneg (Int.emod_nonneg _ (by omega)), Int.emod_def]
  rw [e, hm]
  exact ⟨m * (c / (ss.getD i 0 * m)) * v i, by rw [Int.sub_mul, Int.mul_assoc (ss.getD i 0), Int.mul_assoc (ss.getD i 0)]; omega⟩
theorem free_cl (z : Sz ss) (hne : gs ≠ []) (hg : ∀ g ∈ gs, Seat ss g) {p : List Int} (hp : Seat ss p) (h : Free ss gs (fv (sub2 p (gs.headD [])))) : Cl ss gs p := by
  have hm0 := headD_mem hne
  have h0 := hg _ hm0
  have cg : ∀ g ∈ gs, Cl ss gs g := fun g hgm => ⟨0, (tgB_ix hg (hg g hgm)).mpr hgm⟩
  have gen : Gen ss gs (Kp ss gs) := by
    refine ⟨fun j hj c hc cc => ?_, fun g hgm c hc cc => ?_⟩
    · have e3 : ss.getD j 0 = ss[j] := by rw [getD_getD, List.getElem?_eq_getElem hj]; rfl
      obtain ⟨k, e1, _⟩ := oddI_split (z.pos _ (List.getElem_mem hj))
      rw [← e3] at e1
      refine cl_dyad z hc hc cc cc k 0 _ (Nat.zero_le _) (redV_seat z.pos c _) fun i hi => ?_
      obtain ⟨q, hq⟩ := redV_dvd z.pos (c := c) (v := eU j (oddI (ss.getD j 0))) hi
      rw [hq]
      have hpw : ((2 ^ k : Nat) : Int) = 2 ^ k := by rw [Int.natCast_pow]; rfl
      unfold eU
      by_cases e : i = j
      · subst e
        rw [if_pos rfl]
        refine ⟨1 - (2 ^ k : Nat) * q, ?_⟩
        rw [Int.mul_sub (ss.getD i 0), Int.mul_left_comm (ss.getD i 0), Int.mul_sub ((2 ^ k : Nat) : Int), Int.mul_add ((2 ^ k : Nat) : Int), Int.sub_mul]
        have : ((2 ^ k : Nat) : Int) * oddI (ss.getD i 0) = ss.getD i 0 := by rw [hpw, Int.mul_comm]; exact e1.symm
        simp only [Int.natCast_zero, Int.zero_mul, Int.mul_one]
        omega
      · rw [if_neg e]
        refine ⟨-((2 ^ k : Nat) * q), ?_⟩
        rw [Int.mul_neg, Int.mul_left_comm (ss.getD i 0), Int.mul_sub ((2 ^ k : Nat) : Int), Int.mul_add ((2 ^ k : Nat) : Int), Int.sub_mul]
        simp only [Int.natCast_zero, Int.zero_mul, Int.mul_zero]
        omega
    · rw [fv_sub (by rw [(hg g hgm).len, h0.len])]
      refine cl_add z h0 (hg g hgm) hc (redV_seat z.pos c _) (cg _ hm0) (cg g hgm) cc fun i hi => ?_
      obtain ⟨q, hq⟩ := redV_dvd z.pos (c := c) (v := fun i => fv g i - fv (gs.headD []) i) hi
      rw [hq]
      refine ⟨-q, ?_⟩
      rw [Int.mul_neg]
      unfold fv
      omega
  have := h _ (kp_grp z) gen _ h0 (cg _ hm0)
  rw [fv_sub (by rw [hp.len, h0.len])] at this
  have e : redV ss (gs.headD []) (fun i => fv p i - fv (gs.headD []) i) = p := seat_ext (redV_seat z.pos _ _) hp fun i hi => by
    obtain ⟨q, hq⟩ := redV_dvd z.pos (c := gs.headD []) (v := fun i => fv p i - fv (gs.headD []) i) hi
    rw [hq]
    refine ⟨-q, ?_⟩
    rw [Int.mul_neg]
    unfold fv
    omega
  rwa [e] at this
/-- reach tells what the middles reach -/
theorem reach_cl (z : Sz ss) (hne : gs ≠ []) (hg : ∀ g ∈ gs, Seat ss g) {p : List Int} (hp : Seat ss p) : reachI ss gs p = none ↔ ∃ m, lev ss gs p = some m := by
  rw [reach_free z hne (fun g h => (hg g h).len) hp.len]
  constructor
  · intro h
    obtain ⟨n, hn⟩ := free_cl z hne hg hp h
    obtain ⟨m, _, e⟩ := kn_lev hp hn
    exact ⟨m, e⟩
  · rintro ⟨m, e⟩
    exact clos_free z hne hg m p hp ((lev_some hp).mp e).1
end

/-! ### the number of cosets -/
theorem no_inj : ∀ (n : Nat) (f : Nat → Nat), (∀ i, i ≤ n → f i < n) → (∀ i j, i ≤ n → j ≤ n → f i = f j → i = j) → False
  | 0, f, h, _ => by have := h 0 (Nat.le_refl _); omega
  | n + 1, f, h, hi => by
    have hk := h (n + 1) (Nat.le_refl _)
    refine no_inj n (fun i => if f i = n then f (n + 1) else f i) (fun i hin => ?_) (fun i j hin hjn e => ?_)
    · show (if f i = n then f (n + 1) else f i) < n
      split
      · rename_i e
        have : f (n + 1) ≠ n := fun e2 => by
          have := hi i (n + 1) (by omega) (by omega) (by omega)
          omega
        omega
      · have := h i (by omega)
        omega
    · have e' : (if f i = n then f (n + 1) else f i) = (if f j = n then f (n + 1) else f j) := e
      by_cases h1 : f i = n <;> by_cases h2 : f j = n
      · exact hi i j (by omega) (by omega) (by omega)
      · rw [if_pos h1, if_neg h2] at e'
        have := hi (n + 1) j (by omega) (by omega) e'
        omega
      · rw [if_neg h1, if_pos h2] at e'
        have := hi i (n + 1) (by omega) (by omega) e'
        omega
      · rw [if_neg h1, if_neg h2] at e'
        exact hi i j (by omega) (by omega) e'
def dif (u v : Nat → Int) : Nat → Int := fun k => u k + -1 * v k
/-- N vectors that stand for the cosets of F -/
def Idx (n : Nat) (F : (Nat → Int) → Prop) (N : Nat) : Prop := ∃ f : Nat → Nat → Int, (∀ i k, n ≤ k → f i k = 0) ∧ (∀ i j, i < N → j < N → F (dif (f i) (f j)) → i = j) ∧ ∀ v : Nat → Int, (∀ k, n ≤ k → v k = 0) → ∃ i, i < N ∧ F (dif v (f i))
theorem idx_le {n N M : Nat} {F : (Nat → Int) → Prop} (G : Grp F) (h : Idx n F N) (h' : Idx n F M) : N ≤ M := by
  obtain ⟨f, h1, h2, _⟩ := h
  obtain ⟨g, _, _, h3⟩ := h'
  refine Nat.le_of_not_lt fun hlt => ?_
  refine no_inj M (fun i => (h3 (f i) (h1 i)).choose) (fun i _ => (h3 (f i) (h1 i)).choose_spec.1) fun i j hi hj e => ?_
  have a := (h3 (f i) (h1 i)).choose_spec.2
  have b := (h3 (f j) (h1 j)).choose_spec.2
  have e' : (h3 (f i) (h1 i)).choose = (h3 (f j) (h1 j)).choose := e
  rw [← e'] at b
  have c := G.add _ _ (-1) a b
  refine h2 i j (by omega) (by omega) ?_
  have e3 : (fun k => dif (f i) (g (h3 (f i) (h1 i)).choose) k + -1 * dif (f j) (g (h3 (f i) (h1 i)).choose) k) = dif (f i) (f j) := by
    funext k
    unfold dif
    omega
  rw [e3] at c
  exact c
theorem idx_eq {n N M : Nat} {F : (Nat → Int) → Prop} (G : Grp F) (h : Idx n F N) (h' : Idx n F M) : N = M := Nat.le_antisymm (idx_le G h h') (idx_le G h' h)
/-- carried to another table -/
theorem idx_map {n n' N : Nat} {F F' : (Nat → Int) → Prop} (G' : Grp F') (p q : (Nat → Int) → (Nat → Int)) (hp : ∀ u v, p (dif u v) = dif (p u) (p v)) (sp : ∀ v, (∀ k, n ≤ k → v k = 0) → ∀ k, n' ≤ k → p v k = 0) (sq : ∀ v, (∀ k, n' ≤ k → v k = 0) → ∀ k, n ≤ k → q v k = 0)
    (h1 : ∀ v, (∀ k, n ≤ k → v k = 0) → (F v ↔ F' (p v))) (h2 : ∀ v, (∀ k, n' ≤ k → v k = 0) → F' (dif v (p (q v)))) (h : Idx n F N) : Idx n' F' N := by
  obtain ⟨f, a, b, c⟩ := h
  have sd : ∀ u v : Nat → Int, (∀ k, n ≤ k → u k = 0) → (∀ k, n ≤ k → v k = 0) → ∀ k, n ≤ k → dif u v k = 0 := fun u v hu hv k hk => by
    unfold dif
    rw [hu k hk, hv k hk]
    rfl
  refine ⟨fun i => p (f i), fun i k hk => sp _ (a i) k hk, fun i j hi hj e => ?_, fun v hv => ?_⟩
  · refine b i j hi hj ((h1 _ (sd _ _ (a i) (a j))).mpr ?_)
    rw [hp]
    exact e
  · obtain ⟨i, hi, e⟩ := c (q v) (sq v hv)
    refine ⟨i, hi, ?_⟩
    have e2 := (h1 _ (sd _ _ (sq v hv) (a i))).mp e
    rw [hp] at e2
    have e3 := G'.add _ _ 1 (h2 v hv) e2
    have e4 : (fun k => dif v (p (q v)) k + 1 * dif (p (q v)) (p (f i)) k) = dif v (p (f i)) := by
      funext k
      unfold dif
      omega
    rw [e4] at e3
    exact e3
theorem free_grp (ss : List Int) (gs : List (List Int)) : Grp (Free ss gs) := ⟨fun S G _ => G.zero, fun u v c hu hv S G h => G.add u v c (hu S G h) (hv S G h)⟩
theorem coset_idx {ss : List Int} {gs : List (List Int)} (z : Sz ss) (hg : gs ≠ []) (hl : ∀ g ∈ gs, g.length = ss.length) : Idx ss.length (Free ss gs) (cosetI ss gs).toNat := by
  have hR := shift_rows z hg hl
  have hT := shift_tri z hg hl
  have hn : (shiftB ss gs).length = ss.length := by rw [hR.len, odds_len]
  obtain ⟨hspan, _⟩ := shift_grp z hg hl
  have G := free_grp ss gs
  have key : ∀ k, k ≤ ss.length → ∃ f : Nat → Nat → Int, (∀ i j, k ≤ j → f i j = 0) ∧
      (∀ i j, i < (pivP (shiftB ss gs) k).toNat → j < (pivP (shiftB ss gs) k).toNat → (∃ w : Nat → Int, (∀ t, t < k → w t = 0) ∧ Free ss gs fun t => dif (f i) (f j) t + w t) → i = j) ∧
      ∀ v : Nat → Int, (∀ t, ss.length ≤ t → v t = 0) → ∃ i, i < (pivP (shiftB ss gs) k).toNat ∧ ∃ w : Nat → Int, (∀ t, t < k → w t = 0) ∧ (∀ t, ss.length ≤ t → w t = 0) ∧ Free ss gs fun t => dif v (f i) t + -1 * w t := by
    intro k
    induction k with
    | zero =>
      intro _
      refine ⟨fun _ _ => 0, fun _ _ _ => rfl, fun i j hi hj _ => ?_, fun v hv => ⟨0, (show 0 < (1 : Nat) by decide), v, fun t ht => by omega, hv, ?_⟩⟩
      · have : (pivP (shiftB ss gs) 0).toNat = 1 := rfl
        omega
      · have e : (fun t => dif v (fun _ => 0) t + -1 * v t) = fun _ => 0 := by
          funext t
          simp only [dif]
          omega
        show Free ss gs fun t => dif v (fun _ => 0) t + -1 * v t
        rw [e]
        exact G.zero
    | succ k ih =>
      intro hk
      obtain ⟨f, a, b, c⟩ := ih (by omega)
      have hkr : k < (shiftB ss gs).length := by omega
      have hpa := pivA_pos hR hT hkr
      have hpk := pivP_pos hT k (by omega)
      obtain ⟨A, eA⟩ := Int.eq_ofNat_of_zero_le (Int.le_of_lt hpa)
      obtain ⟨Pk, eP⟩ := Int.eq_ofNat_of_zero_le (Int.le_of_lt hpk)
      have hA : 0 < A := by omega
      have ePk : (pivP (shiftB ss gs) k).toNat = Pk := by omega
      have ePs : (pivP (shiftB ss gs) (k + 1)).toNat = Pk * A := by
        rw [pivP_succ, eA, eP, ← Int.natCast_mul]
        exact Int.toNat_natCast _
      have hrow : Free ss gs (fv ((shiftB ss gs).getD k [])) := fun S GS hgen => by
        refine (hspan S GS).mpr hgen _ ?_
        rw [getD_getD, List.getElem?_eq_getElem hkr]
        exact List.getElem_mem hkr
      rw [ePs]
      rw [ePk] at b c
      refine ⟨fun i t => f (i / A) t + eU k ((i % A : Nat) : Int) t, fun i j hj => ?_, fun i j hi hj hw => ?_, fun v hv => ?_⟩
      · show f (i / A) j + eU k _ j = 0
        rw [a _ j (by omega)]
        unfold eU
        rw [if_neg (by omega)]
        rfl
      · obtain ⟨w, w0, wF⟩ := hw
        have hq : i / A = j / A := by
          refine b (i / A) (j / A) (Nat.div_lt_of_lt_mul (by rw [Nat.mul_comm]; exact hi)) (Nat.div_lt_of_lt_mul (by rw [Nat.mul_comm]; exact hj)) ⟨fun t => w t + (eU k ((i % A : Nat) : Int) t + -1 * eU k ((j % A : Nat) : Int) t), fun t ht => ?_, ?_⟩
          · show w t + _ = 0
            rw [w0 t (by omega)]
            unfold eU
            rw [if_neg (by omega), if_neg (by omega)]
            rfl
          · have e : (fun t => dif (f (i / A)) (f (j / A)) t + (w t + (eU k ((i % A : Nat) : Int) t + -1 * eU k ((j % A : Nat) : Int) t))) = fun t => dif (fun t => f (i / A) t + eU k ((i % A : Nat) : Int) t) (fun t => f (j / A) t + eU k ((j % A : Nat) : Int) t) t + w t := by
              funext t
              simp only [dif]
              omega
            rw [e]
            exact wF
        have hd := span_piv hR hT (v := fun t => dif (fun t => f (i / A) t + eU k ((i % A : Nat) : Int) t) (fun t => f (j / A) t + eU k ((j % A : Nat) : Int) t) t + w t) (fun S GS hS => wF S GS ((hspan S GS).mp hS)) hkr (fun t ht => by
          show dif _ _ t + w t = 0
          simp only [dif, eU]
          rw [w0 t (by omega), hq, if_neg (by omega), if_neg (by omega)]
          omega)
        have hd2 : (A : Int) ∣ ((i % A : Nat) : Int) - ((j % A : Nat) : Int) := by
          rw [eA] at hd
          have e : dif (fun t => f (i / A) t + eU k ((i % A : Nat) : Int) t) (fun t => f (j / A) t + eU k ((j % A : Nat) : Int) t) k + w k = ((i % A : Nat) : Int) - ((j % A : Nat) : Int) := by
            simp only [dif, eU]
            rw [w0 k (by omega), hq, if_pos True.intro, if_pos True.intro]
            omega
          have hd' : (A : Int) ∣ dif (fun t => f (i / A) t + eU k ((i % A : Nat) : Int) t) (fun t => f (j / A) t + eU k ((j % A : Nat) : Int) t) k + w k := hd
          rw [e] at hd'
          exact hd'
        have hi2 := Nat.mod_lt i hA
        have hj2 := Nat.mod_lt j hA
        have hm : i % A = j % A := by
          obtain ⟨q, hq'⟩ := hd2
          have : q = 0 := by
            rcases Int.lt_trichotomy q 0 with h | h | h
            · have := Int.mul_le_mul_of_nonneg_left (show q ≤ -1 by omega) (show (0 : Int) ≤ A by omega)
              omega
            · exact h
            · have := Int.mul_le_mul_of_nonneg_left (show 1 ≤ q by omega) (show (0 : Int) ≤ A by omega)
              omega
          rw [this, Int.mul_zero] at hq'
          omega
        rw [← Nat.div_add_mod i A, ← Nat.div_add_mod j A, hq, hm]
      · obtain ⟨i, hi, w, w0, w1, wF⟩ := c v hv
        have hAi : (0 : Int) < A := by omega
        have m0 := Int.emod_nonneg (w k) (show (A : Int) ≠ 0 by omega)
        have m1 := Int.emod_lt_of_pos (w k) hAi
        obtain ⟨d, ed⟩ := Int.eq_ofNat_of_zero_le m0
        have hdA : d < A := by omega
        have edm := Int.emod_add_mul_ediv (w k) A
        have ei : (i * A + d) / A = i := by
          rw [Nat.mul_comm, Nat.mul_add_div hA, Nat.div_eq_of_lt hdA]
          rfl
        have em : (i * A + d) % A = d := by
          rw [Nat.mul_comm, Nat.mul_add_mod, Nat.mod_eq_of_lt hdA]
        refine ⟨i * A + d, ?_, fun t => w t + -1 * (w k / A) * fv ((shiftB ss gs).getD k []) t + -1 * eU k d t, fun t ht => ?_, fun t ht => ?_, ?_⟩
        · have := Nat.mul_le_mul_right A (show i + 1 ≤ Pk by omega)
          rw [Nat.add_mul] at this
          omega
        · show w t + -1 * (w k / A) * fv ((shiftB ss gs).getD k []) t + -1 * eU k d t = 0
          by_cases e : t = k
          · subst e
            have er : fv ((shiftB ss gs).getD t []) t = A := by rw [← pivA_eq hR hkr, eA]
            rw [er]
            unfold eU
            rw [if_pos rfl, Int.mul_assoc, Int.mul_comm (w t / A)]
            omega
          · have er : fv ((shiftB ss gs).getD k []) t = 0 := by
              rw [(row_at hR hkr).1]
              exact (hT k _ (List.getElem?_eq_getElem hkr)).1 t (by omega)
            rw [er, w0 t (by omega)]
            unfold eU
            rw [if_neg e]
            omega
        · show w t + -1 * (w k / A) * fv ((shiftB ss gs).getD k []) t + -1 * eU k d t = 0
          have er : fv ((shiftB ss gs).getD k []) t = 0 := by
            rw [(row_at hR hkr).1]
            exact fv_out (by rw [(row_at hR hkr).2.1, odds_len]; exact ht)
          rw [er, w1 t ht]
          unfold eU
          rw [if_neg (by omega)]
          omega
        · show Free ss gs fun t => dif v (fun t => f ((i * A + d) / A) t + eU k (((i * A + d) % A : Nat) : Int) t) t + -1 * (w t + -1 * (w k / A) * fv ((shiftB ss gs).getD k []) t + -1 * eU k d t)
          rw [ei, em]
          have h5 := G.add _ _ (w k / A) wF hrow
          have e : (fun t => dif v (f i) t + -1 * w t + w k / A * fv ((shiftB ss gs).getD k []) t) = fun t => dif v (fun t => f i t + eU k (d : Int) t) t + -1 * (w t + -1 * (w k / A) * fv ((shiftB ss gs).getD k []) t + -1 * eU k d t) := by
            funext t
            simp only [dif]
            rw [Int.neg_one_mul (w k / A), Int.neg_mul (w k / A)]
            omega
          rw [e] at h5
          exact h5
  obtain ⟨f, a, b, c⟩ := key ss.length (Nat.le_refl _)
  refine ⟨f, a, fun i j hi hj e => b i j hi hj ⟨fun _ => 0, fun _ _ => rfl, ?_⟩, fun v hv => ?_⟩
  · have e2 : (fun t => dif (f i) (f j) t + 0) = dif (f i) (f j) := by
      funext t
      omega
    rw [e2]
    exact e
  · obtain ⟨i, hi, w, w0, w1, wF⟩ := c v hv
    refine ⟨i, hi, ?_⟩
    have e2 : (fun t => dif v (f i) t + -1 * w t) = dif v (f i) := by
      funext t
      have : w t = 0 := by
        by_cases h : t < ss.length
        · exact w0 t h
        · exact w1 t (by omega)
      rw [this]
      omega
    rw [e2] at wF
    exact wF

/-! ### the seats that are reached at all: one coset out of as many as coset_count says -/
section
theorem grp_sub {F : (Nat → Int) → Prop} (G : Grp F) {u v : Nat → Int} (hu : F u) (hv : F v) : F (dif u v) := G.add _ _ (-1) hu hv
theorem part_len {α : Type} {N : Nat} (C : Nat → α → Bool) : ∀ L : List α, (∀ p ∈ L, ∃ i, i < N ∧ C i p = true ∧ ∀ j, j < N → C j p = true → j = i) → ((List.range N).map fun i => (L.filter (C i)).length).sum = L.length
  | [], _ => by
    have : ∀ l : List Nat, (l.map fun i => (([] : List α).filter (C i)).length).sum = 0 := fun l => by
      induction l with
      | nil => rfl
      | cons a l ih => rw [List.map_cons, List.sum_cons, ih]; rfl
    exact this _
  | p :: L, h => by
    have ih := part_len C L fun q hq => h q (List.mem_cons_of_mem _ hq)
    obtain ⟨i, hi, h1, h2⟩ := h p (List.mem_cons_self ..)
    have key : ∀ l : List Nat, l.Nodup → (∀ j ∈ l, j < N) → (l.map fun j => ((p :: L).filter (C j)).length).sum = (l.map fun j => (L.filter (C j)).length).sum + if i ∈ l then 1 else 0 := fun l => by
      induction l with
      | nil => intro _ _; rfl
      | cons a l ih2 =>
        intro hn hl
        have hn2 := List.nodup_cons.mp hn
        rw [List.map_cons, List.sum_cons, List.map_cons, List.sum_cons, ih2 hn2.2 fun j hj => hl j (List.mem_cons_of_mem _ hj), List.filter_cons]
        by_cases c : C a p = true
        · have e := h2 a (hl a (List.mem_cons_self ..)) c
          subst e
          rw [if_pos c, if_pos (List.mem_cons_self ..), if_neg hn2.1, List.length_cons]
          omega
        · have hne : i ≠ a := fun e => c (by rw [← e]; exact h1)
          rw [if_neg c]
          by_cases hm : i ∈ l
          · rw [if_pos hm, if_pos (List.mem_cons_of_mem _ hm)]
            omega
          · rw [if_neg hm, if_neg fun h => (List.mem_cons.mp h).elim hne hm]
            omega
    rw [key _ List.nodup_range fun j hj => List.mem_range.mp hj, ih, if_pos (List.mem_range.mpr hi), List.length_cons]
theorem sum_const {c : Nat} {g : Nat → Nat} : ∀ l : List Nat, (∀ i ∈ l, g i = c) → (l.map g).sum = l.length * c
  | [], _ => by simp
  | a :: l, h => by
    rw [List.map_cons, List.sum_cons, sum_const l fun i hi => h i (List.mem_cons_of_mem _ hi), h a (List.mem_cons_self ..), List.length_cons, Nat.succ_mul]
    omega
theorem allI_nd {ss : List Int} : (allI ss).Nodup := by
  rw [allI_cnt]
  refine List.pairwise_map.mpr (List.Pairwise.imp_of_mem (fun {a b} ha hb h e => ?_) List.nodup_range)
  exact h (iS_inj (List.mem_range.mp ha) (List.mem_range.mp hb) e)
theorem free_unit {ss : List Int} {gs : List (List Int)} {j : Nat} (hj : j < ss.length) : Free ss gs (eU j (oddI (ss.getD j 0))) := fun S G hS => hS.1 j hj
theorem free_ring {ss : List Int} {gs : List (List Int)} (z : Sz ss) {v : Nat → Int} (h1 : ∀ j, j < ss.length → ss.getD j 0 ∣ v j) (h2 : ∀ j, ss.length ≤ j → v j = 0) : Free ss gs v :=
  grp_all (free_grp ss gs) (o := fun j => oddI (ss.getD j 0)) (fun j hj => free_unit hj) (fun j hj => Int.dvd_trans (oddI_dvd (z.pos _ (getD_mem hj))) (h1 j hj)) h2
open Classical in
theorem class_le {ss : List Int} {gs : List (List Int)} (z : Sz ss) {a b : Nat → Int} (ha : ∀ k, ss.length ≤ k → a k = 0) (hb : ∀ k, ss.length ≤ k → b k = 0) :
    ((allI ss).filter fun p => decide (Free ss gs (dif (fv p) a))).length ≤ ((allI ss).filter fun p => decide (Free ss gs (dif (fv p) b))).length := by
  have G := free_grp ss gs
  let m : List Int → List Int := fun p => redV ss p (dif b a)
  have hm : ∀ p, Seat ss p → Free ss gs (dif (fv p) a) → Free ss gs (dif (fv (m p)) b) := fun p hp h => by
    have h2 : Free ss gs (fun k => fv (m p) k + -1 * (fv p k + dif b a k)) := free_ring z (fun j hj => by
      obtain ⟨q, hq⟩ := redV_dvd (c := p) (v := dif b a) z.pos hj
      refine ⟨-q, ?_⟩
      show (redV ss p (dif b a)).getD j 0 + -1 * (p.getD j 0 + dif b a j) = _
      rw [hq, Int.mul_neg]
      omega) fun j hj => by
      rw [fv_out (by show (redV ss p (dif b a)).length ≤ j; rw [redV_len]; exact hj), fv_out (by rw [hp.len]; exact hj)]
      unfold dif
      rw [ha j hj, hb j hj]
      rfl
    have h3 := G.add _ _ 1 h2 h
    have e : (fun i => (fun k => fv (m p) k + -1 * (fv p k + dif b a k)) i + 1 * dif (fv p) a i) = dif (fv (m p)) b := by
      funext k
      show fv (m p) k + -1 * (fv p k + (b k + -1 * a k)) + 1 * (fv p k + -1 * a k) = fv (m p) k + -1 * b k
      omega
    rw [e] at h3
    exact h3
  have hinj : (((allI ss).filter fun p => decide (Free ss gs (dif (fv p) a))).map m).Nodup := by
    refine List.pairwise_map.mpr (List.Pairwise.imp_of_mem (fun {p q} hp hq h e => h ?_) (List.Pairwise.filter _ allI_nd))
    have hps := (allI_mem z).mp (List.mem_filter.mp hp).1
    have hqs := (allI_mem z).mp (List.mem_filter.mp hq).1
    refine seat_ext hps hqs fun i hi => ?_
    obtain ⟨x, hx⟩ := redV_dvd (c := p) (v := dif b a) z.pos hi
    obtain ⟨y, hy⟩ := redV_dvd (c := q) (v := dif b a) z.pos hi
    have e : redV ss p (dif b a) = redV ss q (dif b a) := e
    rw [e] at hx
    refine ⟨x - y, ?_⟩
    rw [Int.mul_sub]
    omega
  have := List.Nodup.length_le_of_subset hinj (l₂ := (allI ss).filter fun p => decide (Free ss gs (dif (fv p) b))) fun x hx => by
    obtain ⟨p, hp, rfl⟩ := List.mem_map.mp hx
    obtain ⟨h1, h2⟩ := List.mem_filter.mp hp
    exact List.mem_filter.mpr ⟨(allI_mem z).mpr (redV_seat z.pos p _), decide_eq_true (hm p ((allI_mem z).mp h1) (of_decide_eq_true h2))⟩
  rwa [List.length_map] at this
theorem coset_mul {ss : List Int} {gs : List (List Int)} (z : Sz ss) (hne : gs ≠ []) (hg : ∀ g ∈ gs, Seat ss g) : (cosetI ss gs).toNat * ((allI ss).filter fun p => (reachI ss gs p).isNone).length = (allI ss).length := by
  classical
  have hl : ∀ g ∈ gs, g.length = ss.length := fun g h => (hg g h).len
  obtain ⟨f, h1, h2, h3⟩ := coset_idx z hne hl
  have G := free_grp ss gs
  have dec : ∀ (i : Nat) (p : List Int), decide (Free ss gs (dif (fv p) (f i))) = decide (Free ss gs (dif (fv p) (f i))) := fun _ _ => rfl
  have hp := part_len (N := (cosetI ss gs).toNat) (fun i p => decide (Free ss gs (dif (fv p) (f i)))) (allI ss) fun p hp => by
    have hps := (allI_mem z).mp hp
    obtain ⟨i, hi, hF⟩ := h3 (fv p) fun k hk => fv_out (by rw [hps.len]; exact hk)
    refine ⟨i, hi, decide_eq_true hF, fun j hj hj2 => ?_⟩
    refine h2 j i hj hi ?_
    have h4 := G.add _ _ (-1) hF (of_decide_eq_true hj2)
    have e : (fun k => dif (fv p) (f i) k + -1 * dif (fv p) (f j) k) = dif (f j) (f i) := by
      funext k
      unfold dif
      omega
    rw [e] at h4
    exact h4
  have hg0 := hg _ (headD_mem hne)
  obtain ⟨i0, hi0, hF0⟩ := h3 (fv (gs.headD [])) fun k hk => fv_out (by rw [hg0.len]; exact hk)
  have hsame : (allI ss).filter (fun p => (reachI ss gs p).isNone) = (allI ss).filter fun p => decide (Free ss gs (dif (fv p) (f i0))) := List.filter_congr fun p hp => by
    have hps := (allI_mem z).mp hp
    have h5 := reach_free z hne hl hps.len
    have h6 : Free ss gs (fv (sub2 p (gs.headD []))) ↔ Free ss gs (dif (fv p) (f i0)) := by
      rw [fv_sub (hps.len.trans hg0.len.symm)]
      constructor
      · intro h
        have h7 := G.add _ _ 1 h hF0
        have e : (fun k => (fv p k - fv (gs.headD []) k) + 1 * dif (fv (gs.headD [])) (f i0) k) = dif (fv p) (f i0) := by
          funext k
          unfold dif
          omega
        rw [e] at h7
        exact h7
      · intro h
        have h7 := G.add _ _ (-1) h hF0
        have e : (fun k => dif (fv p) (f i0) k + -1 * dif (fv (gs.headD [])) (f i0) k) = fun k => fv p k - fv (gs.headD []) k := by
          funext k
          unfold dif
          omega
        rw [e] at h7
        exact h7
    cases e : reachI ss gs p with
    | none => exact (decide_eq_true (h6.mp (h5.mp e))).symm
    | some c =>
      refine (decide_eq_false fun h => ?_).symm
      rw [h5.mpr (h6.mpr h)] at e
      cases e
  rw [hsame, ← hp, sum_const (c := ((allI ss).filter fun p => decide (Free ss gs (dif (fv p) (f i0)))).length) _ fun i hi => ?_, List.length_range]
  exact Nat.le_antisymm (class_le z (h1 i) (h1 i0)) (class_le z (h1 i0) (h1 i))
end

/-! ### the draws of k10 -/
section
variable {P : Program} {w : World} {K : PySem.W.Frag} {mg : Str → Option Value} {base : Heap}
def sp_law_sum (K : PySem.W.Frag) : Sp := fun vs H Q _ => ∃ (p c l : Addr) (ss ps cs : List Int), vs = [.ref p, .ref c, .ref l] ∧ H p = some (.tup (ps.map V.int)) ∧ H c = some (.tup (cs.map V.int)) ∧ H l = some (.lst (ss.map V.int)) ∧ ps.length = ss.length ∧ cs.length = ss.length ∧ Sz ss ∧
  ∀ H' f, Same H H' → H' f = some (.tup ((mv fw ps cs ss).map V.int)) → Q (.ref f) H'
theorem ok_law_sum (T : Tx K mg) : FnOk P w K mg base CX0 1 T.f_law_sum T.fd_law_sum ["_law_first", "_law_second", "_law_sizes"] (sp_law_sum K) := by
  refine T.F_law_sum.ok sc_law_sum (fun vs H Q E h => ?_) (fun cdv A outer s H vs Q E hr h => ?_)
  · obtain ⟨p, c, l, ss, ps, cs, rfl, _⟩ := h; rfl
  · obtain ⟨p, c, l, ss, ps, cs, rfl, hp, hc, hl, e1, e2, z, q⟩ := h
    refine ⟨_, (pss_one (ps_ret (pe_callTy tuple_H (by rfl) T.n_tuple (by decide +kernel) (pa_cons (pe_lc (own := [("_law_a", 3), ("_law_b", 4), ("_law_size", 5)]) (g := (gTupH 3 (gCons (gName 3) (gCons (gName 4) (gCons (gName 5) gNil))))) (tt := tYes) rfl sc_law_sum.nd (pi_z3H (by rfl) T.n_zip (pa_cons (pv 0) (pa_cons (pv 1) (pa_cons (pv 2) pa_nil)))) (blkOk_by (own := [("_law_a", 3), ("_law_b", 4), ("_law_size", 5)]) (N := N_law_sum) (sc := defScope d_law_sum) (by decide +kernel)) (fun _ _ _ _ _ => (pg_tupH (n := 3) rfl (pgs_cons (pg_name (i := 3) sc_law_sum.nd rfl (Or.inl rfl)) (pgs_cons (pg_name (i := 4) sc_law_sum.nd rfl (Or.inl rfl)) (pgs_cons (pg_name (i := 5) sc_law_sum.nd rfl (Or.inl rfl)) pgs_nil))))) (fun _ _ _ _ _ => pts_nil) (fun _ _ _ _ _ => (pe_op op_mod (pe_op op_add (pv 3) (pv 4)) (pv 5)))) pa_nil)))), ?_⟩
    have pos : ∀ n ∈ ss, 0 < n := fun n hn => by have := z.pos n hn; omega
    walk_at "rd"
    refine ⟨false, false, true, ps.map V.int, hp, cs.map V.int, hc, ss.map V.int, hl, by rw [List.length_map, List.length_map, e1, e2], by rw [List.length_map, List.length_map, e2], fun J W => ?_⟩
    refine lcr_map W ((mv fw ps cs ss).map V.int) (by rw [List.length_map, List.length_map, mv_len (by rw [e1, e2]) e2]) ?_ (fun H3 s3 => ⟨s3 _ _ hp, s3 _ _ hc, s3 _ _ hl⟩) (fun _ _ _ _ y => YTrip.same y) ?_ ?_
    · have h4 := z.hi
      rw [List.length_map]
      exact Nat.le_trans (by omega : ps.length ≤ 4) (by decide)
    · intro i x H3 H4 y Qy hi s3 hy hr hq
      obtain ⟨T0, x1, y1, z1, rfl, hT, rfl, h1, h2, h3⟩ := hy
      simp only [List.getElem?_map, Option.map_eq_some_iff] at hr h1 h2 h3
      obtain ⟨x2, hx2, rfl⟩ := h1
      obtain ⟨y2, hy2, rfl⟩ := h2
      obtain ⟨z2, hz2, rfl⟩ := h3
      rw [mv_get hx2 hy2 hz2] at hr
      obtain ⟨r, hr, rfl⟩ := hr
      obtain rfl := Option.some.inj hr
      walk_at "rd"
      exact ⟨pos z2 (List.mem_of_getElem? hz2), hq _ (Same.refl _)⟩
    · intro D H3 hD s3 h3
      exact ⟨D, rfl, .inl ⟨_, h3, fun f hf => q _ f (s3.trans (Same.new hf)) upd_same⟩⟩
def tms (k : Int) (ps ss : List Int) : List Int := List.zipWith (fun p s => k * p % s) ps ss
theorem tms_len {k : Int} {ps ss : List Int} (h : ps.length = ss.length) : (tms k ps ss).length = ss.length := by unfold tms; rw [List.length_zipWith, h, Nat.min_self]
def sp_law_times (K : PySem.W.Frag) : Sp := fun vs H Q _ => ∃ (k : Int) (p l : Addr) (ss ps : List Int), vs = [.int k, .ref p, .ref l] ∧ H p = some (.tup (ps.map V.int)) ∧ H l = some (.lst (ss.map V.int)) ∧ ps.length = ss.length ∧ Sz ss ∧ (∀ x ∈ ps, CMulA k x) ∧
  ∀ H' f, Same H H' → H' f = some (.tup ((tms k ps ss).map V.int)) → Q (.ref f) H'
theorem ok_law_times (T : Tx K mg) : FnOk P w K mg base CX0 1 T.f_law_times T.fd_law_times ["_law_factor", "_law_first", "_law_sizes"] (sp_law_times K) := by
  refine T.F_law_times.ok sc_law_times (fun vs H Q E h => ?_) (fun cdv A outer s H vs Q E hr h => ?_)
  · obtain ⟨k, p, l, ss, ps, rfl, _⟩ := h; rfl
  · obtain ⟨k, p, l, ss, ps, rfl, hp, hl, e1, z, hm, q⟩ := h
    refine ⟨_, (pss_one (ps_ret (pe_callTy tuple_H (by rfl) T.n_tuple (by decide +kernel) (pa_cons (pe_lc (own := [("_law_place", 3), ("_law_size", 4)]) (g := (gTupH 2 (gCons (gName 3) (gCons (gName 4) gNil)))) (tt := tYes) rfl sc_law_times.nd (pi_z2H (by rfl) T.n_zip (pa_cons (pv 1) (pa_cons (pv 2) pa_nil))) (blkOk_by (own := [("_law_place", 3), ("_law_size", 4)]) (N := N_law_times) (sc := defScope d_law_times) (by decide +kernel)) (fun _ _ _ _ _ => (pg_tupH (n := 2) rfl (pgs_cons (pg_name (i := 3) sc_law_times.nd rfl (Or.inl rfl)) (pgs_cons (pg_name (i := 4) sc_law_times.nd rfl (Or.inl rfl)) pgs_nil)))) (fun _ _ _ _ _ => pts_nil) (fun _ _ _ _ _ => (pe_op op_mod (pe_op op_mulA (pv 0) (pv 3)) (pv 4)))) pa_nil)))), ?_⟩
    walk_at "rd"
    refine ⟨false, true, ps.map V.int, hp, ss.map V.int, hl, by rw [List.length_map, List.length_map, e1], fun J W => ?_⟩
    refine lcr_two (p := 3) (q := 4) e1 (by have := z.hi; omega) (fun x y => k * x % y) W (fun H3 s3 => ⟨s3 _ _ hp, s3 _ _ hl⟩) (fun T0 x y H3 R hT hR => ?_) (fun x y => rfl) (fun i x y Qy H3 h1 h2 hq => ?_) fun D H3 hD s3 h3 => ?_
    · walk_at "rh"
      exact hR
    · walk_at "rd"
      have := z.pos y (List.mem_of_getElem? h2)
      exact ⟨hm x (List.mem_of_getElem? h1), by omega, hq⟩
    · exact ⟨D, rfl, .inl ⟨_, h3, fun f hf => q _ f (s3.trans (Same.new hf)) upd_same⟩⟩
theorem Src.tp {H H' : Hp} {a : Addr} (h : Src H a) (s : Sx a H H') : Tp H H' := by
  obtain ⟨x, y, z, h⟩ := h
  exact Tp.sx s h (by simp)
/-- a list that isn't the source -/
theorem Src.nel {H : Hp} {a D : Addr} {as : List Addr} (h : Src H a) (hD : H D = some (.lst (as.map V.ref))) : D ≠ a := fun e => by
  obtain ⟨s, c, d, h⟩ := h
  rw [e, h] at hD
  have := HO.lst.inj (Option.some.inj hD)
  cases as <;> simp at this
theorem _root_.Cs.LstT.sxs {H H' : Hp} {a D : Addr} {gs : List (List Int)} (h : LstT H D gs) (hs : Src H a) (s : Sx a H H') : LstT H' D gs := by
  obtain ⟨as, h1, h2⟩ := h
  exact ⟨as, s _ _ (hs.nel h1) h1, h2.tp (hs.tp s)⟩
theorem LstT.tgt {H : Hp} {b : Addr} {hss : List (List Int)} (h : LstT H b hss) : TgtAt true H b hss := h
theorem seat_bits {ss ps : List Int} (z : Sz ss) (hS : Seat ss ps) : ∀ x ∈ ps, x.natAbs < 2 ^ 1000 := fun x hx => by
  obtain ⟨i, hi, e⟩ := List.getElem_of_mem hx
  have hi2 : i < ss.length := by rw [← hS.len]; exact hi
  obtain ⟨h0, h1⟩ := hS.ok i x _ (by rw [List.getElem?_eq_getElem hi, e]) (List.getElem?_eq_getElem hi2)
  have := z.bits _ (List.getElem_mem hi2)
  omega
theorem tms_seat {k : Int} {ss ps : List Int} (hs : ∀ s ∈ ss, 1 ≤ s) (hl : ps.length = ss.length) : Seat ss (tms k ps ss) := by
  refine ⟨tms_len hl, fun i p s hp hs' => ?_⟩
  have hi : i < ps.length := by rw [hl]; exact (List.getElem?_eq_some_iff.mp hs').1
  have e := zw_get (g := fun p s => k * p % s) (List.getElem?_eq_getElem hi) hs'
  unfold tms at hp
  rw [e] at hp
  obtain rfl := Option.some.inj hp
  have := hs s (List.mem_of_getElem? hs')
  exact ⟨Int.emod_nonneg _ (by omega), Int.emod_lt_of_pos _ (by omega)⟩
theorem atI_refs {as : List Addr} {i : Int} (h0 : 0 ≤ i) (h1 : i < as.length) : ∃ (k : Nat) (a : Addr), as[k]? = some a ∧ atI (as.map V.ref) i = some (.ref a) := by
  obtain ⟨k, rfl⟩ := Int.eq_ofNat_of_zero_le h0
  have hk : k < as.length := by omega
  have e := List.getElem?_eq_getElem hk
  exact ⟨k, as[k], e, atI_nat (by rw [List.getElem?_map, e]; rfl)⟩
theorem Sz.small {ss : List Int} (z : Sz ss) {n : Int} (h : n ∈ ss) : 0 < n ∧ n.natAbs < 2 ^ 8000 := by
  have h1 := z.pos n h
  have h2 := z.bits n h
  exact ⟨by omega, Nat.lt_of_lt_of_le h2 (Nat.pow_le_pow_right (by decide) (by decide))⟩
def sp_law_seat (K : PySem.W.Frag) : Sp := fun vs H Q _ => ∃ (a l : Addr) (ss : List Int), vs = [.ref a, .ref l] ∧ Src H a ∧ H l = some (.lst (ss.map V.int)) ∧ l ≠ a ∧ Sz ss ∧ ∀ H' p ps, Sx a H H' → Src H' a → H p = none → H' p = some (.tup (ps.map V.int)) → Seat ss ps → Q (.ref p) H'
theorem ok_law_seat (T : Tx K mg) : FnOk P w K mg base CX0 3 T.f_law_seat T.fd_law_seat ["_law_source_here", "_law_sizes"] (sp_law_seat K) := by
  refine T.F_law_seat.ok sc_law_seat (fun vs H Q E h => ?_) (fun cdv A outer s H vs Q E hr h => ?_)
  · obtain ⟨a, l, ss, rfl, _⟩ := h; rfl
  · obtain ⟨a, l, ss, rfl, hs, hl, nla, z, q⟩ := h
    refine ⟨_, (pss_one (ps_ret (pe_callTy tuple_H (by rfl) T.n_tuple (by decide +kernel) (pa_cons (pe_lc (own := [("_law_size", 2)]) (g := (gName 2)) (tt := tYes) rfl sc_law_seat.nd (pi_seqH (pv 1)) (blkOk_by (own := [("_law_size", 2)]) (N := N_law_seat) (sc := defScope d_law_seat) (by decide +kernel)) (fun _ _ _ _ _ => (pg_name (i := 2) sc_law_seat.nd rfl (Or.inl rfl))) (fun _ _ _ _ _ => pts_nil) (fun _ _ _ _ _ => (pe_call (ok_law_take T) (hr.mono (by decide)) (by rfl) T.g_law_take T.F_law_take.kp T.b_law_take .nil pass0 (pa_cons (pv 0) (pa_cons (pv 2) pa_nil))))) pa_nil)))), ?_⟩
    have h4 := z.hi
    walk_at "rd"
    refine .inl ⟨_, hl, fun J W => ?_⟩
    refine lcr_draw W (fun i y => ∃ n, y = V.int n ∧ ∀ s, ss[i]? = some s → 0 ≤ n ∧ n < s) hs (by rw [List.length_map]; exact Nat.le_trans z.hi (by decide)) (fun H1 s1 => s1 _ _ nla hl) (fun _ _ _ _ y => YAt.same y) ?_ ?_
    · rintro i x H3 H4 Qy hi s3 hs3 ⟨rfl, hx⟩ hq
      simp only [List.getElem?_map, Option.map_eq_some_iff] at hx
      obtain ⟨n, hn, rfl⟩ := hx
      have hb := z.small (List.mem_of_getElem? hn)
      walk_at "rd"
      refine ⟨a, n, rfl, hs3, hb.1, hb.2, fun H5 r s5 hs5 r0 r1 => hq _ _ s5 hs5 ⟨r, rfl, fun s hs' => ?_⟩⟩
      rw [hn] at hs'
      obtain rfl := Option.some.inj hs'
      exact ⟨r0, r1⟩
    · intro D acc H3 hD s3 hs3 hlen hR hD3
      obtain ⟨ps, rfl, hps⟩ := ints_of hR
      rw [List.length_map, List.length_map] at hlen
      refine ⟨D, rfl, .inl ⟨_, hD3, fun p hp => q _ p ps (s3.trans (Sx.of (Same.new hp))) (hs3.same (Same.new hp)) (s3.free (hs3.ne hp) hp) upd_same ⟨hlen, fun i p s h1 h2 => hps i p h1 s h2⟩⟩⟩
def sp_law_goals (K : PySem.W.Frag) : Sp := fun vs H Q _ => ∃ (a l : Addr) (ss : List Int), vs = [.ref a, .ref l] ∧ Src H a ∧ H l = some (.lst (ss.map V.int)) ∧ l ≠ a ∧ Sz ss ∧ ∀ H' L gs, Sx a H H' → Src H' a → H L = none → LstT H' L gs → Tgts ss gs → gs.length ≤ 5 → Q (.ref L) H'
theorem ok_law_goals (T : Tx K mg) : FnOk P w K mg base CX0 4 T.f_law_goals T.fd_law_goals ["_law_source_here", "_law_sizes"] (sp_law_goals K) := by
  refine T.F_law_goals.ok sc_law_goals (fun vs H Q E h => ?_) (fun cdv A outer s H vs Q E hr h => ?_)
  · obtain ⟨a, l, ss, rfl, _⟩ := h; rfl
  · obtain ⟨a, l, ss, rfl, hs, hl, nla, z, q⟩ := h
    refine ⟨_, (pss_cons (ps_set (i := 2) sc_law_goals.nd rfl (Or.inl rfl) (pe_ix ix_lH (pe_lst (pa_cons pe_int (pa_cons pe_int (pa_cons pe_int (pa_cons pe_int (pa_cons pe_int pa_nil)))))) (pe_call (ok_law_take T) (hr.mono (by decide)) (by rfl) T.g_law_take T.F_law_take.kp T.b_law_take .nil pass0 (pa_cons (pv 0) (pa_cons pe_int pa_nil))) (fun _ _ => rfl)))
      (pss_cons (ps_set (i := 3) sc_law_goals.nd rfl (Or.inl rfl) (pe_call (ok_law_seat T) (hr.mono (by decide)) (by rfl) T.g_law_seat T.F_law_seat.kp T.b_law_seat .nil pass0 (pa_cons (pv 0) (pa_cons (pv 1) pa_nil))))
      (pss_cons (ps_set (i := 4) sc_law_goals.nd rfl (Or.inl rfl) (pe_lst pa_nil))
      (pss_cons (ps_for PassesOwn.never rfl (pi_range1H (by rfl) T.n_range (pa_cons (pe_op op_add pe_int (pe_call (ok_law_take T) (hr.mono (by decide)) (by rfl) T.g_law_take T.F_law_take.kp T.b_law_take .nil pass0 (pa_cons (pv 0) (pa_cons pe_int pa_nil)))) pa_nil)) (pg_name (i := 5) sc_law_goals.nd rfl (Or.inl rfl))
        (pss_cons (ps_set (i := 6) sc_law_goals.nd rfl (Or.inl rfl) (pe_call (ok_law_sum T) (hr.mono (by decide)) (by rfl) T.g_law_sum T.F_law_sum.kp T.b_law_sum .nil pass0 (pa_cons (pv 3) (pa_cons (pe_call (ok_law_times T) (hr.mono (by decide)) (by rfl) T.g_law_times T.F_law_times.kp T.b_law_times .nil pass0 (pa_cons (pv 2) (pa_cons (pe_call (ok_law_seat T) (hr.mono (by decide)) (by rfl) T.g_law_seat T.F_law_seat.kp T.b_law_seat .nil pass0 (pa_cons (pv 0) (pa_cons (pv 1) pa_nil))) (pa_cons (pv 1) pa_nil)))) (pa_cons (pv 1) pa_nil)))))
        (pss_one (ps_if (pt_cmpR (op_notInDK (K := K) rfl hr.units1) (pv 6) (pv 4) rfl) (pss_one (ps_expr (pe_append (pv 4) (pa_cons (pv 6) pa_nil)))) pss_nil))))
      (pss_one (ps_ret (pv 4))))))), ?_⟩
    walk_at "rd"
    intro p hp
    have npa : p ≠ a := hs.ne hp
    have sp := Same.new hp (o := .lst [V.int 1, V.int 3, V.int 5, V.int 2, V.int 9])
    refine ⟨a, 5, rfl, hs.same sp, by decide, take_small (by decide) (by decide), fun H1 r s1 hs1 r0 r1 => ⟨r, rfl, _, s1 _ _ npa upd_same, ?_⟩⟩
    obtain ⟨f, hf, ef⟩ := atI_ints (ns := [1, 3, 5, 2, 9]) r0 r1
    have hf2 : 1 ≤ f ∧ f ≤ 15 := by
      simp only [List.mem_cons, List.mem_nil_iff, or_false] at hf
      omega
    have hl1 := s1 _ _ nla (sp _ _ hl)
    refine ⟨_, ef, a, l, ss, rfl, hs1, hl1, nla, z, fun H2 b ps s2 hs2 hnb hb hSb => ?_⟩
    intro D hD
    have nDa : D ≠ a := hs2.ne hD
    have nba : b ≠ a := hs2.ne_of hb fun _ _ _ => by simp
    have sD := Same.new hD (o := .lst [])
    have s02 : Sx a H H2 := (Sx.of sp).trans (s1.trans s2)
    have hHD : H D = none := s02.free nDa hD
    refine ⟨a, 4, rfl, hs2.same sD, by decide, take_small (by decide) (by decide), fun H3 r3 s3 hs3 r30 r31 => ⟨r3, rfl, by omega, by omega, fun J W => ?_⟩⟩
    have s03 : Sx a H H3 := s02.trans ((Sx.of sD).trans s3)
    refine forr W (fun i σ H' => ∃ gs v5 v6, σ = [some (V.ref a), some (V.ref l), some (V.int f), some (V.ref b), some (V.ref D), v5, v6] ∧ Sx a H H' ∧ Src H' a ∧ H' l = some (.lst (ss.map V.int)) ∧ H' b = some (.tup (ps.map V.int)) ∧ LstT H' D gs ∧ gs.Nodup ∧ (∀ g ∈ gs, Seat ss g) ∧ gs.length ≤ i ∧ (0 < i → gs ≠ []))
      ⟨[], none, none, rfl, s03, hs3, s03 _ _ nla hl, s3 _ _ nba (sD _ _ hb), ⟨[], s3 _ _ nDa upd_same, AsT.nil⟩, by simp, by simp, Nat.le_refl _, by simp⟩ (fun _ _ _ _ _ => trivial) ?_ ?_
    · rintro i x σ H4o H4 hi ⟨gs, v5, v6, rfl, s4, hs4, hl4, hb4, hL4, hnd, hok, hlen, hne⟩ ⟨rfl, rfl⟩
      walk_at "rd"
      refine ⟨a, l, ss, rfl, hs4, hl4, nla, z, fun H6 u us s6 hs6 hnu hu hSu => ?_⟩
      refine ⟨f, u, l, ss, us, rfl, hu, s6 _ _ nla hl4, hSu.len, z, fun x hx => .inl (by omega), fun H7 t s7 ht => ?_⟩
      have htl : (tms f us ss).length = ss.length := tms_len hSu.len
      refine ⟨b, t, l, ss, ps, _, rfl, s7 _ _ (s6 _ _ nba hb4), ht, s7 _ _ (s6 _ _ nla hl4), hSb.len, htl, z, fun H8 o s8 ho => ?_⟩
      have hSo : Seat ss (mv fw ps (tms f us ss) ss) := mv_seat hSb.len htl z.pos
      generalize mv fw ps (tms f us ss) ss = os at ho hSo
      have s48 : Sx a H4 H8 := s6.trans (Sx.of (s7.trans s8))
      have hs8 : Src H8 a := hs6.same (s7.trans s8)
      have hL8 := hL4.sxs hs4 s48
      have hi4 : i < 4 := by omega
      have s08 : Sx a H H8 := s4.trans s48
      refine notInD_tups ho hL8 ⟨_, rfl, ?_⟩
      by_cases hm : os ∈ gs
      · rw [decide_eq_true hm, if_neg (by decide)]
        exact ⟨s08, hs8, s48 _ _ nla hl4, s48 _ _ nba hb4, gs, hL8, hnd, hok, by omega, fun _ => List.ne_nil_of_mem hm⟩
      · rw [decide_eq_false hm, if_pos (by decide)]
        obtain ⟨as, hLa, hA⟩ := id hL8
        have nDs : ∀ {q : Addr} {qs : List Int}, H8 q = some (.tup (qs.map V.int)) → q ≠ D := fun h => ne_two h hLa (by simp)
        refine ⟨⟨_, hLa⟩, _, hLa, ?_, fun c o' nc hc => ?_, hs8.put nDa.symm, ?_, ?_, gs ++ [os], ⟨as ++ [o], by rw [upd_same, List.map_append]; rfl, ?_⟩, ?_, ?_, ?_, fun _ => by simp⟩
        · rw [List.length_map, hA.1]
          exact Nat.lt_of_le_of_lt (by omega : gs.length ≤ 100) (by decide)
        · rw [upd_ne (ne_some hc hHD)]
          exact s08 _ _ nc hc
        · rw [upd_ne (ne_some hl hHD)]
          exact s48 _ _ nla hl4
        · have hb8 := s48 _ _ nba hb4
          rw [upd_ne (nDs hb8)]
          exact hb8
        · have hA2 := hA.snoc ho
          refine ⟨hA2.1, fun j t' g a1 a2 => ?_⟩
          have h3 := hA2.2 j t' g a1 a2
          rw [upd_ne (nDs h3)]
          exact h3
        · rw [List.nodup_append]
          refine ⟨hnd, by simp, fun x hx y hy => ?_⟩
          rw [List.mem_singleton] at hy
          subst hy
          exact fun e => hm (e ▸ hx)
        · intro g hg
          rcases List.mem_append.mp hg with h | h
          · exact hok g h
          · rw [List.mem_singleton.mp h]; exact hSo
        · rw [List.length_append, List.length_singleton]
          omega
    · rintro σ H4 ⟨gs, v5, v6, rfl, s4, hs4, hl4, hb4, hL4, hnd, hok, hlen, hne⟩
      walk_at "rd"
      exact q H4 D gs s4 hs4 hHD hL4 ⟨hne (by omega), hnd, by omega, hok⟩ (by omega)
def okS (ss : List Int) : Bool := decide (1 ≤ ss.length) && decide (ss.length ≤ 4) && ss.all (fun s => decide (1 ≤ s) && decide (s ≤ 60)) && decide (prodI ss ≤ 60)
theorem okS_sz {ss : List Int} (h : okS ss = true) : Sz ss ∧ prodI ss ≤ 60 := by
  unfold okS at h
  simp only [Bool.and_eq_true, decide_eq_true_eq, List.all_eq_true] at h
  obtain ⟨⟨⟨h1, h2⟩, h3⟩, h4⟩ := h
  exact ⟨⟨h1, h2, fun n hn => (h3 n hn).1, fun n hn => Nat.lt_of_lt_of_le (by have := h3 n hn; omega : n.natAbs < 2 ^ 6) (Nat.pow_le_pow_right (by decide) (by decide))⟩, h4⟩
/-- a list of small sizes, new since H0 -/
def SmL (H0 H : Hp) (x : Addr) : Prop := ∃ ss : List Int, H x = some (.lst (ss.map V.int)) ∧ okS ss = true ∧ H0 x = none
theorem SmL.same {H0 H H' : Hp} {x : Addr} (h : SmL H0 H x) (s : Same H H') : SmL H0 H' x := by
  obtain ⟨ss, h1, h2, h3⟩ := h
  exact ⟨ss, s _ _ h1, h2, h3⟩
def sp_law_small (K : PySem.W.Frag) : Sp := fun vs H Q _ => ∃ (a : Addr), vs = [.ref a] ∧ Src H a ∧ ∀ H' l ss, Sx a H H' → Src H' a → H l = none → H' l = some (.lst (ss.map V.int)) → Sz ss → prodI ss ≤ 60 → Q (.ref l) H'
theorem ok_law_small (T : Tx K mg) : FnOk P w K mg base CX0 3 T.f_law_small T.fd_law_small ["_law_source_here"] (sp_law_small K) := by
  refine T.F_law_small.ok sc_law_small (fun vs H Q E h => ?_) (fun cdv A outer s H vs Q E hr h => ?_)
  · obtain ⟨a, rfl, _⟩ := h; rfl
  · obtain ⟨a, rfl, hs, q⟩ := h
    refine ⟨_, (C8.pss_cut (ps_set (i := 1) sc_law_small.nd rfl (Or.inl rfl) (pe_lst (pa_cons (pe_lst (pa_cons pe_int pa_nil)) (pa_cons (pe_lst (pa_cons pe_int pa_nil)) (pa_cons (pe_lst (pa_cons pe_int pa_nil)) (pa_cons (pe_lst (pa_cons pe_int pa_nil)) (pa_cons (pe_lst (pa_cons pe_int (pa_cons pe_int pa_nil))) (pa_cons (pe_lst (pa_cons pe_int (pa_cons pe_int pa_nil))) (pa_cons (pe_lst (pa_cons pe_int (pa_cons pe_int pa_nil))) (pa_cons (pe_lst (pa_cons pe_int (pa_cons pe_int pa_nil))) (pa_cons (pe_lst (pa_cons pe_int (pa_cons pe_int pa_nil))) (pa_cons (pe_lst (pa_cons pe_int pa_nil)) pa_nil))))))))))))
      (C8.pss_cut (ps_set (i := 1) sc_law_small.nd rfl (Or.inl rfl) (pe_op op_catS (pv 1) (pe_lst (pa_cons (pe_lst (pa_cons pe_int (pa_cons pe_int (pa_cons pe_int pa_nil)))) (pa_cons (pe_lst (pa_cons pe_int pa_nil)) (pa_cons (pe_lst (pa_cons pe_int (pa_cons pe_int pa_nil))) (pa_cons (pe_lst (pa_cons pe_int (pa_cons pe_int (pa_cons pe_int (pa_cons pe_int pa_nil))))) (pa_cons (pe_lst (pa_cons pe_int pa_nil)) (pa_cons (pe_lst (pa_cons pe_int pa_nil)) pa_nil)))))))))
      (pss_one (ps_ret (pe_ix ix_lH (pv 1) (pe_call (ok_law_take T) (hr.mono (by decide)) (by rfl) T.g_law_take T.F_law_take.kp T.b_law_take .nil pass0 (pa_cons (pv 0) (pa_cons pe_int pa_nil))) (fun _ _ => rfl)))))), ?_⟩

    refine ⟨fun σ H' => ∃ (L : Addr) (as : List Addr), σ = [some (V.ref a), some (V.ref L)] ∧ Same H H' ∧ H' L = some (.lst (as.map V.ref)) ∧ as.length = 10 ∧ ∀ x ∈ as, SmL H H' x, ?_, ?_⟩
    · walk_at "rd"
      intro x0 hx0
      have q0 := Same.new hx0 (o := .lst [V.int 9])
      have e0 : (upd H x0 (.lst [V.int 9])) x0 = some (.lst [V.int 9]) := upd_same
      generalize upd H x0 (HO.lst [V.int 9]) = B0 at *
      intro x1 hx1
      have q1 := Same.new hx1 (o := .lst [V.int 15])
      have e1 : (upd B0 x1 (.lst [V.int 15])) x1 = some (.lst [V.int 15]) := upd_same
      generalize upd B0 x1 (HO.lst [V.int 15]) = B1 at *
      intro x2 hx2
      have q2 := Same.new hx2 (o := .lst [V.int 12])
      have e2 : (upd B1 x2 (.lst [V.int 12])) x2 = some (.lst [V.int 12]) := upd_same
      generalize upd B1 x2 (HO.lst [V.int 12]) = B2 at *
      intro x3 hx3
      have q3 := Same.new hx3 (o := .lst [V.int 30])
      have e3 : (upd B2 x3 (.lst [V.int 30])) x3 = some (.lst [V.int 30]) := upd_same
      generalize upd B2 x3 (HO.lst [V.int 30]) = B3 at *
      intro x4 hx4
      have q4 := Same.new hx4 (o := .lst [V.int 3, V.int 3])
      have e4 : (upd B3 x4 (.lst [V.int 3, V.int 3])) x4 = some (.lst [V.int 3, V.int 3]) := upd_same
      generalize upd B3 x4 (HO.lst [V.int 3, V.int 3]) = B4 at *
      intro x5 hx5
      have q5 := Same.new hx5 (o := .lst [V.int 2, V.int 6])
      have e5 : (upd B4 x5 (.lst [V.int 2, V.int 6])) x5 = some (.lst [V.int 2, V.int 6]) := upd_same
      generalize upd B4 x5 (HO.lst [V.int 2, V.int 6]) = B5 at *
      intro x6 hx6
      have q6 := Same.new hx6 (o := .lst [V.int 5, V.int 5])
      have e6 : (upd B5 x6 (.lst [V.int 5, V.int 5])) x6 = some (.lst [V.int 5, V.int 5]) := upd_same
      generalize upd B5 x6 (HO.lst [V.int 5, V.int 5]) = B6 at *
      intro x7 hx7
      have q7 := Same.new hx7 (o := .lst [V.int 3, V.int 15])
      have e7 : (upd B6 x7 (.lst [V.int 3, V.int 15])) x7 = some (.lst [V.int 3, V.int 15]) := upd_same
      generalize upd B6 x7 (HO.lst [V.int 3, V.int 15]) = B7 at *
      intro x8 hx8
      have q8 := Same.new hx8 (o := .lst [V.int 4, V.int 9])
      have e8 : (upd B7 x8 (.lst [V.int 4, V.int 9])) x8 = some (.lst [V.int 4, V.int 9]) := upd_same
      generalize upd B7 x8 (HO.lst [V.int 4, V.int 9]) = B8 at *
      intro x9 hx9
      have q9 := Same.new hx9 (o := .lst [V.int 45])
      have e9 : (upd B8 x9 (.lst [V.int 45])) x9 = some (.lst [V.int 45]) := upd_same
      generalize upd B8 x9 (HO.lst [V.int 45]) = B9 at *
      intro L hL
      have sL := Same.new hL (o := .lst [V.ref x0, V.ref x1, V.ref x2, V.ref x3, V.ref x4, V.ref x5, V.ref x6, V.ref x7, V.ref x8, V.ref x9])
      refine ⟨(((((((((q0.trans q1).trans q2).trans q3).trans q4).trans q5).trans q6).trans q7).trans q8).trans q9).trans sL, [x0, x1, x2, x3, x4, x5, x6, x7, x8, x9], rfl, rfl, fun x hx => ?_⟩
      simp only [List.mem_cons, List.not_mem_nil, or_false] at hx
      rcases hx with rfl | rfl | rfl | rfl | rfl | rfl | rfl | rfl | rfl | rfl
      · exact ⟨[9], sL _ _ (q9 _ _ (q8 _ _ (q7 _ _ (q6 _ _ (q5 _ _ (q4 _ _ (q3 _ _ (q2 _ _ (q1 _ _ e0))))))))), by decide, hx0⟩
      · exact ⟨[15], sL _ _ (q9 _ _ (q8 _ _ (q7 _ _ (q6 _ _ (q5 _ _ (q4 _ _ (q3 _ _ (q2 _ _ e1)))))))), by decide, (none_of q0 hx1)⟩
      · exact ⟨[12], sL _ _ (q9 _ _ (q8 _ _ (q7 _ _ (q6 _ _ (q5 _ _ (q4 _ _ (q3 _ _ e2))))))), by decide, (none_of (q0.trans q1) hx2)⟩
      · exact ⟨[30], sL _ _ (q9 _ _ (q8 _ _ (q7 _ _ (q6 _ _ (q5 _ _ (q4 _ _ e3)))))), by decide, (none_of ((q0.trans q1).trans q2) hx3)⟩
      · exact ⟨[3, 3], sL _ _ (q9 _ _ (q8 _ _ (q7 _ _ (q6 _ _ (q5 _ _ e4))))), by decide, (none_of (((q0.trans q1).trans q2).trans q3) hx4)⟩
      · exact ⟨[2, 6], sL _ _ (q9 _ _ (q8 _ _ (q7 _ _ (q6 _ _ e5)))), by decide, (none_of ((((q0.trans q1).trans q2).trans q3).trans q4) hx5)⟩
      · exact ⟨[5, 5], sL _ _ (q9 _ _ (q8 _ _ (q7 _ _ e6))), by decide, (none_of (((((q0.trans q1).trans q2).trans q3).trans q4).trans q5) hx6)⟩
      · exact ⟨[3, 15], sL _ _ (q9 _ _ (q8 _ _ e7)), by decide, (none_of ((((((q0.trans q1).trans q2).trans q3).trans q4).trans q5).trans q6) hx7)⟩
      · exact ⟨[4, 9], sL _ _ (q9 _ _ e8), by decide, (none_of (((((((q0.trans q1).trans q2).trans q3).trans q4).trans q5).trans q6).trans q7) hx8)⟩
      · exact ⟨[45], sL _ _ e9, by decide, (none_of ((((((((q0.trans q1).trans q2).trans q3).trans q4).trans q5).trans q6).trans q7).trans q8) hx9)⟩
    rintro σ1 H1 ⟨L, as, rfl, s1, hL1, hl1, hR1⟩
    refine ⟨fun σ H' => ∃ (L : Addr) (as : List Addr), σ = [some (V.ref a), some (V.ref L)] ∧ Same H H' ∧ H' L = some (.lst (as.map V.ref)) ∧ as.length = 16 ∧ ∀ x ∈ as, SmL H H' x, ?_, ?_⟩
    · walk_at "rd"
      intro x0 hx0
      have q0 := Same.new hx0 (o := .lst [V.int 2, V.int 3, V.int 3])
      have e0 : (upd H1 x0 (.lst [V.int 2, V.int 3, V.int 3])) x0 = some (.lst [V.int 2, V.int 3, V.int 3]) := upd_same
      generalize upd H1 x0 (HO.lst [V.int 2, V.int 3, V.int 3]) = B0 at *
      intro x1 hx1
      have q1 := Same.new hx1 (o := .lst [V.int 60])
      have e1 : (upd B0 x1 (.lst [V.int 60])) x1 = some (.lst [V.int 60]) := upd_same
      generalize upd B0 x1 (HO.lst [V.int 60]) = B1 at *
      intro x2 hx2
      have q2 := Same.new hx2 (o := .lst [V.int 1, V.int 7])
      have e2 : (upd B1 x2 (.lst [V.int 1, V.int 7])) x2 = some (.lst [V.int 1, V.int 7]) := upd_same
      generalize upd B1 x2 (HO.lst [V.int 1, V.int 7]) = B2 at *
      intro x3 hx3
      have q3 := Same.new hx3 (o := .lst [V.int 2, V.int 2, V.int 3, V.int 3])
      have e3 : (upd B2 x3 (.lst [V.int 2, V.int 2, V.int 3, V.int 3])) x3 = some (.lst [V.int 2, V.int 2, V.int 3, V.int 3]) := upd_same
      generalize upd B2 x3 (HO.lst [V.int 2, V.int 2, V.int 3, V.int 3]) = B3 at *
      intro x4 hx4
      have q4 := Same.new hx4 (o := .lst [V.int 16])
      have e4 : (upd B3 x4 (.lst [V.int 16])) x4 = some (.lst [V.int 16]) := upd_same
      generalize upd B3 x4 (HO.lst [V.int 16]) = B4 at *
      intro x5 hx5
      have q5 := Same.new hx5 (o := .lst [V.int 21])
      have e5 : (upd B4 x5 (.lst [V.int 21])) x5 = some (.lst [V.int 21]) := upd_same
      generalize upd B4 x5 (HO.lst [V.int 21]) = B5 at *
      intro L2 hL2
      have sL := Same.new hL2 (o := .lst [V.ref x0, V.ref x1, V.ref x2, V.ref x3, V.ref x4, V.ref x5])
      have eL : (upd B5 L2 (.lst [V.ref x0, V.ref x1, V.ref x2, V.ref x3, V.ref x4, V.ref x5])) L2 = some (.lst [V.ref x0, V.ref x1, V.ref x2, V.ref x3, V.ref x4, V.ref x5]) := upd_same
      generalize upd B5 L2 (HO.lst [V.ref x0, V.ref x1, V.ref x2, V.ref x3, V.ref x4, V.ref x5]) = B6 at *
      have sB : Same H1 B6 := (((((q0.trans q1).trans q2).trans q3).trans q4).trans q5).trans sL
      refine ⟨_, .inl (.inl (sB _ _ hL1)), _, .inl (.inl eL), by rw [List.length_map, hl1]; exact Nat.le_trans (show 10 + 6 ≤ 100 by decide) (by decide), fun L3 hL3 => ?_⟩
      have s3 := Same.new hL3 (o := .lst (as.map V.ref ++ [V.ref x0, V.ref x1, V.ref x2, V.ref x3, V.ref x4, V.ref x5]))
      refine ⟨(s1.trans sB).trans s3, as ++ [x0, x1, x2, x3, x4, x5], by rw [List.map_append]; rfl, by rw [List.length_append, hl1]; rfl, fun x hx => ?_⟩
      rcases List.mem_append.mp hx with hx | hx
      · exact (hR1 x hx).same (sB.trans s3)
      simp only [List.mem_cons, List.not_mem_nil, or_false] at hx
      rcases hx with rfl | rfl | rfl | rfl | rfl | rfl
      · exact ⟨[2, 3, 3], s3 _ _ (sL _ _ (q5 _ _ (q4 _ _ (q3 _ _ (q2 _ _ (q1 _ _ e0)))))), by decide, (none_of s1 hx0)⟩
      · exact ⟨[60], s3 _ _ (sL _ _ (q5 _ _ (q4 _ _ (q3 _ _ (q2 _ _ e1))))), by decide, (none_of s1 (none_of q0 hx1))⟩
      · exact ⟨[1, 7], s3 _ _ (sL _ _ (q5 _ _ (q4 _ _ (q3 _ _ e2)))), by decide, (none_of s1 (none_of (q0.trans q1) hx2))⟩
      · exact ⟨[2, 2, 3, 3], s3 _ _ (sL _ _ (q5 _ _ (q4 _ _ e3))), by decide, (none_of s1 (none_of ((q0.trans q1).trans q2) hx3))⟩
      · exact ⟨[16], s3 _ _ (sL _ _ (q5 _ _ e4)), by decide, (none_of s1 (none_of (((q0.trans q1).trans q2).trans q3) hx4))⟩
      · exact ⟨[21], s3 _ _ (sL _ _ e5), by decide, (none_of s1 (none_of ((((q0.trans q1).trans q2).trans q3).trans q4) hx5))⟩
    rintro σ2 H2 ⟨L, as, rfl, s2, hL2, hl2, hR2⟩
    walk_at "rd"
    refine ⟨a, 16, rfl, hs.same s2, by decide, by decide, fun H3 r s3 hs3 r0 r1 => ?_⟩
    have nLa : L ≠ a := (hs.same s2).nel hL2
    obtain ⟨k, x, hk, hat⟩ := atI_refs (as := as) r0 (by rw [hl2]; exact r1)
    obtain ⟨ss, h1, h2, h3⟩ := hR2 x (List.mem_of_getElem? hk)
    obtain ⟨z, hp⟩ := okS_sz h2
    have nxa : x ≠ a := fun e => by obtain ⟨u, v, w', h⟩ := hs; rw [← e, h3] at h; cases h
    refine ⟨r, rfl, _, s3 _ _ nLa hL2, _, hat, ?_⟩
    exact q _ x ss ((Sx.of s2).trans s3) hs3 h3 (s3 _ _ nxa h1) z hp
end

/-! ### dicts from pairs of a tuple and one value -/
section
variable {P : Program} {w : World} {K : PySem.W.Frag} {mg : Str → Option Value} {base : Heap}
/-- a pair of a tuple and a value -/
def PV (v : V) (H : Hp) (y : V) (g : List Int) : Prop := ∃ r b, y = .ref r ∧ H r = some (.tup [.ref b, v]) ∧ H b = some (.tup (g.map V.int))
theorem PV.tp {v : V} {H H' : Hp} {y : V} {g : List Int} (h : PV v H y g) (s : Tp H H') : PV v H' y g := by
  obtain ⟨r, b, h1, h2, h3⟩ := h
  exact ⟨r, b, h1, s _ _ h2, s _ _ h3⟩
theorem pv_paired {v : V} {H : Hp} : ∀ {ys : List V} {gs : List (List Int)}, ys.length = gs.length → (∀ (i : Nat) y g, ys[i]? = some y → gs[i]? = some g → PV v H y g) →
    ∃ ps : List Addr, ys = ps.map V.ref ∧ Paired (PairT K H) ps (gs.map fun g => (kS g, v))
  | [], [], _, _ => ⟨[], rfl, .nil⟩
  | y :: ys, g :: gs, hl, h => by
    obtain ⟨r, b, rfl, h2, h3⟩ := h 0 y g rfl rfl
    obtain ⟨ps, e, hp⟩ := pv_paired (ys := ys) (gs := gs) (by simpa using hl) fun i y z h1 h2 => h (i + 1) y z h1 h2
    exact ⟨r :: ps, by rw [e]; rfl, .cons ⟨b, .inl (.inl h2), by rw [h3]; show _ = some (HO.tup ((kS g).map kV)); rw [kS_kV]⟩ hp⟩
  | [], _ :: _, h, _ => by simp at h
  | _ :: _, [], h, _ => by simp at h
theorem valV_pv {v : V} {gs : List (List Int)} {p : List Int} : (valV (mergeT [] (gs.map fun g => (kS g, v))) (kS p)).isSome = true ↔ p ∈ gs := by
  constructor
  · intro h
    cases e : valV (mergeT [] (gs.map fun g => (kS g, v))) (kS p) with
    | none => rw [e] at h; cases h
    | some u =>
      rcases mem_mergeT (valV_mem e) with h2 | h2
      · cases h2
      · obtain ⟨g, hg, e2⟩ := List.mem_map.mp h2
        have := kS_inj (congrArg Prod.fst e2)
        rw [← this]
        exact hg
  · intro h
    obtain ⟨q, hq, e, hv⟩ := valV_merge (kvs := []) (more := gs.map fun g => (kS g, v)) (k := kS p) ⟨_, List.mem_map.mpr ⟨p, h, rfl⟩, rfl⟩
    rw [hv]
    rfl
theorem putK_new {kvs : List (List Key × V)} {k : List Key} {v : V} (h : k ∉ kvs.map Prod.fst) : putK kvs k v = kvs ++ [(k, v)] := by
  have hn : ¬ (kvs.any fun kv => decide (kv.1 = k)) = true := fun e => by
    obtain ⟨x, hx, e⟩ := List.any_eq_true.mp e
    exact h (List.mem_map.mpr ⟨x, hx, of_decide_eq_true e⟩)
  unfold putK
  rw [if_neg hn]
theorem merge_new0 {v : V} : ∀ {ps qs : List (List Int)}, (qs ++ ps).Nodup → mergeT (qs.map fun g => (kS g, v)) (ps.map fun g => (kS g, v)) = (qs ++ ps).map fun g => (kS g, v)
  | [], qs, _ => by rw [List.append_nil]; rfl
  | p :: ps, qs, h => by
    have hp : p ∉ qs := fun hm => (List.nodup_append.mp h).2.2 p hm p (List.mem_cons_self ..) rfl
    show mergeT (putK (qs.map fun g => (kS g, v)) (kS p) v) (ps.map fun g => (kS g, v)) = _
    rw [putK_new (fun hm => by
      rw [List.map_map] at hm
      obtain ⟨q, hq, e⟩ := List.mem_map.mp hm
      exact hp (by rw [← kS_inj e]; exact hq))]
    have := merge_new0 (v := v) (ps := ps) (qs := qs ++ [p]) (by rw [List.append_assoc]; exact h)
    rw [List.map_append, List.append_assoc] at this
    exact this
theorem merge_new {v : V} {ps : List (List Int)} (h : ps.Nodup) : mergeT [] (ps.map fun g => (kS g, v)) = ps.map fun g => (kS g, v) := merge_new0 (qs := []) h
end

section
/-- of what is walked those with pr, where only what each entry is is known -/
theorem lcr_keepA {β : Type} {J : It} {n : Nat} {G : Hp → Prop} {Y : Nat → Hp → V → Hp → Prop} (w : Walk J n G Y) {g : TG} {tt : TT} {te : TE} {vs : List Nat} {σ : L2.St} {H1 : Hp} {Q : VK} (P : Hp → V → β → Prop) (hP : ∀ {H H' : Hp} {y b}, P H y b → Tp H H' → P H' y b) (bs : List β) (pr : β → Bool) (hl : bs.length = n) (hn : n < sizeLine) (hG : ∀ H, Same H1 H → G H)
    (hY : ∀ i x H H', i < n → Y i H x H' → Same H H' ∧ ∃ b, bs[i]? = some b ∧ P H' x b)
    (hs : ∀ x b H (Qn : Hp → Prop) (Qy : VK), b ∈ bs → Same H1 H → P H x b → (pr b = false → ∀ H4, Same H H4 → Qn H4) → (pr b = true → ∀ H4, Same H H4 → Qy x H4) → g x (wipe σ vs) H fun σ2 H2 => wipe σ2 vs = wipe σ vs ∧ tt σ2 H2 fun b H3 => if b = true then te σ2 H3 Qy else Qn H3)
    (hd : ∀ D ys H, H1 D = none → Same H1 H → H D = some (.lst ys) → ys.length = (bs.filter pr).length → (∀ (i : Nat) y b, ys[i]? = some y → (bs.filter pr)[i]? = some b → P H y b) → Q (.ref D) H) : LcR J g tt te vs σ H1 Q := by
  refine lcr_if w (fun D i acc H => AccP P H1 D ((bs.take i).filter pr) acc H) hn (fun D hD => .init hD) (fun D i acc H hD hi h e => hG H h.1) (fun D i acc H l hD h hne => ?_) ?_ ?_
  · obtain ⟨l0, e⟩ := h.2.1
    exact h.put hP hD e
  · rintro D i acc x H H' Qn Qy hD hi h e hy hqn hqy
    obtain ⟨s2, b, hx, hb⟩ := hY _ _ _ _ hi hy
    refine hs x b H' Qn Qy (List.mem_of_getElem? hx) (h.1.trans s2) hb (fun hf H4 s4 => hqn _ (s4 _ _ (s2 _ _ e)) ?_) fun ht H4 s4 => hqy _ _ (s4 _ _ (s2 _ _ e)) ?_
    · rw [List.take_add_one, hx, List.filter_append, show List.filter pr (some b).toList = [] by simp [hf], List.append_nil]
      obtain ⟨h1, ⟨l0, h2⟩, h3, h4⟩ := h
      have s04 := s2.trans s4
      exact ⟨h1.trans s04, ⟨l0, s04 _ _ h2⟩, h3, fun j y b e1 e2 => hP (h4 j y b e1 e2) (Tp.of s04)⟩
    · rw [List.take_add_one, hx, List.filter_append, show List.filter pr (some b).toList = [b] by simp [ht]]
      exact AccP.snoc hP h (s2.trans s4) (hP hb (Tp.of s4))
  · rintro D acc H hD hl2 h e
    rw [← hl, List.take_length] at h
    exact hd D acc H hD h.1 e h.2.2.1 h.2.2.2
end

/-! ### the closure, round by round -/
section
variable {P : Program} {w : World} {K : PySem.W.Frag} {mg : Str → Option Value} {base : Heap}
/-- the dict of what is found -/
def fdD (ps : List (List Int)) : List (List Key × V) := ps.map fun p => (kS p, V.bl true)
theorem fdD_fst (ps : List (List Int)) : (fdD ps).map (·.1) = ps.map kS := by unfold fdD; rw [List.map_map]; rfl
theorem fdD_some {ps : List (List Int)} {p : List Int} : (valV (fdD ps) (kS p)).isSome = decide (p ∈ ps) := by
  rw [← valV_any]
  unfold fdD
  by_cases c : p ∈ ps
  · rw [decide_eq_true c]
    exact List.any_eq_true.mpr ⟨_, List.mem_map.mpr ⟨p, c, rfl⟩, decide_eq_true rfl⟩
  · rw [decide_eq_false c]
    refine Bool.eq_false_iff.mpr fun h => c ?_
    obtain ⟨x, hx, e⟩ := List.any_eq_true.mp h
    obtain ⟨q, hq, rfl⟩ := List.mem_map.mp hx
    have := kS_inj (of_decide_eq_true e)
    rw [← this]
    exact hq
theorem fdD_put {ps : List (List Int)} {p : List Int} (h : p ∉ ps) : putK (fdD ps) (kS p) (V.bl true) = fdD (ps ++ [p]) := by
  rw [putK_new (fun hm => by
    rw [show (fdD ps).map Prod.fst = ps.map kS from fdD_fst ps] at hm
    obtain ⟨q, hq, e⟩ := List.mem_map.mp hm
    exact h (by rw [← kS_inj e]; exact hq))]
  unfold fdD
  rw [List.map_append]
  rfl
theorem fdD_get {H : Hp} {d b : Addr} {ps : List (List Int)} {p : List Int} (h : H d = some (.dT (fdD ps))) (hb : H b = some (.tup (p.map V.int))) : DGet H d (.ref b) (valV (fdD ps) (kS p)) := .inr ⟨fdD ps, kS p, b, .inl h, rfl, by rw [hb, kS_kV], rfl⟩
/-- the seat on the other side of p from a -/
def oth (ss p a : List Int) : List Int := mv fw (mv fw p p ss) (tms (-1) a ss) ss
theorem oth_seat {ss p a : List Int} (z : Sz ss) (hp : Seat ss p) (ha : Seat ss a) : Seat ss (oth ss p a) := mv_seat (mv_seat hp.len hp.len z.pos).len (tms_len ha.len) z.pos
theorem oth_co {ss p a : List Int} (z : Sz ss) (hp : Seat ss p) (ha : Seat ss a) : ∀ i, i < ss.length → ss.getD i 0 ∣ a.getD i 0 + (oth ss p a).getD i 0 - 2 * p.getD i 0 := fun i hi => by
  have gd : ∀ {l : List Int} {x : Int}, l[i]? = some x → l.getD i 0 = x := fun {l x} h => by rw [List.getD_eq_getElem?_getD, h]; rfl
  have hip : p[i]? = some (p.getD i 0) := by rw [List.getD_eq_getElem?_getD, List.getElem?_eq_getElem (by rw [hp.len]; exact hi)]; rfl
  have hia : a[i]? = some (a.getD i 0) := by rw [List.getD_eq_getElem?_getD, List.getElem?_eq_getElem (by rw [ha.len]; exact hi)]; rfl
  have his : ss[i]? = some (ss.getD i 0) := by rw [List.getD_eq_getElem?_getD, List.getElem?_eq_getElem hi]; rfl
  have e1 := mv_get (g := fw) hip hip his
  have e2 : (tms (-1) a ss)[i]? = some (-1 * a.getD i 0 % ss.getD i 0) := zw_get (g := fun p s => -1 * p % s) hia his
  have e3 := gd (mv_get (g := fw) e1 e2 his)
  rw [show (oth ss p a).getD i 0 = _ from e3]
  obtain ⟨k1, h1⟩ := dvd_smod (p.getD i 0 + p.getD i 0) (ss.getD i 0)
  obtain ⟨k2, h2⟩ := dvd_smod (-1 * a.getD i 0) (ss.getD i 0)
  obtain ⟨k3, h3⟩ := dvd_smod (fw (fw (p.getD i 0) (p.getD i 0) % ss.getD i 0) (-1 * a.getD i 0 % ss.getD i 0)) (ss.getD i 0)
  refine ⟨k1 + k2 + k3, ?_⟩
  rw [Int.mul_add, Int.mul_add, ← h1, ← h2, ← h3]
  show _ = (p.getD i 0 + p.getD i 0) % ss.getD i 0 - (p.getD i 0 + p.getD i 0) + (-1 * a.getD i 0 % ss.getD i 0 - -1 * a.getD i 0) + (_ - ((p.getD i 0 + p.getD i 0) % ss.getD i 0 + -1 * a.getD i 0 % ss.getD i 0))
  omega
/-- some two of ps have p in their middle -/
def prs (ss : List Int) (ps : List (List Int)) (p : List Int) : List (List Int) := ps.filter fun a => decide (oth ss p a ∈ ps)
theorem prs_cl {ss : List Int} {gs ps : List (List Int)} (z : Sz ss) (h : ∀ q ∈ ps, Seat ss q ∧ Cl ss gs q) {p : List Int} (hp : Seat ss p) (hne : prs ss ps p ≠ []) : Cl ss gs p := by
  obtain ⟨a, ha⟩ := List.exists_mem_of_ne_nil _ hne
  obtain ⟨h1, h2⟩ := List.mem_filter.mp ha
  obtain ⟨sa, ca⟩ := h a h1
  obtain ⟨so, co'⟩ := h _ (of_decide_eq_true h2)
  exact cl_mid z hp sa so ca co' (oth_co z hp sa)
theorem prs_all {ss : List Int} {gs ps : List (List Int)} (z : Sz ss) (hg : ∀ g ∈ gs, Seat ss g) (h0 : ∀ g ∈ gs, g ∈ ps) (h : ∀ p, Seat ss p → p ∈ ps ∨ prs ss ps p = []) : ∀ (n : Nat) (p : List Int), Seat ss p → kn ss gs n p = true → p ∈ ps
  | 0, p, hp, hk => h0 p ((lev_zero hg hp).mp ((lev_some hp).mpr ⟨hk, fun m hm => absurd hm (Nat.not_lt_zero m)⟩))
  | n + 1, p, hp, hk => by
    obtain ⟨a, b, ha, hb, hm, h1, h2⟩ := (un_mid z.pos hp).mp hk
    have ia := prs_all z hg h0 h n a ha h1
    have ib := prs_all z hg h0 h n b hb h2
    rcases h p hp with c | c
    · exact c
    · exfalso
      have e : oth ss p a = b := by
        refine seat_ext (oth_seat z hp ha) hb fun i hi => ?_
        obtain ⟨x, hx⟩ := oth_co z hp ha i hi
        obtain ⟨y, hy⟩ := (midL_iff hp.len ha.len hb.len).mp hm i hi
        refine ⟨x - y, ?_⟩
        rw [Int.mul_sub, ← hx, ← hy]
        omega
      have : a ∈ prs ss ps p := List.mem_filter.mpr ⟨ia, decide_eq_true (by rw [e]; exact ib)⟩
      rw [c] at this
      cases this
structure Fnd (ss : List Int) (gs ps : List (List Int)) : Prop where
  nd : ps.Nodup
  ok : ∀ q ∈ ps, Seat ss q ∧ Cl ss gs q
  tg : ∀ g ∈ gs, g ∈ ps
theorem Fnd.few {ss : List Int} {gs ps : List (List Int)} (z : Sz ss) (h : Fnd ss gs ps) : ps.length ≤ (allI ss).length := List.Nodup.length_le_of_subset h.nd fun p hp => (allI_mem z).mpr (h.ok p hp).1
def sp_law_closed (K : PySem.W.Frag) : Sp := fun vs H Q _ => ∃ (l G : Addr) (ss : List Int) (gs : List (List Int)), vs = [.ref l, .ref G] ∧ H l = some (.lst (ss.map V.int)) ∧ LstT H G gs ∧ Sz ss ∧ prodI ss ≤ 60 ∧ Tgts ss gs ∧
  ∀ H' D ps, Same H H' → H D = none → H' D = some (.dT (fdD ps)) → ps.Nodup → (∀ p, p ∈ ps ↔ Seat ss p ∧ Cl ss gs p) → Q (.ref D) H'
theorem ok_law_closed (T : Tx K mg) : FnOk P w K mg base CX0 2 T.f_law_closed T.fd_law_closed ["_law_sizes", "_law_goals_here"] (sp_law_closed K) := by
  refine T.F_law_closed.ok sc_law_closed (fun vs H Q E h => ?_) (fun cdv A outer s H vs Q E hr h => ?_)
  · obtain ⟨l, G, ss, gs, rfl, _⟩ := h; rfl
  · obtain ⟨l, G, ss, gs, rfl, hl, hG, z, hpr, htg, q⟩ := h
    refine ⟨_, (C8.pss_cut (ps_set (i := 2) sc_law_closed.nd rfl (Or.inr rfl) (pe_callTy (call_dictTK (K := K) rfl rfl hr.units) (by rfl) T.n_dict (by decide +kernel) (pa_cons (pe_lc (own := [("_law_goal", 8)]) (g := (gName 8)) (tt := tYes) rfl sc_law_closed.nd (pi_seqH (pv 1)) (blkOk_by (own := [("_law_goal", 8)]) (N := N_law_closed) (sc := defScope d_law_closed) (by decide +kernel)) (fun _ _ _ _ _ => (pg_name (i := 8) sc_law_closed.nd rfl (Or.inl rfl))) (fun _ _ _ _ _ => pts_nil) (fun _ _ _ _ _ => (pe_tup (pa_cons (pv 8) (pa_cons pe_bl pa_nil))))) pa_nil)))
      (C8.pss_cut (ps_set (i := 3) sc_law_closed.nd rfl (Or.inl rfl) (pe_call (ok_law_all T) (hr.mono (by decide)) (by rfl) T.g_law_all T.F_law_all.kp T.b_law_all .nil pass0 (pa_cons (pv 0) pa_nil)))
      (C8.pss_cut (ps_set (i := 4) sc_law_closed.nd rfl (Or.inl rfl) pe_bl)
      (C8.pss_cut (ps_while PassesOwn.never (pt_val (pv 4)) (C8.pss_cut (ps_set (i := 4) sc_law_closed.nd rfl (Or.inl rfl) pe_bl)
        (pss_one (ps_for PassesOwn.never rfl (pi_seqH (pv 3)) (pg_name (i := 5) sc_law_closed.nd rfl (Or.inl rfl))
          (pss_one (ps_if (pt_cmp (pc_dnotin (lt_w hr.units1) (pv 5) (pv 2)) rfl) (C8.pss_cut (ps_set (i := 6) sc_law_closed.nd rfl (Or.inr rfl) (pe_call (ok_law_sum T) (hr.mono (by decide)) (by rfl) T.g_law_sum T.F_law_sum.kp T.b_law_sum .nil pass0 (pa_cons (pv 5) (pa_cons (pv 5) (pa_cons (pv 0) pa_nil)))))
            (C8.pss_cut (ps_lock (ps_setLc (i := 7) (own := [("_law_one", 9)]) (g := (gName 9)) rfl sc_law_closed.nd rfl rfl (sw_true rfl rfl rfl (by decide +kernel)) (pi_keys (pv 2)) (blkOk_by (own := [("_law_one", 9)]) (N := N_law_closed) (sc := defScope d_law_closed) (by decide +kernel)) (fun _ _ _ _ _ => (pg_name (i := 9) sc_law_closed.nd rfl (Or.inl rfl))) (fun _ _ _ _ _ => (pts_one (pt_cmp (pc_din (lt_w hr.units1) (pe_call (ok_law_sum T) (hr.mono (by decide)) (by rfl) T.g_law_sum T.F_law_sum.kp T.b_law_sum .nil pass0 (pa_cons (pv 6) (pa_cons (pe_call (ok_law_times T) (hr.mono (by decide)) (by rfl) T.g_law_times T.F_law_times.kp T.b_law_times .nil pass0 (pa_cons (pe_un un_neg pe_int) (pa_cons (pv 9) (pa_cons (pv 0) pa_nil)))) (pa_cons (pv 0) pa_nil)))) (pv 2)) rfl))) (fun _ _ _ _ _ => (pv 9))))
            (pss_one (ps_if (pt_cmpR (op_neDK (K := K) rfl hr.units) (pv 7) (pe_lst pa_nil) (nomark _)) (C8.pss_cut (ps_dput (lt_w hr.units1) (pv 2) (pv 5) pe_bl rfl)
              (pss_one (ps_set (i := 4) sc_law_closed.nd rfl (Or.inl rfl) pe_bl))) pss_nil)))) pss_nil))))))
      (pss_one (ps_ret (pv 2))))))), ?_⟩
    obtain ⟨ga, eG, hGA⟩ := id hG
    have hal : (allI ss).length ≤ 60 := by
      have := cnt_prod z.pos
      rw [allI_cnt, List.length_map, List.length_range]
      omega
    have hg6 := htg.few
    have hF0 : Fnd ss gs gs := ⟨htg.nd, fun g hg => ⟨htg.ok g hg, 0, ((lev_some (htg.ok g hg)).mp ((lev_zero htg.ok (htg.ok g hg)).mpr hg)).1⟩, fun g hg => hg⟩
    refine ⟨fun σ H' => ∃ D : Addr, σ = [some (V.ref l), some (V.ref G), some (V.ref D), none, none, none, none, none, none, none] ∧ Same H H' ∧ H D = none ∧ H' D = some (.dT (fdD gs)), ?_, ?_⟩
    · walk_at "rd"
      refine .inl ⟨_, eG, fun J2 W2 => ?_⟩
      refine lcr_acc W2 (PV (V.bl true)) (fun h s => h.tp s) gs (by rw [List.length_map, hGA.1]) (by rw [List.length_map, hGA.1]; omega) (fun H7 s7 => s7 _ _ eG) (fun _ _ _ _ y => YAt.same y) ?_ ?_
      · rintro j x b G1 G1' Qy hj hb sG ⟨rfl, hx⟩ hq
        simp only [List.getElem?_map, Option.map_eq_some_iff] at hx
        obtain ⟨a, ha, rfl⟩ := hx
        have hal := sG _ _ (hGA.2 _ _ _ ha hb)
        walk_at "rd"
        intro t ht
        have st := Same.new ht (o := .tup [V.ref a, V.bl true])
        exact hq _ _ st ⟨t, a, rfl, upd_same, st _ _ hal⟩
      · intro E1 ys G1 hE1 sG eE hyl hys
        obtain ⟨ps, e, hp⟩ := pv_paired (K := K) hyl hys
        rw [e] at eE
        refine ⟨E1, ps, _, rfl, .inl (.inl eE), hp, fun R hR => ⟨R, rfl, sG.trans (Same.new hR), none_of sG hR, ?_⟩⟩
        rw [upd_same, merge_new htg.nd]
        rfl
    rintro σ1 H1 ⟨D, rfl, s1, hD0, hD1⟩
    refine ⟨fun σ H' => ∃ L : Addr, σ = [some (V.ref l), some (V.ref G), some (V.ref D), some (V.ref L), none, none, none, none, none, none] ∧ Same H1 H' ∧ LstT H' L (allI ss), ?_, ?_⟩
    · walk_at "rd"
      exact ⟨true, l, ss, rfl, s1 _ _ hl, z, by omega, fun H2 L s2 hL => ⟨L, rfl, s2, hL⟩⟩
    rintro σ2 H2 ⟨L, rfl, s2, hL2⟩
    have s02 := s1.trans s2
    have hD2 := s2 _ _ hD1
    obtain ⟨la, eL, hLA⟩ := id hL2
    have hLD : L ≠ D := fun e => by rw [e, hD2] at eL; cases eL
    have hlD : l ≠ D := ne_some hl hD0
    have htD : ∀ {b : Addr} {xs : List V}, H2 b = some (.tup xs) → b ≠ D := fun hb e => by rw [e, hD2] at hb; cases hb
    refine ⟨fun σ H' => σ = [some (V.ref l), some (V.ref G), some (V.ref D), some (V.ref L), some (V.bl true), none, none, none, none, none] ∧ H' = H2, ?_, ?_⟩
    · walk_at "rd"
    rintro σ3 H3 ⟨rfl, rfl⟩
    refine ⟨fun σ H' => ∃ ps b v5 v6 v7 v8 v9, σ = [some (V.ref l), some (V.ref G), some (V.ref D), some (V.ref L), some (V.bl b), v5, v6, v7, v8, v9] ∧ Sx D H3 H' ∧ H' D = some (.dT (fdD ps)) ∧ Fnd ss gs ps ∧ ∀ p, Seat ss p → p ∈ ps ∨ prs ss ps p = [], ?_, ?_⟩
    · refine ⟨fun m σ H' => ∃ ps b v5 v6 v7 v8 v9, σ = [some (V.ref l), some (V.ref G), some (V.ref D), some (V.ref L), some (V.bl b), v5, v6, v7, v8, v9] ∧ Sx D H3 H' ∧ H' D = some (.dT (fdD ps)) ∧ Fnd ss gs ps ∧ m = 2 * (60 - ps.length) + (if b then 1 else 0) ∧ (b = false → ∀ p, Seat ss p → p ∈ ps ∨ prs ss ps p = []), ⟨_, gs, true, none, none, none, none, none, rfl, fun b o _ h => h, hD2, hF0, rfl, fun h => by cases h⟩, ?_⟩
      rintro m σ H4 ⟨ps, b, v5, v6, v7, v8, v9, rfl, s4, hD4, hF, rfl, hb⟩
      walk_at "rd"
      cases b with
      | false =>
        rw [if_neg (by decide)]
        exact ⟨s4, ps, hD4, hF, hb rfl⟩
      | true =>
        rw [if_pos rfl]
        refine ⟨fun σ H' => ∃ qs b v5 v6 v7 v8 v9, σ = [some (V.ref l), some (V.ref G), some (V.ref D), some (V.ref L), some (V.bl b), v5, v6, v7, v8, v9] ∧ Sx D H3 H' ∧ H' D = some (.dT (fdD qs)) ∧ Fnd ss gs qs ∧ ps.length ≤ qs.length ∧ (b = true → ps.length < qs.length) ∧ (b = false → ∀ p, Seat ss p → p ∈ qs ∨ prs ss qs p = []), ?_, ?_⟩
        · rintro σ' H' ⟨qs, b, v5, v6, v7, v8, v9, e, s5, hD5, hF5, h1, h2, h3⟩
          refine ⟨_, ?_, qs, b, ⟨v5, v6, v7, v8, v9, e⟩, s5, hD5, hF5, rfl, h3⟩
          have := hF5.few z
          cases b with
          | false => simp; omega
          | true => have := h2 rfl; simp; omega
        refine ⟨fun σ H' => σ = [some (V.ref l), some (V.ref G), some (V.ref D), some (V.ref L), some (V.bl false), v5, v6, v7, v8, v9] ∧ H' = H4, ?_, ?_⟩
        · walk_at "rd"
        rintro σ5 H5 ⟨rfl, rfl⟩
        walk_at "rd"
        refine .inl ⟨_, s4 _ _ hLD eL, fun J W => ?_⟩
        refine forr W (fun j σ H' => ∃ qs b v5 v6 v7 v8 v9, σ = [some (V.ref l), some (V.ref G), some (V.ref D), some (V.ref L), some (V.bl b), v5, v6, v7, v8, v9] ∧ Sx D H3 H' ∧ H' D = some (.dT (fdD qs)) ∧ Fnd ss gs qs ∧ ps.length ≤ qs.length ∧ (b = true → ps.length < qs.length) ∧ (b = false → ∀ p ∈ (allI ss).take j, p ∈ qs ∨ prs ss qs p = [])) ⟨ps, false, v5, v6, v7, v8, v9, rfl, s4, hD4, hF, Nat.le_refl _, (fun h => by cases h), fun _ p hp => by simp at hp⟩ (fun j σ H' hj h => by obtain ⟨_, _, _, _, _, _, _, _, h, _⟩ := h; exact h _ _ hLD eL) ?_ ?_
        · rintro j x σ G1 G1' hj ⟨qs, b, w5, w6, w7, w8, w9, rfl, s5, hD5, hF5, n1, n2, n3⟩ ⟨rfl, hx⟩
          simp only [List.getElem?_map, Option.map_eq_some_iff] at hx
          obtain ⟨a, ha, rfl⟩ := hx
          have hjl : j < (allI ss).length := by rw [← hLA.1]; exact (List.getElem?_eq_some_iff.mp ha).1
          have hp := List.getElem?_eq_getElem hjl
          generalize (allI ss)[j] = p at hp
          have hpS : Seat ss p := (allI_mem z).mp (List.mem_of_getElem? hp)
          have hal3 := hLA.2 _ _ _ ha hp
          have hal1 := s5 _ _ (htD hal3) hal3
          have hl1 := s5 _ _ hlD (s02 _ _ hl)
          have htake : (allI ss).take (j + 1) = (allI ss).take j ++ [p] := by rw [List.take_add_one, hp]; rfl
          rw [htake]
          walk_at "rd"
          refine ⟨_, fdD_get hD5 hal1, ?_⟩
          rw [fdD_some]
          by_cases hin : p ∈ qs
          · rw [decide_eq_true hin, if_neg (by decide)]
            exact ⟨s5, qs, hD5, hF5, n1, n2, fun hb p' hp' => (List.mem_append.mp hp').elim (n3 hb p') fun h => .inl (by rw [List.mem_singleton.mp h]; exact hin)⟩
          · rw [decide_eq_false hin, if_pos rfl]
            have hF2 : Fnd ss gs qs := hF5
            have hql : qs.length ≤ 60 := Nat.le_trans (hF5.few z) hal
            refine ⟨fun σ H' => ∃ t, σ = [some (V.ref l), some (V.ref G), some (V.ref D), some (V.ref L), some (V.bl b), some (V.ref a), some (V.ref t), w7, w8, w9] ∧ Same G1' H' ∧ H' t = some (.tup ((mv fw p p ss).map V.int)), ?_, ?_⟩
            · walk_at "rd"
              exact ⟨a, a, l, ss, p, p, rfl, hal1, hal1, hl1, hpS.len, hpS.len, z, fun H7 t s7 ht => ⟨t, rfl, s7, ht⟩⟩
            rintro σ6 H6 ⟨t, rfl, s6, ht6⟩
            have hD6 := s6 _ _ hD5
            have hl6 := s6 _ _ hl1
            have ht6D : t ≠ D := fun e => by rw [e, hD6] at ht6; cases ht6
            refine ⟨fun σ H' => ∃ R : Addr, σ = [some (V.ref l), some (V.ref G), some (V.ref D), some (V.ref L), some (V.bl b), some (V.ref a), some (V.ref t), some (V.ref R), w8, w9] ∧ Same H6 H' ∧ LstT H' R (prs ss qs p), ?_, ?_⟩
            · walk_at "rd"
              refine ⟨D, _, hD6, trivial, fun od => ⟨od, .inr ⟨fdD qs, upd_same, ?_⟩⟩⟩
              have hf : (upd H6 D (.frz od (.dT (fdD qs)))) D = some (.frz od (.dT (fdD qs))) := upd_same
              refine lcr_keepA walk_keysT (fun H x (w : List Int) => TPt H x w) TPt.tp qs (fun x => decide (oth ss p x ∈ qs)) (by unfold fdD; rw [List.length_map]) (Nat.lt_of_le_of_lt (by unfold fdD; rw [List.length_map]; exact hql) (by decide)) (fun H3 s3 => s3 _ _ hf) ?_ ?_ ?_
              · rintro i x B1 B1' hi ⟨rfl, k, v, c, hk, rfl, hc⟩
                unfold fdD at hk
                rw [List.getElem?_map, Option.map_eq_some_iff] at hk
                obtain ⟨w, hw1, hw2⟩ := hk
                obtain ⟨rfl, rfl⟩ := Prod.mk.inj hw2
                exact ⟨Same.refl _, w, hw1, c, rfl, by rw [hc, kS_kV]⟩
              · rintro x w B1 Qn Qy hw3 sB ⟨c, rfl, hc⟩ hqn hqy
                have hwS := (hF5.ok w hw3).1
                have hlB : B1 l = some (.lst (ss.map V.int)) := sB _ _ (by rw [upd_ne hlD]; exact hl6)
                have htB : B1 t = some (.tup ((mv fw p p ss).map V.int)) := sB _ _ (by rw [upd_ne ht6D]; exact ht6)
                walk_at "rd"
                refine ⟨-1, c, l, ss, w, rfl, hc, hlB, hwS.len, z, fun x hx => .inl (by decide), fun B2 u sB2 hu => ?_⟩
                refine ⟨t, u, l, ss, mv fw p p ss, tms (-1) w ss, rfl, sB2 _ _ htB, hu, sB2 _ _ hlB, (mv_seat hpS.len hpS.len z.pos).len, tms_len hwS.len, z, fun B3 o sB3 ho => ?_⟩
                have hD3' := sB3 _ _ (sB2 _ _ (sB _ _ hf))
                refine ⟨valV (fdD qs) (kS (oth ss p w)), .inr ⟨fdD qs, kS (oth ss p w), o, .inr ⟨_, hD3'⟩, rfl, by rw [ho, kS_kV]; rfl, rfl⟩, ?_⟩
                rw [fdD_some]
                by_cases cc : oth ss p w ∈ qs
                · rw [decide_eq_true cc, if_pos rfl]
                  exact hqy (decide_eq_true cc) _ (sB2.trans sB3)
                · rw [decide_eq_false cc, if_neg (by decide)]
                  exact hqn (decide_eq_false cc) _ (sB2.trans sB3)
              · intro D2 ys B1 hD2 sB e hyl hy
                have nD : D2 ≠ D := fun h => by rw [h, hf] at hD2; cases hD2
                refine ⟨sB _ _ hf, D2, rfl, fun b o hb => ?_, ?_⟩
                · by_cases c : b = D
                  · subst c
                    rw [hD6] at hb
                    rw [upd_same]
                    exact hb
                  · rw [upd_ne c]
                    exact sB _ _ (by rw [upd_ne c]; exact hb)
                · have hL3 : LstT B1 D2 (prs ss qs p) := lstT_of e hyl hy
                  obtain ⟨as, e1, hA⟩ := hL3
                  exact ⟨as, by rw [upd_ne nD]; exact e1, hA.1, fun i t g h1 h2 => Tp.put (sB _ _ hf) (by simp) _ _ (hA.2 i t g h1 h2)⟩
            rintro σ7 H7 ⟨R, rfl, s7, hR7⟩
            have s57 : Sx D H3 H7 := fun b o nb hb => s7 _ _ (s6 _ _ (s5 b o nb hb))
            walk_at "rd"
            intro e0 he0
            have se := Same.new he0 (o := .lst [])
            refine neD_tupsE (hR7.same se) upd_same ⟨_, rfl, ?_⟩
            by_cases hpr0 : prs ss qs p = []
            · rw [decide_eq_true hpr0, if_neg (by decide)]
              exact ⟨fun b o nb hb => se _ _ (s57 b o nb hb), qs, se _ _ (s7 _ _ hD6), hF5, n1, n2, fun hb p' hp' => (List.mem_append.mp hp').elim (n3 hb p') fun h => .inr (by rw [List.mem_singleton.mp h]; exact hpr0)⟩
            · rw [decide_eq_false hpr0, if_pos (by decide)]
              generalize upd H7 e0 (HO.lst []) = H8 at se ⊢
              have hD8 := se _ _ (s7 _ _ hD6)
              have ha8 := se _ _ (s7 _ _ (s6 _ _ hal1))
              refine ⟨fun σ H' => σ = [some (V.ref l), some (V.ref G), some (V.ref D), some (V.ref L), some (V.bl b), some (V.ref a), some (V.ref t), some (V.ref R), w8, w9] ∧ H' = upd H8 D (.dT (fdD (qs ++ [p]))), ?_, ?_⟩
              · walk_at "rd"
                rw [← fdD_put hin]
                exact DPut.t (k := kS p) hD8 (by rw [kS_kV]; exact ha8) (Nat.lt_of_le_of_lt (by unfold fdD; rw [List.length_map]; exact hql) (by decide))
              rintro σ9 H9 ⟨rfl, rfl⟩
              walk_at "rd"
              refine ⟨fun b o nb hb => by rw [upd_ne nb]; exact se _ _ (s57 b o nb hb), qs ++ [p], rfl, ⟨?_, fun q hq => ?_, fun g hg => List.mem_append_left _ (hF5.tg g hg)⟩, by rw [List.length_append]; omega, by rw [List.length_append]; simp; omega⟩
              · rw [List.nodup_append]
                refine ⟨hF5.nd, by simp, fun x hx y hy => ?_⟩
                rw [List.mem_singleton.mp hy]
                exact fun e => hin (e ▸ hx)
              · rcases List.mem_append.mp hq with h | h
                · exact hF5.ok q h
                · rw [List.mem_singleton.mp h]
                  exact ⟨hpS, prs_cl z hF5.ok hpS hpr0⟩
        · rintro σ G1 ⟨qs, b, w5, w6, w7, w8, w9, rfl, s5, hD5, hF5, n1, n2, n3⟩
          refine ⟨qs, b, ⟨w5, w6, w7, w8, w9, rfl⟩, s5, hD5, hF5, n1, n2, fun hb p hp => n3 hb p ?_⟩
          rw [List.length_map, hLA.1, List.take_length]
          exact (allI_mem z).mpr hp
    rintro σ4 H4 ⟨ps, b, v5, v6, v7, v8, v9, rfl, s4, hD4, hF, hcl⟩
    walk_at "rd"
    refine q _ D ps (fun b o hb => s4 b o (ne_some hb hD0) (s02 _ _ hb)) hD0 hD4 hF.nd fun p => ⟨hF.ok p, ?_⟩
    rintro ⟨h1, n, h2⟩
    exact prs_all z htg.ok hF.tg hcl n p h1 h2
end

section
variable {K : PySem.W.Frag}
theorem tab_made {C x dx p : Addr} {k : Bool} {ss : List Int} {G : Hp} {Q : VK} {E : XK} (hx : G x = none) (hdx : G dx = none) (hne : dx ≠ x) (hp : Sqh k G p (ss.map V.int)) (z : Sz ss)
    (h : ∀ G', Same G G' → TabAt C G' x ss → Q .non G') : sp_Table_init K C [.ref x, .ref p] (upd (upd G dx (.own x)) x (.ins C dx [])) Q E := by
  have s3 : Same G (upd (upd G dx (.own x)) x (.ins C dx [])) := (Same.new hdx).trans (Same.new (by rw [upd_ne hne.symm]; exact hx))
  refine ⟨x, dx, .ref p, p, k, ss, rfl, upd_same, rfl, hp.same s3, z.lo, z.hi, z.pos, fun G' t s4 h4 ht => h G' (fun b o hb => ?_) ⟨dx, t, h4, ht⟩⟩
  exact s4 _ _ (ne_some hb hx) (s3 _ _ hb)
end

/-! ### the check -/
section
variable {P : Program} {w : World} {K : PySem.W.Frag} {mg : Str → Option Value} {base : Heap}
theorem TgtAt.sxc {k : Bool} {H H' : Hp} {a v : Addr} {gs : List (List Int)} (h : TgtAt k H v gs) (hs : Src H a) (s : Sx a H H') (hne : gs ≠ []) : TgtAt k H' v gs := by
  obtain ⟨as, h1, h2⟩ := h
  refine ⟨as, ?_, h2.tp (hs.tp s)⟩
  cases k with
  | true => exact s _ _ (hs.nel h1) h1
  | false => exact s _ _ (hs.ne_of h1 fun _ _ _ => by simp) h1
theorem eqD_tups {H : Hp} {a b : Addr} {gs : List (List Int)} {Q : VK} (h1 : LstT H a gs) (h2 : LstT H b gs) (q : Q (.bl true) H) : rEqD K (.ref a) (.ref b) H Q := by
  refine ⟨_, _, dp_lstT h1, dp_lstT h2, shaped_tups _, shaped_tups _, ?_⟩
  rw [show PyData.eqv (.list (gs.map tupI)) (.list (gs.map tupI)) = decide (gs = gs) from eqv_tups _ _, decide_eq_true rfl]
  exact q
theorem rch_tup {H : Hp} {D : Addr} {ss : List Int} {gs : List (List Int)} {p : List Int} (h : RchAt H D ss gs p) : IsI K H (.ref D) (.ty "tuple") true := by
  rcases h with ⟨_, h⟩ | ⟨_, _, _, _, h, _⟩ <;> exact isI_tup h
theorem found_same {H : Hp} {D E : Addr} {ss : List Int} {gs : List (List Int)} {p : List Int} {Q : VK} (h : RchAt H D ss gs p) (h' : RchAt H E ss gs p) (q : Q (.bl false) H) : rNeD K (.ref D) (.ref E) H Q := by
  refine ⟨_, _, found_dp h, found_dp h', found_shaped _ _ _, found_shaped _ _ _, ?_⟩
  rw [SeqAt.eqv_refl _ (SeqAt.canLay_of_shaped (found_shaped _ _ _))]
  exact q
theorem wit_bits {ss : List Int} {gs : List (List Int)} (z : Sz ss) (hg : gs ≠ []) (hl : ∀ g ∈ gs, g.length = ss.length) (ws : List Int) : (smallW (cosetI ss gs) ws).natAbs < 2 ^ 8000 := by
  have h1 := coset_pos z hg hl
  have h2 := smallW_pos (ws := ws) h1
  have h3 : smallW (cosetI ss gs) ws ≤ cosetI ss gs := by
    unfold smallW
    exact Int.ediv_le_self _ (by omega)
  have h4 := pivP_bnd (shift_rows z hg hl) ss.length
  have h5 : (cosetI ss gs).natAbs < 2 ^ 8000 := wide_mono h4 (by have := z.hi; omega)
  omega
theorem cl_len {ss : List Int} {gs ps : List (List Int)} (z : Sz ss) (h : Tgts ss gs) (hn : ps.Nodup) (hm : ∀ p, p ∈ ps ↔ Seat ss p ∧ Cl ss gs p) : ps.length = ((allI ss).filter fun p => (reachI ss gs p).isNone).length := by
  have iff : ∀ p, Seat ss p → ((reachI ss gs p).isNone = true ↔ Cl ss gs p) := fun p hp => by
    have h1 := reach_cl z h.ne h.ok hp
    rw [Option.isNone_iff_eq_none, h1]
    constructor
    · rintro ⟨m, hm⟩
      exact ⟨m, ((lev_some hp).mp hm).1⟩
    · rintro ⟨n, hn⟩
      obtain ⟨m, _, hm⟩ := kn_lev hp hn
      exact ⟨m, hm⟩
  refine Nat.le_antisymm (List.Nodup.length_le_of_subset hn fun p hp => ?_) (List.Nodup.length_le_of_subset (List.Pairwise.filter _ allI_nd) fun p hp => ?_)
  · obtain ⟨h1, h2⟩ := (hm p).mp hp
    exact List.mem_filter.mpr ⟨(allI_mem z).mpr h1, (iff p h1).mpr h2⟩
  · obtain ⟨h1, h2⟩ := List.mem_filter.mp hp
    have h1 := (allI_mem z).mp h1
    exact (hm p).mpr ⟨h1, (iff p h1).mp h2⟩
theorem cl_count {ss : List Int} {gs ps : List (List Int)} (z : Sz ss) (h : Tgts ss gs) (hn : ps.Nodup) (hm : ∀ p, p ∈ ps ↔ Seat ss p ∧ Cl ss gs p) : cosetI ss gs * (ps.length : Nat) = prodI ss := by
  have h1 := coset_mul z h.ne h.ok
  rw [← cl_len z h hn hm] at h1
  have h2 := cnt_prod z.pos
  rw [allI_cnt, List.length_map, List.length_range] at h1
  rw [← h2, ← h1, Int.natCast_mul, Int.toNat_of_nonneg (by have := coset_pos z h.ne fun g hg => (h.ok g hg).len; omega)]
theorem cl_few {ss : List Int} {gs ps : List (List Int)} (z : Sz ss) (h : Tgts ss gs) (hn : ps.Nodup) (hm : ∀ p, p ∈ ps ↔ Seat ss p ∧ Cl ss gs p) (hp : prodI ss ≤ 60) : ps.length ≤ 60 := by
  have h1 := List.Nodup.length_le_of_subset hn fun p hp => (allI_mem z).mpr ((hm p).mp hp).1
  have h2 := cnt_prod z.pos
  rw [allI_cnt, List.length_map, List.length_range] at h1
  omega
def sp_law_check (K : PySem.W.Frag) : Sp := fun vs H Q _ => ∃ (c : Addr), vs = [.ref c] ∧ Src H c ∧ ∀ H', Sx c H H' → Src H' c → Q (.bl true) H'
theorem ok_law_check (T : Tx K mg) : FnOk P w K mg base CX0 6 T.f_law_check T.fd_law_check ["_law_source_here"] (sp_law_check K) := by
  refine T.F_law_check.ok sc_law_check (fun vs H Q E h => ?_) (fun cdv A outer s H vs Q E hr h => ?_)
  · obtain ⟨c, rfl, _⟩ := h; rfl
  · obtain ⟨c, rfl, hc, q⟩ := h
    refine ⟨_, (C8.pss_cut (ps_set (i := 1) sc_law_check.nd rfl (Or.inl rfl) (pe_call (ok_law_small T) (hr.mono (by decide)) (by rfl) T.g_law_small T.F_law_small.kp T.b_law_small .nil pass0 (pa_cons (pv 0) pa_nil)))
      (C8.pss_cut (ps_par (i := 2) (j := 3) (by rfl) sc_law_check.nd rfl rfl (by decide) rfl rfl (pa_cons (pe_make T.M_Table (ok_Table_init T) (hr.mono (by decide)) (by rfl) T.g_Table T.b_Table_init .nil pass0 (pa_cons (pv 1) pa_nil)) (pa_cons (pe_call (ok_law_goals T) (hr.mono (by decide)) (by rfl) T.g_law_goals T.F_law_goals.kp T.b_law_goals .nil pass0 (pa_cons (pv 0) (pa_cons (pv 1) pa_nil))) pa_nil)) (by rfl))
      (C8.pss_cut (ps_set (i := 4) sc_law_check.nd rfl (Or.inl rfl) (pe_call (ok_law_closed T) (hr.mono (by decide)) (by rfl) T.g_law_closed T.F_law_closed.kp T.b_law_closed .nil pass0 (pa_cons (pv 1) (pa_cons (pv 3) pa_nil))))
      (C8.pss_cut (ps_set (i := 5) sc_law_check.nd rfl (Or.inl rfl) (pe_ix ix_lH (pe_lst (pa_cons (pe_callTy list_H (by rfl) T.n_list (by decide +kernel) (pa_cons (pv 3) pa_nil)) (pa_cons (pe_callTy tuple_H (by rfl) T.n_tuple (by decide +kernel) (pa_cons (pv 3) pa_nil)) pa_nil))) (pe_call (ok_law_take T) (hr.mono (by decide)) (by rfl) T.g_law_take T.F_law_take.kp T.b_law_take .nil pass0 (pa_cons (pv 0) (pa_cons pe_int pa_nil))) (fun _ _ => rfl)))
      (C8.pss_cut (ps_set (i := 6) sc_law_check.nd rfl (Or.inl rfl) (pe_call (ok_coset_count T) (hr.mono (by decide)) (by rfl) T.g_coset_count T.F_coset_count.kp T.b_coset_count .nil pass0 (pa_cons (pv 2) (pa_cons (pv 5) pa_nil))))
      (C8.pss_cut (ps_if (PW.pt (pw_or (pt_cmpR op_eq (pe_op op_mod (pv 6) pe_int) pe_int (nomark _)) (pw_or (pt_cmpR op_ne (pe_op op_mulA (pv 6) (pe_callB call_len_dT (by rfl) T.n_len PySem.boot_len (pa_cons (pv 4) pa_nil))) (pe_meth0 (pv 2) T.cl_Table T.m_Table_count (ok_Table_count T) (hr.mono (by decide)) T.b_Table_count .nil pass0) (nomark _)) (pw_or1 (pt_cmpR op_ne (pe_callK0 (ok_coset_count T) (hr.mono (by decide)) (by rfl) T.g_coset_count T.F_coset_count.kp T.kb_coset_count_targets_table pass0 (pk_cons (pv 5) (pk_cons (pv 2) pk_nil))) (pv 6) (nomark _)))))) (pss_one (ps_ret pe_bl)) pss_nil)
      (C8.pss_cut (ps_for PassesOwn.never rfl (pi_seqH (pe_call (ok_law_all T) (hr.mono (by decide)) (by rfl) T.g_law_all T.F_law_all.kp T.b_law_all .nil pass0 (pa_cons (pv 1) pa_nil))) (pg_name (i := 7) sc_law_check.nd rfl (Or.inl rfl))
        (C8.pss_cut (ps_set (i := 8) sc_law_check.nd rfl (Or.inl rfl) (pe_call (ok_reach T) (hr.mono (by decide)) (by rfl) T.g_reach T.F_reach.kp T.b_reach .nil pass0 (pa_cons (pv 2) (pa_cons (pv 5) (pa_cons (pv 7) pa_nil)))))
        (C8.pss_cut (ps_if (PW.pt (pw_or (pt_not (pt_val (pe_callB (call_isIK (K := K) rfl) (by rfl) T.n_isinstance (by decide +kernel) (pa_cons (pv 8) (pa_cons (pe_bltn (v := .ty "tuple") (by rfl) T.n_tuple (by decide +kernel) rfl) pa_nil))))) (pw_or1 (pt_cmpR op_ne (pe_cmpR (op_eqDK (K := K) rfl hr.units) (pv 8) (pe_tup (pa_cons pe_str pa_nil)) (nomark _)) (pe_cmp (pc_din (lt_w hr.units1) (pv 7) (pv 4)) rfl) (nomark _))))) (pss_one (ps_ret pe_bl)) pss_nil)
        (pss_one (ps_if (pt_cmp (pc_dnotin (lt_w hr.units1) (pv 7) (pv 4)) rfl) (C8.pss_cut (ps_if (PW.pt (pw_or (pt_cmpR op_ne (pe_callB len_H (by rfl) T.n_len PySem.boot_len (pa_cons (pv 8) pa_nil)) pe_int (nomark _)) (pw_or (pt_cmpR op_ne (pe_ix ix_tH (pv 8) pe_int (fun _ _ => rfl)) pe_str (nomark _)) (pw_or1 (pt_cmpR op_notN (pe_call (ok_law_due T) (hr.mono (by decide)) (by rfl) T.g_law_due T.F_law_due.kp T.b_law_due .nil pass0 (pa_cons (pv 1) (pa_cons (pv 3) (pa_cons (pv 7) (pa_cons (pe_ix ix_tH (pv 8) pe_int (fun _ _ => rfl)) pa_nil))))) pe_non (nomark _)))))) (pss_one (ps_ret pe_bl)) pss_nil)
          (pss_one (ps_if (pt_cmpR op_notN (pe_call (ok_check_witness T) (hr.mono (by decide)) (by rfl) T.g_check_witness T.F_check_witness.kp T.b_check_witness .nil pass0 (pa_cons (pv 2) (pa_cons (pv 5) (pa_cons (pv 7) (pa_cons (pe_ix ix_tH (pv 8) pe_int (fun _ _ => rfl)) pa_nil))))) pe_non (nomark _)) (pss_one (ps_ret pe_bl)) pss_nil))) pss_nil)))))
      (C8.pss_cut (ps_set (i := 9) sc_law_check.nd rfl (Or.inl rfl) (pe_call (ok_law_seat T) (hr.mono (by decide)) (by rfl) T.g_law_seat T.F_law_seat.kp T.b_law_seat .nil pass0 (pa_cons (pv 0) (pa_cons (pv 1) pa_nil))))
      (C8.pss_cut (ps_set (i := 10) sc_law_check.nd rfl (Or.inl rfl) (pe_call (ok_reach T) (hr.mono (by decide)) (by rfl) T.g_reach T.F_reach.kp T.b_reach .nil pass0 (pa_cons (pv 2) (pa_cons (pv 3) (pa_cons (pv 9) pa_nil)))))
      (C8.pss_cut (ps_if (PW.pt (pw_or (pt_cmpR (op_neDK (K := K) rfl hr.units) (pe_callK0 (ok_reach T) (hr.mono (by decide)) (by rfl) T.g_reach T.F_reach.kp T.kb_reach_seat_targets_table pass0 (pk_cons (pv 9) (pk_cons (pv 5) (pk_cons (pv 2) pk_nil)))) (pv 10) (nomark _)) (pw_or1 (pt_cmpR (op_neDK (K := K) rfl hr.units) (pe_call (ok_reach T) (hr.mono (by decide)) (by rfl) T.g_reach T.F_reach.kp T.b_reach .nil pass0 (pa_cons (pe_make T.M_Table (ok_Table_init T) (hr.mono (by decide)) (by rfl) T.g_Table T.b_Table_init .nil pass0 (pa_cons (pe_callTy tuple_H (by rfl) T.n_tuple (by decide +kernel) (pa_cons (pv 1) pa_nil)) pa_nil)) (pa_cons (pe_callTy tuple_H (by rfl) T.n_tuple (by decide +kernel) (pa_cons (pv 3) pa_nil)) (pa_cons (pv 9) pa_nil)))) (pv 10) (nomark _))))) (pss_one (ps_ret pe_bl)) pss_nil)
      (pss_one (ps_ret (pe_cmpR (op_eqDK (K := K) rfl hr.units) (pe_callTy list_H (by rfl) T.n_list (by decide +kernel) (pa_cons (pv 5) pa_nil)) (pv 3) (nomark _)))))))))))))), ?_⟩
    refine ⟨fun σ H' => ∃ (l : Addr) (ss : List Int), σ = [some (V.ref c), some (V.ref l), none, none, none, none, none, none, none, none, none] ∧ Sx c H H' ∧ Src H' c ∧ l ≠ c ∧ H' l = some (.lst (ss.map V.int)) ∧ Sz ss ∧ prodI ss ≤ 60, ?_, ?_⟩
    · walk_at "rd"
      exact ⟨c, rfl, hc, fun H1 l ss s1 hs1 hl0 hl z hp => ⟨l, rfl, s1, hs1, hc.ne hl0, ss, hl, z, hp⟩⟩
    rintro σ1 H1 ⟨l, ss, rfl, s1, hs1, hlc, hl1, z, hpr⟩
    refine ⟨fun σ H' => ∃ (t g : Addr) (gs : List (List Int)), σ = [some (V.ref c), some (V.ref l), some (V.ref t), some (V.ref g), none, none, none, none, none, none, none] ∧ Sx c H H' ∧ Src H' c ∧ H' l = some (.lst (ss.map V.int)) ∧ TabAt T.c_Table H' t ss ∧ LstT H' g gs ∧ Tgts ss gs ∧ gs.length ≤ 5, ?_, ?_⟩
    · walk_at "rd"
      intro x dx hx hdx hne
      refine tab_made (k := true) hx hdx hne hl1 z fun G1 sG hT => ⟨rfl, c, l, ss, rfl, hs1.same sG, sG _ _ hl1, hlc, z, fun G2 L gs s2 hs2 hL0 hL htg hgl => ?_⟩
      exact ⟨L, rfl, (s1.trans (Sx.of sG)).trans s2, hs2, s2 _ _ hlc (sG _ _ hl1), hT.sx (hs1.same sG) s2, gs, hL, htg, hgl⟩
    rintro σ2 H2 ⟨t, g, gs, rfl, s2, hs2, hl2, ht2, hg2, htg, hgl⟩
    refine ⟨fun σ H' => ∃ (D : Addr) (ps : List (List Int)), σ = [some (V.ref c), some (V.ref l), some (V.ref t), some (V.ref g), some (V.ref D), none, none, none, none, none, none] ∧ Same H2 H' ∧ H' D = some (.dT (fdD ps)) ∧ ps.Nodup ∧ (∀ p, p ∈ ps ↔ Seat ss p ∧ Cl ss gs p), ?_, ?_⟩
    · walk_at "rd"
      exact ⟨l, g, ss, gs, rfl, hl2, hg2, z, hpr, htg, fun H3 D ps s3 _ hD hn hm => ⟨D, rfl, s3, ps, hD, hn, hm⟩⟩
    rintro σ3 H3 ⟨D, ps, rfl, s3, hD3, hnd, hmem⟩
    refine ⟨fun σ H' => ∃ (k : Bool) (v : Addr), σ = [some (V.ref c), some (V.ref l), some (V.ref t), some (V.ref g), some (V.ref D), some (V.ref v), none, none, none, none, none] ∧ Sx c H3 H' ∧ Src H' c ∧ TgtAt k H' v gs, ?_, ?_⟩
    · walk_at "rd"
      obtain ⟨ga, eG, hGA⟩ := hg2.same s3
      refine .inl ⟨_, eG, fun L1 hL1 => .inl ⟨_, Same.new hL1 _ _ eG, fun T1 hT1 p hp => ?_⟩⟩
      have q1 := Same.new hL1 (o := .lst (ga.map V.ref))
      have e1 : (upd H3 L1 (.lst (ga.map V.ref))) L1 = some (.lst (ga.map V.ref)) := upd_same
      generalize upd H3 L1 (HO.lst (ga.map V.ref)) = B1 at *
      have q2 := Same.new hT1 (o := .tup (ga.map V.ref))
      have e2 : (upd B1 T1 (.tup (ga.map V.ref))) T1 = some (.tup (ga.map V.ref)) := upd_same
      generalize upd B1 T1 (HO.tup (ga.map V.ref)) = B2 at *
      have q3 := Same.new hp (o := .lst [V.ref L1, V.ref T1])
      have e3 : (upd B2 p (.lst [V.ref L1, V.ref T1])) p = some (.lst [V.ref L1, V.ref T1]) := upd_same
      generalize upd B2 p (HO.lst [V.ref L1, V.ref T1]) = B3 at *
      have q13 := (q1.trans q2).trans q3
      have hsB := (hs2.same s3).same q13
      have npc : p ≠ c := ((hs2.same s3).same (q1.trans q2)).ne hp
      refine ⟨c, 2, rfl, hsB, by decide, by decide, fun H5 r s5 hs5 r0 r1 => ⟨r, rfl, _, s5 _ _ npc e3, ?_⟩⟩
      have sx : Sx c H3 H5 := (Sx.of q13).trans s5
      have hg5 : LstT H5 g gs := (hg2.same s3).sxs (hs2.same s3) sx
      have tp := hsB.tp s5
      have nL1 : L1 ≠ c := (hs2.same s3).ne hL1
      have nT1 : T1 ≠ c := ((hs2.same s3).same q1).ne hT1
      have hA5 : AsT H5 ga gs := (hGA.same q13).tp tp
      have hr : r = 0 ∨ r = 1 := by omega
      rcases hr with rfl | rfl
      · exact ⟨_, atI_0, true, L1, rfl, sx, hs5, ga, s5 _ _ nL1 (q3 _ _ (q2 _ _ e1)), hA5⟩
      · exact ⟨_, atI_1, false, T1, rfl, sx, hs5, ga, s5 _ _ nT1 (q3 _ _ e2), hA5⟩
    rintro σ4 H4 ⟨k, v, rfl, s4, hs4, hv4⟩
    have hs3 := hs2.same s3
    have hl4 := s4 _ _ hlc (s3 _ _ hl2)
    have ht4 := (ht2.same s3).sx hs3 s4
    have hg4 := (hg2.same s3).sxs hs3 s4
    have hD4 := s4 _ _ (fun e => by obtain ⟨x, y, w', h⟩ := hs3; rw [← e, hD3] at h; cases h) hD3
    have hgl' : ∀ g ∈ gs, g.length = ss.length := fun g h => (htg.ok g h).len
    refine ⟨fun σ H' => σ = [some (V.ref c), some (V.ref l), some (V.ref t), some (V.ref g), some (V.ref D), some (V.ref v), some (V.int (cosetI ss gs)), none, none, none, none] ∧ Same H4 H', ?_, ?_⟩
    · walk_at "rd"
      exact ⟨k, t, v, ss, gs, rfl, ht4, hv4, htg, z, fun H5 s5 => ⟨rfl, s5⟩⟩
    rintro σ5 H5 ⟨rfl, s5⟩
    refine ⟨fun σ H' => σ = [some (V.ref c), some (V.ref l), some (V.ref t), some (V.ref g), some (V.ref D), some (V.ref v), some (V.int (cosetI ss gs)), none, none, none, none] ∧ Same H5 H', ?_, ?_⟩
    · walk_at "rd"
      have hD5 := s5 _ _ hD4
      have hcm := cl_count z htg hnd hmem
      rw [if_neg (by have := coset_odd z htg.ne hgl'; omega)]
      refine ⟨D, fdD ps, rfl, hD5, _, rfl, .inr (by have := cl_few z htg hnd hmem hpr; unfold fdD; rw [List.length_map]; omega), ?_⟩
      obtain ⟨dx, tt, h1, h2⟩ := id (ht4.same s5)
      refine ⟨_, _, h1, rfl, t, ss, rfl, ht4.same s5, z, rfl, ?_⟩
      rw [if_neg (by rw [show (fdD ps).length = ps.length by unfold fdD; rw [List.length_map], hcm]; exact fun h => h rfl)]
      refine ⟨k, t, v, ss, gs, rfl, ht4.same s5, hv4.same s5, htg, z, fun H6 s6 => ⟨rfl, ?_⟩⟩
      rw [if_neg fun h => h rfl]
      exact s6
    rintro σ6 H6 ⟨rfl, s6⟩
    refine ⟨fun σ H' => ∃ v7 v8, σ = [some (V.ref c), some (V.ref l), some (V.ref t), some (V.ref g), some (V.ref D), some (V.ref v), some (V.int (cosetI ss gs)), v7, v8, none, none] ∧ Same H6 H', ?_, ?_⟩
    · walk_at "rd"
      refine ⟨true, l, ss, rfl, s6 _ _ (s5 _ _ hl4), z, by omega, fun B0 M sB hM => ⟨M, rfl, ?_⟩⟩
      obtain ⟨ma, eM, hMA⟩ := hM
      refine .inl ⟨_, eM, fun J W => ?_⟩
      refine forr W (fun i σ H' => ∃ v7 v8, σ = [some (V.ref c), some (V.ref l), some (V.ref t), some (V.ref g), some (V.ref D), some (V.ref v), some (V.int (cosetI ss gs)), v7, v8, none, none] ∧ Same B0 H') ⟨none, none, rfl, Same.refl _⟩ (fun i σ H' _ h => by obtain ⟨_, _, _, h⟩ := h; exact h _ _ eM) ?_ ?_
      · rintro i x σ G1 G1' hi ⟨v7, v8, rfl, sG⟩ ⟨rfl, hx⟩
        simp only [List.getElem?_map, Option.map_eq_some_iff] at hx
        obtain ⟨a, ha, rfl⟩ := hx
        have hil : i < (allI ss).length := by rw [← hMA.1]; exact (List.getElem?_eq_some_iff.mp ha).1
        have hp := List.getElem?_eq_getElem hil
        generalize (allI ss)[i] = p at hp
        have hpS : Seat ss p := (allI_mem z).mp (List.mem_of_getElem? hp)
        have ha1 := sG _ _ (hMA.2 _ _ _ ha hp)
        have s4G := s5.trans (s6.trans (sB.trans sG))
        have hl1' := s4G _ _ hl4
        have ht1' := ht4.same s4G
        have hg1' := hg4.same s4G
        have hv1' := hv4.same s4G
        have hD1' := s4G _ _ hD4
        refine ⟨fun σ H' => ∃ f, σ = [some (V.ref c), some (V.ref l), some (V.ref t), some (V.ref g), some (V.ref D), some (V.ref v), some (V.int (cosetI ss gs)), some (V.ref a), some (V.ref f), none, none] ∧ Same G1' H' ∧ RchAt H' f ss gs p, ?_, ?_⟩
        · walk_at "rd"
          exact ⟨k, t, v, a, ss, gs, p, rfl, ht1', hv1', htg, z, ha1, hpS, fun G2 f s2 hf => ⟨f, rfl, s2, hf⟩⟩
        rintro σ8 G2 ⟨f, rfl, s2, hf⟩
        have hrc : (reachI ss gs p).isNone = decide (p ∈ ps) := by
          have h1 := reach_cl z htg.ne htg.ok hpS
          by_cases cc : p ∈ ps
          · obtain ⟨_, n, hn⟩ := (hmem p).mp cc
            obtain ⟨m, _, hm⟩ := kn_lev hpS hn
            rw [decide_eq_true cc, h1.mpr ⟨m, hm⟩]
            rfl
          · rw [decide_eq_false cc]
            cases e : reachI ss gs p with
            | some _ => rfl
            | none =>
              obtain ⟨m, hm⟩ := h1.mp e
              exact absurd ((hmem p).mpr ⟨hpS, m, ((lev_some hpS).mp hm).1⟩) cc
        refine ⟨fun σ H' => σ = [some (V.ref c), some (V.ref l), some (V.ref t), some (V.ref g), some (V.ref D), some (V.ref v), some (V.int (cosetI ss gs)), some (V.ref a), some (V.ref f), none, none] ∧ Same G2 H', ?_, ?_⟩
        · walk_at "rd"
          refine ⟨true, rch_tup hf, ?_⟩
          rw [if_neg (by decide)]
          intro w hw
          have sw := Same.new hw (o := .tup [V.str (Str.ofString "reachable")])
          refine found_eq (hf.same sw) upd_same ?_
          refine ⟨_, fdD_get (sw _ _ (s2 _ _ hD1')) (sw _ _ (s2 _ _ ha1)), rfl, ?_⟩
          rw [fdD_some, hrc, if_neg (fun h => h rfl)]
          exact sw
        rintro σ9 G3 ⟨rfl, s3'⟩
        walk_at "rd"
        refine ⟨_, fdD_get ((s2.trans s3') _ _ hD1') ((s2.trans s3') _ _ ha1), ?_⟩
        rw [fdD_some]
        by_cases cc : p ∈ ps
        · rw [decide_eq_true cc, if_neg (by decide)]
          exact sG.trans (s2.trans s3')
        · rw [decide_eq_false cc, if_pos rfl]
          obtain ⟨cc', hcc⟩ : ∃ c', reachI ss gs p = some c' := by
            rw [decide_eq_false cc] at hrc
            cases e : reachI ss gs p with
            | none => rw [e] at hrc; cases hrc
            | some x => exact ⟨x, rfl⟩
          have hf3 := hf.same s3'
          rcases hf3 with ⟨e2, _⟩ | ⟨c', uf, rr, e2, hd1, hd2, hd3⟩
          · rw [hcc] at e2; cases e2
          obtain rfl : cc' = c' := by rw [hcc] at e2; exact Option.some.inj e2
          obtain ⟨w1, w2, w3⟩ := reach_wit z htg.ne hgl' hpS.len hcc
          have wbt := wit_bits z htg.ne hgl' (invC (shiftB ss gs) (cosetI ss gs) cc' cc')
          have hsh : ShAt G3 uf (smallW (cosetI ss gs) (invC (shiftB ss gs) (cosetI ss gs) cc' cc')) (redW (cosetI ss gs) (invC (shiftB ss gs) (cosetI ss gs) cc' cc')) (dot (redW (cosetI ss gs) (invC (shiftB ss gs) (cosetI ss gs) cc' cc')) (gs.headD []) % smallW (cosetI ss gs) (invC (shiftB ss gs) (cosetI ss gs) cc' cc')) := ⟨rr, hd2, hd3⟩
          generalize dot (redW (cosetI ss gs) (invC (shiftB ss gs) (cosetI ss gs) cc' cc')) (gs.headD []) % smallW (cosetI ss gs) (invC (shiftB ss gs) (cosetI ss gs) cc' cc') = R0 at w1 w2 w3 hsh
          generalize redW (cosetI ss gs) (invC (shiftB ss gs) (cosetI ss gs) cc' cc') = wf at w1 w2 w3 hsh
          generalize smallW (cosetI ss gs) (invC (shiftB ss gs) (cosetI ss gs) cc' cc') = M0 at w1 w2 w3 wbt hsh
          have s13 := s2.trans s3'
          refine ⟨fun σ H' => σ = [some (V.ref c), some (V.ref l), some (V.ref t), some (V.ref g), some (V.ref D), some (V.ref v), some (V.int (cosetI ss gs)), some (V.ref a), some (V.ref f), none, none] ∧ Same G3 H', ?_, ?_⟩
          · walk_at "rd"
            refine .inr ⟨_, hd1, ?_⟩
            rw [if_neg (by simp)]
            refine ⟨_, hd1, _, atI_0, rfl, ?_⟩
            rw [if_neg (fun h => h rfl)]
            refine ⟨_, hd1, _, atI_1, true, true, l, g, a, uf, ss, wf, p, gs, M0, R0, rfl, s13 _ _ hl1', hg1'.same s13, s13 _ _ ha1, hsh, w1, z, wbt, hpS, htg.ok, w2, w3, fun H8 s8 => ?_⟩
            show (if ¬ V.non = V.non then _ else _)
            rw [if_neg (fun h => h rfl)]
            exact s8
          rintro σ10 G4 ⟨rfl, s4'⟩
          walk_at "rd"
          have s14 := s13.trans s4'
          refine ⟨_, s4' _ _ hd1, _, atI_1, k, t, v, a, uf, ss, gs, p, wf, M0, R0, rfl, ht1'.same s14, hv1'.same s14, htg, z, s14 _ _ ha1, hpS, hsh.same s4', w1, wbt, w2, w3, fun H8 s8 => ?_⟩
          show (if ¬ V.non = V.non then _ else _)
          rw [if_neg (fun h => h rfl)]
          exact sG.trans (s14.trans s8)
      · rintro σ G1 ⟨v7, v8, rfl, sG⟩
        exact ⟨⟨_, _, rfl⟩, sB.trans sG⟩
    rintro σ7 H7 ⟨v7, v8, rfl, s7⟩
    refine ⟨fun σ H' => ∃ (o : Addr) (op : List Int), σ = [some (V.ref c), some (V.ref l), some (V.ref t), some (V.ref g), some (V.ref D), some (V.ref v), some (V.int (cosetI ss gs)), v7, v8, some (V.ref o), none] ∧ Sx c H7 H' ∧ Src H' c ∧ H' o = some (.tup (op.map V.int)) ∧ Seat ss op, ?_, ?_⟩
    · walk_at "rd"
      exact ⟨c, l, ss, rfl, hs4.same ((s5.trans s6).trans s7), ((s5.trans s6).trans s7) _ _ hl4, hlc, z, fun H8 o op s8 hs8 _ ho hS => ⟨o, rfl, s8, hs8, op, ho, hS⟩⟩
    rintro σ8 H8 ⟨o, op, rfl, s8, hs8, ho8, hoS⟩
    have s47 := (s5.trans s6).trans s7
    have hs7 := hs4.same s47
    have hl8 := s8 _ _ hlc (s47 _ _ hl4)
    have ht8 := (ht4.same s47).sx hs7 s8
    have hg8 := (hg4.same s47).sxs hs7 s8
    have hv8 : TgtAt k H8 v gs := (hv4.same s47).sxc hs7 s8 htg.ne
    refine ⟨fun σ H' => ∃ (u : Addr), σ = [some (V.ref c), some (V.ref l), some (V.ref t), some (V.ref g), some (V.ref D), some (V.ref v), some (V.int (cosetI ss gs)), v7, v8, some (V.ref o), some (V.ref u)] ∧ Same H8 H' ∧ RchAt H' u ss gs op, ?_, ?_⟩
    · walk_at "rd"
      exact ⟨true, t, g, o, ss, gs, op, rfl, ht8, hg8, htg, z, ho8, hoS, fun H9 u s9 hu => ⟨u, rfl, s9, hu⟩⟩
    rintro σ9 H9 ⟨u, rfl, s9, hu9⟩
    refine ⟨fun σ H' => σ = [some (V.ref c), some (V.ref l), some (V.ref t), some (V.ref g), some (V.ref D), some (V.ref v), some (V.int (cosetI ss gs)), v7, v8, some (V.ref o), some (V.ref u)] ∧ Same H8 H', ?_, ?_⟩
    · walk_at "rd"
      have ht9 := ht8.same s9
      have hv9 := hv8.same s9
      have ho9 := s9 _ _ ho8
      refine ⟨k, t, v, o, ss, gs, op, rfl, ht9, hv9, htg, z, ho9, hoS, fun B1 f1 t1 hf1 => ?_⟩
      refine found_same hf1 (hu9.same t1) ⟨_, rfl, ?_⟩
      rw [if_neg (by decide)]
      have hl1'' := t1 _ _ (s9 _ _ hl8)
      refine .inl ⟨_, hl1'', fun L2 hL2 x dx hx hdx hne => ?_⟩
      have q1 := Same.new hL2 (o := .tup (ss.map V.int))
      have e1 : (upd B1 L2 (.tup (ss.map V.int))) L2 = some (.tup (ss.map V.int)) := upd_same
      generalize upd B1 L2 (HO.tup (ss.map V.int)) = B2 at *
      refine tab_made (k := false) hx hdx hne e1 z fun B3 sB3 hT3 => ⟨rfl, ?_⟩
      have s93 := t1.trans (q1.trans sB3)
      obtain ⟨ga, eG, hGA⟩ := (hg8.same s9).same s93
      refine .inl ⟨_, eG, fun L4 hL4 => ?_⟩
      have q4 := Same.new hL4 (o := .tup (ga.map V.ref))
      have hv4' : TgtAt false (upd B3 L4 (.tup (ga.map V.ref))) L4 gs := ⟨ga, upd_same, hGA.same q4⟩
      have s94 := s93.trans q4
      refine ⟨false, x, L4, o, ss, gs, op, rfl, hT3.same q4, hv4', htg, z, s94 _ _ ho9, hoS, fun B5 f5 t5 hf5 => ?_⟩
      refine found_same hf5 (hu9.same (s94.trans t5)) ⟨_, rfl, ?_⟩
      rw [if_neg (by decide)]
      exact s9.trans (s94.trans t5)
    rintro σ10 H10 ⟨rfl, s10⟩
    walk_at "rd"
    obtain ⟨va, eV, hVA⟩ := hv8.same s10
    have key : ∀ L0, H10 L0 = none → rEqD K (V.ref L0) (V.ref g) (upd H10 L0 (.lst (va.map V.ref))) Q := fun L0 hL0 => by
      have sL := Same.new hL0 (o := .lst (va.map V.ref))
      refine eqD_tups ⟨va, upd_same, hVA.same sL⟩ ((hg8.same s10).same sL) (q _ ?_ (hs8.same (s10.trans sL)))
      exact ((s2.trans (Sx.of s3)).trans (s4.trans (Sx.of s47))).trans (s8.trans (Sx.of (s10.trans sL)))
    cases k with
    | true => exact .inl ⟨_, eV, key⟩
    | false => exact .inr ⟨_, eV, key⟩
end

/-! ### the law: one check a cell -/
section
variable {P : Program} {w : World} {K : PySem.W.Frag} {mg : Str → Option Value} {base : Heap}
def sp_law (K : PySem.W.Frag) : Sp := fun vs H Q _ => ∃ (a : Addr) (ns : List Int), vs = [.ref a] ∧ SqL K H a (ns.map V.int) ∧ ns.length ≤ 63 ∧ (∀ z ∈ ns, Builtin.Int.intBits z ≤ 1048576) ∧ ∀ H', Q (.bl true) H'
theorem ok_law (T : Tx K mg) : FnOk P w K mg base CX0 7 T.f_law T.fd_law ["_law_script"] (sp_law K) := by
  refine T.F_law.ok sc_law (fun vs H Q E h => ?_) (fun cdv A outer s H vs Q E hr h => ?_)
  · obtain ⟨a, ns, rfl, _⟩ := h; rfl
  · obtain ⟨a, ns, rfl, hS, hn, hbits, q⟩ := h
    refine ⟨_, (pss_cons (ps_for PassesOwn.never rfl (pi_seqH (pe_slice sl_list (pe_op op_catS (pv 0) (pe_lst (pa_cons pe_int pa_nil))) po_none (po_some pe_int))) (pg_name (i := 1) sc_law.nd rfl (Or.inl rfl))
        (pss_one (ps_if (pt_not (pt_val (pe_call (ok_law_check T) (hr.mono (by decide)) (by rfl) T.g_law_check T.F_law_check.kp T.b_law_check .nil pass0 (pa_cons (pe_call (ok_law_source T) (hr.mono (by decide)) (by rfl) T.g_law_source T.F_law_source.kp T.b_law_source .nil pass0 (pa_cons (pv 1) pa_nil)) pa_nil)))) (pss_one (ps_ret pe_bl)) pss_nil)))
      (pss_one (ps_ret pe_bl))), ?_⟩
    walk_at "rd"
    intro p hp
    have f1 : (upd H p (.lst [V.int 0])) p = some (.lst [V.int 0]) := upd_same
    have s1 := Same.new hp (o := .lst [V.int 0])
    generalize upd H p (HO.lst [V.int 0]) = H1 at s1 f1 ⊢
    refine ⟨_, s1.seq hS, _, .inl (.inl f1), ?_, fun p1 hp1 => ⟨_, .inl (.inl upd_same), fun p2 hp2 J W => ?_⟩⟩
    · rw [List.length_map]
      exact Nat.le_trans (by simp; omega : ns.length + [V.int 0].length ≤ 64) (by decide)
    generalize hH2 : upd H1 p1 (HO.lst (ns.map V.int ++ [V.int 0])) = H2 at hp2 ⊢
    have ei : cutV (ns.map V.int ++ [V.int 0]) none (some 3) = ((ns ++ [0]).take 3).map V.int := by
      have e := cut_front (ns.map V.int ++ [V.int 0]) 3
      rw [show ((3 : Nat) : Int) = 3 by rfl] at e
      rw [e, List.map_take, List.map_append]
      rfl
    rw [ei] at W ⊢
    generalize ((ns ++ [0]).take 3) = ms at W ⊢
    have f3 : (upd H2 p2 (.lst (ms.map V.int))) p2 = some (.lst (ms.map V.int)) := upd_same
    generalize upd H2 p2 (HO.lst (ms.map V.int)) = H3 at f3 ⊢
    refine forr W (fun i σ H' => ∃ v, σ = [some (V.ref a), v] ∧ H' p2 = some (.lst (ms.map V.int))) ⟨none, rfl, f3⟩ (fun _ _ _ _ h => by obtain ⟨_, _, h⟩ := h; exact h) ?_ ?_
    · rintro i x σ H4 H4' hi ⟨v, rfl, h4⟩ ⟨rfl, hx⟩
      simp only [List.getElem?_map, Option.map_eq_some_iff] at hx
      obtain ⟨n, hn, rfl⟩ := hx
      walk_at "rd"
      refine ⟨n, rfl, fun H5 c s5 hc hsrc => ?_⟩
      walk_at "rd"
      refine ⟨c, rfl, hsrc, fun H6 s6 hs6 => ?_⟩
      walk_at "rd"
      exact s6 _ _ (ne_some h4 hc) (s5 _ _ h4)
    · rintro σ H4 ⟨v, rfl, h4⟩
      walk_at "rd"
      exact q _
end

theorem kit_self (K : PySem.W.Frag) (C : Addr) : PySem.W.kitOne K (.ref C) (.ref C) = some true := by
  unfold PySem.W.kitOne
  rw [if_pos]
  exact beq_self_eq_true _
theorem all_mk {P : Program} {w : World} {K : PySem.W.Frag} {h : Heap} {mg : Str → Option Value} {fa : Addr} (X : K.In h) (G : h.Ns mainGlobals mg) (hfa : mg "law" = some (.ref fa))
    {c_Table : Addr} {f_is_integer : Addr} {od_is_integer an_is_integer : Option Addr} {sl_is_integer : Array (Option Value)} {oc_is_integer kV_is_integer dc_is_integer pm_is_integer cd_is_integer ct_is_integer : Value} {f_is_place : Addr} {od_is_place an_is_place : Option Addr} {sl_is_place : Array (Option Value)} {oc_is_place kV_is_place dc_is_place pm_is_place cd_is_place ct_is_place : Value} {f_is_seat : Addr} {od_is_seat an_is_seat : Option Addr} {sl_is_seat : Array (Option Value)} {oc_is_seat kV_is_seat dc_is_seat pm_is_seat cd_is_seat ct_is_seat : Value} {f_is_modulus : Addr} {od_is_modulus an_is_modulus : Option Addr} {sl_is_modulus : Array (Option Value)} {oc_is_modulus kV_is_modulus dc_is_modulus pm_is_modulus cd_is_modulus ct_is_modulus : Value} {f_are_weights : Addr} {od_are_weights an_are_weights : Option Addr} {sl_are_weights : Array (Option Value)} {oc_are_weights kV_are_weights dc_are_weights pm_are_weights cd_are_weights ct_are_weights : Value} {f_is_witness : Addr} {od_is_witness an_is_witness : Option Addr} {sl_is_witness : Array (Option Value)} {oc_is_witness kV_is_witness dc_is_witness pm_is_witness cd_is_witness ct_is_witness : Value} {f_require_seat : Addr} {od_require_seat an_require_seat : Option Addr} {sl_require_seat : Array (Option Value)} {oc_require_seat kV_require_seat dc_require_seat pm_require_seat cd_require_seat ct_require_seat : Value} {f_require_witness : Addr} {od_require_witness an_require_witness : Option Addr} {sl_require_witness : Array (Option Value)} {oc_require_witness kV_require_witness dc_require_witness pm_require_witness cd_require_witness ct_require_witness : Value} {f_require_seats : Addr} {od_require_seats an_require_seats : Option Addr} {sl_require_seats : Array (Option Value)} {oc_require_seats kV_require_seats dc_require_seats pm_require_seats cd_require_seats ct_require_seats : Value} {f_require_targets : Addr} {od_require_targets an_require_targets : Option Addr} {sl_require_targets : Array (Option Value)} {oc_require_targets kV_require_targets dc_require_targets pm_require_targets cd_require_targets ct_require_targets : Value} {f_Table_init : Addr} {od_Table_init an_Table_init : Option Addr} {sl_Table_init : Array (Option Value)} {oc_Table_init kV_Table_init dc_Table_init pm_Table_init cd_Table_init ct_Table_init : Value} {f_Table_sizes : Addr} {od_Table_sizes an_Table_sizes : Option Addr} {sl_Table_sizes : Array (Option Value)} {oc_Table_sizes kV_Table_sizes dc_Table_sizes pm_Table_sizes cd_Table_sizes ct_Table_sizes : Value} {f_Table_count : Addr} {od_Table_count an_Table_count : Option Addr} {sl_Table_count : Array (Option Value)} {oc_Table_count kV_Table_count dc_Table_count pm_Table_count cd_Table_count ct_Table_count : Value} {f_sizes_of : Addr} {od_sizes_of an_sizes_of : Option Addr} {sl_sizes_of : Array (Option Value)} {oc_sizes_of kV_sizes_of dc_sizes_of pm_sizes_of cd_sizes_of ct_sizes_of : Value} {f_are_sizes : Addr} {od_are_sizes an_are_sizes : Option Addr} {sl_are_sizes : Array (Option Value)} {oc_are_sizes kV_are_sizes dc_are_sizes pm_are_sizes cd_are_sizes ct_are_sizes : Value} {f_weighted_sum : Addr} {od_weighted_sum an_weighted_sum : Option Addr} {sl_weighted_sum : Array (Option Value)} {oc_weighted_sum kV_weighted_sum dc_weighted_sum pm_weighted_sum cd_weighted_sum ct_weighted_sum : Value} {f_has_residue : Addr} {od_has_residue an_has_residue : Option Addr} {sl_has_residue : Array (Option Value)} {oc_has_residue kV_has_residue dc_has_residue pm_has_residue cd_has_residue ct_has_residue : Value} {f_common_divisor : Addr} {od_common_divisor an_common_divisor : Option Addr} {sl_common_divisor : Array (Option Value)} {oc_common_divisor kV_common_divisor dc_common_divisor pm_common_divisor cd_common_divisor ct_common_divisor : Value} {f_odd_part : Addr} {od_odd_part an_odd_part : Option Addr} {sl_odd_part : Array (Option Value)} {oc_odd_part kV_odd_part dc_odd_part pm_odd_part cd_odd_part ct_odd_part : Value} {f_difference : Addr} {od_difference an_difference : Option Addr} {sl_difference : Array (Option Value)} {oc_difference kV_difference dc_difference pm_difference cd_difference ct_difference : Value} {f_shift_basis : Addr} {od_shift_basis an_shift_basis : Option Addr} {sl_shift_basis : Array (Option Value)} {oc_shift_basis kV_shift_basis dc_shift_basis pm_shift_basis cd_shift_basis ct_shift_basis : Value} {f_pivot_product : Addr} {od_pivot_product an_pivot_product : Option Addr} {sl_pivot_product : Array (Option Value)} {oc_pivot_product kV_pivot_product dc_pivot_product pm_pivot_product cd_pivot_product ct_pivot_product : Value} {f_inverse_column : Addr} {od_inverse_column an_inverse_column : Option Addr} {sl_inverse_column : Array (Option Value)} {oc_inverse_column kV_inverse_column dc_inverse_column pm_inverse_column cd_inverse_column ct_inverse_column : Value} {f_diagonal : Addr} {od_diagonal an_diagonal : Option Addr} {sl_diagonal : Array (Option Value)} {oc_diagonal kV_diagonal dc_diagonal pm_diagonal cd_diagonal ct_diagonal : Value} {f_with_vector : Addr} {od_with_vector an_with_vector : Option Addr} {sl_with_vector : Array (Option Value)} {oc_with_vector kV_with_vector dc_with_vector pm_with_vector cd_with_vector ct_with_vector : Value} {f_reduced : Addr} {od_reduced an_reduced : Option Addr} {sl_reduced : Array (Option Value)} {oc_reduced kV_reduced dc_reduced pm_reduced cd_reduced ct_reduced : Value} {f_coset_count : Addr} {od_coset_count an_coset_count : Option Addr} {sl_coset_count : Array (Option Value)} {oc_coset_count kV_coset_count dc_coset_count pm_coset_count cd_coset_count ct_coset_count : Value} {f_reach : Addr} {od_reach an_reach : Option Addr} {sl_reach : Array (Option Value)} {oc_reach kV_reach dc_reach pm_reach cd_reach ct_reach : Value} {f_check_witness : Addr} {od_check_witness an_check_witness : Option Addr} {sl_check_witness : Array (Option Value)} {oc_check_witness kV_check_witness dc_check_witness pm_check_witness cd_check_witness ct_check_witness : Value} {f_short_witness : Addr} {od_short_witness an_short_witness : Option Addr} {sl_short_witness : Array (Option Value)} {oc_short_witness kV_short_witness dc_short_witness pm_short_witness cd_short_witness ct_short_witness : Value} {f_law_mixed : Addr} {od_law_mixed an_law_mixed : Option Addr} {sl_law_mixed : Array (Option Value)} {oc_law_mixed kV_law_mixed dc_law_mixed pm_law_mixed cd_law_mixed ct_law_mixed : Value} {f_law_source : Addr} {od_law_source an_law_source : Option Addr} {sl_law_source : Array (Option Value)} {oc_law_source kV_law_source dc_law_source pm_law_source cd_law_source ct_law_source : Value} {f_law_take : Addr} {od_law_take an_law_take : Option Addr} {sl_law_take : Array (Option Value)} {oc_law_take kV_law_take dc_law_take pm_law_take cd_law_take ct_law_take : Value} {f_law_seat : Addr} {od_law_seat an_law_seat : Option Addr} {sl_law_seat : Array (Option Value)} {oc_law_seat kV_law_seat dc_law_seat pm_law_seat cd_law_seat ct_law_seat : Value} {f_law_all : Addr} {od_law_all an_law_all : Option Addr} {sl_law_all : Array (Option Value)} {oc_law_all kV_law_all dc_law_all pm_law_all cd_law_all ct_law_all : Value} {f_law_sum : Addr} {od_law_sum an_law_sum : Option Addr} {sl_law_sum : Array (Option Value)} {oc_law_sum kV_law_sum dc_law_sum pm_law_sum cd_law_sum ct_law_sum : Value} {f_law_times : Addr} {od_law_times an_law_times : Option Addr} {sl_law_times : Array (Option Value)} {oc_law_times kV_law_times dc_law_times pm_law_times cd_law_times ct_law_times : Value} {f_law_closed : Addr} {od_law_closed an_law_closed : Option Addr} {sl_law_closed : Array (Option Value)} {oc_law_closed kV_law_closed dc_law_closed pm_law_closed cd_law_closed ct_law_closed : Value} {f_law_small : Addr} {od_law_small an_law_small : Option Addr} {sl_law_small : Array (Option Value)} {oc_law_small kV_law_small dc_law_small pm_law_small cd_law_small ct_law_small : Value} {f_law_goals : Addr} {od_law_goals an_law_goals : Option Addr} {sl_law_goals : Array (Option Value)} {oc_law_goals kV_law_goals dc_law_goals pm_law_goals cd_law_goals ct_law_goals : Value} {f_law_value : Addr} {od_law_value an_law_value : Option Addr} {sl_law_value : Array (Option Value)} {oc_law_value kV_law_value dc_law_value pm_law_value cd_law_value ct_law_value : Value} {f_law_is_witness : Addr} {od_law_is_witness an_law_is_witness : Option Addr} {sl_law_is_witness : Array (Option Value)} {oc_law_is_witness kV_law_is_witness dc_law_is_witness pm_law_is_witness cd_law_is_witness ct_law_is_witness : Value} {f_law_due : Addr} {od_law_due an_law_due : Option Addr} {sl_law_due : Array (Option Value)} {oc_law_due kV_law_due dc_law_due pm_law_due cd_law_due ct_law_due : Value} {f_law_check : Addr} {od_law_check an_law_check : Option Addr} {sl_law_check : Array (Option Value)} {oc_law_check kV_law_check dc_law_check pm_law_check cd_law_check ct_law_check : Value} {f_law : Addr} {od_law an_law : Option Addr} {sl_law : Array (Option Value)} {oc_law kV_law dc_law pm_law cd_law ct_law : Value} {v_MAX_RINGS : Value}
    (ac_Table : PySem.W.nsIn K mainGlobals "Table" = some (some (.ref c_Table)))
    (a_is_integer : PySem.W.nsIn K mainGlobals "is_integer" = some (some (.ref f_is_integer)))
    (l_is_integer : K.lookup f_is_integer = some ⟨oc_is_integer, od_is_integer, .func (PySem.W.fnOf "is_integer" "is_integer" (defArgs d_is_integer) (defBody d_is_integer) (defScope d_is_integer) .none kV_is_integer dc_is_integer pm_is_integer an_is_integer cd_is_integer ct_is_integer), sl_is_integer⟩)
    (x_is_integer : PySem.W.codeIn K cd_is_integer "is_integer" = true)
    (k_is_integer : PySem.W.keepIn K (.ref f_is_integer) = true)
    (a_is_place : PySem.W.nsIn K mainGlobals "is_place" = some (some (.ref f_is_place)))
    (l_is_place : K.lookup f_is_place = some ⟨oc_is_place, od_is_place, .func (PySem.W.fnOf "is_place" "is_place" (defArgs d_is_place) (defBody d_is_place) (defScope d_is_place) .none kV_is_place dc_is_place pm_is_place an_is_place cd_is_place ct_is_place), sl_is_place⟩)
    (x_is_place : PySem.W.codeIn K cd_is_place "is_place" = true)
    (k_is_place : PySem.W.keepIn K (.ref f_is_place) = true)
    (a_is_seat : PySem.W.nsIn K mainGlobals "is_seat" = some (some (.ref f_is_seat)))
    (l_is_seat : K.lookup f_is_seat = some ⟨oc_is_seat, od_is_seat, .func (PySem.W.fnOf "is_seat" "is_seat" (defArgs d_is_seat) (defBody d_is_seat) (defScope d_is_seat) .none kV_is_seat dc_is_seat pm_is_seat an_is_seat cd_is_seat ct_is_seat), sl_is_seat⟩)
    (x_is_seat : PySem.W.codeIn K cd_is_seat "is_seat" = true)
    (k_is_seat : PySem.W.keepIn K (.ref f_is_seat) = true)
    (a_is_modulus : PySem.W.nsIn K mainGlobals "is_modulus" = some (some (.ref f_is_modulus)))
    (l_is_modulus : K.lookup f_is_modulus = some ⟨oc_is_modulus, od_is_modulus, .func (PySem.W.fnOf "is_modulus" "is_modulus" (defArgs d_is_modulus) (defBody d_is_modulus) (defScope d_is_modulus) .none kV_is_modulus dc_is_modulus pm_is_modulus an_is_modulus cd_is_modulus ct_is_modulus), sl_is_modulus⟩)
    (x_is_modulus : PySem.W.codeIn K cd_is_modulus "is_modulus" = true)
    (k_is_modulus : PySem.W.keepIn K (.ref f_is_modulus) = true)
    (a_are_weights : PySem.W.nsIn K mainGlobals "are_weights" = some (some (.ref f_are_weights)))
    (l_are_weights : K.lookup f_are_weights = some ⟨oc_are_weights, od_are_weights, .func (PySem.W.fnOf "are_weights" "are_weights" (defArgs d_are_weights) (defBody d_are_weights) (defScope d_are_weights) .none kV_are_weights dc_are_weights pm_are_weights an_are_weights cd_are_weights ct_are_weights), sl_are_weights⟩)
    (x_are_weights : PySem.W.codeIn K cd_are_weights "are_weights" = true)
    (k_are_weights : PySem.W.keepIn K (.ref f_are_weights) = true)
    (a_is_witness : PySem.W.nsIn K mainGlobals "is_witness" = some (some (.ref f_is_witness)))
    (l_is_witness : K.lookup f_is_witness = some ⟨oc_is_witness, od_is_witness, .func (PySem.W.fnOf "is_witness" "is_witness" (defArgs d_is_witness) (defBody d_is_witness) (defScope d_is_witness) .none kV_is_witness dc_is_witness pm_is_witness an_is_witness cd_is_witness ct_is_witness), sl_is_witness⟩)
    (x_is_witness : PySem.W.codeIn K cd_is_witness "is_witness" = true)
    (k_is_witness : PySem.W.keepIn K (.ref f_is_witness) = true)
    (a_require_seat : PySem.W.nsIn K mainGlobals "require_seat" = some (some (.ref f_require_seat)))
    (l_require_seat : K.lookup f_require_seat = some ⟨oc_require_seat, od_require_seat, .func (PySem.W.fnOf "require_seat" "require_seat" (defArgs d_require_seat) (defBody d_require_seat) (defScope d_require_seat) .none kV_require_seat dc_require_seat pm_require_seat an_require_seat cd_require_seat ct_require_seat), sl_require_seat⟩)
    (x_require_seat : PySem.W.codeIn K cd_require_seat "require_seat" = true)
    (k_require_seat : PySem.W.keepIn K (.ref f_require_seat) = true)
    (a_require_witness : PySem.W.nsIn K mainGlobals "require_witness" = some (some (.ref f_require_witness)))
    (l_require_witness : K.lookup f_require_witness = some ⟨oc_require_witness, od_require_witness, .func (PySem.W.fnOf "require_witness" "require_witness" (defArgs d_require_witness) (defBody d_require_witness) (defScope d_require_witness) .none kV_require_witness dc_require_witness pm_require_witness an_require_witness cd_require_witness ct_require_witness), sl_require_witness⟩)
    (x_require_witness : PySem.W.codeIn K cd_require_witness "require_witness" = true)
    (k_require_witness : PySem.W.keepIn K (.ref f_require_witness) = true)
    (a_require_seats : PySem.W.nsIn K mainGlobals "require_seats" = some (some (.ref f_require_seats)))
    (l_require_seats : K.lookup f_require_seats = some ⟨oc_require_seats, od_require_seats, .func (PySem.W.fnOf "require_seats" "require_seats" (defArgs d_require_seats) (defBody d_require_seats) (defScope d_require_seats) .none kV_require_seats dc_require_seats pm_require_seats an_require_seats cd_require_seats ct_require_seats), sl_require_seats⟩)
    (x_require_seats : PySem.W.codeIn K cd_require_seats "require_seats" = true)
    (k_require_seats : PySem.W.keepIn K (.ref f_require_seats) = true)
    (a_require_targets : PySem.W.nsIn K mainGlobals "require_targets" = some (some (.ref f_require_targets)))
    (l_require_targets : K.lookup f_require_targets = some ⟨oc_require_targets, od_require_targets, .func (PySem.W.fnOf "require_targets" "require_targets" (defArgs d_require_targets) (defBody d_require_targets) (defScope d_require_targets) .none kV_require_targets dc_require_targets pm_require_targets an_require_targets cd_require_targets ct_require_targets), sl_require_targets⟩)
    (x_require_targets : PySem.W.codeIn K cd_require_targets "require_targets" = true)
    (k_require_targets : PySem.W.keepIn K (.ref f_require_targets) = true)
    (a_Table_init : PySem.W.findIn K (.ref c_Table) "__init__" = some (some (.ref f_Table_init)))
    (i_Table_init : PySem.W.isFn K (.ref f_Table_init) = true)
    (l_Table_init : K.lookup f_Table_init = some ⟨oc_Table_init, od_Table_init, .func (PySem.W.fnOf "__init__" "Table.__init__" (defArgs d_Table_init) (defBody d_Table_init) (defScope d_Table_init) .none kV_Table_init dc_Table_init pm_Table_init an_Table_init cd_Table_init ct_Table_init), sl_Table_init⟩)
    (x_Table_init : PySem.W.codeIn K cd_Table_init "Table.__init__" = true)
    (k_Table_init : PySem.W.keepIn K (.ref f_Table_init) = true)
    (a_Table_sizes : PySem.W.findIn K (.ref c_Table) "sizes" = some (some (.ref f_Table_sizes)))
    (i_Table_sizes : PySem.W.isFn K (.ref f_Table_sizes) = true)
    (l_Table_sizes : K.lookup f_Table_sizes = some ⟨oc_Table_sizes, od_Table_sizes, .func (PySem.W.fnOf "sizes" "Table.sizes" (defArgs d_Table_sizes) (defBody d_Table_sizes) (defScope d_Table_sizes) .none kV_Table_sizes dc_Table_sizes pm_Table_sizes an_Table_sizes cd_Table_sizes ct_Table_sizes), sl_Table_sizes⟩)
    (x_Table_sizes : PySem.W.codeIn K cd_Table_sizes "Table.sizes" = true)
    (k_Table_sizes : PySem.W.keepIn K (.ref f_Table_sizes) = true)
    (a_Table_count : PySem.W.findIn K (.ref c_Table) "count" = some (some (.ref f_Table_count)))
    (i_Table_count : PySem.W.isFn K (.ref f_Table_count) = true)
    (l_Table_count : K.lookup f_Table_count = some ⟨oc_Table_count, od_Table_count, .func (PySem.W.fnOf "count" "Table.count" (defArgs d_Table_count) (defBody d_Table_count) (defScope d_Table_count) .none kV_Table_count dc_Table_count pm_Table_count an_Table_count cd_Table_count ct_Table_count), sl_Table_count⟩)
    (x_Table_count : PySem.W.codeIn K cd_Table_count "Table.count" = true)
    (k_Table_count : PySem.W.keepIn K (.ref f_Table_count) = true)
    (a_sizes_of : PySem.W.nsIn K mainGlobals "sizes_of" = some (some (.ref f_sizes_of)))
    (l_sizes_of : K.lookup f_sizes_of = some ⟨oc_sizes_of, od_sizes_of, .func (PySem.W.fnOf "sizes_of" "sizes_of" (defArgs d_sizes_of) (defBody d_sizes_of) (defScope d_sizes_of) .none kV_sizes_of dc_sizes_of pm_sizes_of an_sizes_of cd_sizes_of ct_sizes_of), sl_sizes_of⟩)
    (x_sizes_of : PySem.W.codeIn K cd_sizes_of "sizes_of" = true)
    (k_sizes_of : PySem.W.keepIn K (.ref f_sizes_of) = true)
    (a_are_sizes : PySem.W.nsIn K mainGlobals "_are_sizes" = some (some (.ref f_are_sizes)))
    (l_are_sizes : K.lookup f_are_sizes = some ⟨oc_are_sizes, od_are_sizes, .func (PySem.W.fnOf "_are_sizes" "_are_sizes" (defArgs d_are_sizes) (defBody d_are_sizes) (defScope d_are_sizes) .none kV_are_sizes dc_are_sizes pm_are_sizes an_are_sizes cd_are_sizes ct_are_sizes), sl_are_sizes⟩)
    (x_are_sizes : PySem.W.codeIn K cd_are_sizes "_are_sizes" = true)
    (k_are_sizes : PySem.W.keepIn K (.ref f_are_sizes) = true)
    (a_weighted_sum : PySem.W.nsIn K mainGlobals "weighted_sum" = some (some (.ref f_weighted_sum)))
    (l_weighted_sum : K.lookup f_weighted_sum = some ⟨oc_weighted_sum, od_weighted_sum, .func (PySem.W.fnOf "weighted_sum" "weighted_sum" (defArgs d_weighted_sum) (defBody d_weighted_sum) (defScope d_weighted_sum) .none kV_weighted_sum dc_weighted_sum pm_weighted_sum an_weighted_sum cd_weighted_sum ct_weighted_sum), sl_weighted_sum⟩)
    (x_weighted_sum : PySem.W.codeIn K cd_weighted_sum "weighted_sum" = true)
    (k_weighted_sum : PySem.W.keepIn K (.ref f_weighted_sum) = true)
    (a_has_residue : PySem.W.nsIn K mainGlobals "has_residue" = some (some (.ref f_has_residue)))
    (l_has_residue : K.lookup f_has_residue = some ⟨oc_has_residue, od_has_residue, .func (PySem.W.fnOf "has_residue" "has_residue" (defArgs d_has_residue) (defBody d_has_residue) (defScope d_has_residue) .none kV_has_residue dc_has_residue pm_has_residue an_has_residue cd_has_residue ct_has_residue), sl_has_residue⟩)
    (x_has_residue : PySem.W.codeIn K cd_has_residue "has_residue" = true)
    (k_has_residue : PySem.W.keepIn K (.ref f_has_residue) = true)
    (a_common_divisor : PySem.W.nsIn K mainGlobals "common_divisor" = some (some (.ref f_common_divisor)))
    (l_common_divisor : K.lookup f_common_divisor = some ⟨oc_common_divisor, od_common_divisor, .func (PySem.W.fnOf "common_divisor" "common_divisor" (defArgs d_common_divisor) (defBody d_common_divisor) (defScope d_common_divisor) .none kV_common_divisor dc_common_divisor pm_common_divisor an_common_divisor cd_common_divisor ct_common_divisor), sl_common_divisor⟩)
    (x_common_divisor : PySem.W.codeIn K cd_common_divisor "common_divisor" = true)
    (k_common_divisor : PySem.W.keepIn K (.ref f_common_divisor) = true)
    (a_odd_part : PySem.W.nsIn K mainGlobals "odd_part" = some (some (.ref f_odd_part)))
    (l_odd_part : K.lookup f_odd_part = some ⟨oc_odd_part, od_odd_part, .func (PySem.W.fnOf "odd_part" "odd_part" (defArgs d_odd_part) (defBody d_odd_part) (defScope d_odd_part) .none kV_odd_part dc_odd_part pm_odd_part an_odd_part cd_odd_part ct_odd_part), sl_odd_part⟩)
    (x_odd_part : PySem.W.codeIn K cd_odd_part "odd_part" = true)
    (k_odd_part : PySem.W.keepIn K (.ref f_odd_part) = true)
    (a_difference : PySem.W.nsIn K mainGlobals "difference" = some (some (.ref f_difference)))
    (l_difference : K.lookup f_difference = some ⟨oc_difference, od_difference, .func (PySem.W.fnOf "difference" "difference" (defArgs d_difference) (defBody d_difference) (defScope d_difference) .none kV_difference dc_difference pm_difference an_difference cd_difference ct_difference), sl_difference⟩)
    (x_difference : PySem.W.codeIn K cd_difference "difference" = true)
    (k_difference : PySem.W.keepIn K (.ref f_difference) = true)
    (a_shift_basis : PySem.W.nsIn K mainGlobals "shift_basis" = some (some (.ref f_shift_basis)))
    (l_shift_basis : K.lookup f_shift_basis = some ⟨oc_shift_basis, od_shift_basis, .func (PySem.W.fnOf "shift_basis" "shift_basis" (defArgs d_shift_basis) (defBody d_shift_basis) (defScope d_shift_basis) .none kV_shift_basis dc_shift_basis pm_shift_basis an_shift_basis cd_shift_basis ct_shift_basis), sl_shift_basis⟩)
    (x_shift_basis : PySem.W.codeIn K cd_shift_basis "shift_basis" = true)
    (k_shift_basis : PySem.W.keepIn K (.ref f_shift_basis) = true)
    (a_pivot_product : PySem.W.nsIn K mainGlobals "pivot_product" = some (some (.ref f_pivot_product)))
    (l_pivot_product : K.lookup f_pivot_product = some ⟨oc_pivot_product, od_pivot_product, .func (PySem.W.fnOf "pivot_product" "pivot_product" (defArgs d_pivot_product) (defBody d_pivot_product) (defScope d_pivot_product) .none kV_pivot_product dc_pivot_product pm_pivot_product an_pivot_product cd_pivot_product ct_pivot_product), sl_pivot_product⟩)
    (x_pivot_product : PySem.W.codeIn K cd_pivot_product "pivot_product" = true)
    (k_pivot_product : PySem.W.keepIn K (.ref f_pivot_product) = true)
    (a_inverse_column : PySem.W.nsIn K mainGlobals "inverse_column" = some (some (.ref f_inverse_column)))
    (l_inverse_column : K.lookup f_inverse_column = some ⟨oc_inverse_column, od_inverse_column, .func (PySem.W.fnOf "inverse_column" "inverse_column" (defArgs d_inverse_column) (defBody d_inverse_column) (defScope d_inverse_column) .none kV_inverse_column dc_inverse_column pm_inverse_column an_inverse_column cd_inverse_column ct_inverse_column), sl_inverse_column⟩)
    (x_inverse_column : PySem.W.codeIn K cd_inverse_column "inverse_column" = true)
    (k_inverse_column : PySem.W.keepIn K (.ref f_inverse_column) = true)
    (a_diagonal : PySem.W.nsIn K mainGlobals "_diagonal" = some (some (.ref f_diagonal)))
    (l_diagonal : K.lookup f_diagonal = some ⟨oc_diagonal, od_diagonal, .func (PySem.W.fnOf "_diagonal" "_diagonal" (defArgs d_diagonal) (defBody d_diagonal) (defScope d_diagonal) .none kV_diagonal dc_diagonal pm_diagonal an_diagonal cd_diagonal ct_diagonal), sl_diagonal⟩)
    (x_diagonal : PySem.W.codeIn K cd_diagonal "_diagonal" = true)
    (k_diagonal : PySem.W.keepIn K (.ref f_diagonal) = true)
    (a_with_vector : PySem.W.nsIn K mainGlobals "_with_vector" = some (some (.ref f_with_vector)))
    (l_with_vector : K.lookup f_with_vector = some ⟨oc_with_vector, od_with_vector, .func (PySem.W.fnOf "_with_vector" "_with_vector" (defArgs d_with_vector) (defBody d_with_vector) (defScope d_with_vector) .none kV_with_vector dc_with_vector pm_with_vector an_with_vector cd_with_vector ct_with_vector), sl_with_vector⟩)
    (x_with_vector : PySem.W.codeIn K cd_with_vector "_with_vector" = true)
    (k_with_vector : PySem.W.keepIn K (.ref f_with_vector) = true)
    (a_reduced : PySem.W.nsIn K mainGlobals "_reduced" = some (some (.ref f_reduced)))
    (l_reduced : K.lookup f_reduced = some ⟨oc_reduced, od_reduced, .func (PySem.W.fnOf "_reduced" "_reduced" (defArgs d_reduced) (defBody d_reduced) (defScope d_reduced) .none kV_reduced dc_reduced pm_reduced an_reduced cd_reduced ct_reduced), sl_reduced⟩)
    (x_reduced : PySem.W.codeIn K cd_reduced "_reduced" = true)
    (k_reduced : PySem.W.keepIn K (.ref f_reduced) = true)
    (a_coset_count : PySem.W.nsIn K mainGlobals "coset_count" = some (some (.ref f_coset_count)))
    (l_coset_count : K.lookup f_coset_count = some ⟨oc_coset_count, od_coset_count, .func (PySem.W.fnOf "coset_count" "coset_count" (defArgs d_coset_count) (defBody d_coset_count) (defScope d_coset_count) .none kV_coset_count dc_coset_count pm_coset_count an_coset_count cd_coset_count ct_coset_count), sl_coset_count⟩)
    (x_coset_count : PySem.W.codeIn K cd_coset_count "coset_count" = true)
    (k_coset_count : PySem.W.keepIn K (.ref f_coset_count) = true)
    (a_reach : PySem.W.nsIn K mainGlobals "reach" = some (some (.ref f_reach)))
    (l_reach : K.lookup f_reach = some ⟨oc_reach, od_reach, .func (PySem.W.fnOf "reach" "reach" (defArgs d_reach) (defBody d_reach) (defScope d_reach) .none kV_reach dc_reach pm_reach an_reach cd_reach ct_reach), sl_reach⟩)
    (x_reach : PySem.W.codeIn K cd_reach "reach" = true)
    (k_reach : PySem.W.keepIn K (.ref f_reach) = true)
    (a_check_witness : PySem.W.nsIn K mainGlobals "check_witness" = some (some (.ref f_check_witness)))
    (l_check_witness : K.lookup f_check_witness = some ⟨oc_check_witness, od_check_witness, .func (PySem.W.fnOf "check_witness" "check_witness" (defArgs d_check_witness) (defBody d_check_witness) (defScope d_check_witness) .none kV_check_witness dc_check_witness pm_check_witness an_check_witness cd_check_witness ct_check_witness), sl_check_witness⟩)
    (x_check_witness : PySem.W.codeIn K cd_check_witness "check_witness" = true)
    (k_check_witness : PySem.W.keepIn K (.ref f_check_witness) = true)
    (a_short_witness : PySem.W.nsIn K mainGlobals "_short_witness" = some (some (.ref f_short_witness)))
    (l_short_witness : K.lookup f_short_witness = some ⟨oc_short_witness, od_short_witness, .func (PySem.W.fnOf "_short_witness" "_short_witness" (defArgs d_short_witness) (defBody d_short_witness) (defScope d_short_witness) .none kV_short_witness dc_short_witness pm_short_witness an_short_witness cd_short_witness ct_short_witness), sl_short_witness⟩)
    (x_short_witness : PySem.W.codeIn K cd_short_witness "_short_witness" = true)
    (k_short_witness : PySem.W.keepIn K (.ref f_short_witness) = true)
    (a_law_mixed : PySem.W.nsIn K mainGlobals "_law_mixed" = some (some (.ref f_law_mixed)))
    (l_law_mixed : K.lookup f_law_mixed = some ⟨oc_law_mixed, od_law_mixed, .func (PySem.W.fnOf "_law_mixed" "_law_mixed" (defArgs d_law_mixed) (defBody d_law_mixed) (defScope d_law_mixed) .none kV_law_mixed dc_law_mixed pm_law_mixed an_law_mixed cd_law_mixed ct_law_mixed), sl_law_mixed⟩)
    (x_law_mixed : PySem.W.codeIn K cd_law_mixed "_law_mixed" = true)
    (k_law_mixed : PySem.W.keepIn K (.ref f_law_mixed) = true)
    (a_law_source : PySem.W.nsIn K mainGlobals "_law_source" = some (some (.ref f_law_source)))
    (l_law_source : K.lookup f_law_source = some ⟨oc_law_source, od_law_source, .func (PySem.W.fnOf "_law_source" "_law_source" (defArgs d_law_source) (defBody d_law_source) (defScope d_law_source) .none kV_law_source dc_law_source pm_law_source an_law_source cd_law_source ct_law_source), sl_law_source⟩)
    (x_law_source : PySem.W.codeIn K cd_law_source "_law_source" = true)
    (k_law_source : PySem.W.keepIn K (.ref f_law_source) = true)
    (a_law_take : PySem.W.nsIn K mainGlobals "_law_take" = some (some (.ref f_law_take)))
    (l_law_take : K.lookup f_law_take = some ⟨oc_law_take, od_law_take, .func (PySem.W.fnOf "_law_take" "_law_take" (defArgs d_law_take) (defBody d_law_take) (defScope d_law_take) .none kV_law_take dc_law_take pm_law_take an_law_take cd_law_take ct_law_take), sl_law_take⟩)
    (x_law_take : PySem.W.codeIn K cd_law_take "_law_take" = true)
    (k_law_take : PySem.W.keepIn K (.ref f_law_take) = true)
    (a_law_seat : PySem.W.nsIn K mainGlobals "_law_seat" = some (some (.ref f_law_seat)))
    (l_law_seat : K.lookup f_law_seat = some ⟨oc_law_seat, od_law_seat, .func (PySem.W.fnOf "_law_seat" "_law_seat" (defArgs d_law_seat) (defBody d_law_seat) (defScope d_law_seat) .none kV_law_seat dc_law_seat pm_law_seat an_law_seat cd_law_seat ct_law_seat), sl_law_seat⟩)
    (x_law_seat : PySem.W.codeIn K cd_law_seat "_law_seat" = true)
    (k_law_seat : PySem.W.keepIn K (.ref f_law_seat) = true)
    (a_law_all : PySem.W.nsIn K mainGlobals "_law_all" = some (some (.ref f_law_all)))
    (l_law_all : K.lookup f_law_all = some ⟨oc_law_all, od_law_all, .func (PySem.W.fnOf "_law_all" "_law_all" (defArgs d_law_all) (defBody d_law_all) (defScope d_law_all) .none kV_law_all dc_law_all pm_law_all an_law_all cd_law_all ct_law_all), sl_law_all⟩)
    (x_law_all : PySem.W.codeIn K cd_law_all "_law_all" = true)
    (k_law_all : PySem.W.keepIn K (.ref f_law_all) = true)
    (a_law_sum : PySem.W.nsIn K mainGlobals "_law_sum" = some (some (.ref f_law_sum)))
    (l_law_sum : K.lookup f_law_sum = some ⟨oc_law_sum, od_law_sum, .func (PySem.W.fnOf "_law_sum" "_law_sum" (defArgs d_law_sum) (defBody d_law_sum) (defScope d_law_sum) .none kV_law_sum dc_law_sum pm_law_sum an_law_sum cd_law_sum ct_law_sum), sl_law_sum⟩)
    (x_law_sum : PySem.W.codeIn K cd_law_sum "_law_sum" = true)
    (k_law_sum : PySem.W.keepIn K (.ref f_law_sum) = true)
    (a_law_times : PySem.W.nsIn K mainGlobals "_law_times" = some (some (.ref f_law_times)))
    (l_law_times : K.lookup f_law_times = some ⟨oc_law_times, od_law_times, .func (PySem.W.fnOf "_law_times" "_law_times" (defArgs d_law_times) (defBody d_law_times) (defScope d_law_times) .none kV_law_times dc_law_times pm_law_times an_law_times cd_law_times ct_law_times), sl_law_times⟩)
    (x_law_times : PySem.W.codeIn K cd_law_times "_law_times" = true)
    (k_law_times : PySem.W.keepIn K (.ref f_law_times) = true)
    (a_law_closed : PySem.W.nsIn K mainGlobals "_law_closed" = some (some (.ref f_law_closed)))
    (l_law_closed : K.lookup f_law_closed = some ⟨oc_law_closed, od_law_closed, .func (PySem.W.fnOf "_law_closed" "_law_closed" (defArgs d_law_closed) (defBody d_law_closed) (defScope d_law_closed) .none kV_law_closed dc_law_closed pm_law_closed an_law_closed cd_law_closed ct_law_closed), sl_law_closed⟩)
    (x_law_closed : PySem.W.codeIn K cd_law_closed "_law_closed" = true)
    (k_law_closed : PySem.W.keepIn K (.ref f_law_closed) = true)
    (a_law_small : PySem.W.nsIn K mainGlobals "_law_small" = some (some (.ref f_law_small)))
    (l_law_small : K.lookup f_law_small = some ⟨oc_law_small, od_law_small, .func (PySem.W.fnOf "_law_small" "_law_small" (defArgs d_law_small) (defBody d_law_small) (defScope d_law_small) .none kV_law_small dc_law_small pm_law_small an_law_small cd_law_small ct_law_small), sl_law_small⟩)
    (x_law_small : PySem.W.codeIn K cd_law_small "_law_small" = true)
    (k_law_small : PySem.W.keepIn K (.ref f_law_small) = true)
    (a_law_goals : PySem.W.nsIn K mainGlobals "_law_goals" = some (some (.ref f_law_goals)))
    (l_law_goals : K.lookup f_law_goals = some ⟨oc_law_goals, od_law_goals, .func (PySem.W.fnOf "_law_goals" "_law_goals" (defArgs d_law_goals) (defBody d_law_goals) (defScope d_law_goals) .none kV_law_goals dc_law_goals pm_law_goals an_law_goals cd_law_goals ct_law_goals), sl_law_goals⟩)
    (x_law_goals : PySem.W.codeIn K cd_law_goals "_law_goals" = true)
    (k_law_goals : PySem.W.keepIn K (.ref f_law_goals) = true)
    (a_law_value : PySem.W.nsIn K mainGlobals "_law_value" = some (some (.ref f_law_value)))
    (l_law_value : K.lookup f_law_value = some ⟨oc_law_value, od_law_value, .func (PySem.W.fnOf "_law_value" "_law_value" (defArgs d_law_value) (defBody d_law_value) (defScope d_law_value) .none kV_law_value dc_law_value pm_law_value an_law_value cd_law_value ct_law_value), sl_law_value⟩)
    (x_law_value : PySem.W.codeIn K cd_law_value "_law_value" = true)
    (k_law_value : PySem.W.keepIn K (.ref f_law_value) = true)
    (a_law_is_witness : PySem.W.nsIn K mainGlobals "_law_is_witness" = some (some (.ref f_law_is_witness)))
    (l_law_is_witness : K.lookup f_law_is_witness = some ⟨oc_law_is_witness, od_law_is_witness, .func (PySem.W.fnOf "_law_is_witness" "_law_is_witness" (defArgs d_law_is_witness) (defBody d_law_is_witness) (defScope d_law_is_witness) .none kV_law_is_witness dc_law_is_witness pm_law_is_witness an_law_is_witness cd_law_is_witness ct_law_is_witness), sl_law_is_witness⟩)
    (x_law_is_witness : PySem.W.codeIn K cd_law_is_witness "_law_is_witness" = true)
    (k_law_is_witness : PySem.W.keepIn K (.ref f_law_is_witness) = true)
    (a_law_due : PySem.W.nsIn K mainGlobals "_law_due" = some (some (.ref f_law_due)))
    (l_law_due : K.lookup f_law_due = some ⟨oc_law_due, od_law_due, .func (PySem.W.fnOf "_law_due" "_law_due" (defArgs d_law_due) (defBody d_law_due) (defScope d_law_due) .none kV_law_due dc_law_due pm_law_due an_law_due cd_law_due ct_law_due), sl_law_due⟩)
    (x_law_due : PySem.W.codeIn K cd_law_due "_law_due" = true)
    (k_law_due : PySem.W.keepIn K (.ref f_law_due) = true)
    (a_law_check : PySem.W.nsIn K mainGlobals "_law_check" = some (some (.ref f_law_check)))
    (l_law_check : K.lookup f_law_check = some ⟨oc_law_check, od_law_check, .func (PySem.W.fnOf "_law_check" "_law_check" (defArgs d_law_check) (defBody d_law_check) (defScope d_law_check) .none kV_law_check dc_law_check pm_law_check an_law_check cd_law_check ct_law_check), sl_law_check⟩)
    (x_law_check : PySem.W.codeIn K cd_law_check "_law_check" = true)
    (k_law_check : PySem.W.keepIn K (.ref f_law_check) = true)
    (a_law : PySem.W.nsIn K mainGlobals "law" = some (some (.ref f_law)))
    (l_law : K.lookup f_law = some ⟨oc_law, od_law, .func (PySem.W.fnOf "law" "law" (defArgs d_law) (defBody d_law) (defScope d_law) .none kV_law dc_law pm_law an_law cd_law ct_law), sl_law⟩)
    (x_law : PySem.W.codeIn K cd_law "law" = true)
    (k_law : PySem.W.keepIn K (.ref f_law) = true)
    (pg_Table : PySem.W.plainGet K c_Table Str.empty = true)
    (hd_Table : PySem.W.hasDictIn K c_Table = true)
    (po_Table : PySem.W.plainOver K c_Table = true)
    (sa_Table : PySem.W.findIn K (.ref c_Table) "__setattr__" = some (some (.builtin "object.__setattr__")))
    (mk_Table : PySem.W.makesIn K c_Table = true)
    (kc_Table : PySem.W.keepIn K (.ref c_Table) = true)
    (no_Table_sizes : PySem.W.findIn K (.ref c_Table) "_sizes" = some none)
    (ih_Table : PySem.W.findIn K (.ref c_Table) "__class__" = some (some (.builtin "object.__class__")))
    (in_Table : PySem.W.specialIn K (.builtin "object.__class__") "__get__" = some (some (.builtin "getset_descriptor.__get__")))
    (it_Table : PySem.W.takesIn K (.builtin "object.__class__") = some true)
    (im_Table : PySem.W.mroIn K c_Table (.type "object") = some true)
    (w_gcd : PySem.W.nsIn K mainGlobals "gcd" = some (some (.builtin "math.gcd")))
    (y_MAX_RINGS : PySem.W.nsIn K mainGlobals "MAX_RINGS" = some (some v_MAX_RINGS))
    (r_MAX_RINGS : RelV (.int 4) v_MAX_RINGS)
    (z_all : PySem.W.nsIn K mainGlobals "all" = some none)
    (z_bool : PySem.W.nsIn K mainGlobals "bool" = some none)
    (z_dict : PySem.W.nsIn K mainGlobals "dict" = some none)
    (z_enumerate : PySem.W.nsIn K mainGlobals "enumerate" = some none)
    (z_int : PySem.W.nsIn K mainGlobals "int" = some none)
    (z_isinstance : PySem.W.nsIn K mainGlobals "isinstance" = some none)
    (z_len : PySem.W.nsIn K mainGlobals "len" = some none)
    (z_list : PySem.W.nsIn K mainGlobals "list" = some none)
    (z_range : PySem.W.nsIn K mainGlobals "range" = some none)
    (z_reversed : PySem.W.nsIn K mainGlobals "reversed" = some none)
    (z_set : PySem.W.nsIn K mainGlobals "set" = some none)
    (z_sorted : PySem.W.nsIn K mainGlobals "sorted" = some none)
    (z_sum : PySem.W.nsIn K mainGlobals "sum" = some none)
    (z_tuple : PySem.W.nsIn K mainGlobals "tuple" = some none)
    (z_zip : PySem.W.nsIn K mainGlobals "zip" = some none)
    (ho_CX0 : Unit := ()) : ∃ fd : FuncData, (∀ (s : Shared) (v : Value), BindsTo s fd ⟨[v], []⟩ [("_law_script", v)]) ∧ ∀ base : Heap, K.In base → base.Ns mainGlobals mg → FnOk P w K mg base CX0 7 fa fd ["_law_script"] (sp_law K) := by
  have e := hfa.symm.trans (PySem.W.mg_of X G a_law)
  cases e
  have F_is_integer := fun_mk (st := d_is_integer) l_is_integer x_is_integer k_is_integer
  have b_is_integer := F_is_integer.binds (ps := ["number"]) fun _ _ _ _ _ _ us hl => match us, hl with | [_], _ => rfl
  have F_is_place := fun_mk (st := d_is_place) l_is_place x_is_place k_is_place
  have b_is_place := F_is_place.binds (ps := ["size", "place"]) fun _ _ _ _ _ _ us hl => match us, hl with | [_, _], _ => rfl
  have F_is_seat := fun_mk (st := d_is_seat) l_is_seat x_is_seat k_is_seat
  have b_is_seat := F_is_seat.binds (ps := ["sizes", "seat"]) fun _ _ _ _ _ _ us hl => match us, hl with | [_, _], _ => rfl
  have F_is_modulus := fun_mk (st := d_is_modulus) l_is_modulus x_is_modulus k_is_modulus
  have b_is_modulus := F_is_modulus.binds (ps := ["modulus"]) fun _ _ _ _ _ _ us hl => match us, hl with | [_], _ => rfl
  have F_are_weights := fun_mk (st := d_are_weights) l_are_weights x_are_weights k_are_weights
  have b_are_weights := F_are_weights.binds (ps := ["sizes", "modulus", "weights"]) fun _ _ _ _ _ _ us hl => match us, hl with | [_, _, _], _ => rfl
  have F_is_witness := fun_mk (st := d_is_witness) l_is_witness x_is_witness k_is_witness
  have b_is_witness := F_is_witness.binds (ps := ["sizes", "witness"]) fun _ _ _ _ _ _ us hl => match us, hl with | [_, _], _ => rfl
  have F_require_seat := fun_mk (st := d_require_seat) l_require_seat x_require_seat k_require_seat
  have b_require_seat := F_require_seat.binds (ps := ["sizes", "seat"]) fun _ _ _ _ _ _ us hl => match us, hl with | [_, _], _ => rfl
  have F_require_witness := fun_mk (st := d_require_witness) l_require_witness x_require_witness k_require_witness
  have b_require_witness := F_require_witness.binds (ps := ["sizes", "witness"]) fun _ _ _ _ _ _ us hl => match us, hl with | [_, _], _ => rfl
  have F_require_seats := fun_mk (st := d_require_seats) l_require_seats x_require_seats k_require_seats
  have b_require_seats := F_require_seats.binds (ps := ["sizes", "seats"]) fun _ _ _ _ _ _ us hl => match us, hl with | [_, _], _ => rfl
  have F_require_targets := fun_mk (st := d_require_targets) l_require_targets x_require_targets k_require_targets
  have b_require_targets := F_require_targets.binds (ps := ["sizes", "targets"]) fun _ _ _ _ _ _ us hl => match us, hl with | [_, _], _ => rfl
  have F_Table_init := fun_mk (st := d_Table_init) l_Table_init x_Table_init k_Table_init
  have b_Table_init := F_Table_init.binds (ps := ["self", "rings"]) fun _ _ _ _ _ _ us hl => match us, hl with | [_, _], _ => rfl
  have F_Table_sizes := fun_mk (st := d_Table_sizes) l_Table_sizes x_Table_sizes k_Table_sizes
  have b_Table_sizes := F_Table_sizes.binds (ps := ["self"]) fun _ _ _ _ _ _ us hl => match us, hl with | [_], _ => rfl
  have F_Table_count := fun_mk (st := d_Table_count) l_Table_count x_Table_count k_Table_count
  have b_Table_count := F_Table_count.binds (ps := ["self"]) fun _ _ _ _ _ _ us hl => match us, hl with | [_], _ => rfl
  have F_sizes_of := fun_mk (st := d_sizes_of) l_sizes_of x_sizes_of k_sizes_of
  have b_sizes_of := F_sizes_of.binds (ps := ["table"]) fun _ _ _ _ _ _ us hl => match us, hl with | [_], _ => rfl
  have F_are_sizes := fun_mk (st := d_are_sizes) l_are_sizes x_are_sizes k_are_sizes
  have b_are_sizes := F_are_sizes.binds (ps := ["rings"]) fun _ _ _ _ _ _ us hl => match us, hl with | [_], _ => rfl
  have F_weighted_sum := fun_mk (st := d_weighted_sum) l_weighted_sum x_weighted_sum k_weighted_sum
  have b_weighted_sum := F_weighted_sum.binds (ps := ["weights", "vector"]) fun _ _ _ _ _ _ us hl => match us, hl with | [_, _], _ => rfl
  have F_has_residue := fun_mk (st := d_has_residue) l_has_residue x_has_residue k_has_residue
  have b_has_residue := F_has_residue.binds (ps := ["witness", "seat"]) fun _ _ _ _ _ _ us hl => match us, hl with | [_, _], _ => rfl
  have F_common_divisor := fun_mk (st := d_common_divisor) l_common_divisor x_common_divisor k_common_divisor
  have b_common_divisor := F_common_divisor.binds (ps := ["modulus", "weights"]) fun _ _ _ _ _ _ us hl => match us, hl with | [_, _], _ => rfl
  have F_odd_part := fun_mk (st := d_odd_part) l_odd_part x_odd_part k_odd_part
  have b_odd_part := F_odd_part.binds (ps := ["size"]) fun _ _ _ _ _ _ us hl => match us, hl with | [_], _ => rfl
  have F_difference := fun_mk (st := d_difference) l_difference x_difference k_difference
  have b_difference := F_difference.binds (ps := ["seat", "other"]) fun _ _ _ _ _ _ us hl => match us, hl with | [_, _], _ => rfl
  have F_shift_basis := fun_mk (st := d_shift_basis) l_shift_basis x_shift_basis k_shift_basis
  have b_shift_basis := F_shift_basis.binds (ps := ["sizes", "targets"]) fun _ _ _ _ _ _ us hl => match us, hl with | [_, _], _ => rfl
  have F_pivot_product := fun_mk (st := d_pivot_product) l_pivot_product x_pivot_product k_pivot_product
  have b_pivot_product := F_pivot_product.binds (ps := ["basis"]) fun _ _ _ _ _ _ us hl => match us, hl with | [_], _ => rfl
  have F_inverse_column := fun_mk (st := d_inverse_column) l_inverse_column x_inverse_column k_inverse_column
  have b_inverse_column := F_inverse_column.binds (ps := ["basis", "modulus", "column"]) fun _ _ _ _ _ _ us hl => match us, hl with | [_, _, _], _ => rfl
  have F_diagonal := fun_mk (st := d_diagonal) l_diagonal x_diagonal k_diagonal
  have b_diagonal := F_diagonal.binds (ps := ["entries"]) fun _ _ _ _ _ _ us hl => match us, hl with | [_], _ => rfl
  have F_with_vector := fun_mk (st := d_with_vector) l_with_vector x_with_vector k_with_vector
  have b_with_vector := F_with_vector.binds (ps := ["basis", "odds", "vector"]) fun _ _ _ _ _ _ us hl => match us, hl with | [_, _, _], _ => rfl
  have F_reduced := fun_mk (st := d_reduced) l_reduced x_reduced k_reduced
  have b_reduced := F_reduced.binds (ps := ["vector", "odds"]) fun _ _ _ _ _ _ us hl => match us, hl with | [_, _], _ => rfl
  have F_coset_count := fun_mk (st := d_coset_count) l_coset_count x_coset_count k_coset_count
  have b_coset_count := F_coset_count.binds (ps := ["table", "targets"]) fun _ _ _ _ _ _ us hl => match us, hl with | [_, _], _ => rfl
  have F_reach := fun_mk (st := d_reach) l_reach x_reach k_reach
  have b_reach := F_reach.binds (ps := ["table", "targets", "seat"]) fun _ _ _ _ _ _ us hl => match us, hl with | [_, _, _], _ => rfl
  have F_check_witness := fun_mk (st := d_check_witness) l_check_witness x_check_witness k_check_witness
  have b_check_witness := F_check_witness.binds (ps := ["table", "targets", "seat", "witness"]) fun _ _ _ _ _ _ us hl => match us, hl with | [_, _, _, _], _ => rfl
  have F_short_witness := fun_mk (st := d_short_witness) l_short_witness x_short_witness k_short_witness
  have b_short_witness := F_short_witness.binds (ps := ["modulus", "weights", "target"]) fun _ _ _ _ _ _ us hl => match us, hl with | [_, _, _], _ => rfl
  have F_law_mixed := fun_mk (st := d_law_mixed) l_law_mixed x_law_mixed k_law_mixed
  have b_law_mixed := F_law_mixed.binds (ps := ["_law_cell", "_law_draw"]) fun _ _ _ _ _ _ us hl => match us, hl with | [_, _], _ => rfl
  have F_law_source := fun_mk (st := d_law_source) l_law_source x_law_source k_law_source
  have b_law_source := F_law_source.binds (ps := ["_law_cell"]) fun _ _ _ _ _ _ us hl => match us, hl with | [_], _ => rfl
  have F_law_take := fun_mk (st := d_law_take) l_law_take x_law_take k_law_take
  have b_law_take := F_law_take.binds (ps := ["_law_source_here", "_law_count"]) fun _ _ _ _ _ _ us hl => match us, hl with | [_, _], _ => rfl
  have F_law_seat := fun_mk (st := d_law_seat) l_law_seat x_law_seat k_law_seat
  have b_law_seat := F_law_seat.binds (ps := ["_law_source_here", "_law_sizes"]) fun _ _ _ _ _ _ us hl => match us, hl with | [_, _], _ => rfl
  have F_law_all := fun_mk (st := d_law_all) l_law_all x_law_all k_law_all
  have b_law_all := F_law_all.binds (ps := ["_law_sizes"]) fun _ _ _ _ _ _ us hl => match us, hl with | [_], _ => rfl
  have F_law_sum := fun_mk (st := d_law_sum) l_law_sum x_law_sum k_law_sum
  have b_law_sum := F_law_sum.binds (ps := ["_law_first", "_law_second", "_law_sizes"]) fun _ _ _ _ _ _ us hl => match us, hl with | [_, _, _], _ => rfl
  have F_law_times := fun_mk (st := d_law_times) l_law_times x_law_times k_law_times
  have b_law_times := F_law_times.binds (ps := ["_law_factor", "_law_first", "_law_sizes"]) fun _ _ _ _ _ _ us hl => match us, hl with | [_, _, _], _ => rfl
  have F_law_closed := fun_mk (st := d_law_closed) l_law_closed x_law_closed k_law_closed
  have b_law_closed := F_law_closed.binds (ps := ["_law_sizes", "_law_goals_here"]) fun _ _ _ _ _ _ us hl => match us, hl with | [_, _], _ => rfl
  have F_law_small := fun_mk (st := d_law_small) l_law_small x_law_small k_law_small
  have b_law_small := F_law_small.binds (ps := ["_law_source_here"]) fun _ _ _ _ _ _ us hl => match us, hl with | [_], _ => rfl
  have F_law_goals := fun_mk (st := d_law_goals) l_law_goals x_law_goals k_law_goals
  have b_law_goals := F_law_goals.binds (ps := ["_law_source_here", "_law_sizes"]) fun _ _ _ _ _ _ us hl => match us, hl with | [_, _], _ => rfl
  have F_law_value := fun_mk (st := d_law_value) l_law_value x_law_value k_law_value
  have b_law_value := F_law_value.binds (ps := ["_law_sheet", "_law_one"]) fun _ _ _ _ _ _ us hl => match us, hl with | [_, _], _ => rfl
  have F_law_is_witness := fun_mk (st := d_law_is_witness) l_law_is_witness x_law_is_witness k_law_is_witness
  have b_law_is_witness := F_law_is_witness.binds (ps := ["_law_sizes", "_law_sheet"]) fun _ _ _ _ _ _ us hl => match us, hl with | [_, _], _ => rfl
  have F_law_due := fun_mk (st := d_law_due) l_law_due x_law_due k_law_due
  have b_law_due := F_law_due.binds (ps := ["_law_sizes", "_law_goals_here", "_law_origin", "_law_sheet"]) fun _ _ _ _ _ _ us hl => match us, hl with | [_, _, _, _], _ => rfl
  have F_law_check := fun_mk (st := d_law_check) l_law_check x_law_check k_law_check
  have b_law_check := F_law_check.binds (ps := ["_law_source_here"]) fun _ _ _ _ _ _ us hl => match us, hl with | [_], _ => rfl
  have F_law := fun_mk (st := d_law) l_law x_law k_law
  have b_law := F_law.binds (ps := ["_law_script"]) fun _ _ _ _ _ _ us hl => match us, hl with | [_], _ => rfl
  have kb_coset_count_targets_table := kbn_of F_coset_count ["table", "targets"] 0 ["targets", "table"] (fun us ws => [ws.getD 1 Value.none, ws.getD 0 Value.none]) (fun us ws => [ws.getD 1 V.non, ws.getD 0 V.non])
    (fun _ _ _ _ _ _ us ws h1 h2 => match us, ws, h1, h2 with | [], [w0, w1], _, _ => rfl)
    (fun r1 r2 => (.cons (Vals.getD r2 1) (.cons (Vals.getD r2 0) .nil)))
  have kb_reach_seat_targets_table := kbn_of F_reach ["table", "targets", "seat"] 0 ["seat", "targets", "table"] (fun us ws => [ws.getD 2 Value.none, ws.getD 1 Value.none, ws.getD 0 Value.none]) (fun us ws => [ws.getD 2 V.non, ws.getD 1 V.non, ws.getD 0 V.non])
    (fun _ _ _ _ _ _ us ws h1 h2 => match us, ws, h1, h2 with | [], [w0, w1, w2], _, _ => rfl)
    (fun r1 r2 => (.cons (Vals.getD r2 2) (.cons (Vals.getD r2 1) (.cons (Vals.getD r2 0) .nil))))
  let T : Tx K mg := { f_is_integer := f_is_integer, fd_is_integer := _, F_is_integer := F_is_integer, b_is_integer := b_is_integer, g_is_integer := PySem.W.mg_of X G a_is_integer, f_is_place := f_is_place, fd_is_place := _, F_is_place := F_is_place, b_is_place := b_is_place, g_is_place := PySem.W.mg_of X G a_is_place, f_is_seat := f_is_seat, fd_is_seat := _, F_is_seat := F_is_seat, b_is_seat := b_is_seat, g_is_seat := PySem.W.mg_of X G a_is_seat, f_is_modulus := f_is_modulus, fd_is_modulus := _, F_is_modulus := F_is_modulus, b_is_modulus := b_is_modulus, g_is_modulus := PySem.W.mg_of X G a_is_modulus, f_are_weights := f_are_weights, fd_are_weights := _, F_are_weights := F_are_weights, b_are_weights := b_are_weights, g_are_weights := PySem.W.mg_of X G a_are_weights, f_is_witness := f_is_witness, fd_is_witness := _, F_is_witness := F_is_witness, b_is_witness := b_is_witness, g_is_witness := PySem.W.mg_of X G a_is_witness, f_require_seat := f_require_seat, fd_require_seat := _, F_require_seat := F_require_seat, b_require_seat := b_require_seat, g_require_seat := PySem.W.mg_of X G a_require_seat, f_require_witness := f_require_witness, fd_require_witness := _, F_require_witness := F_require_witness, b_require_witness := b_require_witness, g_require_witness := PySem.W.mg_of X G a_require_witness, f_require_seats := f_require_seats, fd_require_seats := _, F_require_seats := F_require_seats, b_require_seats := b_require_seats, g_require_seats := PySem.W.mg_of X G a_require_seats, f_require_targets := f_require_targets, fd_require_targets := _, F_require_targets := F_require_targets, b_require_targets := b_require_targets, g_require_targets := PySem.W.mg_of X G a_require_targets, f_Table_init := f_Table_init, fd_Table_init := _, F_Table_init := F_Table_init, b_Table_init := b_Table_init, f_Table_sizes := f_Table_sizes, fd_Table_sizes := _, F_Table_sizes := F_Table_sizes, b_Table_sizes := b_Table_sizes, f_Table_count := f_Table_count, fd_Table_count := _, F_Table_count := F_Table_count, b_Table_count := b_Table_count, f_sizes_of := f_sizes_of, fd_sizes_of := _, F_sizes_of := F_sizes_of, b_sizes_of := b_sizes_of, g_sizes_of := PySem.W.mg_of X G a_sizes_of, f_are_sizes := f_are_sizes, fd_are_sizes := _, F_are_sizes := F_are_sizes, b_are_sizes := b_are_sizes, g_are_sizes := PySem.W.mg_of X G a_are_sizes, f_weighted_sum := f_weighted_sum, fd_weighted_sum := _, F_weighted_sum := F_weighted_sum, b_weighted_sum := b_weighted_sum, g_weighted_sum := PySem.W.mg_of X G a_weighted_sum, f_has_residue := f_has_residue, fd_has_residue := _, F_has_residue := F_has_residue, b_has_residue := b_has_residue, g_has_residue := PySem.W.mg_of X G a_has_residue, f_common_divisor := f_common_divisor, fd_common_divisor := _, F_common_divisor := F_common_divisor, b_common_divisor := b_common_divisor, g_common_divisor := PySem.W.mg_of X G a_common_divisor, f_odd_part := f_odd_part, fd_odd_part := _, F_odd_part := F_odd_part, b_odd_part := b_odd_part, g_odd_part := PySem.W.mg_of X G a_odd_part, f_difference := f_difference, fd_difference := _, F_difference := F_difference, b_difference := b_difference, g_difference := PySem.W.mg_of X G a_difference, f_shift_basis := f_shift_basis, fd_shift_basis := _, F_shift_basis := F_shift_basis, b_shift_basis := b_shift_basis, g_shift_basis := PySem.W.mg_of X G a_shift_basis, f_pivot_product := f_pivot_product, fd_pivot_product := _, F_pivot_product := F_pivot_product, b_pivot_product := b_pivot_product, g_pivot_product := PySem.W.mg_of X G a_pivot_product, f_inverse_column := f_inverse_column, fd_inverse_column := _, F_inverse_column := F_inverse_column, b_inverse_column := b_inverse_column, g_inverse_column := PySem.W.mg_of X G a_inverse_column, f_diagonal := f_diagonal, fd_diagonal := _, F_diagonal := F_diagonal, b_diagonal := b_diagonal, g_diagonal := PySem.W.mg_of X G a_diagonal, f_with_vector := f_with_vector, fd_with_vector := _, F_with_vector := F_with_vector, b_with_vector := b_with_vector, g_with_vector := PySem.W.mg_of X G a_with_vector, f_reduced := f_reduced, fd_reduced := _, F_reduced := F_reduced, b_reduced := b_reduced, g_reduced := PySem.W.mg_of X G a_reduced, f_coset_count := f_coset_count, fd_coset_count := _, F_coset_count := F_coset_count, b_coset_count := b_coset_count, g_coset_count := PySem.W.mg_of X G a_coset_count, f_reach := f_reach, fd_reach := _, F_reach := F_reach, b_reach := b_reach, g_reach := PySem.W.mg_of X G a_reach, f_check_witness := f_check_witness, fd_check_witness := _, F_check_witness := F_check_witness, b_check_witness := b_check_witness, g_check_witness := PySem.W.mg_of X G a_check_witness, f_short_witness := f_short_witness, fd_short_witness := _, F_short_witness := F_short_witness, b_short_witness := b_short_witness, g_short_witness := PySem.W.mg_of X G a_short_witness, f_law_mixed := f_law_mixed, fd_law_mixed := _, F_law_mixed := F_law_mixed, b_law_mixed := b_law_mixed, g_law_mixed := PySem.W.mg_of X G a_law_mixed, f_law_source := f_law_source, fd_law_source := _, F_law_source := F_law_source, b_law_source := b_law_source, g_law_source := PySem.W.mg_of X G a_law_source, f_law_take := f_law_take, fd_law_take := _, F_law_take := F_law_take, b_law_take := b_law_take, g_law_take := PySem.W.mg_of X G a_law_take, f_law_seat := f_law_seat, fd_law_seat := _, F_law_seat := F_law_seat, b_law_seat := b_law_seat, g_law_seat := PySem.W.mg_of X G a_law_seat, f_law_all := f_law_all, fd_law_all := _, F_law_all := F_law_all, b_law_all := b_law_all, g_law_all := PySem.W.mg_of X G a_law_all, f_law_sum := f_law_sum, fd_law_sum := _, F_law_sum := F_law_sum, b_law_sum := b_law_sum, g_law_sum := PySem.W.mg_of X G a_law_sum, f_law_times := f_law_times, fd_law_times := _, F_law_times := F_law_times, b_law_times := b_law_times, g_law_times := PySem.W.mg_of X G a_law_times, f_law_closed := f_law_closed, fd_law_closed := _, F_law_closed := F_law_closed, b_law_closed := b_law_closed, g_law_closed := PySem.W.mg_of X G a_law_closed, f_law_small := f_law_small, fd_law_small := _, F_law_small := F_law_small, b_law_small := b_law_small, g_law_small := PySem.W.mg_of X G a_law_small, f_law_goals := f_law_goals, fd_law_goals := _, F_law_goals := F_law_goals, b_law_goals := b_law_goals, g_law_goals := PySem.W.mg_of X G a_law_goals, f_law_value := f_law_value, fd_law_value := _, F_law_value := F_law_value, b_law_value := b_law_value, g_law_value := PySem.W.mg_of X G a_law_value, f_law_is_witness := f_law_is_witness, fd_law_is_witness := _, F_law_is_witness := F_law_is_witness, b_law_is_witness := b_law_is_witness, g_law_is_witness := PySem.W.mg_of X G a_law_is_witness, f_law_due := f_law_due, fd_law_due := _, F_law_due := F_law_due, b_law_due := b_law_due, g_law_due := PySem.W.mg_of X G a_law_due, f_law_check := f_law_check, fd_law_check := _, F_law_check := F_law_check, b_law_check := b_law_check, g_law_check := PySem.W.mg_of X G a_law_check, f_law := fa, fd_law := _, F_law := F_law, b_law := b_law, g_law := PySem.W.mg_of X G a_law, c_Table := c_Table, g_Table := PySem.W.mg_of X G ac_Table, cl_Table := ⟨pg_Table, hd_Table, po_Table, sa_Table⟩, M_Table := ⟨mk_Table, a_Table_init, i_Table_init, kc_Table⟩, m_Table_sizes := ⟨a_Table_sizes, i_Table_sizes, k_Table_sizes⟩, m_Table_count := ⟨a_Table_count, i_Table_count, k_Table_count⟩, no_Table_sizes := no_Table_sizes, ins_Table := ⟨⟨pg_Table, hd_Table, po_Table, sa_Table⟩, ih_Table, in_Table, it_Table, im_Table, kit_self _ _⟩, kb_coset_count_targets_table := kb_coset_count_targets_table, kb_reach_seat_targets_table := kb_reach_seat_targets_table, b_gcd := PySem.W.mg_of X G w_gcd, v_MAX_RINGS := _, g_MAX_RINGS := PySem.W.mg_of X G y_MAX_RINGS, r_MAX_RINGS := r_MAX_RINGS, n_all := PySem.W.mg_none_of X G z_all, n_bool := PySem.W.mg_none_of X G z_bool, n_dict := PySem.W.mg_none_of X G z_dict, n_enumerate := PySem.W.mg_none_of X G z_enumerate, n_int := PySem.W.mg_none_of X G z_int, n_isinstance := PySem.W.mg_none_of X G z_isinstance, n_len := PySem.W.mg_none_of X G z_len, n_list := PySem.W.mg_none_of X G z_list, n_range := PySem.W.mg_none_of X G z_range, n_reversed := PySem.W.mg_none_of X G z_reversed, n_set := PySem.W.mg_none_of X G z_set, n_sorted := PySem.W.mg_none_of X G z_sorted, n_sum := PySem.W.mg_none_of X G z_sum, n_tuple := PySem.W.mg_none_of X G z_tuple, n_zip := PySem.W.mg_none_of X G z_zip }
  exact ⟨PySem.W.fnOf "law" "law" (defArgs d_law) (defBody d_law) (defScope d_law) .none kV_law dc_law pm_law an_law cd_law ct_law, fun s v => .of_eq rfl, fun base _ _ => ok_law (P := P) (w := w) (base := base) T⟩
end Lw
open PySem PySem.W PyProof.Rows in
set_option maxHeartbeats 0 in
theorem PySem.Challenge.cw_calledseats_k10_reachability_on_small_ta_holds : PySem.Challenge.rw_calledseats_k10_reachability_on_small_ta.Holds := by
  w_on; o_law; k_head; (case hw => w_witness2)
  k_fill
  refine L2.walk_ofB (l := PySem.Challenge.rw_calledseats_k10_reachability_on_small_ta) (n := 63) (k := 7) (x := "_law_script") (CX := fun _ => L2.CX0) (sp := fun w => Lw.sp_law _) rfl (by decide) rfl ⟨rfl, by decide, by decide⟩ (fun w h Y => PySem.W.kIn_of Y) ?F (fun _ _ a ns hl hb _ hS => ⟨a, ns, rfl, hS, hl, hb, fun _ => rfl⟩) (fun _ _ _ _ _ h => h)
  case F =>
    intro w mg fa h KX G hmg
    refine' Lw.all_mk KX G hmg ?ac_Table ?a_is_integer ?l_is_integer ?x_is_integer ?k_is_integer ?a_is_place ?l_is_place ?x_is_place ?k_is_place ?a_is_seat ?l_is_seat ?x_is_seat ?k_is_seat ?a_is_modulus ?l_is_modulus ?x_is_modulus ?k_is_modulus ?a_are_weights ?l_are_weights ?x_are_weights ?k_are_weights ?a_is_witness ?l_is_witness ?x_is_witness ?k_is_witness ?a_require_seat ?l_require_seat ?x_require_seat ?k_require_seat ?a_require_witness ?l_require_witness ?x_require_witness ?k_require_witness ?a_require_seats ?l_require_seats ?x_require_seats ?k_require_seats ?a_require_targets ?l_require_targets ?x_require_targets ?k_require_targets ?a_Table_init ?i_Table_init ?l_Table_init ?x_Table_init ?k_Table_init ?a_Table_sizes ?i_Table_sizes ?l_Table_sizes ?x_Table_sizes ?k_Table_sizes ?a_Table_count ?i_Table_count ?l_Table_count ?x_Table_count ?k_Table_count ?a_sizes_of ?l_sizes_of ?x_sizes_of ?k_sizes_of ?a_are_sizes ?l_are_sizes ?x_are_sizes ?k_are_sizes ?a_weighted_sum ?l_weighted_sum ?x_weighted_sum ?k_weighted_sum ?a_has_residue ?l_has_residue ?x_has_residue ?k_has_residue ?a_common_divisor ?l_common_divisor ?x_common_divisor ?k_common_divisor ?a_odd_part ?l_odd_part ?x_odd_part ?k_odd_part ?a_difference ?l_difference ?x_difference ?k_difference ?a_shift_basis ?l_shift_basis ?x_shift_basis ?k_shift_basis ?a_pivot_product ?l_pivot_product ?x_pivot_product ?k_pivot_product ?a_inverse_column ?l_inverse_column ?x_inverse_column ?k_inverse_column ?a_diagonal ?l_diagonal ?x_diagonal ?k_diagonal ?a_with_vector ?l_with_vector ?x_with_vector ?k_with_vector ?a_reduced ?l_reduced ?x_reduced ?k_reduced ?a_coset_count ?l_coset_count ?x_coset_count ?k_coset_count ?a_reach ?l_reach ?x_reach ?k_reach ?a_check_witness ?l_check_witness ?x_check_witness ?k_check_witness ?a_short_witness ?l_short_witness ?x_short_witness ?k_short_witness ?a_law_mixed ?l_law_mixed ?x_law_mixed ?k_law_mixed ?a_law_source ?l_law_source ?x_law_source ?k_law_source ?a_law_take ?l_law_take ?x_law_take ?k_law_take ?a_law_seat ?l_law_seat ?x_law_seat ?k_law_seat ?a_law_all ?l_law_all ?x_law_all ?k_law_all ?a_law_sum ?l_law_sum ?x_law_sum ?k_law_sum ?a_law_times ?l_law_times ?x_law_times ?k_law_times ?a_law_closed ?l_law_closed ?x_law_closed ?k_law_closed ?a_law_small ?l_law_small ?x_law_small ?k_law_small ?a_law_goals ?l_law_goals ?x_law_goals ?k_law_goals ?a_law_value ?l_law_value ?x_law_value ?k_law_value ?a_law_is_witness ?l_law_is_witness ?x_law_is_witness ?k_law_is_witness ?a_law_due ?l_law_due ?x_law_due ?k_law_due ?a_law_check ?l_law_check ?x_law_check ?k_law_check ?a_law ?l_law ?x_law ?k_law ?pg_Table ?hd_Table ?po_Table ?sa_Table ?mk_Table ?kc_Table ?no_Table_sizes ?ih_Table ?in_Table ?it_Table ?im_Table ?w_gcd ?y_MAX_RINGS ?r_MAX_RINGS ?z_all ?z_bool ?z_dict ?z_enumerate ?z_int ?z_isinstance ?z_len ?z_list ?z_range ?z_reversed ?z_set ?z_sorted ?z_sum ?z_tuple ?z_zip
    (case ac_Table => k_is)
    (case a_is_integer => k_is)
    (case l_is_integer => k_is)
    (case x_is_integer => k_is)
    (case k_is_integer => k_is)
    (case a_is_place => k_is)
    (case l_is_place => k_is)
    (case x_is_place => k_is)
    (case k_is_place => k_is)
    (case a_is_seat => k_is)
    (case l_is_seat => k_is)
    (case x_is_seat => k_is)
    (case k_is_seat => k_is)
    (case a_is_modulus => k_is)
    (case l_is_modulus => k_is)
    (case x_is_modulus => k_is)
    (case k_is_modulus => k_is)
    (case a_are_weights => k_is)
    (case l_are_weights => k_is)
    (case x_are_weights => k_is)
    (case k_are_weights => k_is)
    (case a_is_witness => k_is)
    (case l_is_witness => k_is)
    (case x_is_witness => k_is)
    (case k_is_witness => k_is)
    (case a_require_seat => k_is)
    (case l_require_seat => k_is)
    (case x_require_seat => k_is)
    (case k_require_seat => k_is)
    (case a_require_witness => k_is)
    (case l_require_witness => k_is)
    (case x_require_witness => k_is)
    (case k_require_witness => k_is)
    (case a_require_seats => k_is)
    (case l_require_seats => k_is)
    (case x_require_seats => k_is)
    (case k_require_seats => k_is)
    (case a_require_targets => k_is)
    (case l_require_targets => k_is)
    (case x_require_targets => k_is)
    (case k_require_targets => k_is)
    (case a_Table_init => k_is)
    (case i_Table_init => k_is)
    (case l_Table_init => k_is)
    (case x_Table_init => k_is)
    (case k_Table_init => k_is)
    (case a_Table_sizes => k_is)
    (case i_Table_sizes => k_is)
    (case l_Table_sizes => k_is)
    (case x_Table_sizes => k_is)
    (case k_Table_sizes => k_is)
    (case a_Table_count => k_is)
    (case i_Table_count => k_is)
    (case l_Table_count => k_is)
    (case x_Table_count => k_is)
    (case k_Table_count => k_is)
    (case a_sizes_of => k_is)
    (case l_sizes_of => k_is)
    (case x_sizes_of => k_is)
    (case k_sizes_of => k_is)
    (case a_are_sizes => k_is)
    (case l_are_sizes => k_is)
    (case x_are_sizes => k_is)
    (case k_are_sizes => k_is)
    (case a_weighted_sum => k_is)
    (case l_weighted_sum => k_is)
    (case x_weighted_sum => k_is)
    (case k_weighted_sum => k_is)
    (case a_has_residue => k_is)
    (case l_has_residue => k_is)
    (case x_has_residue => k_is)
    (case k_has_residue => k_is)
    (case a_common_divisor => k_is)
    (case l_common_divisor => k_is)
    (case x_common_divisor => k_is)
    (case k_common_divisor => k_is)
    (case a_odd_part => k_is)
    (case l_odd_part => k_is)
    (case x_odd_part => k_is)
    (case k_odd_part => k_is)
    (case a_difference => k_is)
    (case l_difference => k_is)
    (case x_difference => k_is)
    (case k_difference => k_is)
    (case a_shift_basis => k_is)
    (case l_shift_basis => k_is)
    (case x_shift_basis => k_is)
    (case k_shift_basis => k_is)
    (case a_pivot_product => k_is)
    (case l_pivot_product => k_is)
    (case x_pivot_product => k_is)
    (case k_pivot_product => k_is)
    (case a_inverse_column => k_is)
    (case l_inverse_column => k_is)
    (case x_inverse_column => k_is)
    (case k_inverse_column => k_is)
    (case a_diagonal => k_is)
    (case l_diagonal => k_is)
    (case x_diagonal => k_is)
    (case k_diagonal => k_is)
    (case a_with_vector => k_is)
    (case l_with_vector => k_is)
    (case x_with_vector => k_is)
    (case k_with_vector => k_is)
    (case a_reduced => k_is)
    (case l_reduced => k_is)
    (case x_reduced => k_is)
    (case k_reduced => k_is)
    (case a_coset_count => k_is)
    (case l_coset_count => k_is)
    (case x_coset_count => k_is)
    (case k_coset_count => k_is)
    (case a_reach => k_is)
    (case l_reach => k_is)
    (case x_reach => k_is)
    (case k_reach => k_is)
    (case a_check_witness => k_is)
    (case l_check_witness => k_is)
    (case x_check_witness => k_is)
    (case k_check_witness => k_is)
    (case a_short_witness => k_is)
    (case l_short_witness => k_is)
    (case x_short_witness => k_is)
    (case k_short_witness => k_is)
    (case a_law_mixed => k_is)
    (case l_law_mixed => k_is)
    (case x_law_mixed => k_is)
    (case k_law_mixed => k_is)
    (case a_law_source => k_is)
    (case l_law_source => k_is)
    (case x_law_source => k_is)
    (case k_law_source => k_is)
    (case a_law_take => k_is)
    (case l_law_take => k_is)
    (case x_law_take => k_is)
    (case k_law_take => k_is)
    (case a_law_seat => k_is)
    (case l_law_seat => k_is)
    (case x_law_seat => k_is)
    (case k_law_seat => k_is)
    (case a_law_all => k_is)
    (case l_law_all => k_is)
    (case x_law_all => k_is)
    (case k_law_all => k_is)
    (case a_law_sum => k_is)
    (case l_law_sum => k_is)
    (case x_law_sum => k_is)
    (case k_law_sum => k_is)
    (case a_law_times => k_is)
    (case l_law_times => k_is)
    (case x_law_times => k_is)
    (case k_law_times => k_is)
    (case a_law_closed => k_is)
    (case l_law_closed => k_is)
    (case x_law_closed => k_is)
    (case k_law_closed => k_is)
    (case a_law_small => k_is)
    (case l_law_small => k_is)
    (case x_law_small => k_is)
    (case k_law_small => k_is)
    (case a_law_goals => k_is)
    (case l_law_goals => k_is)
    (case x_law_goals => k_is)
    (case k_law_goals => k_is)
    (case a_law_value => k_is)
    (case l_law_value => k_is)
    (case x_law_value => k_is)
    (case k_law_value => k_is)
    (case a_law_is_witness => k_is)
    (case l_law_is_witness => k_is)
    (case x_law_is_witness => k_is)
    (case k_law_is_witness => k_is)
    (case a_law_due => k_is)
    (case l_law_due => k_is)
    (case x_law_due => k_is)
    (case k_law_due => k_is)
    (case a_law_check => k_is)
    (case l_law_check => k_is)
    (case x_law_check => k_is)
    (case k_law_check => k_is)
    (case a_law => k_is)
    (case l_law => k_is)
    (case x_law => k_is)
    (case k_law => k_is)
    (case pg_Table => k_is)
    (case hd_Table => k_is)
    (case po_Table => k_is)
    (case sa_Table => k_is)
    (case mk_Table => k_is)
    (case kc_Table => k_is)
    (case no_Table_sizes => k_is)
    (case ih_Table => k_is)
    (case in_Table => k_is)
    (case it_Table => k_is)
    (case im_Table => k_is)
    (case w_gcd => k_is)
    (case y_MAX_RINGS => k_is)
    (case r_MAX_RINGS => exact ⟨_, rfl⟩)
    (case z_all => k_is)
    (case z_bool => k_is)
    (case z_dict => k_is)
    (case z_enumerate => k_is)
    (case z_int => k_is)
    (case z_isinstance => k_is)
    (case z_len => k_is)
    (case z_list => k_is)
    (case z_range => k_is)
    (case z_reversed => k_is)
    (case z_set => k_is)
    (case z_sorted => k_is)
    (case z_sum => k_is)
    (case z_tuple => k_is)
    (case z_zip => k_is)
