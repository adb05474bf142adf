import PyProof.Rows.All
import Wide.All
import OpenK.AllK
import Wide.FinOn
import HandS.ForMost
import HandS.Walk
import HandS.IsInst
import HandS.Wide
import HandS.EndBits
import KE.GoesNew
import KE.GoesMore
import HandS.Defaults
import HandS.MakeKwOnly
import HandS.Codes
import HandS.Gcd
import HandS.Star
import HandS.Deep
import HandS.TupMul
import HandS.TupAny
import HandS.Style
import HandS.TupSets
import HandS.Strs
import KE.GoesEnum
import HandS.RevRange
import HandS.WideBits
import HandS.SetFor
import KE.KStateDown
import HandS.Base
import HandS.Call
import HandS.Ends
import HandS.More
import HandS.Words
import HandS.Head0
import HandS.Head1
import HandS.Head2
import HandS.Head3
import HandS.HeadEnd
import HandS.HeadHook1
import PySem.Challenge.RW_calledseats_k37_whole_games_transformed
set_option Elab.async false
set_option linter.all false
set_option maxRecDepth 100000
set_option maxHeartbeats 4000000
namespace Cs
open PySem PySem.Spec PyProof.Rows L2

/-! ### a list or a tuple -/
def Sqk (K : PySem.W.Frag) (k : Bool) (H : Hp) (a : Addr) (xs : List V) : Prop := match k with
  | true => SqL K H a xs
  | false => SqT K H a xs
def SeqK (k : Bool) (h : Heap) (a : Addr) (its : Array Value) : Prop := match k with
  | true => h.IsList a its
  | false => h.IsTuple a its
def ItK (k : Bool) (h : Heap) (it a : Addr) (i : Nat) : Prop := match k with
  | true => h.IsListIter it a i
  | false => h.IsTupleIter it a i
def itO (k : Bool) (a : Addr) : Obj := match k with
  | true => { cls := .type "list_iterator", data := .fields #[.ref a, .int 0 0] }
  | false => { cls := .type "tuple_iterator", data := .fields #[.ref a, .int 0 0] }
theorem ItK.at {k : Bool} {h h' : Heap} {it a : Addr} {i : Nat} (x : ItK k h it a i) (q : ∀ o, h.get? it = some o → h'.get? it = some o) : ItK k h' it a i := by
  cases k with
  | true => exact PySem.Heap.IsListIter.at x q
  | false => exact PySem.Heap.IsTupleIter.at x q
theorem ItK.obj {k : Bool} {h : Heap} {it a : Addr} {i : Nat} (x : ItK k h it a i) : ∃ o, h.get? it = some o ∧ ∀ v, o.data ≠ .cell v := by
  cases k with
  | true => obtain ⟨o, e, _, d⟩ := x; exact ⟨o, e, fun v q => by rw [d] at q; cases q⟩
  | false => obtain ⟨o, e, _, d⟩ := x; exact ⟨o, e, fun v q => by rw [d] at q; cases q⟩
theorem ItK.new {k : Bool} {h : Heap} {it a : Addr} (e : h.get? it = some (itO k a)) : ItK k h it a 0 := by
  cases k with
  | true => exact ⟨_, e, rfl, rfl⟩
  | false => exact ⟨_, e, rfl, rfl⟩
theorem drawsK {prog : Program} {w : World} {A : Around} (hh : A.handled = none) (k : Bool) (it l : Addr) (hne : l ≠ it) (items : Array Value) :
    Draws prog w A it [it, l] items.size (fun i v => items[i]? = some v) (fun i h => ItK k h it l i ∧ SeqK k h l items) := by
  cases k with
  | true => exact Draws.list hh it l hne items
  | false => exact Draws.tuple hh it l hne items
theorem begK (k : Bool) (a : Addr) (its : Array Value) : Begins (.ref a) (itO k a) fun h => SeqK k h a its := by
  cases k with
  | true => exact begins_list a its
  | false => exact begins_tuple a its
section
variable {X : Cx} {pins : List (Addr × Obj)} {σ : L2.St} {H : Hp} {s : Shared} {k : Bool} {a : Addr} {xs ys : List V}
theorem invK (I : Inv X pins σ H s) (h : Sqk X.K k H a xs) : ∃ its : List Value, Vals xs its ∧ SeqK k s.heap a its.toArray := by
  cases k with
  | true => obtain ⟨its, rv, p, _⟩ := I.list h; exact ⟨its, rv, p.isList⟩
  | false => obtain ⟨its, rv, p, _⟩ := I.tuple h; exact ⟨its, rv, p⟩
theorem injK (I : Inv X pins σ H s) (h : Sqk X.K k H a xs) (h' : Sqk X.K k H a ys) : xs = ys := by
  cases k with
  | true => exact I.list_inj h h'
  | false => exact I.tuple_inj h h'
theorem SeqK.lt {h : Heap} {its : Array Value} (x : SeqK k h a its) : a < h.objs.size := by
  cases k with
  | true => obtain ⟨o, e, _⟩ := x; exact Heap.lt_size e
  | false => obtain ⟨o, e, _⟩ := x; exact Heap.lt_size e
end
theorem Sqk.same {K : PySem.W.Frag} {k : Bool} {H H' : Hp} {a : Addr} {xs : List V} (e : Same H H') (h : Sqk K k H a xs) : Sqk K k H' a xs := by
  cases k with
  | true => exact e.seq h
  | false =>
    rcases h with (h | ⟨o, h⟩) | h
    · exact .inl (.inl (e _ _ h))
    · exact .inl (.inr ⟨o, e _ _ h⟩)
    · exact .inr h

/-! ### for a, b in zip(x, y), x and y lists or tuples -/
def Iz2 (K : PySem.W.Frag) (k1 k2 : Bool) (a b : Addr) : It :=
  ⟨fun i H => ∃ (xs ys : List V) (x y : V), Sqk K k1 H a xs ∧ Sqk K k2 H b ys ∧ xs[i]? = some x ∧ ys[i]? = some y,
    fun i H v H' => ∃ T x y, v = .ref T ∧ H T = none ∧ H' = upd H T (.tup [x, y]) ∧ (∀ xs, Sqk K k1 H a xs → xs[i]? = some x) ∧ ∀ ys, Sqk K k2 H b ys → ys[i]? = some y,
    fun i H => ∃ xs ys : List V, Sqk K k1 H a xs ∧ Sqk K k2 H b ys ∧ xs.length = ys.length ∧ xs.length = i⟩
def Iz3 (K : PySem.W.Frag) (k1 k2 k3 : Bool) (a b c : Addr) : It :=
  ⟨fun i H => ∃ (xs ys zs : List V) (x y z : V), Sqk K k1 H a xs ∧ Sqk K k2 H b ys ∧ Sqk K k3 H c zs ∧ xs[i]? = some x ∧ ys[i]? = some y ∧ zs[i]? = some z,
    fun i H v H' => ∃ T x y z, v = .ref T ∧ H T = none ∧ H' = upd H T (.tup [x, y, z]) ∧ (∀ xs, Sqk K k1 H a xs → xs[i]? = some x) ∧ (∀ ys, Sqk K k2 H b ys → ys[i]? = some y) ∧ ∀ zs, Sqk K k3 H c zs → zs[i]? = some z,
    fun i H => ∃ xs ys zs : List V, Sqk K k1 H a xs ∧ Sqk K k2 H b ys ∧ Sqk K k3 H c zs ∧ xs.length = ys.length ∧ ys.length = zs.length ∧ xs.length = i⟩

theorem turn_z2 {P : Program} {w : World} {K : PySem.W.Frag} {elts : List Expr} {kk : Nat} {tpos : Pos} {k1 k2 : Bool} {a b z TI TO i1 i2 : Addr} (S : ZipSep2 z TI TO i1 i2 [i1, a] [i2, b]) (n1 : a ≠ i1) (n2 : b ≠ i2) :
    Turn P w K (.Tuple elts kk tpos) (Iz2 K k1 k2 a b) [z, TI, TO, i1, i2] z (fun i h => IsZip h z TI TO .none ∧ IsTupOf2 h TI (.ref i1) (.ref i2) ∧ (∃ x y, IsTupOf2 h TO x y) ∧ ItK k1 h i1 a i ∧ ItK k2 h i2 b i) where
  mem := by simp
  obj := fun i h st c hc => by
    obtain ⟨hz, hTI, ⟨x, y, hTO⟩, h1, h2⟩ := st
    have e' : c = z ∨ c = TI ∨ c = TO ∨ c = i1 ∨ c = i2 := by simpa using hc
    rcases e' with q | q | q | q | q
    · rw [q]; exact ⟨_, hz, fun v q => nomatch q⟩
    · rw [q]; exact ⟨_, hTI, fun v q => nomatch q⟩
    · rw [q]; exact ⟨_, hTO, fun v q => nomatch q⟩
    · rw [q]; exact h1.obj
    · rw [q]; exact h2.obj
  keep := fun i h h' st k => by
    obtain ⟨hz, hTI, ⟨x, y, hTO⟩, h1, h2⟩ := st
    exact ⟨k z (by simp) _ hz, k TI (by simp) _ hTI, ⟨x, y, k TO (by simp) _ hTO⟩, h1.at fun o q => k i1 (by simp) o q, h2.at fun o q => k i2 (by simp) o q⟩
  item := by
    intro X hP hw hK hc i pins s σ H E I hf st hg
    subst hP hw hK
    obtain ⟨xs, ys, x, y, hqx, hqy, hx, hy⟩ := hg
    obtain ⟨its, rv, p⟩ := invK I hqx
    obtain ⟨its2, rv2, p2⟩ := invK I hqy
    obtain ⟨u, hu, ru⟩ := rv.get hx
    obtain ⟨u2, hu2, ru2⟩ := rv2.get hy
    have hh : X.A.handled = none := I.ok.hd hc
    have D1 := drawsK (prog := X.prog) (w := X.w) (A := X.A.in1) hh k1 i1 a n1 its.toArray
    have D2 := drawsK (prog := X.prog) (w := X.w) (A := X.A.in1) hh k2 i2 b n2 its2.toArray
    have l1 : i < its.length := (List.getElem?_eq_some_iff.mp hu).1
    have l2 : i < its2.length := (List.getElem?_eq_some_iff.mp hu2).1
    have W := GoesN.zip2 (elts := elts) (x1 := kk) (pos := tpos) S D1 D2
    refine W.goes i s (fun v s2 => ∃ x H', Inv X pins σ H' s2 ∧ RelV x v ∧ (Iz2 X.K k1 k2 a b).yld i H x H' ∧ (IsZip s2.heap z TI TO .none ∧ IsTupOf2 s2.heap TI (.ref i1) (.ref i2) ∧ (∃ x y, IsTupOf2 s2.heap TO x y) ∧ ItK k1 s2.heap i1 a (i + 1) ∧ ItK k2 s2.heap i2 b (i + 1)) ∧ ∀ b ∈ [z, TI, TO, i1, i2], H' b = none) E (by simp only [List.size_toArray]; omega) ⟨st.1, st.2.1, st.2.2.1, ⟨st.2.2.2.1, p⟩, st.2.2.2.2, p2⟩ fun v h' tk hY st' hk htk => ?_
    obtain ⟨T, v1, v2, rfl, hT, e1, e2, hTu⟩ := hY
    have q1 : v1 = u := by
      have e1' : its[i]? = some v1 := by simpa using e1
      rw [hu] at e1'; exact (Option.some.inj e1').symm
    have q2 : v2 = u2 := by
      have e2' : its2[i]? = some v2 := by simpa using e2
      rw [hu2] at e2'; exact (Option.some.inj e2').symm
    subst q1 q2
    have new : ObjOk X.prog X.w (upd H T (.tup [x, y])) h' T (.tup [x, y]) :=
      ⟨by show 2 ≤ sizeLine; decide, [v1, v2], .cons ru (.cons ru2 .nil), hTu⟩
    have I1 : Inv X pins σ (upd H T (.tup [x, y])) { s with heap := h', toks := tk } :=
      I.turnedNew (t' := tk) (ch := [z, TI, TO, i1, i2]) (fun c o hb q => hk c o (fun hm => hb (by
        simp only [List.mem_cons, List.mem_nil_iff, or_false] at hm ⊢
        rcases hm with q | q | q | q <;> simp [q])) q) hf hT new
    refine ⟨.ref T, _, I1, rfl, ⟨T, x, y, rfl, I.hok.fresh hT, rfl, fun l hl => by rw [injK I hl hqx]; exact hx, fun l hl => by rw [injK I hl hqy]; exact hy⟩, ⟨st'.1, st'.2.1, st'.2.2.1, st'.2.2.2.1.1, st'.2.2.2.2.1⟩, fun c hcm => ?_⟩
    have hlt : c < s.heap.objs.size := by
      obtain ⟨hz, hTI, ⟨x0, y0, hTO⟩, h1, h2⟩ := st
      have e' : c = z ∨ c = TI ∨ c = TO ∨ c = i1 ∨ c = i2 := by simpa using hcm
      rcases e' with q | q | q | q | q
      · rw [q]; exact Heap.lt_size hz
      · rw [q]; exact Heap.lt_size hTI
      · rw [q]; exact Heap.lt_size hTO
      · rw [q]; obtain ⟨_, e1, _⟩ := h1.obj; exact Heap.lt_size e1
      · rw [q]; obtain ⟨_, e2, _⟩ := h2.obj; exact Heap.lt_size e2
    rw [upd_ne (Nat.ne_of_lt (Nat.lt_of_lt_of_le hlt hT))]
    exact (hf c hcm).1
  done := by
    intro X hP hw hK hc i pins s σ H E I hf st hg
    subst hP hw hK
    obtain ⟨xs, ys, hqx, hqy, hl, hi⟩ := hg
    obtain ⟨its, rv, p⟩ := invK I hqx
    obtain ⟨its2, rv2, p2⟩ := invK I hqy
    have hh : X.A.handled = none := I.ok.hd hc
    have D1 := drawsK (prog := X.prog) (w := X.w) (A := X.A.in1) hh k1 i1 a n1 its.toArray
    have D2 := drawsK (prog := X.prog) (w := X.w) (A := X.A.in1) hh k2 i2 b n2 its2.toArray
    have W := GoesN.zip2 (elts := elts) (x1 := kk) (pos := tpos) S D1 D2
    have l1 := rv.length
    have l2 := rv2.length
    have en : min its.toArray.size its2.toArray.size = i := by simp only [List.size_toArray]; omega
    have st2 : (IsZip s.heap z TI TO .none ∧ IsTupOf2 s.heap TI (.ref i1) (.ref i2) ∧ (∃ a1 a2, IsTupOf2 s.heap TO a1 a2) ∧ (ItK k1 s.heap i1 a (min its.toArray.size its2.toArray.size) ∧ SeqK k1 s.heap a its.toArray) ∧ ItK k2 s.heap i2 b (min its.toArray.size its2.toArray.size) ∧ SeqK k2 s.heap b its2.toArray) := by
      rw [en]
      exact ⟨st.1, st.2.1, st.2.2.1, ⟨st.2.2.2.1, p⟩, st.2.2.2.2, p2⟩
    refine W.stops s (fun s1 => Inv X pins σ H s1) E st2 fun h' tk hk htk => ?_
    exact I.turnedL (t' := tk) (ch := [z, TI, TO, i1, i2]) (fun c o hb q => hk c o (fun hm => hb (by
        simp only [List.mem_cons, List.mem_nil_iff, or_false] at hm ⊢
        rcases hm with q | q | q | q <;> simp [q])) q) hf
  self := fun A i s Q E st h => wpAny_pyIter_zip st.1 h

theorem turn_z3 {P : Program} {w : World} {K : PySem.W.Frag} {elts : List Expr} {kk : Nat} {tpos : Pos} {k1 k2 k3 : Bool} {a b c z TI TO i1 i2 i3 : Addr} (S : ZipSep3 z TI TO i1 i2 i3 [i1, a] [i2, b] [i3, c]) (n1 : a ≠ i1) (n2 : b ≠ i2) (n3 : c ≠ i3) :
    Turn P w K (.Tuple elts kk tpos) (Iz3 K k1 k2 k3 a b c) [z, TI, TO, i1, i2, i3] z (fun i h => IsZip h z TI TO .none ∧ IsTupOf3 h TI (.ref i1) (.ref i2) (.ref i3) ∧ (∃ x y v, IsTupOf3 h TO x y v) ∧ ItK k1 h i1 a i ∧ ItK k2 h i2 b i ∧ ItK k3 h i3 c i) where
  mem := by simp
  obj := fun i h st c hc => by
    obtain ⟨hz, hTI, ⟨x, y, v, hTO⟩, h1, h2, h3⟩ := st
    have e' : c = z ∨ c = TI ∨ c = TO ∨ c = i1 ∨ c = i2 ∨ c = i3 := by simpa using hc
    rcases e' with q | q | q | q | q | q
    · rw [q]; exact ⟨_, hz, fun v q => nomatch q⟩
    · rw [q]; exact ⟨_, hTI, fun v q => nomatch q⟩
    · rw [q]; exact ⟨_, hTO, fun v q => nomatch q⟩
    · rw [q]; exact h1.obj
    · rw [q]; exact h2.obj
    · rw [q]; exact h3.obj
  keep := fun i h h' st k => by
    obtain ⟨hz, hTI, ⟨x, y, v, hTO⟩, h1, h2, h3⟩ := st
    exact ⟨k z (by simp) _ hz, k TI (by simp) _ hTI, ⟨x, y, v, k TO (by simp) _ hTO⟩, h1.at fun o q => k i1 (by simp) o q, h2.at fun o q => k i2 (by simp) o q, h3.at fun o q => k i3 (by simp) o q⟩
  item := by
    intro X hP hw hK hc i pins s σ H E I hf st hg
    subst hP hw hK
    obtain ⟨xs, ys, zs, x, y, v, hqx, hqy, hqz, hx, hy, hz⟩ := hg
    obtain ⟨its, rv, p⟩ := invK I hqx
    obtain ⟨its2, rv2, p2⟩ := invK I hqy
    obtain ⟨its3, rv3, p3⟩ := invK I hqz
    obtain ⟨u, hu, ru⟩ := rv.get hx
    obtain ⟨u2, hu2, ru2⟩ := rv2.get hy
    obtain ⟨u3, hu3, ru3⟩ := rv3.get hz
    have hh : X.A.handled = none := I.ok.hd hc
    have D1 := drawsK (prog := X.prog) (w := X.w) (A := X.A.in1) hh k1 i1 a n1 its.toArray
    have D2 := drawsK (prog := X.prog) (w := X.w) (A := X.A.in1) hh k2 i2 b n2 its2.toArray
    have D3 := drawsK (prog := X.prog) (w := X.w) (A := X.A.in1) hh k3 i3 c n3 its3.toArray
    have l1 : i < its.length := (List.getElem?_eq_some_iff.mp hu).1
    have l2 : i < its2.length := (List.getElem?_eq_some_iff.mp hu2).1
    have l3 : i < its3.length := (List.getElem?_eq_some_iff.mp hu3).1
    have W := GoesN.zip3 (elts := elts) (x1 := kk) (pos := tpos) S D1 D2 D3
    refine W.goes i s (fun v s2 => ∃ x H', Inv X pins σ H' s2 ∧ RelV x v ∧ (Iz3 X.K k1 k2 k3 a b c).yld i H x H' ∧ (IsZip s2.heap z TI TO .none ∧ IsTupOf3 s2.heap TI (.ref i1) (.ref i2) (.ref i3) ∧ (∃ x y v, IsTupOf3 s2.heap TO x y v) ∧ ItK k1 s2.heap i1 a (i + 1) ∧ ItK k2 s2.heap i2 b (i + 1) ∧ ItK k3 s2.heap i3 c (i + 1)) ∧ ∀ b ∈ [z, TI, TO, i1, i2, i3], H' b = none) E (by simp only [List.size_toArray]; omega) ⟨st.1, st.2.1, st.2.2.1, ⟨st.2.2.2.1, p⟩, ⟨st.2.2.2.2.1, p2⟩, st.2.2.2.2.2, p3⟩ fun v h' tk hY st' hk htk => ?_
    obtain ⟨T, v1, v2, v3, rfl, hT, e1, e2, e3, hTu⟩ := hY
    have q1 : v1 = u := by
      have e1' : its[i]? = some v1 := by simpa using e1
      rw [hu] at e1'; exact (Option.some.inj e1').symm
    have q2 : v2 = u2 := by
      have e2' : its2[i]? = some v2 := by simpa using e2
      rw [hu2] at e2'; exact (Option.some.inj e2').symm
    have q3 : v3 = u3 := by
      have e3' : its3[i]? = some v3 := by simpa using e3
      rw [hu3] at e3'; exact (Option.some.inj e3').symm
    subst q1 q2 q3
    have new : ObjOk X.prog X.w (upd H T (.tup [x, y, v])) h' T (.tup [x, y, v]) :=
      ⟨by show 3 ≤ sizeLine; decide, [v1, v2, v3], .cons ru (.cons ru2 (.cons ru3 .nil)), hTu⟩
    have I1 : Inv X pins σ (upd H T (.tup [x, y, v])) { s with heap := h', toks := tk } :=
      I.turnedNew (t' := tk) (ch := [z, TI, TO, i1, i2, i3]) (fun c o hb q => hk c o (fun hm => hb (by
        simp only [List.mem_cons, List.mem_nil_iff, or_false] at hm ⊢
        rcases hm with q | q | q | q | q <;> simp [q])) q) hf hT new
    refine ⟨.ref T, _, I1, rfl, ⟨T, x, y, v, rfl, I.hok.fresh hT, rfl, fun l hl => by rw [injK I hl hqx]; exact hx, fun l hl => by rw [injK I hl hqy]; exact hy, fun l hl => by rw [injK I hl hqz]; exact hz⟩, ⟨st'.1, st'.2.1, st'.2.2.1, st'.2.2.2.1.1, st'.2.2.2.2.1.1, st'.2.2.2.2.2.1⟩, fun c hcm => ?_⟩
    have hlt : c < s.heap.objs.size := by
      obtain ⟨hz, hTI, ⟨x0, y0, v0, hTO⟩, h1, h2, h3⟩ := st
      have e' : c = z ∨ c = TI ∨ c = TO ∨ c = i1 ∨ c = i2 ∨ c = i3 := by simpa using hcm
      rcases e' with q | q | q | q | q | q
      · rw [q]; exact Heap.lt_size hz
      · rw [q]; exact Heap.lt_size hTI
      · rw [q]; exact Heap.lt_size hTO
      · rw [q]; obtain ⟨_, e1, _⟩ := h1.obj; exact Heap.lt_size e1
      · rw [q]; obtain ⟨_, e2, _⟩ := h2.obj; exact Heap.lt_size e2
      · rw [q]; obtain ⟨_, e2, _⟩ := h3.obj; exact Heap.lt_size e2
    rw [upd_ne (Nat.ne_of_lt (Nat.lt_of_lt_of_le hlt hT))]
    exact (hf c hcm).1
  done := by
    intro X hP hw hK hc i pins s σ H E I hf st hg
    subst hP hw hK
    obtain ⟨xs, ys, zs, hqx, hqy, hqz, hl, hl2, hi⟩ := hg
    obtain ⟨its, rv, p⟩ := invK I hqx
    obtain ⟨its2, rv2, p2⟩ := invK I hqy
    obtain ⟨its3, rv3, p3⟩ := invK I hqz
    have hh : X.A.handled = none := I.ok.hd hc
    have D1 := drawsK (prog := X.prog) (w := X.w) (A := X.A.in1) hh k1 i1 a n1 its.toArray
    have D2 := drawsK (prog := X.prog) (w := X.w) (A := X.A.in1) hh k2 i2 b n2 its2.toArray
    have D3 := drawsK (prog := X.prog) (w := X.w) (A := X.A.in1) hh k3 i3 c n3 its3.toArray
    have W := GoesN.zip3 (elts := elts) (x1 := kk) (pos := tpos) S D1 D2 D3
    have l1 := rv.length
    have l2 := rv2.length
    have l3 := rv3.length
    have en : min (min its.toArray.size its2.toArray.size) its3.toArray.size = i := by simp only [List.size_toArray]; omega
    have st2 : (fun i h => IsZip h z TI TO .none ∧ IsTupOf3 h TI (.ref i1) (.ref i2) (.ref i3) ∧ (∃ a1 a2 a3, IsTupOf3 h TO a1 a2 a3) ∧ (ItK k1 h i1 a i ∧ SeqK k1 h a its.toArray) ∧ (ItK k2 h i2 b i ∧ SeqK k2 h b its2.toArray) ∧ ItK k3 h i3 c i ∧ SeqK k3 h c its3.toArray) (min (min its.toArray.size its2.toArray.size) its3.toArray.size) s.heap := by
      rw [en]
      exact ⟨st.1, st.2.1, st.2.2.1, ⟨st.2.2.2.1, p⟩, ⟨st.2.2.2.2.1, p2⟩, st.2.2.2.2.2, p3⟩
    refine W.stops s (fun s1 => Inv X pins σ H s1) E st2 fun h' tk hk htk => ?_
    exact I.turnedL (t' := tk) (ch := [z, TI, TO, i1, i2, i3]) (fun c o hb q => hk c o (fun hm => hb (by
        simp only [List.mem_cons, List.mem_nil_iff, or_false] at hm ⊢
        rcases hm with q | q | q | q | q <;> simp [q])) q) hf
  self := fun A i s Q E st h => wpAny_pyIter_zip st.1 h

/-! ### the walks -/
def iSeq (K : PySem.W.Frag) (tl : TE) : TI := fun σ H R => tl σ H fun x H1 => ∃ (k : Bool) (a : Addr) (xs : List V), x = .ref a ∧ Sqk K k H1 a xs ∧ R (match k with | true => Itl K a | false => Itt K a) H1
theorem pi_seq {X : Cx} {tg l : Expr} {tl : TE} (hl : PE X l tl) : PI X tg l (iSeq X.K tl) := by
  refine ⟨fun pins s σ H R I h => ?_⟩
  refine thn (hl.run pins s σ H _ I h) fun v s1 ⟨x, H1, I1, r1, q1⟩ => ?_
  obtain ⟨k, a, xs, e, hq, q⟩ := q1
  subst e
  cases r1
  cases k with
  | true =>
    obtain ⟨its, rv, p, hz⟩ := I1.list hq
    refine wpAny_pyIter_list p.isList ?_
    refine ⟨s1.heap.objs.size, [s1.heap.objs.size], _, _, H1, rfl, I1.kept (t' := s1.toks) fun b o e => Heap.get?_push_of_some _ e, turn_list a _, ⟨_, Heap.get?_push_size _ rfl, rfl, rfl⟩, fun b hb => ?_, q⟩
    have e : b = s1.heap.objs.size := by simpa using hb
    subst e
    exact I1.fpOk (Nat.le_refl _) (I1.hok.fresh (Nat.le_refl _))
  | false =>
    obtain ⟨its, rv, p, hz⟩ := I1.tuple hq
    refine wpAny_pyIter_tuple (show s1.heap.IsTuple a its.toArray from p) ?_
    refine ⟨s1.heap.objs.size, [s1.heap.objs.size], _, _, H1, rfl, I1.kept (t' := s1.toks) fun b o e => Heap.get?_push_of_some _ e, turn_tuple a _, ⟨_, Heap.get?_push_size _ rfl, rfl, rfl⟩, fun b hb => ?_, q⟩
    have e : b = s1.heap.objs.size := by simpa using hb
    subst e
    exact I1.fpOk (Nat.le_refl _) (I1.hok.fresh (Nat.le_refl _))
theorem walk_seq {K : PySem.W.Frag} {k : Bool} {a : Addr} {xs : List V} : Walk (match k with | true => Itl K a | false => Itt K a) xs.length (fun H => Sqk K k H a xs) (YAt xs) := by
  cases k with
  | true => exact walk_list
  | false => exact walk_tup
def iZ2 (K : PySem.W.Frag) (ta : TA) : TI := fun σ H R => ta σ H fun vs H1 => ∃ (k1 k2 : Bool) (a b : Addr) (xs ys : List V), vs = [.ref a, .ref b] ∧ Sqk K k1 H1 a xs ∧ Sqk K k2 H1 b ys ∧ R (Iz2 K k1 k2 a b) H1
def iZ3 (K : PySem.W.Frag) (ta : TA) : TI := fun σ H R => ta σ H fun vs H1 => ∃ (k1 k2 k3 : Bool) (a b c : Addr) (xs ys zs : List V), vs = [.ref a, .ref b, .ref c] ∧ Sqk K k1 H1 a xs ∧ Sqk K k2 H1 b ys ∧ Sqk K k3 H1 c zs ∧ R (Iz3 K k1 k2 k3 a b c) H1
theorem pi_z2 {X : Cx} {e e2 : Expr} {ta : TA} {p pos tpos : Pos} {elts : List Expr} {kk : Nat} (hg : Gl X "zip") (hm : X.mg "zip" = none) (ha : PA X [e, e2] ta)
    (hs : starEach [e, e2] X.env = (false, eval e X.env) :: starEach [e2] X.env := by rfl) (hpl : (backTo pos (starEach [e2] X.env)).any (·.1) = false := by rfl) :
    PI X (.Tuple elts kk tpos) (.Call (.Name "zip" p) [e, e2] [] pos) (iZ2 X.K ta) := by
  refine ⟨fun pins s σ H R I h => ?_⟩
  refine Call_ (ld_blt I hg hm PyProof.Rows.boot_zip (PyProof.Rows.callWith_type1 (thn (ha.run pos pins s σ H _ I h) fun us s1 ⟨vs, H1, I1, r1, q1⟩ => ?_) hs hpl))
  obtain ⟨k1, k2, a, b, xs, ys, ex, hqx, hqy, q⟩ := q1
  subst ex
  cases r1 with
  | cons r rr =>
    cases rr with
    | cons r' rr =>
      cases rr
      cases r
      cases r'
      obtain ⟨its, rv, p1⟩ := invK I1 hqx
      obtain ⟨its2, rv2, p2⟩ := invK I1 hqy
      have la : a < s1.heap.objs.size := p1.lt
      have lb : b < s1.heap.objs.size := p2.lt
      refine zip_begins2 (begK k1 a its.toArray) (begK k2 b its2.toArray) p1 p2 fun h' hz hTI hTO h1 h2 hsz hk => wpAny_pyIter_zip hz ?_
      have I2 : Inv X pins σ H1 { s1 with heap := h' } := I1.kept (t' := s1.toks) hk
      refine ⟨s1.heap.objs.size + 4, [s1.heap.objs.size + 4, s1.heap.objs.size + 2, s1.heap.objs.size + 3, s1.heap.objs.size, s1.heap.objs.size + 1], _, _, H1, rfl, I2, turn_z2 (zip_sep2 (fun b hb => by simp at hb; rw [hb]; exact la) (fun b hb => by simp at hb; rw [hb]; exact lb)) (Nat.ne_of_lt la) (Nat.ne_of_lt (Nat.lt_succ_of_lt lb)), ⟨hz, hTI, ⟨_, _, hTO⟩, ItK.new h1, ItK.new h2⟩, fun c hcm => ?_, q⟩
      have e' : c = s1.heap.objs.size + 4 ∨ c = s1.heap.objs.size + 2 ∨ c = s1.heap.objs.size + 3 ∨ c = s1.heap.objs.size ∨ c = s1.heap.objs.size + 1 := by simpa using hcm
      have hle : s1.heap.objs.size ≤ c := by
        rcases e' with z | z | z | z | z
        · rw [z]; exact Nat.le_add_right _ _
        · rw [z]; exact Nat.le_add_right _ _
        · rw [z]; exact Nat.le_add_right _ _
        · rw [z]; exact Nat.le_refl _
        · rw [z]; exact Nat.le_add_right _ _
      exact I1.fpOk hle (I1.hok.fresh hle)
theorem pi_z3 {X : Cx} {e e2 e3 : Expr} {ta : TA} {p pos tpos : Pos} {elts : List Expr} {kk : Nat} (hg : Gl X "zip") (hm : X.mg "zip" = none) (ha : PA X [e, e2, e3] ta)
    (hs : starEach [e, e2, e3] X.env = (false, eval e X.env) :: starEach [e2, e3] X.env := by rfl) (hpl : (backTo pos (starEach [e2, e3] X.env)).any (·.1) = false := by rfl) :
    PI X (.Tuple elts kk tpos) (.Call (.Name "zip" p) [e, e2, e3] [] pos) (iZ3 X.K ta) := by
  refine ⟨fun pins s σ H R I h => ?_⟩
  refine Call_ (ld_blt I hg hm PyProof.Rows.boot_zip (PyProof.Rows.callWith_type1 (thn (ha.run pos pins s σ H _ I h) fun us s1 ⟨vs, H1, I1, r1, q1⟩ => ?_) hs hpl))
  obtain ⟨k1, k2, k3, a, b, c, xs, ys, zs, ex, hqx, hqy, hqz, q⟩ := q1
  subst ex
  cases r1 with
  | cons r rr =>
    cases rr with
    | cons r' rr =>
      cases rr with
      | cons r'' rr =>
        cases rr
        cases r
        cases r'
        cases r''
        obtain ⟨its, rv, p1⟩ := invK I1 hqx
        obtain ⟨its2, rv2, p2⟩ := invK I1 hqy
        obtain ⟨its3, rv3, p3⟩ := invK I1 hqz
        have la : a < s1.heap.objs.size := p1.lt
        have lb : b < s1.heap.objs.size := p2.lt
        have lc : c < s1.heap.objs.size := p3.lt
        refine zip_begins3 (begK k1 a its.toArray) (begK k2 b its2.toArray) (begK k3 c its3.toArray) p1 p2 p3 fun h' hz hTI hTO h1 h2 h3 hsz hk => wpAny_pyIter_zip hz ?_
        have I2 : Inv X pins σ H1 { s1 with heap := h' } := I1.kept (t' := s1.toks) hk
        refine ⟨s1.heap.objs.size + 5, [s1.heap.objs.size + 5, s1.heap.objs.size + 3, s1.heap.objs.size + 4, s1.heap.objs.size, s1.heap.objs.size + 1, s1.heap.objs.size + 2], _, _, H1, rfl, I2, turn_z3 (zip_sep3 (fun b hb => by simp at hb; rw [hb]; exact la) (fun b hb => by simp at hb; rw [hb]; exact lb) (fun b hb => by simp at hb; rw [hb]; exact lc)) (Nat.ne_of_lt la) (Nat.ne_of_lt (Nat.lt_succ_of_lt lb)) (Nat.ne_of_lt (Nat.lt_succ_of_lt (Nat.lt_succ_of_lt lc))), ⟨hz, hTI, ⟨_, _, _, hTO⟩, ItK.new h1, ItK.new h2, ItK.new h3⟩, fun c hcm => ?_, q⟩
        have e' : c = s1.heap.objs.size + 5 ∨ c = s1.heap.objs.size + 3 ∨ c = s1.heap.objs.size + 4 ∨ c = s1.heap.objs.size ∨ c = s1.heap.objs.size + 1 ∨ c = s1.heap.objs.size + 2 := by simpa using hcm
        have hle : s1.heap.objs.size ≤ c := by
          rcases e' with z | z | z | z | z | z
          · rw [z]; exact Nat.le_add_right _ _
          · rw [z]; exact Nat.le_add_right _ _
          · rw [z]; exact Nat.le_add_right _ _
          · rw [z]; exact Nat.le_refl _
          · rw [z]; exact Nat.le_add_right _ _
          · rw [z]; exact Nat.le_add_right _ _
        exact I1.fpOk hle (I1.hok.fresh hle)
/-- a new triple -/
def YTrip (xs ys zs : Nat → Option V) : Nat → Hp → V → Hp → Prop := fun i H v H' => ∃ T x y z, v = .ref T ∧ H T = none ∧ H' = upd H T (.tup [x, y, z]) ∧ xs i = some x ∧ ys i = some y ∧ zs i = some z
section
variable {K : PySem.W.Frag} {k1 k2 k3 : Bool} {a b c : Addr} {xs ys zs : List V}
theorem walk_z2 (hl : xs.length = ys.length) : Walk (Iz2 K k1 k2 a b) xs.length (fun H => Sqk K k1 H a xs ∧ Sqk K k2 H b ys) (YPair (fun i => xs[i]?) (fun i => ys[i]?)) := by
  refine ⟨fun i _ hi q => ?_, fun _ q => ⟨xs, ys, q.1, q.2, hl, rfl⟩, fun i H v H' _ q y => ?_⟩
  · have h2 : i < ys.length := by omega
    exact ⟨xs, ys, xs[i], ys[i], q.1, q.2, by simp [hi], by simp [h2]⟩
  · obtain ⟨T, x, z, h1, h2, h3, h4, h5⟩ := y
    exact ⟨T, x, z, h1, h2, h3, h4 xs q.1, h5 ys q.2⟩
theorem walk_z3 (hl : xs.length = ys.length) (hl2 : ys.length = zs.length) : Walk (Iz3 K k1 k2 k3 a b c) xs.length (fun H => Sqk K k1 H a xs ∧ Sqk K k2 H b ys ∧ Sqk K k3 H c zs) (YTrip (fun i => xs[i]?) (fun i => ys[i]?) (fun i => zs[i]?)) := by
  refine ⟨fun i _ hi q => ?_, fun _ q => ⟨xs, ys, zs, q.1, q.2.1, q.2.2, hl, hl2, rfl⟩, fun i H v H' _ q y => ?_⟩
  · have h2 : i < ys.length := by omega
    have h3 : i < zs.length := by omega
    exact ⟨xs, ys, zs, xs[i], ys[i], zs[i], q.1, q.2.1, q.2.2, by simp [hi], by simp [h2], by simp [h3]⟩
  · obtain ⟨T, x, z, v, h1, h2, h3, h4, h5, h6⟩ := y
    exact ⟨T, x, z, v, h1, h2, h3, h4 xs q.1, h5 ys q.2.1, h6 zs q.2.2⟩
end
end Cs

namespace Cs
open PySem PySem.Spec PyProof.Rows L2

/-! ### keywords -/
section
variable {X : Cx} {CX : CXT} {k n : Nat} {f C : Addr} {fd : FuncData} {ps ks : List Str} {sp : Sp} {E : XK} {x m : Str} {p pos apos : Pos} {e o : Expr} {es : List Expr} {kws : List Keyword} {ta : TE} {t tk : TA} {g : List Value → List Value → List Value} {gV : List V → List V → List V}
def tMethK (C : Addr) (m : Str) (n j : Nat) (sp : Sp) (gV : List V → List V → List V) (E : XK) (ta : TE) (t tk : TA) : TE := fun σ H Q => ta σ H fun x H1 => ∃ a dx fs, x = .ref a ∧ H1 a = some (.ins C dx fs) ∧ fs.lookup m = none ∧
  t σ H1 fun vs H2 => tk σ H2 fun zs H3 => vs.length = n ∧ zs.length = j ∧ sp (gV (x :: vs) zs) H3 Q E
theorem pe_methK0 {pl : Sem Bool} (he : PE X o ta) (c : Cls X.K C) (hm : Meth X.K C m f) (F : FnOk X.prog X.w X.K X.mg X.base CX k f fd ps sp) (hr : Room k X.A) (hb : KBn X.K fd ps 1 ks g gV) (hx : Passes CX X E) (hkw : PK X kws tk)
    (hall : (backToKw pos (keywordEach kws X.env)).all (·.1.isSome) = true := by rfl) (hks : (backToKw pos (keywordEach kws X.env)).filterMap (·.1) = ks := by rfl)
    (hpl : ((backTo pos (starEach [] X.env)).any (·.1) || (backToKw pos (keywordEach kws X.env)).any (·.1.isNone)) = false := by rfl)
    (ht : eval (.Call (.Attribute o m apos) [] kws pos) X.env = (do
      let ov ← eval o X.env
      standAt apos.atName
      let (f, first) ← holding [ov] (getMethod ov m pl)
      callWith pos f first (backTo pos (starEach [] X.env)) (backToKw pos (keywordEach kws X.env))) := by rfl) :
    PE X (.Call (.Attribute o m apos) [] kws pos) (tMethK C m 0 ks.length sp gV E ta tNil tk) := by
  refine ⟨fun pins s σ H Q I h => ?_⟩
  refine PySem.W.methodCall_KW (pl := pl) (thn (he.run pins s σ H _ I h) fun u s1 ⟨x, H1, I1, rx, a, dx, fs, ex, ea, l, q⟩ => ?_) ht
  subst ex
  obtain rfl : u = Value.ref a := rx
  refine getmeth_ok I1 ea c hm l ?_
  refine PySem.W.callWith_KW0 (h₀ := X.base) (first := [.ref a]) I1.ok.mod.kin hm.kp hall ?_ hpl
  refine thn (hkw.run pos pins s1 σ H1 _ I1 q) fun ws s2 ⟨zs, H2, I2, rz, l1, l2, q2⟩ => ⟨I2.kIn, ?_⟩
  rw [hks]
  exact run_fnN (us := [.ref a]) (vs := [.ref a]) F hr hb hx I2 (.cons rfl .nil) rz rfl l2 q2
end

/-! ### list + list, the left one of any standing -/
theorem op_catS {X : Cx} : OpR X (binaryOp .Add) (fun x y H Q => ∃ l b xs zs, x = .ref l ∧ y = .ref b ∧ SqL X.K H l xs ∧ SqL X.K H b zs ∧ xs.length + zs.length ≤ sizeLine ∧ ∀ p, H p = none → Q (.ref p) (upd H p (.lst (xs ++ zs)))) := by
  intro pins s σ H x y v u Q I rx ry h
  obtain ⟨l, b, xs, zs, rfl, rfl, hH, hB, hz, q⟩ := h
  cases rx
  cases ry
  obtain ⟨its, r, p1, z⟩ := I.list hH
  obtain ⟨its2, r2, p2, z2⟩ := I.list hB
  have e1 := r.length
  have e2 := r2.length
  obtain ⟨⟨cls, dd, data, sl⟩, n, ho, hc, hs, hd⟩ := p1
  obtain ⟨⟨cls2, dd2, data2, sl2⟩, n2, ho2, hc2, hs2, hd2⟩ := p2
  simp only at hc hd hc2 hd2 hs hs2
  subst hc hd hc2 hd2 hs hs2
  have ea : its.toArray ++ its2.toArray = (its ++ its2).toArray := by simp
  refine concat_meets ⟨_, ho, rfl⟩ ⟨_, ho2, rfl⟩ noFill_list_add seq_list_add PySem.F.slot_list_add PySem.F.entry_list_add (PySem.F.args_list_add_2 _ _) (list_addW l b its.toArray its2.toArray n n2 none none sl sl2 (by simp only [List.size_toArray]; omega)) ⟨ho, ho2, ?_⟩
  rw [ea]
  exact ⟨.ref _, _, I.lnew (t' := s.toks) (r.append r2) (by rw [List.length_append]; omega), rfl, q _ I.fresh⟩

/-! ### heaps -/
theorem upd_old {H : Hp} {p q : Addr} {o : HO} (hp : H p = none) (hq : H q ≠ none) : upd H p o q = H q := upd_ne (fun e => hq (by rw [e]; exact hp))
/-- all that was tracked is as it was, but what stands at a -/
def Sx (a : Addr) (H H' : Hp) : Prop := ∀ b o, b ≠ a → H b = some o → H' b = some o
theorem Sx.refl {a : Addr} {H : Hp} : Sx a H H := fun _ _ _ h => h
theorem Sx.trans {a : Addr} {H H1 H2 : Hp} (x : Sx a H H1) (y : Sx a H1 H2) : Sx a H H2 := fun b o n h => y b o n (x b o n h)
theorem Sx.of {a : Addr} {H H' : Hp} (x : Same H H') : Sx a H H' := fun b o _ h => x b o h
theorem Sx.new {a p : Addr} {H : Hp} {o : HO} (hp : H p = none) : Sx a H (upd H p o) := fun b u _ h => by rw [upd_old hp (by rw [h]; simp)]; exact h
theorem Sx.put {a : Addr} {H : Hp} {o : HO} : Sx a H (upd H a o) := fun b u n h => by rw [upd_ne n]; exact h
theorem Same.new {p : Addr} {H : Hp} {o : HO} (hp : H p = none) : Same H (upd H p o) := fun b u h => by rw [upd_old hp (by rw [h]; simp)]; exact h
theorem Sx.same {a : Addr} {H H' : Hp} (x : Sx a H H') (h : H a = none) : Same H H' := fun b o e => x b o (fun z => by rw [z, h] at e; cases e) e
theorem ne_some {H : Hp} {p q : Addr} {o : HO} (hq : H q = some o) (hp : H p = none) : q ≠ p := fun e => by rw [e, hp] at hq; cases hq
theorem ne_two {H : Hp} {p q : Addr} {o u : HO} (hq : H q = some o) (hp : H p = some u) (d : o ≠ u) : q ≠ p := fun e => by rw [e, hp] at hq; exact d (Option.some.inj hq).symm

/-! ### comprehensions -/
section
variable {J : It} {n : Nat} {G : Hp → Prop} {Y : Nat → Hp → V → Hp → Prop}
/-- a comprehension without a test: Ia by the turn, what is made so far, and the heap; it does not look at the new list -/
theorem lc_gen (w : Walk J n G Y) {g : TG} {te : TE} {vs : List Nat} {σ : L2.St} {H1 : Hp} {D : Addr} {Qd : Hp → Prop} (Ia : Nat → List V → Hp → Prop) (hn : n ≤ sizeLine)
    (h0 : Ia 0 [] (upd H1 D (.lst []))) (hG : ∀ i acc H, i ≤ n → Ia i acc H → H D = some (.lst acc) → G H) (hst : ∀ i acc H l, Ia i acc H → H D ≠ none → Ia i acc (upd H D (.lst l)))
    (hs : ∀ i acc x H H' (Qy : VK), i < n → acc.length = i → Ia i acc H → H D = some (.lst acc) → Y i H x H' → (∀ y H4, H4 D = some (.lst acc) → Ia (i + 1) (acc ++ [y]) H4 → Qy y H4) → g x (wipe σ vs) H' fun σ2 H2 => wipe σ2 vs = wipe σ vs ∧ te σ2 H2 Qy)
    (hd : ∀ acc H, acc.length = n → Ia n acc H → H D = some (.lst acc) → Qd H) :
    ∃ W : Nat → Nat → Hp → Prop, (∃ m, W 0 m (upd H1 D (.lst []))) ∧ ∀ i m H, W i m H →
      (J.stop i H ∧ Qd H) ∨ (J.go i H ∧ ∃ Nx : Hp → Prop, (∀ H', Nx H' → ∃ m', m' < m ∧ W (i + 1) m' H') ∧ ∀ x H', J.yld i H x H' → g x (wipe σ vs) H' fun σ2 H2 => wipe σ2 vs = wipe σ vs ∧ tYes σ2 H2 fun b H3 =>
        if b = true then te σ2 H3 fun y H4 => ∃ acc, H4 D = some (.lst acc) ∧ acc.length < sizeLine ∧ Nx (upd H4 D (.lst (acc ++ [y]))) else Nx H3) := by
  refine lc_it w (fun i H => ∃ acc : List V, acc.length = i ∧ Ia i acc H ∧ H D = some (.lst acc)) ⟨[], rfl, h0, upd_same⟩ (fun i H hi ⟨acc, _, h, e⟩ => hG i acc H hi h e) (fun i x H H' hi ⟨acc, hl, h, e⟩ hy => ?_) (fun H ⟨acc, hl, h, e⟩ => hd acc H hl h e)
  refine hs i acc x H H' _ hi hl h e hy fun y H4 q1 q2 => ⟨acc, q1, by omega, acc ++ [y], by rw [List.length_append]; simp [hl], ?_, upd_same⟩
  exact hst _ _ _ _ q2 (by rw [q1]; simp)
/-- a comprehension that maps, and leaves all that was tracked as it was -/
theorem lc_map (w : Walk J n G Y) {g : TG} {te : TE} {vs : List Nat} {σ : L2.St} {H1 : Hp} {D : Addr} {Qd : Hp → Prop} (res : List V) (hl : res.length = n) (hn : n ≤ sizeLine) (hD : H1 D = none)
    (hG : ∀ H, Same H1 H → G H)
    (hs : ∀ i x H H' y (Qy : VK), i < n → Same H1 H → H D ≠ none → Y i H x H' → res[i]? = some y → (∀ H4, Same H' H4 → Qy y H4) → g x (wipe σ vs) H' fun σ2 H2 => wipe σ2 vs = wipe σ vs ∧ te σ2 H2 Qy)
    (hY : ∀ i x H H', Y i H x H' → Same H H')
    (hd : ∀ H, Same H1 H → H D = some (.lst res) → Qd H) :
    ∃ W : Nat → Nat → Hp → Prop, (∃ m, W 0 m (upd H1 D (.lst []))) ∧ ∀ i m H, W i m H →
      (J.stop i H ∧ Qd H) ∨ (J.go i H ∧ ∃ Nx : Hp → Prop, (∀ H', Nx H' → ∃ m', m' < m ∧ W (i + 1) m' H') ∧ ∀ x H', J.yld i H x H' → g x (wipe σ vs) H' fun σ2 H2 => wipe σ2 vs = wipe σ vs ∧ tYes σ2 H2 fun b H3 =>
        if b = true then te σ2 H3 fun y H4 => ∃ acc, H4 D = some (.lst acc) ∧ acc.length < sizeLine ∧ Nx (upd H4 D (.lst (acc ++ [y]))) else Nx H3) := by
  refine lc_gen w (fun i acc H => Same H1 H ∧ acc = res.take i) hn ⟨Same.new hD, by simp⟩ (fun i acc H _ h _ => hG H h.1) (fun i acc H l h _ => ⟨fun b o e => ?_, h.2⟩) (fun i acc x H H' Qy hi ha h e hy hq => ?_) (fun acc H ha h e => ?_)
  · rw [upd_ne (ne_some e hD)]
    exact h.1 b o e
  · have hi2 : i < res.length := by omega
    have hr : res[i]? = some res[i] := List.getElem?_eq_getElem hi2
    refine hs i x H H' res[i] Qy hi h.1 (by rw [e]; simp) hy hr fun H4 s4 => hq _ _ (s4 _ _ (hY _ _ _ _ hy _ _ e)) ⟨h.1.trans ((hY _ _ _ _ hy).trans s4), ?_⟩
    rw [h.2, List.take_add_one, hr]
    rfl
  · rw [h.2, ← hl, List.take_length] at e
    exact hd H h.1 e
end
theorem YAt.same {xs : List V} {i : Nat} {x : V} {H H' : Hp} (h : YAt xs i H x H') : Same H H' := by rw [h.1]; exact Same.refl _
theorem YPair.same {f g : Nat → Option V} {i : Nat} {x : V} {H H' : Hp} (h : YPair f g i H x H') : Same H H' := by
  obtain ⟨T, x, y, _, hT, rfl, _⟩ := h
  exact Same.new hT
theorem YTrip.same {f g k : Nat → Option V} {i : Nat} {x : V} {H H' : Hp} (h : YTrip f g k i H x H') : Same H H' := by
  obtain ⟨T, x, y, z, _, hT, rfl, _⟩ := h
  exact Same.new hT

/-! ### isinstance -/
/-- isinstance(x, c) is b -/
def IsI (K : PySem.W.Frag) (H : Hp) (x c : V) (b : Bool) : Prop := ∃ t u : Value, ClsV c u ∧ TyX K H x t ∧ PySem.W.kitOne K t u = some b
def rIsI (K : PySem.W.Frag) : List V → Hp → VK → Prop := fun vs H Q => ∃ x c b, vs = [x, c] ∧ IsI K H x c b ∧ Q (.bl b) H
theorem call_isI {X : Cx} : CallR X (.builtin "isinstance") (rIsI X.K) := by
  intro pins s σ H xs us Q I r h
  obtain ⟨x, c, b, rfl, ⟨t, u, h1, h2, h3⟩, q⟩ := h
  exact call_isi pins s σ H _ us Q I r ⟨x, c, t, u, b, rfl, h1, h2, h3, q⟩
/-- a value that is no object: its type's name -/
def tyN : V → Option String
  | .non => some "NoneType"
  | .bl _ => some "bool"
  | .int _ => some "int"
  | .str _ => some "str"
  | _ => none
theorem tyN_of {K : PySem.W.Frag} {H : Hp} {x : V} {t : Value} {n : String} (h : TyX K H x t) (e : tyN x = some n) : t = .type n := by
  cases h with
  | base b => cases b <;> simp [tyN] at e <;> subst e <;> rfl
  | byt b => simp [tyN] at e
  | set e' => simp [tyN] at e
  | kList e' _ => simp [tyN] at e
  | kTuple e' _ => simp [tyN] at e
  | kDict e' _ => simp [tyN] at e
  | fTuple e' => simp [tyN] at e
  | fDict e' => simp [tyN] at e
theorem isI_ty {K : PySem.W.Frag} {H : Hp} {x : V} {n : String} {c : String} {b : Bool} (ty : TyX K H x (.type n)) (h : kitB n c = some b) : IsI K H x (.ty c) b := ⟨_, _, .ty c, ty, kit_ty h⟩
theorem isI_iff {K : PySem.W.Frag} {H : Hp} {x : V} {n c : String} {b : Bool} {p : Bool → Prop} (e : tyN x = some n) (ty : TyX K H x (.type n)) (h : kitB n c = some b) : (∃ k, IsI K H x (.ty c) k ∧ p k) ↔ p b := by
  constructor
  · rintro ⟨k, ⟨t, u, hc, ht, hk⟩, q⟩
    have e1 := tyN_of ht e
    subst e1
    cases hc
    have e2 := hk.symm.trans (kit_ty (K := K) h)
    cases e2
    exact q
  · intro q
    exact ⟨b, isI_ty ty h, q⟩
section
variable {K : PySem.W.Frag} {H : Hp} {p : Bool → Prop}
theorem isI_int_int (n : Int) : (∃ k, IsI K H (.int n) (.ty "int") k ∧ p k) ↔ p true := isI_iff rfl (.base (.int n)) (by decide +kernel)
theorem isI_int_bool (n : Int) : (∃ k, IsI K H (.int n) (.ty "bool") k ∧ p k) ↔ p false := isI_iff rfl (.base (.int n)) (by decide +kernel)
theorem isI_bl_int (n : Bool) : (∃ k, IsI K H (.bl n) (.ty "int") k ∧ p k) ↔ p true := isI_iff rfl (.base (.bl n)) (by decide +kernel)
theorem isI_bl_bool (n : Bool) : (∃ k, IsI K H (.bl n) (.ty "bool") k ∧ p k) ↔ p true := isI_iff rfl (.base (.bl n)) (by decide +kernel)
theorem isI_str_str (n : Str) : (∃ k, IsI K H (.str n) (.ty "str") k ∧ p k) ↔ p true := isI_iff rfl (.base (.str n)) (by decide +kernel)
end
theorem isI_tup {K : PySem.W.Frag} {H : Hp} {a : Addr} {xs : List V} (h : H a = some (.tup xs)) : IsI K H (.ref a) (.ty "tuple") true := isI_ty (.base (.tup h)) (by decide +kernel)
theorem isI_lst {K : PySem.W.Frag} {H : Hp} {a : Addr} {xs : List V} (h : H a = some (.lst xs)) : IsI K H (.ref a) (.ty "list") true := isI_ty (.base (.lst h)) (by decide +kernel)
theorem isI_tup_list {K : PySem.W.Frag} {H : Hp} {a : Addr} {xs : List V} (h : H a = some (.tup xs)) : IsI K H (.ref a) (.ty "list") false := isI_ty (.base (.tup h)) (by decide +kernel)
theorem isI_lst_tup {K : PySem.W.Frag} {H : Hp} {a : Addr} {xs : List V} (h : H a = some (.lst xs)) : IsI K H (.ref a) (.ty "tuple") false := isI_ty (.base (.lst h)) (by decide +kernel)
/-- isinstance(x, (c1, c2)) is b -/
def IsA (K : PySem.W.Frag) (H : Hp) (x : V) (cs : List V) (b : Bool) : Prop := ∃ (t : Value) (us : List Value), Paired ClsV cs us ∧ TyX K H x t ∧ PySem.W.kitAny K t us = some b
def rIsA (K : PySem.W.Frag) : List V → Hp → VK → Prop := fun vs H Q => ∃ (x : V) (tp : Addr) (cs : List V) (b : Bool), vs = [x, .ref tp] ∧ H tp = some (.tup cs) ∧ IsA K H x cs b ∧ Q (.bl b) H
theorem call_isA {X : Cx} : CallR X (.builtin "isinstance") (rIsA X.K) := by
  intro pins s σ H xs us Q I r h
  obtain ⟨x, tp, cs, b, rfl, hT, ⟨t, ws, h1, h2, h3⟩, q⟩ := h
  exact call_isiT pins s σ H _ us Q I r ⟨x, tp, cs, t, ws, b, rfl, hT, h1, h2, h3, q⟩
theorem isA_two {K : PySem.W.Frag} {H : Hp} {x : V} {n c1 c2 : String} {b1 b2 b : Bool} (ty : TyX K H x (.type n)) (h1 : kitB n c1 = some b1) (h2 : kitB n c2 = some b2) (e : b = (b1 || b2)) : IsA K H x [.ty c1, .ty c2] b := by
  subst e
  refine ⟨_, [_, _], .cons (.ty c1) (.cons (.ty c2) .nil), ty, kitAny_cons (kit_ty h1) (fun e => ?_) fun e => by rw [e]; rfl⟩
  subst e
  exact kitAny_cons (kit_ty h2) (fun e => by subst e; exact kitAny_nil) fun e => by rw [e]; rfl

/-! ### data -/
theorem dpAll_ints {K : PySem.W.Frag} {H : Hp} : ∀ ns : List Int, DpAll K H (ns.map V.int) (ns.map PyData.int)
  | [] => .nil
  | n :: ns => .cons (.int n) (dpAll_ints ns)
theorem canLay_ints : ∀ ns : List Int, PyData.canLayAll0 (ns.map PyData.int) = true
  | [] => rfl
  | n :: ns => by
    show (PyData.canLay0 (.int n) && PyData.canLayAll0 (ns.map PyData.int)) = true
    rw [canLay_ints ns]
    rfl
theorem depth_ints : ∀ ns : List Int, PyData.depthAll (ns.map PyData.int) = 0
  | [] => rfl
  | n :: ns => by
    show max (PyData.depth (.int n)) (PyData.depthAll (ns.map PyData.int)) = 0
    rw [depth_ints ns]
    rfl
theorem eqvAll_ints : ∀ ns ms : List Int, PyData.eqvAll (ns.map PyData.int) (ms.map PyData.int) = decide (ns = ms)
  | [], [] => rfl
  | [], _ :: _ => rfl
  | _ :: _, [] => rfl
  | n :: ns, m :: ms => by
    show (PyData.eqv (.int n) (.int m) && PyData.eqvAll (ns.map PyData.int) (ms.map PyData.int)) = _
    rw [eqvAll_ints ns ms]
    show ((n == m) && decide (ns = ms)) = decide (n :: ns = m :: ms)
    by_cases h : n = m <;> by_cases h2 : ns = ms <;> simp [h, h2]
def tupI (ns : List Int) : PyData := .tuple (ns.map PyData.int)
theorem dp_tupI {K : PySem.W.Frag} {H : Hp} {a : Addr} {ns : List Int} (h : SqT K H a (ns.map V.int)) : Dp K H (.ref a) (tupI ns) := .tup h (dpAll_ints ns)
theorem eqv_tupI (ns ms : List Int) : PyData.eqv (tupI ns) (tupI ms) = decide (ns = ms) := eqvAll_ints ns ms
theorem shaped_tupI (ns : List Int) : SeqAt.shaped (tupI ns) = true := by
  have h1 : PyData.canLay0 (tupI ns) = true := canLay_ints ns
  have h2 : PyData.depth (tupI ns) ≤ 64 := by
    show PyData.depthAll (ns.map PyData.int) + 1 ≤ 64
    rw [depth_ints ns]
    decide
  unfold SeqAt.shaped
  rw [h1, decide_eq_true h2]
  rfl


/-! ### rules over what is tracked alone -/
section
variable {X : Cx}
theorem ix_lH : IxR X (fun x y H Q => ∃ p i, x = .ref p ∧ y = .int i ∧ ∃ xs, H p = some (.lst xs) ∧ ∃ v, atI xs i = some v ∧ Q v H) := by
  intro value slice pins s σ H x y v u Q I rx ry h hs
  obtain ⟨p, i, rfl, rfl, xs, hp, z, hz, q⟩ := h
  exact ix_list value slice pins s σ H _ _ v u Q I rx ry ⟨p, xs, i, z, rfl, rfl, .inl (.inl hp), hz, q⟩ hs
theorem ix_tH : IxR X (fun x y H Q => ∃ p i, x = .ref p ∧ y = .int i ∧ ∃ xs, H p = some (.tup xs) ∧ ∃ v, atI xs i = some v ∧ Q v H) := by
  intro value slice pins s σ H x y v u Q I rx ry h hs
  obtain ⟨p, i, rfl, rfl, xs, hp, z, hz, q⟩ := h
  exact ix_tup value slice pins s σ H _ _ v u Q I rx ry ⟨p, xs, i, z, rfl, rfl, .inl (.inl hp), hz, q⟩ hs
theorem set_lH : PSet X (fun o i v H Q => ∃ p k, o = .ref p ∧ i = .int k ∧ ∃ xs, H p = some (.lst xs) ∧ ∃ j, ixN xs.length k = some j ∧ Q (upd H p (.lst (xs.set j v)))) := by
  intro pins s σ H o i v ov iv u Q I ro ri rv h
  obtain ⟨p, k, e1, e2, xs, hp, j, hj, q⟩ := h
  exact set_list pins s σ H o i v ov iv u Q I ro ri rv ⟨p, xs, k, j, e1, e2, hp, hj, q⟩
theorem len_H : CallR X (.builtin "len") (fun vs H Q => ∃ p, vs = [.ref p] ∧ ((∃ ys, H p = some (.lst ys) ∧ Q (.int ys.length) H) ∨ ∃ ys, H p = some (.tup ys) ∧ Q (.int ys.length) H)) := by
  intro pins s σ H vs us Q I r h
  obtain ⟨p, e, h⟩ := h
  refine call_len_seq pins s σ H vs us Q I r ?_
  rcases h with ⟨ys, hp, q⟩ | ⟨ys, hp, q⟩
  · exact ⟨p, ys, e, .inl (.inl (.inl hp)), q⟩
  · exact ⟨p, ys, e, .inr (.inl (.inl hp)), q⟩
theorem tuple_H : CallR X (.type "tuple") (fun vs H Q => ∃ p, vs = [.ref p] ∧ ((∃ ys, H p = some (.lst ys) ∧ ∀ l, H l = none → Q (.ref l) (upd H l (.tup ys))) ∨ ∃ ys, H p = some (.tup ys) ∧ Q (.ref p) H)) := by
  intro pins s σ H vs us Q I r h
  obtain ⟨p, e, h⟩ := h
  refine call_tuple_of pins s σ H vs us Q I r ?_
  rcases h with ⟨ys, hp, q⟩ | ⟨ys, hp, q⟩
  · exact ⟨p, ys, e, .inl ⟨.inl (.inl hp), q⟩⟩
  · exact ⟨p, ys, e, .inr ⟨.inl (.inl hp), q⟩⟩
theorem list_H : CallR X (.type "list") (fun vs H Q => ∃ p, vs = [.ref p] ∧ ((∃ ys, H p = some (.lst ys) ∧ ∀ l, H l = none → Q (.ref l) (upd H l (.lst ys))) ∨ ∃ ys, H p = some (.tup ys) ∧ ∀ l, H l = none → Q (.ref l) (upd H l (.lst ys)))) := by
  intro pins s σ H vs us Q I r h
  obtain ⟨p, e, h⟩ := h
  refine call_list_of pins s σ H vs us Q I r ?_
  rcases h with ⟨ys, hp, q⟩ | ⟨ys, hp, q⟩
  · exact ⟨p, ys, e, .inl (.inl (.inl hp)), q⟩
  · exact ⟨p, ys, e, .inr (.inl (.inl hp)), q⟩
theorem all_H (hc : X.calm = true) : CallR X (.builtin "all") (fun vs H Q => ∃ p, vs = [.ref p] ∧ ∃ bs : List Bool, H p = some (.lst (bs.map V.bl)) ∧ Q (.bl (bs.all id)) H) := by
  intro pins s σ H vs us Q I r h
  obtain ⟨p, e, bs, hp, q⟩ := h
  exact cr_all hc pins s σ H vs us Q I r ⟨p, bs, e, .inl (.inl hp), q⟩
/-- a, b = t, t tracked -/
def gTupH (n : Nat) (t : TGs) : TG := fun v σ H Q => ∃ a, v = .ref a ∧ ∃ xs, H a = some (.tup xs) ∧ xs.length = n ∧ t xs σ H Q
theorem pg_tupH {es : List Expr} {k : Nat} {t : TGs} {n : Nat} {pos : Pos} (hc : X.calm = true) (h : PGs X es t)
    (hn : (assignEach es X.env).length = n := by rfl) (hst : (assignEach es X.env).findIdx? (·.1) = none := by rfl) : PG X (.Tuple es k pos) (gTupH n t) := by
  refine ⟨fun pins s σ H v u Q I r hw => ?_⟩
  obtain ⟨a, e1, xs, hq, hl, hw⟩ := hw
  exact (pg_tup hc h hn hst).run pins s σ H v u Q I r ⟨a, xs, e1, .inl (.inl hq), hl, hw⟩
/-- l.append(e) -/
def tAppend (to : TE) (t : TA) : TE := fun σ H Q => to σ H fun x H1 => ∃ p, x = .ref p ∧ ∃ xs, H1 p = some (.lst xs) ∧ t σ H1 fun vs H2 => ∃ y, vs = [y] ∧ ∃ ys, H2 p = some (.lst ys) ∧ ys.length < sizeLine ∧ Q .non (upd H2 p (.lst (ys ++ [y])))
theorem pe_append {o e : Expr} {to : TE} {t : TA} {apos cpos : Pos} (ho : PE X o to) (ha : PA X [e] t)
    (hbase : attributeBase o "append" X.env (eval o X.env) = eval o X.env := by rfl)
    (hfew : ((backTo cpos (starEach [e] X.env)).all (fun x => !x.1) && (backToKw cpos (keywordEach [] X.env)).all (fun x => x.1.isSome)
      && decide (([e] : List Expr).length + ([] : List Keyword).length + (if ([] : List Keyword).isEmpty then 0 else 1) < 30)) = true := by rfl)
    (hline : (apos.endLine == cpos.line) = true := by rfl) (hs : starEach [e] X.env = (false, eval e X.env) :: starEach [] X.env := by rfl) :
    PE X (.Call (.Attribute o "append" apos) [e] [] cpos) (tAppend to t) := by
  refine ⟨fun pins s σ H Q I h => ?_⟩
  refine wpAny_Call_method_late hbase hfew hline rfl (thn (ho.run pins s σ H _ I h) fun v s1 ⟨x, H1, I1, r1, p, ex, xs, hp, q1⟩ => ?_)
  subst ex
  have ty : tyV X.K "list" (.ref p) H1 := .inl ⟨rfl, xs, .inl (.inl hp)⟩
  obtain ⟨h1, h2⟩ := tyV_is I1 r1 ty
  refine ⟨"list", _, PySem.F.plainAttrs_list, PySem.F.slot_list_append, PySem.F.type_list_append, h1, h2, ?_⟩
  have hA := ha.run cpos pins s1 σ H1 _ I1 q1
  rw [hs] at hA ⊢
  refine Calls.callWith_builtin (by rfl) (Calls.evalArgs_plain ?_)
  refine thn hA fun us s2 ⟨vs, H2, I2, r2, y, e2, ys, hp2, hz, q2⟩ => ?_
  exact mt_append pins s2 σ H2 (.ref p) vs v us Q I2 r1 r2 ⟨p, ys, y, rfl, e2, hp2, hz, q2⟩
end
/-! ### loops and comprehensions, closed off -/
def LcR (J : It) (g : TG) (tt : TT) (te : TE) (vs : List Nat) (σ : L2.St) (H1 : Hp) (Q : VK) : Prop := ∀ D, H1 D = none → ∃ W : Nat → Nat → Hp → Prop, (∃ m, W 0 m (upd H1 D (.lst []))) ∧ ∀ i m H, W i m H →
  (J.stop i H ∧ Q (.ref D) H) ∨ (J.go i H ∧ ∃ Nx : Hp → Prop, (∀ H', Nx H' → ∃ m', m' < m ∧ W (i + 1) m' H') ∧ ∀ x H', J.yld i H x H' → g x (wipe σ vs) H' fun σ2 H2 => wipe σ2 vs = wipe σ vs ∧ tt σ2 H2 fun b H3 =>
    if b = true then te σ2 H3 fun y H4 => ∃ acc, H4 D = some (.lst acc) ∧ acc.length < sizeLine ∧ Nx (upd H4 D (.lst (acc ++ [y]))) else Nx H3)
theorem tLc_eq {wi : TI} {g : TG} {tt : TT} {te : TE} {vs : List Nat} {σ : L2.St} {H : Hp} {Q : VK} : tLc wi g tt te vs σ H Q = wi σ H fun J H1 => LcR J g tt te vs σ H1 Q := rfl
def ForR (J : It) (g : TG) (tb : TS) (D : Ends) (σ : L2.St) (H1 : Hp) : Prop := ∃ W : Nat → Nat → L2.St → Hp → Prop, (∃ m, W 0 m σ H1) ∧ ∀ i m σ H, W i m σ H →
  (J.stop i H ∧ D.nx σ H) ∨ (J.go i H ∧ ∃ N : L2.St → Hp → Prop, (∀ σ' H', N σ' H' → ∃ m', m' < m ∧ W (i + 1) m' σ' H') ∧ ∀ x H', J.yld i H x H' → g x σ H' fun σ2 H2 => tb { D with nx := N, ct := N, bk := D.nx } σ2 H2)
theorem tFor_eq {wi : TI} {g : TG} {tb : TS} {D : Ends} {σ : L2.St} {H : Hp} : tFor wi g tb D σ H = wi σ H fun J H1 => ForR J g tb D σ H1 := rfl
/-- what is walked, told by Walk alone -/
def iSeqH (tl : TE) : TI := fun σ H R => tl σ H fun x H1 => ∃ a, x = .ref a ∧ ((∃ xs, H1 a = some (.lst xs) ∧ ∀ J : It, Walk J xs.length (fun H => H a = some (.lst xs)) (YAt xs) → R J H1) ∨ ∃ xs, H1 a = some (.tup xs) ∧ ∀ J : It, Walk J xs.length (fun H => H a = some (.tup xs)) (YAt xs) → R J H1)
def iSeqS (K : PySem.W.Frag) (tl : TE) : TI := fun σ H R => tl σ H fun x H1 => ∃ (k : Bool) (a : Addr) (xs : List V), x = .ref a ∧ Sqk K k H1 a xs ∧ ∀ J : It, Walk J xs.length (fun H => Sqk K k H a xs) (YAt xs) → R J H1
theorem PI.mono {X : Cx} {tg it : Expr} {w w' : TI} (h : PI X tg it w) (m : ∀ σ H R, w' σ H R → w σ H R) : PI X tg it w' := ⟨fun pins s σ H R I q => h.run pins s σ H R I (m σ H R q)⟩
section
variable {X : Cx} {tg l : Expr} {tl : TE}
theorem pi_seqH (hl : PE X l tl) : PI X tg l (iSeqH tl) := by
  have h2 : PE X l fun σ H Q => tl σ H fun x H1 => Q x H1 := hl
  refine ⟨fun pins s σ H R I h => ?_⟩
  refine thn (hl.run pins s σ H _ I h) fun v s1 ⟨x, H1, I1, r1, q1⟩ => ?_
  obtain ⟨a, e, q⟩ := q1
  subst e
  have key : ∀ (k : Bool) (xs : List V), Sqk X.K k H1 a xs → R (match k with | true => Itl X.K a | false => Itt X.K a) H1 → wpAny (model X.prog X.w) X.A (pyIter v) (PIE X pins σ tg R) X.xe s1 := fun k xs hs hR => by
    cases r1
    cases k with
    | true =>
      obtain ⟨its, rv, p, hz⟩ := I1.list hs
      refine wpAny_pyIter_list p.isList ?_
      refine ⟨s1.heap.objs.size, [s1.heap.objs.size], _, _, H1, rfl, I1.kept (t' := s1.toks) fun b o e => Heap.get?_push_of_some _ e, turn_list a _, ⟨_, Heap.get?_push_size _ rfl, rfl, rfl⟩, fun b hb => ?_, hR⟩
      have e : b = s1.heap.objs.size := by simpa using hb
      subst e
      exact I1.fpOk (Nat.le_refl _) (I1.hok.fresh (Nat.le_refl _))
    | false =>
      obtain ⟨its, rv, p, hz⟩ := I1.tuple hs
      refine wpAny_pyIter_tuple (show s1.heap.IsTuple a its.toArray from p) ?_
      refine ⟨s1.heap.objs.size, [s1.heap.objs.size], _, _, H1, rfl, I1.kept (t' := s1.toks) fun b o e => Heap.get?_push_of_some _ e, turn_tuple a _, ⟨_, Heap.get?_push_size _ rfl, rfl, rfl⟩, fun b hb => ?_, hR⟩
      have e : b = s1.heap.objs.size := by simpa using hb
      subst e
      exact I1.fpOk (Nat.le_refl _) (I1.hok.fresh (Nat.le_refl _))
  rcases q with ⟨xs, hp, q⟩ | ⟨xs, hp, q⟩
  · exact key true xs (.inl (.inl hp)) (q _ (walk_list.mono (fun H h => .inl (.inl h)) fun _ _ _ _ _ _ y => y))
  · exact key false xs (.inl (.inl hp)) (q _ (walk_tup.mono (fun H h => .inl (.inl h)) fun _ _ _ _ _ _ y => y))
theorem pi_seqS (hl : PE X l tl) : PI X tg l (iSeqS X.K tl) := by
  refine ⟨fun pins s σ H R I h => ?_⟩
  refine thn (hl.run pins s σ H _ I h) fun v s1 ⟨x, H1, I1, r1, q1⟩ => ?_
  obtain ⟨k, a, xs, e, hs, q⟩ := q1
  subst e
  have hR := q _ walk_seq
  cases r1
  cases k with
  | true =>
    obtain ⟨its, rv, p, hz⟩ := I1.list hs
    refine wpAny_pyIter_list p.isList ?_
    refine ⟨s1.heap.objs.size, [s1.heap.objs.size], _, _, H1, rfl, I1.kept (t' := s1.toks) fun b o e => Heap.get?_push_of_some _ e, turn_list a _, ⟨_, Heap.get?_push_size _ rfl, rfl, rfl⟩, fun b hb => ?_, hR⟩
    have e : b = s1.heap.objs.size := by simpa using hb
    subst e
    exact I1.fpOk (Nat.le_refl _) (I1.hok.fresh (Nat.le_refl _))
  | false =>
    obtain ⟨its, rv, p, hz⟩ := I1.tuple hs
    refine wpAny_pyIter_tuple (show s1.heap.IsTuple a its.toArray from p) ?_
    refine ⟨s1.heap.objs.size, [s1.heap.objs.size], _, _, H1, rfl, I1.kept (t' := s1.toks) fun b o e => Heap.get?_push_of_some _ e, turn_tuple a _, ⟨_, Heap.get?_push_size _ rfl, rfl, rfl⟩, fun b hb => ?_, hR⟩
    have e : b = s1.heap.objs.size := by simpa using hb
    subst e
    exact I1.fpOk (Nat.le_refl _) (I1.hok.fresh (Nat.le_refl _))
end
/-- a list or a tuple, tracked -/
def Sqh (k : Bool) (H : Hp) (a : Addr) (xs : List V) : Prop := match k with
  | true => H a = some (.lst xs)
  | false => H a = some (.tup xs)
theorem Sqh.sqk {K : PySem.W.Frag} {k : Bool} {H : Hp} {a : Addr} {xs : List V} (h : Sqh k H a xs) : Sqk K k H a xs := by
  cases k with
  | true => exact .inl (.inl h)
  | false => exact .inl (.inl h)
theorem Sqh.same {k : Bool} {H H' : Hp} {a : Addr} {xs : List V} (e : Same H H') (h : Sqh k H a xs) : Sqh k H' a xs := by
  cases k with
  | true => exact e _ _ h
  | false => exact e _ _ h
def iZ2H (ta : TA) : TI := fun σ H R => ta σ H fun vs H1 => ∃ a b, vs = [.ref a, .ref b] ∧ ∃ (k1 k2 : Bool) (xs ys : List V), Sqh k1 H1 a xs ∧ Sqh k2 H1 b ys ∧ xs.length = ys.length ∧ ∀ J : It, Walk J xs.length (fun H => Sqh k1 H a xs ∧ Sqh k2 H b ys) (YPair (fun i => xs[i]?) (fun i => ys[i]?)) → R J H1
def iZ3H (ta : TA) : TI := fun σ H R => ta σ H fun vs H1 => ∃ a b c, vs = [.ref a, .ref b, .ref c] ∧ ∃ (k1 k2 k3 : Bool) (xs ys zs : List V), Sqh k1 H1 a xs ∧ Sqh k2 H1 b ys ∧ Sqh k3 H1 c zs ∧ xs.length = ys.length ∧ ys.length = zs.length ∧
  ∀ J : It, Walk J xs.length (fun H => Sqh k1 H a xs ∧ Sqh k2 H b ys ∧ Sqh k3 H c zs) (YTrip (fun i => xs[i]?) (fun i => ys[i]?) (fun i => zs[i]?)) → R J H1
theorem PA.weak {X : Cx} {es : List Expr} {t : TA} (h : PA X es t) {pos : Pos} {pins : List (Addr × Obj)} {s : Shared} {σ : L2.St} {H : Hp} {Q : List V → Hp → Prop} (I : Inv X pins σ H s) (q : t σ H Q) : wpAny (model X.prog X.w) X.A (spliced (backTo pos (starEach es X.env))) (AP X pins σ Q) X.xe s := h.run pos pins s σ H Q I q
/-- an argument list whose reading is asked for less -/
theorem PA.of {X : Cx} {es : List Expr} {t : TA} (h : PA X es t) (f : List V → Hp → (List V → Hp → Prop) → Prop) : PA X es fun σ H Q => t σ H fun vs H1 => Q vs H1 := h
section
variable {X : Cx} {e e2 e3 : Expr} {ta : TA} {p pos tpos : Pos} {elts : List Expr} {kk : Nat}
theorem pi_z2H (hg : Gl X "zip") (hm : X.mg "zip" = none) (ha : PA X [e, e2] ta)
    (hs : starEach [e, e2] X.env = (false, eval e X.env) :: starEach [e2] X.env := by rfl) (hpl : (backTo pos (starEach [e2] X.env)).any (·.1) = false := by rfl) :
    PI X (.Tuple elts kk tpos) (.Call (.Name "zip" p) [e, e2] [] pos) (iZ2H ta) := by
  refine ⟨fun pins s σ H R I h => ?_⟩
  let ta' : TA := fun σ H Q => ta σ H fun vs H1 => (∃ a b, vs = [.ref a, .ref b] ∧ ∃ (k1 k2 : Bool) (xs ys : List V), Sqh k1 H1 a xs ∧ Sqh k2 H1 b ys ∧ xs.length = ys.length ∧ ∀ J : It, Walk J xs.length (fun H => Sqh k1 H a xs ∧ Sqh k2 H b ys) (YPair (fun i => xs[i]?) (fun i => ys[i]?)) → R J H1) ∧ Q vs H1
  have ha' : PA X [e, e2] ta' := ⟨fun pos pins s σ H Q I q => thn (ha.run pos pins s σ H _ I q) fun us s1 ⟨vs, H1, I1, r1, _, q1⟩ => ⟨vs, H1, I1, r1, q1⟩⟩
  refine Call_ (ld_blt I hg hm PyProof.Rows.boot_zip (PyProof.Rows.callWith_type1 (thn (ha.run pos pins s σ H _ I h) fun us s1 ⟨vs, H1, I1, r1, q1⟩ => ?_) hs hpl))
  obtain ⟨a, b, ex, k1, k2, xs, ys, hqx, hqy, hl, q⟩ := q1
  subst ex
  have q := q (Iz2 X.K k1 k2 a b) ((walk_z2 (K := X.K) (k1 := k1) (k2 := k2) (a := a) (b := b) hl).mono (fun H h => ⟨h.1.sqk, h.2.sqk⟩) fun _ _ _ _ _ _ y => y)
  have hqx : Sqk X.K k1 H1 a xs := hqx.sqk
  have hqy : Sqk X.K k2 H1 b ys := hqy.sqk
  cases r1 with
  | cons r rr =>
    cases rr with
    | cons r' rr =>
      cases rr
      cases r
      cases r'
      obtain ⟨its, rv, p1⟩ := invK I1 hqx
      obtain ⟨its2, rv2, p2⟩ := invK I1 hqy
      have la : a < s1.heap.objs.size := p1.lt
      have lb : b < s1.heap.objs.size := p2.lt
      refine zip_begins2 (begK k1 a its.toArray) (begK k2 b its2.toArray) p1 p2 fun h' hz hTI hTO h1 h2 hsz hk => wpAny_pyIter_zip hz ?_
      have I2 : Inv X pins σ H1 { s1 with heap := h' } := I1.kept (t' := s1.toks) hk
      refine ⟨s1.heap.objs.size + 4, [s1.heap.objs.size + 4, s1.heap.objs.size + 2, s1.heap.objs.size + 3, s1.heap.objs.size, s1.heap.objs.size + 1], _, _, H1, rfl, I2, turn_z2 (zip_sep2 (fun b hb => by simp at hb; rw [hb]; exact la) (fun b hb => by simp at hb; rw [hb]; exact lb)) (Nat.ne_of_lt la) (Nat.ne_of_lt (Nat.lt_succ_of_lt lb)), ⟨hz, hTI, ⟨_, _, hTO⟩, ItK.new h1, ItK.new h2⟩, fun c hcm => ?_, q⟩
      have e' : c = s1.heap.objs.size + 4 ∨ c = s1.heap.objs.size + 2 ∨ c = s1.heap.objs.size + 3 ∨ c = s1.heap.objs.size ∨ c = s1.heap.objs.size + 1 := by simpa using hcm
      have hle : s1.heap.objs.size ≤ c := by
        rcases e' with z | z | z | z | z
        · rw [z]; exact Nat.le_add_right _ _
        · rw [z]; exact Nat.le_add_right _ _
        · rw [z]; exact Nat.le_add_right _ _
        · rw [z]; exact Nat.le_refl _
        · rw [z]; exact Nat.le_add_right _ _
      exact I1.fpOk hle (I1.hok.fresh hle)
theorem pi_z3H (hg : Gl X "zip") (hm : X.mg "zip" = none) (ha : PA X [e, e2, e3] ta)
    (hs : starEach [e, e2, e3] X.env = (false, eval e X.env) :: starEach [e2, e3] X.env := by rfl) (hpl : (backTo pos (starEach [e2, e3] X.env)).any (·.1) = false := by rfl) :
    PI X (.Tuple elts kk tpos) (.Call (.Name "zip" p) [e, e2, e3] [] pos) (iZ3H ta) := by
  refine ⟨fun pins s σ H R I h => ?_⟩
  refine Call_ (ld_blt I hg hm PyProof.Rows.boot_zip (PyProof.Rows.callWith_type1 (thn (ha.run pos pins s σ H _ I h) fun us s1 ⟨vs, H1, I1, r1, q1⟩ => ?_) hs hpl))
  obtain ⟨a, b, c, ex, k1, k2, k3, xs, ys, zs, hqx, hqy, hqz, hl, hl2, q⟩ := q1
  subst ex
  have q := q (Iz3 X.K k1 k2 k3 a b c) ((walk_z3 (K := X.K) (k1 := k1) (k2 := k2) (k3 := k3) (a := a) (b := b) (c := c) hl hl2).mono (fun H h => ⟨h.1.sqk, h.2.1.sqk, h.2.2.sqk⟩) fun _ _ _ _ _ _ y => y)
  have hqx : Sqk X.K k1 H1 a xs := hqx.sqk
  have hqy : Sqk X.K k2 H1 b ys := hqy.sqk
  have hqz : Sqk X.K k3 H1 c zs := hqz.sqk
  cases r1 with
  | cons r rr =>
    cases rr with
    | cons r' rr =>
      cases rr with
      | cons r'' rr =>
        cases rr
        cases r
        cases r'
        cases r''
        obtain ⟨its, rv, p1⟩ := invK I1 hqx
        obtain ⟨its2, rv2, p2⟩ := invK I1 hqy
        obtain ⟨its3, rv3, p3⟩ := invK I1 hqz
        have la : a < s1.heap.objs.size := p1.lt
        have lb : b < s1.heap.objs.size := p2.lt
        have lc : c < s1.heap.objs.size := p3.lt
        refine zip_begins3 (begK k1 a its.toArray) (begK k2 b its2.toArray) (begK k3 c its3.toArray) p1 p2 p3 fun h' hz hTI hTO h1 h2 h3 hsz hk => wpAny_pyIter_zip hz ?_
        have I2 : Inv X pins σ H1 { s1 with heap := h' } := I1.kept (t' := s1.toks) hk
        refine ⟨s1.heap.objs.size + 5, [s1.heap.objs.size + 5, s1.heap.objs.size + 3, s1.heap.objs.size + 4, s1.heap.objs.size, s1.heap.objs.size + 1, s1.heap.objs.size + 2], _, _, H1, rfl, I2, turn_z3 (zip_sep3 (fun b hb => by simp at hb; rw [hb]; exact la) (fun b hb => by simp at hb; rw [hb]; exact lb) (fun b hb => by simp at hb; rw [hb]; exact lc)) (Nat.ne_of_lt la) (Nat.ne_of_lt (Nat.lt_succ_of_lt lb)) (Nat.ne_of_lt (Nat.lt_succ_of_lt (Nat.lt_succ_of_lt lc))), ⟨hz, hTI, ⟨_, _, _, hTO⟩, ItK.new h1, ItK.new h2, ItK.new h3⟩, fun c hcm => ?_, q⟩
        have e' : c = s1.heap.objs.size + 5 ∨ c = s1.heap.objs.size + 3 ∨ c = s1.heap.objs.size + 4 ∨ c = s1.heap.objs.size ∨ c = s1.heap.objs.size + 1 ∨ c = s1.heap.objs.size + 2 := by simpa using hcm
        have hle : s1.heap.objs.size ≤ c := by
          rcases e' with z | z | z | z | z | z
          · rw [z]; exact Nat.le_add_right _ _
          · rw [z]; exact Nat.le_add_right _ _
          · rw [z]; exact Nat.le_add_right _ _
          · rw [z]; exact Nat.le_refl _
          · rw [z]; exact Nat.le_add_right _ _
          · rw [z]; exact Nat.le_add_right _ _
        exact I1.fpOk hle (I1.hok.fresh hle)
/-- range(n) -/
def iRng1H (ta : TA) : TI := fun σ H R => ta σ H fun vs H1 => ∃ j : Int, vs = [.int j] ∧ -(2 ^ 62) ≤ j ∧ j < 2 ^ 62 ∧ ∀ J : It, Walk J j.toNat (fun _ => True) (YFn fun i => .int (i : Nat)) → R J H1
theorem pi_range1H {a : Expr} {tg : Expr} (hg : Gl X "range") (hm : X.mg "range" = none) (ha : PA X [a] ta) (hs : starEach [a] X.env = [(false, eval a X.env)] := by rfl) : PI X tg (.Call (.Name "range" p) [a] [] pos) (iRng1H ta) := by
  refine ⟨fun pins s σ H R I h => ?_⟩
  have ha' : PA X [a] fun σ H Q => ta σ H fun vs H1 => (∃ j : Int, vs = [.int j] ∧ -(2 ^ 62) ≤ j ∧ j < 2 ^ 62 ∧ ∀ J : It, Walk J j.toNat (fun _ => True) (YFn fun i => .int (i : Nat)) → R J H1) ∧ ∀ j : Int, vs = [.int j] → -(2 ^ 62) ≤ j → j < 2 ^ 62 → R (Itr 0 j.toNat) H1 → Q vs H1 :=
    ⟨fun pos pins s σ H Q I q => thn (ha.run pos pins s σ H _ I q) fun us s1 ⟨vs, H1, I1, r1, ⟨j, ej, h1, h2, hR⟩, q1⟩ => ⟨vs, H1, I1, r1, q1 j ej h1 h2 (hR _ (walk_range.mono (fun _ _ => trivial) fun _ _ _ _ _ _ y => ⟨y.1, by rw [y.2]; show V.int _ = V.int _; rw [Int.zero_add]⟩))⟩⟩
  refine Call_ (ld_blt I hg hm boot_range (PyProof.Rows.callWith_type1 (thn (ha.run pos pins s σ H _ I h) fun us s1 ⟨vs, H1, I1, r1, q1⟩ => ?_) hs rfl))
  obtain ⟨j, e, q1, q2, q⟩ := q1
  subst e
  have q := q (Itr 0 j.toNat) (walk_range.mono (fun _ _ => trivial) fun _ _ _ _ _ _ y => ⟨y.1, by rw [y.2]; show V.int _ = V.int _; rw [Int.zero_add]⟩)
  cases r1 with
  | cons r rr =>
    cases rr
    obtain ⟨t, rfl⟩ := r
    exact call_range_1 (range_it I1 (by omega) (by omega) q1 q2 (by simpa using q))
end
/-- LcR by its lemmas -/
theorem lcr_map {J : It} {n : Nat} {G : Hp → Prop} {Y : Nat → Hp → V → Hp → Prop} (w : Walk J n G Y) {g : TG} {te : TE} {vs : List Nat} {σ : L2.St} {H1 : Hp} {Q : VK} (res : List V) (hl : res.length = n) (hn : n ≤ sizeLine)
    (hG : ∀ H, Same H1 H → G H) (hY : ∀ i x H H', Y i H x H' → Same H H')
    (hs : ∀ i x H H' y (Qy : VK), i < n → Same H1 H → Y i H x H' → res[i]? = some y → (∀ H4, Same H' H4 → Qy y H4) → g x (wipe σ vs) H' fun σ2 H2 => wipe σ2 vs = wipe σ vs ∧ te σ2 H2 Qy)
    (hd : ∀ D H, H1 D = none → Same H1 H → H D = some (.lst res) → Q (.ref D) H) : LcR J g tYes te vs σ H1 Q := fun D hD =>
  lc_map w res hl hn hD hG (fun i x H H' y Qy hi h1 _ hy hr hq => hs i x H H' y Qy hi h1 hy hr hq) hY fun H h1 h2 => hd D H hD h1 h2
theorem forr {J : It} {n : Nat} {G : Hp → Prop} {Y : Nat → Hp → V → Hp → Prop} (w : Walk J n G Y) {g : TG} {tb : TS} {D : Ends} {σ : L2.St} {H : Hp} (Pv : Nat → L2.St → Hp → Prop) (h0 : Pv 0 σ H) (hG : ∀ i σ H, i ≤ n → Pv i σ H → G H)
    (hs : ∀ i x σ H H', i < n → Pv i σ H → Y i H x H' → g x σ H' fun σ2 H2 => tb { D with nx := Pv (i + 1), ct := Pv (i + 1), bk := D.nx } σ2 H2) (hd : ∀ σ H, Pv n σ H → D.nx σ H) : ForR J g tb D σ H := for_it w Pv h0 hG hs hd
theorem map_bl_iff {bs : List Bool} {p : List Bool → Prop} : (∃ cs : List Bool, bs.map V.bl = cs.map V.bl ∧ p cs) ↔ p bs := by
  constructor
  · rintro ⟨cs, e, h⟩
    have inj : ∀ {a b : List Bool}, a.map V.bl = b.map V.bl → a = b := by
      intro a
      induction a with
      | nil => intro b h; cases b with | nil => rfl | cons _ _ => simp at h
      | cons x a ih => intro b h; cases b with
        | nil => simp at h
        | cons y b => simp only [List.map_cons, List.cons.injEq, V.bl.injEq] at h; rw [h.1, ih h.2]
    rw [inj e]; exact h
  · intro h; exact ⟨bs, rfl, h⟩

theorem sz_le {n : Nat} (h : n ≤ 1000) : (n ≤ sizeLine) = True := eq_true (Nat.le_trans h (by decide))
theorem op_inH {X : Cx} : OpR X (compareOp .In) (fun x y H Q => ∃ p, y = .ref p ∧ ∃ xs, H p = some (.tup xs) ∧ flatV x = true ∧ xs.all flatV = true ∧ Q (.bl (inV x xs)) H) := by
  intro pins s σ H x y v u Q I rx ry h
  obtain ⟨p, e, xs, hp, h1, h2, q⟩ := h
  exact op_in_seq pins s σ H x y v u Q I rx ry ⟨p, xs, e, .inr (.inl (.inl hp)), h1, h2, q⟩
theorem putF_one (f : Str) (v : V) : putF f v [] = [(f, v)] := rfl
theorem lookup_one (f : Str) (v : V) : List.lookup f [(f, v)] = some v := by simp [List.lookup]

/-- * of two ints, one of them below 2 ^ 64, or both together below a million bits -/
def CMulA (i j : Int) : Prop := i.natAbs < 2 ^ 64 ∨ j.natAbs < 2 ^ 64 ∨ CMulW i j
theorem op_mulA {X : Cx} : OpR X (binaryOp .Mult) (rI CMulA fun i j => .int (i * j)) := by
  intro pins s σ H x y v u Q I rx ry h
  obtain ⟨i, j, e1, e2, hc, q⟩ := h
  rcases hc with hc | hc | hc
  · exact op_mul pins s σ H x y v u Q I rx ry ⟨i, j, e1, e2, .inl ⟨by omega, by omega⟩, q⟩
  · exact op_mul pins s σ H x y v u Q I rx ry ⟨i, j, e1, e2, .inr ⟨by omega, by omega⟩, q⟩
  · exact op_mulW pins s σ H x y v u Q I rx ry ⟨i, j, e1, e2, hc, q⟩
theorem atI_0 {x : V} {xs : List V} : atI (x :: xs) 0 = some x := atI_nat (j := 0) rfl
theorem atI_1 {x y : V} {xs : List V} : atI (x :: y :: xs) 1 = some y := atI_nat (j := 1) rfl
theorem atI_2 {x y z : V} {xs : List V} : atI (x :: y :: z :: xs) 2 = some z := atI_nat (j := 2) rfl
theorem ixN_30 : ixN 3 0 = some 0 := rfl
theorem ixN_31 : ixN 3 1 = some 1 := rfl
theorem ixN_32 : ixN 3 2 = some 2 := rfl
theorem atI_in {xs : List V} {i : Int} (h0 : 0 ≤ i) (h1 : i < xs.length) : ∃ v, v ∈ xs ∧ atI xs i = some v := by
  obtain ⟨k, rfl⟩ := Int.eq_ofNat_of_zero_le h0
  have hk : k < xs.length := by omega
  exact ⟨xs[k], List.getElem_mem hk, atI_nat (List.getElem?_eq_getElem hk)⟩
theorem cpow_10 {j : Int} (h0 : 0 ≤ j) (h1 : j ≤ 1000000) : CPow 10 j = True := eq_true ⟨h0, h1, by decide⟩
theorem cdivW_small {i j : Int} (h : 0 < j) (h1 : j < 2 ^ 64) : CDivW i j = True := eq_true (wide_div h (b := 64) (by omega) (by decide) (by decide))
theorem Sx.free {a r : Addr} {H H1 : Hp} (h : Sx a H H1) (n : r ≠ a) (e : H1 r = none) : H r = none := by
  cases q : H r with
  | none => rfl
  | some o => rw [h r o n q] at e; cases e
theorem Sx.putN {a r : Addr} {H H1 : Hp} {o : HO} (h : Sx a H H1) (e : H r = none) : Sx a H (upd H1 r o) := fun b u n q => by
  rw [upd_ne (ne_some q e)]
  exact h b u n q
theorem scal_int (i j : Int) : scal (.int i) (.int j) = true := rfl
theorem scal_str (i j : Str) : scal (.str i) (.str j) = true := rfl
section
variable {K : PySem.W.Frag} {H : Hp} {a b c d e f : Addr} {ns ms ks ls : List Int} {Q : VK}
theorem neD_tup (h1 : H a = some (.tup (ns.map V.int))) (h2 : H b = some (.tup (ms.map V.int))) (q : Q (.bl (!decide (ns = ms))) H) : rNeD K (.ref a) (.ref b) H Q :=
  ⟨_, _, dp_tupI (.inl (.inl h1)), dp_tupI (.inl (.inl h2)), shaped_tupI _, shaped_tupI _, by rw [eqv_tupI]; exact q⟩
theorem eqD_tup (h1 : H a = some (.tup (ns.map V.int))) (h2 : H b = some (.tup (ms.map V.int))) (q : Q (.bl (decide (ns = ms))) H) : rEqD K (.ref a) (.ref b) H Q :=
  ⟨_, _, dp_tupI (.inl (.inl h1)), dp_tupI (.inl (.inl h2)), shaped_tupI _, shaped_tupI _, by rw [eqv_tupI]; exact q⟩
theorem depth_tupI (ns : List Int) : PyData.depth (tupI ns) = 1 := by
  show PyData.depthAll (ns.map PyData.int) + 1 = 1
  rw [depth_ints ns]
theorem shaped_two (ns ms : List Int) : SeqAt.shaped (.tuple [tupI ns, tupI ms]) = true := by
  have h1 : PyData.canLay0 (.tuple [tupI ns, tupI ms]) = true := by
    show (PyData.canLayAll0 (ns.map PyData.int) && (PyData.canLayAll0 (ms.map PyData.int) && true)) = true
    rw [canLay_ints, canLay_ints]
    rfl
  have h2 : PyData.depth (.tuple [tupI ns, tupI ms]) ≤ 64 := by
    show max (PyData.depth (tupI ns)) (max (PyData.depth (tupI ms)) 0) + 1 ≤ 64
    rw [depth_tupI, depth_tupI]
    decide
  unfold SeqAt.shaped
  rw [h1, decide_eq_true h2]
  rfl
theorem eqv_two (ns ms ks ls : List Int) : PyData.eqv (.tuple [tupI ns, tupI ms]) (.tuple [tupI ks, tupI ls]) = (decide (ns = ks) && decide (ms = ls)) := by
  show (PyData.eqv (tupI ns) (tupI ks) && (PyData.eqv (tupI ms) (tupI ls) && true)) = _
  rw [eqv_tupI, eqv_tupI, Bool.and_true]
/-- (t, u) != (v, w), four tuples of ints -/
theorem neD_two (h1 : H a = some (.tup [.ref c, .ref d])) (h2 : H b = some (.tup [.ref e, .ref f])) (hc : H c = some (.tup (ns.map V.int))) (hd : H d = some (.tup (ms.map V.int))) (he : H e = some (.tup (ks.map V.int))) (hf : H f = some (.tup (ls.map V.int)))
    (q : Q (.bl (!(decide (ns = ks) && decide (ms = ls)))) H) : rNeD K (.ref a) (.ref b) H Q :=
  ⟨.tuple [tupI ns, tupI ms], .tuple [tupI ks, tupI ls], .tup (.inl (.inl h1)) (.cons (dp_tupI (.inl (.inl hc))) (.cons (dp_tupI (.inl (.inl hd))) .nil)), .tup (.inl (.inl h2)) (.cons (dp_tupI (.inl (.inl he))) (.cons (dp_tupI (.inl (.inl hf))) .nil)), shaped_two _ _, shaped_two _ _, by rw [eqv_two]; exact q⟩
end
theorem Vals.getD {xs : List V} {us : List Value} (r : Vals xs us) (i : Nat) : RelV (xs.getD i .non) (us.getD i Value.none) := by
  rw [List.getD_eq_getElem?_getD, List.getD_eq_getElem?_getD]
  cases h : xs[i]? with
  | none => rw [L2.Vals.none_of r h]; rfl
  | some x =>
    obtain ⟨u, h2, h3⟩ := L2.Vals.get r h
    rw [h2]
    exact h3
theorem kbn_of {K : PySem.W.Frag} {x qual : Str} {st : Stmt} {f : Addr} {fd : FuncData} (F : Fun K x qual st f fd) (ps : List Str) (n : Nat) (ks : List Str) (g : List Value → List Value → List Value) (gV : List V → List V → List V)
    (h : ∀ (kV doc pm : Value) (an : Option Addr) (cdv ct : Value) (us ws : List Value), us.length = n → ws.length = ks.length → bindArgs (PySem.W.fnOf x qual (defArgs st) (defBody st) (defScope st) .none kV doc pm an cdv ct) ⟨us, ks.zip ws⟩ = pure (ps.zip (g us ws)))
    (rel : ∀ {vs : List V} {us : List Value} {zs : List V} {ws : List Value}, Vals vs us → Vals zs ws → Vals (gV vs zs) (g us ws)) : KBn K fd ps n ks g gV := by
  obtain ⟨oc, od, kV, doc, pm, an, cdv, ct, osl, rfl, lk, hcd⟩ := F.ex
  exact ⟨fun s us ws X l1 l2 => .of_eq (h kV doc pm an cdv ct us ws l1 l2), rel⟩

/-! ### a comprehension with two clauses, closed off -/
/-- the second clause's loop -/
def Lc1R (J1 : It) (g1 : TG) (tt1 : TT) (te : TE) (vs1 : List Nat) (D : Addr) (σ2 : L2.St) (H4 : Hp) (Nx : Hp → Prop) : Prop := ∃ W1 : Nat → Nat → Hp → Prop, (∃ m, W1 0 m H4) ∧ ∀ j k H, W1 j k H →
  (J1.stop j H ∧ Nx H) ∨ (J1.go j H ∧ ∃ Nx1 : Hp → Prop, (∀ H', Nx1 H' → ∃ k', k' < k ∧ W1 (j + 1) k' H') ∧ ∀ x H', J1.yld j H x H' → g1 x (wipe σ2 vs1) H' fun σ3 H5 => wipe σ3 vs1 = wipe σ2 vs1 ∧ tt1 σ3 H5 fun b H6 =>
    if b = true then te σ3 H6 fun y H7 => ∃ acc, H7 D = some (.lst acc) ∧ acc.length < sizeLine ∧ Nx1 (upd H7 D (.lst (acc ++ [y]))) else Nx1 H6)
def Lc2R (J : It) (g : TG) (tt : TT) (wi1 : TI) (g1 : TG) (tt1 : TT) (te : TE) (vs vs1 : List Nat) (σ : L2.St) (H1 : Hp) (Q : VK) : Prop := ∀ D, H1 D = none → ∃ W : Nat → Nat → Hp → Prop, (∃ m, W 0 m (upd H1 D (.lst []))) ∧ ∀ i m H, W i m H →
  (J.stop i H ∧ Q (.ref D) H) ∨ (J.go i H ∧ ∃ Nx : Hp → Prop, (∀ H', Nx H' → ∃ m', m' < m ∧ W (i + 1) m' H') ∧ ∀ x H', J.yld i H x H' → g x (wipe σ vs) H' fun σ2 H2 => wipe σ2 vs = wipe σ vs ∧ tt σ2 H2 fun b H3 =>
    if b = true then wi1 σ2 H3 fun J1 H4 => Lc1R J1 g1 tt1 te vs1 D σ2 H4 Nx else Nx H3)
theorem tLc2_eq {wi : TI} {g : TG} {tt : TT} {wi1 : TI} {g1 : TG} {tt1 : TT} {te : TE} {vs vs1 : List Nat} {σ : L2.St} {H : Hp} {Q : VK} : tLc2 wi g tt wi1 g1 tt1 te vs vs1 σ H Q = wi σ H fun J H1 => Lc2R J g tt wi1 g1 tt1 te vs vs1 σ H1 Q := rfl
/-- the second clause's loop by an invariant of the turn, what is made so far and the heap -/
theorem lc1_gen {J1 : It} {n : Nat} {G : Hp → Prop} {Y : Nat → Hp → V → Hp → Prop} (w : Walk J1 n G Y) {g1 : TG} {te : TE} {vs1 : List Nat} {D : Addr} {σ2 : L2.St} {H4 : Hp} {Nx : Hp → Prop} (Ia : Nat → List V → Hp → Prop)
    (h0 : ∃ acc, Ia 0 acc H4 ∧ H4 D = some (.lst acc)) (hG : ∀ j acc H, j ≤ n → Ia j acc H → H D = some (.lst acc) → G H) (hst : ∀ j acc H l l0, Ia j acc H → H D = some (.lst l0) → Ia j acc (upd H D (.lst l))) (hz : ∀ j acc H, Ia j acc H → acc.length < sizeLine)
    (hs : ∀ j acc x H H' (Qy : VK), j < n → Ia j acc H → H D = some (.lst acc) → Y j H x H' → (∀ y H7, H7 D = some (.lst acc) → Ia (j + 1) (acc ++ [y]) H7 → Qy y H7) → g1 x (wipe σ2 vs1) H' fun σ3 H5 => wipe σ3 vs1 = wipe σ2 vs1 ∧ te σ3 H5 Qy)
    (hd : ∀ acc H, Ia n acc H → H D = some (.lst acc) → Nx H) : Lc1R J1 g1 tYes te vs1 D σ2 H4 Nx := by
  obtain ⟨acc0, i0, e0⟩ := h0
  refine ⟨fun j k H => k = n - j ∧ j ≤ n ∧ ∃ acc : List V, Ia j acc H ∧ H D = some (.lst acc), ⟨n, by simp, Nat.zero_le _, acc0, i0, e0⟩, ?_⟩
  rintro j k H ⟨rfl, hj, acc, hI, e⟩
  have q := hG j acc H hj hI e
  by_cases hlt : j < n
  · refine .inr ⟨w.goes j H hlt q, fun H' => ∃ acc : List V, Ia (j + 1) acc H' ∧ H' D = some (.lst acc), fun H' ⟨acc', h1, h2⟩ => ⟨n - (j + 1), by omega, rfl, hlt, acc', h1, h2⟩, fun x H' y => ?_⟩
    exact hs j acc x H H' _ hlt hI e (w.yields j H x H' hlt q y) fun y H7 e7 h7 => ⟨acc, e7, hz j acc H hI, acc ++ [y], hst _ _ _ _ _ h7 e7, upd_same⟩
  · have en : j = n := by omega
    subst en
    exact .inl ⟨w.stops H q, hd acc H hI e⟩
theorem lc2_gen {J : It} {n : Nat} {G : Hp → Prop} {Y : Nat → Hp → V → Hp → Prop} (w : Walk J n G Y) {g : TG} {wi1 : TI} {g1 : TG} {te : TE} {vs vs1 : List Nat} {σ : L2.St} {H1 : Hp} {Q : VK} (Ia : Addr → Nat → List V → Hp → Prop)
    (h0 : ∀ D, H1 D = none → Ia D 0 [] (upd H1 D (.lst []))) (hG : ∀ D i acc H, H1 D = none → i ≤ n → Ia D i acc H → H D = some (.lst acc) → G H)
    (hs : ∀ D i acc x H H' (Nx : Hp → Prop), H1 D = none → i < n → Ia D i acc H → H D = some (.lst acc) → Y i H x H' → (∀ acc' H7, H7 D = some (.lst acc') → Ia D (i + 1) acc' H7 → Nx H7) → g x (wipe σ vs) H' fun σ2 H2 => wipe σ2 vs = wipe σ vs ∧ wi1 σ2 H2 fun J1 H4 => Lc1R J1 g1 tYes te vs1 D σ2 H4 Nx)
    (hd : ∀ D acc H, H1 D = none → Ia D n acc H → H D = some (.lst acc) → Q (.ref D) H) : Lc2R J g tYes wi1 g1 tYes te vs vs1 σ H1 Q := fun D hD => by
  refine ⟨fun i k H => k = n - i ∧ i ≤ n ∧ ∃ acc : List V, Ia D i acc H ∧ H D = some (.lst acc), ⟨n, by simp, Nat.zero_le _, [], h0 D hD, upd_same⟩, ?_⟩
  rintro i k H ⟨rfl, hi, acc, hI, e⟩
  have q := hG D i acc H hD hi hI e
  by_cases hlt : i < n
  · refine .inr ⟨w.goes i H hlt q, fun H' => ∃ acc : List V, Ia D (i + 1) acc H' ∧ H' D = some (.lst acc), fun H' ⟨acc', h1, h2⟩ => ⟨n - (i + 1), by omega, rfl, hlt, acc', h1, h2⟩, fun x H' y => ?_⟩
    exact hs D i acc x H H' _ hD hlt hI e (w.yields i H x H' hlt q y) fun acc' H7 e7 h7 => ⟨acc', h7, e7⟩
  · have en : i = n := by omega
    subst en
    exact .inl ⟨w.stops H q, hd D acc H hD hI e⟩
/-- a comprehension with a test: Ia by the turn, what is made so far, and the heap -/
theorem lcr_if {J : It} {n : Nat} {G : Hp → Prop} {Y : Nat → Hp → V → Hp → Prop} (w : Walk J n G Y) {g : TG} {tt : TT} {te : TE} {vs : List Nat} {σ : L2.St} {H1 : Hp} {Q : VK} (Ia : Addr → Nat → List V → Hp → Prop) (hn : n < sizeLine)
    (h0 : ∀ D, H1 D = none → Ia D 0 [] (upd H1 D (.lst []))) (hG : ∀ D i acc H, H1 D = none → i ≤ n → Ia D i acc H → H D = some (.lst acc) → G H) (hst : ∀ D i acc H l, H1 D = none → Ia D i acc H → H D ≠ none → Ia D i acc (upd H D (.lst l)))
    (hs : ∀ D i acc x H H' (Qn : Hp → Prop) (Qy : VK), H1 D = none → i < n → Ia D i acc H → H D = some (.lst acc) → Y i H x H' → (∀ H4, H4 D = some (.lst acc) → Ia D (i + 1) acc H4 → Qn H4) → (∀ y H4, H4 D = some (.lst acc) → Ia D (i + 1) (acc ++ [y]) H4 → Qy y H4) →
      g x (wipe σ vs) H' fun σ2 H2 => wipe σ2 vs = wipe σ vs ∧ tt σ2 H2 fun b H3 => if b = true then te σ2 H3 Qy else Qn H3)
    (hd : ∀ D acc H, H1 D = none → acc.length ≤ n → Ia D n acc H → H D = some (.lst acc) → Q (.ref D) H) : LcR J g tt te vs σ H1 Q := fun D hD => by
  refine lc_it w (fun i H => ∃ acc : List V, acc.length ≤ i ∧ Ia D i acc H ∧ H D = some (.lst acc)) ⟨[], Nat.le_refl _, h0 D hD, upd_same⟩ (fun i H hi ⟨acc, _, h, e⟩ => hG D i acc H hD hi h e) (fun i x H H' hi ⟨acc, hl, h, e⟩ hy => ?_) (fun H ⟨acc, hl, h, e⟩ => hd D acc H hD hl h e)
  refine hs D i acc x H H' _ _ hD hi h e hy (fun H4 e4 h4 => ⟨acc, by omega, h4, e4⟩) fun y H4 e4 h4 => ⟨acc, e4, by omega, acc ++ [y], by rw [List.length_append]; simp; omega, ?_, upd_same⟩
  exact hst _ _ _ _ _ hD h4 (by rw [e4]; simp)
/-! ### gcd and lcm of wide ints -/
def rLcm : List V → Hp → VK → Prop := fun vs H Q => ∃ a b : Int, vs = [.int a, .int b] ∧ a.natAbs < 2 ^ 6000 ∧ b.natAbs < 2 ^ 6000 ∧ Q (.int ((Nat.lcm a.natAbs b.natAbs : Nat) : Int)) H
theorem lcm_le_mul (m n : Nat) : m.lcm n ≤ m * n := by
  unfold Nat.lcm
  exact Nat.div_le_self _ _
theorem cr_lcm {X : Cx} : CallR X (.builtin "math.lcm") rLcm := by
  intro pins s σ H vs us Q I r h
  obtain ⟨a, b, rfl, ha, hb, q⟩ := h
  obtain ⟨t, u, rfl⟩ := Vals.int2 r
  have e1 : (Nat.lcm 1 a.natAbs) = a.natAbs := by simp [Nat.lcm]
  have lg : ∀ m : Nat, m < 2 ^ 6000 → m.log2 < 6000 := fun m hm => by
    by_cases h0 : m = 0
    · subst h0; decide
    · exact (Nat.log2_lt h0).mpr hm
  have m1 : max 1 a.natAbs < 2 ^ 6000 := by
    have : (1 : Nat) < 2 ^ 6000 := Nat.one_lt_two_pow (by decide)
    omega
  have m2 : max a.natAbs b.natAbs < 2 ^ 6000 := by omega
  have l1 := lg _ m1
  have l2 := lg _ m2
  have hl : (((Nat.lcm 1 a.natAbs).lcm b.natAbs : Nat) : Int).natAbs.log2 < bitsLine := by
    rw [e1, Int.natAbs_natCast]
    have h1 : a.natAbs.lcm b.natAbs ≤ a.natAbs * b.natAbs := lcm_le_mul _ _
    have h2 : a.natAbs * b.natAbs < 2 ^ 12000 := by
      rw [show (12000 : Nat) = 6000 + 6000 by rfl, Nat.pow_add]
      exact Nat.mul_lt_mul'' ha hb
    have eb : bitsLine = 134217728 := by decide
    rw [eb]
    by_cases h0 : a.natAbs.lcm b.natAbs = 0
    · rw [h0]; decide
    · have h3 : (a.natAbs.lcm b.natAbs).log2 < 12000 := (Nat.log2_lt h0).mpr (Nat.lt_of_le_of_lt h1 h2)
      omega
  refine call_function_meets PySem.W.MGF.kind_lcm PySem.W.MGF.plain_lcm PySem.W.MGF.entry_lcm (PySem.W.MGF.args_lcm _ _) (PySem.W.mg_run_lcm a t b u (by omega) (by omega) hl).meets ?_
  rw [e1]
  exact ⟨.int _, H, I.tok _, ⟨_, rfl⟩, q⟩
/-- *t, .. in a display: t a tracked tuple -/
def tStarH (te : TE) (t : TA) : TA := fun σ H Q => te σ H fun x H1 => ∃ p, x = .ref p ∧ ∃ xs, H1 p = some (.tup xs) ∧ t σ H1 fun ys H2 => Q (xs ++ ys) H2
theorem pa_starH {X : Cx} {e : Expr} {es : List Expr} {te : TE} {t : TA} {p : Pos} (he : PE X e te) (hr : PA X es t) (hs : starEach (.Starred e p :: es) X.env = (true, eval e X.env) :: starEach es X.env := by rfl) : PA X (.Starred e p :: es) (tStarH te t) := by
  refine ⟨fun pos pins s σ H Q I h => ?_⟩
  refine PySem.W.items_star (thn (he.run pins s σ H _ I h) fun v s1 ⟨y, H1, I1, ry, a, ey, xs, hx, q⟩ => ?_) hs
  subst ey
  obtain rfl : v = Value.ref a := ry
  refine StX.star_any I1 (.inl (.inl (.inl hx))) fun us s2 I2 rv => ?_
  exact thn (hr.run pos pins s2 σ H1 _ I2 q) fun ws s3 ⟨vs, H3, I3, r3, q3⟩ => ⟨xs ++ vs, H3, I3, rv.append r3, q3⟩
end Cs

/-! tuple * 1, tests of bools -/
namespace Cs
open PySem PySem.Spec PyProof.Rows L2
theorem tuple_mul_one (l : Addr) (items : Array Value) (n : Nat) (dd : Option Addr) (sl : Array (Option Value)) (u : Tok) :
    Meets (Builtin.«tuple.__mul__» ⟨[.ref l, .int 1 u], []⟩) (fun _ R s => s.heap.get? l = some { cls := .type "tuple", dict := dd, data := .seq items n, slots := sl } ∧ R (.ok (.ret (Value.ref l))) s) :=
  .of_wp fun prog w A R s h => by
    obtain ⟨hp, g, d, tk, os⟩ := s
    obtain ⟨hl, h⟩ := h
    have f1 := AutoSeq1.idx_int
    have c0 : (decide ((1 : Int) < -(2 ^ 63)) || decide ((1 : Int) ≥ 2 ^ 63)) = false := by decide
    have c1 : (items.isEmpty || (1 : Int) == 1) = true := by simp
    wp_walk using wpAny_loadPart' hl
    repeat (first
      | (refine wpAny_ite_false (decide_eq_false (by rw [c0]; exact Bool.false_ne_true)) ?_; wp_walk using wpAny_loadPart' hl)
      | (refine wpAny_ite_true (decide_eq_true (by rw [c1])) ?_; wp_walk using wpAny_loadPart' hl))
    exact ⟨_, rfl, h⟩
/-- a tuple times a count of at least one -/
def rRepA (K : PySem.W.Frag) : R2 := fun x y H Q => ∃ (l : Addr) (k : Nat) (xs : List V), x = .ref l ∧ y = .int k ∧ H l = some (.tup xs) ∧ xs ≠ [] ∧ 1 ≤ k ∧ k ≤ 1000 ∧ xs.length ≤ 1000 ∧ ∀ p H', Same H H' → H' p = some (.tup (List.replicate k xs).flatten) → Q (.ref p) H'
section
variable {X : Cx}
theorem op_repA : OpR X (binaryOp .Mult) (rRepA X.K) := by
  intro pins s σ H x y v u Q I rx ry h
  obtain ⟨l, k, xs, rfl, rfl, hT, hne, h1, h2, hz, q⟩ := h
  by_cases hk : 2 ≤ k
  · refine op_repT pins s σ H _ _ _ _ Q I rx ry ⟨l, k, xs, rfl, rfl, .inl (.inl hT), hne, by omega, by omega, hz, fun p hp => ?_⟩
    have e : ((k : Nat) : Int).toNat = k := by simp
    rw [e]
    exact q p _ (Same.new hp) upd_same
  · obtain rfl : k = 1 := by omega
    cases rx
    obtain ⟨t, rfl⟩ := ry
    obtain ⟨its, r, ⟨⟨cls, dd, data, sl⟩, ho, hc, n, hd⟩, hs⟩ := I.tuple (.inl (.inl hT))
    simp only at hc hd
    subst hc hd
    refine wpAny_binaryOp_repeat_ref (T := "tuple") (U := "int") (by decide) ⟨_, ho, rfl⟩ (fun s' => typeIs_int s' 1 t) noFill_tuple_mul F.fills_int_mul F.slot_int_rmul repeat_tuple F.slot_int_index.lookup
      (call_meets F.slot_int_rmul (typeIs_int s 1 t) F.entry_int_rmul (F.args_int_rmul_2 _ _) (int_rmul_tuple 1 t l its.toArray n dd sl)
        ⟨ho, rfl, ⟨_, ho, rfl⟩, call_meets F.slot_tuple_mul ⟨_, ho, rfl⟩ F.entry_tuple_mul (F.args_tuple_mul_2 _ _) (tuple_mul_one l its.toArray n dd sl t) ⟨ho, ?_⟩⟩)
    refine ⟨.ref l, _, I, rfl, q l H (Same.refl _) ?_⟩
    rw [hT]
    simp
end
/-- tuples of ints at the addresses as -/
def AsT (H : Hp) (as : List Addr) (hss : List (List Int)) : Prop := as.length = hss.length ∧ ∀ (i : Nat) t hs, as[i]? = some t → hss[i]? = some hs → H t = some (.tup (hs.map V.int))
theorem AsT.same {H H' : Hp} {as : List Addr} {hss : List (List Int)} (e : Same H H') (h : AsT H as hss) : AsT H' as hss := ⟨h.1, fun i t hs h1 h2 => e _ _ (h.2 i t hs h1 h2)⟩
theorem AsT.nil {H : Hp} : AsT H [] [] := ⟨rfl, fun i t hs h _ => by simp at h⟩
theorem AsT.snoc {H : Hp} {as : List Addr} {hss : List (List Int)} {t : Addr} {hs : List Int} (h : AsT H as hss) (ht : H t = some (.tup (hs.map V.int))) : AsT H (as ++ [t]) (hss ++ [hs]) := by
  refine ⟨by rw [List.length_append, List.length_append, h.1]; rfl, fun i u gs h1 h2 => ?_⟩
  by_cases hlt : i < as.length
  · rw [List.getElem?_append_left hlt] at h1
    rw [List.getElem?_append_left (by rw [← h.1]; exact hlt)] at h2
    exact h.2 i u gs h1 h2
  · rw [List.getElem?_append_right (by omega)] at h1
    rw [List.getElem?_append_right (by rw [← h.1]; omega), ← h.1] at h2
    cases hk : i - as.length with
    | zero =>
      rw [hk] at h1 h2
      simp only [List.getElem?_cons_zero, Option.some.injEq] at h1 h2
      rw [← h1, ← h2]; exact ht
    | succ m => rw [hk] at h1; simp at h1
/-- a list of tuples of ints, at a -/
def LstT (H : Hp) (a : Addr) (hss : List (List Int)) : Prop := ∃ as : List Addr, H a = some (.lst (as.map V.ref)) ∧ AsT H as hss
theorem LstT.same {H H' : Hp} {a : Addr} {hss : List (List Int)} (e : Same H H') (h : LstT H a hss) : LstT H' a hss := by
  obtain ⟨as, h1, h2⟩ := h
  exact ⟨as, e _ _ h1, h2.same e⟩
theorem scal_bl (b c : Bool) : scal (.bl b) (.bl c) = true := rfl
theorem dpAll_tups {K : PySem.W.Frag} {H : Hp} : ∀ {as : List Addr} {hss : List (List Int)}, AsT H as hss → DpAll K H (as.map V.ref) (hss.map tupI)
  | [], [], _ => .nil
  | [], _ :: _, h => by have := h.1; simp at this
  | _ :: _, [], h => by have := h.1; simp at this
  | a :: as, hs :: hss, h => .cons (dp_tupI (.inl (.inl (h.2 0 a hs rfl rfl)))) (dpAll_tups ⟨by simpa using h.1, fun i t gs h1 h2 => h.2 (i + 1) t gs h1 h2⟩)
theorem canLay_tups : ∀ hss : List (List Int), PyData.canLayAll0 (hss.map tupI) = true
  | [] => rfl
  | hs :: hss => by
    show (PyData.canLay0 (tupI hs) && PyData.canLayAll0 (hss.map tupI)) = true
    rw [canLay_tups hss, show PyData.canLay0 (tupI hs) = true from canLay_ints hs]
    rfl
theorem depth_tups : ∀ hss : List (List Int), PyData.depthAll (hss.map tupI) ≤ 1
  | [] => by decide
  | hs :: hss => by
    show max (PyData.depth (tupI hs)) (PyData.depthAll (hss.map tupI)) ≤ 1
    rw [depth_tupI]
    have := depth_tups hss
    omega
theorem shaped_tups (hss : List (List Int)) : SeqAt.shaped (.list (hss.map tupI)) = true := by
  have h1 : PyData.canLay0 (.list (hss.map tupI)) = true := canLay_tups hss
  have h2 : PyData.depth (.list (hss.map tupI)) ≤ 64 := by
    show PyData.depthAll (hss.map tupI) + 1 ≤ 64
    have := depth_tups hss
    omega
  unfold SeqAt.shaped
  rw [h1, decide_eq_true h2]
  rfl
theorem any_tups (ns : List Int) : ∀ hss : List (List Int), ((hss.map tupI).any fun z => PyData.eqv z (tupI ns)) = decide (ns ∈ hss)
  | [] => by simp
  | hs :: hss => by
    rw [List.map_cons, List.any_cons, any_tups ns hss, eqv_tupI]
    by_cases h : hs = ns
    · subst h; simp
    · have h' : ¬ ns = hs := fun e => h e.symm
      simp [h, h']
section
variable {K : PySem.W.Frag} {H : Hp} {a b : Addr} {ns ms : List Int} {hss : List (List Int)} {Q : VK}
theorem dp_lstT (h : LstT H a hss) : Dp K H (.ref a) (.list (hss.map tupI)) := by
  obtain ⟨as, h1, h2⟩ := h
  exact .lst (.inl (.inl h1)) (dpAll_tups h2)
theorem inD_tups (h1 : H a = some (.tup (ns.map V.int))) (h2 : LstT H b hss) (q : Q (.bl (decide (ns ∈ hss))) H) : rInD K (.ref a) (.ref b) H Q :=
  ⟨_, _, dp_tupI (.inl (.inl h1)), dp_lstT h2, shaped_tupI _, shaped_tups _, by rw [any_tups]; exact q⟩
theorem notInD_tups (h1 : H a = some (.tup (ns.map V.int))) (h2 : LstT H b hss) (q : Q (.bl (!decide (ns ∈ hss))) H) : rNotInD K (.ref a) (.ref b) H Q :=
  ⟨_, _, dp_tupI (.inl (.inl h1)), dp_lstT h2, shaped_tupI _, shaped_tups _, by rw [any_tups]; exact q⟩
theorem shaped_lstI (ns : List Int) : SeqAt.shaped (.list (ns.map PyData.int)) = true := by
  have h1 : PyData.canLay0 (.list (ns.map PyData.int)) = true := canLay_ints ns
  have h2 : PyData.depth (.list (ns.map PyData.int)) ≤ 64 := by
    show PyData.depthAll (ns.map PyData.int) + 1 ≤ 64
    rw [depth_ints ns]
    decide
  unfold SeqAt.shaped
  rw [h1, decide_eq_true h2]
  rfl
theorem eqv_lstI (ns ms : List Int) : PyData.eqv (.list (ns.map PyData.int)) (.list (ms.map PyData.int)) = decide (ns = ms) := eqvAll_ints ns ms
theorem eqD_lst (h1 : H a = some (.lst (ns.map V.int))) (h2 : H b = some (.lst (ms.map V.int))) (q : Q (.bl (decide (ns = ms))) H) : rEqD K (.ref a) (.ref b) H Q :=
  ⟨_, _, .lst (.inl (.inl h1)) (dpAll_ints ns), .lst (.inl (.inl h2)) (dpAll_ints ms), shaped_lstI _, shaped_lstI _, by rw [eqv_lstI]; exact q⟩
theorem neD_lst (h1 : H a = some (.lst (ns.map V.int))) (h2 : H b = some (.lst (ms.map V.int))) (q : Q (.bl (!decide (ns = ms))) H) : rNeD K (.ref a) (.ref b) H Q :=
  ⟨_, _, .lst (.inl (.inl h1)) (dpAll_ints ns), .lst (.inl (.inl h2)) (dpAll_ints ms), shaped_lstI _, shaped_lstI _, by rw [eqv_lstI]; exact q⟩
theorem eqv_tups : ∀ (hss gss : List (List Int)), PyData.eqvAll (hss.map tupI) (gss.map tupI) = decide (hss = gss)
  | [], [] => rfl
  | [], _ :: _ => rfl
  | _ :: _, [] => rfl
  | hs :: hss, gs :: gss => by
    show (PyData.eqv (tupI hs) (tupI gs) && PyData.eqvAll (hss.map tupI) (gss.map tupI)) = _
    rw [eqv_tups hss gss, eqv_tupI]
    by_cases h : hs = gs <;> by_cases h2 : hss = gss <;> simp [h, h2]
theorem neD_tups {gss : List (List Int)} (h1 : LstT H a hss) (h2 : LstT H b gss) (q : Q (.bl (!decide (hss = gss))) H) : rNeD K (.ref a) (.ref b) H Q :=
  ⟨_, _, dp_lstT h1, dp_lstT h2, shaped_tups _, shaped_tups _, by rw [show PyData.eqv (.list (hss.map tupI)) (.list (gss.map tupI)) = decide (hss = gss) from eqv_tups hss gss]; exact q⟩
end
theorem _root_.L2.Room.units1 {k : Nat} {A : Around} (r : Room k A) : A.units + 65 < cLine := by have := r.un; omega
theorem call_isIK {X : Cx} {K : PySem.W.Frag} (h : X.K = K) : CallR X (.builtin "isinstance") (rIsI K) := by subst h; exact call_isI
theorem call_isAK {X : Cx} {K : PySem.W.Frag} (h : X.K = K) : CallR X (.builtin "isinstance") (rIsA K) := by subst h; exact call_isA
end Cs

/-! sets of tuples of ints: set(), x in s, x not in s, s.add(x) -/
namespace Cs
open PySem PySem.Spec PyProof.Rows L2
section
variable {P : Program} {w : World} {A : Around} {E : Value → Shared → Prop} {s : Shared} {a : Addr} {L : List (Addr × List Int)} {es : Array (Int × Value)} {ep : Nat} {t : SetTable}
/-- the c-th probe of a search for a hash -/
abbrev pr (t : SetTable) (h : Int) (c : Nat) : SetTable.Probe := nth t.mask (runAt t.mask (SetTable.bits h % (t.mask + 1)) (SetTable.bits h)) c
theorem nth_clean (m : Nat) : ∀ (n : Nat) (p : SetTable.Probe), p.dummy = none → (nth m p n).dummy = none
  | 0, p, h => h
  | n + 1, p, h => nth_clean m n (adv m p) (by unfold adv; split <;> exact h)
/-- what the table's probe meets from the c-th place on: a row of the same hash, or the empty slot -/
theorem probe_at (R : SetTR P w s.heap a L es ep t) {k : List Int} {K c : Nat} (hKf : K < 10 * SetTable.turns t.mask) (hK : way t.mask (thash P w k) K ∉ t.place.toList) (hKb : ∀ c, c < K → way t.mask (thash P w k) c ∈ t.place.toList) (hc : c ≤ K) :
    (∃ q i p, c + q < K ∧ t.place.toList[i]? = some (way t.mask (thash P w k) (c + q)) ∧ L[i]? = some p ∧
      (∀ (q' i' : Nat) (p' : Addr × List Int), q' < q → L[i']? = some p' → t.place.toList[i']? = some (way t.mask (thash P w k) (c + q')) → p'.2 ≠ k) ∧
      t.probe (fun i => (es[i]?.map (·.1)).getD 0) (thash P w k) (pr t (thash P w k) c) = some (.candidate (way t.mask (thash P w k) (c + q)) i (pr t (thash P w k) (c + q + 1)))) ∨
    ((∀ (q' i' : Nat) (p' : Addr × List Int), c + q' < K → L[i']? = some p' → t.place.toList[i']? = some (way t.mask (thash P w k) (c + q')) → p'.2 ≠ k) ∧
      t.probe (fun i => (es[i]?.map (·.1)).getD 0) (thash P w k) (pr t (thash P w k) c) = some (.empty (way t.mask (thash P w k) K) none)) := by
  have shift : ∀ q, nth t.mask (pr t (thash P w k) c) q = pr t (thash P w k) (c + q) := fun q => (nth_add t.mask c _ q).symm
  have shj : ∀ q, (nth t.mask (pr t (thash P w k) c) q).j = way t.mask (thash P w k) (c + q) := fun q => congrArg SetTable.Probe.j (shift q)
  have hash : ∀ (i : Nat) p, L[i]? = some p → (fun i => (es[i]?.map (·.1)).getD 0) i = thash P w p.2 := fun i p hp => by
    show (es[i]?.map (·.1)).getD 0 = _
    rw [R.entry hp]
    rfl
  have same : ∀ {i : Nat} {p : Addr × List Int}, L[i]? = some p → (fun i => (es[i]?.map (·.1)).getD 0) i ≠ thash P w k → p.2 ≠ k := fun {i p} hp hne e => hne (by rw [hash i p hp, e])
  rcases go_spec t R.tab.ris R.tab.dm (fun i => (es[i]?.map (·.1)).getD 0) (thash P w k) (10 * SetTable.turns t.mask) (K - c) (pr t (thash P w k) c) (nth_clean _ _ _ rfl) (by omega)
    (fun q hq => by rw [shj]; exact hKb _ (by omega)) (by rw [shj, show c + (K - c) = K by omega]; exact hK) with ⟨q, i, hq, hi, _, hno, hp⟩ | ⟨hno, hp⟩
  · left
    rw [shj] at hi
    have hil : i < L.length := by
      have h1 := (List.getElem?_eq_some_iff.mp hi).1
      have h2 := R.tab.sz
      rw [List.length_map] at h2
      rw [Array.length_toList] at h1
      omega
    refine ⟨q, i, L[i], by omega, hi, List.getElem?_eq_getElem hil, fun q' i' p' h1 h2 h3 => same h2 (hno q' i' h1 (by rw [shj]; exact h3)), ?_⟩
    rw [shj, shift] at hp
    exact hp
  · right
    refine ⟨fun q' i' p' h1 h2 h3 => same h2 (hno q' i' (by omega) (by rw [shj]; exact h3)), ?_⟩
    rw [shj, show c + (K - c) = K by omega] at hp
    exact hp
/-- the search that a question asks for -/
theorem look_from (R : SetTR P w s.heap a L es ep t) {x : Addr} {k : List Int} (hx : IsT P w s.heap k x) (hu : A.units < cLine) {K : Nat} (hKf : K < 10 * SetTable.turns t.mask) (hK : way t.mask (thash P w k) K ∉ t.place.toList)
    (hKb : ∀ c, c < K → way t.mask (thash P w k) c ∈ t.place.toList) {Q : SetFound → Shared → Prop} (hin : k ∈ L.map (·.2) → ∀ i, Q (.there (some i)) s) (hout : k ∉ L.map (·.2) → ∀ j, Q (.free j false) s) :
    ∀ (f c : Nat) (st : Option SetTable.Probe), st.getD (t.probeStart (thash P w k)) = pr t (thash P w k) c → c ≤ K → K - c < f →
      (∀ (i : Nat) p, L[i]? = some p → p.2 = k → ∃ c', c ≤ c' ∧ c' < K ∧ t.place.toList[i]? = some (way t.mask (thash P w k) c')) → wpAny (model P w) A (setSearchFrom a (.ref x) (thash P w k) false f st) Q E s := by
  intro f
  induction f with
  | zero => intro c st _ _ h _; exact absurd h (Nat.not_lt_zero _)
  | succ f ih =>
    intro c st hst hc hf hre
    obtain ⟨o, ho, hex, hd⟩ := R.ob
    rw [setSearchFrom_succ]
    refine wpAny_bind (wpAny_setState_of ho hd R.fits ?_)
    dsimp only
    refine wp_if_neg R.gw ?_
    try refine wpAny_bind (wpAny_pure ?_)
    rw [hst]
    rcases probe_at R hKf hK hKb hc with ⟨q, i, p, hq, hi, hp, hno, e⟩ | ⟨hno, e⟩
    · rw [e]
      dsimp only
      have hm : p ∈ L := List.mem_of_getElem? hp
      have live : t.slot (way t.mask (thash P w k) (c + q)) = .live i := slot_live R.tab.ris hi
      have rest : wpAny (model P w) A (searchRest a (.ref x) (thash P w k) false f es t (way t.mask (thash P w k) (c + q)) i (pr t (thash P w k) (c + q + 1))) Q E s := by
        unfold searchRest
        rw [R.entry hp]
        dsimp only
        refine wpAny_bind (wpAny_holding (wpAny_eqBool_tuple hu (R.tup p hm) hx ?_))
        refine wpAny_bind (wpAny_setState_of ho hd R.fits ?_)
        dsimp only
        refine wp_if_neg (by simp) ?_
        try refine wpAny_bind (wpAny_pure ?_)
        rw [sameMem]
        dsimp only
        simp only [if_true, live, R.entry hp]
        refine wpAny_bind (wpAny_isSame_ref_self (wpAny_bind (wpAny_pure ?_)))
        simp only [if_true]
        by_cases hk : p.2 = k
        · refine wp_if_pos (by simp [hk]) ?_
          exact wpAny_pure (hin (List.mem_map.mpr ⟨p, hm, hk⟩) i)
        · refine wp_if_neg (by simp [hk]) ?_
          refine ih (c + q + 1) _ rfl (by omega) (by omega) fun i0 p0 h0 hk0 => ?_
          obtain ⟨c', a1, a2, a3⟩ := hre i0 p0 h0 hk0
          refine ⟨c', ?_, a2, a3⟩
          by_cases h1 : c' < c + q
          · exact absurd hk0 (hno (c' - c) i0 p0 (by omega) h0 (by rw [show c + (c' - c) = c' by omega]; exact a3))
          · by_cases h2 : c' = c + q
            · exfalso
              have l2 := slot_live R.tab.ris a3
              rw [h2, live] at l2
              injection l2 with l2
              rw [← l2, hp] at h0
              exact hk ((congrArg Prod.snd (Option.some.inj h0)).trans hk0)
            · omega
      by_cases hl : t.led = true
      · refine wp_if_neg (by simp [hl]) ?_
        try refine wpAny_bind (wpAny_pure ?_)
        exact rest
      · refine wp_if_pos (by simp [hl]) ?_
        refine wpAny_bind (seen_tup hx (fun y hy => ?_) ?_)
        · obtain ⟨e1, he1, rfl⟩ := List.mem_map.mp hy
          have he2 : e1 ∈ es.toList := by
            have h1 : e1 ∈ es ∧ e1.1 = thash P w k := by simpa using he1
            simpa using h1.1
          rw [R.rows] at he2
          obtain ⟨p2, hp2, rfl⟩ := List.mem_map.mp he2
          exact ⟨p2.2, p2.1, rfl, R.tup p2 hp2⟩
        · refine wp_if_neg (by decide) ?_
          try refine wpAny_bind (wpAny_pure ?_)
          exact rest
    · rw [e]
      dsimp only
      refine wpAny_pure (hout (fun hm => ?_) _)
      obtain ⟨p0, h0, hk0⟩ := List.mem_map.mp hm
      obtain ⟨i0, hi0, e0⟩ := List.getElem_of_mem h0
      have h00 : L[i0]? = some p0 := by rw [List.getElem?_eq_getElem hi0, e0]
      obtain ⟨c', a1, a2, a3⟩ := hre i0 p0 h00 hk0
      exact hno (c' - c) i0 p0 (by omega) h00 (by rw [show c + (c' - c) = c' by omega]; exact a3) hk0
theorem look_at (R : SetTR P w s.heap a L es ep t) {x : Addr} {k : List Int} (hx : IsT P w s.heap k x) (hu : A.units < cLine) {Q : SetFound → Shared → Prop} (hin : k ∈ L.map (·.2) → ∀ i, Q (.there (some i)) s) (hout : k ∉ L.map (·.2) → ∀ j, Q (.free j false) s) :
    wpAny (model P w) A (setSearch a (.ref x) (thash P w k)) Q E s := by
  have hroom := R.room
  obtain ⟨K, hKf, hK, hKb⟩ := R.tab.first (by rw [List.length_map]; omega) (thash P w k)
  have hbig : K < 100000 := by
    have : 10 * SetTable.turns t.mask ≤ 1420 := by
      unfold SetTable.turns
      rcases R.tab.mok with e | e | e <;> omega
    omega
  unfold setSearch
  refine look_from R hx hu hKf hK hKb hin hout 100000 0 none rfl (Nat.zero_le _) (by omega) fun i p hp hk => ?_
  have hi : (L.map fun p => thash P w p.2)[i]? = some (thash P w k) := by rw [List.getElem?_map, hp, ← hk]; rfl
  have hil : i < t.place.toList.length := by
    have h1 : i < L.length := (List.getElem?_eq_some_iff.mp hp).1
    have h2 := R.tab.sz
    rw [List.length_map] at h2
    rw [Array.length_toList]
    omega
  obtain ⟨c, hc, e⟩ := R.tab.before hK hi (List.getElem?_eq_getElem hil)
  exact ⟨c, Nat.zero_le _, hc, by rw [List.getElem?_eq_getElem hil, e]⟩
/-- x in s at the model's level -/
theorem find_tup (R : SetTR P w s.heap a L es ep t) {x : Addr} {k : List Int} (hx : IsT P w s.heap k x) (hu : A.units < cLine) {Q : Option Nat → Shared → Prop} (h : ∀ r, r.isSome = decide (k ∈ L.map (·.2)) → Q r s) :
    wpAny (model P w) A (setFind a (.ref x) (thash P w k)) Q E s := by
  obtain ⟨o, ho, hex, hd⟩ := R.ob
  unfold setFind
  rw [show (100000 : Nat) = 99999 + 1 from rfl]
  unfold setFindIn
  refine wpAny_bind (wpAny_setState_of ho hd R.fits ?_)
  dsimp only
  refine wp_if_neg (by simp [byScan, Value.scannable]) ?_
  try refine wpAny_bind (wpAny_pure ?_)
  refine wpAny_bind (look_at R hx hu (fun hm i => ?_) fun hm j => ?_)
  · exact wpAny_pure (h _ (by rw [decide_eq_true hm]; rfl))
  · exact wpAny_pure (h _ (by rw [decide_eq_false hm]; rfl))
end
section
variable {X : Cx}
theorem setTO_got {pins : List (Addr × Obj)} {σ : L2.St} {H : Hp} {s : Shared} {a : Addr} {L : List (Addr × List Int)} (I : Inv X pins σ H s) (ha : H a = some (SetTO X.prog X.w a L)) (hk : ∀ p ∈ L, H p.1 = some (.tup (p.2.map V.int))) :
    ∃ es ep t, SetTR X.prog X.w s.heap a L es ep t := (I.hok a _ ha).1.full fun p hp => I.isT (.inl (.inl (hk p hp)))
/-- set(), to be filled with tuples of ints -/
def rSet0T (P : Program) (w : World) : List V → Hp → VK → Prop := fun xs H Q => xs = [] ∧ ∀ p, H p = none → Q (.ref p) (upd H p (SetTO P w p []))
theorem cr_set0T : CallR X (.type "set") (rSet0T X.prog X.w) := by
  intro pins s σ H xs us Q I r h
  obtain ⟨rfl, q⟩ := h
  cases r
  refine setR_new fun _ => ?_
  exact ⟨.ref _, upd H s.heap.objs.size (SetTO X.prog X.w s.heap.objs.size []), I.laid (t' := s.toks) (fun b u e => Heap.get?_push_of_some _ e) (Nat.le_refl _) (setTO_new (setTR_fresh (Heap.get?_push_size _ rfl)).t0), rfl, q _ (I.hok.fresh (Nat.le_refl _))⟩
/-- t in s, t not in s -/
def rInT (P : Program) (w : World) (neg : Bool) : R2 := fun x y H Q => ∃ (b a : Addr) (k : List Int) (L : List (Addr × List Int)), x = .ref b ∧ y = .ref a ∧ H b = some (.tup (k.map V.int)) ∧ H a = some (SetTO P w a L) ∧ (∀ p ∈ L, H p.1 = some (.tup (p.2.map V.int))) ∧
  Q (.bl (if neg then !decide (k ∈ L.map (·.2)) else decide (k ∈ L.map (·.2)))) H
theorem contains_tup {P : Program} {w : World} {A : Around} {E : Value → Shared → Prop} {s : Shared} {a x : Addr} {L : List (Addr × List Int)} {es : Array (Int × Value)} {ep : Nat} {t : SetTable} {k : List Int} {Q : Bool → Shared → Prop}
    (R : SetTR P w s.heap a L es ep t) (hx : IsT P w s.heap k x) (hu : A.units + 64 < cLine) (h : ∀ tk, Q (decide (k ∈ L.map (·.2))) { s with toks := tk }) : wpAny (model P w) A (contains (.ref a) (.ref x)) Q E s := by
  obtain ⟨o, ho, hex, hd⟩ := id R.ob
  have ty : s.TypeIs (.ref a) "set" := ⟨o, ho, hex.1⟩
  have hu1 : A.in1.units < cLine := by
    show A.units + 1 < cLine
    omega
  unfold contains
  try with_reducible refine wpAny_holding ?_
  refine wpAny_bind (wpAny_specialOf ty F.slot_set_contains.lookup ?_)
  show wpAny _ _ (if (some (Value.builtin "set.__contains__") == some Value.none) = true then _ else _) _ E s
  rw [if_neg (by rw [beq_builtin_none]; exact Bool.false_ne_true)]
  refine wpAny_bind (wpAny_callSpecialUnlessNone?_slot (name := Str.ofString "__contains__") ty F.slot_set_contains
    (wpAny_call_entry F.slot_set_contains ty entry_set_contains ?_ (F.args_set_contains_2 _ _)))
  unfold Builtin.«frozenset.__contains__» Builtin.Frozenset.oneOther
  simp only [List.isEmpty_nil, bind_assoc]
  unfold Builtin.Frozenset.addrOf Builtin.Frozenset.withSetAsKey setContains
  refine wpAny_bind (wpAny_pure ?_)
  try dsimp only
  refine wpAny_bind (wpAny_pure ?_)
  try dsimp only
  refine wpAny_bind (wpAny_tryCatch ?_)
  refine wpAny_holding ?_
  refine wpAny_bind (wpAny_pyHash_tuple hu1 hx ?_)
  refine wpAny_bind (find_tup (s := { s with toks := s.toks + (k.length + 1) }) R hx hu1 fun r hr => ?_)
  refine wpAny_pure ?_
  show wpAny _ _ (ret (Value.bool r.isSome)) _ _ _
  rw [hr]
  exact wpAny_pure ⟨_, rfl, wpAny_truthy_bool (h _)⟩
theorem op_inT (hu : X.A.units + 64 < cLine) : OpR X (compareOp .In) (rInT X.prog X.w false) := by
  intro pins s σ H x y v u Q I rx ry h
  obtain ⟨b, a, k, L, rfl, rfl, hb, ha, hk, q⟩ := h
  cases rx
  cases ry
  obtain ⟨es, ep, t, R⟩ := setTO_got I ha hk
  show wpAny _ _ ((contains (Value.ref a) (Value.ref b)) >>= fun b => pure (Value.bool b)) _ _ s
  exact wpAny_bind (contains_tup R (I.isT (.inl (.inl hb))) hu fun tk => wpAny_pure ⟨.bl _, H, I.tok _, rfl, q⟩)
theorem op_notInT (hu : X.A.units + 64 < cLine) : OpR X (compareOp .NotIn) (rInT X.prog X.w true) := by
  intro pins s σ H x y v u Q I rx ry h
  obtain ⟨b, a, k, L, rfl, rfl, hb, ha, hk, q⟩ := h
  cases rx
  cases ry
  obtain ⟨es, ep, t, R⟩ := setTO_got I ha hk
  show wpAny _ _ ((contains (Value.ref a) (Value.ref b)) >>= fun b => pure (Value.bool !b)) _ _ s
  exact wpAny_bind (contains_tup R (I.isT (.inl (.inl hb))) hu fun tk => wpAny_pure ⟨.bl _, H, I.tok _, rfl, q⟩)
/-- s.add(t) -/
def rAddT (P : Program) (w : World) : V → List V → Hp → VK → Prop := fun x xs H Q => ∃ (b a : Addr) (k : List Int) (L : List (Addr × List Int)), x = .ref a ∧ xs = [.ref b] ∧ H b = some (.tup (k.map V.int)) ∧ H a = some (SetTO P w a L) ∧ (∀ p ∈ L, H p.1 = some (.tup (p.2.map V.int))) ∧ L.length + 1 < 64 ∧
  ∀ L', (k ∈ L.map (·.2) → L' = L) → (k ∉ L.map (·.2) → L'.Perm ((b, k) :: L)) → Q .non (upd H a (SetTO P w a L'))
theorem mt_addT (hu : X.A.units + 64 < cLine) : MtR X "set.add" (rAddT X.prog X.w) := by
  intro pins s σ H x xs v us Q I rx rxs h
  obtain ⟨b, a, k, L, rfl, rfl, hb, ha, hk, hl, q⟩ := h
  cases rx
  cases rxs with
  | cons ry rt =>
    cases rt
    cases ry
    obtain ⟨es, ep, t, R⟩ := setTO_got I ha hk
    obtain ⟨o, ho, hex, hd⟩ := id R.ob
    have ty : s.TypeIs (.ref a) "set" := ⟨o, ho, hex.1⟩
    have hx := I.isT (.inl (.inl hb)) (b := b) (k := k)
    refine wpAny_call_entry F.slot_set_add ty F.entry_set_add ?_ (F.args_set_add_2 _ _)
    have hu1 : X.A.in1.units < cLine := by
      show X.A.units + 1 < cLine
      omega
    unfold Builtin.«set.add» Builtin.Frozenset.oneOther
    simp only [List.isEmpty_nil, bind_assoc]
    unfold Builtin.Frozenset.addrOf setAdd
    refine wpAny_bind (wpAny_pure ?_)
    try dsimp only
    refine wpAny_bind (wpAny_pure ?_)
    try dsimp only
    refine wpAny_bind ?_
    refine wpAny_holding ?_
    refine wpAny_bind (wpAny_pyHash_tuple hu1 hx ?_)
    refine add_at (s := { s with toks := s.toks + (k.length + 1) }) R hx hu1 hl fun b' h' L' es' ep' t' sb R' c1 c2 => ?_
    show wpAny _ _ (ret Value.none) _ _ _
    obtain ⟨o', ho', _⟩ := R'.ob
    exact wpAny_pure ⟨_, rfl, .non, upd H a (SetTO X.prog X.w a L'), I.write (e := a) (t' := s.toks + (k.length + 1)) (by rw [ha]; trivial) (.inl rfl) (fun c u hc hu => (sb.2 c hc).trans hu) ⟨o', ho'⟩ (setTO_new R'.t0), rfl, q L' c1 c2⟩
def tAddT (P : Program) (w : World) (to : TE) (t : TA) : TE := fun σ H Q => to σ H fun x H1 => (∃ a L, x = V.ref a ∧ H1 a = some (SetTO P w a L)) ∧ t σ H1 fun xs H2 => rAddT P w x xs H2 Q
variable {o e : Expr} {to : TE} {t : TA} {apos cpos : Pos}
theorem pe_addT (hu : X.A.units + 64 < cLine) (ho : PE X o to) (ha : PA X [e] t)
    (hbase : attributeBase o "add" X.env (eval o X.env) = eval o X.env := by rfl)
    (hfew : ((backTo cpos (starEach [e] X.env)).all (fun x => !x.1) && (backToKw cpos (keywordEach [] X.env)).all (fun x => x.1.isSome)
      && decide (([e] : List Expr).length + ([] : List Keyword).length + (if ([] : List Keyword).isEmpty then 0 else 1) < 30)) = true := by rfl)
    (hline : (apos.endLine == cpos.line) = true := by rfl) (hs : starEach [e] X.env = (false, eval e X.env) :: starEach [] X.env := by rfl) :
    PE X (.Call (.Attribute o "add" apos) [e] [] cpos) (tAddT X.prog X.w to t) := by
  refine ⟨fun pins s σ H Q I h => wpAny_Call_method_late hbase hfew hline rfl (thn (ho.run pins s σ H _ I h) fun v s1 ⟨x, H1, I1, r1, ty, q1⟩ => ?_)⟩
  obtain ⟨a, L, rfl, hka⟩ := ty
  obtain ⟨_, _, _, ⟨ob, hob, hex, hd⟩, _⟩ := SetT0.ex (I1.hok a _ hka).1
  cases r1
  refine ⟨"set", "set.add", F.plainAttrs_set, F.slot_set_add, F.type_set_add, ⟨ob, hob, hex.1⟩, ?_, ?_⟩
  · intro a' e
    cases e
    exact ⟨ob, hob, hex.2.1⟩
  have hA := ha.run cpos pins s1 σ H1 _ I1 q1
  rw [hs] at hA ⊢
  refine Calls.callWith_builtin rfl (Calls.evalArgs_plain ?_)
  exact thn hA fun us s2 ⟨vs, H2, I2, r2, q2⟩ => mt_addT hu pins s2 σ H2 (.ref a) vs (.ref a) us Q I2 rfl r2 q2
end
end Cs

/-! for i, x in enumerate(v), v a list or a tuple -/
namespace Cs
open PySem PySem.Spec PyProof.Rows L2
theorem enum1_new {v : Value} {o : Obj} {G : Heap → Prop} (B : Begins v o G) :
    Meets (Builtin.«enumerate.__new__» ⟨[.type "enumerate", v], []⟩) (fun _ R s => G s.heap ∧
      R (.ok (.ret (.ref (s.heap.push o).objs.size))) { s with heap := (s.heap.push o).push { cls := .type "enumerate", data := .fields #[.none, .bool false, .ref s.heap.objs.size, rawInt 0, .none, .none] } }) :=
  .of_wp fun prog w A R s h => by
    obtain ⟨hp, g, d, tk, os⟩ := s
    obtain ⟨h1, h⟩ := h
    have hsub := sub_enumerate
    have it : ∀ {A' : Around} {E : Value → Shared → Prop} {Q : Value → Shared → Prop}, Q (.ref hp.objs.size) ⟨hp.push o, g, d, tk, os⟩ → wpAny (model prog w) A' (pyIter v) Q E ⟨hp, g, d, tk, os⟩ :=
      fun q => B.iter prog w _ _ ⟨hp, g, d, tk, os⟩ _ h1 q
    wp_walk using it
    refine wpAny_stack_any fun st => wpAny_pure ?_
    split
    · rename_i c _ _ _ _ _
      cases (c == Value.type "enumerate") <;> (wp_walk using it; exact ⟨_, rfl, h⟩)
    · wp_walk using it
      exact ⟨_, rfl, h⟩
section
variable {prog : Program} {w : World} {A : Around} {E : Value → Shared → Prop} {s : Shared}
theorem enum1_begins {v : Value} {o : Obj} {G : Heap → Prop} {Q : Value → Shared → Prop} (B : Begins v o G) (h1 : G s.heap)
    (h : ∀ h', IsEnum h' (s.heap.objs.size + 1) s.heap.objs.size 0 .none → h'.get? s.heap.objs.size = some o → (∀ b o, s.heap.get? b = some o → h'.get? b = some o) → Q (.ref (s.heap.objs.size + 1)) { s with heap := h' }) :
    wpAny (model prog w) A (call (.type "enumerate") [v]) Q E s := by
  refine callType_new F.called_enumerate (by decide) (F.typeCall_enumerate_1 _) (F.newCall_enumerate_1 _) (fun obj => F.args_object_init_2 obj _) F.entry_enumerate_new (enum1_new B) ⟨h1, ?_⟩
  have hz : (s.heap.push o).objs.size = s.heap.objs.size + 1 := Heap.size_push ..
  have he := Heap.get?_push_size (s.heap.push o) (o := { cls := .type "enumerate", data := .fields #[.none, .bool false, .ref s.heap.objs.size, rawInt 0, .none, .none] }) rfl
  show _ ∧ _
  rw [hz] at he ⊢
  exact ⟨⟨_, he, rfl⟩, h _ he (Heap.get?_push_of_some _ (Heap.get?_push_size _ B.free)) fun b o x => Heap.get?_push_of_some _ (Heap.get?_push_of_some _ x)⟩
end
/-- the items in new pairs with their index -/
def Iek (K : PySem.W.Frag) (k : Bool) (a : Addr) : It :=
  ⟨fun i H => ∃ (xs : List V) (x : V), Sqk K k H a xs ∧ xs[i]? = some x, fun i H v H' => ∃ T x, v = .ref T ∧ H T = none ∧ H' = upd H T (.tup [.int (i : Nat), x]) ∧ ∀ xs, Sqk K k H a xs → xs[i]? = some x, fun i H => ∃ xs : List V, Sqk K k H a xs ∧ xs.length = i⟩
theorem turn_ek {P : Program} {w : World} {K : PySem.W.Frag} {elts : List Expr} {kk : Nat} {tpos : Pos} {k : Bool} {a e it : Addr} (n1 : a ≠ it) (n2 : e ≠ it) (n3 : e ≠ a) :
    Turn P w K (.Tuple elts kk tpos) (Iek K k a) [e, it] e (fun i h => (∃ old, IsEnum h e it ((i : Nat) : Int) old) ∧ ItK k h it a i) where
  mem := by simp
  obj := fun i h st c hc => by
    obtain ⟨⟨old, he⟩, hi⟩ := st
    have e' : c = e ∨ c = it := by simpa using hc
    rcases e' with q | q
    · rw [q]; exact ⟨_, he, fun v q => nomatch q⟩
    · rw [q]; exact hi.obj
  keep := fun i h h' st k => ⟨st.1.imp fun old he => k e (by simp) _ he, st.2.at fun o q => k it (by simp) o q⟩
  item := by
    intro X hP hw hK hc i pins s σ H E I hf st hg
    subst hP hw hK
    obtain ⟨xs, x, hqx, hx⟩ := hg
    obtain ⟨its, rv, p⟩ := invK I hqx
    obtain ⟨u, hu, ru⟩ := rv.get hx
    have D := drawsK (prog := X.prog) (w := X.w) (A := X.A.in1) (I.ok.hd hc) k it a n1 its.toArray
    have l1 : i < its.length := (List.getElem?_eq_some_iff.mp hu).1
    have W := GoesN.enumFrom (elts := elts) (x1 := kk) (pos := tpos) 0 D e n2 (by simp [n2, n3]) (by simp)
    have st0 : (∃ old, IsEnum s.heap e it (0 + ((i : Nat) : Int)) old) ∧ ItK k s.heap it a i ∧ SeqK k s.heap a its.toArray := by
      rw [Int.zero_add]
      exact ⟨st.1, st.2, p⟩
    refine W.goes i s (fun v s2 => ∃ x H', Inv X pins σ H' s2 ∧ RelV x v ∧ (Iek X.K k a).yld i H x H' ∧ ((∃ old, IsEnum s2.heap e it ((i + 1 : Nat) : Int) old) ∧ ItK k s2.heap it a (i + 1)) ∧ ∀ b ∈ [e, it], H' b = none) E (by simpa using l1) st0 fun v h' tk hY st' hk htk => ?_
    obtain ⟨T, tk0, v1, rfl, hT, e1, hTu⟩ := hY
    have q1 : v1 = u := by
      have e1' : its[i]? = some v1 := by simpa using e1
      rw [hu] at e1'; exact (Option.some.inj e1').symm
    subst q1
    have new : ObjOk X.prog X.w (upd H T (.tup [.int (i : Nat), x])) h' T (.tup [.int (i : Nat), x]) :=
      ⟨by show 2 ≤ sizeLine; decide, [.int (0 + (i : Int)) tk0, v1], .cons ⟨tk0, by rw [Int.zero_add]⟩ (.cons ru .nil), hTu⟩
    have I1 : Inv X pins σ (upd H T (.tup [.int (i : Nat), x])) { s with heap := h', toks := tk } :=
      I.turnedNew (t' := tk) (ch := [e, it]) (fun c o hb q => hk c o hb q) hf hT new
    refine ⟨.ref T, _, I1, rfl, ⟨T, x, rfl, I.hok.fresh hT, rfl, fun l hl => by rw [injK I hl hqx]; exact hx⟩, ⟨by have z := st'.1; rw [Int.zero_add] at z; exact z, st'.2.1⟩, fun c hcm => ?_⟩
    have hlt : c < s.heap.objs.size := by
      obtain ⟨⟨old, he⟩, hi⟩ := st
      have e' : c = e ∨ c = it := by simpa using hcm
      rcases e' with q | q
      · rw [q]; exact Heap.lt_size he
      · rw [q]; obtain ⟨_, e1, _⟩ := hi.obj; exact Heap.lt_size e1
    rw [upd_ne (Nat.ne_of_lt (Nat.lt_of_lt_of_le hlt hT))]
    exact (hf c hcm).1
  done := by
    intro X hP hw hK hc i pins s σ H E I hf st hg
    subst hP hw hK
    obtain ⟨xs, hqx, hi⟩ := hg
    obtain ⟨its, rv, p⟩ := invK I hqx
    have D := drawsK (prog := X.prog) (w := X.w) (A := X.A.in1) (I.ok.hd hc) k it a n1 its.toArray
    have W := GoesN.enumFrom (elts := elts) (x1 := kk) (pos := tpos) 0 D e n2 (by simp [n2, n3]) (by simp)
    have en : its.toArray.size = i := by
      have := rv.length
      simp only [List.size_toArray]
      omega
    have st0 : (∃ old, IsEnum s.heap e it (0 + ((its.toArray.size : Nat) : Int)) old) ∧ ItK k s.heap it a its.toArray.size ∧ SeqK k s.heap a its.toArray := by
      rw [en, Int.zero_add]
      exact ⟨st.1, st.2, p⟩
    refine W.stops s (fun s1 => Inv X pins σ H s1) E st0 fun h' tk hk htk => ?_
    exact I.turnedL (t' := tk) (ch := [e, it]) (fun c o hb q => hk c o (fun hm => hb (by simpa using hm)) q) hf
  self := fun A i s Q E st h => let ⟨⟨_, he⟩, _⟩ := st; wpAny_pyIter_enum he h
def YEn (xs : List V) : Nat → Hp → V → Hp → Prop := fun i H v H' => ∃ T x, v = .ref T ∧ H T = none ∧ H' = upd H T (.tup [.int (i : Nat), x]) ∧ xs[i]? = some x
theorem YEn.same {xs : List V} {i : Nat} {x : V} {H H' : Hp} (h : YEn xs i H x H') : Same H H' := by
  obtain ⟨T, y, _, hT, rfl, _⟩ := h
  exact Same.new hT
theorem walk_en {K : PySem.W.Frag} {k : Bool} {a : Addr} {xs : List V} : Walk (Iek K k a) xs.length (fun H => Sqh k H a xs) (YEn xs) := by
  refine ⟨fun i _ hi q => ⟨xs, xs[i], q.sqk, List.getElem?_eq_getElem hi⟩, fun _ q => ⟨xs, q.sqk, rfl⟩, fun i H v H' _ q y => ?_⟩
  obtain ⟨T, x, h1, h2, h3, h4⟩ := y
  exact ⟨T, x, h1, h2, h3, h4 xs q.sqk⟩
def iEnH (ta : TA) : TI := fun σ H R => ta σ H fun vs H1 => ∃ a, vs = [.ref a] ∧ ∃ (k : Bool) (xs : List V), Sqh k H1 a xs ∧ ∀ J : It, Walk J xs.length (fun H => Sqh k H a xs) (YEn xs) → R J H1
theorem pi_enH {X : Cx} {e : Expr} {ta : TA} {p pos tpos : Pos} {elts : List Expr} {kk : Nat} (hg : Gl X "enumerate") (hm : X.mg "enumerate" = none) (ha : PA X [e] ta) (hs : starEach [e] X.env = [(false, eval e X.env)] := by rfl) :
    PI X (.Tuple elts kk tpos) (.Call (.Name "enumerate" p) [e] [] pos) (iEnH ta) := by
  refine ⟨fun pins s σ H R I h => ?_⟩
  refine Call_ (ld_blt I hg hm boot_enumerate (PyProof.Rows.callWith_type1 (thn (ha.run pos pins s σ H _ I h) fun us s1 ⟨vs, H1, I1, r1, q1⟩ => ?_) hs rfl))
  obtain ⟨a, ex, k, xs, hq, q⟩ := q1
  subst ex
  have q := q (Iek X.K k a) walk_en
  cases r1 with
  | cons r rr =>
    cases rr
    cases r
    obtain ⟨its, rv, p'⟩ := invK I1 (hq.sqk (K := X.K))
    have la : a < s1.heap.objs.size := p'.lt
    refine enum1_begins (begK k a its.toArray) p' fun h' he hit hk => wpAny_pyIter_enum he ?_
    have I2 : Inv X pins σ H1 { s1 with heap := h' } := I1.kept (t' := s1.toks) hk
    refine ⟨s1.heap.objs.size + 1, [s1.heap.objs.size + 1, s1.heap.objs.size], _, _, H1, rfl, I2, turn_ek (k := k) (a := a) (Nat.ne_of_lt la) (Nat.succ_ne_self _) (Nat.ne_of_gt (Nat.lt_succ_of_lt la)), ⟨⟨.none, he⟩, ItK.new hit⟩, fun b hb => ?_, q⟩
    have e' : b = s1.heap.objs.size + 1 ∨ b = s1.heap.objs.size := by simpa using hb
    have hle : s1.heap.objs.size ≤ b := by
      rcases e' with z | z
      · rw [z]; exact Nat.le_add_right _ _
      · rw [z]; exact Nat.le_refl _
    exact I1.fpOk hle (I1.hok.fresh hle)
end Cs

namespace Cs
open PySem PySem.Spec PyProof.Rows L2
/-! ### readings that name the frame, for use within comprehensions -/
section
variable {X : Cx} {K : PySem.W.Frag}
theorem op_eqDK (h : X.K = K) (hu : X.A.units + 64 < cLine) : OpR X (compareOp .Eq) (rEqD K) := by subst h; exact op_eqD hu
theorem op_neDK (h : X.K = K) (hu : X.A.units + 64 < cLine) : OpR X (compareOp .NotEq) (rNeD K) := by subst h; exact op_neD hu
theorem op_inDK (h : X.K = K) (hu : X.A.units + 65 < cLine) : OpR X (compareOp .In) (rInD K) := by subst h; exact op_inD hu
theorem op_notInDK (h : X.K = K) (hu : X.A.units + 65 < cLine) : OpR X (compareOp .NotIn) (rNotInD K) := by subst h; exact op_notInD hu
theorem sl_listK (h : X.K = K) : SlR X (rSlL K) := by subst h; exact sl_list
theorem op_repAK (h : X.K = K) : OpR X (binaryOp .Mult) (rRepA K) := by subst h; exact op_repA
/-- xs[::-1] of a list -/
theorem pe_revLK (h : X.K = K) {e : Expr} {te : TE} {k : Nat} {p1 p2 p3 pos : Pos} (he : PE X e te) : PE X (.Subscript e (.Slice none none (some (.UnaryOp .USub (.Constant (.int 1) k p1) p2)) p3) pos) (tRevL K te) := by subst h; exact pe_revL he
end
end Cs

namespace Cs
open PySem PySem.Spec PyProof.Rows L2
/-! ### flat data -/
def dOf : V → PyData
  | .bl b => .bool b
  | .int i => .int i
  | .str x => .str x
  | _ => .none
def Flat0 : V → Prop
  | .non => True
  | .bl _ => True
  | .int _ => True
  | .str x => PyData.canLay0 (.str x) = true
  | _ => False
theorem dp_one {K : PySem.W.Frag} {H : Hp} : ∀ {v : V}, Flat0 v → Dp K H v (dOf v)
  | .non, _ => .non
  | .bl b, _ => .bl b
  | .int i, _ => .int i
  | .str x, _ => .str x
theorem dp_flat {K : PySem.W.Frag} {H : Hp} : ∀ {xs : List V}, (∀ v ∈ xs, Flat0 v) → DpAll K H xs (xs.map dOf)
  | [], _ => .nil
  | x :: xs, h => .cons (dp_one (h x (List.mem_cons_self ..))) (dp_flat fun v hv => h v (List.mem_cons_of_mem _ hv))
theorem lay_one {v : V} (h : Flat0 v) : PyData.canLay0 (dOf v) = true := by
  cases v with
  | str x => exact h
  | _ => rfl
theorem depth_one (v : V) : PyData.depth (dOf v) = 0 := by cases v <;> rfl
theorem lay_flat : ∀ {xs : List V}, (∀ v ∈ xs, Flat0 v) → PyData.canLayAll0 (xs.map dOf) = true
  | [], _ => rfl
  | v :: xs, h => by
    show (PyData.canLay0 (dOf v) && PyData.canLayAll0 (xs.map dOf)) = true
    rw [lay_one (h v (List.mem_cons_self ..)), lay_flat fun u hu => h u (List.mem_cons_of_mem _ hu)]
    rfl
theorem depth_flat : ∀ xs : List V, PyData.depthAll (xs.map dOf) = 0
  | [] => rfl
  | v :: xs => by
    show max (PyData.depth (dOf v)) (PyData.depthAll (xs.map dOf)) = 0
    rw [depth_one, depth_flat xs]
    rfl
theorem shaped_flat {xs : List V} (h : ∀ v ∈ xs, Flat0 v) : SeqAt.shaped (.list (xs.map dOf)) = true := by
  have h1 : PyData.canLay0 (.list (xs.map dOf)) = true := lay_flat h
  have h2 : PyData.depth (.list (xs.map dOf)) ≤ 64 := by
    show PyData.depthAll (xs.map dOf) + 1 ≤ 64
    rw [depth_flat]
    decide
  unfold SeqAt.shaped
  rw [h1, decide_eq_true h2]
  rfl
/-- xs != ys, two lists of the same flat things -/
theorem neD_flat {K : PySem.W.Frag} {H : Hp} {a b : Addr} {xs : List V} {Q : VK} (h1 : H a = some (.lst xs)) (h2 : H b = some (.lst xs)) (hf : ∀ v ∈ xs, Flat0 v) (q : Q (.bl false) H) : rNeD K (.ref a) (.ref b) H Q := by
  refine ⟨_, _, .lst (.inl (.inl h1)) (dp_flat hf), .lst (.inl (.inl h2)) (dp_flat hf), shaped_flat hf, shaped_flat hf, ?_⟩
  have e : PyData.eqv (.list (xs.map dOf)) (.list (xs.map dOf)) = true := SeqAt.eqv_refl _ (lay_flat hf)
  rw [e]
  exact q
theorem eqD_flat {K : PySem.W.Frag} {H : Hp} {a b : Addr} {xs : List V} {Q : VK} (h1 : H a = some (.lst xs)) (h2 : H b = some (.lst xs)) (hf : ∀ v ∈ xs, Flat0 v) (q : Q (.bl true) H) : rEqD K (.ref a) (.ref b) H Q := by
  refine ⟨_, _, .lst (.inl (.inl h1)) (dp_flat hf), .lst (.inl (.inl h2)) (dp_flat hf), shaped_flat hf, shaped_flat hf, ?_⟩
  have e : PyData.eqv (.list (xs.map dOf)) (.list (xs.map dOf)) = true := SeqAt.eqv_refl _ (lay_flat hf)
  rw [e]
  exact q
/-! ### t[::-1] of a tuple -/
section
variable {P : Program} {w : World} {A : Around} {E : Value → Shared → Prop} {s : Shared}
theorem back_adjust (n : Nat) : Builtin.Slice.sliceAdjust none none (-1) (n : Int) = ((n : Int) - 1, -1) := by
  have neg1 : ((-1 : Int) < 0) := by decide
  unfold Builtin.Slice.sliceAdjust
  simp only [neg1, if_true]
theorem back_places (n : Nat) : Builtin.Slice.slicePlaces ((n : Int) - 1) (-1) (-1) = n := by
  unfold Builtin.Slice.slicePlaces
  by_cases h : n = 0
  · subst h; decide
  · have e : ¬ ((-1 : Int) > 0) := by decide
    simp only [e, if_false, Int.neg_neg, Int.ediv_one]
    split <;> omega
theorem filterMap_cong {α β : Type} {f g : α → Option β} : ∀ {l : List α}, (∀ x ∈ l, f x = g x) → l.filterMap f = l.filterMap g
  | [], _ => rfl
  | x :: l, h => by
    rw [List.filterMap_cons, List.filterMap_cons, h x (List.mem_cons_self ..), filterMap_cong fun y hy => h y (List.mem_cons_of_mem _ hy)]
theorem back_pick (xs : Array Value) : ((List.range xs.size).filterMap fun (k : Nat) => xs[((xs.size : Int) - 1 + (k : Int) * (-1)).toNat]?).toArray = xs.toList.reverse.toArray := by
  have e : ((List.range xs.size).filterMap fun (k : Nat) => xs[((xs.size : Int) - 1 + (k : Int) * (-1)).toNat]?) = ((List.range xs.size).map fun k => xs.size - 1 - k).filterMap (xs[·]?) := by
    rw [List.filterMap_map]
    refine filterMap_cong fun k hk => ?_
    have hk := List.mem_range.mp hk
    show xs[((xs.size : Int) - 1 + (k : Int) * (-1)).toNat]? = xs[xs.size - 1 - k]?
    congr 1
    omega
  rw [e, PySem.W.krv_range, List.filterMap_reverse, PySem.W.krv_all]
theorem back_parts {sl : Addr} {vs : Value} {n : Nat} {Q : Int × Int × Nat → Shared → Prop} (hs : s.heap.IsSliceOf sl .none .none vs) (pt : IsPart vs (some (-1)))
    (q : Q ((n : Int) - 1, -1, n) s) : wpAny (model P w) A (Builtin.Slice.sliceApplied (.ref sl) (pure (n : Int))) Q E s := by
  obtain ⟨ob, g1, _, g3⟩ := id hs
  unfold Builtin.Slice.sliceApplied Builtin.Slice.sliceFields
  refine wpAny_bind (wpAny_bind ?_)
  refine wpAny_field g1 g3 (x := .none) rfl (wpAny_bind ?_)
  refine wpAny_field g1 g3 (x := .none) rfl (wpAny_bind ?_)
  refine wpAny_field g1 g3 (x := vs) rfl (wpAny_pure ?_)
  refine wpAny_bind (HT.slicePart_ pt ?_)
  show wpAny _ _ (if ((-1 : Int) == 0) = true then _ else _) _ _ s
  rw [if_neg (show ¬ ((-1 : Int) == 0) = true by decide)]
  refine wpAny_bind (HT.slicePart_ .none (wpAny_bind (HT.slicePart_ .none ?_)))
  refine wpAny_bind (wpAny_pure ?_)
  show wpAny _ _ (match Builtin.Slice.sliceAdjust none none (-1) (n : Int) with | (x, y) => pure (x, (-1 : Int), Builtin.Slice.slicePlaces x y (-1))) _ _ s
  rw [back_adjust]
  show wpAny _ _ (pure ((n : Int) - 1, (-1 : Int), Builtin.Slice.slicePlaces ((n : Int) - 1) (-1) (-1))) _ _ s
  rw [back_places]
  exact wpAny_pure q
theorem back_tuple {t sl : Addr} {xs : Array Value} {vs : Value} {Q : Value → Shared → Prop} (ht : IsTup s.heap t xs) (hs : s.heap.IsSliceOf sl .none .none vs) (pt : IsPart vs (some (-1))) (hz : xs.size ≤ sizeLine)
    (q : Q (.ref s.heap.objs.size) { s with heap := s.heap.push { cls := .type "tuple", data := .seq xs.toList.reverse.toArray } }) : wpAny (model P w) A (getItem (.ref t) (.ref sl)) Q E s := by
  have fits : sizeOk (.seq xs.toList.reverse.toArray) := by
    show xs.toList.reverse.toArray.size ≤ sizeLine
    simpa using hz
  obtain ⟨ob, g1, g2, _⟩ := id hs
  have isSl : s.TypeIs (.ref sl) "slice" := ⟨ob, g1, g2⟩
  unfold getItem
  try with_reducible refine wpAny_holding ?_
  first | refine wpAny_bind (wpAny_pure ?_) | skip
  refine wpAny_bind (wpAny_sequenceKey ht.typeIs (by decide) ?_)
  refine wpAny_bind (wpAny_callSpecial?_slot (name := Str.ofString "__getitem__") ht.typeIs PyProof.Rows.slot_tuple_getitem (wpAny_call_entry PyProof.Rows.slot_tuple_getitem ht.typeIs entry_tuple_getitem ?_ (args_tuple_getitem _ _)))
  show wpAny _ _ (Builtin.Tuple.tupleItemsOf (.ref t) >>= _) _ _ s
  refine wpAny_bind (tupleItemsOf_ ht (wpAny_bind (wpAny_typeOf isSl ?_)))
  rw [if_pos (show (Value.type "slice" == Value.type "slice") = true by decide)]
  refine wpAny_bind (back_parts hs pt ?_)
  show wpAny _ _ (if (((xs.size : Int) - 1) == 0 && (-1 : Int) == 1 && xs.size == xs.size) = true then _ else _) _ _ s
  have no : ¬ ((((xs.size : Int) - 1) == 0 && (-1 : Int) == 1 && xs.size == xs.size) = true) := by
    rw [show ((-1 : Int) == 1) = false by decide, Bool.and_false, Bool.false_and]
    decide
  rw [if_neg no, back_pick]
  first
    | exact wpAny_bind (m := Builtin.Tuple.tupleExact _) (wpAny_newObj_type (wpAny_pure ⟨_, rfl, wpAny_pure q⟩) fits)
    | exact wpAny_bind (m := Builtin.Tuple.tupleExact _) (wpAny_newObj_type (wpAny_bind (wpAny_pure (wpAny_pure ⟨_, rfl, wpAny_pure q⟩))) fits)
    | exact wpAny_bind (wpAny_bind (m := Builtin.Tuple.tupleExact _) (wpAny_newObj_type (wpAny_pure (wpAny_pure ⟨_, rfl, wpAny_pure q⟩)) fits))
    | exact wpAny_bind (wpAny_bind (m := Builtin.Tuple.tupleExact _) (wpAny_newObj_type (wpAny_pure ⟨_, rfl, wpAny_pure q⟩) fits))
end
theorem op_catTK {X : Cx} {K : PySem.W.Frag} (h : X.K = K) : OpR X (binaryOp .Add) (rCatT K) := by subst h; exact op_catT
/-- t[::-1] of a tuple -/
def tRevT (K : PySem.W.Frag) (te : TE) : TE := fun σ H Q => te σ H fun x H1 => ∃ a, x = .ref a ∧ ∃ xs, H1 a = some (.tup xs) ∧ ∀ p, H1 p = none → Q (.ref p) (upd H1 p (.tup xs.reverse))
theorem pe_revT {X : Cx} {K : PySem.W.Frag} (hK : X.K = K) {e : Expr} {te : TE} {k : Nat} {p1 p2 p3 pos : Pos} (he : PE X e te) : PE X (.Subscript e (.Slice none none (some (.UnaryOp .USub (.Constant (.int 1) k p1) p2)) p3) pos) (tRevT K te) := by
  subst hK
  refine ⟨fun pins s0 σ H Q I h => Subscript_ (thn (he.run pins s0 σ H _ I h) fun v s x => ?_)⟩
  obtain ⟨_, H1, I1, r1, a, rfl, xs, hx, q⟩ := x
  cases r1
  have minus : PO X (some (.UnaryOp .USub (.Constant (.int 1) k p1) p2)) (tPart (tUn (rU fun i => .int (-i)) (tC (.int 1)))) := po_some (pe_un un_neg pe_int)
  refine wpAny_Slice (thn (po_none.run pins s σ H1 (fun o G => o = none ∧ G = H1) I1 ⟨rfl, rfl⟩) fun l1 s1 x => ?_)
  obtain ⟨_, _, I2, pl, rfl, rfl⟩ := x
  refine thn (po_none.run pins s1 σ _ (fun o G => o = none ∧ G = _) I2 ⟨rfl, rfl⟩) fun l2 s2 x => ?_
  obtain ⟨_, _, I3, pu, rfl, rfl⟩ := x
  refine thn (minus.run pins s2 σ _ (fun o G => o = some (-1) ∧ G = _) I3 ⟨1, rfl, -1, rfl, rfl, rfl⟩) fun l3 s3 x => ?_
  obtain ⟨_, H4, I4, pt, rfl, rfl⟩ := x
  cases pl
  cases pu
  generalize hs4 : ({ s3 with heap := s3.heap.push { cls := .type "slice", data := .fields #[.none, .none, l3] } } : Shared) = s4
  have I5 : Inv X pins σ H4 s4 := by
    rw [← hs4]
    exact I4.kept (t' := s3.toks) fun b ob y => Heap.get?_push_of_some _ y
  have isl : s4.heap.IsSliceOf s3.heap.objs.size .none .none l3 := by
    rw [← hs4]
    exact Heap.IsSliceOf.new s3.heap .none .none l3
  obtain ⟨its, r, ht, hz⟩ := I5.tuple (.inl (.inl hx))
  have hlen := r.length
  refine tail_any (ops := [.ref a, .ref s3.heap.objs.size]) ht.typeIs PyProof.Rows.slot_tuple_getitem.lookup ?_ (by with_unfolding_all rfl)
  refine back_tuple ht isl pt (by rw [List.size_toArray]; omega) ?_
  refine ⟨.ref s4.heap.objs.size, _, I5.laid (t' := s4.toks) (o := .tup xs.reverse) (fun b ob y => Heap.get?_push_of_some _ y) (Nat.le_refl _) ?_, rfl, q _ (I5.hok.fresh (Nat.le_refl _))⟩
  exact ⟨by rw [List.length_reverse]; exact hz, _, r.reverse, IsTup.new _ _⟩
end Cs

namespace Cs
open PySem PySem.Spec PyProof.Rows L2
/-! ### f(k = e, ..), no argument by its place -/
section
variable {X : Cx} {CX : CXT} {k : Nat} {f : Addr} {fd : FuncData} {ps ks : List Str} {sp : Sp} {E : XK} {x : Str} {p pos : Pos} {kws : List Keyword} {tk : TA} {g : List Value → List Value → List Value} {gV : List V → List V → List V}
def tCallK0 (j : Nat) (sp : Sp) (gV : List V → List V → List V) (E : XK) (tk : TA) : TE := fun σ H Q => tk σ H fun zs H1 => zs.length = j ∧ sp (gV [] zs) H1 Q E
theorem pe_callK0 (F : FnOk X.prog X.w X.K X.mg X.base CX k f fd ps sp) (hr : Room k X.A) (hg : Gl X x) (hm : X.mg x = some (.ref f)) (hk : PySem.W.keepIn X.K (.ref f) = true) (hb : KBn X.K fd ps 0 ks g gV) (hx : Passes CX X E) (hkw : PK X kws tk)
    (hall : (backToKw pos (keywordEach kws X.env)).all (·.1.isSome) = true := by rfl) (hks : (backToKw pos (keywordEach kws X.env)).filterMap (·.1) = ks := by rfl) (hdb : (x == ("__debug__" : Str)) = false := by decide)
    (hpl : ((backTo pos (starEach [] X.env)).any (·.1) || (backToKw pos (keywordEach kws X.env)).any (·.1.isNone)) = false := by rfl) : PE X (.Call (.Name x p) [] kws pos) (tCallK0 ks.length sp gV E tk) := by
  refine ⟨fun pins s σ H Q I h => wpAny_Call_Name_kw (ld_glob I hg hm ?_ hdb)⟩
  refine PySem.W.callWith_KW0 (h₀ := X.base) (first := []) I.ok.mod.kin hk hall ?_ hpl
  refine thn (hkw.run pos pins s σ H _ I h) fun ws s2 ⟨zs, H2, I2, rz, l2, q2⟩ => ⟨I2.kIn, ?_⟩
  rw [hks]
  exact run_fnN (us := []) (vs := []) F hr hb hx I2 .nil rz rfl l2 q2
end
end Cs

/-! Ck: l.extend(list); tuple + tuple of any length with K fixed. -/
namespace Cs
open PySem PySem.Spec PyProof.Rows L2
theorem op_catAK {X : Cx} {K : PySem.W.Frag} (h : X.K = K) : OpR X (binaryOp .Add) (rCatA K) := by subst h; exact op_catA
section
variable {X : Cx}
/-- l.extend(e), e a list -/
def tExtend (to : TE) (t : TA) : TE := fun σ H Q => to σ H fun x H1 => ∃ p, x = .ref p ∧ ∃ xs, H1 p = some (.lst xs) ∧ t σ H1 fun vs H2 => ∃ b, vs = [.ref b] ∧ ∃ ys zs, H2 p = some (.lst ys) ∧ H2 b = some (.lst zs) ∧ ys.length + zs.length ≤ sizeLine ∧ Q .non (upd H2 p (.lst (ys ++ zs)))
theorem pe_extendL {o e : Expr} {to : TE} {t : TA} {apos cpos : Pos} (ho : PE X o to) (ha : PA X [e] t)
    (hbase : attributeBase o "extend" X.env (eval o X.env) = eval o X.env := by rfl)
    (hfew : ((backTo cpos (starEach [e] X.env)).all (fun x => !x.1) && (backToKw cpos (keywordEach [] X.env)).all (fun x => x.1.isSome)
      && decide (([e] : List Expr).length + ([] : List Keyword).length + (if ([] : List Keyword).isEmpty then 0 else 1) < 30)) = true := by rfl)
    (hline : (apos.endLine == cpos.line) = true := by rfl) (hs : starEach [e] X.env = (false, eval e X.env) :: starEach [] X.env := by rfl) :
    PE X (.Call (.Attribute o "extend" apos) [e] [] cpos) (tExtend to t) := by
  refine ⟨fun pins s σ H Q I h => ?_⟩
  refine wpAny_Call_method_late hbase hfew hline rfl (thn (ho.run pins s σ H _ I h) fun v s1 ⟨x, H1, I1, r1, p, ex, xs, hp, q1⟩ => ?_)
  subst ex
  have ty : tyV X.K "list" (.ref p) H1 := .inl ⟨rfl, xs, .inl (.inl hp)⟩
  obtain ⟨h1, h2⟩ := tyV_is I1 r1 ty
  refine ⟨"list", _, PySem.F.plainAttrs_list, PySem.F.slot_list_extend, PySem.F.type_list_extend, h1, h2, ?_⟩
  have hA := ha.run cpos pins s1 σ H1 _ I1 q1
  rw [hs] at hA ⊢
  refine Calls.callWith_builtin (by rfl) (Calls.evalArgs_plain ?_)
  refine thn hA fun us s2 ⟨vs, H2, I2, r2, b, e2, ys, zs, hp2, hb, hz, q2⟩ => ?_
  exact mt_extend pins s2 σ H2 (.ref p) vs v us Q I2 r1 r2 ⟨p, b, ys, zs, rfl, e2, hp2, hb, hz, q2⟩
end
end Cs

namespace Cs
open PySem PySem.Spec PyProof.Rows L2
/-! ### set(xs) of a list of ints -/
section
variable {P : Program} {w : World} {A : Around} {E : Value → Shared → Prop} {s : Shared}
abbrev bareSet (w : World) : Obj := { cls := .type "set", dict := none, data := .set #[] 0 (.fresh 0 0 (!w.params.followText "set-order")) }
/-- the heap with a new set -/
abbrev withSet (w : World) (h : Heap) : Heap := h.push (bareSet w)
/-- what stood still stands; the set at n holds what ns holds -/
def Filled (w : World) (s : Shared) (ns : List Int) (s2 : Shared) : Prop := ∃ h' tk c, s2 = { s with heap := h', toks := tk } ∧ SetR w h' s.heap.objs.size (fun j => decide (j ∈ ns)) c ∧ c ≤ ns.length ∧ ∀ b o, s.heap.get? b = some o → h'.get? b = some o
theorem call_setL {l : Addr} {items : Array Value} {ns : List Int} {Q : Value → Shared → Prop} (calm : A.handled = none) (hl : s.heap.IsList l items) (vals : IntsAre items.toList ns) (few : ns.length + 1 < scanBound)
    (q : ∀ s2, Filled w s ns s2 → Q (.ref s.heap.objs.size) s2) : wpAny (model P w) A (call (.type "set") [.ref l]) Q E s := by
  have count : items.size = ns.length := by have e := IntsAre.length vals; rwa [Array.length_toList] at e
  obtain ⟨_, _, hmro⟩ := F.called_set.mro
  have hmade := F.called_set.made; have hsub := F.called_set.sub
  refine wpAny_call (codeAny_of_tree (show wpAny _ _ (callAny (.type "set") _) _ _ _ from ?_))
  refine wpAny_pure ⟨Code.quiet_builtin _ (show _ by decide +kernel), codeAny_builtin F.entry_type_call ?_⟩
  rw [Around.under_plain (weight_type_call_type "set" [Value.ref l] []) rfl]
  have u1 := F.called_set.notType; have u2 := F.called_set.canCreate; have u3 := F.typeCall_set_1 (.ref l)
  repeat (any_goals (first | assumption | wp_step))
  refine codeAny_mono (code_set_led1 (.ref l) (E := E) (Q₁ := fun x s1 => x = .ref s.heap.objs.size ∧ s1 = { s with heap := withSet w s.heap }) ⟨rfl, rfl⟩) fun r s1 hr => ?_
  match r, hr with
  | .error e, hr => exact hr
  | .ok (.ret x), hr =>
    obtain ⟨rfl, rfl⟩ := hr
    have fS : (withSet w s.heap).get? s.heap.objs.size = some (bareSet w) := Heap.get?_push_size _ rfl
    have tS : Shared.TypeIs { s with heap := withSet w s.heap } (.ref s.heap.objs.size) "set" := ⟨_, fS, rfl⟩
    have u4 := F.called_set.init.lookup; have u5 := F.called_set.init.bind (.ref s.heap.objs.size)
    repeat (any_goals (first | assumption | wp_step))
    refine codeAny_mono (codeAny_call_builtin (R := wants (fun r s2 => r = .none ∧ Filled w s ns s2) E) F.called_set.init.plain F.entry_set_init (check_set_init_1 tS ?_)) fun r s2 hr => ?_
    · obtain ⟨⟨cl, dc, dt, sl⟩, fl, e1, nl, e2⟩ := hl
      simp only at e1 e2
      subst e1 e2
      have fl2 : (withSet w s.heap).get? l = some { cls := .type "list", dict := dc, data := .seq items nl, slots := sl } := Heap.get?_push_of_some _ fl
      have v1 := F.sub_list_set; have v2 := F.sub_list_frozenset; have v3 : (Value.type "list" == Value.type "dict") = false := by decide
      have isl : (withSet w s.heap).IsList l items := ⟨_, fl2, rfl, nl, rfl⟩
      unfold Builtin.«set.__init__» noKeywords Builtin.Frozenset.updateFrom
      generalize hPI : pyIter = PI
      wp_walk
      subst hPI
      refine wpAny_pyIter_list isl (wpAny_bind (wpAny_runValue ?_))
      have lt := Heap.lt_size fl
      have size1 : (withSet w s.heap).objs.size = s.heap.objs.size + 1 := Heap.size_push ..
      have nI : l ≠ (withSet w s.heap).objs.size := by rw [size1]; exact Nat.ne_of_lt (Nat.lt_succ_of_lt lt)
      have nS : s.heap.objs.size ∉ [(withSet w s.heap).objs.size, l] := by
        rw [size1]
        intro hm
        rcases List.mem_cons.mp hm with e | hm
        · exact Nat.ne_of_lt (Nat.lt_succ_self _) e
        · exact Nat.ne_of_gt lt (List.mem_singleton.mp hm)
      have read : ∀ (i : Nat) (v : Value), items[i]? = some v → ∃ k t, ns[i]? = some k ∧ v = .int k t := by
        intro i v hv
        have hi := (Array.getElem?_eq_some_iff.mp hv).1
        rw [count] at hi
        obtain ⟨t, e⟩ := PyProof.Rows.IntsAre.int_at vals i v (by rw [Array.getElem?_toList]; exact hv)
        exact ⟨ns[i], t, List.getElem?_eq_getElem hi, by rw [e, List.getD_eq_getElem?_getD, List.getElem?_eq_getElem hi] <;> rfl⟩
      refine set_update_ints ((Walks.list (by simp [calm]) _ l nI items).toS) s.heap.objs.size nS ns count few read (items.size - 0) 0 _ (by omega) (Nat.zero_le _) ⟨⟨_, Heap.get?_push_size _ rfl, rfl, rfl⟩, isl.push _⟩ ?start ?last
      case start =>
        exact ⟨0, Nat.le_refl 0, setR_new_at (Heap.get?_push_of_some _ fS)⟩
      case last =>
        rintro ⟨h2, g2, d2, t2, o2⟩ c mv few2 full
        obtain rfl : g2 = s.gens := mv.gens
        obtain rfl : d2 = s.drawn := mv.drawn
        obtain rfl : o2 = s.os := mv.os
        show wpAny _ _ _ _ _ _
        refine wpAny_pure (show wpAny _ _ (ret Value.none) _ _ _ from ?_)
        refine wpAny_pure ⟨rfl, h2, t2, c, rfl, full, by rw [← count]; exact few2, fun b o e => ?_⟩
        have lb := Heap.lt_size e
        refine mv.heap b o (fun hm => ?_) (Heap.get?_push_of_some _ (Heap.get?_push_of_some _ e))
        rcases List.mem_cons.mp hm with e | hm
        · exact Nat.ne_of_lt lb e
        · have e := List.mem_singleton.mp hm
          rw [size1] at e
          exact Nat.ne_of_lt (Nat.lt_succ_of_lt lb) e
    · match r, hr with
      | .error e, hr => exact hr
      | .ok (.ret x), hr =>
        obtain ⟨rfl, fil⟩ := hr
        have Qe := q s2 fil
        obtain ⟨h2, t2, c2, rfl, f1, f2, f3⟩ := id fil
        repeat (any_goals (first | assumption | wp_step))
      | .ok .next, hr => exact hr.elim
      | .ok .brk, hr => exact hr.elim
      | .ok .cont, hr => exact hr.elim
  | .ok .next, hr => exact hr.elim
  | .ok .brk, hr => exact hr.elim
  | .ok .cont, hr => exact hr.elim
end
/-- set(xs) of a list of ints -/
def rSetLI (w : World) : List V → Hp → VK → Prop := fun vs H Q => ∃ l : Addr, vs = [.ref l] ∧ ∃ ns : List Int, H l = some (.lst (ns.map V.int)) ∧ ns.length ≤ 1000 ∧ ∀ p c, H p = none → c ≤ ns.length → Q (.ref p) (upd H p (SetO w p (fun j => decide (j ∈ ns)) c))
theorem cr_setLI {X : Cx} (hc : X.calm = true) : CallR X (.type "set") (rSetLI X.w) := by
  intro pins s σ H vs us Q I r h
  obtain ⟨l, rfl, ns, hl, few, q⟩ := h
  rw [Vals.ref1 r]
  obtain ⟨its, r2, ht, hz⟩ := I.list (.inl (.inl hl))
  refine call_setL (I.ok.hd hc) ht.isList (intsAre_of r2) (Nat.lt_of_le_of_lt (Nat.succ_le_succ few) (by decide)) fun s2 fil => ?_
  obtain ⟨h2, t2, c, rfl, f1, f2, f3⟩ := fil
  exact ⟨.ref _, _, I.laid (t' := t2) f3 (Nat.le_refl _) (setO_new f1), rfl, q _ c (I.hok.fresh (Nat.le_refl _)) f2⟩
/-- sorted(set) -/
def rSortLI (w : World) : List V → Hp → VK → Prop := fun vs H Q => ∃ (a : Addr) (S : Int → Bool) (n : Nat), vs = [V.ref a] ∧ H a = some (SetO w a S n) ∧ n < 64 ∧ ∀ (ns : List Int) (p : Addr), ns.Pairwise (· < ·) → (∀ k : Int, k ∈ ns ↔ S k = true) → ns.length = n → H p = none → Q (.ref p) (upd H p (.lst (ns.map V.int)))
theorem cr_sortLI {X : Cx} (hc : X.calm = true) : CallR X (.builtin "sorted") (rSortLI X.w) := cr_sortedSet hc
end Cs

/-! Cl: l.clear(), l.reverse(), l.pop(); set(xs) of a list or a tuple of tuples of ints. -/
namespace Cs
open PySem PySem.Spec PyProof.Rows L2
section
variable {X : Cx}
/-- o.name(), o a list -/
theorem list0_run {name : Str} {id : String} {r : V → List V → Hp → VK → Prop} {o : Expr} {to : TE} {apos cpos : Pos} (slot : Slot "list" name id) (hty : typeOf (.builtin id) = pure (.type "method_descriptor")) (hm : MtR X id r) (ho : PE X o to)
    (hbase : attributeBase o name X.env (eval o X.env) = eval o X.env) (hline : (apos.endLine == cpos.line) = true) :
    PE X (.Call (.Attribute o name apos) [] [] cpos) (fun σ H Q => to σ H fun x H1 => ∃ p, x = .ref p ∧ ∃ xs, H1 p = some (.lst xs) ∧ r (.ref p) [] H1 Q) := by
  refine ⟨fun pins s σ H Q I h => wpAny_Call_method0_late hbase hline (thn (ho.run pins s σ H _ I h) fun v s1 y => ?_)⟩
  obtain ⟨x, H1, I1, r1, p, rfl, xs, hp, q⟩ := y
  have ty : tyV X.K "list" (.ref p) H1 := .inl ⟨rfl, xs, .inl (.inl hp)⟩
  obtain ⟨g1, g2⟩ := tyV_is I1 r1 ty
  exact ⟨"list", id, PySem.F.plainAttrs_list, slot, hty, g1, g2, Calls.callWith_builtin rfl (PySem.evalArgs_none (hm pins s1 σ H1 (.ref p) [] v [] Q I1 r1 .nil q))⟩
theorem _root_.L2.PE.weak {e : Expr} {t t' : TE} (h : PE X e t) (m : ∀ σ H Q, t' σ H Q → t σ H Q) : PE X e t' := ⟨fun pins s σ H Q I q => h.run pins s σ H Q I (m σ H Q q)⟩
end
/-- readings of to are monotone in what is wanted -/
def MonT (to : TE) : Prop := ∀ σ H (Q Q' : VK), (∀ x H1, Q x H1 → Q' x H1) → to σ H Q → to σ H Q'
theorem mon_var (i : Nat) : MonT (tVar i) := fun σ H Q Q' m ⟨v, e, q⟩ => ⟨v, e, m _ _ q⟩
def tClear (to : TE) : TE := fun σ H Q => to σ H fun x H1 => ∃ p, x = .ref p ∧ ∃ xs, H1 p = some (.lst xs) ∧ Q .non (upd H1 p (.lst []))
def tRever (to : TE) : TE := fun σ H Q => to σ H fun x H1 => ∃ p, x = .ref p ∧ ∃ xs, H1 p = some (.lst xs) ∧ Q .non (upd H1 p (.lst xs.reverse))
def tPop0 (to : TE) : TE := fun σ H Q => to σ H fun x H1 => ∃ p, x = .ref p ∧ ∃ xs, H1 p = some (.lst xs) ∧ ∃ y, xs[xs.length - 1]? = some y ∧ Q y (upd H1 p (.lst xs.dropLast))
section
variable {X : Cx} {o : Expr} {to : TE} {apos cpos : Pos}
theorem pe_clearL (ho : PE X o to) (mo : MonT to) (hbase : attributeBase o "clear" X.env (eval o X.env) = eval o X.env := by rfl) (hline : (apos.endLine == cpos.line) = true := by rfl) : PE X (.Call (.Attribute o "clear" apos) [] [] cpos) (tClear to) :=
  (list0_run PySem.F.slot_list_clear PySem.F.type_list_clear mt_clear ho hbase hline).weak fun σ H Q h => mo σ H _ _ (fun x H1 ⟨p, e, xs, hp, q⟩ => ⟨p, e, xs, hp, p, xs, rfl, rfl, hp, q⟩) h
theorem pe_reverL (ho : PE X o to) (mo : MonT to) (hbase : attributeBase o "reverse" X.env (eval o X.env) = eval o X.env := by rfl) (hline : (apos.endLine == cpos.line) = true := by rfl) : PE X (.Call (.Attribute o "reverse" apos) [] [] cpos) (tRever to) :=
  (list0_run PySem.F.slot_list_reverse PySem.F.type_list_reverse mt_reverse ho hbase hline).weak fun σ H Q h => mo σ H _ _ (fun x H1 ⟨p, e, xs, hp, q⟩ => ⟨p, e, xs, hp, p, xs, rfl, rfl, hp, q⟩) h
theorem pe_popL (ho : PE X o to) (mo : MonT to) (hbase : attributeBase o "pop" X.env (eval o X.env) = eval o X.env := by rfl) (hline : (apos.endLine == cpos.line) = true := by rfl) : PE X (.Call (.Attribute o "pop" apos) [] [] cpos) (tPop0 to) :=
  (list0_run PySem.F.slot_list_pop PySem.F.type_list_pop mt_pop ho hbase hline).weak fun σ H Q h => mo σ H _ _ (fun x H1 ⟨p, e, xs, hp, y, hy, q⟩ => ⟨p, e, xs, hp, p, xs, y, rfl, rfl, hp, hy, q⟩) h
end
/-! ### set(xs), xs a tuple of tuples of ints -/
section
variable {P : Program} {w : World} {A : Around} {E : Value → Shared → Prop} {s : Shared}
/-- what stood still stands; the set at the new place holds what ks holds -/
def FilledT (P : Program) (w : World) (s : Shared) (ks : List (Addr × List Int)) (s2 : Shared) : Prop := ∃ h' tk L es ep t, s2 = { s with heap := h', toks := tk } ∧ SetTR P w h' s.heap.objs.size L es ep t ∧ Got ks ks.length L ∧ ∀ b o, s.heap.get? b = some o → h'.get? b = some o
theorem call_setTT {l : Addr} {items : Array Value} {ks : List (Addr × List Int)} {Q : Value → Shared → Prop} (calm : A.handled = none) (hl : s.heap.IsTuple l items) (vals : items.toList = ks.map fun p => Value.ref p.1) (tups : ∀ p ∈ ks, IsT P w s.heap p.2 p.1) (few : ks.length < 64) (hu : A.units + 3 < cLine)
    (q : ∀ s2, FilledT P w s ks s2 → Q (.ref s.heap.objs.size) s2) : wpAny (model P w) A (call (.type "set") [.ref l]) Q E s := by
  have count : items.size = ks.length := by have e := congrArg List.length vals; rwa [Array.length_toList, List.length_map] at e
  obtain ⟨_, _, hmro⟩ := F.called_set.mro
  have hmade := F.called_set.made; have hsub := F.called_set.sub
  refine wpAny_call (codeAny_of_tree (show wpAny _ _ (callAny (.type "set") _) _ _ _ from ?_))
  refine wpAny_pure ⟨Code.quiet_builtin _ (show _ by decide +kernel), codeAny_builtin F.entry_type_call ?_⟩
  rw [Around.under_plain (weight_type_call_type "set" [Value.ref l] []) rfl]
  have u1 := F.called_set.notType; have u2 := F.called_set.canCreate; have u3 := F.typeCall_set_1 (.ref l)
  repeat (any_goals (first | assumption | wp_step))
  refine codeAny_mono (code_set_led1 (.ref l) (E := E) (Q₁ := fun x s1 => x = .ref s.heap.objs.size ∧ s1 = { s with heap := withSet w s.heap }) ⟨rfl, rfl⟩) fun r s1 hr => ?_
  match r, hr with
  | .error e, hr => exact hr
  | .ok (.ret x), hr =>
    obtain ⟨rfl, rfl⟩ := hr
    have fS : (withSet w s.heap).get? s.heap.objs.size = some (bareSet w) := Heap.get?_push_size _ rfl
    have tS : Shared.TypeIs { s with heap := withSet w s.heap } (.ref s.heap.objs.size) "set" := ⟨_, fS, rfl⟩
    have u4 := F.called_set.init.lookup; have u5 := F.called_set.init.bind (.ref s.heap.objs.size)
    repeat (any_goals (first | assumption | wp_step))
    refine codeAny_mono (codeAny_call_builtin (R := wants (fun r s2 => r = .none ∧ FilledT P w s ks s2) E) F.called_set.init.plain F.entry_set_init (check_set_init_1 tS ?_)) fun r s2 hr => ?_
    · obtain ⟨⟨cl, dc, dt, sl⟩, fl, e1, nl, e2⟩ := hl
      simp only at e1 e2
      subst e1 e2
      have fl2 : (withSet w s.heap).get? l = some { cls := .type "tuple", dict := dc, data := .seq items nl, slots := sl } := Heap.get?_push_of_some _ fl
      have v1 := F.sub_tuple_set; have v2 := F.sub_tuple_frozenset; have v3 : (Value.type "tuple" == Value.type "dict") = false := by decide
      have isl : (withSet w s.heap).IsTuple l items := ⟨_, fl2, rfl, nl, rfl⟩
      unfold Builtin.«set.__init__» noKeywords Builtin.Frozenset.updateFrom
      generalize hPI : pyIter = PI
      wp_walk
      subst hPI
      refine wpAny_pyIter_tuple isl (wpAny_bind (wpAny_runValue ?_))
      have lt := Heap.lt_size fl
      have size1 : (withSet w s.heap).objs.size = s.heap.objs.size + 1 := Heap.size_push ..
      have nI : l ≠ (withSet w s.heap).objs.size := by rw [size1]; exact Nat.ne_of_lt (Nat.lt_succ_of_lt lt)
      have nS : s.heap.objs.size ∉ [(withSet w s.heap).objs.size, l] := by
        rw [size1]
        intro hm
        rcases List.mem_cons.mp hm with e | hm
        · exact Nat.ne_of_lt (Nat.lt_succ_self _) e
        · exact Nat.ne_of_gt lt (List.mem_singleton.mp hm)
      have read : ∀ (i : Nat) (v : Value), items[i]? = some v → ∃ p, ks[i]? = some p ∧ v = .ref p.1 := by
        intro i v hv
        have e : items.toList[i]? = some v := by rw [Array.getElem?_toList]; exact hv
        rw [vals, List.getElem?_map, Option.map_eq_some_iff] at e
        obtain ⟨p, h1, h2⟩ := e
        exact ⟨p, h1, h2.symm⟩
      have nowhere : ∀ b, s.heap.objs.size ≤ b → s.heap.get? b = none := fun b hb => by
        cases e : s.heap.get? b with
        | none => rfl
        | some o => exact absurd (Heap.lt_size e) (Nat.not_lt.mpr hb)
      refine set_update_tups ((Walks.tuple (by simp [calm]) _ l nI items).toS) s.heap.objs.size nS ks count few read s.heap tups (nowhere _ (Nat.le_refl _)) (fun b hb => nowhere b (by rw [List.mem_singleton.mp hb, size1]; exact Nat.le_succ _)) hu
        (items.size - 0) 0 _ (by omega) (Nat.zero_le _) ⟨⟨_, Heap.get?_push_size _ rfl, rfl, rfl⟩, isl.push _⟩ (fun b o e => Heap.get?_push_of_some _ (Heap.get?_push_of_some _ e)) ?start ?last
      case start =>
        exact ⟨[], #[], 0, _, setTR_fresh (Heap.get?_push_of_some _ fS), Got.zero ks⟩
      case last =>
        rintro ⟨h2, g2, d2, t2, o2⟩ L es ep t mv full got kept
        obtain rfl : g2 = s.gens := mv.gens
        obtain rfl : d2 = s.drawn := mv.drawn
        obtain rfl : o2 = s.os := mv.os
        show wpAny _ _ _ _ _ _
        refine wpAny_pure (show wpAny _ _ (ret Value.none) _ _ _ from ?_)
        exact wpAny_pure ⟨rfl, h2, t2, L, es, ep, t, rfl, full, by rw [← count]; exact got, kept⟩
    · match r, hr with
      | .error e, hr => exact hr
      | .ok (.ret x), hr =>
        obtain ⟨rfl, fil⟩ := hr
        have Qe := q s2 fil
        obtain ⟨h2, t2, L, es, ep, t, rfl, f1, f2, f3⟩ := id fil
        repeat (any_goals (first | assumption | wp_step))
      | .ok .next, hr => exact hr.elim
      | .ok .brk, hr => exact hr.elim
      | .ok .cont, hr => exact hr.elim
  | .ok .next, hr => exact hr.elim
  | .ok .brk, hr => exact hr.elim
  | .ok .cont, hr => exact hr.elim
end
theorem zip_refs : ∀ {as : List Addr} {gs : List (List Int)}, as.length = gs.length → (as.zip gs).map (fun p => V.ref p.1) = as.map V.ref
  | [], [], _ => rfl
  | [], _ :: _, h => by simp at h
  | _ :: _, [], h => by simp at h
  | a :: as, g :: gs, h => by
    rw [List.zip_cons_cons, List.map_cons, List.map_cons, zip_refs (by simpa using h)]
theorem zip_at {H : Hp} {as : List Addr} {gs : List (List Int)} (h : AsT H as gs) : ∀ p ∈ as.zip gs, H p.1 = some (.tup (p.2.map V.int)) := fun p hp => by
  obtain ⟨i, hi, e⟩ := List.getElem_of_mem hp
  rw [List.getElem_zip] at e
  rw [← e]
  rw [List.length_zip] at hi
  exact h.2 i _ _ (List.getElem?_eq_getElem (by omega)) (List.getElem?_eq_getElem (by omega))
/-- set(xs), xs a list or a tuple of tuples of ints -/
def rSetTT (P : Program) (w : World) : List V → Hp → VK → Prop := fun vs H Q => ∃ (l : Addr) (k : Bool) (as : List Addr) (gs : List (List Int)), vs = [.ref l] ∧ Sqh k H l (as.map V.ref) ∧ AsT H as gs ∧ gs.length < 64 ∧
  ∀ a L, H a = none → (∀ p ∈ L, H p.1 = some (.tup (p.2.map V.int))) → (∀ g, g ∈ L.map (·.2) ↔ g ∈ gs) → Q (.ref a) (upd H a (SetTO P w a L))
theorem cr_setTT {X : Cx} (hc : X.calm = true) (hu : X.A.units + 64 < cLine) : CallR X (.type "set") (rSetTT X.prog X.w) := by
  intro pins s σ H vs us Q I r h
  obtain ⟨l, k, as, gs, rfl, hl, hA, few, q⟩ := h
  have hz := zip_refs hA.1
  have hzl : (as.zip gs).length = gs.length := by rw [List.length_zip, hA.1, Nat.min_self]
  have hzs : (as.zip gs).map (·.2) = gs := List.map_snd_zip (by rw [hA.1]; exact Nat.le_refl _)
  have fin : ∀ a L, H a = none → (∀ p ∈ L, p ∈ as.zip gs) → (∀ p ∈ as.zip gs, p.2 ∈ L.map (·.2)) → Q (.ref a) (upd H a (SetTO X.prog X.w a L)) := fun a L ha h1 h2 => by
    refine q a L ha (fun p hp => zip_at hA p (h1 p hp)) fun g => ⟨fun hg => ?_, fun hg => ?_⟩
    · obtain ⟨p, hp, rfl⟩ := List.mem_map.mp hg
      exact (List.of_mem_zip (h1 p hp)).2
    · rw [← hzs] at hg
      obtain ⟨p, hp, rfl⟩ := List.mem_map.mp hg
      exact h2 p hp
  cases k with
  | true =>
    have hl' : H l = some (.lst (as.map V.ref)) := hl
    exact cr_setOfT hc hu pins s σ H _ us Q I r ⟨l, as.zip gs, rfl, .inl (.inl (by rw [hz]; exact hl')), fun p hp => .inl (.inl (zip_at hA p hp)), by rw [hzl]; exact few, fin⟩
  | false =>
    have hl' : H l = some (.tup (as.map V.ref)) := hl
    rw [Vals.ref1 r]
    obtain ⟨its, rv, ht, hz2⟩ := I.tuple (.inl (.inl hl'))
    rw [← hz] at rv
    refine call_setTT (ks := as.zip gs) (I.ok.hd hc) (show s.heap.IsTuple l its.toArray from ht) (by simpa using refs_of_vals rv) (fun p hp => I.isT (.inl (.inl (zip_at hA p hp)))) (by rw [hzl]; exact few) (by omega) fun s2 fil => ?_
    obtain ⟨h2, t2, L, es, ep, t, rfl, f1, f2, f3⟩ := fil
    refine ⟨.ref _, _, I.laid (t' := t2) f3 (Nat.le_refl _) (setTO_new f1.t0), rfl, fin _ L (I.hok.fresh (Nat.le_refl _)) (fun p hp => ?_) fun p hp => ?_⟩
    · exact List.mem_of_mem_take (f2.sub p hp)
    · exact f2.all p (by rw [List.take_length]; exact hp)
end Cs

/-! Cm: zip of two of different lengths; sorted(list of tuples of ints). -/
namespace Cs
open PySem PySem.Spec PyProof.Rows L2
/-! ### for a, b in zip(x, y), the shorter one ends it -/
def Iz2m (K : PySem.W.Frag) (k1 k2 : Bool) (a b : Addr) : It := ⟨(Iz2 K k1 k2 a b).go, (Iz2 K k1 k2 a b).yld, fun i H => ∃ xs ys : List V, Sqk K k1 H a xs ∧ Sqk K k2 H b ys ∧ min xs.length ys.length = i⟩
theorem turn_z2m {P : Program} {w : World} {K : PySem.W.Frag} {elts : List Expr} {kk : Nat} {tpos : Pos} {k1 k2 : Bool} {a b z TI TO i1 i2 : Addr} (S : ZipSep2 z TI TO i1 i2 [i1, a] [i2, b]) (n1 : a ≠ i1) (n2 : b ≠ i2) :
    Turn P w K (.Tuple elts kk tpos) (Iz2m K k1 k2 a b) [z, TI, TO, i1, i2] z (fun i h => IsZip h z TI TO .none ∧ IsTupOf2 h TI (.ref i1) (.ref i2) ∧ (∃ x y, IsTupOf2 h TO x y) ∧ ItK k1 h i1 a i ∧ ItK k2 h i2 b i) where
  mem := (turn_z2 (P := P) (w := w) (K := K) (elts := elts) (kk := kk) (tpos := tpos) (k1 := k1) (k2 := k2) S n1 n2).mem
  obj := (turn_z2 (P := P) (w := w) (K := K) (elts := elts) (kk := kk) (tpos := tpos) (k1 := k1) (k2 := k2) S n1 n2).obj
  keep := (turn_z2 (P := P) (w := w) (K := K) (elts := elts) (kk := kk) (tpos := tpos) (k1 := k1) (k2 := k2) S n1 n2).keep
  item := (turn_z2 (P := P) (w := w) (K := K) (elts := elts) (kk := kk) (tpos := tpos) (k1 := k1) (k2 := k2) S n1 n2).item
  done := by
    intro X hP hw hK hc i pins s σ H E I hf st hg
    subst hP hw hK
    obtain ⟨xs, ys, hqx, hqy, hi⟩ := hg
    obtain ⟨its, rv, p⟩ := invK I hqx
    obtain ⟨its2, rv2, p2⟩ := invK I hqy
    have hh : X.A.handled = none := I.ok.hd hc
    have D1 := drawsK (prog := X.prog) (w := X.w) (A := X.A.in1) hh k1 i1 a n1 its.toArray
    have D2 := drawsK (prog := X.prog) (w := X.w) (A := X.A.in1) hh k2 i2 b n2 its2.toArray
    have W := GoesN.zip2 (elts := elts) (x1 := kk) (pos := tpos) S D1 D2
    have l1 := rv.length
    have l2 := rv2.length
    have en : min its.toArray.size its2.toArray.size = i := by simp only [List.size_toArray]; omega
    have g1 : ItK k1 s.heap i1 a (min its.toArray.size its2.toArray.size) := by rw [en]; exact st.2.2.2.1
    have g2 : ItK k2 s.heap i2 b (min its.toArray.size its2.toArray.size) := by rw [en]; exact st.2.2.2.2
    refine W.stops s (fun s1 => Inv X pins σ H s1) E ⟨st.1, st.2.1, st.2.2.1, ⟨g1, p⟩, g2, p2⟩ fun h' tk hk htk => ?_
    refine I.turnedL (t' := tk) (ch := [z, TI, TO, i1, i2]) (fun c o hb q => hk c o (fun hm => hb ?_) q) hf
    simp only [List.mem_cons, List.mem_nil_iff, or_false] at hm ⊢
    rcases hm with q | q | q | q <;> simp [q]
  self := (turn_z2 (P := P) (w := w) (K := K) (elts := elts) (kk := kk) (tpos := tpos) (k1 := k1) (k2 := k2) S n1 n2).self
theorem walk_z2m {K : PySem.W.Frag} {k1 k2 : Bool} {a b : Addr} {xs ys : List V} : Walk (Iz2m K k1 k2 a b) (min xs.length ys.length) (fun H => Sqk K k1 H a xs ∧ Sqk K k2 H b ys) (YPair (fun i => xs[i]?) (fun i => ys[i]?)) := by
  refine ⟨fun i _ hi q => ?_, fun _ q => ⟨xs, ys, q.1, q.2, rfl⟩, fun i H v H' _ q y => ?_⟩
  · have h1 : i < xs.length := by omega
    have h2 : i < ys.length := by omega
    exact ⟨xs, ys, xs[i], ys[i], q.1, q.2, by simp [h1], by simp [h2]⟩
  · obtain ⟨T, x, z, h1, h2, h3, h4, h5⟩ := y
    exact ⟨T, x, z, h1, h2, h3, h4 xs q.1, h5 ys q.2⟩
def iZ2M (ta : TA) : TI := fun σ H R => ta σ H fun vs H1 => ∃ a b, vs = [.ref a, .ref b] ∧ ∃ (k1 k2 : Bool) (xs ys : List V), Sqh k1 H1 a xs ∧ Sqh k2 H1 b ys ∧ ∀ J : It, Walk J (min xs.length ys.length) (fun H => Sqh k1 H a xs ∧ Sqh k2 H b ys) (YPair (fun i => xs[i]?) (fun i => ys[i]?)) → R J H1
theorem pi_z2M {X : Cx} {e e2 : Expr} {ta : TA} {p pos tpos : Pos} {elts : List Expr} {kk : Nat} (hg : Gl X "zip") (hm : X.mg "zip" = none) (ha : PA X [e, e2] ta)
    (hs : starEach [e, e2] X.env = (false, eval e X.env) :: starEach [e2] X.env := by rfl) (hpl : (backTo pos (starEach [e2] X.env)).any (·.1) = false := by rfl) :
    PI X (.Tuple elts kk tpos) (.Call (.Name "zip" p) [e, e2] [] pos) (iZ2M ta) := by
  refine ⟨fun pins s σ H R I h => ?_⟩
  refine Call_ (ld_blt I hg hm PyProof.Rows.boot_zip (PyProof.Rows.callWith_type1 (thn (ha.run pos pins s σ H _ I h) fun us s1 ⟨vs, H1, I1, r1, q1⟩ => ?_) hs hpl))
  obtain ⟨a, b, ex, k1, k2, xs, ys, tx, ty, q⟩ := q1
  subst ex
  have q := q (Iz2m X.K k1 k2 a b) ((walk_z2m (K := X.K) (k1 := k1) (k2 := k2) (a := a) (b := b) (xs := xs) (ys := ys)).mono (fun H h => ⟨h.1.sqk, h.2.sqk⟩) fun _ _ _ _ _ _ y => y)
  have tx : Sqk X.K k1 H1 a xs := tx.sqk
  have ty : Sqk X.K k2 H1 b ys := ty.sqk
  cases r1 with
  | cons r rr =>
    cases rr with
    | cons r' rr =>
      cases rr
      cases r
      cases r'
      obtain ⟨its, rv, p1⟩ := invK I1 tx
      obtain ⟨its2, rv2, p2⟩ := invK I1 ty
      have la : a < s1.heap.objs.size := p1.lt
      have lb : b < s1.heap.objs.size := p2.lt
      refine zip_begins2 (begK k1 a its.toArray) (begK k2 b its2.toArray) p1 p2 fun h' hz hTI hTO h1 h2 hsz hk => wpAny_pyIter_zip hz ?_
      have I2 : Inv X pins σ H1 { s1 with heap := h' } := I1.kept (t' := s1.toks) hk
      refine ⟨s1.heap.objs.size + 4, [s1.heap.objs.size + 4, s1.heap.objs.size + 2, s1.heap.objs.size + 3, s1.heap.objs.size, s1.heap.objs.size + 1], _, _, H1, rfl, I2,
        turn_z2m (zip_sep2 (fun b hb => by simp at hb; rw [hb]; exact la) (fun b hb => by simp at hb; rw [hb]; exact lb)) (Nat.ne_of_lt la) (Nat.ne_of_lt (Nat.lt_succ_of_lt lb)), ⟨hz, hTI, ⟨_, _, hTO⟩, ItK.new h1, ItK.new h2⟩, fun c hcm => ?_, q⟩
      have e' : c = s1.heap.objs.size + 4 ∨ c = s1.heap.objs.size + 2 ∨ c = s1.heap.objs.size + 3 ∨ c = s1.heap.objs.size ∨ c = s1.heap.objs.size + 1 := by simpa using hcm
      have hle : s1.heap.objs.size ≤ c := by
        rcases e' with z | z | z | z | z
        · rw [z]; exact Nat.le_add_right _ _
        · rw [z]; exact Nat.le_add_right _ _
        · rw [z]; exact Nat.le_add_right _ _
        · rw [z]; exact Nat.le_refl _
        · rw [z]; exact Nat.le_add_right _ _
      exact I1.fpOk hle (I1.hok.fresh hle)
/-! ### sorted(xs), xs a list of tuples of ints -/
/-- ascending tuples of one length, of ints from 0 on -/
def SrtT (hs : List (List Int)) : Prop := hs.Pairwise fun x y => TS.code (2 ^ 1000) x ≤ TS.code (2 ^ 1000) y
theorem code_inj {B : Int} : ∀ {x y : List Int}, x.length = y.length → TS.Bd B x → TS.Bd B y → TS.code B x = TS.code B y → x = y
  | [], [], _, _, _, _ => rfl
  | [], _ :: _, h, _, _, _ => by simp at h
  | _ :: _, [], h, _, _, _ => by simp at h
  | d :: r, e :: q, h, h1, h2, hc => by
    have hl : r.length = q.length := by simpa using h
    rcases Int.lt_trichotomy d e with c | c | c
    · have := TS.code_lt hl h1.tail h2.tail c
      omega
    · subst c
      have e1 : ¬ TS.code B r < TS.code B q := fun z => by have := (TS.code_same (d := d) hl).mpr z; omega
      have e2 : ¬ TS.code B q < TS.code B r := fun z => by have := (TS.code_same (d := d) hl.symm).mpr z; omega
      rw [code_inj hl h1.tail h2.tail (by omega)]
    · have := TS.code_lt hl.symm h2.tail h1.tail c
      omega
theorem srt_same {d : Nat} : ∀ {hs ks : List (List Int)}, hs.Perm ks → SrtT hs → SrtT ks → (∀ g ∈ hs, g.length = d ∧ TS.Bd (2 ^ 1000) g) → hs = ks
  | [], ks, p, _, _, _ => by rw [List.nil_perm.mp p]
  | x :: hs, [], p, _, _, _ => by simpa using p.length_eq
  | x :: hs, y :: ks, p, h1, h2, hb => by
    have hxk : x ∈ y :: ks := p.mem_iff.mp (List.mem_cons_self ..)
    have hyh : y ∈ x :: hs := p.mem_iff.mpr (List.mem_cons_self ..)
    have e1 : TS.code (2 ^ 1000) y ≤ TS.code (2 ^ 1000) x := by
      rcases List.mem_cons.mp hxk with e | e
      · rw [e]; exact Int.le_refl _
      · exact (List.pairwise_cons.mp h2).1 x e
    have e2 : TS.code (2 ^ 1000) x ≤ TS.code (2 ^ 1000) y := by
      rcases List.mem_cons.mp hyh with e | e
      · rw [e]; exact Int.le_refl _
      · exact (List.pairwise_cons.mp h1).1 y e
    have bx := hb x (List.mem_cons_self ..)
    have byy := hb y hyh
    have e3 : x = y := code_inj (by rw [bx.1, byy.1]) bx.2 byy.2 (by omega)
    subst e3
    rw [srt_same (List.Perm.cons_inv p) (List.pairwise_cons.mp h1).2 (List.pairwise_cons.mp h2).2 fun g hg => hb g (List.mem_cons_of_mem _ hg)]
theorem perm_lift {α β : Type} {f : α → β} {ys xs : List β} (p : ys.Perm xs) : ∀ l : List α, l.map f = xs → ∃ l' : List α, l'.Perm l ∧ l'.map f = ys := by
  induction p with
  | nil => intro l e; exact ⟨[], by rw [List.map_eq_nil_iff.mp e], rfl⟩
  | cons x p ih =>
    intro l e
    cases l with
    | nil => simp at e
    | cons z l =>
      simp only [List.map_cons, List.cons.injEq] at e
      obtain ⟨l', h1, h2⟩ := ih l e.2
      exact ⟨z :: l', h1.cons z, by rw [List.map_cons, e.1, h2]⟩
  | swap x y l0 =>
    intro l e
    match l, e with
    | a :: b :: l, e =>
      simp only [List.map_cons, List.cons.injEq] at e
      exact ⟨b :: a :: l, List.Perm.swap .., by rw [List.map_cons, List.map_cons, e.1, e.2.1, e.2.2]⟩
    | [_], e => simp at e
    | [], e => simp at e
  | trans _ _ ih1 ih2 =>
    intro l e
    obtain ⟨l1, h1, e1⟩ := ih2 l e
    obtain ⟨l2, h2, e2⟩ := ih1 l1 e1
    exact ⟨l2, h2.trans h1, e2⟩
def rSortTT : List V → Hp → VK → Prop := fun vs H Q => ∃ (l : Addr) (as : List Addr) (gs : List (List Int)) (d : Nat), vs = [.ref l] ∧ H l = some (.lst (as.map V.ref)) ∧ AsT H as gs ∧ gs.length < 64 ∧ 1 ≤ d ∧ (∀ g ∈ gs, g.length = d ∧ TS.Bd (2 ^ 1000) g) ∧
  ∀ p bs hs, H p = none → AsT H bs hs → hs.Perm gs → SrtT hs → Q (.ref p) (upd H p (.lst (bs.map V.ref)))
theorem cr_sortTT {X : Cx} : CallR X (.builtin "sorted") rSortTT := by
  intro pins s σ H vs us Q I r h
  obtain ⟨l, as, gs, d, rfl, hl, hA, few, d1, hb, q⟩ := h
  have hzl : (as.zip gs).map (·.2) = gs := List.map_snd_zip (by rw [hA.1]; exact Nat.le_refl _)
  refine cr_sortT (d := d) (B := 2 ^ 1000) d1 pins s σ H _ us Q I r ⟨l, as.map V.ref, rfl, .inl (.inl hl), by rw [List.length_map, hA.1]; exact few, fun x hx => ?_, fun ys p hperm hpw hp => ?_⟩
  · obtain ⟨a, ha, rfl⟩ := List.mem_map.mp hx
    obtain ⟨i, hi, e⟩ := List.getElem_of_mem ha
    have hi2 : i < gs.length := by rw [← hA.1]; exact hi
    have hg := List.getElem_mem hi2
    exact ⟨gs[i], ⟨a, rfl, .inl (.inl (hA.2 i a _ (by rw [List.getElem?_eq_getElem hi, e]) (List.getElem?_eq_getElem hi2)))⟩, (hb _ hg).1, (hb _ hg).2⟩
  · obtain ⟨zs, hz, rfl⟩ := perm_lift (f := fun p : Addr × List Int => V.ref p.1) hperm (as.zip gs) (zip_refs hA.1)
    have hzat : ∀ z ∈ zs, H z.1 = some (.tup (z.2.map V.int)) := fun z hz2 => zip_at hA z (hz.mem_iff.mp hz2)
    have q' := q p (zs.map (·.1)) (zs.map (·.2)) hp ⟨by simp, fun i t g h1 h2 => ?_⟩ ?_ ?_
    · rw [List.map_map] at q'
      exact q'
    · simp only [List.getElem?_map, Option.map_eq_some_iff] at h1 h2
      obtain ⟨z, hz1, rfl⟩ := h1
      obtain ⟨z', hz2, rfl⟩ := h2
      rw [hz1] at hz2
      obtain rfl := Option.some.inj hz2
      exact hzat z (List.mem_of_getElem? hz1)
    · have := hz.map (·.2)
      rw [hzl] at this
      exact this
    · unfold SrtT
      rw [List.pairwise_map] at hpw ⊢
      exact List.Pairwise.imp_of_mem (fun {a b} ha hb h => h a.2 b.2 ⟨a.1, rfl, .inl (.inl (hzat a ha))⟩ ⟨b.1, rfl, .inl (.inl (hzat b hb))⟩) hpw
end Cs

/-! Co: the head with facts by names and by tests of one's own, nothing written out; the law's end over it. -/
namespace Cs
open PySem PySem.Spec PyProof.Rows L2 He
/-- facts fa, tests xs, defs fn, read off a part of the heap -/
def obsM (fa : List Fa) (xs : List (PySem.W.Frag → Bool)) (fn : List FnD) (K : PySem.W.Frag) : Al := (((fa.all fun f => f.ok K) && xs.all fun f => f K) && fn.all fun d => (Fa.code d.at_ d.qual).ok K, fn.map fun d => fnObs K d.at_)
def SaysM (fa : List Fa) (xs : List (PySem.W.Frag → Bool)) (fn : List FnD) (K : PySem.W.Frag) : Prop := obsM fa xs fn K = valE fn
def refsC (o : Obj) : List Addr := match o.data with
  | .cls cd => [cd.ns]
  | _ => []
def codeC (o : Obj) : List Addr := match o.data with
  | .func fd => refV fd.code
  | _ => []
def atG {α : Type} (g : Addr → Option Obj) (f : Obj → List α) (a : Addr) : List α := match g a with
  | some o => f o
  | none => []
/-- the names' objects, the dicts of the classes cs, what stands in them, the codes of all these -/
def asX (g : Addr → Option Obj) (cs : List Str) : List Addr :=
  (fun as1 ns => (fun fs => mainGlobals :: (as1 ++ (ns ++ (fs ++ (as1 ++ fs).flatMap (atG g codeC))))) (ns.flatMap (atG g refsO)))
    (atG g refsO mainGlobals) (cs.flatMap fun x => atG g refsC (ga (frG g [mainGlobals]) x))
def obsMG (n : List Str) (fa : List Fa) (xs : List (PySem.W.Frag → Bool)) (fn : List FnD) (g : Addr → Option Obj) : Al := obsM fa xs fn (frG g (asX g n))
def hookM (n : List Str) (fa : List Fa) (xs : List (PySem.W.Frag → Bool)) (fn : List FnD) : PySem.W.Hook where
  α := Al
  obs := fun s => obsMG n fa xs fn s.heap.get?
  val := fun _ => valE fn
  says := fun _ h => ∃ K : PySem.W.Frag, K.In h ∧ SaysM fa xs fn K
  of := fun _ _ e => ⟨_, frG_in, e⟩
  keeps := fun _ _ _ ⟨K, hK, c⟩ k => ⟨K, PySem.W.Frag.In.keeps hK k, c⟩
theorem obsMG_eq {n : List Str} {fa : List Fa} {xs : List (PySem.W.Frag → Bool)} {fn : List FnD} {g : Addr → Option Obj} {s : Shared} (h : ∀ a, g a = s.heap.get? a) : obsMG n fa xs fn g = (hookM n fa xs fn).obs s := by
  have e : g = s.heap.get? := funext h
  rw [e] <;> rfl
section
variable {fa : List Fa} {xs : List (PySem.W.Frag → Bool)} {fn : List FnD} {K : PySem.W.Frag}
theorem SaysM.all (c : SaysM fa xs fn K) : (((fa.all fun f => f.ok K) && xs.all fun f => f K) && fn.all fun d => (Fa.code d.at_ d.qual).ok K) = true := congrArg (fun z : Al => z.1) c
theorem SaysM.fact (c : SaysM fa xs fn K) (i : Nat) {f : Fa} (h : fa[i]? = some f := by rfl) : f.ok K = true :=
  List.all_eq_true.mp (ba (ba c.all).1).1 f (List.mem_of_getElem? h)
theorem SaysM.test (c : SaysM fa xs fn K) (i : Nat) {f : PySem.W.Frag → Bool} (h : xs[i]? = some f := by rfl) : f K = true :=
  List.all_eq_true.mp (ba (ba c.all).1).2 f (List.mem_of_getElem? h)
theorem SaysM.def_ (c : SaysM fa xs fn K) (i : Nat) {d : FnD} (h : fn[i]? = some d := by rfl) :
    ∃ oc od osl kV doc pm an cdv ct, K.lookup (fAd K d.at_) = some ⟨oc, od, .func (PySem.W.fnOf d.name d.qual d.params d.body d.scope .none kV doc pm an cdv ct), osl⟩ ∧ PySem.W.codeIn K cdv d.qual = true := by
  have e : fn.map (fun d => fnObs K d.at_) = fn.map FnD.val := congrArg (fun z : Al => z.2) c
  have e2 : (fn.map fun d => fnObs K d.at_)[i]? = (fn.map FnD.val)[i]? := by rw [e]
  rw [List.getElem?_map, List.getElem?_map, h] at e2
  exact fn_ok (Option.some.inj e2) (List.all_eq_true.mp (ba c.all).2 d (List.mem_of_getElem? h))
end
theorem keep_of {K : PySem.W.Frag} {x : Str} (c : (Fa.keep x).ok K = true) : PySem.W.keepIn K (.ref (fAd K (x, none))) = true := c
theorem glo_of {K : PySem.W.Frag} {x : Str} (c : (Fa.glo x).ok K = true) : PySem.W.nsIn K mainGlobals x = some (some (.ref (ga K x))) := eqO_ok c
theorem free_of {K : PySem.W.Frag} {x : Str} (c : (Fa.free x).ok K = true) : PySem.W.nsIn K mainGlobals x = some none := eqO_ok c
theorem int_of {K : PySem.W.Frag} {x : Str} {i : Int} (c : (Fa.int x i).ok K = true) : ∃ v, PySem.W.nsIn K mainGlobals x = some (some v) ∧ RelV (.int i) v := by
  have c2 : (match PySem.W.nsIn K mainGlobals x with
    | some (some (.int j _)) => decide (j = i)
    | _ => false) = true := c
  cases e : PySem.W.nsIn K mainGlobals x with
  | none => rw [e] at c2; cases c2
  | some o =>
    rw [e] at c2
    cases o with
    | none => cases c2
    | some v =>
      cases v with
      | int j t =>
        have ej : j = i := of_decide_eq_true c2
        rw [ej] at e ⊢
        exact ⟨_, rfl, t, rfl⟩
      | _ => cases c2
/-- the law's end over facts, the script's ints bounded -/
theorem walk_ofBE {l : PySem.W.OpenLaw} {n k : Nat} {q : Program} {loose : List Str} {XP : (Str → Option Value) → Heap → Prop} {YP : World → Heap → Prop} {d : DefRec} {CX : CXT} {x : Str}
    (hn : l.most = some n) (hn2 : n ≤ sizeLine) (hdf : d.params.defaults = []) (hr : Room k callerA)
    (F : ∀ (w : World) (mg : Str → Option Value) (fa : Addr) (h : Heap), YP w h → h.Ns mainGlobals mg → mg d.name = some (.ref fa) →
      ∃ (K : PySem.W.Frag) (fd : FuncData) (sp : Sp), K.In h ∧ (∀ (s : Shared) (u : Value), BindsTo s fd ⟨[u], []⟩ [(x, u)]) ∧
        (∀ (H : Hp) (a : Addr) (ns : List Int), ns.length ≤ n → (∀ z ∈ ns, Builtin.Int.intBits z ≤ 1048576) → Only H → SqL K H a (ns.map V.int) → sp [.ref a] H (fun v _ => v = .bl true) fun _ _ _ => False) ∧
        ∀ base : Heap, K.In base → base.Ns mainGlobals mg → FnOk l.prog w K mg base CX k fa fd [x] sp)
    (hCX : ∀ (H : Hp) (s : Shared) (e : Value) (s' : Shared), CX [] H s (fun _ _ _ => False) e s' → False) :
    PySem.W.WalkO q loose XP YP l.row.toRowW d [] (fun f vs => PySem.call f vs) := by
  refine Att.attach_callB hn hdf fun w s₀ s₁ mg mb fa o pm cd doc a vs ns G Y ho hd hcd hmg hobj hints hlen hbits hg => ?_
  obtain ⟨K, fd, sp, KX, hb, hsp, hF⟩ := F w mg fa _ Y G.T.g hmg
  exact law_call KX G.T.g G.T.b G.T.builtins G.T.nolimit hg hobj hints (Nat.le_trans hlen hn2) hr hF hb (fun H hO hS => hsp H a ns hlen hbits hO hS) fun H e s' => hCX H s₁ e s'
end Cs

namespace Lw
open PySem PySem.Spec PyProof.Rows L2 Cs
def top (i : Nat) : Stmt := PySem.Challenge.pw_calledseats_k37_whole_games_transformed.main.body.getD i (.Pass ⟨0, 0, 0, 0⟩)
abbrev d_is_integer : Stmt := top 15
abbrev N_is_integer : List Str := ["number"]
theorem sc_is_integer : FnScope N_is_integer ["number"] (defScope d_is_integer) := ⟨rfl, rfl, rfl, by decide +kernel, rfl, by decide +kernel, by decide +kernel⟩
abbrev d_is_place : Stmt := top 16
abbrev N_is_place : List Str := ["size", "place"]
theorem sc_is_place : FnScope N_is_place ["size", "place"] (defScope d_is_place) := ⟨rfl, rfl, rfl, by decide +kernel, rfl, by decide +kernel, by decide +kernel⟩
abbrev d_is_seat : Stmt := top 17
abbrev N_is_seat : List Str := ["sizes", "seat", "place", "size"]
theorem sc_is_seat : FnScope N_is_seat ["sizes", "seat"] (defScope d_is_seat) := ⟨rfl, rfl, rfl, by decide +kernel, rfl, by decide +kernel, by decide +kernel⟩
abbrev d_is_call : Stmt := top 18
abbrev N_is_call : List Str := ["sizes", "call", "part"]
theorem sc_is_call : FnScope N_is_call ["sizes", "call"] (defScope d_is_call) := ⟨rfl, rfl, rfl, by decide +kernel, rfl, by decide +kernel, by decide +kernel⟩
abbrev d_is_direction : Stmt := top 19
abbrev N_is_direction : List Str := ["direction"]
theorem sc_is_direction : FnScope N_is_direction ["direction"] (defScope d_is_direction) := ⟨rfl, rfl, rfl, by decide +kernel, rfl, by decide +kernel, by decide +kernel⟩
abbrev d_is_list_of_directions : Stmt := top 20
abbrev N_is_list_of_directions : List Str := ["directions", "entry"]
theorem sc_is_list_of_directions : FnScope N_is_list_of_directions ["directions"] (defScope d_is_list_of_directions) := ⟨rfl, rfl, rfl, by decide +kernel, rfl, by decide +kernel, by decide +kernel⟩
abbrev d_is_modulus : Stmt := top 21
abbrev N_is_modulus : List Str := ["modulus"]
theorem sc_is_modulus : FnScope N_is_modulus ["modulus"] (defScope d_is_modulus) := ⟨rfl, rfl, rfl, by decide +kernel, rfl, by decide +kernel, by decide +kernel⟩
abbrev d_are_weights : Stmt := top 22
abbrev N_are_weights : List Str := ["sizes", "modulus", "weights", "weight", "size"]
theorem sc_are_weights : FnScope N_are_weights ["sizes", "modulus", "weights"] (defScope d_are_weights) := ⟨rfl, rfl, rfl, by decide +kernel, rfl, by decide +kernel, by decide +kernel⟩
abbrev d_is_witness : Stmt := top 23
abbrev N_is_witness : List Str := ["sizes", "witness", "modulus", "weights", "residue"]
theorem sc_is_witness : FnScope N_is_witness ["sizes", "witness"] (defScope d_is_witness) := ⟨rfl, rfl, rfl, by decide +kernel, rfl, by decide +kernel, by decide +kernel⟩
abbrev d_require_seat : Stmt := top 24
abbrev N_require_seat : List Str := ["sizes", "seat"]
theorem sc_require_seat : FnScope N_require_seat ["sizes", "seat"] (defScope d_require_seat) := ⟨rfl, rfl, rfl, by decide +kernel, rfl, by decide +kernel, by decide +kernel⟩
abbrev d_require_call : Stmt := top 25
abbrev N_require_call : List Str := ["sizes", "call"]
theorem sc_require_call : FnScope N_require_call ["sizes", "call"] (defScope d_require_call) := ⟨rfl, rfl, rfl, by decide +kernel, rfl, by decide +kernel, by decide +kernel⟩
abbrev d_require_witness : Stmt := top 27
abbrev N_require_witness : List Str := ["sizes", "witness"]
theorem sc_require_witness : FnScope N_require_witness ["sizes", "witness"] (defScope d_require_witness) := ⟨rfl, rfl, rfl, by decide +kernel, rfl, by decide +kernel, by decide +kernel⟩
abbrev d_require_seats : Stmt := top 28
abbrev N_require_seats : List Str := ["sizes", "seats", "seen", "index", "seat"]
theorem sc_require_seats : FnScope N_require_seats ["sizes", "seats"] (defScope d_require_seats) := ⟨rfl, rfl, rfl, by decide +kernel, rfl, by decide +kernel, by decide +kernel⟩
abbrev d_require_targets : Stmt := top 29
abbrev N_require_targets : List Str := ["sizes", "targets"]
theorem sc_require_targets : FnScope N_require_targets ["sizes", "targets"] (defScope d_require_targets) := ⟨rfl, rfl, rfl, by decide +kernel, rfl, by decide +kernel, by decide +kernel⟩
abbrev d_require_number : Stmt := top 30
abbrev N_require_number : List Str := ["number", "least", "name"]
theorem sc_require_number : FnScope N_require_number ["number", "least", "name"] (defScope d_require_number) := ⟨rfl, rfl, rfl, by decide +kernel, rfl, by decide +kernel, by decide +kernel⟩
abbrev d_Table_init : Stmt := inClass (top 34) 0
abbrev N_Table_init : List Str := ["self", "rings"]
theorem sc_Table_init : FnScope N_Table_init ["self", "rings"] (defScope d_Table_init) := ⟨rfl, rfl, rfl, by decide +kernel, rfl, by decide +kernel, by decide +kernel⟩
abbrev d_Table_sizes : Stmt := inClass (top 34) 1
abbrev N_Table_sizes : List Str := ["self"]
theorem sc_Table_sizes : FnScope N_Table_sizes ["self"] (defScope d_Table_sizes) := ⟨rfl, rfl, rfl, by decide +kernel, rfl, by decide +kernel, by decide +kernel⟩
abbrev d_sizes_of : Stmt := top 35
abbrev N_sizes_of : List Str := ["table"]
theorem sc_sizes_of : FnScope N_sizes_of ["table"] (defScope d_sizes_of) := ⟨rfl, rfl, rfl, by decide +kernel, rfl, by decide +kernel, by decide +kernel⟩
abbrev d_both_moves : Stmt := top 36
abbrev N_both_moves : List Str := ["sizes", "seat", "call", "forward", "backward", "place", "part", "size"]
theorem sc_both_moves : FnScope N_both_moves ["sizes", "seat", "call"] (defScope d_both_moves) := ⟨rfl, rfl, rfl, by decide +kernel, rfl, by decide +kernel, by decide +kernel⟩
abbrev d_stepped : Stmt := top 37
abbrev N_stepped : List Str := ["sizes", "seat", "call", "direction", "forward", "backward"]
theorem sc_stepped : FnScope N_stepped ["sizes", "seat", "call", "direction"] (defScope d_stepped) := ⟨rfl, rfl, rfl, by decide +kernel, rfl, by decide +kernel, by decide +kernel⟩
abbrev d_are_sizes : Stmt := top 41
abbrev N_are_sizes : List Str := ["rings", "size"]
theorem sc_are_sizes : FnScope N_are_sizes ["rings"] (defScope d_are_sizes) := ⟨rfl, rfl, rfl, by decide +kernel, rfl, by decide +kernel, by decide +kernel⟩
abbrev d_weighted_sum : Stmt := top 49
abbrev N_weighted_sum : List Str := ["weights", "vector", "weight", "part"]
theorem sc_weighted_sum : FnScope N_weighted_sum ["weights", "vector"] (defScope d_weighted_sum) := ⟨rfl, rfl, rfl, by decide +kernel, rfl, by decide +kernel, by decide +kernel⟩
abbrev d_has_residue : Stmt := top 50
abbrev N_has_residue : List Str := ["witness", "seat", "modulus", "weights", "residue"]
theorem sc_has_residue : FnScope N_has_residue ["witness", "seat"] (defScope d_has_residue) := ⟨rfl, rfl, rfl, by decide +kernel, rfl, by decide +kernel, by decide +kernel⟩
abbrev d_direction_off : Stmt := top 51
abbrev N_direction_off : List Str := ["witness", "seat", "call", "modulus", "weights", "residue"]
theorem sc_direction_off : FnScope N_direction_off ["witness", "seat", "call"] (defScope d_direction_off) := ⟨rfl, rfl, rfl, by decide +kernel, rfl, by decide +kernel, by decide +kernel⟩
abbrev d_avoiding_direction : Stmt := top 53
abbrev N_avoiding_direction : List Str := ["table", "witness", "seat", "call", "sizes"]
theorem sc_avoiding_direction : FnScope N_avoiding_direction ["table", "witness", "seat", "call"] (defScope d_avoiding_direction) := ⟨rfl, rfl, rfl, by decide +kernel, rfl, by decide +kernel, by decide +kernel⟩
abbrev d_Responder_init : Stmt := inClass (top 54) 0
abbrev N_Responder_init : List Str := ["self", "table", "targets", "strategy", "sizes"]
theorem sc_Responder_init : FnScope N_Responder_init ["self", "table", "targets", "strategy"] (defScope d_Responder_init) := ⟨rfl, rfl, rfl, by decide +kernel, rfl, by decide +kernel, by decide +kernel⟩
abbrev d_Responder_answer : Stmt := inClass (top 54) 1
abbrev N_Responder_answer : List Str := ["self", "seat", "call", "direction"]
theorem sc_Responder_answer : FnScope N_Responder_answer ["self", "seat", "call"] (defScope d_Responder_answer) := ⟨rfl, rfl, rfl, by decide +kernel, rfl, by decide +kernel, by decide +kernel⟩
abbrev d_Responder_direction_at : Stmt := inClass (top 54) 2
abbrev N_Responder_direction_at : List Str := ["self", "turn", "seat", "call", "forward", "backward"]
theorem sc_Responder_direction_at : FnScope N_Responder_direction_at ["self", "turn", "seat", "call"] (defScope d_Responder_direction_at) := ⟨rfl, rfl, rfl, by decide +kernel, rfl, by decide +kernel, by decide +kernel⟩
abbrev d_Responder_has_lost_at : Stmt := inClass (top 54) 3
abbrev N_Responder_has_lost_at : List Str := ["self", "seat"]
theorem sc_Responder_has_lost_at : FnScope N_Responder_has_lost_at ["self", "seat"] (defScope d_Responder_has_lost_at) := ⟨rfl, rfl, rfl, by decide +kernel, rfl, by decide +kernel, by decide +kernel⟩
abbrev d_Responder_belongs_to : Stmt := inClass (top 54) 4
abbrev N_Responder_belongs_to : List Str := ["self", "sizes", "targets"]
theorem sc_Responder_belongs_to : FnScope N_Responder_belongs_to ["self", "sizes", "targets"] (defScope d_Responder_belongs_to) := ⟨rfl, rfl, rfl, by decide +kernel, rfl, by decide +kernel, by decide +kernel⟩
abbrev d_Caller_init : Stmt := inClass (top 55) 0
abbrev N_Caller_init : List Str := ["self", "table", "targets", "strategy", "sizes", "call"]
theorem sc_Caller_init : FnScope N_Caller_init ["self", "table", "targets", "strategy"] (defScope d_Caller_init) := ⟨rfl, rfl, rfl, by decide +kernel, rfl, by decide +kernel, by decide +kernel⟩
abbrev d_Caller_call_at : Stmt := inClass (top 55) 2
abbrev N_Caller_call_at : List Str := ["self", "turn", "seat", "call"]
theorem sc_Caller_call_at : FnScope N_Caller_call_at ["self", "turn", "seat"] (defScope d_Caller_call_at) := ⟨rfl, rfl, rfl, by decide +kernel, rfl, by decide +kernel, by decide +kernel⟩
abbrev d_Caller_belongs_to : Stmt := inClass (top 55) 3
abbrev N_Caller_belongs_to : List Str := ["self", "sizes", "targets"]
theorem sc_Caller_belongs_to : FnScope N_Caller_belongs_to ["self", "sizes", "targets"] (defScope d_Caller_belongs_to) := ⟨rfl, rfl, rfl, by decide +kernel, rfl, by decide +kernel, by decide +kernel⟩
abbrev d_play : Stmt := top 56
abbrev N_play : List Str := ["table", "targets", "seat", "caller", "responder", "limit", "sizes"]
theorem sc_play : FnScope N_play ["table", "targets", "seat", "caller", "responder", "limit"] (defScope d_play) := ⟨rfl, rfl, rfl, by decide +kernel, rfl, by decide +kernel, by decide +kernel⟩
abbrev d_played : Stmt := top 57
abbrev N_played : List Str := ["sizes", "targets", "seat", "caller", "responder", "limit", "goals", "current", "moves", "seats", "call", "direction"]
theorem sc_played : FnScope N_played ["sizes", "targets", "seat", "caller", "responder", "limit"] (defScope d_played) := ⟨rfl, rfl, rfl, by decide +kernel, rfl, by decide +kernel, by decide +kernel⟩
abbrev d_reduced_call : Stmt := top 59
abbrev N_reduced_call : List Str := ["sizes", "call", "part", "size"]
theorem sc_reduced_call : FnScope N_reduced_call ["sizes", "call"] (defScope d_reduced_call) := ⟨rfl, rfl, rfl, by decide +kernel, rfl, by decide +kernel, by decide +kernel⟩
abbrev d_is_layers : Stmt := top 60
abbrev N_is_layers : List Str := ["strategy"]
theorem sc_is_layers : FnScope N_is_layers ["strategy"] (defScope d_is_layers) := ⟨rfl, rfl, rfl, by decide +kernel, rfl, by decide +kernel, by decide +kernel⟩
abbrev d_is_list_of_calls : Stmt := top 61
abbrev N_is_list_of_calls : List Str := ["sizes", "strategy", "entry"]
theorem sc_is_list_of_calls : FnScope N_is_list_of_calls ["sizes", "strategy"] (defScope d_is_list_of_calls) := ⟨rfl, rfl, rfl, by decide +kernel, rfl, by decide +kernel, by decide +kernel⟩
abbrev d_is_common_witness : Stmt := top 62
abbrev N_is_common_witness : List Str := ["sizes", "targets", "strategy", "target"]
theorem sc_is_common_witness : FnScope N_is_common_witness ["sizes", "targets", "strategy"] (defScope d_is_common_witness) := ⟨rfl, rfl, rfl, by decide +kernel, rfl, by decide +kernel, by decide +kernel⟩
abbrev d_law_cell_at : Stmt := top 64
abbrev N_law_cell_at : List Str := ["_law_script", "_law_k"]
theorem sc_law_cell_at : FnScope N_law_cell_at ["_law_script", "_law_k"] (defScope d_law_cell_at) := ⟨rfl, rfl, rfl, by decide +kernel, rfl, by decide +kernel, by decide +kernel⟩
abbrev d_law_source : Stmt := top 65
abbrev N_law_source : List Str := ["_law_cell"]
theorem sc_law_source : FnScope N_law_source ["_law_cell"] (defScope d_law_source) := ⟨rfl, rfl, rfl, by decide +kernel, rfl, by decide +kernel, by decide +kernel⟩
abbrev d_law_take : Stmt := top 66
abbrev N_law_take : List Str := ["_law_source_here", "_law_bound", "_law_digit", "_law_mixed"]
theorem sc_law_take : FnScope N_law_take ["_law_source_here", "_law_bound"] (defScope d_law_take) := ⟨rfl, rfl, rfl, by decide +kernel, rfl, by decide +kernel, by decide +kernel⟩
abbrev d_law_pick : Stmt := top 67
abbrev N_law_pick : List Str := ["_law_source_here", "_law_items"]
theorem sc_law_pick : FnScope N_law_pick ["_law_source_here", "_law_items"] (defScope d_law_pick) := ⟨rfl, rfl, rfl, by decide +kernel, rfl, by decide +kernel, by decide +kernel⟩
abbrev d_law_shuffled : Stmt := top 68
abbrev N_law_shuffled : List Str := ["_law_source_here", "_law_items", "_law_pool", "_law_result"]
theorem sc_law_shuffled : FnScope N_law_shuffled ["_law_source_here", "_law_items"] (defScope d_law_shuffled) := ⟨rfl, rfl, rfl, by decide +kernel, rfl, by decide +kernel, by decide +kernel⟩
abbrev d_law_drawn_seat : Stmt := top 69
abbrev N_law_drawn_seat : List Str := ["_law_source_here", "_law_rings", "_law_size"]
theorem sc_law_drawn_seat : FnScope N_law_drawn_seat ["_law_source_here", "_law_rings"] (defScope d_law_drawn_seat) := ⟨rfl, rfl, rfl, by decide +kernel, rfl, by decide +kernel, by decide +kernel⟩
abbrev d_law_moved : Stmt := top 70
abbrev N_law_moved : List Str := ["_law_rings", "_law_spot", "_law_call_in", "_law_sign", "_law_one", "_law_other", "_law_size"]
theorem sc_law_moved : FnScope N_law_moved ["_law_rings", "_law_spot", "_law_call_in", "_law_sign"] (defScope d_law_moved) := ⟨rfl, rfl, rfl, by decide +kernel, rfl, by decide +kernel, by decide +kernel⟩
abbrev d_law_drawn_call : Stmt := top 71
abbrev N_law_drawn_call : List Str := ["_law_source_here", "_law_rings", "_law_result", "_law_size", "_law_wide"]
theorem sc_law_drawn_call : FnScope N_law_drawn_call ["_law_source_here", "_law_rings"] (defScope d_law_drawn_call) := ⟨rfl, rfl, rfl, by decide +kernel, rfl, by decide +kernel, by decide +kernel⟩
abbrev d_law_goals : Stmt := top 72
abbrev N_law_goals : List Str := ["_law_source_here", "_law_rings", "_law_bound", "_law_result", "_law_k", "_law_spot"]
theorem sc_law_goals : FnScope N_law_goals ["_law_source_here", "_law_rings", "_law_bound"] (defScope d_law_goals) := ⟨rfl, rfl, rfl, by decide +kernel, rfl, by decide +kernel, by decide +kernel⟩
abbrev d_law_list_calls : Stmt := top 73
abbrev N_law_list_calls : List Str := ["_law_source_here", "_law_rings", "_law_bound", "_law_k"]
theorem sc_law_list_calls : FnScope N_law_list_calls ["_law_source_here", "_law_rings", "_law_bound"] (defScope d_law_list_calls) := ⟨rfl, rfl, rfl, by decide +kernel, rfl, by decide +kernel, by decide +kernel⟩
abbrev d_law_list_words : Stmt := top 74
abbrev N_law_list_words : List Str := ["_law_source_here", "_law_bound", "_law_k"]
theorem sc_law_list_words : FnScope N_law_list_words ["_law_source_here", "_law_bound"] (defScope d_law_list_words) := ⟨rfl, rfl, rfl, by decide +kernel, rfl, by decide +kernel, by decide +kernel⟩
abbrev d_law_rings_any : Stmt := top 75
abbrev N_law_rings_any : List Str := ["_law_source_here", "_law_wide", "_law_k"]
theorem sc_law_rings_any : FnScope N_law_rings_any ["_law_source_here"] (defScope d_law_rings_any) := ⟨rfl, rfl, rfl, by decide +kernel, rfl, by decide +kernel, by decide +kernel⟩
abbrev d_law_planted : Stmt := top 76
abbrev N_law_planted : List Str := ["_law_source_here", "_law_wide", "_law_odd", "_law_modulus", "_law_factors", "_law_rings", "_law_weights", "_law_k", "_law_factor_here"]
theorem sc_law_planted : FnScope N_law_planted ["_law_source_here", "_law_wide"] (defScope d_law_planted) := ⟨rfl, rfl, rfl, by decide +kernel, rfl, by decide +kernel, by decide +kernel⟩
abbrev d_law_sum_of : Stmt := top 77
abbrev N_law_sum_of : List Str := ["_law_modulus", "_law_weights", "_law_spot", "_law_total", "_law_weight", "_law_place"]
theorem sc_law_sum_of : FnScope N_law_sum_of ["_law_modulus", "_law_weights", "_law_spot"] (defScope d_law_sum_of) := ⟨rfl, rfl, rfl, by decide +kernel, rfl, by decide +kernel, by decide +kernel⟩
abbrev d_law_divisor : Stmt := top 78
abbrev N_law_divisor : List Str := ["_law_one", "_law_other"]
theorem sc_law_divisor : FnScope N_law_divisor ["_law_one", "_law_other"] (defScope d_law_divisor) := ⟨rfl, rfl, rfl, by decide +kernel, rfl, by decide +kernel, by decide +kernel⟩
abbrev d_law_factor : Stmt := top 79
abbrev N_law_factor : List Str := ["_law_source_here", "_law_size", "_law_found"]
theorem sc_law_factor : FnScope N_law_factor ["_law_source_here", "_law_size"] (defScope d_law_factor) := ⟨rfl, rfl, rfl, by decide +kernel, rfl, by decide +kernel, by decide +kernel⟩
abbrev d_law_course_of : Stmt := top 80
abbrev N_law_course_of : List Str := ["_law_rings", "_law_goals_here", "_law_spot", "_law_called", "_law_words", "_law_table", "_law_told"]
theorem sc_law_course_of : FnScope N_law_course_of ["_law_rings", "_law_goals_here", "_law_spot", "_law_called", "_law_words"] (defScope d_law_course_of) := ⟨rfl, rfl, rfl, by decide +kernel, rfl, by decide +kernel, by decide +kernel⟩
abbrev d_law_times : Stmt := top 81
abbrev N_law_times : List Str := ["_law_rings", "_law_factors", "_law_spot", "_law_one", "_law_factor_here", "_law_size"]
theorem sc_law_times : FnScope N_law_times ["_law_rings", "_law_factors", "_law_spot"] (defScope d_law_times) := ⟨rfl, rfl, rfl, by decide +kernel, rfl, by decide +kernel, by decide +kernel⟩
abbrev d_law_lists_right : Stmt := top 82
abbrev N_law_lists_right : List Str := ["_law_source_here", "_law_rings", "_law_goals_here", "_law_called", "_law_words", "_law_spot", "_law_shift", "_law_spots", "_law_outcome", "_law_later", "_law_due", "_law_factors", "_law_some", "_law_minus", "_law_swapped", "_law_times_here", "_law_whole", "_law_order", "_law_mixed", "_law_turned", "_law_one", "_law_size", "_law_part", "_law_word", "_law_k", "_law_lot"]
theorem sc_law_lists_right : FnScope N_law_lists_right ["_law_source_here", "_law_rings", "_law_goals_here", "_law_called", "_law_words"] (defScope d_law_lists_right) := ⟨rfl, rfl, rfl, by decide +kernel, rfl, by decide +kernel, by decide +kernel⟩
abbrev d_law_witness_right : Stmt := top 83
abbrev N_law_witness_right : List Str := ["_law_source_here", "_law_rings", "_law_modulus", "_law_weights", "_law_table", "_law_k", "_law_spot", "_law_shift", "_law_call_in", "_law_residue", "_law_told", "_law_moved_to", "_law_other", "_law_minus", "_law_back", "_law_place", "_law_size", "_law_part"]
theorem sc_law_witness_right : FnScope N_law_witness_right ["_law_source_here"] (defScope d_law_witness_right) := ⟨rfl, rfl, rfl, by decide +kernel, rfl, by decide +kernel, by decide +kernel⟩
abbrev d_law : Stmt := top 84
abbrev N_law : List Str := ["_law_script", "_law_cell", "_law_source_here", "_law_rings", "_law_goals_here", "_law_called", "_law_words"]
theorem sc_law : FnScope N_law ["_law_script"] (defScope d_law) := ⟨rfl, rfl, rfl, by decide +kernel, rfl, by decide +kernel, by decide +kernel⟩
structure Tx (K : PySem.W.Frag) (mg : Str → Option Value) : Type where
  f_is_integer : Addr
  fd_is_integer : FuncData
  F_is_integer : Fun K "is_integer" "is_integer" d_is_integer f_is_integer fd_is_integer
  b_is_integer : Binds K fd_is_integer ["number"] []
  g_is_integer : mg "is_integer" = some (.ref f_is_integer)
  f_is_place : Addr
  fd_is_place : FuncData
  F_is_place : Fun K "is_place" "is_place" d_is_place f_is_place fd_is_place
  b_is_place : Binds K fd_is_place ["size", "place"] []
  g_is_place : mg "is_place" = some (.ref f_is_place)
  f_is_seat : Addr
  fd_is_seat : FuncData
  F_is_seat : Fun K "is_seat" "is_seat" d_is_seat f_is_seat fd_is_seat
  b_is_seat : Binds K fd_is_seat ["sizes", "seat"] []
  g_is_seat : mg "is_seat" = some (.ref f_is_seat)
  f_is_call : Addr
  fd_is_call : FuncData
  F_is_call : Fun K "is_call" "is_call" d_is_call f_is_call fd_is_call
  b_is_call : Binds K fd_is_call ["sizes", "call"] []
  g_is_call : mg "is_call" = some (.ref f_is_call)
  f_is_direction : Addr
  fd_is_direction : FuncData
  F_is_direction : Fun K "is_direction" "is_direction" d_is_direction f_is_direction fd_is_direction
  b_is_direction : Binds K fd_is_direction ["direction"] []
  g_is_direction : mg "is_direction" = some (.ref f_is_direction)
  f_is_list_of_directions : Addr
  fd_is_list_of_directions : FuncData
  F_is_list_of_directions : Fun K "is_list_of_directions" "is_list_of_directions" d_is_list_of_directions f_is_list_of_directions fd_is_list_of_directions
  b_is_list_of_directions : Binds K fd_is_list_of_directions ["directions"] []
  g_is_list_of_directions : mg "is_list_of_directions" = some (.ref f_is_list_of_directions)
  f_is_modulus : Addr
  fd_is_modulus : FuncData
  F_is_modulus : Fun K "is_modulus" "is_modulus" d_is_modulus f_is_modulus fd_is_modulus
  b_is_modulus : Binds K fd_is_modulus ["modulus"] []
  g_is_modulus : mg "is_modulus" = some (.ref f_is_modulus)
  f_are_weights : Addr
  fd_are_weights : FuncData
  F_are_weights : Fun K "are_weights" "are_weights" d_are_weights f_are_weights fd_are_weights
  b_are_weights : Binds K fd_are_weights ["sizes", "modulus", "weights"] []
  g_are_weights : mg "are_weights" = some (.ref f_are_weights)
  f_is_witness : Addr
  fd_is_witness : FuncData
  F_is_witness : Fun K "is_witness" "is_witness" d_is_witness f_is_witness fd_is_witness
  b_is_witness : Binds K fd_is_witness ["sizes", "witness"] []
  g_is_witness : mg "is_witness" = some (.ref f_is_witness)
  f_require_seat : Addr
  fd_require_seat : FuncData
  F_require_seat : Fun K "require_seat" "require_seat" d_require_seat f_require_seat fd_require_seat
  b_require_seat : Binds K fd_require_seat ["sizes", "seat"] []
  g_require_seat : mg "require_seat" = some (.ref f_require_seat)
  f_require_call : Addr
  fd_require_call : FuncData
  F_require_call : Fun K "require_call" "require_call" d_require_call f_require_call fd_require_call
  b_require_call : Binds K fd_require_call ["sizes", "call"] []
  g_require_call : mg "require_call" = some (.ref f_require_call)
  f_require_witness : Addr
  fd_require_witness : FuncData
  F_require_witness : Fun K "require_witness" "require_witness" d_require_witness f_require_witness fd_require_witness
  b_require_witness : Binds K fd_require_witness ["sizes", "witness"] []
  g_require_witness : mg "require_witness" = some (.ref f_require_witness)
  f_require_seats : Addr
  fd_require_seats : FuncData
  F_require_seats : Fun K "require_seats" "require_seats" d_require_seats f_require_seats fd_require_seats
  b_require_seats : Binds K fd_require_seats ["sizes", "seats"] []
  g_require_seats : mg "require_seats" = some (.ref f_require_seats)
  f_require_targets : Addr
  fd_require_targets : FuncData
  F_require_targets : Fun K "require_targets" "require_targets" d_require_targets f_require_targets fd_require_targets
  b_require_targets : Binds K fd_require_targets ["sizes", "targets"] []
  g_require_targets : mg "require_targets" = some (.ref f_require_targets)
  f_require_number : Addr
  fd_require_number : FuncData
  F_require_number : Fun K "require_number" "require_number" d_require_number f_require_number fd_require_number
  b_require_number : Binds K fd_require_number ["number", "least", "name"] []
  g_require_number : mg "require_number" = some (.ref f_require_number)
  f_Table_init : Addr
  fd_Table_init : FuncData
  F_Table_init : Fun K "__init__" "Table.__init__" d_Table_init f_Table_init fd_Table_init
  b_Table_init : Binds K fd_Table_init ["self", "rings"] []
  f_Table_sizes : Addr
  fd_Table_sizes : FuncData
  F_Table_sizes : Fun K "sizes" "Table.sizes" d_Table_sizes f_Table_sizes fd_Table_sizes
  b_Table_sizes : Binds K fd_Table_sizes ["self"] []
  f_sizes_of : Addr
  fd_sizes_of : FuncData
  F_sizes_of : Fun K "sizes_of" "sizes_of" d_sizes_of f_sizes_of fd_sizes_of
  b_sizes_of : Binds K fd_sizes_of ["table"] []
  g_sizes_of : mg "sizes_of" = some (.ref f_sizes_of)
  f_both_moves : Addr
  fd_both_moves : FuncData
  F_both_moves : Fun K "both_moves" "both_moves" d_both_moves f_both_moves fd_both_moves
  b_both_moves : Binds K fd_both_moves ["sizes", "seat", "call"] []
  g_both_moves : mg "both_moves" = some (.ref f_both_moves)
  f_stepped : Addr
  fd_stepped : FuncData
  F_stepped : Fun K "stepped" "stepped" d_stepped f_stepped fd_stepped
  b_stepped : Binds K fd_stepped ["sizes", "seat", "call", "direction"] []
  g_stepped : mg "stepped" = some (.ref f_stepped)
  f_are_sizes : Addr
  fd_are_sizes : FuncData
  F_are_sizes : Fun K "_are_sizes" "_are_sizes" d_are_sizes f_are_sizes fd_are_sizes
  b_are_sizes : Binds K fd_are_sizes ["rings"] []
  g_are_sizes : mg "_are_sizes" = some (.ref f_are_sizes)
  f_weighted_sum : Addr
  fd_weighted_sum : FuncData
  F_weighted_sum : Fun K "weighted_sum" "weighted_sum" d_weighted_sum f_weighted_sum fd_weighted_sum
  b_weighted_sum : Binds K fd_weighted_sum ["weights", "vector"] []
  g_weighted_sum : mg "weighted_sum" = some (.ref f_weighted_sum)
  f_has_residue : Addr
  fd_has_residue : FuncData
  F_has_residue : Fun K "has_residue" "has_residue" d_has_residue f_has_residue fd_has_residue
  b_has_residue : Binds K fd_has_residue ["witness", "seat"] []
  g_has_residue : mg "has_residue" = some (.ref f_has_residue)
  f_direction_off : Addr
  fd_direction_off : FuncData
  F_direction_off : Fun K "direction_off" "direction_off" d_direction_off f_direction_off fd_direction_off
  b_direction_off : Binds K fd_direction_off ["witness", "seat", "call"] []
  g_direction_off : mg "direction_off" = some (.ref f_direction_off)
  f_avoiding_direction : Addr
  fd_avoiding_direction : FuncData
  F_avoiding_direction : Fun K "avoiding_direction" "avoiding_direction" d_avoiding_direction f_avoiding_direction fd_avoiding_direction
  b_avoiding_direction : Binds K fd_avoiding_direction ["table", "witness", "seat", "call"] []
  g_avoiding_direction : mg "avoiding_direction" = some (.ref f_avoiding_direction)
  f_Responder_init : Addr
  fd_Responder_init : FuncData
  F_Responder_init : Fun K "__init__" "Responder.__init__" d_Responder_init f_Responder_init fd_Responder_init
  b_Responder_init : Binds K fd_Responder_init ["self", "table", "targets", "strategy"] []
  f_Responder_answer : Addr
  fd_Responder_answer : FuncData
  F_Responder_answer : Fun K "answer" "Responder.answer" d_Responder_answer f_Responder_answer fd_Responder_answer
  b_Responder_answer : Binds K fd_Responder_answer ["self", "seat", "call"] []
  f_Responder_direction_at : Addr
  fd_Responder_direction_at : FuncData
  F_Responder_direction_at : Fun K "direction_at" "Responder.direction_at" d_Responder_direction_at f_Responder_direction_at fd_Responder_direction_at
  b_Responder_direction_at : Binds K fd_Responder_direction_at ["self", "turn", "seat", "call"] []
  f_Responder_has_lost_at : Addr
  fd_Responder_has_lost_at : FuncData
  F_Responder_has_lost_at : Fun K "has_lost_at" "Responder.has_lost_at" d_Responder_has_lost_at f_Responder_has_lost_at fd_Responder_has_lost_at
  b_Responder_has_lost_at : Binds K fd_Responder_has_lost_at ["self", "seat"] []
  f_Responder_belongs_to : Addr
  fd_Responder_belongs_to : FuncData
  F_Responder_belongs_to : Fun K "belongs_to" "Responder.belongs_to" d_Responder_belongs_to f_Responder_belongs_to fd_Responder_belongs_to
  b_Responder_belongs_to : Binds K fd_Responder_belongs_to ["self", "sizes", "targets"] []
  f_Caller_init : Addr
  fd_Caller_init : FuncData
  F_Caller_init : Fun K "__init__" "Caller.__init__" d_Caller_init f_Caller_init fd_Caller_init
  b_Caller_init : Binds K fd_Caller_init ["self", "table", "targets", "strategy"] []
  f_Caller_call_at : Addr
  fd_Caller_call_at : FuncData
  F_Caller_call_at : Fun K "call_at" "Caller.call_at" d_Caller_call_at f_Caller_call_at fd_Caller_call_at
  b_Caller_call_at : Binds K fd_Caller_call_at ["self", "turn", "seat"] []
  f_Caller_belongs_to : Addr
  fd_Caller_belongs_to : FuncData
  F_Caller_belongs_to : Fun K "belongs_to" "Caller.belongs_to" d_Caller_belongs_to f_Caller_belongs_to fd_Caller_belongs_to
  b_Caller_belongs_to : Binds K fd_Caller_belongs_to ["self", "sizes", "targets"] []
  f_play : Addr
  fd_play : FuncData
  F_play : Fun K "play" "play" d_play f_play fd_play
  b_play : Binds K fd_play ["table", "targets", "seat", "caller", "responder", "limit"] []
  g_play : mg "play" = some (.ref f_play)
  f_played : Addr
  fd_played : FuncData
  F_played : Fun K "_played" "_played" d_played f_played fd_played
  b_played : Binds K fd_played ["sizes", "targets", "seat", "caller", "responder", "limit"] []
  g_played : mg "_played" = some (.ref f_played)
  f_reduced_call : Addr
  fd_reduced_call : FuncData
  F_reduced_call : Fun K "_reduced_call" "_reduced_call" d_reduced_call f_reduced_call fd_reduced_call
  b_reduced_call : Binds K fd_reduced_call ["sizes", "call"] []
  g_reduced_call : mg "_reduced_call" = some (.ref f_reduced_call)
  f_is_layers : Addr
  fd_is_layers : FuncData
  F_is_layers : Fun K "_is_layers" "_is_layers" d_is_layers f_is_layers fd_is_layers
  b_is_layers : Binds K fd_is_layers ["strategy"] []
  g_is_layers : mg "_is_layers" = some (.ref f_is_layers)
  f_is_list_of_calls : Addr
  fd_is_list_of_calls : FuncData
  F_is_list_of_calls : Fun K "_is_list_of_calls" "_is_list_of_calls" d_is_list_of_calls f_is_list_of_calls fd_is_list_of_calls
  b_is_list_of_calls : Binds K fd_is_list_of_calls ["sizes", "strategy"] []
  g_is_list_of_calls : mg "_is_list_of_calls" = some (.ref f_is_list_of_calls)
  f_is_common_witness : Addr
  fd_is_common_witness : FuncData
  F_is_common_witness : Fun K "_is_common_witness" "_is_common_witness" d_is_common_witness f_is_common_witness fd_is_common_witness
  b_is_common_witness : Binds K fd_is_common_witness ["sizes", "targets", "strategy"] []
  g_is_common_witness : mg "_is_common_witness" = some (.ref f_is_common_witness)
  f_law_cell_at : Addr
  fd_law_cell_at : FuncData
  F_law_cell_at : Fun K "_law_cell_at" "_law_cell_at" d_law_cell_at f_law_cell_at fd_law_cell_at
  b_law_cell_at : Binds K fd_law_cell_at ["_law_script", "_law_k"] []
  g_law_cell_at : mg "_law_cell_at" = some (.ref f_law_cell_at)
  f_law_source : Addr
  fd_law_source : FuncData
  F_law_source : Fun K "_law_source" "_law_source" d_law_source f_law_source fd_law_source
  b_law_source : Binds K fd_law_source ["_law_cell"] []
  g_law_source : mg "_law_source" = some (.ref f_law_source)
  f_law_take : Addr
  fd_law_take : FuncData
  F_law_take : Fun K "_law_take" "_law_take" d_law_take f_law_take fd_law_take
  b_law_take : Binds K fd_law_take ["_law_source_here", "_law_bound"] []
  g_law_take : mg "_law_take" = some (.ref f_law_take)
  f_law_pick : Addr
  fd_law_pick : FuncData
  F_law_pick : Fun K "_law_pick" "_law_pick" d_law_pick f_law_pick fd_law_pick
  b_law_pick : Binds K fd_law_pick ["_law_source_here", "_law_items"] []
  g_law_pick : mg "_law_pick" = some (.ref f_law_pick)
  f_law_shuffled : Addr
  fd_law_shuffled : FuncData
  F_law_shuffled : Fun K "_law_shuffled" "_law_shuffled" d_law_shuffled f_law_shuffled fd_law_shuffled
  b_law_shuffled : Binds K fd_law_shuffled ["_law_source_here", "_law_items"] []
  g_law_shuffled : mg "_law_shuffled" = some (.ref f_law_shuffled)
  f_law_drawn_seat : Addr
  fd_law_drawn_seat : FuncData
  F_law_drawn_seat : Fun K "_law_drawn_seat" "_law_drawn_seat" d_law_drawn_seat f_law_drawn_seat fd_law_drawn_seat
  b_law_drawn_seat : Binds K fd_law_drawn_seat ["_law_source_here", "_law_rings"] []
  g_law_drawn_seat : mg "_law_drawn_seat" = some (.ref f_law_drawn_seat)
  f_law_moved : Addr
  fd_law_moved : FuncData
  F_law_moved : Fun K "_law_moved" "_law_moved" d_law_moved f_law_moved fd_law_moved
  b_law_moved : Binds K fd_law_moved ["_law_rings", "_law_spot", "_law_call_in", "_law_sign"] []
  g_law_moved : mg "_law_moved" = some (.ref f_law_moved)
  f_law_drawn_call : Addr
  fd_law_drawn_call : FuncData
  F_law_drawn_call : Fun K "_law_drawn_call" "_law_drawn_call" d_law_drawn_call f_law_drawn_call fd_law_drawn_call
  b_law_drawn_call : Binds K fd_law_drawn_call ["_law_source_here", "_law_rings"] []
  g_law_drawn_call : mg "_law_drawn_call" = some (.ref f_law_drawn_call)
  f_law_goals : Addr
  fd_law_goals : FuncData
  F_law_goals : Fun K "_law_goals" "_law_goals" d_law_goals f_law_goals fd_law_goals
  b_law_goals : Binds K fd_law_goals ["_law_source_here", "_law_rings", "_law_bound"] []
  g_law_goals : mg "_law_goals" = some (.ref f_law_goals)
  f_law_list_calls : Addr
  fd_law_list_calls : FuncData
  F_law_list_calls : Fun K "_law_list_calls" "_law_list_calls" d_law_list_calls f_law_list_calls fd_law_list_calls
  b_law_list_calls : Binds K fd_law_list_calls ["_law_source_here", "_law_rings", "_law_bound"] []
  g_law_list_calls : mg "_law_list_calls" = some (.ref f_law_list_calls)
  f_law_list_words : Addr
  fd_law_list_words : FuncData
  F_law_list_words : Fun K "_law_list_words" "_law_list_words" d_law_list_words f_law_list_words fd_law_list_words
  b_law_list_words : Binds K fd_law_list_words ["_law_source_here", "_law_bound"] []
  g_law_list_words : mg "_law_list_words" = some (.ref f_law_list_words)
  f_law_rings_any : Addr
  fd_law_rings_any : FuncData
  F_law_rings_any : Fun K "_law_rings_any" "_law_rings_any" d_law_rings_any f_law_rings_any fd_law_rings_any
  b_law_rings_any : Binds K fd_law_rings_any ["_law_source_here"] []
  g_law_rings_any : mg "_law_rings_any" = some (.ref f_law_rings_any)
  f_law_planted : Addr
  fd_law_planted : FuncData
  F_law_planted : Fun K "_law_planted" "_law_planted" d_law_planted f_law_planted fd_law_planted
  b_law_planted : Binds K fd_law_planted ["_law_source_here", "_law_wide"] []
  g_law_planted : mg "_law_planted" = some (.ref f_law_planted)
  f_law_sum_of : Addr
  fd_law_sum_of : FuncData
  F_law_sum_of : Fun K "_law_sum_of" "_law_sum_of" d_law_sum_of f_law_sum_of fd_law_sum_of
  b_law_sum_of : Binds K fd_law_sum_of ["_law_modulus", "_law_weights", "_law_spot"] []
  g_law_sum_of : mg "_law_sum_of" = some (.ref f_law_sum_of)
  f_law_divisor : Addr
  fd_law_divisor : FuncData
  F_law_divisor : Fun K "_law_divisor" "_law_divisor" d_law_divisor f_law_divisor fd_law_divisor
  b_law_divisor : Binds K fd_law_divisor ["_law_one", "_law_other"] []
  g_law_divisor : mg "_law_divisor" = some (.ref f_law_divisor)
  f_law_factor : Addr
  fd_law_factor : FuncData
  F_law_factor : Fun K "_law_factor" "_law_factor" d_law_factor f_law_factor fd_law_factor
  b_law_factor : Binds K fd_law_factor ["_law_source_here", "_law_size"] []
  g_law_factor : mg "_law_factor" = some (.ref f_law_factor)
  f_law_course_of : Addr
  fd_law_course_of : FuncData
  F_law_course_of : Fun K "_law_course_of" "_law_course_of" d_law_course_of f_law_course_of fd_law_course_of
  b_law_course_of : Binds K fd_law_course_of ["_law_rings", "_law_goals_here", "_law_spot", "_law_called", "_law_words"] []
  g_law_course_of : mg "_law_course_of" = some (.ref f_law_course_of)
  f_law_times : Addr
  fd_law_times : FuncData
  F_law_times : Fun K "_law_times" "_law_times" d_law_times f_law_times fd_law_times
  b_law_times : Binds K fd_law_times ["_law_rings", "_law_factors", "_law_spot"] []
  g_law_times : mg "_law_times" = some (.ref f_law_times)
  f_law_lists_right : Addr
  fd_law_lists_right : FuncData
  F_law_lists_right : Fun K "_law_lists_right" "_law_lists_right" d_law_lists_right f_law_lists_right fd_law_lists_right
  b_law_lists_right : Binds K fd_law_lists_right ["_law_source_here", "_law_rings", "_law_goals_here", "_law_called", "_law_words"] []
  g_law_lists_right : mg "_law_lists_right" = some (.ref f_law_lists_right)
  f_law_witness_right : Addr
  fd_law_witness_right : FuncData
  F_law_witness_right : Fun K "_law_witness_right" "_law_witness_right" d_law_witness_right f_law_witness_right fd_law_witness_right
  b_law_witness_right : Binds K fd_law_witness_right ["_law_source_here"] []
  g_law_witness_right : mg "_law_witness_right" = some (.ref f_law_witness_right)
  f_law : Addr
  fd_law : FuncData
  F_law : Fun K "law" "law" d_law f_law fd_law
  b_law : Binds K fd_law ["_law_script"] []
  g_law : mg "law" = some (.ref f_law)
  c_Table : Addr
  g_Table : mg "Table" = some (.ref c_Table)
  cl_Table : Cls K c_Table
  M_Table : Mk K c_Table f_Table_init
  m_Table_sizes : Meth K c_Table "sizes" f_Table_sizes
  no_Table_sizes : NoAttr K c_Table "_sizes"
  ins_Table : C8.InsC K c_Table
  c_Responder : Addr
  g_Responder : mg "Responder" = some (.ref c_Responder)
  cl_Responder : Cls K c_Responder
  M_Responder : Mk K c_Responder f_Responder_init
  m_Responder_answer : Meth K c_Responder "answer" f_Responder_answer
  m_Responder_direction_at : Meth K c_Responder "direction_at" f_Responder_direction_at
  m_Responder_has_lost_at : Meth K c_Responder "has_lost_at" f_Responder_has_lost_at
  m_Responder_belongs_to : Meth K c_Responder "belongs_to" f_Responder_belongs_to
  no_Responder_witness : NoAttr K c_Responder "_witness"
  no_Responder_directions : NoAttr K c_Responder "_directions"
  no_Responder_numbers : NoAttr K c_Responder "_numbers"
  no_Responder_sizes : NoAttr K c_Responder "_sizes"
  no_Responder_targets : NoAttr K c_Responder "_targets"
  no_Responder_turn : NoAttr K c_Responder "_turn"
  ins_Responder : C8.InsC K c_Responder
  c_Caller : Addr
  g_Caller : mg "Caller" = some (.ref c_Caller)
  cl_Caller : Cls K c_Caller
  M_Caller : Mk K c_Caller f_Caller_init
  m_Caller_call_at : Meth K c_Caller "call_at" f_Caller_call_at
  m_Caller_belongs_to : Meth K c_Caller "belongs_to" f_Caller_belongs_to
  no_Caller_listed : NoAttr K c_Caller "_listed"
  no_Caller_grid : NoAttr K c_Caller "_grid"
  no_Caller_spread : NoAttr K c_Caller "_spread"
  no_Caller_sizes : NoAttr K c_Caller "_sizes"
  no_Caller_targets : NoAttr K c_Caller "_targets"
  no_Caller_turn : NoAttr K c_Caller "_turn"
  ins_Caller : C8.InsC K c_Caller
  v_MAX_RINGS : Value
  g_MAX_RINGS : mg "MAX_RINGS" = some v_MAX_RINGS
  r_MAX_RINGS : RelV (.int 4) v_MAX_RINGS
  n_all : mg "all" = none
  n_bool : mg "bool" = none
  n_enumerate : mg "enumerate" = none
  n_int : mg "int" = none
  n_isinstance : mg "isinstance" = none
  n_len : mg "len" = none
  n_list : mg "list" = none
  n_range : mg "range" = none
  n_set : mg "set" = none
  n_sorted : mg "sorted" = none
  n_str : mg "str" = none
  n_sum : mg "sum" = none
  n_tuple : mg "tuple" = none
  n_zip : mg "zip" = none
-- RD4
local macro_rules | `(tactic| walk_at "rd") => `(tactic| simp only [cxOf, Cx.nox, Cx.wish, L2.start, tVar, tC, t2I, tIsN, tNotN, tB, tAnd, tOr, tNot, tAndV, tOrV, tNotV, L2.tIf, tNext, tSeq, tBreak, tCont, tDrop, tRet, tRetN, tIfS, tNever, gName, gNil, gCons, gTup, gSub, tAsg, tPar, tPar3, tAug, ipI, tOp, tUn, rI, rI0, rU, rEq, rNe, tTest, tChain, tFld, tCon, sFld, tNil, tCons, tTup, tLst, tCall, tMeth, tMake, tMakeK, tMethK, tCallK, tCallN, tCB, tNoPart, tPart, tSl, rIxL, rIxT, rSetL, rSlL, rAppend, rAll, rIsI, rIsA, tAppend, tLc_eq, tLc2_eq, tFor_eq, tStarH, tRevL, tRevT, tBits, tCallK0, tExtend, tClear, tRever, tPop0, tLstRg, tBM, rGcd, rLcm, iSeqH, iSeqS, iZ2H, iZ3H, iEnH, iRevR, tRg1, tRg2, iRng1H, gTupH, tYes, wipe, scal_int, scal_str, scal_bl, List.map_cons, List.map_nil, List.replicate, List.length_cons, List.length_nil, List.cons_append, List.nil_append, List.append_nil, List.getElem?_cons_zero, List.getElem?_cons_succ, List.set_cons_zero, List.set_cons_succ, Option.some.injEq, V.int.injEq, V.bl.injEq, V.ref.injEq, V.str.injEq, V.ty.injEq, HO.lst.injEq, HO.tup.injEq, HO.ins.injEq, List.cons.injEq, and_true, true_and, and_assoc, exists_and_left, exists_and_right, exists_eq_left, exists_eq_left', exists_eq_right, exists_const, exists_eq, exists_eq', exists_false, exists_prop, false_and, and_false, false_or, or_false, true_or, or_true, List.length_map, Int.natCast_inj, Bool.not_eq_true', decide_eq_false_iff_not, decide_eq_true_eq, List.getElem?_map, Option.map_some, Option.map_none, Option.map_eq_some_iff, upd_same, sz_le, atI_0, atI_1, atI_2, ixN_30, ixN_31, ixN_32, cpow_10, cdivW_small, Int.reduceToNat, Int.reducePow, Int.reduceAdd, Int.reduceSub, Int.reduceMul, Int.reduceNeg, Int.reduceLT, Int.reduceLE, ge_iff_le, gt_iff_lt, Nat.reduceLeDiff, putF_one, lookup_one, Bool.not_true, Bool.not_false, if_true, if_false, Bool.false_eq_true, ite_true, ite_false, Nat.reduceAdd, Nat.reduceSub, Nat.add_zero, Nat.zero_add, Nat.sub_self, reduceCtorEq, decide_true, decide_false, Bool.or_false, Bool.or_true, Bool.and_true, Bool.and_false])
local macro_rules | `(tactic| walk_at "rh") => `(tactic| simp only [cxOf, Cx.nox, Cx.wish, L2.start, tVar, tC, t2I, tIsN, tNotN, tB, tAnd, tOr, tNot, tAndV, tOrV, tNotV, L2.tIf, tNext, tSeq, tBreak, tCont, tDrop, tRet, tRetN, tIfS, tNever, gName, gNil, gCons, gTup, gSub, tAsg, tPar, tPar3, tAug, ipI, tOp, tUn, rI, rI0, rU, rEq, rNe, tTest, tChain, tFld, tCon, sFld, tNil, tCons, tTup, tLst, tCall, tMeth, tMake, tMakeK, tMethK, tCallK, tCallN, tCB, tNoPart, tPart, tSl, rIxL, rIxT, rSetL, rSlL, rAppend, rAll, rIsI, rIsA, tAppend, tLc_eq, tLc2_eq, tFor_eq, tStarH, tRevL, tRevT, tBits, tCallK0, tExtend, tClear, tRever, tPop0, tLstRg, tBM, rGcd, rLcm, iSeqH, iSeqS, iZ2H, iZ3H, iEnH, iRevR, tRg1, tRg2, iRng1H, gTupH, tYes, wipe, scal_int, scal_str, scal_bl, List.map_cons, List.map_nil, List.replicate, List.length_cons, List.length_nil, List.cons_append, List.nil_append, List.append_nil, List.getElem?_cons_zero, List.getElem?_cons_succ, List.set_cons_zero, List.set_cons_succ, Option.some.injEq, V.int.injEq, V.bl.injEq, V.ref.injEq, V.str.injEq, V.ty.injEq, HO.lst.injEq, HO.tup.injEq, HO.ins.injEq, List.cons.injEq, and_true, true_and, and_assoc, exists_and_left, exists_and_right, exists_eq_left, exists_eq_left', exists_eq_right, exists_const, exists_eq, exists_eq', exists_false, exists_prop, false_and, and_false, false_or, or_false, true_or, or_true, List.length_map, Int.natCast_inj, Bool.not_eq_true', decide_eq_false_iff_not, decide_eq_true_eq, List.getElem?_map, Option.map_some, Option.map_none, Option.map_eq_some_iff, upd_same, sz_le, atI_0, atI_1, atI_2, ixN_30, ixN_31, ixN_32, cpow_10, cdivW_small, Int.reduceToNat, Int.reducePow, Int.reduceAdd, Int.reduceSub, Int.reduceMul, Int.reduceNeg, Int.reduceLT, Int.reduceLE, ge_iff_le, gt_iff_lt, Nat.reduceLeDiff, putF_one, lookup_one, Bool.not_true, Bool.not_false, if_true, if_false, Bool.false_eq_true, ite_true, ite_false, Nat.reduceAdd, Nat.reduceSub, Nat.add_zero, Nat.zero_add, Nat.sub_self, reduceCtorEq, decide_true, decide_false, Bool.or_false, Bool.or_true, Bool.and_true, Bool.and_false, *])

section head
open He
def D_is_integer : FnD := ⟨("is_integer", none), "is_integer", "is_integer", defArgs d_is_integer, defBody d_is_integer, defScope d_is_integer⟩
def D_is_place : FnD := ⟨("is_place", none), "is_place", "is_place", defArgs d_is_place, defBody d_is_place, defScope d_is_place⟩
def D_is_seat : FnD := ⟨("is_seat", none), "is_seat", "is_seat", defArgs d_is_seat, defBody d_is_seat, defScope d_is_seat⟩
def D_is_call : FnD := ⟨("is_call", none), "is_call", "is_call", defArgs d_is_call, defBody d_is_call, defScope d_is_call⟩
def D_is_direction : FnD := ⟨("is_direction", none), "is_direction", "is_direction", defArgs d_is_direction, defBody d_is_direction, defScope d_is_direction⟩
def D_is_list_of_directions : FnD := ⟨("is_list_of_directions", none), "is_list_of_directions", "is_list_of_directions", defArgs d_is_list_of_directions, defBody d_is_list_of_directions, defScope d_is_list_of_directions⟩
def D_is_modulus : FnD := ⟨("is_modulus", none), "is_modulus", "is_modulus", defArgs d_is_modulus, defBody d_is_modulus, defScope d_is_modulus⟩
def D_are_weights : FnD := ⟨("are_weights", none), "are_weights", "are_weights", defArgs d_are_weights, defBody d_are_weights, defScope d_are_weights⟩
def D_is_witness : FnD := ⟨("is_witness", none), "is_witness", "is_witness", defArgs d_is_witness, defBody d_is_witness, defScope d_is_witness⟩
def D_require_seat : FnD := ⟨("require_seat", none), "require_seat", "require_seat", defArgs d_require_seat, defBody d_require_seat, defScope d_require_seat⟩
def D_require_call : FnD := ⟨("require_call", none), "require_call", "require_call", defArgs d_require_call, defBody d_require_call, defScope d_require_call⟩
def D_require_witness : FnD := ⟨("require_witness", none), "require_witness", "require_witness", defArgs d_require_witness, defBody d_require_witness, defScope d_require_witness⟩
def D_require_seats : FnD := ⟨("require_seats", none), "require_seats", "require_seats", defArgs d_require_seats, defBody d_require_seats, defScope d_require_seats⟩
def D_require_targets : FnD := ⟨("require_targets", none), "require_targets", "require_targets", defArgs d_require_targets, defBody d_require_targets, defScope d_require_targets⟩
def D_require_number : FnD := ⟨("require_number", none), "require_number", "require_number", defArgs d_require_number, defBody d_require_number, defScope d_require_number⟩
def D_Table_init : FnD := ⟨("Table", (some "__init__")), "__init__", "Table.__init__", defArgs d_Table_init, defBody d_Table_init, defScope d_Table_init⟩
def D_Table_sizes : FnD := ⟨("Table", (some "sizes")), "sizes", "Table.sizes", defArgs d_Table_sizes, defBody d_Table_sizes, defScope d_Table_sizes⟩
def D_sizes_of : FnD := ⟨("sizes_of", none), "sizes_of", "sizes_of", defArgs d_sizes_of, defBody d_sizes_of, defScope d_sizes_of⟩
def D_both_moves : FnD := ⟨("both_moves", none), "both_moves", "both_moves", defArgs d_both_moves, defBody d_both_moves, defScope d_both_moves⟩
def D_stepped : FnD := ⟨("stepped", none), "stepped", "stepped", defArgs d_stepped, defBody d_stepped, defScope d_stepped⟩
def D_are_sizes : FnD := ⟨("_are_sizes", none), "_are_sizes", "_are_sizes", defArgs d_are_sizes, defBody d_are_sizes, defScope d_are_sizes⟩
def D_weighted_sum : FnD := ⟨("weighted_sum", none), "weighted_sum", "weighted_sum", defArgs d_weighted_sum, defBody d_weighted_sum, defScope d_weighted_sum⟩
def D_has_residue : FnD := ⟨("has_residue", none), "has_residue", "has_residue", defArgs d_has_residue, defBody d_has_residue, defScope d_has_residue⟩
def D_direction_off : FnD := ⟨("direction_off", none), "direction_off", "direction_off", defArgs d_direction_off, defBody d_direction_off, defScope d_direction_off⟩
def D_avoiding_direction : FnD := ⟨("avoiding_direction", none), "avoiding_direction", "avoiding_direction", defArgs d_avoiding_direction, defBody d_avoiding_direction, defScope d_avoiding_direction⟩
def D_Responder_init : FnD := ⟨("Responder", (some "__init__")), "__init__", "Responder.__init__", defArgs d_Responder_init, defBody d_Responder_init, defScope d_Responder_init⟩
def D_Responder_answer : FnD := ⟨("Responder", (some "answer")), "answer", "Responder.answer", defArgs d_Responder_answer, defBody d_Responder_answer, defScope d_Responder_answer⟩
def D_Responder_direction_at : FnD := ⟨("Responder", (some "direction_at")), "direction_at", "Responder.direction_at", defArgs d_Responder_direction_at, defBody d_Responder_direction_at, defScope d_Responder_direction_at⟩
def D_Responder_has_lost_at : FnD := ⟨("Responder", (some "has_lost_at")), "has_lost_at", "Responder.has_lost_at", defArgs d_Responder_has_lost_at, defBody d_Responder_has_lost_at, defScope d_Responder_has_lost_at⟩
def D_Responder_belongs_to : FnD := ⟨("Responder", (some "belongs_to")), "belongs_to", "Responder.belongs_to", defArgs d_Responder_belongs_to, defBody d_Responder_belongs_to, defScope d_Responder_belongs_to⟩
def D_Caller_init : FnD := ⟨("Caller", (some "__init__")), "__init__", "Caller.__init__", defArgs d_Caller_init, defBody d_Caller_init, defScope d_Caller_init⟩
def D_Caller_call_at : FnD := ⟨("Caller", (some "call_at")), "call_at", "Caller.call_at", defArgs d_Caller_call_at, defBody d_Caller_call_at, defScope d_Caller_call_at⟩
def D_Caller_belongs_to : FnD := ⟨("Caller", (some "belongs_to")), "belongs_to", "Caller.belongs_to", defArgs d_Caller_belongs_to, defBody d_Caller_belongs_to, defScope d_Caller_belongs_to⟩
def D_play : FnD := ⟨("play", none), "play", "play", defArgs d_play, defBody d_play, defScope d_play⟩
def D_played : FnD := ⟨("_played", none), "_played", "_played", defArgs d_played, defBody d_played, defScope d_played⟩
def D_reduced_call : FnD := ⟨("_reduced_call", none), "_reduced_call", "_reduced_call", defArgs d_reduced_call, defBody d_reduced_call, defScope d_reduced_call⟩
def D_is_layers : FnD := ⟨("_is_layers", none), "_is_layers", "_is_layers", defArgs d_is_layers, defBody d_is_layers, defScope d_is_layers⟩
def D_is_list_of_calls : FnD := ⟨("_is_list_of_calls", none), "_is_list_of_calls", "_is_list_of_calls", defArgs d_is_list_of_calls, defBody d_is_list_of_calls, defScope d_is_list_of_calls⟩
def D_is_common_witness : FnD := ⟨("_is_common_witness", none), "_is_common_witness", "_is_common_witness", defArgs d_is_common_witness, defBody d_is_common_witness, defScope d_is_common_witness⟩
def D_law_cell_at : FnD := ⟨("_law_cell_at", none), "_law_cell_at", "_law_cell_at", defArgs d_law_cell_at, defBody d_law_cell_at, defScope d_law_cell_at⟩
def D_law_source : FnD := ⟨("_law_source", none), "_law_source", "_law_source", defArgs d_law_source, defBody d_law_source, defScope d_law_source⟩
def D_law_take : FnD := ⟨("_law_take", none), "_law_take", "_law_take", defArgs d_law_take, defBody d_law_take, defScope d_law_take⟩
def D_law_pick : FnD := ⟨("_law_pick", none), "_law_pick", "_law_pick", defArgs d_law_pick, defBody d_law_pick, defScope d_law_pick⟩
def D_law_shuffled : FnD := ⟨("_law_shuffled", none), "_law_shuffled", "_law_shuffled", defArgs d_law_shuffled, defBody d_law_shuffled, defScope d_law_shuffled⟩
def D_law_drawn_seat : FnD := ⟨("_law_drawn_seat", none), "_law_drawn_seat", "_law_drawn_seat", defArgs d_law_drawn_seat, defBody d_law_drawn_seat, defScope d_law_drawn_seat⟩
def D_law_moved : FnD := ⟨("_law_moved", none), "_law_moved", "_law_moved", defArgs d_law_moved, defBody d_law_moved, defScope d_law_moved⟩
def D_law_drawn_call : FnD := ⟨("_law_drawn_call", none), "_law_drawn_call", "_law_drawn_call", defArgs d_law_drawn_call, defBody d_law_drawn_call, defScope d_law_drawn_call⟩
def D_law_goals : FnD := ⟨("_law_goals", none), "_law_goals", "_law_goals", defArgs d_law_goals, defBody d_law_goals, defScope d_law_goals⟩
def D_law_list_calls : FnD := ⟨("_law_list_calls", none), "_law_list_calls", "_law_list_calls", defArgs d_law_list_calls, defBody d_law_list_calls, defScope d_law_list_calls⟩
def D_law_list_words : FnD := ⟨("_law_list_words", none), "_law_list_words", "_law_list_words", defArgs d_law_list_words, defBody d_law_list_words, defScope d_law_list_words⟩
def D_law_rings_any : FnD := ⟨("_law_rings_any", none), "_law_rings_any", "_law_rings_any", defArgs d_law_rings_any, defBody d_law_rings_any, defScope d_law_rings_any⟩
def D_law_planted : FnD := ⟨("_law_planted", none), "_law_planted", "_law_planted", defArgs d_law_planted, defBody d_law_planted, defScope d_law_planted⟩
def D_law_sum_of : FnD := ⟨("_law_sum_of", none), "_law_sum_of", "_law_sum_of", defArgs d_law_sum_of, defBody d_law_sum_of, defScope d_law_sum_of⟩
def D_law_divisor : FnD := ⟨("_law_divisor", none), "_law_divisor", "_law_divisor", defArgs d_law_divisor, defBody d_law_divisor, defScope d_law_divisor⟩
def D_law_factor : FnD := ⟨("_law_factor", none), "_law_factor", "_law_factor", defArgs d_law_factor, defBody d_law_factor, defScope d_law_factor⟩
def D_law_course_of : FnD := ⟨("_law_course_of", none), "_law_course_of", "_law_course_of", defArgs d_law_course_of, defBody d_law_course_of, defScope d_law_course_of⟩
def D_law_times : FnD := ⟨("_law_times", none), "_law_times", "_law_times", defArgs d_law_times, defBody d_law_times, defScope d_law_times⟩
def D_law_lists_right : FnD := ⟨("_law_lists_right", none), "_law_lists_right", "_law_lists_right", defArgs d_law_lists_right, defBody d_law_lists_right, defScope d_law_lists_right⟩
def D_law_witness_right : FnD := ⟨("_law_witness_right", none), "_law_witness_right", "_law_witness_right", defArgs d_law_witness_right, defBody d_law_witness_right, defScope d_law_witness_right⟩
def D_law : FnD := ⟨("law", none), "law", "law", defArgs d_law, defBody d_law, defScope d_law⟩
def fa_0 : List (Fa) := [(.glo "is_integer"), (.keep "is_integer"), (.glo "is_place"), (.keep "is_place"), (.glo "is_seat"), (.keep "is_seat"), (.glo "is_call"), (.keep "is_call"), (.glo "is_direction"), (.keep "is_direction"), (.glo "is_list_of_directions"), (.keep "is_list_of_directions"), (.glo "is_modulus"), (.keep "is_modulus"), (.glo "are_weights"), (.keep "are_weights"), (.glo "is_witness"), (.keep "is_witness"), (.glo "require_seat"), (.keep "require_seat"), (.glo "require_call"), (.keep "require_call"), (.glo "require_witness"), (.keep "require_witness"), (.glo "require_seats"), (.keep "require_seats"), (.glo "require_targets"), (.keep "require_targets"), (.glo "require_number"), (.keep "require_number")]
def fa_1 : List (Fa) := [(.meth "Table" "__init__"), (.meth "Table" "sizes"), (.glo "sizes_of"), (.keep "sizes_of"), (.glo "both_moves"), (.keep "both_moves"), (.glo "stepped"), (.keep "stepped"), (.glo "_are_sizes"), (.keep "_are_sizes"), (.glo "weighted_sum"), (.keep "weighted_sum"), (.glo "has_residue"), (.keep "has_residue"), (.glo "direction_off"), (.keep "direction_off"), (.glo "avoiding_direction"), (.keep "avoiding_direction"), (.meth "Responder" "__init__"), (.meth "Responder" "answer"), (.meth "Responder" "direction_at"), (.meth "Responder" "has_lost_at"), (.meth "Responder" "belongs_to"), (.meth "Caller" "__init__"), (.meth "Caller" "call_at"), (.meth "Caller" "belongs_to"), (.glo "play"), (.keep "play"), (.glo "_played"), (.keep "_played")]
def fa_2 : List (Fa) := [(.glo "_reduced_call"), (.keep "_reduced_call"), (.glo "_is_layers"), (.keep "_is_layers"), (.glo "_is_list_of_calls"), (.keep "_is_list_of_calls"), (.glo "_is_common_witness"), (.keep "_is_common_witness"), (.glo "_law_cell_at"), (.keep "_law_cell_at"), (.glo "_law_source"), (.keep "_law_source"), (.glo "_law_take"), (.keep "_law_take"), (.glo "_law_pick"), (.keep "_law_pick"), (.glo "_law_shuffled"), (.keep "_law_shuffled"), (.glo "_law_drawn_seat"), (.keep "_law_drawn_seat"), (.glo "_law_moved"), (.keep "_law_moved"), (.glo "_law_drawn_call"), (.keep "_law_drawn_call"), (.glo "_law_goals"), (.keep "_law_goals"), (.glo "_law_list_calls"), (.keep "_law_list_calls"), (.glo "_law_list_words"), (.keep "_law_list_words")]
def fa_3 : List (Fa) := [(.glo "_law_rings_any"), (.keep "_law_rings_any"), (.glo "_law_planted"), (.keep "_law_planted"), (.glo "_law_sum_of"), (.keep "_law_sum_of"), (.glo "_law_divisor"), (.keep "_law_divisor"), (.glo "_law_factor"), (.keep "_law_factor"), (.glo "_law_course_of"), (.keep "_law_course_of"), (.glo "_law_times"), (.keep "_law_times"), (.glo "_law_lists_right"), (.keep "_law_lists_right"), (.glo "_law_witness_right"), (.keep "_law_witness_right"), (.glo "law"), (.keep "law"), (.glo "Table"), (.cls "Table"), (.mkr "Table"), (.noat "Table" "_sizes"), (.glo "Responder"), (.cls "Responder"), (.mkr "Responder"), (.noat "Responder" "_witness"), (.noat "Responder" "_directions"), (.noat "Responder" "_numbers")]
def fa_4 : List (Fa) := [(.noat "Responder" "_sizes"), (.noat "Responder" "_targets"), (.noat "Responder" "_turn"), (.glo "Caller"), (.cls "Caller"), (.mkr "Caller"), (.noat "Caller" "_listed"), (.noat "Caller" "_grid"), (.noat "Caller" "_spread"), (.noat "Caller" "_sizes"), (.noat "Caller" "_targets"), (.noat "Caller" "_turn"), (.int "MAX_RINGS" 4), (.free "all"), (.free "bool"), (.free "enumerate"), (.free "int"), (.free "isinstance"), (.free "len"), (.free "list"), (.free "range"), (.free "set"), (.free "sorted"), (.free "str"), (.free "sum"), (.free "tuple"), (.free "zip")]
def fa : List (Fa) := fa_0 ++ (fa_1 ++ (fa_2 ++ (fa_3 ++ (fa_4))))
def xt_0 : List (PySem.W.Frag → Bool) := [(fun K => eqO (PySem.W.findIn K (.ref (ga K "Table")) "__class__") (some (some (.builtin "object.__class__")))), (fun K => eqO (PySem.W.specialIn K (.builtin "object.__class__") "__get__") (some (some (.builtin "getset_descriptor.__get__")))), (fun K => decide (PySem.W.takesIn K (.builtin "object.__class__") = some true)), (fun K => decide (PySem.W.mroIn K (ga K "Table") (.type "object") = some true)), (fun K => eqO (PySem.W.findIn K (.ref (ga K "Responder")) "__class__") (some (some (.builtin "object.__class__")))), (fun K => decide (PySem.W.mroIn K (ga K "Responder") (.type "object") = some true)), (fun K => eqO (PySem.W.findIn K (.ref (ga K "Caller")) "__class__") (some (some (.builtin "object.__class__")))), (fun K => decide (PySem.W.mroIn K (ga K "Caller") (.type "object") = some true))]
def xt : List (PySem.W.Frag → Bool) := xt_0
def fn_0 : List (FnD) := [D_is_integer, D_is_place, D_is_seat, D_is_call, D_is_direction, D_is_list_of_directions, D_is_modulus, D_are_weights, D_is_witness, D_require_seat, D_require_call, D_require_witness, D_require_seats, D_require_targets, D_require_number, D_Table_init, D_Table_sizes, D_sizes_of, D_both_moves, D_stepped, D_are_sizes, D_weighted_sum, D_has_residue, D_direction_off, D_avoiding_direction, D_Responder_init, D_Responder_answer, D_Responder_direction_at, D_Responder_has_lost_at, D_Responder_belongs_to]
def fn_1 : List (FnD) := [D_Caller_init, D_Caller_call_at, D_Caller_belongs_to, D_play, D_played, D_reduced_call, D_is_layers, D_is_list_of_calls, D_is_common_witness, D_law_cell_at, D_law_source, D_law_take, D_law_pick, D_law_shuffled, D_law_drawn_seat, D_law_moved, D_law_drawn_call, D_law_goals, D_law_list_calls, D_law_list_words, D_law_rings_any, D_law_planted, D_law_sum_of, D_law_divisor, D_law_factor, D_law_course_of, D_law_times, D_law_lists_right, D_law_witness_right, D_law]
def fn : List (FnD) := fn_0 ++ (fn_1)
def loose_0 : List (Str) := ["_wall", "SeatError", "InvalidTable", "InvalidTargets", "InvalidSeat", "InvalidCall", "InvalidDirection", "InvalidWitness", "InvalidNumber", "InvalidStrategy", "Mismatch", "TooLarge", "is_integer", "is_place", "is_seat", "is_call", "is_direction", "is_list_of_directions", "is_modulus", "are_weights", "is_witness", "require_seat", "require_call", "require_direction", "require_witness", "require_seats", "require_targets", "require_number", "MAX_RINGS", "SMALL_COUNT"]
def loose_1 : List (Str) := ["Table", "sizes_of", "both_moves", "stepped", "require_small", "all_seats", "all_choices", "_are_sizes", "Grid", "Spread", "spread_from", "numbered_seats", "_longer", "weighted_sum", "has_residue", "direction_off", "avoiding_direction", "Responder", "Caller", "play", "_played", "_is_larger", "_reduced_call", "_is_layers", "_is_list_of_calls", "_is_common_witness", "_law_cell_at", "_law_source", "_law_take", "_law_pick"]
def loose_2 : List (Str) := ["_law_shuffled", "_law_drawn_seat", "_law_moved", "_law_drawn_call", "_law_goals", "_law_list_calls", "_law_list_words", "_law_rings_any", "_law_planted", "_law_sum_of", "_law_divisor", "_law_factor", "_law_course_of", "_law_times", "_law_lists_right", "_law_witness_right"]
def loose : List (Str) := loose_0 ++ (loose_1 ++ (loose_2))
abbrev R : PySem.W.OpenRow := PySem.W.OpenLaw.row PySem.Challenge.rw_calledseats_k37_whole_games_transformed
def clss : List Str := ["Table", "Responder", "Caller"]
abbrev hk : PySem.W.Hook := Cs.hookM clss fa xt fn
def ob (s : PySem.W.SharedT) : Al := Cs.obsMG clss fa xt fn (HandSHeadRun.getT s)
theorem ob_eq (s : PySem.W.SharedT) : ob s = hk.obs s.abs := Cs.obsMG_eq (HandSHeadRun.getT_eq s)
open PySem.W PySem.Calls in
set_option maxHeartbeats 0 in
theorem run1 (w : World) : (HandSHeadRun.wholeF (fun p => HandSHeadRun.stepQ (HandSHeadRun.denQ HandSHeadRun.tabQ) p w) HandSHeadRun.fenceQ 20000 R.prog).map (fun x => (HandSHeadRun.looksF R.prog x.1.heap x.2.abs, HandSHeadRun.seenQ (PySem.W.view R.prog [0, 84]) loose (importedModules R.prog.main.body) (fun s => xlAt (PySem.W.view R.prog [0, 84]) [] s && recOk R.toRowW.records s) x.2.abs)) = some (true, openGood (PySem.W.view R.prog [0, 84]) loose) := by
  kernel_rfl
set_option maxHeartbeats 0 in
theorem run2 (w : World) : (HandSHeadRun.wholeF (fun p => HandSHeadRun.stepQ (HandSHeadRun.denQ HandSHeadRun.tabQ) p w) HandSHeadRun.fenceQ 20000 R.prog).map (fun x => ob x.2) = some (hk.val w) := by
  kernel_rfl
theorem run (w : World) : HandSHeadRun.RunEqI R (PySem.W.view R.prog [0, 84]) hk ob 20000 loose w := by
  obtain ⟨x, h1, h2⟩ := Option.map_eq_some_iff.mp (run1 w)
  obtain ⟨y, h3, h4⟩ := Option.map_eq_some_iff.mp (run2 w)
  rw [h1] at h3
  obtain rfl := Option.some.inj h3
  unfold HandSHeadRun.RunEqI
  rw [h1]
  obtain ⟨h5, h6⟩ := Prod.mk.inj h2
  exact congrArg some (Prod.ext h5 (Prod.ext h6 h4))
end head
/-! ### what the program's checks answer -/
theorem TyOf.same {K : PySem.W.Frag} {H H' : Hp} {x : V} {t : Value} (e : Same H H') (h : TyOf K H x t) : TyOf K H' x t := by
  cases h with
  | non => exact .non
  | bl b => exact .bl b
  | int i => exact .int i
  | str y => exact .str y
  | flt y => exact .flt y
  | lst ea => exact .lst (e _ _ ea)
  | frz ea => exact .frz (e _ _ ea)
  | tup ea => exact .tup (e _ _ ea)
  | dK ea => exact .dK (e _ _ ea)
  | dT ea => exact .dT (e _ _ ea)
  | ins ea cl ha hn htk hm => exact .ins (e _ _ ea) cl ha hn htk hm
theorem TyX.same {K : PySem.W.Frag} {H H' : Hp} {x : V} {t : Value} (e : Same H H') (h : TyX K H x t) : TyX K H' x t := by
  cases h with
  | base b => exact .base (TyOf.same e b)
  | byt b => exact .byt b
  | set ea => exact .set (e _ _ ea)
  | kList a b => exact .kList a b
  | kTuple a b => exact .kTuple a b
  | kDict a b => exact .kDict a b
  | fTuple ea => exact .fTuple (e _ _ ea)
  | fDict ea => exact .fDict (e _ _ ea)
theorem IsI.same {K : PySem.W.Frag} {H H' : Hp} {x c : V} {b : Bool} (e : Same H H') (h : IsI K H x c b) : IsI K H' x c b := by
  obtain ⟨t, u, h1, h2, h3⟩ := h
  exact ⟨t, u, h1, TyX.same e h2, h3⟩
theorem IsA.same {K : PySem.W.Frag} {H H' : Hp} {x : V} {cs : List V} {b : Bool} (e : Same H H') (h : IsA K H x cs b) : IsA K H' x cs b := by
  obtain ⟨t, us, h1, h2, h3⟩ := h
  exact ⟨t, us, h1, TyX.same e h2, h3⟩
/-- is_integer(x) is b -/
def IsInt (K : PySem.W.Frag) (H : Hp) (x : V) (b : Bool) : Prop := ∃ b1 b2, IsI K H x (.ty "int") b1 ∧ (b1 = true → IsI K H x (.ty "bool") b2) ∧ b = (b1 && !b2)
theorem IsInt.same {K : PySem.W.Frag} {H H' : Hp} {x : V} {b : Bool} (e : Same H H') (h : IsInt K H x b) : IsInt K H' x b := by
  obtain ⟨b1, b2, h1, h2, h3⟩ := h
  exact ⟨b1, b2, IsI.same e h1, fun z => IsI.same e (h2 z), h3⟩
theorem isInt_int {K : PySem.W.Frag} {H : Hp} (n : Int) : IsInt K H (.int n) true := ⟨true, false, isI_ty (.base (.int n)) (by decide +kernel), fun _ => isI_ty (.base (.int n)) (by decide +kernel), rfl⟩
/-- is_integer(x) and 0 <= x < s is c -/
def PlaceB (K : PySem.W.Frag) (H : Hp) (x : V) (s : Int) (c : Bool) : Prop := (IsInt K H x false ∧ c = false) ∨ ∃ n, x = .int n ∧ c = (decide (0 ≤ n) && decide (n < s))
theorem PlaceB.same {K : PySem.W.Frag} {H H' : Hp} {x : V} {s : Int} {c : Bool} (e : Same H H') (h : PlaceB K H x s c) : PlaceB K H' x s c := by
  rcases h with ⟨h, q⟩ | h
  · exact .inl ⟨IsInt.same e h, q⟩
  · exact .inr h
/-- is_seat(sizes, x) is b -/
def SeatB (K : PySem.W.Frag) (H : Hp) (ss : List Int) (x : V) (b : Bool) : Prop := (IsI K H x (.ty "tuple") false ∧ b = false) ∨ ∃ p xs, x = .ref p ∧ H p = some (.tup xs) ∧ ((xs.length ≠ ss.length ∧ b = false) ∨
  (xs.length = ss.length ∧ xs.length ≤ sizeLine ∧ ∃ bs : List Bool, bs.length = xs.length ∧ b = bs.all id ∧ ∀ (i : Nat) x s c, xs[i]? = some x → ss[i]? = some s → bs[i]? = some c → PlaceB K H x s c))
/-- is_call(sizes, x) is b -/
def CallB (K : PySem.W.Frag) (H : Hp) (n : Nat) (x : V) (b : Bool) : Prop := (IsI K H x (.ty "tuple") false ∧ b = false) ∨ ∃ p xs, x = .ref p ∧ H p = some (.tup xs) ∧ ((xs.length ≠ n ∧ b = false) ∨
  (xs.length = n ∧ xs.length ≤ sizeLine ∧ ∃ bs : List Bool, bs.length = xs.length ∧ b = bs.all id ∧ ∀ (i : Nat) x c, xs[i]? = some x → bs[i]? = some c → IsInt K H x c))
/-- is_direction(x) is b -/
def DirB (K : PySem.W.Frag) (H : Hp) (x : V) (b : Bool) : Prop := (IsI K H x (.ty "str") false ∧ b = false) ∨ ∃ z : Str, x = .str z ∧ b = (z == "forward" || z == "backward")
/-- _are_sizes(x) is b -/
def SizesB (K : PySem.W.Frag) (H : Hp) (x : V) (b : Bool) : Prop := (IsA K H x [.ty "list", .ty "tuple"] false ∧ b = false) ∨ ∃ k p xs, x = .ref p ∧ Sqh k H p xs ∧ ((¬ (1 ≤ xs.length ∧ xs.length ≤ 4) ∧ b = false) ∨
  (1 ≤ xs.length ∧ xs.length ≤ 4 ∧ ∃ bs : List Bool, bs.length = xs.length ∧ b = bs.all id ∧ ∀ (i : Nat) x c, xs[i]? = some x → bs[i]? = some c → (IsInt K H x false ∧ c = false) ∨ ∃ n, x = .int n ∧ c = decide (1 ≤ n)))
/-- a table at a, of the sizes ss -/
def TabAt (C : Addr) (H : Hp) (a : Addr) (ss : List Int) : Prop := ∃ dx t, H a = some (.ins C dx [("_sizes", .ref t)]) ∧ H t = some (.tup (ss.map V.int))
theorem TabAt.same {C : Addr} {H H' : Hp} {a : Addr} {ss : List Int} (e : Same H H') (h : TabAt C H a ss) : TabAt C H' a ss := by
  obtain ⟨dx, t, h1, h2⟩ := h
  exact ⟨dx, t, e _ _ h1, e _ _ h2⟩
section
variable {P : Program} {w : World} {K : PySem.W.Frag} {mg : Str → Option Value} {base : Heap}
def sp_is_integer (K : PySem.W.Frag) : Sp := fun vs H Q _ => ∃ x b, vs = [x] ∧ IsInt K H x b ∧ Q (.bl b) H
theorem ok_is_integer (T : Tx K mg) : FnOk P w K mg base CX0 1 T.f_is_integer T.fd_is_integer ["number"] (sp_is_integer K) := by
  refine T.F_is_integer.ok sc_is_integer (fun vs H Q E h => ?_) (fun cdv A outer s H vs Q E hr h => ?_)
  · obtain ⟨x, b, rfl, _⟩ := h; rfl
  · obtain ⟨x, b, rfl, ⟨b1, b2, h1, h2, rfl⟩, q⟩ := h
    refine ⟨_, (pss_one (ps_ret (pe_and (pe_callB (call_isIK (K := K) rfl) (by rfl) T.n_isinstance (by decide +kernel) (pa_cons (pv 0) (pa_cons (pe_bltn (v := .ty "int") (by rfl) T.n_int (by decide +kernel) rfl) pa_nil))) (pe_one (pe_not (pe_callB (call_isIK (K := K) rfl) (by rfl) T.n_isinstance (by decide +kernel) (pa_cons (pv 0) (pa_cons (pe_bltn (v := .ty "bool") (by rfl) T.n_bool (by decide +kernel) rfl) pa_nil)))))))), ?_⟩
    walk_at "rd"
    refine ⟨b1, h1, ?_⟩
    cases b1 with
    | false => walk_at "rd"; exact q
    | true =>
      walk_at "rd"
      exact ⟨b2, h2 rfl, q⟩
def sp_is_seat (K : PySem.W.Frag) : Sp := fun vs H Q _ => ∃ k a ss x b, vs = [.ref a, x] ∧ Sqh k H a (ss.map V.int) ∧ SeatB K H ss x b ∧ ∀ H', Same H H' → Q (.bl b) H'
theorem ok_is_seat (T : Tx K mg) : FnOk P w K mg base CX0 1 T.f_is_seat T.fd_is_seat ["sizes", "seat"] (sp_is_seat K) := by
  refine T.F_is_seat.ok sc_is_seat (fun vs H Q E h => ?_) (fun cdv A outer s H vs Q E hr h => ?_)
  · obtain ⟨k, a, ss, x, b, rfl, _⟩ := h; rfl
  · obtain ⟨k, a, ss, x, b, rfl, hs, hb, q⟩ := h
    refine ⟨_, (pss_cons (ps_if (PW.pt (pw_or (pt_not (pt_val (pe_callB (call_isIK (K := K) rfl) (by rfl) T.n_isinstance (by decide +kernel) (pa_cons (pv 1) (pa_cons (pe_bltn (v := .ty "tuple") (by rfl) T.n_tuple (by decide +kernel) rfl) pa_nil))))) (pw_or1 (pt_cmpR op_ne (pe_callB len_H (by rfl) T.n_len PySem.boot_len (pa_cons (pv 1) pa_nil)) (pe_callB len_H (by rfl) T.n_len PySem.boot_len (pa_cons (pv 0) pa_nil)) (nomark _))))) (pss_one (ps_ret pe_bl)) pss_nil)
      (pss_cons (ps_for PassesOwn.never rfl (pi_z2H (by rfl) T.n_zip (pa_cons (pv 1) (pa_cons (pv 0) pa_nil))) (pg_tupH (n := 2) rfl (pgs_cons (pg_name (i := 2) sc_is_seat.nd rfl (Or.inl rfl)) (pgs_cons (pg_name (i := 3) sc_is_seat.nd rfl (Or.inl rfl)) pgs_nil)))
        (pss_one (ps_if (PW.pt (pw_or (pt_not (pt_val (pe_callB (call_isIK (K := K) rfl) (by rfl) T.n_isinstance (by decide +kernel) (pa_cons (pv 2) (pa_cons (pe_bltn (v := .ty "int") (by rfl) T.n_int (by decide +kernel) rfl) pa_nil))))) (pw_or (pt_val (pe_callB (call_isIK (K := K) rfl) (by rfl) T.n_isinstance (by decide +kernel) (pa_cons (pv 2) (pa_cons (pe_bltn (v := .ty "bool") (by rfl) T.n_bool (by decide +kernel) rfl) pa_nil)))) (pw_or1 (pt_not (pt_chain op_le op_lt pe_int (pv 2) (pv 3))))))) (pss_one (ps_ret pe_bl)) pss_nil)))
      (pss_one (ps_ret pe_bl)))), ?_⟩
    walk_at "rd"
    rcases hb with ⟨h1, rfl⟩ | ⟨p, xs, rfl, hp, hb⟩
    · refine ⟨false, h1, ?_⟩
      walk_at "rd"
      exact q _ (Same.refl _)
    · refine ⟨true, isI_tup hp, ?_⟩
      have main : ∀ (hl : xs.length = ss.length) (J : It) (bs : List Bool), xs.length ≤ sizeLine → bs.length = xs.length → b = bs.all id → (∀ (i : Nat) x s c, xs[i]? = some x → ss[i]? = some s → bs[i]? = some c → PlaceB K H x s c) → Walk J xs.length (fun H => Sqh false H p xs ∧ Sqh k H a (ss.map V.int)) (YPair (fun i => xs[i]?) (fun i => (ss.map V.int)[i]?)) →
          ForR J (gTupH 2 (gCons (gName 2) (gCons (gName 3) gNil)))
                    (tIfS
                      (tOr (tNot (tB (tCB (rIsI K) (tCons (tVar 2) (tCons (tC (V.ty "int")) tNil)))))
                        (tOr (tB (tCB (rIsI K) (tCons (tVar 2) (tCons (tC (V.ty "bool")) tNil))))
                          (tNot
                            (tTest
                              (tChain (rI0 fun i j => V.bl (decide (i ≤ j))) (rI0 fun i j => V.bl (decide (i < j)))
                                (tC (V.int 0)) (tVar 2) (tVar 3))))))
                      (tRet (tC (V.bl false))) tNext)
                    { nx := tRet (tC (V.bl true)) { nx := fun x H' => Q V.non H', rt := Q }, rt := Q }
                    [some (V.ref a), some (V.ref p), none, none] H := fun hl J bs hz hbl hb hbs W => by
        subst hb
        refine forr W (fun i σ H' => Same H H' ∧ (∃ v2 v3, σ = [some (V.ref a), some (V.ref p), v2, v3]) ∧ (bs.take i).all id = true) ⟨Same.refl _, ⟨none, none, rfl⟩, rfl⟩ (fun i σ H' _ h => ⟨h.1 _ _ hp, hs.same h.1⟩) ?_ ?_
        · rintro i x σ2 H2 H3 hi ⟨s2, ⟨v2, v3, rfl⟩, hall⟩ ⟨T0, x1, y1, rfl, hT, rfl, e1, e2⟩
          simp only [List.getElem?_map, Option.map_eq_some_iff] at e1 e2
          obtain ⟨s3, hs3, rfl⟩ := e2
          have hib : i < bs.length := by rw [hbl]; exact hi
          have hc := List.getElem?_eq_getElem hib
          have sT := Same.new hT (o := .tup [x1, .int s3])
          have hpl := PlaceB.same (s2.trans sT) (hbs i x1 s3 _ e1 hs3 hc)
          have hno : bs[i] = false → bs.all id = false := fun e => by
            rw [Bool.eq_false_iff]
            intro h
            have := List.all_eq_true.mp h _ (List.getElem_mem hib)
            simp [e] at this
          have hyes : bs[i] = true → (bs.take (i + 1)).all id = true := fun e => by
            rw [List.take_add_one, hc, List.all_append, hall]
            simp [e]
          walk_at "rd"
          generalize upd H2 T0 (HO.tup [x1, V.int s3]) = H3 at sT hpl ⊢
          rcases hpl with ⟨⟨b1, b2, h1, h2, h3⟩, h0⟩ | ⟨n, rfl, h0⟩
          · rw [hno h0] at q
            refine ⟨b1, h1, ?_⟩
            cases b1 with
            | false => walk_at "rd"; exact q _ (s2.trans sT)
            | true =>
              walk_at "rd"
              refine ⟨b2, h2 rfl, ?_⟩
              cases b2 with
              | true => walk_at "rd"; exact q _ (s2.trans sT)
              | false => cases h3
          · rw [isI_int_int]
            walk_at "rd"
            rw [isI_int_bool]
            walk_at "rd"
            by_cases h4 : 0 ≤ n
            · rw [if_pos h4]
              rw [decide_eq_true h4, Bool.true_and] at h0
              by_cases h5 : n < s3
              · rw [if_neg (by omega)]
                exact ⟨s2.trans sT, hyes (by rw [h0, decide_eq_true h5])⟩
              · rw [if_pos (by omega)]
                rw [hno (by rw [h0, decide_eq_false h5])] at q
                exact q _ (s2.trans sT)
            · rw [if_neg h4]
              rw [decide_eq_false h4, Bool.false_and] at h0
              rw [hno h0] at q
              exact q _ (s2.trans sT)
        · rintro σ2 H2 ⟨s2, ⟨v2, v3, rfl⟩, hall⟩
          walk_at "rd"
          rw [← hbl, List.take_length] at hall
          rw [hall] at q
          exact q _ s2
      cases k with
      | true =>
        have hs' : H a = some (.lst (ss.map V.int)) := hs
        walk_at "rh"
        rcases hb with ⟨hl, rfl⟩ | ⟨hl, hz, bs, hbl, e, hbs⟩
        · rw [if_pos hl]; exact q _ (Same.refl _)
        · rw [if_neg (fun h => h hl)]
          exact ⟨false, true, xs, hp, _, hs, by rw [List.length_map]; exact hl, fun J W => main hl J bs hz hbl e hbs W⟩
      | false =>
        have hs' : H a = some (.tup (ss.map V.int)) := hs
        walk_at "rh"
        rcases hb with ⟨hl, rfl⟩ | ⟨hl, hz, bs, hbl, e, hbs⟩
        · rw [if_pos hl]; exact q _ (Same.refl _)
        · rw [if_neg (fun h => h hl)]
          exact ⟨false, false, xs, hp, _, hs, by rw [List.length_map]; exact hl, fun J W => main hl J bs hz hbl e hbs W⟩
/-- is_place(size, x) -/
def sp_is_place (K : PySem.W.Frag) : Sp := fun vs H Q _ => ∃ s x c, vs = [.int s, x] ∧ PlaceB K H x s c ∧ Q (.bl c) H
theorem ok_is_place (T : Tx K mg) : FnOk P w K mg base CX0 1 T.f_is_place T.fd_is_place ["size", "place"] (sp_is_place K) := by
  refine T.F_is_place.ok sc_is_place (fun vs H Q E h => ?_) (fun cdv A outer s H vs Q E hr h => ?_)
  · obtain ⟨z, x, c, rfl, _⟩ := h; rfl
  · obtain ⟨z, x, c, rfl, hb, q⟩ := h
    refine ⟨_, (pss_one (ps_ret (pe_and (pe_callB (call_isIK (K := K) rfl) (by rfl) T.n_isinstance (by decide +kernel) (pa_cons (pv 1) (pa_cons (pe_bltn (v := .ty "int") (by rfl) T.n_int (by decide +kernel) rfl) pa_nil))) (pe_and (pe_not (pe_callB (call_isIK (K := K) rfl) (by rfl) T.n_isinstance (by decide +kernel) (pa_cons (pv 1) (pa_cons (pe_bltn (v := .ty "bool") (by rfl) T.n_bool (by decide +kernel) rfl) pa_nil)))) (pe_one (pe_chain op_le op_lt pe_int (pv 1) (pv 0))))))), ?_⟩
    walk_at "rd"
    rcases hb with ⟨⟨b1, b2, h1, h2, h3⟩, rfl⟩ | ⟨n, rfl, rfl⟩
    · refine ⟨b1, h1, ?_⟩
      cases b1 with
      | false => walk_at "rd"; exact q
      | true =>
        walk_at "rd"
        refine ⟨b2, h2 rfl, ?_⟩
        cases b2 with
        | true => walk_at "rd"; exact q
        | false => cases h3
    · rw [isI_int_int]
      walk_at "rd"
      rw [isI_int_bool]
      walk_at "rd"
      by_cases h4 : 0 ≤ n
      · rw [if_pos h4]
        rw [decide_eq_true h4, Bool.true_and] at q
        exact q
      · rw [if_neg h4]
        rw [decide_eq_false h4, Bool.false_and] at q
        exact q
def sp_is_call (K : PySem.W.Frag) : Sp := fun vs H Q _ => ∃ k a ss x b, vs = [.ref a, x] ∧ Sqh k H a ss ∧ CallB K H ss.length x b ∧ ∀ H', Same H H' → Q (.bl b) H'
theorem ok_is_call (T : Tx K mg) : FnOk P w K mg base CX0 1 T.f_is_call T.fd_is_call ["sizes", "call"] (sp_is_call K) := by
  refine T.F_is_call.ok sc_is_call (fun vs H Q E h => ?_) (fun cdv A outer s H vs Q E hr h => ?_)
  · obtain ⟨k, a, ss, x, b, rfl, _⟩ := h; rfl
  · obtain ⟨k, a, ss, x, b, rfl, hs, hb, q⟩ := h
    refine ⟨_, (pss_cons (ps_if (PW.pt (pw_or (pt_not (pt_val (pe_callB (call_isIK (K := K) rfl) (by rfl) T.n_isinstance (by decide +kernel) (pa_cons (pv 1) (pa_cons (pe_bltn (v := .ty "tuple") (by rfl) T.n_tuple (by decide +kernel) rfl) pa_nil))))) (pw_or1 (pt_cmpR op_ne (pe_callB len_H (by rfl) T.n_len PySem.boot_len (pa_cons (pv 1) pa_nil)) (pe_callB len_H (by rfl) T.n_len PySem.boot_len (pa_cons (pv 0) pa_nil)) (nomark _))))) (pss_one (ps_ret pe_bl)) pss_nil)
      (pss_cons (ps_for PassesOwn.never rfl (pi_seqH (pv 1)) (pg_name (i := 2) sc_is_call.nd rfl (Or.inl rfl))
        (pss_one (ps_if (PW.pt (pw_or (pt_not (pt_val (pe_callB (call_isIK (K := K) rfl) (by rfl) T.n_isinstance (by decide +kernel) (pa_cons (pv 2) (pa_cons (pe_bltn (v := .ty "int") (by rfl) T.n_int (by decide +kernel) rfl) pa_nil))))) (pw_or1 (pt_val (pe_callB (call_isIK (K := K) rfl) (by rfl) T.n_isinstance (by decide +kernel) (pa_cons (pv 2) (pa_cons (pe_bltn (v := .ty "bool") (by rfl) T.n_bool (by decide +kernel) rfl) pa_nil))))))) (pss_one (ps_ret pe_bl)) pss_nil)))
      (pss_one (ps_ret pe_bl)))), ?_⟩
    walk_at "rd"
    rcases hb with ⟨h1, rfl⟩ | ⟨p, xs, rfl, hp, hb⟩
    · refine ⟨false, h1, ?_⟩
      walk_at "rd"
      exact q _ (Same.refl _)
    · refine ⟨true, isI_tup hp, ?_⟩
      have main : ∀ (J : It) (bs : List Bool), xs.length ≤ sizeLine → bs.length = xs.length → b = bs.all id → (∀ (i : Nat) x c, xs[i]? = some x → bs[i]? = some c → IsInt K H x c) → Walk J xs.length (fun H => H p = some (.tup xs)) (YAt xs) →
          ForR J (gName 2)
                    (tIfS
                      (tOr (tNot (tB (tCB (rIsI K) (tCons (tVar 2) (tCons (tC (V.ty "int")) tNil)))))
                        (tB (tCB (rIsI K) (tCons (tVar 2) (tCons (tC (V.ty "bool")) tNil)))))
                      (tRet (tC (V.bl false))) tNext)
                    { nx := tRet (tC (V.bl true)) { nx := fun x H' => Q V.non H', rt := Q }, rt := Q }
                    [some (V.ref a), some (V.ref p), none] H := fun J bs hz hbl hb hbs W => by
        subst hb
        refine forr W (fun i σ H' => Same H H' ∧ (∃ v2, σ = [some (V.ref a), some (V.ref p), v2]) ∧ (bs.take i).all id = true) ⟨Same.refl _, ⟨none, rfl⟩, rfl⟩ (fun i σ H' _ h => h.1 _ _ hp) ?_ ?_
        · rintro i x σ2 H2 H3 hi ⟨s2, ⟨v2, rfl⟩, hall⟩ ⟨rfl, e1⟩
          have hib : i < bs.length := by rw [hbl]; exact hi
          have hc := List.getElem?_eq_getElem hib
          have hno : bs[i] = false → bs.all id = false := fun e => by
            rw [Bool.eq_false_iff]
            intro h
            have := List.all_eq_true.mp h _ (List.getElem_mem hib)
            simp [e] at this
          have hyes : bs[i] = true → (bs.take (i + 1)).all id = true := fun e => by
            rw [List.take_add_one, hc, List.all_append, hall]
            simp [e]
          walk_at "rd"
          obtain ⟨b1, b2, h1, h2, h3⟩ := IsInt.same s2 (hbs i x _ e1 hc)
          refine ⟨b1, h1, ?_⟩
          cases b1 with
          | false =>
            rw [hno (by rw [h3]; rfl)] at q
            walk_at "rd"; exact q _ s2
          | true =>
            walk_at "rd"
            refine ⟨b2, h2 rfl, ?_⟩
            cases b2 with
            | true =>
              rw [hno (by rw [h3]; rfl)] at q
              walk_at "rd"; exact q _ s2
            | false =>
              walk_at "rd"
              exact ⟨s2, hyes (by rw [h3]; rfl)⟩
        · rintro σ2 H2 ⟨s2, ⟨v2, rfl⟩, hall⟩
          walk_at "rd"
          rw [← hbl, List.take_length] at hall
          rw [hall] at q
          exact q _ s2
      cases k with
      | true =>
        have hs' : H a = some (.lst ss) := hs
        walk_at "rh"
        rcases hb with ⟨hl, rfl⟩ | ⟨hl, hz, bs, hbl, e, hbs⟩
        · rw [if_pos hl]; exact q _ (Same.refl _)
        · rw [if_neg (fun h => h hl)]
          exact fun J W => main J bs hz hbl e hbs W
      | false =>
        have hs' : H a = some (.tup ss) := hs
        walk_at "rh"
        rcases hb with ⟨hl, rfl⟩ | ⟨hl, hz, bs, hbl, e, hbs⟩
        · rw [if_pos hl]; exact q _ (Same.refl _)
        · rw [if_neg (fun h => h hl)]
          exact fun J W => main J bs hz hbl e hbs W
def sp_is_direction (K : PySem.W.Frag) : Sp := fun vs H Q _ => ∃ x b, vs = [x] ∧ DirB K H x b ∧ ∀ H', Same H H' → Q (.bl b) H'
theorem ok_is_direction (T : Tx K mg) : FnOk P w K mg base CX0 1 T.f_is_direction T.fd_is_direction ["direction"] (sp_is_direction K) := by
  refine T.F_is_direction.ok sc_is_direction (fun vs H Q E h => ?_) (fun cdv A outer s H vs Q E hr h => ?_)
  · obtain ⟨x, b, rfl, _⟩ := h; rfl
  · obtain ⟨x, b, rfl, hb, q⟩ := h
    refine ⟨_, (pss_one (ps_ret (pe_and (pe_callB (call_isIK (K := K) rfl) (by rfl) T.n_isinstance (by decide +kernel) (pa_cons (pv 0) (pa_cons (pe_bltn (v := .ty "str") (by rfl) T.n_str (by decide +kernel) rfl) pa_nil))) (pe_one (pe_cmpR op_inH (pv 0) (pe_tup (pa_cons pe_str (pa_cons pe_str pa_nil))) rfl))))), ?_⟩
    walk_at "rd"
    rcases hb with ⟨h1, rfl⟩ | ⟨z, rfl, rfl⟩
    · refine ⟨false, h1, ?_⟩
      walk_at "rd"
      exact q _ (Same.refl _)
    · refine ⟨true, isI_ty (.base (.str z)) (by decide +kernel), ?_⟩
      walk_at "rd"
      intro p hp
      refine ⟨rfl, rfl, ?_⟩
      have e : inV (V.str z) [V.str "forward", V.str "backward"] = (z == "forward" || z == "backward") := by
        simp only [inV, List.any_cons, List.any_nil, eqV, Bool.or_false]
        rw [Bool.beq_comm (a := z), Bool.beq_comm (a := z)]
      rw [e]
      exact q _ (Same.new hp)
def sp_require_seat (K : PySem.W.Frag) : Sp := fun vs H Q _ => ∃ k a ss x, vs = [.ref a, x] ∧ Sqh k H a (ss.map V.int) ∧ SeatB K H ss x true ∧ ∀ H', Same H H' → Q .non H'
theorem ok_require_seat (T : Tx K mg) : FnOk P w K mg base CX0 2 T.f_require_seat T.fd_require_seat ["sizes", "seat"] (sp_require_seat K) := by
  refine T.F_require_seat.ok sc_require_seat (fun vs H Q E h => ?_) (fun cdv A outer s H vs Q E hr h => ?_)
  · obtain ⟨k, a, ss, x, rfl, _⟩ := h; rfl
  · obtain ⟨k, a, ss, x, rfl, hs, hb, q⟩ := h
    refine ⟨_, (pss_one (ps_if (pt_not (pt_val (pe_call (ok_is_seat T) (hr.mono (by decide)) (by rfl) T.g_is_seat T.F_is_seat.kp T.b_is_seat .nil pass0 (pa_cons (pv 0) (pa_cons (pv 1) pa_nil))))) (pss_one ps_never) pss_nil)), ?_⟩
    walk_at "rd"
    refine ⟨k, a, ss, x, true, rfl, hs, hb, fun H' s1 => ?_⟩
    walk_at "rd"
    exact q _ s1
def sp_require_call (K : PySem.W.Frag) : Sp := fun vs H Q _ => ∃ k a ss x, vs = [.ref a, x] ∧ Sqh k H a ss ∧ CallB K H ss.length x true ∧ ∀ H', Same H H' → Q .non H'
theorem ok_require_call (T : Tx K mg) : FnOk P w K mg base CX0 2 T.f_require_call T.fd_require_call ["sizes", "call"] (sp_require_call K) := by
  refine T.F_require_call.ok sc_require_call (fun vs H Q E h => ?_) (fun cdv A outer s H vs Q E hr h => ?_)
  · obtain ⟨k, a, ss, x, rfl, _⟩ := h; rfl
  · obtain ⟨k, a, ss, x, rfl, hs, hb, q⟩ := h
    refine ⟨_, (pss_one (ps_if (pt_not (pt_val (pe_call (ok_is_call T) (hr.mono (by decide)) (by rfl) T.g_is_call T.F_is_call.kp T.b_is_call .nil pass0 (pa_cons (pv 0) (pa_cons (pv 1) pa_nil))))) (pss_one ps_never) pss_nil)), ?_⟩
    walk_at "rd"
    refine ⟨k, a, ss, x, true, rfl, hs, hb, fun H' s1 => ?_⟩
    walk_at "rd"
    exact q _ s1
def sp_require_direction (K : PySem.W.Frag) : Sp := fun vs H Q _ => ∃ x, vs = [x] ∧ DirB K H x true ∧ ∀ H', Same H H' → Q .non H'
def sp_are_sizes (K : PySem.W.Frag) : Sp := fun vs H Q _ => ∃ x b, vs = [x] ∧ SizesB K H x b ∧ ∀ H', Same H H' → Q (.bl b) H'
theorem ok_are_sizes (T : Tx K mg) : FnOk P w K mg base CX0 2 T.f_are_sizes T.fd_are_sizes ["rings"] (sp_are_sizes K) := by
  refine T.F_are_sizes.ok sc_are_sizes (fun vs H Q E h => ?_) (fun cdv A outer s H vs Q E hr h => ?_)
  · obtain ⟨x, b, rfl, _⟩ := h; rfl
  · obtain ⟨x, b, rfl, hb, q⟩ := h
    refine ⟨_, (pss_cons (ps_if (PW.pt (pw_or (pt_not (pt_val (pe_callB (call_isAK (K := K) rfl) (by rfl) T.n_isinstance (by decide +kernel) (pa_cons (pv 0) (pa_cons (pe_tup (pa_cons (pe_bltn (v := .ty "list") (by rfl) T.n_list (by decide +kernel) rfl) (pa_cons (pe_bltn (v := .ty "tuple") (by rfl) T.n_tuple (by decide +kernel) rfl) pa_nil))) pa_nil))))) (pw_or1 (pt_not (pt_chain op_le op_le pe_int (pe_callB len_H (by rfl) T.n_len PySem.boot_len (pa_cons (pv 0) pa_nil)) (pe_glob (by rfl) T.g_MAX_RINGS T.r_MAX_RINGS)))))) (pss_one (ps_ret pe_bl)) pss_nil)
      (pss_one (ps_ret (pe_callB (all_H rfl) (by rfl) T.n_all (by decide +kernel) (pa_cons (pe_lc (own := [("size", 1)]) (g := (gName 1)) (tt := tYes) rfl sc_are_sizes.nd (pi_seqH (pv 0)) (blkOk_by (own := [("size", 1)]) (N := N_are_sizes) (sc := defScope d_are_sizes) (by decide +kernel)) (fun _ _ _ _ _ => (pg_name (i := 1) sc_are_sizes.nd rfl (Or.inl rfl))) (fun _ _ _ _ _ => pts_nil) (fun _ _ _ _ _ => (pe_and (pe_call (ok_is_integer T) (hr.mono (by decide)) (by rfl) T.g_is_integer T.F_is_integer.kp T.b_is_integer .nil pass0 (pa_cons (pv 1) pa_nil)) (pe_one (pe_cmpR op_ge (pv 1) pe_int (nomark _)))))) pa_nil))))), ?_⟩
    walk_at "rd"
    intro tp htp
    have s1 := Same.new htp (o := .tup [V.ty "list", V.ty "tuple"])
    generalize upd H tp (HO.tup [V.ty "list", V.ty "tuple"]) = H1 at s1 ⊢
    rcases hb with ⟨h1, rfl⟩ | ⟨k, p, xs, rfl, hs, hb⟩
    · refine ⟨false, IsA.same s1 h1, ?_⟩
      rw [if_pos rfl]
      exact q _ s1
    · have hs1 : Sqh k H1 p xs := hs.same s1
      have main : ∀ (J : It) (G : Hp → Prop) (bs : List Bool), xs.length ≤ sizeLine → bs.length = xs.length → b = bs.all id → (∀ (i : Nat) x c, xs[i]? = some x → bs[i]? = some c → (IsInt K H x false ∧ c = false) ∨ ∃ n, x = .int n ∧ c = decide (1 ≤ n)) → (∀ H2, Same H1 H2 → G H2) → Walk J xs.length G (YAt xs) →
          LcR J (gName 1) tYes (tAndV (tCall (sp_is_integer K) [] E0 (tCons (tVar 1) tNil)) (tOp (rI0 fun i j => V.bl (decide (j ≤ i))) (tVar 1) (tC (V.int 1)))) [1] [some (V.ref p), none] H1
            fun x H1 => ∃ p, x = V.ref p ∧ ∃ bs : List Bool, H1 p = some (HO.lst (List.map V.bl bs)) ∧ Q (V.bl (bs.all id)) H1 := fun J G bs hz hbl hb hbs hG W => by
        subst hb
        refine lcr_map W (bs.map V.bl) (by rw [List.length_map]; exact hbl) hz hG (fun _ _ _ _ y => YAt.same y) ?_ ?_
        · intro i x H2 H3 y Qy hi s2 hy hr hq
          obtain ⟨rfl, hx⟩ := hy
          simp only [List.getElem?_map, Option.map_eq_some_iff] at hr
          obtain ⟨c, hc, rfl⟩ := hr
          walk_at "rd"
          rcases hbs i x c hx hc with ⟨h0, rfl⟩ | ⟨n, rfl, rfl⟩
          · refine ⟨_, false, rfl, IsInt.same (s1.trans s2) h0, ?_⟩
            walk_at "rd"
            exact hq _ (Same.refl _)
          · refine ⟨_, true, rfl, isInt_int n, ?_⟩
            walk_at "rd"
            exact hq _ (Same.refl _)
        · intro D H2 hD s2 h1
          exact ⟨D, rfl, bs, h1, q _ (s1.trans s2)⟩
      cases k with
      | true =>
        have hs' : H1 p = some (.lst xs) := hs1
        refine ⟨true, isA_two (.base (.lst hs')) (b1 := true) (b2 := false) (by decide +kernel) (by decide +kernel) rfl, ?_⟩
        walk_at "rh"
        rcases hb with ⟨hl, rfl⟩ | ⟨hl, hz, bs, hbl, e, hbs⟩
        · by_cases h1 : 1 ≤ xs.length
          · rw [if_pos (by omega), if_pos (by omega)]; exact q _ s1
          · rw [if_neg (by omega)]; exact q _ s1
        · rw [if_pos (by omega), if_neg (by omega)]
          exact fun J W => main J _ bs (Nat.le_trans hz (by decide)) hbl e hbs (fun H2 s2 => s2 _ _ hs') W
      | false =>
        have hs' : H1 p = some (.tup xs) := hs1
        refine ⟨true, isA_two (.base (.tup hs')) (b1 := false) (b2 := true) (by decide +kernel) (by decide +kernel) rfl, ?_⟩
        walk_at "rh"
        rcases hb with ⟨hl, rfl⟩ | ⟨hl, hz, bs, hbl, e, hbs⟩
        · by_cases h1 : 1 ≤ xs.length
          · rw [if_pos (by omega), if_pos (by omega)]; exact q _ s1
          · rw [if_neg (by omega)]; exact q _ s1
        · rw [if_pos (by omega), if_neg (by omega)]
          exact fun J W => main J _ bs (Nat.le_trans hz (by decide)) hbl e hbs (fun H2 s2 => s2 _ _ hs') W
/-- an instance is written; all else is as it was -/
def sp_Table_init (K : PySem.W.Frag) (C : Addr) : Sp := fun vs H Q _ => ∃ (a dx : Addr) (x : V) (p : Addr) (k : Bool) (ss : List Int), vs = [.ref a, x] ∧ H a = some (.ins C dx []) ∧ x = .ref p ∧ Sqh k H p (ss.map V.int) ∧ 1 ≤ ss.length ∧ ss.length ≤ 4 ∧ (∀ n ∈ ss, 1 ≤ n) ∧
  ∀ H' t, Sx a H H' → H' a = some (.ins C dx [("_sizes", .ref t)]) → H' t = some (.tup (ss.map V.int)) → Q .non H'
theorem ok_Table_init (T : Tx K mg) : FnOk P w K mg base CX0 3 T.f_Table_init T.fd_Table_init ["self", "rings"] (sp_Table_init K T.c_Table) := by
  refine T.F_Table_init.ok sc_Table_init (fun vs H Q E h => ?_) (fun cdv A outer s H vs Q E hr h => ?_)
  · obtain ⟨a, dx, x, p, k, ss, rfl, _⟩ := h; rfl
  · obtain ⟨a, dx, x, p, k, ss, rfl, ha, rfl, hs, h1, h4, hpos, q⟩ := h
    refine ⟨_, (pss_cons (ps_if (pt_not (pt_val (pe_call (ok_are_sizes T) (hr.mono (by decide)) (by rfl) T.g_are_sizes T.F_are_sizes.kp T.b_are_sizes .nil pass0 (pa_cons (pv 1) pa_nil)))) (pss_one ps_never) pss_nil)
      (pss_one (ps_fld (pv 0) (pe_callTy tuple_H (by rfl) T.n_tuple (by decide +kernel) (pa_cons (pv 1) pa_nil)) rfl))), ?_⟩
    walk_at "rd"
    refine ⟨_, true, rfl, .inr ⟨k, p, ss.map V.int, rfl, hs, .inr ⟨by rw [List.length_map]; exact h1, by rw [List.length_map]; exact h4, List.replicate ss.length true, by simp, by simp, fun i x c hx hc => ?_⟩⟩, fun H1 s1 => ?_⟩
    · simp only [List.getElem?_map, Option.map_eq_some_iff] at hx
      obtain ⟨n, hn, rfl⟩ := hx
      have hi : i < ss.length := (List.getElem?_eq_some_iff.mp hn).1
      rw [List.getElem?_replicate, if_pos hi] at hc
      refine .inr ⟨n, rfl, ?_⟩
      rw [decide_eq_true (hpos n (List.mem_of_getElem? hn))]
      exact (Option.some.inj hc).symm
    · have ha1 := s1 _ _ ha
      have hs1 := hs.same s1
      have cl := T.cl_Table
      have no := T.no_Table_sizes
      walk_at "rd"
      cases k with
      | true =>
        have hs' : H1 p = some (.lst (ss.map V.int)) := hs1
        walk_at "rh"
        intro l hl
        have e1 : upd H1 l (.tup (ss.map V.int)) a = some (.ins T.c_Table dx []) := by rw [upd_old hl (by rw [ha1]; simp)]; exact ha1
        rw [e1]
        refine ⟨_, _, _, rfl, cl, no, by decide, ?_⟩
        have nla : l ≠ a := fun e => by rw [e, ha1] at hl; cases hl
        exact q _ l (Sx.trans (Sx.of (s1.trans (Same.new hl))) Sx.put) upd_same (by rw [upd_ne nla]; exact upd_same)
      | false =>
        have hs' : H1 p = some (.tup (ss.map V.int)) := hs1
        walk_at "rh"
        have npa : p ≠ a := ne_two hs' ha1 (by simp)
        exact ⟨by decide, q _ p (Sx.trans (Sx.of s1) Sx.put) upd_same (by rw [upd_ne npa]; exact hs')⟩
def sp_Table_sizes (K : PySem.W.Frag) (C : Addr) : Sp := fun vs H Q _ => ∃ (a : Addr) (ss : List Int), vs = [.ref a] ∧ TabAt C H a ss ∧ ∀ t, H t = some (.tup (ss.map V.int)) → Q (.ref t) H
theorem ok_Table_sizes (T : Tx K mg) : FnOk P w K mg base CX0 1 T.f_Table_sizes T.fd_Table_sizes ["self"] (sp_Table_sizes K T.c_Table) := by
  refine T.F_Table_sizes.ok sc_Table_sizes (fun vs H Q E h => ?_) (fun cdv A outer s H vs Q E hr h => ?_)
  · obtain ⟨a, ss, rfl, _⟩ := h; rfl
  · obtain ⟨a, ss, rfl, ⟨dx, t, h1, h2⟩, q⟩ := h
    refine ⟨_, (pss_one (ps_ret (pe_fld (pv 0) rfl))), ?_⟩
    have cl := T.cl_Table
    have no := T.no_Table_sizes
    walk_at "rh"
def prodI (ss : List Int) : Int := ss.foldl (fun a b => a * b) 1
theorem prodI_take {ss : List Int} {i : Nat} {n : Int} (h : ss[i]? = some n) : prodI (ss.take (i + 1)) = prodI (ss.take i) * n := by
  unfold prodI
  rw [List.take_add_one, h, List.foldl_append]
  rfl
theorem prodI_small {B : Nat} : ∀ {ss : List Int}, (∀ n ∈ ss, n.natAbs < 2 ^ B) → (prodI ss).natAbs < 2 ^ (B * ss.length + 1) := by
  have gen : ∀ (ss : List Int) (a : Int) (A : Nat), (∀ n ∈ ss, n.natAbs < 2 ^ B) → a.natAbs < 2 ^ A → (ss.foldl (fun a b => a * b) a).natAbs < 2 ^ (A + B * ss.length) := by
    intro ss
    induction ss with
    | nil => intro a A _ h; simpa using h
    | cons x r ih =>
      intro a A h ha
      have h1 : (a * x).natAbs < 2 ^ (A + B) := wide_lt ha (h x (List.mem_cons_self ..))
      have h2 := ih (a * x) (A + B) (fun n hn => h n (List.mem_cons_of_mem _ hn)) h1
      rw [List.length_cons, Nat.mul_succ, show A + (B * r.length + B) = A + B + B * r.length by omega]
      exact h2
  intro ss h
  have q := gen ss 1 1 h (by decide)
  rw [Nat.add_comm 1] at q
  exact q
/-- the sizes of a table that is used: 1 to 4, each of at most 1000 bits -/
structure Sz (ss : List Int) : Prop where
  lo : 1 ≤ ss.length
  hi : ss.length ≤ 4
  pos : ∀ n ∈ ss, 1 ≤ n
  bits : ∀ n ∈ ss, n.natAbs < 2 ^ 1000
theorem Sz.mul {ss : List Int} (z : Sz ss) {i : Nat} {n : Int} (h : ss[i]? = some n) : CMulW (prodI (ss.take i)) n := by
  have h1 := prodI_small (B := 1000) (ss := ss.take i) fun n hn => z.bits n (List.mem_of_mem_take hn)
  have h2 := z.bits n (List.mem_of_getElem? h)
  have h3 : (ss.take i).length ≤ 4 := Nat.le_trans (by rw [List.length_take]; omega) z.hi
  exact wide_mul h1 h2 (by omega) (by omega) (by omega)
def sp_Table_count (K : PySem.W.Frag) (C : Addr) : Sp := fun vs H Q _ => ∃ (a : Addr) (ss : List Int), vs = [.ref a] ∧ TabAt C H a ss ∧ Sz ss ∧ Q (.int (prodI ss)) H
/-- the places of the steps -/
def mv (g : Int → Int → Int) : List Int → List Int → List Int → List Int
  | p :: ps, c :: cs, s :: ss => (g p c % s) :: mv g ps cs ss
  | _, _, _ => []
theorem mv_len {g : Int → Int → Int} : ∀ {ps cs ss : List Int}, ps.length = cs.length → cs.length = ss.length → (mv g ps cs ss).length = ps.length
  | [], [], [], _, _ => rfl
  | p :: ps, c :: cs, s :: ss, h1, h2 => by
    show (mv g ps cs ss).length + 1 = ps.length + 1
    rw [mv_len (by simpa using h1) (by simpa using h2)]
theorem mv_get {g : Int → Int → Int} : ∀ {ps cs ss : List Int} {i : Nat} {p c s : Int}, ps[i]? = some p → cs[i]? = some c → ss[i]? = some s → (mv g ps cs ss)[i]? = some (g p c % s)
  | p :: ps, c :: cs, s :: ss, 0, _, _, _, h1, h2, h3 => by
    simp only [List.getElem?_cons_zero, Option.some.injEq] at h1 h2 h3
    subst h1 h2 h3
    rfl
  | p :: ps, c :: cs, s :: ss, i + 1, _, _, _, h1, h2, h3 => mv_get (ps := ps) (cs := cs) (ss := ss) (i := i) h1 h2 h3
  | [], _, _, _, _, _, _, h, _, _ => by simp at h
  | _ :: _, [], _, _, _, _, _, _, h, _ => by simp at h
  | _ :: _, _ :: _, [], _, _, _, _, _, _, h => by simp at h
/-- ps a seat of the sizes ss -/
structure Seat (ss ps : List Int) : Prop where
  len : ps.length = ss.length
  ok : ∀ (i : Nat) p s, ps[i]? = some p → ss[i]? = some s → 0 ≤ p ∧ p < s
theorem Seat.b {K : PySem.W.Frag} {H : Hp} {ss ps : List Int} {p : Addr} (h : Seat ss ps) (z : Sz ss) (hp : H p = some (.tup (ps.map V.int))) : SeatB K H ss (.ref p) true := by
  refine .inr ⟨p, _, rfl, hp, .inr ⟨by rw [List.length_map]; exact h.len, ?_, List.replicate ps.length true, by simp, by simp, fun i x s c hx hs hc => ?_⟩⟩
  · have h4 := z.hi
    have hl := h.len
    rw [List.length_map]
    exact Nat.le_trans (by omega : ps.length ≤ 4) (by decide)
  · simp only [List.getElem?_map, Option.map_eq_some_iff] at hx
    obtain ⟨n, hn, rfl⟩ := hx
    have hi : i < ps.length := (List.getElem?_eq_some_iff.mp hn).1
    rw [List.getElem?_replicate, if_pos hi] at hc
    obtain ⟨h1, h2⟩ := h.ok i n s hn hs
    refine .inr ⟨n, rfl, ?_⟩
    rw [decide_eq_true h1, decide_eq_true h2]
    exact (Option.some.inj hc).symm
theorem call_b {K : PySem.W.Frag} {H : Hp} {cs : List Int} {n : Nat} {p : Addr} (h : cs.length = n) (hn : n ≤ 4) (hp : H p = some (.tup (cs.map V.int))) : CallB K H n (.ref p) true := by
  refine .inr ⟨p, _, rfl, hp, .inr ⟨by rw [List.length_map]; exact h, ?_, List.replicate cs.length true, by simp, by simp, fun i x c hx hc => ?_⟩⟩
  · rw [List.length_map]
    exact Nat.le_trans (by omega : cs.length ≤ 4) (by decide)
  · simp only [List.getElem?_map, Option.map_eq_some_iff] at hx
    obtain ⟨m, hm, rfl⟩ := hx
    have hi : i < cs.length := (List.getElem?_eq_some_iff.mp hm).1
    rw [List.getElem?_replicate, if_pos hi] at hc
    obtain rfl := Option.some.inj hc
    exact isInt_int m
def fw (p c : Int) : Int := p + c
def bw (p c : Int) : Int := p - c
def sp_both_moves (K : PySem.W.Frag) : Sp := fun vs H Q _ => ∃ (kt : Bool) (t p c : Addr) (ss ps cs : List Int), vs = [.ref t, .ref p, .ref c] ∧ Sqh kt H t (ss.map V.int) ∧ H p = some (.tup (ps.map V.int)) ∧ H c = some (.tup (cs.map V.int)) ∧ ps.length = cs.length ∧ cs.length = ss.length ∧ ss.length ≤ 4 ∧ (∀ n ∈ ss, 0 < n) ∧
  ∀ H' r f b, Same H H' → H' r = some (.tup [.ref f, .ref b]) → H' f = some (.tup ((mv fw ps cs ss).map V.int)) → H' b = some (.tup ((mv bw ps cs ss).map V.int)) → Q (.ref r) H'
theorem mv_snoc {g : Int → Int → Int} {ps cs ss : List Int} {i : Nat} {p c s : Int} (h1 : ps[i]? = some p) (h2 : cs[i]? = some c) (h3 : ss[i]? = some s) : (mv g ps cs ss).take (i + 1) = (mv g ps cs ss).take i ++ [g p c % s] := by
  rw [List.take_add_one, mv_get h1 h2 h3]
  rfl
theorem ok_both_moves (T : Tx K mg) : FnOk P w K mg base CX0 1 T.f_both_moves T.fd_both_moves ["sizes", "seat", "call"] (sp_both_moves K) := by
  refine T.F_both_moves.ok sc_both_moves (fun vs H Q E h => ?_) (fun cdv A outer s H vs Q E hr h => ?_)
  · obtain ⟨kt, t, p, c, ss, ps, cs, rfl, _⟩ := h; rfl
  · obtain ⟨kt, t, p, c, ss, ps, cs, rfl, ht, hp, hc, hl1, hl2, h4, pos, q⟩ := h
    refine ⟨_, (pss_cons (ps_set (i := 3) sc_both_moves.nd rfl (Or.inl rfl) (pe_lst pa_nil))
      (pss_cons (ps_set (i := 4) sc_both_moves.nd rfl (Or.inl rfl) (pe_lst pa_nil))
      (pss_cons (ps_for PassesOwn.never rfl (pi_z3H (by rfl) T.n_zip (pa_cons (pv 1) (pa_cons (pv 2) (pa_cons (pv 0) pa_nil)))) (pg_tupH (n := 3) rfl (pgs_cons (pg_name (i := 5) sc_both_moves.nd rfl (Or.inl rfl)) (pgs_cons (pg_name (i := 6) sc_both_moves.nd rfl (Or.inl rfl)) (pgs_cons (pg_name (i := 7) sc_both_moves.nd rfl (Or.inl rfl)) pgs_nil))))
        (pss_cons (ps_expr (pe_append (pv 3) (pa_cons (pe_op op_mod (pe_op op_add (pv 5) (pv 6)) (pv 7)) pa_nil)))
        (pss_one (ps_expr (pe_append (pv 4) (pa_cons (pe_op op_mod (pe_op op_sub (pv 5) (pv 6)) (pv 7)) pa_nil))))))
      (pss_one (ps_ret (pe_tup (pa_cons (pe_callTy tuple_H (by rfl) T.n_tuple (by decide +kernel) (pa_cons (pv 3) pa_nil)) (pa_cons (pe_callTy tuple_H (by rfl) T.n_tuple (by decide +kernel) (pa_cons (pv 4) pa_nil)) pa_nil)))))))), ?_⟩
    walk_at "rd"
    intro F hF
    have s1 := Same.new hF (o := .lst [])
    have f1 : (upd H F (.lst [])) F = some (.lst []) := upd_same
    generalize upd H F (HO.lst []) = H1 at s1 f1 ⊢
    intro B hB
    have s2 := Same.new hB (o := .lst [])
    have b2 : (upd H1 B (.lst [])) B = some (.lst []) := upd_same
    generalize upd H1 B (HO.lst []) = H2 at s2 b2 ⊢
    have nFB : F ≠ B := ne_some f1 hB
    have hHB : H B = none := by
      cases e : H B with
      | none => rfl
      | some u => rw [s1 _ _ e] at hB; cases hB
    have s02 := s1.trans s2
    refine ⟨false, false, kt, ps.map V.int, s02 _ _ hp, cs.map V.int, s02 _ _ hc, ss.map V.int, ht.same s02, by rw [List.length_map, List.length_map, hl1], by rw [List.length_map, List.length_map, hl2], fun J W => ?_⟩
    refine forr W (fun i σ H' => ∃ v5 v6 v7, σ = [some (V.ref t), some (V.ref p), some (V.ref c), some (V.ref F), some (V.ref B), v5, v6, v7] ∧ Same H H' ∧ H' F = some (.lst (((mv fw ps cs ss).take i).map V.int)) ∧ H' B = some (.lst (((mv bw ps cs ss).take i).map V.int))) ⟨none, none, none, rfl, s02, s2 _ _ f1, b2⟩ (fun i σ H' _ h => by
      obtain ⟨_, _, _, _, h, _⟩ := h
      exact ⟨h _ _ hp, h _ _ hc, ht.same h⟩) ?_ ?_
    · rintro i x σ3 H3 H4 hi ⟨v5, v6, v7, rfl, s3, hF3, hB3⟩ ⟨T0, x1, y1, z1, rfl, hT, rfl, e1, e2, e3⟩
      simp only [List.getElem?_map, Option.map_eq_some_iff] at e1 e2 e3
      obtain ⟨x2, hx2, rfl⟩ := e1
      obtain ⟨y2, hy2, rfl⟩ := e2
      obtain ⟨z2, hz2, rfl⟩ := e3
      rw [List.length_map] at hi
      have hz0 := pos z2 (List.mem_of_getElem? hz2)
      have sT := Same.new hT (o := .tup [V.int x2, V.int y2, V.int z2])
      walk_at "rd"
      generalize upd H3 T0 (HO.tup [V.int x2, V.int y2, V.int z2]) = H4 at sT ⊢
      have lmv : ∀ g, ((mv g ps cs ss).take i).length ≤ 4 := fun g => by
        rw [List.length_take, mv_len hl1 hl2]; omega
      refine ⟨⟨_, sT _ _ hF3⟩, hz0, _, sT _ _ hF3, ?_, ?_⟩
      · rw [List.length_map]; exact Nat.lt_of_le_of_lt (lmv _) (by decide)
      refine ⟨⟨_, by rw [upd_ne (Ne.symm nFB)]; exact sT _ _ hB3⟩, hz0, _, by rw [upd_ne (Ne.symm nFB)]; exact sT _ _ hB3, ?_, ?_⟩
      · rw [List.length_map]; exact Nat.lt_of_le_of_lt (lmv _) (by decide)
      refine ⟨fun u o hu => ?_, ?_, ?_⟩
      · rw [upd_ne (ne_some hu hHB), upd_ne (ne_some hu hF)]
        exact sT _ _ (s3 _ _ hu)
      · rw [upd_ne nFB, upd_same, mv_snoc hx2 hy2 hz2, List.map_append]
        rfl
      · rw [mv_snoc hx2 hy2 hz2, List.map_append]
        rfl
    · rintro σ3 H3 ⟨v5, v6, v7, rfl, s3, hF3, hB3⟩
      rw [List.length_map] at hF3 hB3
      have hl : ∀ g, ps.length = (mv g ps cs ss).length := fun g => (mv_len hl1 hl2).symm
      rw [hl fw, List.take_length] at hF3
      rw [hl bw, List.take_length] at hB3
      walk_at "rd"
      refine .inl ⟨_, hF3, fun f hf => ?_⟩
      have s4 := Same.new hf (o := .tup ((mv fw ps cs ss).map V.int))
      have f4 : (upd H3 f (.tup ((mv fw ps cs ss).map V.int))) f = some (.tup ((mv fw ps cs ss).map V.int)) := upd_same
      generalize upd H3 f (HO.tup ((mv fw ps cs ss).map V.int)) = H4 at s4 f4 ⊢
      refine .inl ⟨_, s4 _ _ hB3, fun b hb => ?_⟩
      have s5 := Same.new hb (o := .tup ((mv bw ps cs ss).map V.int))
      have b5 : (upd H4 b (.tup ((mv bw ps cs ss).map V.int))) b = some (.tup ((mv bw ps cs ss).map V.int)) := upd_same
      generalize upd H4 b (HO.tup ((mv bw ps cs ss).map V.int)) = H5 at s5 b5 ⊢
      intro r hr
      have s6 := Same.new hr (o := .tup [.ref f, .ref b])
      exact q _ r f b (((s3.trans s4).trans s5).trans s6) upd_same (s6 _ _ (s5 _ _ f4)) (s6 _ _ b5)
def sp_Table_moves (K : PySem.W.Frag) (C : Addr) : Sp := fun vs H Q _ => ∃ (a p c : Addr) (ss ps cs : List Int), vs = [.ref a, .ref p, .ref c] ∧ TabAt C H a ss ∧ Sz ss ∧ H p = some (.tup (ps.map V.int)) ∧ Seat ss ps ∧ H c = some (.tup (cs.map V.int)) ∧ cs.length = ss.length ∧
  ∀ H' r f b, Same H H' → H' r = some (.tup [.ref f, .ref b]) → H' f = some (.tup ((mv fw ps cs ss).map V.int)) → H' b = some (.tup ((mv bw ps cs ss).map V.int)) → Q (.ref r) H'
def sp_stepped (K : PySem.W.Frag) : Sp := fun vs H Q _ => ∃ (kt : Bool) (t p c : Addr) (z : Str) (ss ps cs : List Int), vs = [.ref t, .ref p, .ref c, .str z] ∧ Sqh kt H t (ss.map V.int) ∧ H p = some (.tup (ps.map V.int)) ∧ H c = some (.tup (cs.map V.int)) ∧ ps.length = cs.length ∧ cs.length = ss.length ∧ ss.length ≤ 4 ∧ (∀ n ∈ ss, 0 < n) ∧ (z = "forward" ∨ z = "backward") ∧
  ∀ H' f, Same H H' → H' f = some (.tup ((mv (if z = "forward" then fw else bw) ps cs ss).map V.int)) → Q (.ref f) H'
theorem ok_stepped (T : Tx K mg) : FnOk P w K mg base CX0 2 T.f_stepped T.fd_stepped ["sizes", "seat", "call", "direction"] (sp_stepped K) := by
  refine T.F_stepped.ok sc_stepped (fun vs H Q E h => ?_) (fun cdv A outer s H vs Q E hr h => ?_)
  · obtain ⟨kt, t, p, c, z, ss, ps, cs, rfl, _⟩ := h; rfl
  · obtain ⟨kt, t, p, c, zz, ss, ps, cs, rfl, ht, hp, hc, hl1, hl2, h4, pos, hz, q⟩ := h
    refine ⟨_, (pss_cons (ps_asg (pe_call (ok_both_moves T) (hr.mono (by decide)) (by rfl) T.g_both_moves T.F_both_moves.kp T.b_both_moves .nil pass0 (pa_cons (pv 0) (pa_cons (pv 1) (pa_cons (pv 2) pa_nil)))) (pg_tupH (n := 2) rfl (pgs_cons (pg_name (i := 4) sc_stepped.nd rfl (Or.inl rfl)) (pgs_cons (pg_name (i := 5) sc_stepped.nd rfl (Or.inl rfl)) pgs_nil))))
      (pss_cons (ps_if (pt_cmpR op_eq (pv 3) pe_str (nomark _)) (pss_one (ps_ret (pv 4))) pss_nil)
      (pss_one (ps_ret (pv 5))))), ?_⟩
    walk_at "rh"
    refine ⟨kt, t, p, c, ss, ps, cs, rfl, ht, hp, hc, hl1, hl2, h4, pos, fun H1 r f b s1 hr hf hb => ?_⟩
    walk_at "rh"
    rcases hz with rfl | rfl
    · rw [if_pos rfl] at q ⊢
      exact q _ f s1 hf
    · have e : ¬ (("backward" : Str) = "forward") := by decide +kernel
      rw [if_neg e] at q ⊢
      exact q _ b s1 hb
def sp_Table_step (K : PySem.W.Frag) (C : Addr) : Sp := fun vs H Q _ => ∃ (a p c : Addr) (z : Str) (ss ps cs : List Int), vs = [.ref a, .ref p, .ref c, .str z] ∧ TabAt C H a ss ∧ Sz ss ∧ H p = some (.tup (ps.map V.int)) ∧ Seat ss ps ∧ H c = some (.tup (cs.map V.int)) ∧ cs.length = ss.length ∧ (z = "forward" ∨ z = "backward") ∧
  ∀ H' f, Same H H' → H' f = some (.tup ((mv (if z = "forward" then fw else bw) ps cs ss).map V.int)) → Q (.ref f) H'
end

/-! ### words of directions, one step by a word -/
section
variable {P : Program} {w : World} {K : PySem.W.Frag} {mg : Str → Option Value} {base : Heap}
/-- the word of a direction -/
def offW (b : Bool) : Str := if b then "backward" else "forward"
/-- one step of a move, forward (1) or backward (-1) -/
def sgn (b : Bool) : Int := if b then -1 else 1
def mvW (b : Bool) (ps cs ss : List Int) : List Int := if b then mv bw ps cs ss else mv fw ps cs ss
theorem mvW_get {b : Bool} {ps cs ss : List Int} {i : Nat} {p c s : Int} (h1 : ps[i]? = some p) (h2 : cs[i]? = some c) (h3 : ss[i]? = some s) : (mvW b ps cs ss)[i]? = some ((p + sgn b * c) % s) := by
  cases b with
  | true =>
    show (mv bw ps cs ss)[i]? = _
    rw [mv_get h1 h2 h3]
    show some ((p - c) % s) = some ((p + -1 * c) % s)
    congr 2
    omega
  | false =>
    show (mv fw ps cs ss)[i]? = _
    rw [mv_get h1 h2 h3]
    show some ((p + c) % s) = some ((p + 1 * c) % s)
    congr 2
    omega
theorem mvW_len {b : Bool} {ps cs ss : List Int} (h1 : ps.length = ss.length) (h2 : cs.length = ss.length) : (mvW b ps cs ss).length = ss.length := by
  cases b with
  | true => show (mv bw ps cs ss).length = _; rw [mv_len (by rw [h1, h2]) h2, h1]
  | false => show (mv fw ps cs ss).length = _; rw [mv_len (by rw [h1, h2]) h2, h1]
theorem mv_seatW {g : Int → Int → Int} : ∀ {ps cs ss : List Int}, ps.length = ss.length → cs.length = ss.length → (∀ s ∈ ss, 1 ≤ s) → Seat ss (mv g ps cs ss) := fun {ps cs ss} h1 h2 h3 =>
  ⟨by rw [mv_len (by rw [h1, h2]) h2, h1], fun i p s hp hs => by
    have hi : i < ss.length := (List.getElem?_eq_some_iff.mp hs).1
    rw [mv_get (List.getElem?_eq_getElem (by omega)) (List.getElem?_eq_getElem (by omega)) hs] at hp
    obtain rfl := Option.some.inj hp
    have := h3 s (List.mem_of_getElem? hs)
    exact ⟨Int.emod_nonneg _ (by omega), Int.emod_lt_of_pos _ (by omega)⟩⟩
theorem mvW_seat {b : Bool} {ps cs ss : List Int} (h1 : ps.length = ss.length) (h2 : cs.length = ss.length) (h3 : ∀ s ∈ ss, 1 ≤ s) : Seat ss (mvW b ps cs ss) := by
  cases b with
  | true => exact mv_seatW h1 h2 h3
  | false => exact mv_seatW h1 h2 h3
theorem offW_or (b : Bool) : offW b = "forward" ∨ offW b = "backward" := by cases b <;> simp [offW]
theorem step_off (b : Bool) (ps cs ss : List Int) : mv (if offW b = "forward" then fw else bw) ps cs ss = mvW b ps cs ss := by
  cases b with
  | true =>
    have e : ¬ (offW true = ("forward" : Str)) := by decide +kernel
    rw [if_neg e]
    rfl
  | false =>
    have e : offW false = ("forward" : Str) := rfl
    rw [if_pos e]
    rfl
theorem offW_dir {K : PySem.W.Frag} {H : Hp} (b : Bool) : DirB K H (.str (offW b)) true := .inr ⟨offW b, rfl, by cases b <;> decide +kernel⟩
end

/-- lists of ints at the addresses as -/
def AsL (H : Hp) (as : List Addr) (rows : List (List Int)) : Prop := as.length = rows.length ∧ ∀ (i : Nat) t r, as[i]? = some t → rows[i]? = some r → H t = some (.lst (r.map V.int))
theorem AsL.same {H H' : Hp} {as : List Addr} {rows : List (List Int)} (e : Same H H') (h : AsL H as rows) : AsL H' as rows := ⟨h.1, fun i t r h1 h2 => e _ _ (h.2 i t r h1 h2)⟩
theorem AsL.nil {H : Hp} : AsL H [] [] := ⟨rfl, fun i t r h _ => by simp at h⟩
theorem AsL.snoc {H : Hp} {as : List Addr} {rows : List (List Int)} {t : Addr} {r : List Int} (h : AsL H as rows) (ht : H t = some (.lst (r.map V.int))) : AsL H (as ++ [t]) (rows ++ [r]) := by
  refine ⟨by rw [List.length_append, List.length_append, h.1]; rfl, fun i u g h1 h2 => ?_⟩
  by_cases hlt : i < as.length
  · rw [List.getElem?_append_left hlt] at h1
    rw [List.getElem?_append_left (by rw [← h.1]; exact hlt)] at h2
    exact h.2 i u g h1 h2
  · rw [List.getElem?_append_right (by omega)] at h1
    rw [List.getElem?_append_right (by rw [← h.1]; omega), ← h.1] at h2
    cases hk : i - as.length with
    | zero =>
      rw [hk] at h1 h2
      simp only [List.getElem?_cons_zero, Option.some.injEq] at h1 h2
      rw [← h1, ← h2]; exact ht
    | succ m => rw [hk] at h1; simp at h1
theorem AsL.put {H : Hp} {as : List Addr} {rows : List (List Int)} {D : Addr} {o : HO} (h : AsL H as rows) (hd : ∀ t ∈ as, t ≠ D) : AsL (upd H D o) as rows :=
  ⟨h.1, fun i t r h1 h2 => by rw [upd_ne (hd t (List.mem_of_getElem? h1))]; exact h.2 i t r h1 h2⟩
theorem row_ne {H : Hp} {t D : Addr} {r : List Int} {bs : List Addr} (h1 : H t = some (.lst (r.map V.int))) (h2 : H D = some (.lst (bs.map V.ref))) (h : r ≠ []) : t ≠ D := fun e => by
  rw [e, h2] at h1
  have h3 : bs.map V.ref = r.map V.int := by
    have := Option.some.inj h1
    injection this
  cases r with
  | nil => exact h rfl
  | cons x r => cases bs <;> simp at h3
theorem AsL.ne {H : Hp} {as : List Addr} {rows : List (List Int)} {D : Addr} {bs : List Addr} (h : AsL H as rows) (hD : H D = some (.lst (bs.map V.ref))) (hr : ∀ r ∈ rows, r ≠ []) : ∀ t ∈ as, t ≠ D := fun t ht => by
  obtain ⟨i, hi, e⟩ := List.getElem_of_mem ht
  have hi2 : i < rows.length := by rw [← h.1]; exact hi
  exact row_ne (h.2 i t rows[i] (by rw [List.getElem?_eq_getElem hi, e]) (List.getElem?_eq_getElem hi2)) hD (hr _ (List.getElem_mem hi2))
/-- a list of lists of ints, at a -/
def LstL (H : Hp) (a : Addr) (rows : List (List Int)) : Prop := ∃ as : List Addr, H a = some (.lst (as.map V.ref)) ∧ AsL H as rows
theorem LstL.same {H H' : Hp} {a : Addr} {rows : List (List Int)} (e : Same H H') (h : LstL H a rows) : LstL H' a rows := by
  obtain ⟨as, h1, h2⟩ := h
  exact ⟨as, e _ _ h1, h2.same e⟩

/-! ### targets -/
/-- targets gs at tg -/
def TgtAt (k : Bool) (H : Hp) (tg : Addr) (gs : List (List Int)) : Prop := ∃ as : List Addr, Sqh k H tg (as.map V.ref) ∧ AsT H as gs
theorem TgtAt.same {k : Bool} {H H' : Hp} {tg : Addr} {gs : List (List Int)} (e : Same H H') (h : TgtAt k H tg gs) : TgtAt k H' tg gs := by
  obtain ⟨as, h1, h2⟩ := h
  exact ⟨as, h1.same e, h2.same e⟩
theorem ix_seq {k : Bool} {H : Hp} {p : Addr} {xs : List V} {i : Int} {v : V} {R : V → Prop} (h : Sqh k H p xs) (hv : atI xs i = some v) (q : R v) :
    (∃ xs, H p = some (HO.lst xs) ∧ ∃ v, atI xs i = some v ∧ R v) ∨ ∃ xs, H p = some (HO.tup xs) ∧ ∃ v, atI xs i = some v ∧ R v := by
  cases k with
  | true => exact .inl ⟨xs, h, v, hv, q⟩
  | false => exact .inr ⟨xs, h, v, hv, q⟩
/-- valid targets -/
structure Tgts (ss : List Int) (gs : List (List Int)) : Prop where
  ne : gs ≠ []
  nd : gs.Nodup
  few : gs.length < 60
  ok : ∀ g ∈ gs, Seat ss g

/-! ### reach -/
section
variable {P : Program} {w : World} {K : PySem.W.Frag} {mg : Str → Option Value} {base : Heap}
theorem isI_own {C a dx : Addr} {fs : List (Str × V)} {H : Hp} (c : C8.InsC K C) (ha : H a = some (.ins C dx fs)) : IsI K H (.ref a) (.ref C) true := ⟨_, _, .own C, .base (.ins ha c.cl c.ha c.hn c.htk c.hm), c.me⟩
def sp_sizes_of (K : PySem.W.Frag) (C : Addr) : Sp := fun vs H Q _ => ∃ (a : Addr) (ss : List Int), vs = [.ref a] ∧ TabAt C H a ss ∧ ∀ t, H t = some (.tup (ss.map V.int)) → Q (.ref t) H
theorem ok_sizes_of (T : Tx K mg) : FnOk P w K mg base CX0 2 T.f_sizes_of T.fd_sizes_of ["table"] (sp_sizes_of K T.c_Table) := by
  refine T.F_sizes_of.ok sc_sizes_of (fun vs H Q E h => ?_) (fun cdv A outer s H vs Q E hr h => ?_)
  · obtain ⟨a, ss, rfl, _⟩ := h; rfl
  · obtain ⟨a, ss, rfl, hT, q⟩ := h
    refine ⟨_, (pss_cons (ps_if (pt_not (pt_val (pe_callB (call_isIK (K := K) rfl) (by rfl) T.n_isinstance (by decide +kernel) (pa_cons (pv 0) (pa_cons (pe_glob (v := .ref T.c_Table) (by rfl) T.g_Table rfl) pa_nil))))) (pss_one ps_never) pss_nil)
      (pss_one (ps_ret (pe_meth0 (pv 0) T.cl_Table T.m_Table_sizes (ok_Table_sizes T) (hr.mono (by decide)) T.b_Table_sizes .nil pass0)))), ?_⟩
    obtain ⟨dx, t, h1, h2⟩ := id hT
    walk_at "rd"
    refine ⟨true, isI_own T.ins_Table h1, ?_⟩
    rw [if_neg (by decide)]
    have e : (("sizes" : Str) == ("_sizes" : Str)) = false := by decide +kernel
    exact ⟨_, _, h1, by simp [List.lookup, e], a, ss, rfl, hT, q⟩
def dot : List Int → List Int → Int
  | x :: xs, y :: ys => x * y + dot xs ys
  | _, _ => 0
theorem dot_sum : ∀ xs ys : List Int, (List.zipWith (· * ·) xs ys).sum = dot xs ys
  | [], _ => by simp [dot]
  | _ :: _, [] => by simp [dot]
  | x :: xs, y :: ys => by
    rw [List.zipWith_cons_cons, List.sum_cons, dot_sum xs ys]
    rfl
theorem zw_get {g : Int → Int → Int} {xs ys : List Int} {i : Nat} {x y : Int} (hx : xs[i]? = some x) (hy : ys[i]? = some y) : (List.zipWith g xs ys)[i]? = some (g x y) := by
  rw [List.getElem?_zipWith, hx, hy]
/-- [g(x, y) for x, y in zip(xs, ys)] -/
theorem lcr_two {J : It} {xs ys : List Int} {G : Hp → Prop} {Q : VK} {te : TE} {σ : L2.St} {H : Hp} {p q : Nat} {g : TG} (hlen : xs.length = ys.length) (hs : xs.length ≤ 64) (φ : Int → Int → Int)
    (W : Walk J (xs.map V.int).length G (YPair (fun i => (xs.map V.int)[i]?) fun i => (ys.map V.int)[i]?)) (hG : ∀ H3, Same H H3 → G H3)
    (hg : ∀ (T0 : Addr) (x y : Int) (H3 : Hp) (R : L2.St → Hp → Prop), H3 T0 = some (.tup [V.int x, V.int y]) → R ((σ.set p (some (V.int x))).set q (some (V.int y))) H3 → g (.ref T0) (wipe σ [p, q]) H3 R)
    (hw : ∀ (x y : Option V), wipe ((σ.set p x).set q y) [p, q] = wipe σ [p, q])
    (hte : ∀ (i : Nat) (x y : Int) (Qy : VK) H3, xs[i]? = some x → ys[i]? = some y → Qy (.int (φ x y)) H3 → te ((σ.set p (some (V.int x))).set q (some (V.int y))) H3 Qy)
    (hq : ∀ D H3, H D = none → Same H H3 → H3 D = some (.lst ((List.zipWith φ xs ys).map V.int)) → Q (.ref D) H3) : LcR J g tYes te [p, q] σ H Q := by
  refine lcr_map W ((List.zipWith φ xs ys).map V.int) (by simp [hlen]) (by rw [List.length_map]; exact Nat.le_trans hs (by decide)) hG (fun _ _ _ _ y => YPair.same y) ?_ hq
  intro i x H3 H4 y Qy hi s3 hy hr hq
  obtain ⟨T0, x1, y1, rfl, hT, rfl, e1, e2⟩ := hy
  simp only [List.getElem?_map, Option.map_eq_some_iff] at hr e1 e2
  obtain ⟨x2, hx2, rfl⟩ := e1
  obtain ⟨y2, hy2, rfl⟩ := e2
  rw [zw_get hx2 hy2] at hr
  obtain ⟨r, hr, rfl⟩ := hr
  obtain rfl := Option.some.inj hr
  exact hg T0 x2 y2 _ _ upd_same ⟨hw _ _, hte i x2 y2 Qy _ hx2 hy2 (hq _ (Same.refl _))⟩
def sp_weighted_sum (K : PySem.W.Frag) : Sp := fun vs H Q _ => ∃ (k1 k2 : Bool) (a b : Addr) (xs ys : List Int), vs = [.ref a, .ref b] ∧ Sqh k1 H a (xs.map V.int) ∧ Sqh k2 H b (ys.map V.int) ∧ xs.length = ys.length ∧ xs.length ≤ 64 ∧
  (∀ (i : Nat) x y, xs[i]? = some x → ys[i]? = some y → CMulA x y) ∧ ∀ H', Same H H' → Q (.int (dot xs ys)) H'
theorem ok_weighted_sum (T : Tx K mg) : FnOk P w K mg base CX0 1 T.f_weighted_sum T.fd_weighted_sum ["weights", "vector"] (sp_weighted_sum K) := by
  refine T.F_weighted_sum.ok sc_weighted_sum (fun vs H Q E h => ?_) (fun cdv A outer s H vs Q E hr h => ?_)
  · obtain ⟨k1, k2, a, b, xs, ys, rfl, _⟩ := h; rfl
  · obtain ⟨k1, k2, a, b, xs, ys, rfl, hx, hy, hl, h64, hm, q⟩ := h
    refine ⟨_, (pss_one (ps_ret (pe_callB (cr_sum rfl) (by rfl) T.n_sum (by decide +kernel) (pa_cons (pe_lc (own := [("weight", 2), ("part", 3)]) (g := (gTupH 2 (gCons (gName 2) (gCons (gName 3) gNil)))) (tt := tYes) rfl sc_weighted_sum.nd (pi_z2H (by rfl) T.n_zip (pa_cons (pv 0) (pa_cons (pv 1) pa_nil))) (blkOk_by (own := [("weight", 2), ("part", 3)]) (N := N_weighted_sum) (sc := defScope d_weighted_sum) (by decide +kernel)) (fun _ _ _ _ _ => (pg_tupH (n := 2) rfl (pgs_cons (pg_name (i := 2) sc_weighted_sum.nd rfl (Or.inl rfl)) (pgs_cons (pg_name (i := 3) sc_weighted_sum.nd rfl (Or.inl rfl)) pgs_nil)))) (fun _ _ _ _ _ => pts_nil) (fun _ _ _ _ _ => (pe_op op_mulA (pv 2) (pv 3)))) pa_nil)))), ?_⟩
    walk_at "rd"
    refine ⟨k1, k2, xs.map V.int, hx, ys.map V.int, hy, by rw [List.length_map, List.length_map, hl], fun J W => ?_⟩
    refine lcr_two (p := 2) (q := 3) hl h64 (fun x y => x * y) W (fun H3 s3 => ⟨hx.same s3, hy.same s3⟩) (fun T0 x y H3 R hT hR => ?_) (fun x y => rfl) (fun i x y Qy H3 h1 h2 hq => ?_) fun D H3 hD s3 h3 => ?_
    · walk_at "rh"
      exact hR
    · walk_at "rd"
      exact ⟨hm i x y h1 h2, hq⟩
    · refine ⟨D, List.zipWith (fun x y => x * y) xs ys, rfl, .inl (.inl h3), ?_⟩
      rw [show (List.zipWith (fun x y => x * y) xs ys).sum = dot xs ys from dot_sum xs ys]
      exact q _ s3
def sub2 (xs ys : List Int) : List Int := List.zipWith (fun x y => x - y) xs ys
def mod2 (xs ys : List Int) : List Int := List.zipWith (fun x y => x % y) xs ys
def sp_difference (K : PySem.W.Frag) : Sp := fun vs H Q _ => ∃ (k1 k2 : Bool) (a b : Addr) (xs ys : List Int), vs = [.ref a, .ref b] ∧ Sqh k1 H a (xs.map V.int) ∧ Sqh k2 H b (ys.map V.int) ∧ xs.length = ys.length ∧ xs.length ≤ 64 ∧
  ∀ H' l, Same H H' → H l = none → H' l = some (.lst ((sub2 xs ys).map V.int)) → Q (.ref l) H'
def sp_reduced (K : PySem.W.Frag) : Sp := fun vs H Q _ => ∃ (k1 k2 : Bool) (a b : Addr) (xs ys : List Int), vs = [.ref a, .ref b] ∧ Sqh k1 H a (xs.map V.int) ∧ Sqh k2 H b (ys.map V.int) ∧ xs.length = ys.length ∧ xs.length ≤ 64 ∧ (∀ y ∈ ys, 0 < y) ∧
  ∀ H' l, Same H H' → H l = none → H' l = some (.lst ((mod2 xs ys).map V.int)) → Q (.ref l) H'
def lowN (n : Nat) : Nat := n - (n &&& (n - 1))
theorem low_even {q : Nat} (h : 0 < q) : lowN (2 * q) = 2 * lowN q := by
  unfold lowN
  have e : (2 * q) &&& (2 * q - 1) = 2 * (q &&& (q - 1)) := by
    have h1 : ((2 * q) &&& (2 * q - 1)) / 2 = q &&& (q - 1) := by
      rw [Nat.and_div_two, show 2 * q / 2 = q by omega, show (2 * q - 1) / 2 = q - 1 by omega]
    have h2 : ((2 * q) &&& (2 * q - 1)) % 2 = 0 := by
      have h3 := Nat.and_mod_two_pow (a := 2 * q) (b := 2 * q - 1) (n := 1)
      rw [Nat.pow_one, show (2 * q) % 2 = 0 by omega, Nat.zero_and] at h3
      exact h3
    omega
  have h4 : q &&& (q - 1) ≤ q := Nat.and_le_left
  rw [e]
  omega
theorem low_odd (q : Nat) : lowN (2 * q + 1) = 1 := by
  unfold lowN
  have e : (2 * q + 1) &&& (2 * q + 1 - 1) = 2 * q := by
    have h1 : ((2 * q + 1) &&& (2 * q + 1 - 1)) / 2 = q := by
      rw [Nat.and_div_two, show (2 * q + 1) / 2 = q by omega, show (2 * q + 1 - 1) / 2 = q by omega, Nat.and_self]
    have h2 : ((2 * q + 1) &&& (2 * q + 1 - 1)) % 2 = 0 := by
      have h3 := Nat.and_mod_two_pow (a := 2 * q + 1) (b := 2 * q + 1 - 1) (n := 1)
      rw [Nat.pow_one, show (2 * q + 1 - 1) % 2 = 0 by omega, Nat.and_zero] at h3
      exact h3
    omega
  omega
def oddN (n : Nat) : Nat := n / lowN n
theorem odd_even {q : Nat} (h : 0 < q) : oddN (2 * q) = oddN q := by
  unfold oddN
  rw [low_even h, Nat.mul_div_mul_left _ _ (by decide)]
theorem odd_odd (q : Nat) : oddN (2 * q + 1) = 2 * q + 1 := by
  unfold oddN
  rw [low_odd, Nat.div_one]
/-- a size is its odd part times a power of 2 -/
theorem odd_split : ∀ n : Nat, 0 < n → ∃ k, n = oddN n * 2 ^ k ∧ oddN n % 2 = 1 := by
  intro n
  induction n using Nat.strongRecOn with
  | ind n ih =>
    intro h
    by_cases h2 : n % 2 = 0
    · obtain ⟨q, rfl⟩ : ∃ q, n = 2 * q := ⟨n / 2, by omega⟩
      obtain ⟨k, e1, e2⟩ := ih q (by omega) (by omega)
      rw [odd_even (by omega)]
      exact ⟨k + 1, by rw [Nat.pow_succ, ← Nat.mul_assoc, ← e1]; omega, e2⟩
    · obtain ⟨q, rfl⟩ : ∃ q, n = 2 * q + 1 := ⟨n / 2, by omega⟩
      rw [odd_odd]
      exact ⟨0, by simp, by omega⟩
theorem odd_pos {n : Nat} (h : 0 < n) : 0 < oddN n := by
  obtain ⟨k, _, e⟩ := odd_split n h
  omega
theorem low_pos {n : Nat} (h : 0 < n) : 0 < lowN n := by
  have h1 := odd_pos h
  unfold oddN at h1
  by_cases e : lowN n = 0
  · rw [e] at h1; simp at h1
  · omega
theorem and_neg {n : Nat} (h : 0 < n) : Builtin.bitAnd (n : Int) (-(n : Int)) = (lowN n : Nat) := by
  rw [bitAnd_pn (by omega) (by omega)]
  have e : (Builtin.bitNot (-(n : Int))).toNat = n - 1 := by
    unfold Builtin.bitNot
    omega
  rw [e, Int.toNat_natCast]
  unfold lowN
  have h4 : n &&& (n - 1) ≤ n := Nat.and_le_left
  omega
def oddI (s : Int) : Int := (oddN s.toNat : Nat)
def sp_odd_part (K : PySem.W.Frag) : Sp := fun vs H Q _ => ∃ s : Int, vs = [.int s] ∧ 1 ≤ s ∧ s.natAbs < 2 ^ 6000 ∧ Q (.int (oddI s)) H
theorem ixN_in {n i : Nat} (h : i < n) : ixN n (i : Int) = some i := by
  unfold ixN
  simp [h]
def rowI (es : List Int) (i : Nat) : List Int := (List.replicate es.length (0 : Int)).set i (es.getD i 0)
def diagI (es : List Int) : List (List Int) := (List.range es.length).map (rowI es)
theorem flat0 (k : Nat) : (List.replicate k [V.int 0]).flatten = (List.replicate k (0 : Int)).map V.int := by
  induction k with
  | zero => rfl
  | succ k ih => rw [List.replicate_succ, List.flatten_cons, ih, List.replicate_succ]; rfl
theorem diag_take {es : List Int} {i : Nat} (h : i < es.length) : (diagI es).take (i + 1) = (diagI es).take i ++ [rowI es i] := by
  have e : (diagI es)[i]? = some (rowI es i) := by
    unfold diagI
    rw [List.getElem?_map, List.getElem?_range h]
    rfl
  rw [List.take_add_one, e]
  rfl
def MD1 (l : Addr) (H : Hp) (σ : L2.St) (H' : Hp) : Prop := ∃ D, σ = [some (V.ref l), some (V.ref D), none, none, none] ∧ Same H H' ∧ H D = none ∧ H' D = some (.lst [])
def MD2 (l D : Addr) (es : List Int) (H : Hp) (σ : L2.St) (H' : Hp) : Prop := ∃ v2 v3 v4, σ = [some (V.ref l), some (V.ref D), v2, v3, v4] ∧ Same H H' ∧ LstL H' D (diagI es)
def MD3 (l D : Addr) (i : Nat) (e : Int) (es : List Int) (H : Hp) (σ : L2.St) (H' : Hp) : Prop := ∃ r, σ = [some (V.ref l), some (V.ref D), some (V.int (i : Nat)), some (V.int e), some (V.ref r)] ∧ Same H H' ∧ H r = none ∧ H' r = some (.lst ((List.replicate es.length (0 : Int)).map V.int))
def MD4 (l D r : Addr) (i : Nat) (e : Int) (es : List Int) (H : Hp) (σ : L2.St) (H' : Hp) : Prop := σ = [some (V.ref l), some (V.ref D), some (V.int (i : Nat)), some (V.int e), some (V.ref r)] ∧ Same H H' ∧ H' r = some (.lst ((rowI es i).map V.int))
def sp_diagonal (K : PySem.W.Frag) : Sp := fun vs H Q _ => ∃ (l : Addr) (es : List Int), vs = [.ref l] ∧ H l = some (.lst (es.map V.int)) ∧ es.length ≤ 64 ∧ ∀ H' D, Same H H' → H D = none → LstL H' D (diagI es) → Q (.ref D) H'
end

/-! ### odd parts -/
theorem cd_of {n : Nat} {z : Int} (h : n ∣ z.natAbs) : ((n : Nat) : Int) ∣ z := Int.natAbs_dvd_natAbs.mp (by rw [Int.natAbs_natCast]; exact h)
theorem cd_to {n : Nat} {z : Int} (h : ((n : Nat) : Int) ∣ z) : n ∣ z.natAbs := by
  have := Int.natAbs_dvd_natAbs.mpr h
  rwa [Int.natAbs_natCast] at this
theorem oddI_pos {s : Int} (h : 1 ≤ s) : 0 < oddI s := by
  have := odd_pos (n := s.toNat) (by omega)
  unfold oddI
  omega
theorem oddI_split {s : Int} (h : 1 ≤ s) : ∃ k : Nat, s = oddI s * 2 ^ k ∧ oddI s % 2 = 1 := by
  obtain ⟨k, e1, e2⟩ := odd_split s.toNat (by omega)
  refine ⟨k, ?_, by unfold oddI; omega⟩
  have : (s.toNat : Int) = ((oddN s.toNat * 2 ^ k : Nat) : Int) := by rw [← e1]
  rw [Int.natCast_mul, Int.natCast_pow] at this
  unfold oddI
  rw [Int.toNat_of_nonneg (by omega)] at this
  exact this
theorem odd_dvd {e x : Int} {k : Nat} (he : e % 2 = 1) (h : e ∣ x * 2 ^ k) : e ∣ x := by
  have hc : Nat.Coprime e.natAbs (2 ^ k) := by
    refine Nat.Coprime.pow_right k ?_
    have h2 : e.natAbs % 2 = 1 := by omega
    show Nat.gcd e.natAbs 2 = 1
    rw [Nat.gcd_comm, Nat.gcd_rec, h2]
    rfl
  have h1 := Int.natAbs_dvd_natAbs.mpr h
  rw [Int.natAbs_mul, Int.natAbs_pow] at h1
  exact Int.natAbs_dvd_natAbs.mp (hc.dvd_of_dvd_mul_right h1)
theorem dvd_odd {e o : Int} (h : e ∣ o) (ho : o % 2 = 1) : e % 2 = 1 := by
  obtain ⟨c, rfl⟩ := h
  have h12 : e % 2 = 0 ∨ e % 2 = 1 := by omega
  rcases h12 with h | h
  · exfalso
    rw [Int.mul_emod, h] at ho
    simp at ho
  · exact h
theorem oddI_dvd {s : Int} (h : 1 ≤ s) : oddI s ∣ s := by
  obtain ⟨k, e, _⟩ := oddI_split h
  exact ⟨2 ^ k, e⟩

/-- a witness: modulus, weights, residue -/
structure Wit (ss : List Int) (m : Int) (ws : List Int) (r : Int) : Prop where
  len : ws.length = ss.length
  three : 3 ≤ m
  odd : m % 2 = 1
  rng : ∀ x ∈ ws, 0 ≤ x ∧ x < m
  fit : ∀ (i : Nat) x s, ws[i]? = some x → ss[i]? = some s → x * s % m = 0
  res : 0 ≤ r ∧ r < m
theorem emod_eq_iff {m a b : Int} : a % m = b % m ↔ m ∣ a - b := by
  rw [Int.emod_eq_emod_iff_emod_sub_eq_zero, Int.dvd_iff_emod_eq_zero]

/-! ### a weighted sum behind a move -/
theorem dot_fw {m : Int} : ∀ (ws ps cs ss : List Int), ws.length = ss.length → ps.length = ss.length → cs.length = ss.length → (∀ (i : Nat) x s, ws[i]? = some x → ss[i]? = some s → x * s % m = 0) → m ∣ dot ws (mv fw ps cs ss) - (dot ws ps + dot ws cs)
  | [], _, _, _, _, _, _, _ => by simp [dot]
  | x :: ws, p :: ps, c :: cs, s :: ss, h1, h2, h3, hf => by
    have ih := dot_fw ws ps cs ss (by simpa using h1) (by simpa using h2) (by simpa using h3) fun i y t a b => hf (i + 1) y t a b
    have h0 := Int.dvd_of_emod_eq_zero (hf 0 x s rfl rfl)
    show m ∣ x * ((p + c) % s) + dot ws (mv fw ps cs ss) - (x * p + dot ws ps + (x * c + dot ws cs))
    have e1 : (p + c) % s = p + c - s * ((p + c) / s) := by have := Int.emod_add_mul_ediv (p + c) s; omega
    have e2 : x * ((p + c) % s) + dot ws (mv fw ps cs ss) - (x * p + dot ws ps + (x * c + dot ws cs)) = (dot ws (mv fw ps cs ss) - (dot ws ps + dot ws cs)) - x * s * ((p + c) / s) := by
      rw [e1, Int.mul_sub, Int.mul_add, ← Int.mul_assoc]
      omega
    rw [e2]
    exact Int.dvd_sub ih (Int.dvd_mul_of_dvd_left h0)
  | _ :: _, [], _, _ :: _, _, h, _, _ => by simp at h
  | _ :: _, _ :: _, [], _ :: _, _, _, h, _ => by simp at h
  | _ :: _, _, _, [], h, _, _, _ => by simp at h
theorem dot_bw {m : Int} : ∀ (ws ps cs ss : List Int), ws.length = ss.length → ps.length = ss.length → cs.length = ss.length → (∀ (i : Nat) x s, ws[i]? = some x → ss[i]? = some s → x * s % m = 0) → m ∣ dot ws (mv bw ps cs ss) - (dot ws ps - dot ws cs)
  | [], _, _, _, _, _, _, _ => by simp [dot]
  | x :: ws, p :: ps, c :: cs, s :: ss, h1, h2, h3, hf => by
    have ih := dot_bw ws ps cs ss (by simpa using h1) (by simpa using h2) (by simpa using h3) fun i y t a b => hf (i + 1) y t a b
    have h0 := Int.dvd_of_emod_eq_zero (hf 0 x s rfl rfl)
    show m ∣ x * ((p - c) % s) + dot ws (mv bw ps cs ss) - (x * p + dot ws ps - (x * c + dot ws cs))
    have e1 : (p - c) % s = p - c - s * ((p - c) / s) := by have := Int.emod_add_mul_ediv (p - c) s; omega
    have e2 : x * ((p - c) % s) + dot ws (mv bw ps cs ss) - (x * p + dot ws ps - (x * c + dot ws cs)) = (dot ws (mv bw ps cs ss) - (dot ws ps - dot ws cs)) - x * s * ((p - c) / s) := by
      rw [e1, Int.mul_sub, Int.mul_sub, ← Int.mul_assoc]
      omega
    rw [e2]
    exact Int.dvd_sub ih (Int.dvd_mul_of_dvd_left h0)
  | _ :: _, [], _, _ :: _, _, h, _, _ => by simp at h
  | _ :: _, _ :: _, [], _ :: _, _, _, h, _ => by simp at h
  | _ :: _, _, _, [], h, _, _, _ => by simp at h
/-- at most one of both moves has the residue -/
theorem one_off {ss ws ps cs : List Int} {m r : Int} (hw : Wit ss m ws r) (hp : ps.length = ss.length) (hc : cs.length = ss.length) (hne : dot ws ps % m ≠ r) (h1 : dot ws (mv fw ps cs ss) % m = r) (h2 : dot ws (mv bw ps cs ss) % m = r) : False := by
  have d1 := dot_fw ws ps cs ss hw.len hp hc hw.fit
  have d2 := dot_bw ws ps cs ss hw.len hp hc hw.fit
  have e1 : m ∣ dot ws (mv fw ps cs ss) - r := emod_eq_iff.mp (by rw [h1, Int.emod_eq_of_lt hw.res.1 hw.res.2])
  have e2 : m ∣ dot ws (mv bw ps cs ss) - r := emod_eq_iff.mp (by rw [h2, Int.emod_eq_of_lt hw.res.1 hw.res.2])
  have h3 := Int.dvd_add (Int.dvd_sub e1 d1) (Int.dvd_sub e2 d2)
  have e3 : dot ws (mv fw ps cs ss) - r - (dot ws (mv fw ps cs ss) - (dot ws ps + dot ws cs)) + (dot ws (mv bw ps cs ss) - r - (dot ws (mv bw ps cs ss) - (dot ws ps - dot ws cs))) = (dot ws ps - r) * 2 ^ 1 := by omega
  rw [e3] at h3
  have h4 := odd_dvd hw.odd h3
  have h5 := emod_eq_iff.mpr h4
  rw [Int.emod_eq_of_lt hw.res.1 hw.res.2] at h5
  exact hne h5

/-! ### witnesses in the program -/
section
variable {P : Program} {w : World} {K : PySem.W.Frag} {mg : Str → Option Value} {base : Heap}
/-- a witness at sh -/
def ShAt (H : Hp) (sh : Addr) (m : Int) (ws : List Int) (r : Int) : Prop := ∃ u, H sh = some (.tup [.int m, .ref u, .int r]) ∧ H u = some (.tup (ws.map V.int))
theorem ShAt.same {H H' : Hp} {sh : Addr} {m : Int} {ws : List Int} {r : Int} (e : Same H H') (h : ShAt H sh m ws r) : ShAt H' sh m ws r := by
  obtain ⟨u, h1, h2⟩ := h
  exact ⟨u, e _ _ h1, e _ _ h2⟩
theorem mul_seat {ss ws ps : List Int} {m r : Int} (hw : Wit ss m ws r) (z : Sz ss) (hmb : m.natAbs < 2 ^ 8000) (h : Seat ss ps) : ∀ (i : Nat) x y, ws[i]? = some x → ps[i]? = some y → CMulA x y := fun i x y hx hy => by
  have h1 := hw.rng _ (List.mem_of_getElem? hx)
  have hi : i < ss.length := by rw [← hw.len]; exact (List.getElem?_eq_some_iff.mp hx).1
  have h2 := h.ok i y _ hy (List.getElem?_eq_getElem hi)
  have h3 := z.bits _ (List.getElem_mem hi)
  exact .inr (.inr (wide_mul (a := 8000) (b := 1000) (by omega) (by omega) (by decide) (by decide) (by decide)))
theorem Seat.b4 {K : PySem.W.Frag} {H : Hp} {ss ps : List Int} {p : Addr} (h : Seat ss ps) (z : ss.length ≤ 4) (hp : H p = some (.tup (ps.map V.int))) : SeatB K H ss (.ref p) true := by
  refine .inr ⟨p, _, rfl, hp, .inr ⟨by rw [List.length_map]; exact h.len, ?_, List.replicate ps.length true, by simp, by simp, fun i x s c hx hs hc => ?_⟩⟩
  · have hl := h.len
    rw [List.length_map]
    exact Nat.le_trans (by omega : ps.length ≤ 4) (by decide)
  · simp only [List.getElem?_map, Option.map_eq_some_iff] at hx
    obtain ⟨n, hn, rfl⟩ := hx
    have hi : i < ps.length := (List.getElem?_eq_some_iff.mp hn).1
    rw [List.getElem?_replicate, if_pos hi] at hc
    obtain ⟨h1, h2⟩ := h.ok i n s hn hs
    refine .inr ⟨n, rfl, ?_⟩
    rw [decide_eq_true h1, decide_eq_true h2]
    exact (Option.some.inj hc).symm
theorem Wit.seat {ss ws : List Int} {m r : Int} (hw : Wit ss m ws r) : Seat (List.replicate ss.length m) ws := by
  refine ⟨by rw [hw.len]; simp, fun i p s hp hs => ?_⟩
  rw [List.getElem?_replicate] at hs
  split at hs
  · obtain rfl := Option.some.inj hs
    exact hw.rng _ (List.mem_of_getElem? hp)
  · cases hs
def sp_is_modulus (K : PySem.W.Frag) : Sp := fun vs H Q _ => ∃ m : Int, vs = [.int m] ∧ 3 ≤ m ∧ m % 2 = 1 ∧ Q (.bl true) H
theorem ok_is_modulus (T : Tx K mg) : FnOk P w K mg base CX0 2 T.f_is_modulus T.fd_is_modulus ["modulus"] (sp_is_modulus K) := by
  refine T.F_is_modulus.ok sc_is_modulus (fun vs H Q E h => ?_) (fun cdv A outer s H vs Q E hr h => ?_)
  · obtain ⟨m, rfl, _⟩ := h; rfl
  · obtain ⟨m, rfl, h3, h2, q⟩ := h
    refine ⟨_, (pss_one (ps_ret (pe_and (pe_call (ok_is_integer T) (hr.mono (by decide)) (by rfl) T.g_is_integer T.F_is_integer.kp T.b_is_integer .nil pass0 (pa_cons (pv 0) pa_nil)) (pe_and (pe_cmpR op_ge (pv 0) pe_int (nomark _)) (pe_one (pe_cmpR op_eq (pe_op op_mod (pv 0) pe_int) pe_int (nomark _))))))), ?_⟩
    walk_at "rd"
    refine ⟨_, true, rfl, isInt_int m, ?_⟩
    walk_at "rd"
    rw [if_pos h3, decide_eq_true h2]
    exact q
theorem flatm (m : Int) (k : Nat) : (List.replicate k [V.int m]).flatten = (List.replicate k m).map V.int := by
  induction k with
  | zero => rfl
  | succ k ih => rw [List.replicate_succ, List.flatten_cons, ih, List.replicate_succ]; rfl
def sp_are_weights (K : PySem.W.Frag) : Sp := fun vs H Q _ => ∃ (kz : Bool) (z u : Addr) (ss ws : List Int) (m r : Int), vs = [.ref z, .int m, .ref u] ∧ Sqh kz H z (ss.map V.int) ∧ H u = some (.tup (ws.map V.int)) ∧ Wit ss m ws r ∧ Sz ss ∧ m.natAbs < 2 ^ 8000 ∧ ∀ H', Same H H' → Q (.bl true) H'
theorem ok_are_weights (T : Tx K mg) : FnOk P w K mg base CX0 2 T.f_are_weights T.fd_are_weights ["sizes", "modulus", "weights"] (sp_are_weights K) := by
  refine T.F_are_weights.ok sc_are_weights (fun vs H Q E h => ?_) (fun cdv A outer s H vs Q E hr h => ?_)
  · obtain ⟨kz, z, u, ss, ws, m, r, rfl, _⟩ := h; rfl
  · obtain ⟨kz, zz, u, ss, ws, m, r, rfl, hz, hu, hw, z, hmb, q⟩ := h
    refine ⟨_, (pss_cons (ps_if (pt_not (pt_val (pe_call (ok_is_seat T) (hr.mono (by decide)) (by rfl) T.g_is_seat T.F_is_seat.kp T.b_is_seat .nil pass0 (pa_cons (pe_op op_rep (pe_lst (pa_cons (pv 1) pa_nil)) (pe_callB len_H (by rfl) T.n_len PySem.boot_len (pa_cons (pv 0) pa_nil))) (pa_cons (pv 2) pa_nil))))) (pss_one (ps_ret pe_bl)) pss_nil)
      (pss_one (ps_ret (pe_callB (all_H rfl) (by rfl) T.n_all (by decide +kernel) (pa_cons (pe_lc (own := [("weight", 3), ("size", 4)]) (g := (gTupH 2 (gCons (gName 3) (gCons (gName 4) gNil)))) (tt := tYes) rfl sc_are_weights.nd (pi_z2H (by rfl) T.n_zip (pa_cons (pv 2) (pa_cons (pv 0) pa_nil))) (blkOk_by (own := [("weight", 3), ("size", 4)]) (N := N_are_weights) (sc := defScope d_are_weights) (by decide +kernel)) (fun _ _ _ _ _ => (pg_tupH (n := 2) rfl (pgs_cons (pg_name (i := 3) sc_are_weights.nd rfl (Or.inl rfl)) (pgs_cons (pg_name (i := 4) sc_are_weights.nd rfl (Or.inl rfl)) pgs_nil)))) (fun _ _ _ _ _ => pts_nil) (fun _ _ _ _ _ => (pe_cmpR op_eq (pe_op op_mod (pe_op op_mulA (pv 3) (pv 4)) (pv 1)) pe_int (nomark _)))) pa_nil))))), ?_⟩
    walk_at "rd"
    intro p hp
    have sp := Same.new hp (o := .lst [V.int m])
    have fp : (upd H p (.lst [V.int m])) p = some (.lst [V.int m]) := upd_same
    have key : rRep (V.ref p) (V.int ((ss.map V.int).length : Nat)) (upd H p (.lst [V.int m])) fun x H1 =>
              sp_is_seat K [x, V.ref u] H1
                (fun x H1 =>
                  ∃ c,
                    x = V.bl c ∧
                      if c = false then Q (V.bl false) H1
                      else
                        ∃ k1 k2 xs,
                          Sqh k1 H1 u xs ∧
                            ∃ x,
                              Sqh k2 H1 zz x ∧
                                xs.length = x.length ∧
                                  ∀ (J : It),
                                    Walk J xs.length (fun H => Sqh k1 H u xs ∧ Sqh k2 H zz x)
                                        (YPair (fun i => xs[i]?) fun i => x[i]?) →
                                      LcR J (gTupH 2 (gCons (gName 3) (gCons (gName 4) gNil))) tYes
                                        (tOp rEq
                                          (tOp (rI (fun x j => 0 < j) fun i j => V.int (i % j))
                                            (tOp (rI CMulA fun i j => V.int (i * j)) (tVar 3) (tVar 4)) (tVar 1))
                                          (tC (V.int 0)))
                                        [3, 4] [some (V.ref zz), some (V.int m), some (V.ref u), none, none] H1
                                        fun x H1 =>
                                        ∃ p,
                                          x = V.ref p ∧
                                            ∃ bs, H1 p = some (HO.lst (List.map V.bl bs)) ∧ Q (V.bl (bs.all id)) H1)
                E0 := by
      have h4 := z.hi
      refine ⟨p, ss.length, [V.int m], rfl, by rw [List.length_map], fp, by omega, by omega, ?_, fun r' hr' => ?_⟩
      · rw [Int.toNat_natCast]
        exact Nat.le_trans (by have := z.hi; simp; omega : [V.int m].length * ss.length ≤ 4) (by decide)
      rw [Int.toNat_natCast, flatm]
      have sr := Same.new hr' (o := .lst ((List.replicate ss.length m).map V.int))
      have s2 := sp.trans sr
      refine ⟨true, r', List.replicate ss.length m, .ref u, true, rfl, upd_same, hw.seat.b4 (by simpa using z.hi) (s2 _ _ hu), fun H3 s3 => ⟨true, rfl, ?_⟩⟩
      rw [if_neg (by decide)]
      have s03 := s2.trans s3
      refine ⟨false, kz, _, s03 _ _ hu, _, hz.same s03, by rw [List.length_map, List.length_map, hw.len], fun J W => ?_⟩
      have hm0 : 0 < m := by have := hw.three; omega
      refine lcr_map W ((List.replicate ws.length true).map V.bl) (by simp) (by rw [List.length_map, hw.len]; exact Nat.le_trans z.hi (by decide)) (fun H4 s4 => ⟨s4 _ _ (s03 _ _ hu), (hz.same s03).same s4⟩) (fun _ _ _ _ y => YPair.same y) ?_ ?_
      · rintro i x H4 H5 y Qy hi s4 ⟨T0, x1, y1, rfl, hT, rfl, e1, e2⟩ hr hq
        simp only [List.getElem?_map, Option.map_eq_some_iff] at e1 e2 hr
        obtain ⟨x2, hx2, rfl⟩ := e1
        obtain ⟨y2, hy2, rfl⟩ := e2
        obtain ⟨c, hc, rfl⟩ := hr
        rw [List.getElem?_replicate] at hc
        split at hc
        · obtain rfl := Option.some.inj hc
          have h3 := hw.rng _ (List.mem_of_getElem? hx2)
          walk_at "rd"
          refine ⟨.inr (.inr (wide_mul (a := 8000) (b := 1000) (by omega) (z.bits _ (List.mem_of_getElem? hy2)) (by decide) (by decide) (by decide))), hm0, ?_⟩
          rw [decide_eq_true (hw.fit i _ _ hx2 hy2)]
          exact hq _ (Same.refl _)
        · cases hc
      · intro D H4 hD s4 h4
        refine ⟨D, rfl, _, h4, ?_⟩
        rw [show (List.replicate ws.length true).all id = true by simp]
        exact q _ (s03.trans s4)
    cases kz with
    | true => exact .inl ⟨_, sp _ _ hz, key⟩
    | false => exact .inr ⟨_, sp _ _ hz, key⟩
def sp_is_witness (K : PySem.W.Frag) : Sp := fun vs H Q _ => ∃ (kz : Bool) (z sh : Addr) (ss ws : List Int) (m r : Int), vs = [.ref z, .ref sh] ∧ Sqh kz H z (ss.map V.int) ∧ ShAt H sh m ws r ∧ Wit ss m ws r ∧ Sz ss ∧ m.natAbs < 2 ^ 8000 ∧ ∀ H', Same H H' → Q (.bl true) H'
theorem ok_is_witness (T : Tx K mg) : FnOk P w K mg base CX0 3 T.f_is_witness T.fd_is_witness ["sizes", "witness"] (sp_is_witness K) := by
  refine T.F_is_witness.ok sc_is_witness (fun vs H Q E h => ?_) (fun cdv A outer s H vs Q E hr h => ?_)
  · obtain ⟨kz, z, sh, ss, ws, m, r, rfl, _⟩ := h; rfl
  · obtain ⟨kz, zz, sh, ss, ws, m, r, rfl, hz, hsh, hw, z, hmb, q⟩ := h
    refine ⟨_, (pss_cons (ps_if (PW.pt (pw_or (pt_not (pt_val (pe_callB (call_isIK (K := K) rfl) (by rfl) T.n_isinstance (by decide +kernel) (pa_cons (pv 1) (pa_cons (pe_bltn (v := .ty "tuple") (by rfl) T.n_tuple (by decide +kernel) rfl) pa_nil))))) (pw_or1 (pt_cmpR op_ne (pe_callB len_H (by rfl) T.n_len PySem.boot_len (pa_cons (pv 1) pa_nil)) pe_int (nomark _))))) (pss_one (ps_ret pe_bl)) pss_nil)
      (pss_cons (ps_asg (pv 1) (pg_tupH (n := 3) rfl (pgs_cons (pg_name (i := 2) sc_is_witness.nd rfl (Or.inl rfl)) (pgs_cons (pg_name (i := 3) sc_is_witness.nd rfl (Or.inl rfl)) (pgs_cons (pg_name (i := 4) sc_is_witness.nd rfl (Or.inl rfl)) pgs_nil)))))
      (pss_cons (ps_if (PW.pt (pw_or (pt_not (pt_val (pe_call (ok_is_modulus T) (hr.mono (by decide)) (by rfl) T.g_is_modulus T.F_is_modulus.kp T.b_is_modulus .nil pass0 (pa_cons (pv 2) pa_nil)))) (pw_or1 (pt_not (pt_val (pe_call (ok_are_weights T) (hr.mono (by decide)) (by rfl) T.g_are_weights T.F_are_weights.kp T.b_are_weights .nil pass0 (pa_cons (pv 0) (pa_cons (pv 2) (pa_cons (pv 3) pa_nil))))))))) (pss_one (ps_ret pe_bl)) pss_nil)
      (pss_one (ps_ret (pe_call (ok_is_place T) (hr.mono (by decide)) (by rfl) T.g_is_place T.F_is_place.kp T.b_is_place .nil pass0 (pa_cons (pv 2) (pa_cons (pv 4) pa_nil)))))))), ?_⟩
    obtain ⟨u, h1, h2⟩ := id hsh
    walk_at "rd"
    refine ⟨true, isI_tup h1, ?_⟩
    rw [if_neg (by decide)]
    refine .inr ⟨_, h1, ?_⟩
    rw [if_neg (fun h => h rfl)]
    refine ⟨_, h1, rfl, _, _, rfl, _, _, rfl, _, _, rfl, rfl, m, rfl, hw.three, hw.odd, true, rfl, ?_⟩
    rw [if_neg (by decide)]
    refine ⟨kz, zz, u, ss, ws, m, r, rfl, hz, h2, hw, z, hmb, fun H1 s1 => ⟨true, rfl, ?_⟩⟩
    rw [if_neg (by decide)]
    refine ⟨m, .int r, true, rfl, .inr ⟨r, rfl, ?_⟩, q _ s1⟩
    rw [decide_eq_true hw.res.1, decide_eq_true hw.res.2]
    rfl
def sp_require_witness (K : PySem.W.Frag) : Sp := fun vs H Q _ => ∃ (kz : Bool) (z sh : Addr) (ss ws : List Int) (m r : Int), vs = [.ref z, .ref sh] ∧ Sqh kz H z (ss.map V.int) ∧ ShAt H sh m ws r ∧ Wit ss m ws r ∧ Sz ss ∧ m.natAbs < 2 ^ 8000 ∧ ∀ H', Same H H' → Q .non H'
theorem ok_require_witness (T : Tx K mg) : FnOk P w K mg base CX0 4 T.f_require_witness T.fd_require_witness ["sizes", "witness"] (sp_require_witness K) := by
  refine T.F_require_witness.ok sc_require_witness (fun vs H Q E h => ?_) (fun cdv A outer s H vs Q E hr h => ?_)
  · obtain ⟨kz, z, sh, ss, ws, m, r, rfl, _⟩ := h; rfl
  · obtain ⟨kz, zz, sh, ss, ws, m, r, rfl, hz, hsh, hw, z, hmb, q⟩ := h
    refine ⟨_, (pss_one (ps_if (pt_not (pt_val (pe_call (ok_is_witness T) (hr.mono (by decide)) (by rfl) T.g_is_witness T.F_is_witness.kp T.b_is_witness .nil pass0 (pa_cons (pv 0) (pa_cons (pv 1) pa_nil))))) (pss_one ps_never) pss_nil)), ?_⟩
    walk_at "rd"
    refine ⟨kz, zz, sh, ss, ws, m, r, rfl, hz, hsh, hw, z, hmb, fun H1 s1 => ⟨true, rfl, ?_⟩⟩
    rw [if_neg (by decide)]
    exact q _ s1
def sp_has_residue (K : PySem.W.Frag) : Sp := fun vs H Q _ => ∃ (sh p : Addr) (ps ws : List Int) (m r : Int), vs = [.ref sh, .ref p] ∧ ShAt H sh m ws r ∧ H p = some (.tup (ps.map V.int)) ∧ ws.length = ps.length ∧ ws.length ≤ 64 ∧ 0 < m ∧ (∀ (i : Nat) x y, ws[i]? = some x → ps[i]? = some y → CMulA x y) ∧
  ∀ H', Same H H' → Q (.bl (decide (dot ws ps % m = r))) H'
theorem ok_has_residue (T : Tx K mg) : FnOk P w K mg base CX0 2 T.f_has_residue T.fd_has_residue ["witness", "seat"] (sp_has_residue K) := by
  refine T.F_has_residue.ok sc_has_residue (fun vs H Q E h => ?_) (fun cdv A outer s H vs Q E hr h => ?_)
  · obtain ⟨sh, p, ps, ws, m, r, rfl, _⟩ := h; rfl
  · obtain ⟨sh, p, ps, ws, m, r, rfl, ⟨u, h1, h2⟩, hp, hl, h64, hm, hmul, q⟩ := h
    refine ⟨_, (pss_cons (ps_asg (pv 0) (pg_tupH (n := 3) rfl (pgs_cons (pg_name (i := 2) sc_has_residue.nd rfl (Or.inl rfl)) (pgs_cons (pg_name (i := 3) sc_has_residue.nd rfl (Or.inl rfl)) (pgs_cons (pg_name (i := 4) sc_has_residue.nd rfl (Or.inl rfl)) pgs_nil)))))
      (pss_one (ps_ret (pe_cmpR op_eq (pe_op op_mod (pe_call (ok_weighted_sum T) (hr.mono (by decide)) (by rfl) T.g_weighted_sum T.F_weighted_sum.kp T.b_weighted_sum .nil pass0 (pa_cons (pv 3) (pa_cons (pv 1) pa_nil))) (pv 2)) (pv 4) (nomark _))))), ?_⟩
    walk_at "rd"
    refine ⟨_, h1, rfl, ?_⟩
    walk_at "rd"
    refine ⟨false, false, u, p, ws, ps, rfl, h2, hp, hl, h64, hmul, fun H1 s1 => ⟨_, rfl, hm, q _ s1⟩⟩
end

section
variable {P : Program} {w : World} {K : PySem.W.Frag} {mg : Str → Option Value} {base : Heap}
theorem or_seq {k : Bool} {H : Hp} {p : Addr} {xs : List V} {R : List V → Prop} (h : Sqh k H p xs) (r : R xs) : (∃ xs, H p = some (HO.lst xs) ∧ R xs) ∨ ∃ xs, H p = some (HO.tup xs) ∧ R xs := by
  cases k with
  | true => exact .inl ⟨xs, h, r⟩
  | false => exact .inr ⟨xs, h, r⟩
def sp_require_seats (K : PySem.W.Frag) : Sp := fun vs H Q _ => ∃ (kz k : Bool) (z tg : Addr) (ss : List Int) (gs : List (List Int)), vs = [.ref z, .ref tg] ∧ Sqh kz H z (ss.map V.int) ∧ TgtAt k H tg gs ∧ gs.Nodup ∧ gs.length < 60 ∧ (∀ g ∈ gs, Seat ss g) ∧ Sz ss ∧ ∀ H', Same H H' → Q .non H'
theorem ok_require_seats (T : Tx K mg) : FnOk P w K mg base CX0 2 T.f_require_seats T.fd_require_seats ["sizes", "seats"] (sp_require_seats K) := by
  refine T.F_require_seats.ok sc_require_seats (fun vs H Q E h => ?_) (fun cdv A outer s H vs Q E hr h => ?_)
  · obtain ⟨kz, k, z, tg, ss, gs, rfl, _⟩ := h; rfl
  · obtain ⟨kz, k, zz, tg, ss, gs, rfl, hz, ⟨as, htg, hA⟩, hnd, h60, hSt, z, q⟩ := h
    refine ⟨_, (pss_cons (ps_if (pt_not (pt_val (pe_callB (call_isAK (K := K) rfl) (by rfl) T.n_isinstance (by decide +kernel) (pa_cons (pv 1) (pa_cons (pe_tup (pa_cons (pe_bltn (v := .ty "list") (by rfl) T.n_list (by decide +kernel) rfl) (pa_cons (pe_bltn (v := .ty "tuple") (by rfl) T.n_tuple (by decide +kernel) rfl) pa_nil))) pa_nil))))) (pss_one ps_never) pss_nil)
      (pss_cons (ps_set (i := 2) sc_require_seats.nd rfl (Or.inl rfl) (pe_callTy0 cr_set0T (by rfl) T.n_set (by decide +kernel)))
      (pss_one (ps_for PassesOwn.never rfl (pi_enH (by rfl) T.n_enumerate (pa_cons (pv 1) pa_nil)) (pg_tupH (n := 2) rfl (pgs_cons (pg_name (i := 3) sc_require_seats.nd rfl (Or.inl rfl)) (pgs_cons (pg_name (i := 4) sc_require_seats.nd rfl (Or.inl rfl)) pgs_nil)))
        (pss_cons (ps_if (PW.pt (pw_or (pt_not (pt_val (pe_call (ok_is_seat T) (hr.mono (by decide)) (by rfl) T.g_is_seat T.F_is_seat.kp T.b_is_seat .nil pass0 (pa_cons (pv 0) (pa_cons (pv 4) pa_nil))))) (pw_or1 (pt_cmpR (op_inT hr.units) (pv 4) (pv 2) rfl)))) (pss_one ps_never) pss_nil)
        (pss_one (ps_expr (pe_addT hr.units (pv 2) (pa_cons (pv 4) pa_nil))))))))), ?_⟩
    walk_at "rd"
    intro tp htp
    have s1 := Same.new htp (o := .tup [V.ty "list", V.ty "tuple"])
    generalize upd H tp (HO.tup [V.ty "list", V.ty "tuple"]) = H1 at s1 ⊢
    refine ⟨true, ?_, ?_⟩
    · cases k with
      | true => exact isA_two (b1 := true) (b2 := false) (.base (.lst (s1 _ _ htg))) (by decide +kernel) (by decide +kernel) rfl
      | false => exact isA_two (b1 := false) (b2 := true) (.base (.tup (s1 _ _ htg))) (by decide +kernel) (by decide +kernel) rfl
    rw [if_neg (by decide)]
    refine ⟨rfl, fun S hS => ?_⟩
    have s2 := Same.new hS (o := SetTO P w S [])
    have f2 : (upd H1 S (SetTO P w S [])) S = some (SetTO P w S []) := upd_same
    generalize upd H1 S (SetTO P w S []) = H2 at s2 f2 ⊢
    have s02 := s1.trans s2
    have hHS : H S = none := by
      cases e : H S with
      | none => rfl
      | some u => rw [s1 _ _ e] at hS; cases hS
    refine ⟨k, as.map V.ref, htg.same s02, fun J W => ?_⟩
    refine forr W (fun i σ H' => Same H H' ∧ ∃ L v3 v4, σ = [some (V.ref zz), some (V.ref tg), some (V.ref S), v3, v4] ∧ H' S = some (SetTO P w S L) ∧ L.length = i ∧ (∀ p ∈ L, H p.1 = some (.tup (p.2.map V.int))) ∧ ∀ g, g ∈ L.map (·.2) ↔ g ∈ gs.take i)
      ⟨s02, [], none, none, rfl, f2, rfl, by simp, by simp⟩ (fun i σ H' _ h => htg.same h.1) ?_ ?_
    · rintro i x σ3 H3 H4 hi ⟨s3, L, v3, v4, rfl, hS3, hLl, hL, hLm⟩ ⟨T0, x1, rfl, hT, rfl, hx⟩
      simp only [List.getElem?_map, Option.map_eq_some_iff] at hx
      obtain ⟨a, ha, rfl⟩ := hx
      rw [List.length_map, hA.1] at hi
      have hg := List.getElem?_eq_getElem hi
      have haH := hA.2 i a _ ha hg
      have hSg := hSt _ (List.getElem_mem hi)
      have sT := Same.new hT (o := .tup [V.int (i : Nat), V.ref a])
      walk_at "rd"
      generalize upd H3 T0 (HO.tup [V.int (i : Nat), V.ref a]) = H4 at sT ⊢
      have s04 := s3.trans sT
      refine ⟨kz, zz, ss, .ref a, true, rfl, hz.same s04, hSg.b z (s04 _ _ haH), fun H5 s5 => ⟨true, rfl, ?_⟩⟩
      rw [if_neg (by decide)]
      have s05 := s04.trans s5
      have hS5 := s5 _ _ (sT _ _ hS3)
      have hgn : gs[i] ∉ gs.take i := by
        intro hm
        obtain ⟨j, hj, e⟩ := List.getElem_of_mem hm
        rw [List.length_take] at hj
        rw [List.getElem_take] at e
        exact absurd e (List.pairwise_iff_getElem.mp hnd j i (by omega) hi (by omega))
      have hgL : gs[i] ∉ L.map (·.2) := fun h => hgn ((hLm _).mp h)
      refine ⟨a, S, gs[i], L, rfl, rfl, s05 _ _ haH, hS5, fun p hp => s05 _ _ (hL p hp), ?_⟩
      refine ⟨_, rfl, ?_⟩
      rw [if_neg Bool.false_ne_true, decide_eq_false hgL, if_neg Bool.false_ne_true]
      simp only [tAddT]
      walk_at "rd"
      refine ⟨⟨L, hS5⟩, a, S, gs[i], L, rfl, rfl, s05 _ _ haH, hS5, fun p hp => s05 _ _ (hL p hp), by omega, fun L' _ hperm => ?_⟩
      have hp := hperm hgL
      refine ⟨fun c u hc => by rw [upd_ne (ne_some hc hHS)]; exact s05 _ _ hc, L', upd_same, by rw [hp.length_eq, List.length_cons, hLl], fun p hpm => ?_, fun g => ?_⟩
      · rcases List.mem_cons.mp (hp.mem_iff.mp hpm) with rfl | h
        · exact haH
        · exact hL p h
      · rw [(hp.map _).mem_iff, List.map_cons, List.mem_cons, hLm]
        have e : gs.take (i + 1) = gs.take i ++ [gs[i]] := by rw [List.take_add_one, hg]; rfl
        rw [e, List.mem_append, List.mem_singleton]
        exact Or.comm
    · rintro σ3 H3 ⟨s3, L, v3, v4, rfl, hS3, hLl, hL, hLm⟩
      exact q _ s3
def sp_require_targets (K : PySem.W.Frag) : Sp := fun vs H Q _ => ∃ (kz k : Bool) (z tg : Addr) (ss : List Int) (gs : List (List Int)), vs = [.ref z, .ref tg] ∧ Sqh kz H z (ss.map V.int) ∧ TgtAt k H tg gs ∧ gs ≠ [] ∧ gs.Nodup ∧ gs.length < 60 ∧ (∀ g ∈ gs, Seat ss g) ∧ Sz ss ∧ ∀ H', Same H H' → Q .non H'
theorem ok_require_targets (T : Tx K mg) : FnOk P w K mg base CX0 3 T.f_require_targets T.fd_require_targets ["sizes", "targets"] (sp_require_targets K) := by
  refine T.F_require_targets.ok sc_require_targets (fun vs H Q E h => ?_) (fun cdv A outer s H vs Q E hr h => ?_)
  · obtain ⟨kz, k, z, tg, ss, gs, rfl, _⟩ := h; rfl
  · obtain ⟨kz, k, zz, tg, ss, gs, rfl, hz, hG, hne, hnd, h60, hSt, z, q⟩ := h
    refine ⟨_, (pss_cons (ps_expr (pe_call (ok_require_seats T) (hr.mono (by decide)) (by rfl) T.g_require_seats T.F_require_seats.kp T.b_require_seats .nil pass0 (pa_cons (pv 0) (pa_cons (pv 1) pa_nil))))
      (pss_one (ps_if (pt_cmpR op_eq (pe_callB len_H (by rfl) T.n_len PySem.boot_len (pa_cons (pv 1) pa_nil)) pe_int (nomark _)) (pss_one ps_never) pss_nil))), ?_⟩
    walk_at "rd"
    refine ⟨kz, k, zz, tg, ss, gs, rfl, hz, hG, hnd, h60, hSt, z, fun H1 s1 => ?_⟩
    obtain ⟨as, htg, hA⟩ := hG.same s1
    have hl0 : 0 < as.length := by rw [hA.1]; exact List.length_pos_iff.mpr hne
    refine or_seq htg ?_
    rw [if_neg (by rw [List.length_map]; omega)]
    exact q _ s1
end

/-! ### tuples that stay, lists of tuples and of moves -/
section
variable {P : Program} {w : World} {K : PySem.W.Frag} {mg : Str → Option Value} {base : Heap}
/-- all tuples stay -/
def Tp (H H' : Hp) : Prop := ∀ b xs, H b = some (.tup xs) → H' b = some (.tup xs)
theorem Tp.of {H H' : Hp} (s : Same H H') : Tp H H' := fun b xs h => s _ _ h
theorem Tp.trans {H H1 H2 : Hp} (s : Tp H H1) (t : Tp H1 H2) : Tp H H2 := fun b xs h => t _ _ (s _ _ h)
theorem Tp.sx {a : Addr} {H H' : Hp} {o : HO} (s : Sx a H H') (ha : H a = some o) (ho : ∀ xs, o ≠ .tup xs) : Tp H H' := fun b xs h => s _ _ (ne_two h ha fun e => ho _ e.symm) h
theorem Tp.put {a : Addr} {H : Hp} {o u : HO} (ha : H a = some o) (ho : ∀ xs, o ≠ .tup xs) : Tp H (upd H a u) := fun b xs h => by rw [upd_ne (ne_two h ha fun e => ho _ e.symm)]; exact h
theorem _root_.Cs.AsT.tp {H H' : Hp} {as : List Addr} {hs : List (List Int)} (h : AsT H as hs) (s : Tp H H') : AsT H' as hs := ⟨h.1, fun i t g h1 h2 => s _ _ (h.2 i t g h1 h2)⟩
theorem _root_.Cs.Sqh.sxi {k : Bool} {a g C dx : Addr} {fs : List (Str × V)} {H H' : Hp} {xs : List V} (h : Sqh k H g xs) (ha : H a = some (.ins C dx fs)) (s : Sx a H H') : Sqh k H' g xs := by
  cases k with
  | true => exact s _ _ (ne_two (show H g = some (.lst xs) from h) ha (by simp)) h
  | false => exact s _ _ (ne_two (show H g = some (.tup xs) from h) ha (by simp)) h
theorem Tp.sxi {a C dx : Addr} {fs : List (Str × V)} {H H' : Hp} (ha : H a = some (.ins C dx fs)) (s : Sx a H H') : Tp H H' := Tp.sx s ha (by simp)
/-- one more at the end of a list of tuples -/
theorem _root_.Cs.LstT.push {H : Hp} {D t : Addr} {L : List (List Int)} {gs : List Int} (h : LstT H D L) (ht : H t = some (.tup (gs.map V.int))) : ∃ as : List Addr, H D = some (.lst (as.map V.ref)) ∧ as.length = L.length ∧ LstT (upd H D (.lst (as.map V.ref ++ [V.ref t]))) D (L ++ [gs]) := by
  obtain ⟨as, h1, h2⟩ := h
  refine ⟨as, h1, h2.1, as ++ [t], by rw [upd_same, List.map_append]; rfl, ?_⟩
  exact (h2.tp (Tp.put h1 (by simp))).snoc (by rw [upd_ne (ne_two ht h1 (by simp))]; exact ht)
/-- moves mv at the addresses ms -/
def AsM (H : Hp) (ms : List Addr) (mv : List (List Int × Bool)) : Prop := ms.length = mv.length ∧ ∀ (i : Nat) m c, ms[i]? = some m → mv[i]? = some c → ∃ p, H m = some (.tup [.ref p, .str (offW c.2)]) ∧ H p = some (.tup (c.1.map V.int))
theorem AsM.tp {H H' : Hp} {ms : List Addr} {mv : List (List Int × Bool)} (h : AsM H ms mv) (s : Tp H H') : AsM H' ms mv := ⟨h.1, fun i m c h1 h2 => by
  obtain ⟨p, h3, h4⟩ := h.2 i m c h1 h2
  exact ⟨p, s _ _ h3, s _ _ h4⟩⟩
theorem AsM.same {H H' : Hp} {ms : List Addr} {mv : List (List Int × Bool)} (s : Same H H') (h : AsM H ms mv) : AsM H' ms mv := h.tp (Tp.of s)
def MovAt (k : Bool) (H : Hp) (a : Addr) (mv : List (List Int × Bool)) : Prop := ∃ ms : List Addr, Sqh k H a (ms.map V.ref) ∧ AsM H ms mv
theorem MovAt.same {k : Bool} {H H' : Hp} {a : Addr} {mv : List (List Int × Bool)} (s : Same H H') (h : MovAt k H a mv) : MovAt k H' a mv := by
  obtain ⟨ms, h1, h2⟩ := h
  exact ⟨ms, h1.same s, h2.same s⟩
theorem AsM.snoc {H : Hp} {ms : List Addr} {mv : List (List Int × Bool)} {m p : Addr} {cs : List Int} {b : Bool} (h : AsM H ms mv) (hm : H m = some (.tup [.ref p, .str (offW b)])) (hp : H p = some (.tup (cs.map V.int))) : AsM H (ms ++ [m]) (mv ++ [(cs, b)]) := by
  refine ⟨by rw [List.length_append, List.length_append, h.1]; rfl, fun i u c h1 h2 => ?_⟩
  by_cases hlt : i < ms.length
  · rw [List.getElem?_append_left hlt] at h1
    rw [List.getElem?_append_left (by rw [← h.1]; exact hlt)] at h2
    exact h.2 i u c h1 h2
  · rw [List.getElem?_append_right (by omega)] at h1
    rw [List.getElem?_append_right (by rw [← h.1]; omega), ← h.1] at h2
    cases hk : i - ms.length with
    | zero =>
      rw [hk] at h1 h2
      simp only [List.getElem?_cons_zero, Option.some.injEq] at h1 h2
      rw [← h1, ← h2]
      exact ⟨p, hm, hp⟩
    | succ m => rw [hk] at h1; simp at h1
theorem MovAt.push {H : Hp} {D m p : Addr} {mv : List (List Int × Bool)} {cs : List Int} {b : Bool} (h : MovAt true H D mv) (hm : H m = some (.tup [.ref p, .str (offW b)])) (hp : H p = some (.tup (cs.map V.int))) :
    ∃ ms : List Addr, H D = some (.lst (ms.map V.ref)) ∧ ms.length = mv.length ∧ MovAt true (upd H D (.lst (ms.map V.ref ++ [V.ref m]))) D (mv ++ [(cs, b)]) := by
  obtain ⟨ms, h1, h2⟩ := h
  have h1 : H D = some (.lst (ms.map V.ref)) := h1
  refine ⟨ms, h1, h2.1, ms ++ [m], by show _ = some (HO.lst _); rw [upd_same, List.map_append]; rfl, ?_⟩
  exact (h2.tp (Tp.put h1 (by simp))).snoc (by rw [upd_ne (ne_two hm h1 (by simp))]; exact hm) (by rw [upd_ne (ne_two hp h1 (by simp))]; exact hp)
theorem eqD_tups' {K : PySem.W.Frag} {H : Hp} {a b : Addr} {hss : List (List Int)} {Q : VK} (h1 : LstT H a hss) (h2 : LstT H b hss) (q : Q (.bl true) H) : rEqD K (.ref a) (.ref b) H Q :=
  ⟨_, _, dp_lstT h1, dp_lstT h2, shaped_tups _, shaped_tups _, by rw [show PyData.eqv (.list (hss.map tupI)) (.list (hss.map tupI)) = decide (hss = hss) from eqv_tups hss hss, decide_eq_true rfl]; exact q⟩
end

/-! ### players in the program -/
section
variable {P : Program} {w : World} {K : PySem.W.Frag} {mg : Str → Option Value} {base : Heap}
/-! a responder: by a witness, or by a list of directions -/
inductive RK where
  | wit (m : Int) (ws : List Int) (r : Int)
  | dirs (bs : List Bool)
def RK.lost : RK → List Int → Bool
  | .wit m ws r, p => decide (dot ws p % m = r)
  | .dirs _, _ => false
def RK.ans : RK → Nat → List Int → List Int → Bool
  | .wit m ws r, _, p, c => decide ((dot ws p + dot ws c) % m = r)
  | .dirs bs, n, _, _ => bs.getD (n % bs.length) false
def RK.ok (ss : List Int) : RK → Prop
  | .wit m ws r => Wit ss m ws r ∧ m.natAbs < 2 ^ 8000
  | .dirs bs => bs ≠ [] ∧ bs.length ≤ 1000
/-- what _witness and _directions hold -/
def RK.at (H : Hp) (wv : V) (d : Addr) : RK → Prop
  | .wit m ws r => ∃ sh, wv = .ref sh ∧ ShAt H sh m ws r ∧ H d = some (.lst [])
  | .dirs bs => wv = .non ∧ H d = some (.lst (bs.map fun b => V.str (offW b)))
/-- what is handed as the strategy -/
def RK.given (H : Hp) (x : V) (gs : List (List Int)) : RK → Prop
  | .wit m ws r => ∃ sh, x = .ref sh ∧ ShAt H sh m ws r ∧ ∀ g ∈ gs, dot ws g % m = r
  | .dirs bs => ∃ l, x = .ref l ∧ H l = some (.lst (bs.map fun b => V.str (offW b)))
theorem RK.at.same {H H' : Hp} {wv : V} {d : Addr} {k : RK} (s : Same H H') (h : k.at H wv d) : k.at H' wv d := by
  cases k with
  | wit m ws r =>
    obtain ⟨sh, e, h1, h2⟩ := h
    exact ⟨sh, e, h1.same s, s _ _ h2⟩
  | dirs bs => exact ⟨h.1, s _ _ h.2⟩
theorem RK.given.same {H H' : Hp} {x : V} {gs : List (List Int)} {k : RK} (s : Same H H') (h : k.given H x gs) : k.given H' x gs := by
  cases k with
  | wit m ws r =>
    obtain ⟨sh, e, h1, h2⟩ := h
    exact ⟨sh, e, h1.same s, h2⟩
  | dirs bs =>
    obtain ⟨l, e, h1⟩ := h
    exact ⟨l, e, s _ _ h1⟩
def resF (wv : V) (d nm z t : Addr) (n : Nat) : List (Str × V) := [("_witness", wv), ("_directions", .ref d), ("_numbers", .ref nm), ("_sizes", .ref z), ("_targets", .ref t), ("_turn", .int (n : Nat))]
/-- a responder at a -/
def RespAt (R : Addr) (H : Hp) (a : Addr) (ss : List Int) (gs : List (List Int)) (k : RK) (n : Nat) : Prop := ∃ dx wv d nm z t hs, H a = some (.ins R dx (resF wv d nm z t n)) ∧ k.at H wv d ∧ H z = some (.tup (ss.map V.int)) ∧ LstT H t hs ∧ hs.Perm gs ∧ SrtT hs
def calF (l z t : Addr) (n : Nat) : List (Str × V) := [("_listed", .ref l), ("_grid", .non), ("_spread", .non), ("_sizes", .ref z), ("_targets", .ref t), ("_turn", .int (n : Nat))]
/-- a caller with the reduced calls rs at a -/
def CallAt (C : Addr) (H : Hp) (a : Addr) (ss : List Int) (gs rs : List (List Int)) (n : Nat) : Prop := ∃ dx l z t hs, H a = some (.ins C dx (calF l z t n)) ∧ LstT H l rs ∧ H z = some (.tup (ss.map V.int)) ∧ LstT H t hs ∧ hs.Perm gs ∧ SrtT hs
theorem RespAt.same {R : Addr} {H H' : Hp} {a : Addr} {ss : List Int} {gs : List (List Int)} {k : RK} {n : Nat} (s : Same H H') (h : RespAt R H a ss gs k n) : RespAt R H' a ss gs k n := by
  obtain ⟨dx, wv, d, nm, z, t, hs, h1, h2, h3, h4, h5⟩ := h
  exact ⟨dx, wv, d, nm, z, t, hs, s _ _ h1, h2.same s, s _ _ h3, h4.same s, h5⟩
theorem CallAt.same {C : Addr} {H H' : Hp} {a : Addr} {ss : List Int} {gs rs : List (List Int)} {n : Nat} (s : Same H H') (h : CallAt C H a ss gs rs n) : CallAt C H' a ss gs rs n := by
  obtain ⟨dx, l, z, t, hs, h1, h2, h3, h4, h5⟩ := h
  exact ⟨dx, l, z, t, hs, s _ _ h1, h2.same s, s _ _ h3, h4.same s, h5⟩
theorem seat_bd {ss g : List Int} (z : Sz ss) (h : Seat ss g) : g.length = ss.length ∧ TS.Bd (2 ^ 1000) g := ⟨h.len, fun x hx => by
  obtain ⟨i, hi, e⟩ := List.getElem_of_mem hx
  have hi2 : i < ss.length := by rw [← h.len]; exact hi
  have h1 := h.ok i x _ (by rw [List.getElem?_eq_getElem hi, e]) (List.getElem?_eq_getElem hi2)
  have h2 := z.bits _ (List.getElem_mem hi2)
  have h3 : (((2 ^ 1000 : Nat) : Int)) = 2 ^ 1000 := by rw [Int.natCast_pow]; rfl
  rw [← h3]
  omega⟩
def sp_is_layers (K : PySem.W.Frag) : Sp := fun vs H Q _ => ∃ x, vs = [x] ∧ IsI K H x (.ty "str") false ∧ Q (.bl false) H
theorem ok_is_layers (T : Tx K mg) : FnOk P w K mg base CX0 1 T.f_is_layers T.fd_is_layers ["strategy"] (sp_is_layers K) := by
  refine T.F_is_layers.ok sc_is_layers (fun vs H Q E h => ?_) (fun cdv A outer s H vs Q E hr h => ?_)
  · obtain ⟨x, rfl, _⟩ := h; rfl
  · obtain ⟨x, rfl, hx, q⟩ := h
    refine ⟨_, (pss_one (ps_ret (pe_and (pe_callB (call_isIK (K := K) rfl) (by rfl) T.n_isinstance (by decide +kernel) (pa_cons (pv 0) (pa_cons (pe_bltn (v := .ty "str") (by rfl) T.n_str (by decide +kernel) rfl) pa_nil))) (pe_one (pe_cmpR op_eq (pv 0) pe_str (nomark _)))))), ?_⟩
    walk_at "rd"
    refine ⟨false, hx, ?_⟩
    rw [if_neg (by decide)]
    exact q
def sp_is_list_of_directions (K : PySem.W.Frag) : Sp := fun vs H Q _ => ∃ x b, vs = [x] ∧ ((IsI K H x (.ty "list") false ∧ b = false) ∨ ∃ p bs, x = .ref p ∧ H p = some (.lst (List.map (fun b => V.str (offW b)) bs)) ∧ bs ≠ [] ∧ bs.length ≤ 1000 ∧ b = true) ∧ ∀ H', Same H H' → Q (.bl b) H'
theorem ok_is_list_of_directions (T : Tx K mg) : FnOk P w K mg base CX0 2 T.f_is_list_of_directions T.fd_is_list_of_directions ["directions"] (sp_is_list_of_directions K) := by
  refine T.F_is_list_of_directions.ok sc_is_list_of_directions (fun vs H Q E h => ?_) (fun cdv A outer s H vs Q E hr h => ?_)
  · obtain ⟨x, b, rfl, _⟩ := h; rfl
  · obtain ⟨x, b, rfl, hb, q⟩ := h
    refine ⟨_, (pss_cons (ps_if (PW.pt (pw_or (pt_not (pt_val (pe_callB (call_isIK (K := K) rfl) (by rfl) T.n_isinstance (by decide +kernel) (pa_cons (pv 0) (pa_cons (pe_bltn (v := .ty "list") (by rfl) T.n_list (by decide +kernel) rfl) pa_nil))))) (pw_or1 (pt_cmpR op_eq (pe_callB len_H (by rfl) T.n_len PySem.boot_len (pa_cons (pv 0) pa_nil)) pe_int (nomark _))))) (pss_one (ps_ret pe_bl)) pss_nil)
      (pss_one (ps_ret (pe_callB (all_H rfl) (by rfl) T.n_all (by decide +kernel) (pa_cons (pe_lc (own := [("entry", 1)]) (g := (gName 1)) (tt := tYes) rfl sc_is_list_of_directions.nd (pi_seqH (pv 0)) (blkOk_by (own := [("entry", 1)]) (N := N_is_list_of_directions) (sc := defScope d_is_list_of_directions) (by decide +kernel)) (fun _ _ _ _ _ => (pg_name (i := 1) sc_is_list_of_directions.nd rfl (Or.inl rfl))) (fun _ _ _ _ _ => pts_nil) (fun _ _ _ _ _ => (pe_call (ok_is_direction T) (hr.mono (by decide)) (by rfl) T.g_is_direction T.F_is_direction.kp T.b_is_direction .nil pass0 (pa_cons (pv 1) pa_nil)))) pa_nil))))), ?_⟩
    walk_at "rd"
    rcases hb with ⟨h1, rfl⟩ | ⟨p, bs, rfl, hp, hne, hk, rfl⟩
    · refine ⟨false, h1, ?_⟩
      rw [if_pos rfl]
      exact q _ (Same.refl _)
    · refine ⟨true, isI_lst hp, ?_⟩
      rw [if_neg (by decide)]
      have h0 := List.length_pos_iff.mpr hne
      refine ⟨p, rfl, .inl ⟨_, hp, ?_⟩⟩
      rw [if_neg (by rw [List.length_map]; omega)]
      refine ⟨p, rfl, .inl ⟨_, hp, fun J W => ?_⟩⟩
      refine lcr_map W ((List.replicate bs.length true).map V.bl) (by simp) (by rw [List.length_map]; exact Nat.le_trans hk (by decide)) (fun H4 s4 => s4 _ _ hp) (fun _ _ _ _ y => YAt.same y) ?_ ?_
      · rintro i x H3 H4 y Qy hi s4 ⟨rfl, hx⟩ hr hq
        simp only [List.getElem?_map, Option.map_eq_some_iff] at hx hr
        obtain ⟨b, hb, rfl⟩ := hx
        obtain ⟨c, hc, rfl⟩ := hr
        rw [List.getElem?_replicate] at hc
        split at hc
        · obtain rfl := Option.some.inj hc
          walk_at "rd"
          exact ⟨_, true, rfl, offW_dir b, fun H5 s5 => hq _ s5⟩
        · cases hc
      · intro D H4 hD s4 h4
        refine ⟨D, rfl, _, h4, ?_⟩
        rw [show (List.replicate bs.length true).all id = true by simp]
        exact q _ s4
def sp_is_list_of_calls (K : PySem.W.Frag) : Sp := fun vs H Q _ => ∃ (k : Bool) (z l : Addr) (ss : List V) (css : List (List Int)), vs = [.ref z, .ref l] ∧ Sqh k H z ss ∧ LstT H l css ∧ css ≠ [] ∧ css.length ≤ 1000 ∧ (∀ c ∈ css, c.length = ss.length) ∧ ss.length ≤ 4 ∧ ∀ H', Same H H' → Q (.bl true) H'
theorem ok_is_list_of_calls (T : Tx K mg) : FnOk P w K mg base CX0 2 T.f_is_list_of_calls T.fd_is_list_of_calls ["sizes", "strategy"] (sp_is_list_of_calls K) := by
  refine T.F_is_list_of_calls.ok sc_is_list_of_calls (fun vs H Q E h => ?_) (fun cdv A outer s H vs Q E hr h => ?_)
  · obtain ⟨k, z, l, ss, css, rfl, _⟩ := h; rfl
  · obtain ⟨k, z, l, ss, css, rfl, hz, ⟨as, hl, hA⟩, hne, hk, hlen, h4, q⟩ := h
    refine ⟨_, (pss_cons (ps_if (PW.pt (pw_or (pt_not (pt_val (pe_callB (call_isIK (K := K) rfl) (by rfl) T.n_isinstance (by decide +kernel) (pa_cons (pv 1) (pa_cons (pe_bltn (v := .ty "list") (by rfl) T.n_list (by decide +kernel) rfl) pa_nil))))) (pw_or1 (pt_cmpR op_eq (pe_callB len_H (by rfl) T.n_len PySem.boot_len (pa_cons (pv 1) pa_nil)) pe_int (nomark _))))) (pss_one (ps_ret pe_bl)) pss_nil)
      (pss_one (ps_ret (pe_callB (all_H rfl) (by rfl) T.n_all (by decide +kernel) (pa_cons (pe_lc (own := [("entry", 2)]) (g := (gName 2)) (tt := tYes) rfl sc_is_list_of_calls.nd (pi_seqH (pv 1)) (blkOk_by (own := [("entry", 2)]) (N := N_is_list_of_calls) (sc := defScope d_is_list_of_calls) (by decide +kernel)) (fun _ _ _ _ _ => (pg_name (i := 2) sc_is_list_of_calls.nd rfl (Or.inl rfl))) (fun _ _ _ _ _ => pts_nil) (fun _ _ _ _ _ => (pe_call (ok_is_call T) (hr.mono (by decide)) (by rfl) T.g_is_call T.F_is_call.kp T.b_is_call .nil pass0 (pa_cons (pv 0) (pa_cons (pv 2) pa_nil))))) pa_nil))))), ?_⟩
    walk_at "rd"
    refine ⟨true, isI_lst hl, ?_⟩
    rw [if_neg (by decide)]
    have h0 := List.length_pos_iff.mpr hne
    refine .inl ⟨_, hl, ?_⟩
    rw [if_neg (by rw [List.length_map, hA.1]; omega)]
    refine .inl ⟨_, hl, fun J W => ?_⟩
    refine lcr_map W ((List.replicate css.length true).map V.bl) (by simp [hA.1]) (by rw [List.length_map, hA.1]; exact Nat.le_trans hk (by decide)) (fun H4 s4 => s4 _ _ hl) (fun _ _ _ _ y => YAt.same y) ?_ ?_
    · rintro i x H3 H4 y Qy hi s4 ⟨rfl, hx⟩ hr hq
      simp only [List.getElem?_map, Option.map_eq_some_iff] at hx hr
      obtain ⟨u, hu, rfl⟩ := hx
      obtain ⟨c, hc, rfl⟩ := hr
      rw [List.length_map, hA.1] at hi
      rw [List.getElem?_replicate, if_pos hi] at hc
      obtain rfl := Option.some.inj hc
      have hg := List.getElem?_eq_getElem hi
      walk_at "rd"
      exact ⟨k, z, ss, .ref u, true, rfl, hz.same s4, call_b (hlen _ (List.getElem_mem hi)) h4 (s4 _ _ (hA.2 i u _ hu hg)), fun H5 s5 => hq _ s5⟩
    · intro D H4 hD s4 h4
      refine ⟨D, rfl, _, h4, ?_⟩
      rw [show (List.replicate css.length true).all id = true by simp]
      exact q _ s4
def sp_is_common_witness (K : PySem.W.Frag) : Sp := fun vs H Q _ => ∃ (kz k : Bool) (z tg sh : Addr) (ss : List Int) (gs : List (List Int)) (ws : List Int) (m r : Int), vs = [.ref z, .ref tg, .ref sh] ∧ Sqh kz H z (ss.map V.int) ∧ TgtAt k H tg gs ∧ gs.length ≤ 60 ∧ (∀ g ∈ gs, Seat ss g) ∧ ShAt H sh m ws r ∧ Wit ss m ws r ∧ Sz ss ∧ m.natAbs < 2 ^ 8000 ∧ (∀ g ∈ gs, dot ws g % m = r) ∧ ∀ H', Same H H' → Q (.bl true) H'
theorem ok_is_common_witness (T : Tx K mg) : FnOk P w K mg base CX0 4 T.f_is_common_witness T.fd_is_common_witness ["sizes", "targets", "strategy"] (sp_is_common_witness K) := by
  refine T.F_is_common_witness.ok sc_is_common_witness (fun vs H Q E h => ?_) (fun cdv A outer s H vs Q E hr h => ?_)
  · obtain ⟨kz, k, z, tg, sh, ss, gs, ws, m, r, rfl, _⟩ := h; rfl
  · obtain ⟨kz, k, zz, tg, sh, ss, gs, ws, m, r, rfl, hz, ⟨as, htg, hA⟩, few, hok, hsh, hw, z, hmb, hres, q⟩ := h
    refine ⟨_, (pss_cons (ps_if (pt_not (pt_val (pe_call (ok_is_witness T) (hr.mono (by decide)) (by rfl) T.g_is_witness T.F_is_witness.kp T.b_is_witness .nil pass0 (pa_cons (pv 0) (pa_cons (pv 2) pa_nil))))) (pss_one (ps_ret pe_bl)) pss_nil)
      (pss_one (ps_ret (pe_callB (all_H rfl) (by rfl) T.n_all (by decide +kernel) (pa_cons (pe_lc (own := [("target", 3)]) (g := (gName 3)) (tt := tYes) rfl sc_is_common_witness.nd (pi_seqH (pv 1)) (blkOk_by (own := [("target", 3)]) (N := N_is_common_witness) (sc := defScope d_is_common_witness) (by decide +kernel)) (fun _ _ _ _ _ => (pg_name (i := 3) sc_is_common_witness.nd rfl (Or.inl rfl))) (fun _ _ _ _ _ => pts_nil) (fun _ _ _ _ _ => (pe_call (ok_has_residue T) (hr.mono (by decide)) (by rfl) T.g_has_residue T.F_has_residue.kp T.b_has_residue .nil pass0 (pa_cons (pv 2) (pa_cons (pv 3) pa_nil))))) pa_nil))))), ?_⟩
    have hm0 : 0 < m := by have := hw.three; omega
    walk_at "rd"
    refine ⟨kz, zz, sh, ss, ws, m, r, rfl, hz, hsh, hw, z, hmb, fun H1 s1 => ⟨true, rfl, ?_⟩⟩
    rw [if_neg (by decide)]
    have main : ∀ (J : It) (G : Hp → Prop), Walk J (as.map V.ref).length G (YAt (as.map V.ref)) → (∀ H', Same H1 H' → G H') → LcR J (gName 3) tYes (tCall (sp_has_residue K) [] E0 (tCons (tVar 2) (tCons (tVar 3) tNil))) [3] [some (V.ref zz), some (V.ref tg), some (V.ref sh), none] H1
        fun x H1 => ∃ p, x = V.ref p ∧ ∃ bs, H1 p = some (HO.lst (List.map V.bl bs)) ∧ Q (V.bl (bs.all id)) H1 := fun J G W hG => by
      refine lcr_map W ((List.replicate gs.length true).map V.bl) (by simp [hA.1]) (by rw [List.length_map, hA.1]; exact Nat.le_trans few (by decide)) hG (fun _ _ _ _ y => YAt.same y) ?_ ?_
      · rintro i x H3 H4 y Qy hi s4 ⟨rfl, hx⟩ hr hq
        simp only [List.getElem?_map, Option.map_eq_some_iff] at hx hr
        obtain ⟨u, hu, rfl⟩ := hx
        obtain ⟨c, hc, rfl⟩ := hr
        rw [List.length_map, hA.1] at hi
        rw [List.getElem?_replicate, if_pos hi] at hc
        obtain rfl := Option.some.inj hc
        have hg := List.getElem?_eq_getElem hi
        have hgm := List.getElem_mem hi
        have s14 := s1.trans s4
        walk_at "rd"
        refine ⟨sh, u, gs[i], ws, m, r, rfl, hsh.same s14, s14 _ _ (hA.2 i u _ hu hg), by rw [hw.len, (hok _ hgm).len], by rw [hw.len]; have := z.hi; omega, hm0, mul_seat hw z hmb (hok _ hgm), fun H5 s5 => ?_⟩
        rw [decide_eq_true (hres _ hgm)]
        exact hq _ s5
      · intro D H4 hD s4 h4
        refine ⟨D, rfl, _, h4, ?_⟩
        rw [show (List.replicate gs.length true).all id = true by simp]
        exact q _ (s1.trans s4)
    cases k with
    | true => exact .inl ⟨_, s1 _ _ (show H tg = some (.lst (as.map V.ref)) from htg), fun J W => main J _ W fun H' s' => s' _ _ (s1 _ _ (show H tg = some (.lst (as.map V.ref)) from htg))⟩
    | false => exact .inr ⟨_, s1 _ _ (show H tg = some (.tup (as.map V.ref)) from htg), fun J W => main J _ W fun H' s' => s' _ _ (s1 _ _ (show H tg = some (.tup (as.map V.ref)) from htg))⟩
/-- a call, ring by ring reduced -/
def redC (cs ss : List Int) : List Int := List.zipWith (fun c s => c % s) cs ss
theorem redC_len {cs ss : List Int} (h : cs.length = ss.length) : (redC cs ss).length = ss.length := by unfold redC; rw [List.length_zipWith, h, Nat.min_self]
theorem redC_seat {cs ss : List Int} (h : cs.length = ss.length) (pos : ∀ s ∈ ss, 1 ≤ s) : Seat ss (redC cs ss) := ⟨redC_len h, fun i p s hp hs => by
  have hi : i < ss.length := (List.getElem?_eq_some_iff.mp hs).1
  have hc : cs[i]? = some cs[i] := List.getElem?_eq_getElem (by omega)
  unfold redC at hp
  rw [List.getElem?_zipWith, hc, hs] at hp
  obtain rfl := Option.some.inj hp
  have := pos s (List.mem_of_getElem? hs)
  exact ⟨Int.emod_nonneg _ (by omega), Int.emod_lt_of_pos _ (by omega)⟩⟩
def sp_reduced_call (K : PySem.W.Frag) : Sp := fun vs H Q _ => ∃ (kz k : Bool) (z c : Addr) (ss cs : List Int), vs = [.ref z, .ref c] ∧ Sqh kz H z (ss.map V.int) ∧ Sqh k H c (cs.map V.int) ∧ cs.length = ss.length ∧ Sz ss ∧ ∀ H' p, Same H H' → H' p = some (.tup ((redC cs ss).map V.int)) → Q (.ref p) H'
theorem ok_reduced_call (T : Tx K mg) : FnOk P w K mg base CX0 1 T.f_reduced_call T.fd_reduced_call ["sizes", "call"] (sp_reduced_call K) := by
  refine T.F_reduced_call.ok sc_reduced_call (fun vs H Q E h => ?_) (fun cdv A outer s H vs Q E hr h => ?_)
  · obtain ⟨kz, k, z, c, ss, cs, rfl, _⟩ := h; rfl
  · obtain ⟨kz, k, zz, c, ss, cs, rfl, hz, hc, hl, z, q⟩ := h
    refine ⟨_, (pss_one (ps_ret (pe_callTy tuple_H (by rfl) T.n_tuple (by decide +kernel) (pa_cons (pe_lc (own := [("part", 2), ("size", 3)]) (g := (gTupH 2 (gCons (gName 2) (gCons (gName 3) gNil)))) (tt := tYes) rfl sc_reduced_call.nd (pi_z2H (by rfl) T.n_zip (pa_cons (pv 1) (pa_cons (pv 0) pa_nil))) (blkOk_by (own := [("part", 2), ("size", 3)]) (N := N_reduced_call) (sc := defScope d_reduced_call) (by decide +kernel)) (fun _ _ _ _ _ => (pg_tupH (n := 2) rfl (pgs_cons (pg_name (i := 2) sc_reduced_call.nd rfl (Or.inl rfl)) (pgs_cons (pg_name (i := 3) sc_reduced_call.nd rfl (Or.inl rfl)) pgs_nil)))) (fun _ _ _ _ _ => pts_nil) (fun _ _ _ _ _ => (pe_op op_mod (pv 2) (pv 3)))) pa_nil)))), ?_⟩
    walk_at "rd"
    refine ⟨k, kz, cs.map V.int, hc, ss.map V.int, hz, by rw [List.length_map, List.length_map, hl], fun J W => ?_⟩
    refine lcr_two (p := 2) (q := 3) hl (by have := z.hi; omega) (fun x y => x % y) W (fun H3 s3 => ⟨hc.same s3, hz.same s3⟩) (fun T0 x y H3 R hT hR => ?_) (fun x y => rfl) (fun i x y Qy H3 h1 h2 hq => ?_) fun D H3 hD s3 h3 => ?_
    · walk_at "rh"
      exact hR
    · walk_at "rd"
      exact ⟨by have := z.pos y (List.mem_of_getElem? h2); omega, hq⟩
    · exact ⟨D, rfl, .inl ⟨_, h3, fun p hp => q _ p (s3.trans (Same.new hp)) (by rw [upd_same]; rfl)⟩⟩
def MRa (R a dx t tg z : Addr) (x : V) (fs : List (Str × V)) (H : Hp) (σ : L2.St) (H' : Hp) : Prop := σ = [some (V.ref a), some (V.ref t), some (V.ref tg), some x, some (V.ref z)] ∧ Sx a H H' ∧ H' a = some (.ins R dx fs)
def MRa0 (R a dx t tg : Addr) (x : V) (ss : List Int) (H : Hp) (σ : L2.St) (H' : Hp) : Prop := ∃ z, MRa R a dx t tg z x [] H σ H' ∧ H z = some (.tup (ss.map V.int))
def MRa2 (R a dx t tg z : Addr) (x : V) (H : Hp) (σ : L2.St) (H' : Hp) : Prop := ∃ d, MRa R a dx t tg z x [("_witness", .non), ("_directions", .ref d)] H σ H' ∧ H d = none ∧ H' d = some (.lst [])
def MRa3 (R a dx t tg z d : Addr) (x : V) (H : Hp) (σ : L2.St) (H' : Hp) : Prop := ∃ nm, MRa R a dx t tg z x [("_witness", .non), ("_directions", .ref d), ("_numbers", .ref nm)] H σ H' ∧ H' d = some (.lst [])
def MRa4 (R a dx t tg z nm : Addr) (x : V) (k : RK) (H : Hp) (σ : L2.St) (H' : Hp) : Prop := ∃ wv d, MRa R a dx t tg z x [("_witness", wv), ("_directions", .ref d), ("_numbers", .ref nm)] H σ H' ∧ k.at H' wv d
def MRa5 (R a dx t tg z nm d : Addr) (x wv : V) (k : RK) (H : Hp) (σ : L2.St) (H' : Hp) : Prop := MRa R a dx t tg z x [("_witness", wv), ("_directions", .ref d), ("_numbers", .ref nm), ("_sizes", .ref z)] H σ H' ∧ k.at H' wv d
def MRa6 (R a dx t tg z nm d : Addr) (x wv : V) (k : RK) (gs : List (List Int)) (H : Hp) (σ : L2.St) (H' : Hp) : Prop := ∃ u hs, MRa R a dx t tg z x [("_witness", wv), ("_directions", .ref d), ("_numbers", .ref nm), ("_sizes", .ref z), ("_targets", .ref u)] H σ H' ∧ k.at H' wv d ∧ LstT H' u hs ∧ hs.Perm gs ∧ SrtT hs
/-- behind a store at an instance -/
theorem RK.at.put {H : Hp} {a C dx : Addr} {fs fs' : List (Str × V)} {wv : V} {d : Addr} {k : RK} (h : k.at H wv d) (ha : H a = some (.ins C dx fs)) : k.at (upd H a (.ins C dx fs')) wv d := by
  cases k with
  | wit m ws r =>
    obtain ⟨sh, e, ⟨u, h1, h2⟩, h3⟩ := h
    exact ⟨sh, e, ⟨u, by rw [upd_ne (ne_two h1 ha (by simp))]; exact h1, by rw [upd_ne (ne_two h2 ha (by simp))]; exact h2⟩, by rw [upd_ne (ne_two h3 ha (by simp))]; exact h3⟩
  | dirs bs => exact ⟨h.1, by rw [upd_ne (ne_two h.2 ha (by simp))]; exact h.2⟩
theorem _root_.Cs.LstT.put {H : Hp} {a C dx : Addr} {fs fs' : List (Str × V)} {d : Addr} {gs : List (List Int)} (h : LstT H d gs) (ha : H a = some (.ins C dx fs)) : LstT (upd H a (.ins C dx fs')) d gs := by
  obtain ⟨as, h1, h2⟩ := h
  exact ⟨as, by rw [upd_ne (ne_two h1 ha (by simp))]; exact h1, h2.tp (Tp.put ha (by simp))⟩
theorem RK.given.sxi {a C dx : Addr} {fs : List (Str × V)} {H H' : Hp} {x : V} {gs : List (List Int)} {k : RK} (h : k.given H x gs) (ha : H a = some (.ins C dx fs)) (s : Sx a H H') : k.given H' x gs := by
  cases k with
  | wit m ws r =>
    obtain ⟨sh, e, ⟨u, h1, h2⟩, h3⟩ := h
    exact ⟨sh, e, ⟨u, Tp.sxi ha s _ _ h1, Tp.sxi ha s _ _ h2⟩, h3⟩
  | dirs bs =>
    obtain ⟨l, e, h1⟩ := h
    exact ⟨l, e, s _ _ (ne_two h1 ha (by simp)) h1⟩
def sp_Responder_init (K : PySem.W.Frag) (C R : Addr) : Sp := fun vs H Q _ => ∃ (a dx t tg : Addr) (x : V) (ss : List Int) (gs : List (List Int)) (k : RK), vs = [.ref a, .ref t, .ref tg, x] ∧ H a = some (.ins R dx []) ∧ TabAt C H t ss ∧ Sz ss ∧ LstT H tg gs ∧ Tgts ss gs ∧ k.given H x gs ∧ k.ok ss ∧
  ∀ H', Sx a H H' → RespAt R H' a ss gs k 0 → Q .non H'
theorem ok_Responder_init (T : Tx K mg) : FnOk P w K mg base CX0 5 T.f_Responder_init T.fd_Responder_init ["self", "table", "targets", "strategy"] (sp_Responder_init K T.c_Table T.c_Responder) := by
  refine T.F_Responder_init.ok sc_Responder_init (fun vs H Q E h => ?_) (fun cdv A outer s H vs Q E hr h => ?_)
  · obtain ⟨a, dx, t, tg, x, ss, gs, k, rfl, _⟩ := h; rfl
  · obtain ⟨a, dx, t, tg, x, ss, gs, k, rfl, ha, hT, z, hG, hgs, hgiv, hok, q⟩ := h
    refine ⟨_, (C8.pss_cut (ps_set (i := 4) sc_Responder_init.nd rfl (Or.inl rfl) (pe_call (ok_sizes_of T) (hr.mono (by decide)) (by rfl) T.g_sizes_of T.F_sizes_of.kp T.b_sizes_of .nil pass0 (pa_cons (pv 1) pa_nil)))
      (C8.pss_cut (ps_expr (pe_call (ok_require_targets T) (hr.mono (by decide)) (by rfl) T.g_require_targets T.F_require_targets.kp T.b_require_targets .nil pass0 (pa_cons (pv 4) (pa_cons (pv 2) pa_nil))))
      (C8.pss_cut (ps_fld (pv 0) pe_non rfl)
      (C8.pss_cut (ps_fld (pv 0) (pe_lst pa_nil) rfl)
      (C8.pss_cut (ps_fld (pv 0) pe_dnewK rfl)
      (C8.pss_cut (ps_if (pt_val (pe_call (ok_is_layers T) (hr.mono (by decide)) (by rfl) T.g_is_layers T.F_is_layers.kp T.b_is_layers .nil pass0 (pa_cons (pv 3) pa_nil))) (C8.pss_cut ps_never
        (pss_one ps_never)) (pss_one (ps_if (pt_val (pe_call (ok_is_list_of_directions T) (hr.mono (by decide)) (by rfl) T.g_is_list_of_directions T.F_is_list_of_directions.kp T.b_is_list_of_directions .nil pass0 (pa_cons (pv 3) pa_nil))) (pss_one (ps_fld (pv 0) (pe_callTy list_H (by rfl) T.n_list (by decide +kernel) (pa_cons (pv 3) pa_nil)) rfl)) (pss_one (ps_if (pt_val (pe_call (ok_is_common_witness T) (hr.mono (by decide)) (by rfl) T.g_is_common_witness T.F_is_common_witness.kp T.b_is_common_witness .nil pass0 (pa_cons (pv 4) (pa_cons (pv 2) (pa_cons (pv 3) pa_nil))))) (pss_one (ps_fld (pv 0) (pv 3) rfl)) (pss_one ps_never))))))
      (C8.pss_cut (ps_fld (pv 0) (pv 4) rfl)
      (C8.pss_cut (ps_fld (pv 0) (pe_callB cr_sortTT (by rfl) T.n_sorted (by decide +kernel) (pa_cons (pv 2) pa_nil)) rfl)
      (pss_one (ps_fld (pv 0) pe_int rfl)))))))))), ?_⟩
    have cl := T.cl_Responder
    have tp := fun {G : Hp} (s : Sx a H G) => Tp.sxi ha s
    obtain ⟨as, htg, hA⟩ := id hG
    have tgt := fun {G : Hp} (s : Sx a H G) => (⟨as, s _ _ (ne_two htg ha (by simp)) htg, hA.tp (tp s)⟩ : LstT G tg gs)
    refine ⟨MRa0 T.c_Responder a dx t tg x ss H, ?_, ?_⟩
    · walk_at "rd"
      exact ⟨t, ss, rfl, hT, fun u hu => ⟨u, ⟨rfl, Sx.refl, ha⟩, hu⟩⟩
    rintro σ1 H1 ⟨u, ⟨rfl, s1, ha1⟩, hu⟩
    refine ⟨MRa T.c_Responder a dx t tg u x [] H, ?_, ?_⟩
    · walk_at "rd"
      exact ⟨false, true, u, tg, ss, gs, rfl, tp s1 _ _ hu, tgt s1, hgs.ne, hgs.nd, hgs.few, hgs.ok, z, fun H2 s2 => ⟨rfl, s1.trans (Sx.of s2), s2 _ _ ha1⟩⟩
    rintro σ2 H2 ⟨rfl, s2, ha2⟩
    refine ⟨MRa T.c_Responder a dx t tg u x [("_witness", .non)] H, ?_, ?_⟩
    · walk_at "rd"
      exact ⟨_, _, _, ha2, cl, T.no_Responder_witness, by decide, rfl, s2.trans Sx.put, upd_same⟩
    rintro σ3 H3 ⟨rfl, s3, ha3⟩
    refine ⟨MRa2 T.c_Responder a dx t tg u x H, ?_, ?_⟩
    · walk_at "rd"
      intro d hd
      have sd := Same.new hd (o := .lst [])
      have nda : d ≠ a := fun e => by rw [e, ha3] at hd; cases hd
      exact ⟨_, _, _, sd _ _ ha3, cl, T.no_Responder_directions, (by decide : 1 < 1000), d, ⟨rfl, (s3.trans (Sx.of sd)).trans Sx.put, upd_same⟩, s3.free nda hd, by rw [upd_ne nda, upd_same]⟩
    rintro σ4 H4 ⟨d, ⟨rfl, s4, ha4⟩, hd0, hd4⟩
    refine ⟨MRa3 T.c_Responder a dx t tg u d x H, ?_, ?_⟩
    · walk_at "rd"
      intro nm hnm
      have sn := Same.new hnm (o := .dK [])
      refine ⟨_, _, _, sn _ _ ha4, cl, T.no_Responder_numbers, (by decide : 2 < 1000), nm, ⟨rfl, (s4.trans (Sx.of sn)).trans Sx.put, upd_same⟩, ?_⟩
      rw [upd_ne (ne_two (sn _ _ hd4) (sn _ _ ha4) (by simp))]
      exact sn _ _ hd4
    rintro σ5 H5 ⟨nm, ⟨rfl, s5, ha5⟩, hd5⟩
    refine ⟨MRa4 T.c_Responder a dx t tg u nm x k H, ?_, ?_⟩
    · walk_at "rd"
      have hgiv5 := hgiv.sxi ha s5
      cases k with
      | wit m ws r =>
        obtain ⟨sh, rfl, hsh, hres⟩ := hgiv5
        obtain ⟨hw, hmb⟩ := hok
        obtain ⟨uw, hsh1, hsh2⟩ := id hsh
        refine ⟨_, rfl, isI_ty (.base (.tup hsh1)) (by decide +kernel), false, rfl, ?_⟩
        rw [if_neg (by decide)]
        refine ⟨_, false, rfl, .inl ⟨isI_tup_list hsh1, rfl⟩, fun H6 s6 => ⟨false, rfl, ?_⟩⟩
        rw [if_neg (by decide)]
        have hu6 := s6 _ _ (tp s5 _ _ hu)
        refine ⟨false, true, u, tg, sh, ss, gs, ws, m, r, rfl, hu6, TgtAt.same (k := true) s6 (tgt s5), by have := hgs.few; omega, hgs.ok, hsh.same s6, hw, z, hmb, hres, fun H7 s7 => ⟨true, rfl, ?_⟩⟩
        rw [if_pos rfl]
        have s67 := s6.trans s7
        have ha7 := s67 _ _ ha5
        exact ⟨_, _, _, ha7, cl, T.no_Responder_witness, (by decide : 3 < 1000), .ref sh, d, ⟨rfl, (s5.trans (Sx.of s67)).trans Sx.put, upd_same⟩, RK.at.put (k := .wit m ws r) ⟨sh, rfl, hsh.same s67, s67 _ _ hd5⟩ ha7⟩
      | dirs bs =>
        obtain ⟨l, rfl, hl5⟩ := hgiv5
        refine ⟨_, rfl, isI_ty (.base (.lst hl5)) (by decide +kernel), false, rfl, ?_⟩
        rw [if_neg (by decide)]
        refine ⟨_, true, rfl, .inr ⟨l, bs, rfl, hl5, hok.1, hok.2, rfl⟩, fun H6 s6 => ⟨true, rfl, ?_⟩⟩
        rw [if_pos rfl]
        refine ⟨l, rfl, .inl ⟨_, s6 _ _ hl5, fun e he => ?_⟩⟩
        have se := s6.trans (Same.new he (o := .lst (bs.map fun b => V.str (offW b))))
        have hae := se _ _ ha5
        exact ⟨_, _, _, hae, cl, T.no_Responder_directions, (by decide : 3 < 1000), .non, e, ⟨rfl, (s5.trans (Sx.of se)).trans Sx.put, upd_same⟩, RK.at.put (k := .dirs bs) ⟨rfl, upd_same⟩ hae⟩
    rintro σ6 H6 ⟨wv, d2, ⟨rfl, s6, ha6⟩, hk6⟩
    refine ⟨MRa5 T.c_Responder a dx t tg u nm d2 x wv k H, ?_, ?_⟩
    · walk_at "rd"
      exact ⟨_, _, _, ha6, cl, T.no_Responder_sizes, (by decide : 3 < 1000), ⟨rfl, s6.trans Sx.put, upd_same⟩, hk6.put ha6⟩
    rintro σ7 H7 ⟨⟨rfl, s7, ha7⟩, hk7⟩
    refine ⟨MRa6 T.c_Responder a dx t tg u nm d2 x wv k gs H, ?_, ?_⟩
    · walk_at "rd"
      obtain ⟨bs, htg7, hA7⟩ := tgt s7
      refine ⟨tg, bs, gs, ss.length, rfl, htg7, hA7, by have := hgs.few; omega, z.lo, fun g hg => seat_bd z (hgs.ok g hg), fun p cs hs hp hAc hperm hsrt => ?_⟩
      have sp := Same.new hp (o := .lst (cs.map V.ref))
      refine ⟨_, _, _, sp _ _ ha7, cl, T.no_Responder_targets, (by decide : 4 < 1000), p, hs, ⟨rfl, (s7.trans (Sx.of sp)).trans Sx.put, upd_same⟩, (hk7.same sp).put (sp _ _ ha7), ?_, hperm, hsrt⟩
      exact LstT.put ⟨cs, upd_same, hAc.same sp⟩ (sp _ _ ha7)
    rintro σ8 H8 ⟨p, hs, ⟨rfl, s8, ha8⟩, hk8, hL8, hperm, hsrt⟩
    walk_at "rd"
    refine ⟨_, _, _, ha8, cl, T.no_Responder_turn, (by decide : 5 < 1000), q _ (s8.trans Sx.put) ⟨dx, wv, d2, nm, u, p, hs, by rw [upd_same]; rfl, hk8.put ha8, ?_, hL8.put ha8, hperm, hsrt⟩⟩
    rw [upd_ne (ne_two (tp s8 _ _ hu) ha8 (by simp))]
    exact tp s8 _ _ hu
theorem resp_made {C R x dx t tg : Addr} {y : V} {ss : List Int} {gs : List (List Int)} {k : RK} {G : Hp} {Q : VK} {E : XK} (hx : G x = none) (hdx : G dx = none) (hne : dx ≠ x) (hT : TabAt C G t ss) (z : Sz ss) (hG : LstT G tg gs) (hgs : Tgts ss gs) (hgiv : k.given G y gs) (hok : k.ok ss)
    (h : ∀ G', Same G G' → RespAt R G' x ss gs k 0 → Q .non G') : sp_Responder_init K C R [.ref x, .ref t, .ref tg, y] (upd (upd G dx (.own x)) x (.ins R dx [])) Q E := by
  have s3 : Same G (upd (upd G dx (.own x)) x (.ins R dx [])) := (Same.new hdx).trans (Same.new (by rw [upd_ne hne.symm]; exact hx))
  exact ⟨x, dx, t, tg, y, ss, gs, k, rfl, upd_same, hT.same s3, z, hG.same s3, hgs, hgiv.same s3, hok, fun G' s4 hR => h G' (fun b o hb => s4 _ _ (ne_some hb hx) (s3 _ _ hb)) hR⟩
def MCa (R a dx t tg z : Addr) (x : V) (v5 : Option V) (fs : List (Str × V)) (H : Hp) (σ : L2.St) (H' : Hp) : Prop := σ = [some (V.ref a), some (V.ref t), some (V.ref tg), some x, some (V.ref z), v5] ∧ Sx a H H' ∧ H' a = some (.ins R dx fs)
def MCa0 (R a dx t tg : Addr) (x : V) (ss : List Int) (H : Hp) (σ : L2.St) (H' : Hp) : Prop := ∃ z, MCa R a dx t tg z x none [] H σ H' ∧ H z = some (.tup (ss.map V.int))
def MCa2 (R a dx t tg z : Addr) (x : V) (H : Hp) (σ : L2.St) (H' : Hp) : Prop := ∃ l, MCa R a dx t tg z x none [("_listed", .ref l)] H σ H'
def MCa3 (R a dx t tg z : Addr) (x : V) (css : List (List Int)) (H : Hp) (σ : L2.St) (H' : Hp) : Prop := ∃ l v5, MCa R a dx t tg z x v5 [("_listed", .ref l), ("_grid", .non), ("_spread", .non)] H σ H' ∧ LstT H' l css
def MCa4 (R a dx t tg z l : Addr) (x : V) (css : List (List Int)) (H : Hp) (σ : L2.St) (H' : Hp) : Prop := ∃ v5, MCa R a dx t tg z x v5 [("_listed", .ref l), ("_grid", .non), ("_spread", .non), ("_sizes", .ref z)] H σ H' ∧ LstT H' l css
def MCa5 (R a dx t tg z l : Addr) (x : V) (css gs : List (List Int)) (H : Hp) (σ : L2.St) (H' : Hp) : Prop := ∃ u hs v5, MCa R a dx t tg z x v5 [("_listed", .ref l), ("_grid", .non), ("_spread", .non), ("_sizes", .ref z), ("_targets", .ref u)] H σ H' ∧ LstT H' l css ∧ LstT H' u hs ∧ hs.Perm gs ∧ SrtT hs
/-- a comprehension that makes a list of tuples of ints -/
theorem lcr_tupf {J : It} {n : Nat} {G : Hp → Prop} {Y : Nat → Hp → V → Hp → Prop} (w : Walk J n G Y) {g : TG} {te : TE} {vs : List Nat} {σ : L2.St} {H1 : Hp} {Q : VK} (f : Nat → List Int) (hn : n ≤ 1000)
    (hG : ∀ H, Same H1 H → G H) (hY : ∀ i x H H', Y i H x H' → Same H H')
    (hs : ∀ i x H H' (Qy : VK), i < n → Same H1 H → Y i H x H' → (∀ t H4, Same H' H4 → H4 t = some (.tup ((f i).map V.int)) → Qy (.ref t) H4) → g x (wipe σ vs) H' fun σ2 H2 => wipe σ2 vs = wipe σ vs ∧ te σ2 H2 Qy)
    (hd : ∀ D H, H1 D = none → Same H1 H → LstT H D ((List.range n).map f) → Q (.ref D) H) : LcR J g tYes te vs σ H1 Q := fun D hD => by
  refine lc_gen w (fun i acc H => Same H1 H ∧ (∃ ys, H D = some (.lst ys)) ∧ ∃ as, acc = as.map V.ref ∧ AsT H as ((List.range i).map f)) (Nat.le_trans hn (by decide)) ⟨Same.new hD, ⟨_, upd_same⟩, [], rfl, AsT.nil⟩ (fun i acc H _ h _ => hG H h.1) (fun i acc H l h _ => ?_) (fun i acc x H H' Qy hi ha h e hy hq => ?_) (fun acc H ha h e => ?_)
  · obtain ⟨h1, ⟨ys, h2⟩, as, h3, h4⟩ := h
    exact ⟨fun b o hb => by rw [upd_ne (ne_some hb hD)]; exact h1 _ _ hb, ⟨_, upd_same⟩, as, h3, h4.tp (Tp.put h2 (by simp))⟩
  · obtain ⟨h1, ⟨ys, h2⟩, as, h3, h4⟩ := h
    refine hs i x H H' Qy hi h1 hy fun t H4 s4 h5 => ?_
    have s04 := (hY _ _ _ _ hy).trans s4
    refine hq (.ref t) H4 (s04 _ _ e) ⟨h1.trans s04, ⟨_, s04 _ _ h2⟩, as ++ [t], by rw [h3, List.map_append]; rfl, ?_⟩
    rw [List.range_succ, List.map_append]
    exact (h4.same s04).snoc h5
  · obtain ⟨h1, _, as, h3, h4⟩ := h
    exact hd D H hD h1 ⟨as, by rw [← h3]; exact e, h4⟩
theorem range_map {α β : Type} (l : List α) (f : α → β) (g : Nat → β) (h : ∀ (i : Nat) x, l[i]? = some x → g i = f x) : (List.range l.length).map g = l.map f := by
  refine List.ext_getElem (by simp) fun i h1 h2 => ?_
  simp only [List.length_map, List.length_range] at h1
  rw [List.getElem_map, List.getElem_map, List.getElem_range]
  exact h i _ (List.getElem?_eq_getElem h1)
def sp_Caller_init (K : PySem.W.Frag) (C R : Addr) : Sp := fun vs H Q _ => ∃ (a dx t tg l : Addr) (ss : List Int) (gs css : List (List Int)), vs = [.ref a, .ref t, .ref tg, .ref l] ∧ H a = some (.ins R dx []) ∧ TabAt C H t ss ∧ Sz ss ∧ LstT H tg gs ∧ Tgts ss gs ∧ LstT H l css ∧ css ≠ [] ∧ css.length ≤ 1000 ∧ (∀ c ∈ css, c.length = ss.length) ∧
  ∀ H', Sx a H H' → CallAt R H' a ss gs (css.map fun c => redC c ss) 0 → Q .non H'
theorem ok_Caller_init (T : Tx K mg) : FnOk P w K mg base CX0 4 T.f_Caller_init T.fd_Caller_init ["self", "table", "targets", "strategy"] (sp_Caller_init K T.c_Table T.c_Caller) := by
  refine T.F_Caller_init.ok sc_Caller_init (fun vs H Q E h => ?_) (fun cdv A outer s H vs Q E hr h => ?_)
  · obtain ⟨a, dx, t, tg, l, ss, gs, css, rfl, _⟩ := h; rfl
  · obtain ⟨a, dx, t, tg, l, ss, gs, css, rfl, ha, hT, z, hG, hgs, hL, hne, hk, hlen, q⟩ := h
    refine ⟨_, (C8.pss_cut (ps_set (i := 4) sc_Caller_init.nd rfl (Or.inr rfl) (pe_call (ok_sizes_of T) (hr.mono (by decide)) (by rfl) T.g_sizes_of T.F_sizes_of.kp T.b_sizes_of .nil pass0 (pa_cons (pv 1) pa_nil)))
      (C8.pss_cut (ps_expr (pe_call (ok_require_targets T) (hr.mono (by decide)) (by rfl) T.g_require_targets T.F_require_targets.kp T.b_require_targets .nil pass0 (pa_cons (pv 4) (pa_cons (pv 2) pa_nil))))
      (C8.pss_cut (ps_fld (pv 0) (pe_lst pa_nil) rfl)
      (C8.pss_cut (ps_fld (pv 0) pe_non rfl)
      (C8.pss_cut (ps_fld (pv 0) pe_non rfl)
      (C8.pss_cut (ps_if (pt_val (pe_call (ok_is_layers T) (hr.mono (by decide)) (by rfl) T.g_is_layers T.F_is_layers.kp T.b_is_layers .nil pass0 (pa_cons (pv 3) pa_nil))) (C8.pss_cut ps_never
        (C8.pss_cut ps_never
        (pss_one ps_never))) (pss_one (ps_if (pt_val (pe_call (ok_is_list_of_calls T) (hr.mono (by decide)) (by rfl) T.g_is_list_of_calls T.F_is_list_of_calls.kp T.b_is_list_of_calls .nil pass0 (pa_cons (pv 4) (pa_cons (pv 3) pa_nil)))) (pss_one (ps_fld (pv 0) (pe_lc (own := [("call", 5)]) (g := (gName 5)) (tt := tYes) rfl sc_Caller_init.nd (pi_seqH (pv 3)) (blkOk_by (own := [("call", 5)]) (N := N_Caller_init) (sc := defScope d_Caller_init) (by decide +kernel)) (fun _ _ _ _ _ => (pg_name (i := 5) sc_Caller_init.nd rfl (Or.inl rfl))) (fun _ _ _ _ _ => pts_nil) (fun _ _ _ _ _ => (pe_call (ok_reduced_call T) (hr.mono (by decide)) (by rfl) T.g_reduced_call T.F_reduced_call.kp T.b_reduced_call .nil pass0 (pa_cons (pv 4) (pa_cons (pv 5) pa_nil))))) rfl)) (pss_one ps_never))))
      (C8.pss_cut (ps_fld (pv 0) (pv 4) rfl)
      (C8.pss_cut (ps_fld (pv 0) (pe_callB cr_sortTT (by rfl) T.n_sorted (by decide +kernel) (pa_cons (pv 2) pa_nil)) rfl)
      (pss_one (ps_fld (pv 0) pe_int rfl)))))))))), ?_⟩
    have cl := T.cl_Caller
    have tp := fun {G : Hp} (s : Sx a H G) => Tp.sxi ha s
    obtain ⟨as, htg, hA⟩ := id hG
    have tgt := fun {G : Hp} (s : Sx a H G) => (⟨as, s _ _ (ne_two htg ha (by simp)) htg, hA.tp (tp s)⟩ : LstT G tg gs)
    obtain ⟨cs, hl, hC⟩ := id hL
    have lst := fun {G : Hp} (s : Sx a H G) => (⟨cs, s _ _ (ne_two hl ha (by simp)) hl, hC.tp (tp s)⟩ : LstT G l css)
    refine ⟨MCa0 T.c_Caller a dx t tg (.ref l) ss H, ?_, ?_⟩
    · walk_at "rd"
      exact ⟨t, ss, rfl, hT, fun u hu => ⟨u, ⟨rfl, Sx.refl, ha⟩, hu⟩⟩
    rintro σ1 H1 ⟨u, ⟨rfl, s1, ha1⟩, hu⟩
    refine ⟨MCa T.c_Caller a dx t tg u (.ref l) none [] H, ?_, ?_⟩
    · walk_at "rd"
      exact ⟨false, true, u, tg, ss, gs, rfl, tp s1 _ _ hu, tgt s1, hgs.ne, hgs.nd, hgs.few, hgs.ok, z, fun H2 s2 => ⟨rfl, s1.trans (Sx.of s2), s2 _ _ ha1⟩⟩
    rintro σ2 H2 ⟨rfl, s2, ha2⟩
    refine ⟨MCa2 T.c_Caller a dx t tg u (.ref l) H, ?_, ?_⟩
    · walk_at "rd"
      intro d hd
      have sd := Same.new hd (o := .lst [])
      exact ⟨_, _, _, sd _ _ ha2, cl, T.no_Caller_listed, (by decide : 0 < 1000), d, rfl, (s2.trans (Sx.of sd)).trans Sx.put, upd_same⟩
    rintro σ3 H3 ⟨d, rfl, s3, ha3⟩
    refine ⟨MCa T.c_Caller a dx t tg u (.ref l) none [("_listed", .ref d), ("_grid", .non)] H, ?_, ?_⟩
    · walk_at "rd"
      exact ⟨_, _, _, ha3, cl, T.no_Caller_grid, (by decide : 1 < 1000), rfl, s3.trans Sx.put, upd_same⟩
    rintro σ4 H4 ⟨rfl, s4, ha4⟩
    refine ⟨MCa T.c_Caller a dx t tg u (.ref l) none [("_listed", .ref d), ("_grid", .non), ("_spread", .non)] H, ?_, ?_⟩
    · walk_at "rd"
      exact ⟨_, _, _, ha4, cl, T.no_Caller_spread, (by decide : 2 < 1000), rfl, s4.trans Sx.put, upd_same⟩
    rintro σ5 H5 ⟨rfl, s5, ha5⟩
    refine ⟨MCa3 T.c_Caller a dx t tg u (.ref l) (css.map fun c => redC c ss) H, ?_, ?_⟩
    · walk_at "rd"
      have hl5 := lst s5
      obtain ⟨cs5, hl51, hC5⟩ := id hl5
      refine ⟨_, rfl, isI_ty (.base (.lst hl51)) (by decide +kernel), false, rfl, ?_⟩
      rw [if_neg (by decide)]
      refine ⟨false, u, l, ss.map V.int, css, rfl, tp s5 _ _ hu, hl5, hne, hk, fun c hc => by rw [List.length_map]; exact hlen c hc, by rw [List.length_map]; exact z.hi, fun H6 s6 => ⟨true, rfl, ?_⟩⟩
      rw [if_pos rfl]
      have hu6 := s6 _ _ (tp s5 _ _ hu)
      obtain ⟨cs6, hl61, hC6⟩ := LstT.same s6 hl5
      refine .inl ⟨_, hl61, fun J W => ?_⟩
      refine lcr_tupf W (fun i => redC (css.getD i []) ss) (by rw [List.length_map, hC6.1]; exact hk) (fun H7 s7 => s7 _ _ hl61) (fun _ _ _ _ y => YAt.same y) ?_ ?_
      · rintro i x H7 H8 Qy hi s7 ⟨rfl, hx⟩ hq
        simp only [List.getElem?_map, Option.map_eq_some_iff] at hx
        obtain ⟨c, hc, rfl⟩ := hx
        rw [List.length_map, hC6.1] at hi
        have hg := List.getElem?_eq_getElem hi
        have hgd : css.getD i [] = css[i] := by rw [List.getD_eq_getElem?_getD, hg]; rfl
        walk_at "rd"
        exact ⟨false, false, u, c, ss, css[i], rfl, s7 _ _ hu6, s7 _ _ (hC6.2 i c _ hc hg), hlen _ (List.getElem_mem hi), z, fun H9 p s9 hp => hq p H9 s9 (by rw [hgd]; exact hp)⟩
      · intro D H7 hD s7 hL7
        rw [List.length_map, hC6.1, range_map css (fun c => redC c ss) _ (fun i x hx => by rw [List.getD_eq_getElem?_getD, hx]; rfl)] at hL7
        have s67 := s6.trans s7
        exact ⟨_, _, _, s67 _ _ ha5, cl, T.no_Caller_listed, (by decide : 3 < 1000), D, _, ⟨rfl, (s5.trans (Sx.of s67)).trans Sx.put, upd_same⟩, hL7.put (s67 _ _ ha5)⟩
    rintro σ6 H6 ⟨e, v5, ⟨rfl, s6, ha6⟩, hL6⟩
    refine ⟨MCa4 T.c_Caller a dx t tg u e (.ref l) (css.map fun c => redC c ss) H, ?_, ?_⟩
    · walk_at "rd"
      exact ⟨_, _, _, ha6, cl, T.no_Caller_sizes, (by decide : 3 < 1000), v5, ⟨rfl, s6.trans Sx.put, upd_same⟩, hL6.put ha6⟩
    rintro σ7 H7 ⟨v5, ⟨rfl, s7, ha7⟩, hL7⟩
    refine ⟨MCa5 T.c_Caller a dx t tg u e (.ref l) (css.map fun c => redC c ss) gs H, ?_, ?_⟩
    · walk_at "rd"
      obtain ⟨bs, htg7, hA7⟩ := tgt s7
      refine ⟨tg, bs, gs, ss.length, rfl, htg7, hA7, by have := hgs.few; omega, z.lo, fun g hg => seat_bd z (hgs.ok g hg), fun p cs hs hp hAc hperm hsrt => ?_⟩
      have sp := Same.new hp (o := .lst (cs.map V.ref))
      refine ⟨_, _, _, sp _ _ ha7, cl, T.no_Caller_targets, (by decide : 4 < 1000), p, hs, v5, ⟨rfl, (s7.trans (Sx.of sp)).trans Sx.put, upd_same⟩, (hL7.same sp).put (sp _ _ ha7), ?_, hperm, hsrt⟩
      exact LstT.put ⟨cs, upd_same, hAc.same sp⟩ (sp _ _ ha7)
    rintro σ8 H8 ⟨p, hs, v5, ⟨rfl, s8, ha8⟩, hL8, hP8, hperm, hsrt⟩
    walk_at "rd"
    refine ⟨_, _, _, ha8, cl, T.no_Caller_turn, (by decide : 5 < 1000), q _ (s8.trans Sx.put) ⟨dx, e, u, p, hs, by rw [upd_same]; rfl, hL8.put ha8, ?_, hP8.put ha8, hperm, hsrt⟩⟩
    rw [upd_ne (ne_two (tp s8 _ _ hu) ha8 (by simp))]
    exact tp s8 _ _ hu
theorem call_made {C R x dx t tg l : Addr} {ss : List Int} {gs css : List (List Int)} {G : Hp} {Q : VK} {E : XK} (hx : G x = none) (hdx : G dx = none) (hne : dx ≠ x) (hT : TabAt C G t ss) (z : Sz ss) (hG : LstT G tg gs) (hgs : Tgts ss gs) (hL : LstT G l css) (h0 : css ≠ []) (hk : css.length ≤ 1000) (hlen : ∀ c ∈ css, c.length = ss.length)
    (h : ∀ G', Same G G' → CallAt R G' x ss gs (css.map fun c => redC c ss) 0 → Q .non G') : sp_Caller_init K C R [.ref x, .ref t, .ref tg, .ref l] (upd (upd G dx (.own x)) x (.ins R dx [])) Q E := by
  have s3 : Same G (upd (upd G dx (.own x)) x (.ins R dx [])) := (Same.new hdx).trans (Same.new (by rw [upd_ne hne.symm]; exact hx))
  exact ⟨x, dx, t, tg, l, ss, gs, css, rfl, upd_same, hT.same s3, z, hG.same s3, hgs, hL.same s3, h0, hk, hlen, fun G' s4 hR => h G' (fun b o hb => s4 _ _ (ne_some hb hx) (s3 _ _ hb)) hR⟩
end

/-! ### what players answer, games -/
section
variable {P : Program} {w : World} {K : PySem.W.Frag} {mg : Str → Option Value} {base : Heap}
def sp_direction_off (K : PySem.W.Frag) : Sp := fun vs H Q _ => ∃ (sh p c : Addr) (ps cs ws : List Int) (m r : Int), vs = [.ref sh, .ref p, .ref c] ∧ ShAt H sh m ws r ∧ H p = some (.tup (ps.map V.int)) ∧ H c = some (.tup (cs.map V.int)) ∧ ws.length = ps.length ∧ ws.length = cs.length ∧ ws.length ≤ 64 ∧ 0 < m ∧
  (∀ (i : Nat) x y, ws[i]? = some x → ps[i]? = some y → CMulA x y) ∧ (∀ (i : Nat) x y, ws[i]? = some x → cs[i]? = some y → CMulA x y) ∧ ∀ H', Same H H' → Q (.str (offW (decide ((dot ws ps + dot ws cs) % m = r)))) H'
theorem ok_direction_off (T : Tx K mg) : FnOk P w K mg base CX0 2 T.f_direction_off T.fd_direction_off ["witness", "seat", "call"] (sp_direction_off K) := by
  refine T.F_direction_off.ok sc_direction_off (fun vs H Q E h => ?_) (fun cdv A outer s H vs Q E hr h => ?_)
  · obtain ⟨sh, p, c, ps, cs, ws, m, r, rfl, _⟩ := h; rfl
  · obtain ⟨sh, p, c, ps, cs, ws, m, r, rfl, ⟨u, h1, h2⟩, hp, hc, l1, l2, h64, hm, m1, m2, q⟩ := h
    refine ⟨_, (pss_cons (ps_asg (pv 0) (pg_tupH (n := 3) rfl (pgs_cons (pg_name (i := 3) sc_direction_off.nd rfl (Or.inl rfl)) (pgs_cons (pg_name (i := 4) sc_direction_off.nd rfl (Or.inl rfl)) (pgs_cons (pg_name (i := 5) sc_direction_off.nd rfl (Or.inl rfl)) pgs_nil)))))
      (pss_cons (ps_if (pt_cmpR op_eq (pe_op op_mod (pe_op op_add (pe_call (ok_weighted_sum T) (hr.mono (by decide)) (by rfl) T.g_weighted_sum T.F_weighted_sum.kp T.b_weighted_sum .nil pass0 (pa_cons (pv 4) (pa_cons (pv 1) pa_nil))) (pe_call (ok_weighted_sum T) (hr.mono (by decide)) (by rfl) T.g_weighted_sum T.F_weighted_sum.kp T.b_weighted_sum .nil pass0 (pa_cons (pv 4) (pa_cons (pv 2) pa_nil)))) (pv 3)) (pv 5) (nomark _)) (pss_one (ps_ret pe_str)) pss_nil)
      (pss_one (ps_ret pe_str)))), ?_⟩
    walk_at "rd"
    refine ⟨_, h1, rfl, ?_⟩
    walk_at "rd"
    refine ⟨false, false, u, p, ws, ps, rfl, h2, hp, l1, h64, m1, fun H1 s1 => ?_⟩
    walk_at "rd"
    refine ⟨false, false, u, c, ws, cs, rfl, s1 _ _ h2, s1 _ _ hc, l2, h64, m2, fun H2 s2 => ?_⟩
    walk_at "rd"
    refine ⟨hm, ?_⟩
    have q' := q _ (s1.trans s2)
    by_cases e : (dot ws ps + dot ws cs) % m = r
    · rw [if_pos e]
      rw [decide_eq_true e] at q'
      exact q'
    · rw [if_neg e]
      rw [decide_eq_false e] at q'
      exact q'
def RK.muls (cs : List Int) : RK → Prop
  | .wit _ ws _ => ∀ (i : Nat) x y, ws[i]? = some x → cs[i]? = some y → CMulA x y
  | .dirs _ => True
def sp_Responder_has_lost_at (K : PySem.W.Frag) (R : Addr) : Sp := fun vs H Q _ => ∃ (a p : Addr) (ss : List Int) (gs : List (List Int)) (k : RK) (n : Nat) (ps : List Int), vs = [.ref a, .ref p] ∧ RespAt R H a ss gs k n ∧ k.ok ss ∧ Sz ss ∧ H p = some (.tup (ps.map V.int)) ∧ Seat ss ps ∧ ∀ H', Same H H' → Q (.bl (k.lost ps)) H'
theorem ok_Responder_has_lost_at (T : Tx K mg) : FnOk P w K mg base CX0 3 T.f_Responder_has_lost_at T.fd_Responder_has_lost_at ["self", "seat"] (sp_Responder_has_lost_at K T.c_Responder) := by
  refine T.F_Responder_has_lost_at.ok sc_Responder_has_lost_at (fun vs H Q E h => ?_) (fun cdv A outer s H vs Q E hr h => ?_)
  · obtain ⟨a, p, ss, gs, k, n, ps, rfl, _⟩ := h; rfl
  · obtain ⟨a, p, ss, gs, k, n, ps, rfl, ⟨dx, wv, d, nm, zz, t, hs, ha, hk, hz, ht, hperm, hsrt⟩, hok, z, hp, hS, q⟩ := h
    refine ⟨_, (pss_one (ps_ret (pe_and (pe_cmpR op_notN (pe_fld (pv 0) rfl) pe_non (nomark _)) (pe_one (pe_call (ok_has_residue T) (hr.mono (by decide)) (by rfl) T.g_has_residue T.F_has_residue.kp T.b_has_residue .nil pass0 (pa_cons (pe_fld (pv 0) rfl) (pa_cons (pv 1) pa_nil))))))), ?_⟩
    walk_at "rd"
    refine ⟨_, _, _, ha, T.cl_Responder, T.no_Responder_witness, wv, rfl, ?_⟩
    cases k with
    | wit m ws r =>
      obtain ⟨sh, rfl, hsh, _⟩ := hk
      obtain ⟨hw, hmb⟩ := hok
      rw [if_pos (fun h => nomatch h)]
      exact ⟨_, _, _, ha, T.cl_Responder, T.no_Responder_witness, .ref sh, rfl, sh, p, ps, ws, m, r, rfl, hsh, hp, by rw [hw.len, hS.len], by rw [hw.len]; have := z.hi; omega, by have := hw.three; omega, mul_seat hw z hmb hS, fun H' s => q H' s⟩
    | dirs bs =>
      obtain ⟨rfl, _⟩ := hk
      rw [if_neg (fun h => h rfl)]
      exact q H (Same.refl _)
def sp_Responder_direction_at (K : PySem.W.Frag) (R : Addr) : Sp := fun vs H Q _ => ∃ (a p c : Addr) (j : Nat) (ss : List Int) (gs : List (List Int)) (k : RK) (n : Nat) (ps cs : List Int), vs = [.ref a, .int (j : Nat), .ref p, .ref c] ∧ RespAt R H a ss gs k n ∧ k.ok ss ∧ Sz ss ∧ H p = some (.tup (ps.map V.int)) ∧ Seat ss ps ∧
  H c = some (.tup (cs.map V.int)) ∧ cs.length = ss.length ∧ k.muls cs ∧ ∀ H', Same H H' → Q (.str (offW (k.ans j ps cs))) H'
theorem ok_Responder_direction_at (T : Tx K mg) : FnOk P w K mg base CX0 3 T.f_Responder_direction_at T.fd_Responder_direction_at ["self", "turn", "seat", "call"] (sp_Responder_direction_at K T.c_Responder) := by
  refine T.F_Responder_direction_at.ok sc_Responder_direction_at (fun vs H Q E h => ?_) (fun cdv A outer s H vs Q E hr h => ?_)
  · obtain ⟨a, p, c, j, ss, gs, k, n, ps, cs, rfl, _⟩ := h; rfl
  · obtain ⟨a, p, c, j, ss, gs, k, n, ps, cs, rfl, ⟨dx, wv, d, nm, zz, t, hs, ha, hk, hz, ht, hperm, hsrt⟩, hok, z, hp, hS, hc, hcl, hmul, q⟩ := h
    refine ⟨_, (pss_cons (ps_if (pt_cmpR op_notN (pe_fld (pv 0) rfl) pe_non (nomark _)) (pss_one (ps_ret (pe_call (ok_direction_off T) (hr.mono (by decide)) (by rfl) T.g_direction_off T.F_direction_off.kp T.b_direction_off .nil pass0 (pa_cons (pe_fld (pv 0) rfl) (pa_cons (pv 2) (pa_cons (pv 3) pa_nil)))))) pss_nil)
      (pss_cons (ps_if (pt_truth (pe_fld (pv 0) rfl) (by intro _; rfl)) (pss_one (ps_ret (pe_ix ix_lH (pe_fld (pv 0) rfl) (pe_op op_mod (pv 1) (pe_callB len_H (by rfl) T.n_len PySem.boot_len (pa_cons (pe_fld (pv 0) rfl) pa_nil))) (fun _ _ => rfl)))) pss_nil)
      (pss_cons ps_never
      (pss_cons ps_never
      (pss_one ps_never))))), ?_⟩
    walk_at "rd"
    refine ⟨_, _, _, ha, T.cl_Responder, T.no_Responder_witness, wv, rfl, ?_⟩
    cases k with
    | wit m ws r =>
      obtain ⟨sh, rfl, hsh, _⟩ := hk
      obtain ⟨hw, hmb⟩ := hok
      rw [if_pos (fun h => nomatch h)]
      exact ⟨_, _, _, ha, T.cl_Responder, T.no_Responder_witness, .ref sh, rfl, sh, p, c, ps, cs, ws, m, r, rfl, hsh, hp, hc, by rw [hw.len, hS.len], by rw [hw.len, hcl], by rw [hw.len]; have := z.hi; omega, by have := hw.three; omega, mul_seat hw z hmb hS, hmul, fun H' s => q H' s⟩
    | dirs bs =>
      obtain ⟨rfl, hd⟩ := hk
      obtain ⟨hne, hk⟩ := hok
      have h0 := List.length_pos_iff.mpr hne
      have hlt : j % bs.length < bs.length := Nat.mod_lt _ h0
      rw [if_neg (fun h => h rfl)]
      refine ⟨_, _, _, ha, T.cl_Responder, T.no_Responder_directions, .ref d, rfl, true, .inl ⟨_, .inl (.inl hd), ?_⟩, ?_⟩
      · cases bs with
        | nil => exact absurd rfl hne
        | cons b bs => rfl
      rw [if_pos rfl]
      refine ⟨_, _, _, ha, T.cl_Responder, T.no_Responder_directions, .ref d, rfl, _, _, _, ha, T.cl_Responder, T.no_Responder_directions, .ref d, rfl, d, rfl, .inl ⟨_, hd, by rw [List.length_map]; omega, d, rfl, _, hd, V.str (offW (bs.getD (j % bs.length) false)), ?_, q H (Same.refl _)⟩⟩
      rw [List.length_map, ← Int.natCast_emod]
      refine atI_nat ?_
      rw [List.getElem?_map, List.getElem?_eq_getElem hlt, List.getD_eq_getElem?_getD, List.getElem?_eq_getElem hlt]
      rfl
def sp_Responder_belongs_to (K : PySem.W.Frag) (R : Addr) : Sp := fun vs H Q _ => ∃ (a z tg : Addr) (ss : List Int) (gs gs' : List (List Int)) (k : RK) (n : Nat), vs = [.ref a, .ref z, .ref tg] ∧ RespAt R H a ss gs k n ∧ H z = some (.tup (ss.map V.int)) ∧ LstT H tg gs' ∧ gs'.Perm gs ∧ gs'.length < 64 ∧ (∀ g ∈ gs', Seat ss g) ∧ Sz ss ∧ ∀ H', Same H H' → Q (.bl true) H'
theorem ok_Responder_belongs_to (T : Tx K mg) : FnOk P w K mg base CX0 1 T.f_Responder_belongs_to T.fd_Responder_belongs_to ["self", "sizes", "targets"] (sp_Responder_belongs_to K T.c_Responder) := by
  refine T.F_Responder_belongs_to.ok sc_Responder_belongs_to (fun vs H Q E h => ?_) (fun cdv A outer s H vs Q E hr h => ?_)
  · obtain ⟨a, z, tg, ss, gs, gs', k, n, rfl, _⟩ := h; rfl
  · obtain ⟨a, zz, tg, ss, gs, gs', k, n, rfl, ⟨dx, wv, d, nm, u, t, hs, ha, hk, hu, ht, hperm, hsrt⟩, hz, hG, hp2, few, hok, z, q⟩ := h
    refine ⟨_, (pss_one (ps_ret (pe_and (pe_cmpR (op_eqDK (K := K) rfl hr.units) (pe_fld (pv 0) rfl) (pv 1) (nomark _)) (pe_one (pe_cmpR (op_eqDK (K := K) rfl hr.units) (pe_fld (pv 0) rfl) (pe_callB cr_sortTT (by rfl) T.n_sorted (by decide +kernel) (pa_cons (pv 2) pa_nil)) (nomark _)))))), ?_⟩
    walk_at "rd"
    refine ⟨_, _, _, ha, T.cl_Responder, T.no_Responder_sizes, .ref u, rfl, eqD_tup hu hz ?_⟩
    rw [decide_eq_true rfl]
    refine ⟨_, rfl, ?_⟩
    rw [if_pos rfl]
    obtain ⟨as, htg, hA⟩ := id hG
    refine ⟨_, _, _, ha, T.cl_Responder, T.no_Responder_targets, .ref t, rfl, tg, as, gs', ss.length, rfl, htg, hA, few, z.lo, fun g hg => seat_bd z (hok g hg), fun p bs ks hp hB hpk hsk => ?_⟩
    have sp := Same.new hp (o := .lst (bs.map V.ref))
    have e : hs = ks := srt_same (hperm.trans (hp2.symm.trans hpk.symm)) hsrt hsk fun g hg => seat_bd z (hok g ((hperm.trans hp2.symm).mem_iff.mp hg))
    subst e
    exact eqD_tups' (ht.same sp) ⟨bs, upd_same, hB.same sp⟩ (q _ sp)
def sp_Responder_answer (K : PySem.W.Frag) (R : Addr) : Sp := fun vs H Q _ => ∃ (a p c : Addr) (ss : List Int) (gs : List (List Int)) (k : RK) (n : Nat) (ps cs : List Int), vs = [.ref a, .ref p, .ref c] ∧ RespAt R H a ss gs k n ∧ k.ok ss ∧ Sz ss ∧ H p = some (.tup (ps.map V.int)) ∧ Seat ss ps ∧
  H c = some (.tup (cs.map V.int)) ∧ cs.length = ss.length ∧ k.muls cs ∧ k.lost ps = false ∧ ∀ H', Sx a H H' → RespAt R H' a ss gs k (n + 1) → Q (.str (offW (k.ans n ps cs))) H'
theorem ok_Responder_answer (T : Tx K mg) : FnOk P w K mg base CX0 4 T.f_Responder_answer T.fd_Responder_answer ["self", "seat", "call"] (sp_Responder_answer K T.c_Responder) := by
  refine T.F_Responder_answer.ok sc_Responder_answer (fun vs H Q E h => ?_) (fun cdv A outer s H vs Q E hr h => ?_)
  · obtain ⟨a, p, c, ss, gs, k, n, ps, cs, rfl, _⟩ := h; rfl
  · obtain ⟨a, p, c, ss, gs, k, n, ps, cs, rfl, hR, hok, z, hp, hS, hc, hcl, hmul, hlost, q⟩ := h
    refine ⟨_, (C8.pss_cut (ps_expr (pe_call (ok_require_seat T) (hr.mono (by decide)) (by rfl) T.g_require_seat T.F_require_seat.kp T.b_require_seat .nil pass0 (pa_cons (pe_fld (pv 0) rfl) (pa_cons (pv 1) pa_nil))))
      (C8.pss_cut (ps_if (pt_val (pe_meth (pv 0) T.cl_Responder T.m_Responder_has_lost_at (ok_Responder_has_lost_at T) (hr.mono (by decide)) T.b_Responder_has_lost_at .nil pass0 (pa_cons (pv 1) pa_nil))) (pss_one ps_never) pss_nil)
      (C8.pss_cut (ps_expr (pe_call (ok_require_call T) (hr.mono (by decide)) (by rfl) T.g_require_call T.F_require_call.kp T.b_require_call .nil pass0 (pa_cons (pe_fld (pv 0) rfl) (pa_cons (pv 2) pa_nil))))
      (C8.pss_cut (ps_set (i := 3) sc_Responder_answer.nd rfl (Or.inl rfl) (pe_meth (pv 0) T.cl_Responder T.m_Responder_direction_at (ok_Responder_direction_at T) (hr.mono (by decide)) T.b_Responder_direction_at .nil pass0 (pa_cons (pe_fld (pv 0) rfl) (pa_cons (pv 1) (pa_cons (pv 2) pa_nil)))))
      (C8.pss_cut (ps_fldaug (pv 0) pe_int in_add)
      (pss_one (ps_ret (pv 3)))))))), ?_⟩
    refine ⟨fun σ H' => σ = [some (V.ref a), some (V.ref p), some (V.ref c), none] ∧ Same H H', ?_, ?_⟩
    · walk_at "rd"
      obtain ⟨dx, wv, d, nm, zz, t, hs, ha, hk, hz, ht, hperm, hsrt⟩ := id hR
      exact ⟨_, _, _, ha, T.cl_Responder, T.no_Responder_sizes, .ref zz, rfl, false, zz, ss, .ref p, rfl, hz, hS.b z hp, fun H1 s1 => s1⟩
    rintro σ1 H1 ⟨rfl, s1⟩
    refine ⟨fun σ H' => σ = [some (V.ref a), some (V.ref p), some (V.ref c), none] ∧ Same H H', ?_, ?_⟩
    · walk_at "rd"
      obtain ⟨dx, wv, d, nm, zz, t, hs, ha, _⟩ := hR.same s1
      refine ⟨_, _, ha, rfl, a, p, ss, gs, k, n, ps, rfl, hR.same s1, hok, z, s1 _ _ hp, hS, fun H2 s2 => ⟨_, rfl, ?_⟩⟩
      rw [hlost, if_neg (by decide)]
      exact s1.trans s2
    rintro σ2 H2 ⟨rfl, s2⟩
    refine ⟨fun σ H' => σ = [some (V.ref a), some (V.ref p), some (V.ref c), none] ∧ Same H H', ?_, ?_⟩
    · walk_at "rd"
      obtain ⟨dx, wv, d, nm, zz, t, hs, ha, hk, hz, ht, hperm, hsrt⟩ := hR.same s2
      exact ⟨_, _, _, ha, T.cl_Responder, T.no_Responder_sizes, .ref zz, rfl, false, zz, ss.map V.int, .ref c, rfl, hz, call_b (by rw [List.length_map]; exact hcl) (by rw [List.length_map]; exact z.hi) (s2 _ _ hc), fun H3 s3 => s2.trans s3⟩
    rintro σ3 H3 ⟨rfl, s3⟩
    refine ⟨fun σ H' => σ = [some (V.ref a), some (V.ref p), some (V.ref c), some (V.str (offW (k.ans n ps cs)))] ∧ Same H H', ?_, ?_⟩
    · walk_at "rd"
      obtain ⟨dx, wv, d, nm, zz, t, hs, ha, hk, hz, ht, hperm, hsrt⟩ := hR.same s3
      exact ⟨_, _, ha, rfl, _, _, _, ha, T.cl_Responder, T.no_Responder_turn, .int (n : Nat), rfl, a, p, c, n, ss, gs, k, n, ps, cs, rfl, hR.same s3, hok, z, s3 _ _ hp, hS, s3 _ _ hc, hcl, hmul, fun H4 s4 => ⟨rfl, s3.trans s4⟩⟩
    rintro σ4 H4 ⟨rfl, s4⟩
    refine ⟨fun σ H' => σ = [some (V.ref a), some (V.ref p), some (V.ref c), some (V.str (offW (k.ans n ps cs)))] ∧ Sx a H H' ∧ RespAt T.c_Responder H' a ss gs k (n + 1), ?_, ?_⟩
    · simp only [sFldAug, rAdd]
      walk_at "rd"
      obtain ⟨dx, wv, d, nm, zz, t, hs, ha, hk, hz, ht, hperm, hsrt⟩ := hR.same s4
      refine ⟨_, _, _, ha, T.cl_Responder, T.no_Responder_turn, .int (n : Nat), rfl, (n : Nat), rfl, _, _, ha, (by decide : 6 < 1000), (Sx.of s4).trans Sx.put, dx, wv, d, nm, zz, t, hs, by rw [upd_same]; rfl, hk.put ha, ?_, ht.put ha, hperm, hsrt⟩
      rw [upd_ne (ne_two hz ha (by simp))]
      exact hz
    rintro σ5 H5 ⟨rfl, s5, hR5⟩
    walk_at "rd"
    exact q _ s5 hR5
def sp_Caller_call_at (K : PySem.W.Frag) (R : Addr) : Sp := fun vs H Q _ => ∃ (a : Addr) (j : Nat) (x : V) (ss : List Int) (gs rs : List (List Int)) (n : Nat), vs = [.ref a, .int (j : Nat), x] ∧ CallAt R H a ss gs rs n ∧ rs ≠ [] ∧ rs.length ≤ 1000 ∧ ∀ c, H c = some (.tup ((rs.getD (j % rs.length) []).map V.int)) → Q (.ref c) H
theorem ok_Caller_call_at (T : Tx K mg) : FnOk P w K mg base CX0 1 T.f_Caller_call_at T.fd_Caller_call_at ["self", "turn", "seat"] (sp_Caller_call_at K T.c_Caller) := by
  refine T.F_Caller_call_at.ok sc_Caller_call_at (fun vs H Q E h => ?_) (fun cdv A outer s H vs Q E hr h => ?_)
  · obtain ⟨a, j, x, ss, gs, rs, n, rfl, _⟩ := h; rfl
  · obtain ⟨a, j, x, ss, gs, rs, n, rfl, ⟨dx, l, zz, t, hs, ha, ⟨as, hl, hA⟩, hz, ht, hperm, hsrt⟩, hne, hk, q⟩ := h
    refine ⟨_, (pss_cons (ps_if (pt_truth (pe_fld (pv 0) rfl) (by intro _; rfl)) (pss_one (ps_ret (pe_ix ix_lH (pe_fld (pv 0) rfl) (pe_op op_mod (pv 1) (pe_callB len_H (by rfl) T.n_len PySem.boot_len (pa_cons (pe_fld (pv 0) rfl) pa_nil))) (fun _ _ => rfl)))) pss_nil)
      (pss_cons ps_never
      (pss_cons ps_never
      (pss_one ps_never)))), ?_⟩
    walk_at "rd"
    have h0 := List.length_pos_iff.mpr hne
    have hlt : j % rs.length < rs.length := Nat.mod_lt _ h0
    have hla : j % rs.length < as.length := by rw [hA.1]; exact hlt
    refine ⟨_, _, _, ha, T.cl_Caller, T.no_Caller_listed, .ref l, rfl, true, .inl ⟨_, .inl (.inl hl), ?_⟩, ?_⟩
    · cases as with
      | nil => exact absurd hA.1 (by simp; omega)
      | cons b bs => rfl
    rw [if_pos rfl]
    refine ⟨_, _, _, ha, T.cl_Caller, T.no_Caller_listed, .ref l, rfl, _, _, _, ha, T.cl_Caller, T.no_Caller_listed, .ref l, rfl, l, rfl, .inl ⟨_, hl, by rw [List.length_map, hA.1]; omega, l, rfl, _, hl, V.ref as[j % rs.length], ?_, q _ (hA.2 (j % rs.length) _ _ (List.getElem?_eq_getElem hla) ?_)⟩⟩
    · rw [List.length_map, hA.1, ← Int.natCast_emod]
      refine atI_nat ?_
      rw [List.getElem?_map, List.getElem?_eq_getElem hla]
      rfl
    · rw [List.getD_eq_getElem?_getD, List.getElem?_eq_getElem hlt]
      rfl
def sp_Caller_belongs_to (K : PySem.W.Frag) (R : Addr) : Sp := fun vs H Q _ => ∃ (a z tg : Addr) (ss : List Int) (gs gs' rs : List (List Int)) (n : Nat), vs = [.ref a, .ref z, .ref tg] ∧ CallAt R H a ss gs rs n ∧ H z = some (.tup (ss.map V.int)) ∧ LstT H tg gs' ∧ gs'.Perm gs ∧ gs'.length < 64 ∧ (∀ g ∈ gs', Seat ss g) ∧ Sz ss ∧ ∀ H', Same H H' → Q (.bl true) H'
theorem ok_Caller_belongs_to (T : Tx K mg) : FnOk P w K mg base CX0 1 T.f_Caller_belongs_to T.fd_Caller_belongs_to ["self", "sizes", "targets"] (sp_Caller_belongs_to K T.c_Caller) := by
  refine T.F_Caller_belongs_to.ok sc_Caller_belongs_to (fun vs H Q E h => ?_) (fun cdv A outer s H vs Q E hr h => ?_)
  · obtain ⟨a, z, tg, ss, gs, gs', rs, n, rfl, _⟩ := h; rfl
  · obtain ⟨a, zz, tg, ss, gs, gs', rs, n, rfl, ⟨dx, l, u, t, hs, ha, hl, hu, ht, hperm, hsrt⟩, hz, hG, hp2, few, hok, z, q⟩ := h
    refine ⟨_, (pss_one (ps_ret (pe_and (pe_cmpR (op_eqDK (K := K) rfl hr.units) (pe_fld (pv 0) rfl) (pv 1) (nomark _)) (pe_one (pe_cmpR (op_eqDK (K := K) rfl hr.units) (pe_fld (pv 0) rfl) (pe_callB cr_sortTT (by rfl) T.n_sorted (by decide +kernel) (pa_cons (pv 2) pa_nil)) (nomark _)))))), ?_⟩
    walk_at "rd"
    refine ⟨_, _, _, ha, T.cl_Caller, T.no_Caller_sizes, .ref u, rfl, eqD_tup hu hz ?_⟩
    rw [decide_eq_true rfl]
    refine ⟨_, rfl, ?_⟩
    rw [if_pos rfl]
    obtain ⟨as, htg, hA⟩ := id hG
    refine ⟨_, _, _, ha, T.cl_Caller, T.no_Caller_targets, .ref t, rfl, tg, as, gs', ss.length, rfl, htg, hA, few, z.lo, fun g hg => seat_bd z (hok g hg), fun p bs ks hp hB hpk hsk => ?_⟩
    have sp := Same.new hp (o := .lst (bs.map V.ref))
    have e : hs = ks := srt_same (hperm.trans (hp2.symm.trans hpk.symm)) hsrt hsk fun g hg => seat_bd z (hok g ((hperm.trans hp2.symm).mem_iff.mp hg))
    subst e
    exact eqD_tups' (ht.same sp) ⟨bs, upd_same, hB.same sp⟩ (q _ sp)
end

/-! ### games -/
section
variable {P : Program} {w : World} {K : PySem.W.Frag} {mg : Str → Option Value} {base : Heap}
def callG (rs : List (List Int)) (n : Nat) : List Int := rs.getD (n % rs.length) []
/-- the seat after n moves -/
def curG (ss : List Int) (rs : List (List Int)) (k : RK) (ps : List Int) : Nat → List Int
  | 0 => ps
  | n + 1 => mvW (k.ans n (curG ss rs k ps n) (callG rs n)) (curG ss rs k ps n) (callG rs n) ss
def movG (ss : List Int) (rs : List (List Int)) (k : RK) (ps : List Int) (n : Nat) : List Int × Bool := (callG rs n, k.ans n (curG ss rs k ps n) (callG rs n))
theorem callG_mem {rs : List (List Int)} (h : rs ≠ []) (n : Nat) : callG rs n ∈ rs := by
  have h0 := List.length_pos_iff.mpr h
  have hlt : n % rs.length < rs.length := Nat.mod_lt _ h0
  unfold callG
  rw [List.getD_eq_getElem?_getD, List.getElem?_eq_getElem hlt]
  exact List.getElem_mem hlt
theorem curG_seat {ss : List Int} {rs : List (List Int)} {k : RK} {ps : List Int} (z : Sz ss) (h : Seat ss ps) (hne : rs ≠ []) (hl : ∀ c ∈ rs, c.length = ss.length) : ∀ n, Seat ss (curG ss rs k ps n)
  | 0 => h
  | n + 1 => mvW_seat (curG_seat z h hne hl n).len (hl _ (callG_mem hne n)) z.pos
theorem muls_of {k : RK} {ss cs : List Int} (hok : k.ok ss) (z : Sz ss) (h : Seat ss cs) : k.muls cs := by
  cases k with
  | wit m ws r => exact mul_seat hok.1 z hok.2 h
  | dirs bs => trivial
structure GQ (C R ca re z tg : Addr) (ss : List Int) (gs rs : List (List Int)) (k : RK) (nc nr : Nat) (H : Hp) : Prop where
  c : CallAt C H ca ss gs rs nc
  r : RespAt R H re ss gs k nr
  z : H z = some (.tup (ss.map V.int))
  g : LstT H tg gs
theorem GQ.same {C R ca re z tg : Addr} {ss : List Int} {gs rs : List (List Int)} {k : RK} {nc nr : Nat} {H H' : Hp} (q : GQ C R ca re z tg ss gs rs k nc nr H) (s : Same H H') : GQ C R ca re z tg ss gs rs k nc nr H' := ⟨q.c.same s, q.r.same s, s _ _ q.z, q.g.same s⟩
def MPw (z tg p ca re G M S : Addr) (lim : Int) (P : Program) (w : World) (L : List (Addr × List Int)) (f : Nat → List Int) (g : Nat → List Int × Bool) (N : Nat) (H : Hp) (σ : L2.St) (H' : Hp) : Prop := ∃ (i : Nat) (q : Addr) (v10 v11 : Option V), i ≤ N ∧ σ = [some (V.ref z), some (V.ref tg), some (V.ref p), some (V.ref ca), some (V.ref re), some (V.int lim), some (V.ref G), some (V.ref q), some (V.ref M), some (V.ref S), v10, v11] ∧
  Same H H' ∧ H' G = some (SetTO P w G L) ∧ H' q = some (.tup ((f i).map V.int)) ∧ MovAt true H' M ((List.range i).map g) ∧ LstT H' S ((List.range (i + 1)).map f)
theorem same_updf {H H' : Hp} {a : Addr} {o : HO} (s : Same H H') (h : H a = none) : Same H (upd H' a o) := fun b x hb => by
  rw [upd_ne (ne_of_none hb h)]
  exact s _ _ hb
theorem _root_.Cs.LstT.upd {H : Hp} {D M : Addr} {L : List (List Int)} {xs : List V} {o : HO} (h : LstT H D L) (hM : H M = some (.lst xs)) (hne : D ≠ M) : LstT (upd H M o) D L := by
  obtain ⟨as, h1, h2⟩ := h
  exact ⟨as, by rw [upd_ne hne]; exact h1, h2.tp (Tp.put hM (by simp))⟩
theorem MovAt.upd {H : Hp} {D M : Addr} {L : List (List Int × Bool)} {xs : List V} {o : HO} (h : MovAt true H D L) (hM : H M = some (.lst xs)) (hne : D ≠ M) : MovAt true (upd H M o) D L := by
  obtain ⟨as, h1, h2⟩ := h
  have h1 : H D = some (.lst (as.map V.ref)) := h1
  exact ⟨as, by show _ = some (HO.lst _); rw [upd_ne hne]; exact h1, h2.tp (Tp.put hM (by simp))⟩
def PlA (z tg p ca re : Addr) (lim : Int) (P : Program) (w : World) (gs : List (List Int)) (H : Hp) (σ : L2.St) (H' : Hp) : Prop := ∃ G L, σ = [some (V.ref z), some (V.ref tg), some (V.ref p), some (V.ref ca), some (V.ref re), some (V.int lim), some (V.ref G), none, none, none, none, none] ∧ Same H H' ∧ H' G = some (SetTO P w G L) ∧ (∀ p ∈ L, H p.1 = some (.tup (p.2.map V.int))) ∧ ∀ g, g ∈ L.map (·.2) ↔ g ∈ gs
def PlM (z tg p ca re : Addr) (lim : Int) (G : Addr) (H : Hp) (σ : L2.St) (H' : Hp) : Prop := ∃ M, σ = [some (V.ref z), some (V.ref tg), some (V.ref p), some (V.ref ca), some (V.ref re), some (V.int lim), some (V.ref G), some (V.ref p), some (V.ref M), none, none, none] ∧ Same H H' ∧ H' M = some (.lst []) ∧ H M = none
def PlS (z tg p ca re : Addr) (lim : Int) (G M : Addr) (H : Hp) (σ : L2.St) (H' : Hp) : Prop := ∃ S, σ = [some (V.ref z), some (V.ref tg), some (V.ref p), some (V.ref ca), some (V.ref re), some (V.int lim), some (V.ref G), some (V.ref p), some (V.ref M), some (V.ref S), none, none] ∧ Same H H' ∧ H' S = some (.lst [V.ref p]) ∧ H S = none
def PlE (z tg p ca re : Addr) (lim : Int) (G M S : Addr) (P : Program) (w : World) (L : List (Addr × List Int)) (f : Nat → List Int) (g : Nat → List Int × Bool) (N : Nat) (H : Hp) (σ : L2.St) (H' : Hp) : Prop := ∃ (q : Addr) (v10 v11 : Option V), σ = [some (V.ref z), some (V.ref tg), some (V.ref p), some (V.ref ca), some (V.ref re), some (V.int lim), some (V.ref G), some (V.ref q), some (V.ref M), some (V.ref S), v10, v11] ∧ Same H H' ∧ H' G = some (SetTO P w G L) ∧ H' q = some (.tup ((f N).map V.int)) ∧ MovAt true H' M ((List.range N).map g) ∧ LstT H' S ((List.range (N + 1)).map f)
def PlC (z tg p ca re : Addr) (lim : Int) (G u M S : Addr) (v11 : Option V) (c : List Int) (H : Hp) (σ : L2.St) (H' : Hp) : Prop := ∃ r, σ = [some (V.ref z), some (V.ref tg), some (V.ref p), some (V.ref ca), some (V.ref re), some (V.int lim), some (V.ref G), some (V.ref u), some (V.ref M), some (V.ref S), some (V.ref r), v11] ∧ H' = H ∧ H r = some (.tup (c.map V.int))
def sp_played (K : PySem.W.Frag) (C R : Addr) : Sp := fun vs H Q _ => ∃ (z tg p ca re : Addr) (ss : List Int) (gs rs : List (List Int)) (k : RK) (nc nr N : Nat) (lim : Int) (ps : List Int), vs = [.ref z, .ref tg, .ref p, .ref ca, .ref re, .int lim] ∧ GQ C R ca re z tg ss gs rs k nc nr H ∧ H p = some (.tup (ps.map V.int)) ∧ Sz ss ∧ Seat ss ps ∧
  gs.length < 60 ∧ k.ok ss ∧ rs ≠ [] ∧ rs.length ≤ 1000 ∧ (∀ c ∈ rs, Seat ss c) ∧ (N : Int) ≤ lim ∧ lim ≤ 1000 ∧ (∀ i, i < N → curG ss rs k ps i ∉ gs) ∧ ((N : Int) = lim ∨ curG ss rs k ps N ∈ gs) ∧
  ∀ H' D M S, Same H H' → H' D = some (.tup [.ref M, .ref S, .str (if curG ss rs k ps N ∈ gs then "reached" else "open")]) → MovAt true H' M ((List.range N).map (movG ss rs k ps)) → LstT H' S ((List.range (N + 1)).map (curG ss rs k ps)) → Q (.ref D) H'
theorem ok_played (T : Tx K mg) : FnOk P w K mg base CX0 4 T.f_played T.fd_played ["sizes", "targets", "seat", "caller", "responder", "limit"] (sp_played K T.c_Caller T.c_Responder) := by
  refine T.F_played.ok sc_played (fun vs H Q E h => ?_) (fun cdv A outer s H vs Q E hr h => ?_)
  · obtain ⟨z, tg, p, ca, re, ss, gs, rs, k, nc, nr, N, lim, ps, rfl, _⟩ := h; rfl
  · obtain ⟨zz, tg, p, ca, re, ss, gs, rs, k, nc, nr, N, lim, ps, rfl, gq, hp, z, hS, few, hok, hne, hk, hrs, hN, hlim, hno, hend, q⟩ := h
    refine ⟨_, (C8.pss_cut (ps_set (i := 6) sc_played.nd rfl (Or.inl rfl) (pe_callTy (cr_setTT rfl hr.units) (by rfl) T.n_set (by decide +kernel) (pa_cons (pv 1) pa_nil)))
      (C8.pss_cut (ps_set (i := 7) sc_played.nd rfl (Or.inl rfl) (pv 2))
      (C8.pss_cut (ps_set (i := 8) sc_played.nd rfl (Or.inl rfl) (pe_lst pa_nil))
      (C8.pss_cut (ps_set (i := 9) sc_played.nd rfl (Or.inl rfl) (pe_lst (pa_cons (pv 7) pa_nil)))
      (C8.pss_cut (ps_while PassesOwn.never (PW.pt (pw_and (pt_cmpR (op_notInT hr.units) (pv 7) (pv 6) rfl) (pw_and1 (pt_cmpR op_lt (pe_callB len_H (by rfl) T.n_len PySem.boot_len (pa_cons (pv 8) pa_nil)) (pv 5) (nomark _))))) (C8.pss_cut (ps_set (i := 10) sc_played.nd rfl (Or.inl rfl) (pe_meth (pv 3) T.cl_Caller T.m_Caller_call_at (ok_Caller_call_at T) (hr.mono (by decide)) T.b_Caller_call_at .nil pass0 (pa_cons (pe_callB len_H (by rfl) T.n_len PySem.boot_len (pa_cons (pv 8) pa_nil)) (pa_cons (pv 7) pa_nil))))
        (C8.pss_cut (ps_set (i := 11) sc_played.nd rfl (Or.inl rfl) (pe_meth (pv 4) T.cl_Responder T.m_Responder_direction_at (ok_Responder_direction_at T) (hr.mono (by decide)) T.b_Responder_direction_at .nil pass0 (pa_cons (pe_callB len_H (by rfl) T.n_len PySem.boot_len (pa_cons (pv 8) pa_nil)) (pa_cons (pv 7) (pa_cons (pv 10) pa_nil)))))
        (C8.pss_cut (ps_set (i := 7) sc_played.nd rfl (Or.inl rfl) (pe_call (ok_stepped T) (hr.mono (by decide)) (by rfl) T.g_stepped T.F_stepped.kp T.b_stepped .nil pass0 (pa_cons (pv 0) (pa_cons (pv 7) (pa_cons (pv 10) (pa_cons (pv 11) pa_nil))))))
        (C8.pss_cut (ps_expr (pe_append (pv 8) (pa_cons (pe_tup (pa_cons (pv 10) (pa_cons (pv 11) pa_nil))) pa_nil)))
        (pss_one (ps_expr (pe_append (pv 9) (pa_cons (pv 7) pa_nil)))))))))
      (C8.pss_cut (ps_if (pt_cmpR (op_inT hr.units) (pv 7) (pv 6) rfl) (pss_one (ps_ret (pe_tup (pa_cons (pv 8) (pa_cons (pv 9) (pa_cons pe_str pa_nil)))))) pss_nil)
      (pss_one (ps_ret (pe_tup (pa_cons (pv 8) (pa_cons (pv 9) (pa_cons pe_str pa_nil)))))))))))), ?_⟩
    have hrl : ∀ c ∈ rs, c.length = ss.length := fun c hc => (hrs c hc).len
    have cs := curG_seat (k := k) z hS hne hrl
    refine ⟨fun σ H' => PlA zz tg p ca re lim P w gs H σ H', ?_, ?_⟩
    · walk_at "rd"
      obtain ⟨as, hg, hA⟩ := id gq.g
      exact ⟨tg, true, as, gs, rfl, hg, hA, by omega, fun G L hG h1 h2 => ⟨G, L, rfl, Same.new hG, upd_same, h1, h2⟩⟩
    rintro σ1 H1 ⟨G, L, rfl, s1, hG1, hL1, hL2⟩
    refine ⟨fun σ H' => σ = [some (V.ref zz), some (V.ref tg), some (V.ref p), some (V.ref ca), some (V.ref re), some (V.int lim), some (V.ref G), some (V.ref p), none, none, none, none] ∧ H' = H1, ?_, ?_⟩
    · walk_at "rd"
    rintro σ2 H2 ⟨rfl, rfl⟩
    refine ⟨fun σ H' => PlM zz tg p ca re lim G H2 σ H', ?_, ?_⟩
    · walk_at "rd"
      exact fun M hM => ⟨M, rfl, Same.new hM, upd_same, hM⟩
    rintro σ3 H3 ⟨M, rfl, s3, hM3, hM2⟩
    refine ⟨fun σ H' => PlS zz tg p ca re lim G M H3 σ H', ?_, ?_⟩
    · walk_at "rd"
      exact fun S hS => ⟨S, rfl, Same.new hS, upd_same, hS⟩
    rintro σ4 H4 ⟨S, rfl, s4, hS4, hS3⟩
    have s23 := s1.trans s3
    have hHM : H M = none := by
      cases e : H M with
      | none => rfl
      | some o => rw [s1 _ _ e] at hM2; cases hM2
    have hHS : H S = none := by
      cases e : H S with
      | none => rfl
      | some o => rw [s23 _ _ e] at hS3; cases hS3
    have nMS : M ≠ S := ne_some hM3 hS3
    have nGM : G ≠ M := ne_some hG1 hM2
    have nGS : G ≠ S := ne_some (s3 _ _ hG1) hS3
    have s04 := s23.trans s4
    refine ⟨fun σ H' => PlE zz tg p ca re lim G M S P w L (curG ss rs k ps) (movG ss rs k ps) N H σ H', ?_, ?_⟩
    · refine while_by (fun σ H' => MPw zz tg p ca re G M S lim P w L (curG ss rs k ps) (movG ss rs k ps) N H σ H') (fun σ H' => match H' M with | some (.lst xs) => N - xs.length | _ => 0)
        ⟨0, p, none, none, Nat.zero_le _, rfl, s04, s4 _ _ (s3 _ _ hG1), s04 _ _ hp, ⟨[], s4 _ _ hM3, rfl, fun i m c h _ => by simp at h⟩, ⟨[p], hS4, rfl, fun i u g h1 h2 => ?_⟩⟩ ?_ ?_
      · cases i with
        | zero =>
          simp only [List.getElem?_cons_zero, Option.some.injEq] at h1
          have h2' : some ps = some g := h2
          rw [← h1, ← Option.some.inj h2']
          exact s04 _ _ hp
        | succ i => simp at h1
      · rintro σ Hi ⟨i, u, v10, v11, hiN, rfl, si, hGi, hu, hMi, hSi⟩
        have LT : ∀ p ∈ L, Hi p.1 = some (.tup (p.2.map V.int)) := fun p hp => si _ _ (hL1 p hp)
        obtain ⟨ms, hM, hAM⟩ := id hMi
        have hM : Hi M = some (.lst (ms.map V.ref)) := hM
        have hml : (ms.map V.ref).length = i := by rw [List.length_map, hAM.1, List.length_map, List.length_range]
        have hms := hL2 (curG ss rs k ps i)
        obtain ⟨sas, hS1, hS2⟩ := id hSi
        have hsl : sas.length = i + 1 := by rw [hS2.1, List.length_map, List.length_range]
        have stop : i = N → PlE zz tg p ca re lim G M S P w L (curG ss rs k ps) (movG ss rs k ps) N H [some (V.ref zz), some (V.ref tg), some (V.ref p), some (V.ref ca), some (V.ref re), some (V.int lim), some (V.ref G), some (V.ref u), some (V.ref M), some (V.ref S), v10, v11] Hi := fun e => by
          subst e
          exact ⟨u, v10, v11, rfl, si, hGi, hu, hMi, hSi⟩
        walk_at "rd"
        refine ⟨u, G, curG ss rs k ps i, L, rfl, rfl, hu, hGi, LT, _, rfl, ?_⟩
        by_cases e : curG ss rs k ps i ∈ gs
        · rw [decide_eq_true (hms.mpr e), if_neg (by decide)]
          refine stop ?_
          rcases Nat.lt_or_ge i N with h | h
          · exact absurd e (hno i h)
          · omega
        rw [decide_eq_false (fun h => e (hms.mp h)), if_pos rfl]
        refine .inl ⟨_, hM, ?_⟩
        by_cases e2 : ((ms.map V.ref).length : Int) < lim
        · rw [if_pos e2]
          have hlt : i < N := by
            rcases hend with h | h
            · omega
            · rcases Nat.lt_or_ge i N with h' | h'
              · exact h'
              · have : i = N := by omega
                rw [this] at e
                exact absurd h e
          generalize hσ : [some (V.ref zz), some (V.ref tg), some (V.ref p), some (V.ref ca), some (V.ref re), some (V.int lim), some (V.ref G), some (V.ref u), some (V.ref M), some (V.ref S), v10, v11] = σi
          refine ⟨fun σ H' => PlC zz tg p ca re lim G u M S v11 (callG rs i) Hi σ H', ?_, ?_⟩
          · subst hσ
            walk_at "rd"
            have hCi := gq.c.same si
            obtain ⟨dxC, lC, zC, tC, hsC, hC3, _⟩ := id hCi
            refine ⟨_, _, hC3, rfl, .inl ⟨_, hM, ca, i, V.ref u, ss, gs, rs, nc, by rw [hml], hCi, hne, hk, fun c hc => ⟨c, rfl, rfl, hc⟩⟩⟩
          rintro σ1 H1 ⟨c, rfl, rfl, hc⟩
          have hR1 := gq.r.same si
          refine ⟨fun σ H' => σ = [some (V.ref zz), some (V.ref tg), some (V.ref p), some (V.ref ca), some (V.ref re), some (V.int lim), some (V.ref G), some (V.ref u), some (V.ref M), some (V.ref S), some (V.ref c), some (V.str (offW (k.ans i (curG ss rs k ps i) (callG rs i))))] ∧ Same H1 H', ?_, ?_⟩
          · walk_at "rd"
            obtain ⟨dxR, wvR, dR, nR, zR, tR, hsR, hR3, _⟩ := id hR1
            refine ⟨_, _, hR3, rfl, .inl ⟨_, hM, re, u, c, i, ss, gs, k, nr, curG ss rs k ps i, callG rs i, by rw [hml], hR1, hok, z, hu, cs i, hc, hrl _ (callG_mem hne i), muls_of hok z (hrs _ (callG_mem hne i)), fun H2 s2 => ⟨rfl, s2⟩⟩⟩
          rintro σ2 H2 ⟨rfl, s2⟩
          refine ⟨fun σ H' => ∃ f, σ = [some (V.ref zz), some (V.ref tg), some (V.ref p), some (V.ref ca), some (V.ref re), some (V.int lim), some (V.ref G), some (V.ref f), some (V.ref M), some (V.ref S), some (V.ref c), some (V.str (offW (k.ans i (curG ss rs k ps i) (callG rs i))))] ∧ Same H2 H' ∧ H' f = some (.tup ((curG ss rs k ps (i + 1)).map V.int)), ?_, ?_⟩
          · walk_at "rd"
            exact ⟨false, zz, u, c, offW _, ss, curG ss rs k ps i, callG rs i, rfl, s2 _ _ (si _ _ gq.z), s2 _ _ hu, s2 _ _ hc, (cs i).len.trans (hrl _ (callG_mem hne i)).symm, hrl _ (callG_mem hne i), z.hi, fun n hn => by have := z.pos n hn; omega, offW_or _, fun H' f s hf => ⟨f, rfl, s, by rw [step_off] at hf; exact hf⟩⟩
          rintro σ3 H3 ⟨f, rfl, s3, hf⟩
          have s13 := s2.trans s3
          refine ⟨fun σ H' => σ = [some (V.ref zz), some (V.ref tg), some (V.ref p), some (V.ref ca), some (V.ref re), some (V.int lim), some (V.ref G), some (V.ref f), some (V.ref M), some (V.ref S), some (V.ref c), some (V.str (offW (k.ans i (curG ss rs k ps i) (callG rs i))))] ∧ Same H H' ∧ H' G = some (SetTO P w G L) ∧ H' f = some (.tup ((curG ss rs k ps (i + 1)).map V.int)) ∧ MovAt true H' M ((List.range (i + 1)).map (movG ss rs k ps)) ∧ LstT H' S ((List.range (i + 1)).map (curG ss rs k ps)), ?_, ?_⟩
          · walk_at "rd"
            refine ⟨⟨_, s13 _ _ hM⟩, fun m hm => ?_⟩
            have sm := Same.new hm (o := .tup [V.ref c, V.str (offW (k.ans i (curG ss rs k ps i) (callG rs i)))])
            have s1m := s13.trans sm
            obtain ⟨ms', hM', hml', hM''⟩ := (hMi.same s1m).push (b := k.ans i (curG ss rs k ps i) (callG rs i)) (cs := callG rs i) upd_same (s1m _ _ hc)
            have hMm : upd H3 m (.tup [V.ref c, V.str (offW (k.ans i (curG ss rs k ps i) (callG rs i)))]) M = some (.lst (ms.map V.ref)) := s1m _ _ hM
            rw [hMm] at hM'
            have eM := HO.lst.inj (Option.some.inj hM')
            refine ⟨_, hMm, ?_, same_updf (si.trans s1m) hHM, by rw [upd_ne nGM]; exact s1m _ _ hGi, by rw [upd_ne (ne_two (sm _ _ hf) hMm (by simp))]; exact sm _ _ hf, ?_, (hSi.same s1m).upd hMm nMS.symm⟩
            · rw [hml]
              have : (sizeLine : Nat) > 1000 := by decide
              omega
            · rw [List.range_succ, List.map_append, eM]
              exact hM''
          rintro σ4 H4 ⟨rfl, s4, hG4, hf4, hM4, hS4⟩
          obtain ⟨sas, hS4', hS4l, hS4''⟩ := hS4.push hf4
          obtain ⟨mm, hM4', hmm⟩ := id hM4
          have hM4' : H4 M = some (.lst (mm.map V.ref)) := hM4'
          have hmml : (mm.map V.ref).length = i + 1 := by rw [List.length_map, hmm.1, List.length_map, List.length_range]
          walk_at "rd"
          refine ⟨⟨_, hS4'⟩, _, hS4', ?_, ⟨i + 1, f, _, _, hlt, rfl, same_updf s4 hHS, by rw [upd_ne nGS]; exact hG4, by rw [upd_ne (ne_two hf4 hS4' (by simp))]; exact hf4, hM4.upd hS4' nMS, ?_⟩, ?_⟩
          · rw [List.length_map, hS4l, List.length_map, List.length_range]
            have : (sizeLine : Nat) > 1001 := by decide
            omega
          · rw [List.range_succ, List.map_append]
            exact hS4''
          · rw [upd_ne nMS, hM4', hM]
            show N - (mm.map V.ref).length < N - (ms.map V.ref).length
            omega
        · rw [if_neg e2]
          refine stop ?_
          omega
      · intro σ Hi Q1 Q2 h hq
        simp only [tAnd, tTest, tOp, tCB, tVar] at hq ⊢
        obtain ⟨v, e1, v1, e2, b, a, k', L', e3, e4, e5, e6, e7, k'', e8, q⟩ := hq
        refine ⟨v, e1, v1, e2, b, a, k', L', e3, e4, e5, e6, e7, k'', e8, ?_⟩
        cases k'' with
        | false => exact h _ _ q
        | true =>
          rw [if_pos rfl] at q ⊢
          simp only [tCons, tVar, tNil] at q ⊢
          obtain ⟨v8, f1, p8, f2, hh⟩ := q
          refine ⟨v8, f1, p8, f2, ?_⟩
          rcases hh with ⟨ys, hy, v5, e5, i, j, ei, ej, k, ek, q⟩ | ⟨ys, hy, v5, e5, i, j, ei, ej, k, ek, q⟩
          · exact .inl ⟨ys, hy, v5, e5, i, j, ei, ej, k, ek, h _ _ q⟩
          · exact .inr ⟨ys, hy, v5, e5, i, j, ei, ej, k, ek, h _ _ q⟩
    rintro σ5 H5 ⟨u, v10, v11, rfl, s5, hG5, hu5, hM5, hS5⟩
    refine ⟨fun σ H' => σ = [some (V.ref zz), some (V.ref tg), some (V.ref p), some (V.ref ca), some (V.ref re), some (V.int lim), some (V.ref G), some (V.ref u), some (V.ref M), some (V.ref S), v10, v11] ∧ H' = H5 ∧ curG ss rs k ps N ∉ gs, ?_, ?_⟩
    · walk_at "rd"
      refine ⟨u, G, curG ss rs k ps N, L, rfl, rfl, hu5, hG5, fun p hp => s5 _ _ (hL1 p hp), _, rfl, ?_⟩
      by_cases e : curG ss rs k ps N ∈ gs
      · rw [decide_eq_true ((hL2 _).mpr e), if_pos (by decide)]
        intro D hD
        have sD := Same.new hD (o := .tup [V.ref M, V.ref S, V.str (Str.ofString "reached")])
        refine q _ D M S (s5.trans sD) ?_ (hM5.same sD) (hS5.same sD)
        rw [upd_same, if_pos e]
      · rw [decide_eq_false (fun h => e ((hL2 _).mp h)), if_neg (by decide)]
        exact ⟨rfl, e⟩
    rintro σ6 H6 ⟨rfl, rfl, hnot⟩
    walk_at "rd"
    intro D hD
    have sD := Same.new hD (o := .tup [V.ref M, V.ref S, V.str (Str.ofString "open")])
    refine q _ D M S (s5.trans sD) ?_ (hM5.same sD) (hS5.same sD)
    rw [upd_same, if_neg hnot]
def sp_require_number (K : PySem.W.Frag) : Sp := fun vs H Q _ => ∃ (n l : Int) (s : Str), vs = [.int n, .int l, .str s] ∧ l ≤ n ∧ Q .non H
theorem ok_require_number (T : Tx K mg) : FnOk P w K mg base CX0 2 T.f_require_number T.fd_require_number ["number", "least", "name"] (sp_require_number K) := by
  refine T.F_require_number.ok sc_require_number (fun vs H Q E h => ?_) (fun cdv A outer s H vs Q E hr h => ?_)
  · obtain ⟨n, l, s, rfl, _⟩ := h; rfl
  · obtain ⟨n, l, s, rfl, hn, q⟩ := h
    refine ⟨_, (pss_one (ps_if (PW.pt (pw_or (pt_not (pt_val (pe_call (ok_is_integer T) (hr.mono (by decide)) (by rfl) T.g_is_integer T.F_is_integer.kp T.b_is_integer .nil pass0 (pa_cons (pv 0) pa_nil)))) (pw_or1 (pt_cmpR op_lt (pv 0) (pv 1) (nomark _))))) (pss_one ps_never) pss_nil)), ?_⟩
    walk_at "rd"
    refine ⟨.int n, true, rfl, isInt_int n, true, rfl, ?_⟩
    rw [if_neg (by decide), if_neg (by omega)]
    exact q
def sp_play (K : PySem.W.Frag) (C A R : Addr) : Sp := fun vs H Q _ => ∃ (t tg p ca re z0 : Addr) (ss : List Int) (gs rs : List (List Int)) (k : RK) (nc nr N : Nat) (lim : Int) (ps : List Int), vs = [.ref t, .ref tg, .ref p, .ref ca, .ref re, .int lim] ∧ TabAt C H t ss ∧ CallAt A H ca ss gs rs nc ∧ RespAt R H re ss gs k nr ∧ LstT H tg gs ∧ Tgts ss gs ∧ H p = some (.tup (ps.map V.int)) ∧ Sz ss ∧ Seat ss ps ∧
  k.ok ss ∧ (ps ∉ gs → k.lost ps = false) ∧ rs ≠ [] ∧ rs.length ≤ 1000 ∧ (∀ c ∈ rs, Seat ss c) ∧ (N : Int) ≤ lim ∧ lim ≤ 1000 ∧ (∀ i, i < N → curG ss rs k ps i ∉ gs) ∧ ((N : Int) = lim ∨ curG ss rs k ps N ∈ gs) ∧
  ∀ H' D M S, Same H H' → H' D = some (.tup [.ref M, .ref S, .str (if curG ss rs k ps N ∈ gs then "reached" else "open")]) → MovAt true H' M ((List.range N).map (movG ss rs k ps)) → LstT H' S ((List.range (N + 1)).map (curG ss rs k ps)) → Q (.ref D) H'
theorem ok_play (T : Tx K mg) : FnOk P w K mg base CX0 5 T.f_play T.fd_play ["table", "targets", "seat", "caller", "responder", "limit"] (sp_play K T.c_Table T.c_Caller T.c_Responder) := by
  refine T.F_play.ok sc_play (fun vs H Q E h => ?_) (fun cdv A outer s H vs Q E hr h => ?_)
  · obtain ⟨t, tg, p, ca, re, z0, ss, gs, rs, k, nc, nr, N, lim, ps, rfl, _⟩ := h; rfl
  · obtain ⟨t, tg, p, ca, re, z0, ss, gs, rs, k, nc, nr, N, lim, ps, rfl, hT, hC, hR, hG, hgs, hp, z, hS, hok, hlost, hne, hk, hrs, hN, hlim, hno, hend, q⟩ := h
    refine ⟨_, (C8.pss_cut (ps_set (i := 6) sc_play.nd rfl (Or.inl rfl) (pe_call (ok_sizes_of T) (hr.mono (by decide)) (by rfl) T.g_sizes_of T.F_sizes_of.kp T.b_sizes_of .nil pass0 (pa_cons (pv 0) pa_nil)))
      (C8.pss_cut (ps_expr (pe_call (ok_require_targets T) (hr.mono (by decide)) (by rfl) T.g_require_targets T.F_require_targets.kp T.b_require_targets .nil pass0 (pa_cons (pv 6) (pa_cons (pv 1) pa_nil))))
      (C8.pss_cut (ps_expr (pe_call (ok_require_seat T) (hr.mono (by decide)) (by rfl) T.g_require_seat T.F_require_seat.kp T.b_require_seat .nil pass0 (pa_cons (pv 6) (pa_cons (pv 2) pa_nil))))
      (C8.pss_cut (ps_if (PW.pt (pw_or (pt_not (pt_val (pe_callB (call_isIK (K := K) rfl) (by rfl) T.n_isinstance (by decide +kernel) (pa_cons (pv 3) (pa_cons (pe_glob (v := .ref T.c_Caller) (by rfl) T.g_Caller rfl) pa_nil))))) (pw_or1 (pt_not (pt_val (pe_meth (pv 3) T.cl_Caller T.m_Caller_belongs_to (ok_Caller_belongs_to T) (hr.mono (by decide)) T.b_Caller_belongs_to .nil pass0 (pa_cons (pv 6) (pa_cons (pv 1) pa_nil)))))))) (pss_one ps_never) pss_nil)
      (C8.pss_cut (ps_if (PW.pt (pw_or (pt_not (pt_val (pe_callB (call_isIK (K := K) rfl) (by rfl) T.n_isinstance (by decide +kernel) (pa_cons (pv 4) (pa_cons (pe_glob (v := .ref T.c_Responder) (by rfl) T.g_Responder rfl) pa_nil))))) (pw_or1 (pt_not (pt_val (pe_meth (pv 4) T.cl_Responder T.m_Responder_belongs_to (ok_Responder_belongs_to T) (hr.mono (by decide)) T.b_Responder_belongs_to .nil pass0 (pa_cons (pv 6) (pa_cons (pv 1) pa_nil)))))))) (pss_one ps_never) pss_nil)
      (C8.pss_cut (ps_expr (pe_call (ok_require_number T) (hr.mono (by decide)) (by rfl) T.g_require_number T.F_require_number.kp T.b_require_number .nil pass0 (pa_cons (pv 5) (pa_cons pe_int (pa_cons pe_str pa_nil)))))
      (C8.pss_cut (ps_if (PW.pt (pw_and (pt_cmpR (op_notInDK (K := K) rfl hr.units1) (pv 2) (pv 1) rfl) (pw_and1 (pt_val (pe_meth (pv 4) T.cl_Responder T.m_Responder_has_lost_at (ok_Responder_has_lost_at T) (hr.mono (by decide)) T.b_Responder_has_lost_at .nil pass0 (pa_cons (pv 2) pa_nil)))))) (pss_one ps_never) pss_nil)
      (pss_one (ps_ret (pe_call (ok_played T) (hr.mono (by decide)) (by rfl) T.g_played T.F_played.kp T.b_played .nil pass0 (pa_cons (pv 6) (pa_cons (pv 1) (pa_cons (pv 2) (pa_cons (pv 3) (pa_cons (pv 4) (pa_cons (pv 5) pa_nil)))))))))))))))), ?_⟩
    refine ⟨fun σ H' => ∃ u, σ = [some (V.ref t), some (V.ref tg), some (V.ref p), some (V.ref ca), some (V.ref re), some (V.int lim), some (V.ref u)] ∧ H' = H ∧ H u = some (.tup (ss.map V.int)), ?_, ?_⟩
    · walk_at "rd"
      exact ⟨t, ss, rfl, hT, fun u hu => ⟨u, rfl, rfl, hu⟩⟩
    rintro σ1 H1 ⟨u, rfl, rfl, hu⟩
    have gq : GQ T.c_Caller T.c_Responder ca re u tg ss gs rs k nc nr H1 := ⟨hC, hR, hu, hG⟩
    generalize hσ : [some (V.ref t), some (V.ref tg), some (V.ref p), some (V.ref ca), some (V.ref re), some (V.int lim), some (V.ref u)] = σ0
    refine ⟨fun σ H' => σ = σ0 ∧ Same H1 H', ?_, ?_⟩
    · subst hσ
      walk_at "rd"
      exact ⟨false, true, u, tg, ss, gs, rfl, hu, hG, hgs.ne, hgs.nd, hgs.few, hgs.ok, z, fun H2 s2 => s2⟩
    rintro σ2 H2 ⟨rfl, s2⟩
    refine ⟨fun σ H' => σ = σ2 ∧ Same H1 H', ?_, ?_⟩
    · subst hσ
      walk_at "rd"
      exact ⟨false, u, ss, .ref p, rfl, s2 _ _ hu, hS.b z (s2 _ _ hp), fun H3 s3 => s2.trans s3⟩
    rintro σ3 H3 ⟨rfl, s3⟩
    obtain ⟨dxC, lC, zC, tC, hsC, hC3, _⟩ := id (hC.same s3)
    obtain ⟨dxR, wvR, dR, nR, zR, tR, hsR, hR3, _⟩ := id (hR.same s3)
    refine ⟨fun σ H' => σ = σ3 ∧ Same H1 H', ?_, ?_⟩
    · subst hσ
      walk_at "rd"
      refine ⟨true, isI_own T.ins_Caller hC3, ?_⟩
      rw [if_neg (by decide)]
      refine ⟨_, _, hC3, rfl, ca, u, tg, ss, gs, gs, rs, nc, rfl, hC.same s3, s3 _ _ hu, hG.same s3, List.Perm.refl _, by have := hgs.few; omega, hgs.ok, z, fun H4 s4 => ⟨_, rfl, ?_⟩⟩
      rw [if_neg (by decide)]
      exact s3.trans s4
    rintro σ4 H4 ⟨rfl, s4⟩
    refine ⟨fun σ H' => σ = σ4 ∧ Same H1 H', ?_, ?_⟩
    · subst hσ
      walk_at "rd"
      have hR4 := (hR.same s4)
      obtain ⟨dxR, wvR, dR, nR, zR, tR, hsR, hR3, _⟩ := id hR4
      refine ⟨true, isI_own T.ins_Responder hR3, ?_⟩
      rw [if_neg (by decide)]
      refine ⟨_, _, hR3, rfl, re, u, tg, ss, gs, gs, k, nr, rfl, hR4, s4 _ _ hu, hG.same s4, List.Perm.refl _, by have := hgs.few; omega, hgs.ok, z, fun H5 s5 => ⟨_, rfl, ?_⟩⟩
      rw [if_neg (by decide)]
      exact s4.trans s5
    rintro σ5 H5 ⟨rfl, s5⟩
    refine ⟨fun σ H' => σ = σ5 ∧ Same H1 H', ?_, ?_⟩
    · subst hσ
      walk_at "rd"
      exact ⟨lim, 0, _, rfl, by omega, s5⟩
    rintro σ6 H6 ⟨rfl, s6⟩
    refine ⟨fun σ H' => σ = σ6 ∧ Same H1 H', ?_, ?_⟩
    · subst hσ
      walk_at "rd"
      refine notInD_tups (s6 _ _ hp) (hG.same s6) ⟨_, rfl, ?_⟩
      by_cases e : ps ∈ gs
      · rw [decide_eq_true e, if_neg (by decide)]
        exact s6
      · rw [decide_eq_false e, if_pos (by decide)]
        have hR6 := hR.same s6
        obtain ⟨dxR, wvR, dR, nR, zR, tR, hsR, hR3, _⟩ := id hR6
        refine ⟨_, _, hR3, rfl, re, p, ss, gs, k, nr, ps, rfl, hR6, hok, z, s6 _ _ hp, hS, fun H7 s7 => ⟨_, rfl, ?_⟩⟩
        rw [hlost e, if_neg (by decide)]
        exact s6.trans s7
    rintro σ7 H7 ⟨rfl, s7⟩
    subst hσ
    walk_at "rd"
    exact ⟨u, tg, p, ca, re, ss, gs, rs, k, nc, nr, N, lim, ps, rfl, gq.same s7, s7 _ _ hp, z, hS, hgs.few, hok, hne, hk, hrs, hN, hlim, hno, hend, fun H' D M S s' hD hM hS' => q H' D M S (s7.trans s') hD hM hS'⟩
end

/-! ### the direction that keeps off a residue, off it -/
section
variable {P : Program} {w : World} {K : PySem.W.Frag} {mg : Str → Option Value} {base : Heap}
def sp_avoiding_direction (K : PySem.W.Frag) (C : Addr) : Sp := fun vs H Q _ => ∃ (a sh p c : Addr) (ss ps cs ws : List Int) (m r : Int), vs = [.ref a, .ref sh, .ref p, .ref c] ∧ TabAt C H a ss ∧ Sz ss ∧ ShAt H sh m ws r ∧ Wit ss m ws r ∧ m.natAbs < 2 ^ 8000 ∧ H p = some (.tup (ps.map V.int)) ∧ Seat ss ps ∧
  H c = some (.tup (cs.map V.int)) ∧ cs.length = ss.length ∧ (∀ (i : Nat) x y, ws[i]? = some x → cs[i]? = some y → CMulA x y) ∧
  dot ws ps % m ≠ r ∧ ∀ H', Same H H' → Q (.str (offW (decide ((dot ws ps + dot ws cs) % m = r)))) H'
theorem ok_avoiding_direction (T : Tx K mg) : FnOk P w K mg base CX0 5 T.f_avoiding_direction T.fd_avoiding_direction ["table", "witness", "seat", "call"] (sp_avoiding_direction K T.c_Table) := by
  refine T.F_avoiding_direction.ok sc_avoiding_direction (fun vs H Q E h => ?_) (fun cdv A outer s H vs Q E hr h => ?_)
  · obtain ⟨a, sh, p, c, ss, ps, cs, ws, m, r, rfl, _⟩ := h; rfl
  · obtain ⟨a, sh, p, c, ss, ps, cs, ws, m, r, rfl, hT, z, hsh, hw, hmb, hp, hS, hc, hcl, hmul, e, q⟩ := h
    refine ⟨_, (C8.pss_cut (ps_set (i := 4) sc_avoiding_direction.nd rfl (Or.inl rfl) (pe_call (ok_sizes_of T) (hr.mono (by decide)) (by rfl) T.g_sizes_of T.F_sizes_of.kp T.b_sizes_of .nil pass0 (pa_cons (pv 0) pa_nil)))
      (C8.pss_cut (ps_expr (pe_call (ok_require_witness T) (hr.mono (by decide)) (by rfl) T.g_require_witness T.F_require_witness.kp T.b_require_witness .nil pass0 (pa_cons (pv 4) (pa_cons (pv 1) pa_nil))))
      (C8.pss_cut (ps_expr (pe_call (ok_require_seat T) (hr.mono (by decide)) (by rfl) T.g_require_seat T.F_require_seat.kp T.b_require_seat .nil pass0 (pa_cons (pv 4) (pa_cons (pv 2) pa_nil))))
      (C8.pss_cut (ps_if (pt_val (pe_call (ok_has_residue T) (hr.mono (by decide)) (by rfl) T.g_has_residue T.F_has_residue.kp T.b_has_residue .nil pass0 (pa_cons (pv 1) (pa_cons (pv 2) pa_nil)))) (pss_one ps_never) pss_nil)
      (C8.pss_cut (ps_expr (pe_call (ok_require_call T) (hr.mono (by decide)) (by rfl) T.g_require_call T.F_require_call.kp T.b_require_call .nil pass0 (pa_cons (pv 4) (pa_cons (pv 3) pa_nil))))
      (pss_one (ps_ret (pe_call (ok_direction_off T) (hr.mono (by decide)) (by rfl) T.g_direction_off T.F_direction_off.kp T.b_direction_off .nil pass0 (pa_cons (pv 1) (pa_cons (pv 2) (pa_cons (pv 3) pa_nil))))))))))), ?_⟩
    have h4 := z.hi
    have hm0 : 0 < m := by have := hw.three; omega
    walk_at "rd"
    refine ⟨fun σ H' => ∃ t, σ = [some (V.ref a), some (V.ref sh), some (V.ref p), some (V.ref c), some (V.ref t)] ∧ H' = H ∧ H t = some (.tup (ss.map V.int)), ?_, ?_⟩
    · walk_at "rd"
      exact ⟨a, ss, rfl, hT, fun t ht => ⟨t, rfl, rfl, ht⟩⟩
    rintro σ1 H1 ⟨t, rfl, rfl, ht⟩
    refine ⟨fun σ H' => σ = [some (V.ref a), some (V.ref sh), some (V.ref p), some (V.ref c), some (V.ref t)] ∧ Same H1 H', ?_, ?_⟩
    · walk_at "rd"
      exact ⟨false, t, sh, ss, ws, m, r, rfl, ht, hsh, hw, z, hmb, fun H2 s2 => s2⟩
    rintro σ2 H2 ⟨rfl, s2⟩
    refine ⟨fun σ H' => σ = [some (V.ref a), some (V.ref sh), some (V.ref p), some (V.ref c), some (V.ref t)] ∧ Same H1 H', ?_, ?_⟩
    · walk_at "rd"
      exact ⟨false, t, ss, .ref p, rfl, s2 _ _ ht, hS.b z (s2 _ _ hp), fun H3 s3 => s2.trans s3⟩
    rintro σ3 H3 ⟨rfl, s3⟩
    refine ⟨fun σ H' => σ = [some (V.ref a), some (V.ref sh), some (V.ref p), some (V.ref c), some (V.ref t)] ∧ Same H1 H', ?_, ?_⟩
    · walk_at "rd"
      refine ⟨sh, p, ps, ws, m, r, rfl, hsh.same s3, s3 _ _ hp, by rw [hw.len, hS.len], by rw [hw.len]; omega, hm0, mul_seat hw z hmb hS, fun H4 s4 => ?_⟩
      rw [decide_eq_false e]
      refine ⟨_, rfl, ?_⟩
      rw [if_neg (by decide)]
      exact s3.trans s4
    rintro σ4 H4 ⟨rfl, s4⟩
    refine ⟨fun σ H' => σ = [some (V.ref a), some (V.ref sh), some (V.ref p), some (V.ref c), some (V.ref t)] ∧ Same H1 H', ?_, ?_⟩
    · walk_at "rd"
      exact ⟨false, t, ss.map V.int, .ref c, rfl, s4 _ _ ht, call_b (by rw [List.length_map]; exact hcl) (by rw [List.length_map]; exact h4) (s4 _ _ hc), fun H5 s5 => s4.trans s5⟩
    rintro σ5 H5 ⟨rfl, s5⟩
    walk_at "rd"
    exact ⟨sh, p, c, ps, cs, ws, m, r, rfl, hsh.same s5, s5 _ _ hp, s5 _ _ hc, by rw [hw.len, hS.len], by rw [hw.len, hcl], by rw [hw.len]; omega, hm0, mul_seat hw z hmb hS, hmul, fun H6 s6 => q _ (s5.trans s6)⟩
end

/-! ### the draws of the laws of directions and games -/
section
variable {P : Program} {w : World} {K : PySem.W.Frag} {mg : Str → Option Value} {base : Heap}
/-! ### a source that counts -/
/-- a source after at most N draws -/
def SrcN (H : Hp) (a : Addr) (N : Nat) : Prop := ∃ s m n : Int, H a = some (.lst [.int s, .int m, .int n]) ∧ 0 ≤ s ∧ 0 ≤ m ∧ m < 2147483647 ∧ 0 ≤ n ∧ n ≤ N
theorem SrcN.same {H H' : Hp} {a : Addr} {N : Nat} (e : Same H H') (h : SrcN H a N) : SrcN H' a N := by
  obtain ⟨s, c, d, h, r⟩ := h
  exact ⟨s, c, d, e _ _ h, r⟩
theorem SrcN.mono {H : Hp} {a : Addr} {N M : Nat} (h : SrcN H a N) (e : N ≤ M) : SrcN H a M := by
  obtain ⟨s, c, d, h, r1, r2, r3, r4, r5⟩ := h
  exact ⟨s, c, d, h, r1, r2, r3, r4, by omega⟩
theorem SrcN.ne {H : Hp} {a p : Addr} {N : Nat} (h : SrcN H a N) (hp : H p = none) : p ≠ a := fun e => by
  obtain ⟨s, c, d, h, _⟩ := h
  rw [e, h] at hp
  cases hp
theorem SrcN.put {H : Hp} {a p : Addr} {o : HO} {N : Nat} (h : SrcN H a N) (n : a ≠ p) : SrcN (upd H p o) a N := by
  obtain ⟨s, c, d, h, r⟩ := h
  exact ⟨s, c, d, by rw [upd_ne n]; exact h, r⟩
theorem upd_none_of' {H : Hp} {p q : Addr} {o : HO} (h : upd H p o q = none) : H q = none ∧ q ≠ p := by
  unfold upd at h
  by_cases e : q = p
  · rw [if_pos e] at h; cases h
  · rw [if_neg e] at h; exact ⟨h, e⟩
theorem atI_ints {ns : List Int} {i : Int} (h0 : 0 ≤ i) (h1 : i < ns.length) : ∃ n, n ∈ ns ∧ atI (ns.map V.int) i = some (.int n) := by
  obtain ⟨v, hv, e⟩ := atI_in (xs := ns.map V.int) h0 (by rw [List.length_map]; exact h1)
  obtain ⟨n, hn, rfl⟩ := List.mem_map.mp hv
  exact ⟨n, hn, e⟩
theorem take_small {n : Int} (h : 0 < n) (h2 : n < 2 ^ 64) : n.natAbs < 2 ^ 8000 := Nat.lt_of_lt_of_le (by omega : n.natAbs < 2 ^ 64) (Nat.pow_le_pow_right (by decide) (by decide))

theorem Sx.none {a : Addr} {H H' : Hp} {p : Addr} (s : Sx a H H') (h : H' p = none) (hp : p ≠ a) : H p = none := s.free hp h
def sp_law_cell_at (K : PySem.W.Frag) : Sp := fun vs H Q _ => ∃ (a : Addr) (ns : List Int) (k : Nat), vs = [.ref a, .int (k : Nat)] ∧ SqL K H a (ns.map V.int) ∧ Q (.int (ns.getD k 0)) H
theorem ok_law_cell_at (T : Tx K mg) : FnOk P w K mg base CX0 1 T.f_law_cell_at T.fd_law_cell_at ["_law_script", "_law_k"] (sp_law_cell_at K) := by
  refine T.F_law_cell_at.ok sc_law_cell_at (fun vs H Q E h => ?_) (fun cdv A outer s H vs Q E hr h => ?_)
  · obtain ⟨a, ns, k, rfl, _⟩ := h; rfl
  · obtain ⟨a, ns, k, rfl, ha, q⟩ := h
    refine ⟨_, (pss_cons (ps_if (pt_cmpR op_lt (pv 1) (pe_callB call_len (by rfl) T.n_len PySem.boot_len (pa_cons (pv 0) pa_nil)) (nomark _)) (pss_one (ps_ret (pe_ix ix_list (pv 0) (pv 1) (fun _ _ => rfl)))) pss_nil)
      (pss_one (ps_ret pe_int))), ?_⟩
    walk_at "rd"
    refine ⟨ns.length, .inl ⟨_, ha, by rw [List.length_map]⟩, ?_⟩
    split
    · rename_i hk
      have hk : k < ns.length := by omega
      refine ⟨_, ha, .int (ns.getD k 0), atI_nat (by rw [List.getElem?_map, List.getD_eq_getElem?_getD, List.getElem?_eq_getElem hk]; rfl), q⟩
    · rename_i hk
      rw [List.getD_eq_getElem?_getD, List.getElem?_eq_none (by omega)] at q
      exact q
def sp_law_take (K : PySem.W.Frag) : Sp := fun vs H Q _ => ∃ (a : Addr) (n : Int) (N : Nat), vs = [.ref a, .int n] ∧ SrcN H a N ∧ 0 < n ∧ n.natAbs < 2 ^ 8000 ∧ N < 1000000 ∧ ∀ H' r, Sx a H H' → SrcN H' a (N + 1) → 0 ≤ r → r < n → Q (.int r) H'
theorem ok_law_take (T : Tx K mg) : FnOk P w K mg base CX0 1 T.f_law_take T.fd_law_take ["_law_source_here", "_law_bound"] (sp_law_take K) := by
  refine T.F_law_take.ok sc_law_take (fun vs H Q E h => ?_) (fun cdv A outer s H vs Q E hr h => ?_)
  · obtain ⟨a, n, N, rfl, _⟩ := h; rfl
  · obtain ⟨a, n, N, rfl, ⟨s, c, d, hs, s0, c0, c1, d0, d1⟩, hn, hb, hN, q⟩ := h
    refine ⟨_, (pss_cons (ps_if (pt_cmpR op_gt (pe_ix ix_lH (pv 0) pe_int (fun _ _ => rfl)) pe_int (nomark _)) (pss_cons (ps_set (i := 2) sc_law_take.nd rfl (Or.inl rfl) (pe_op op_mod (pe_ix ix_lH (pv 0) pe_int (fun _ _ => rfl)) (pv 1)))
        (pss_cons (ps_asg (pe_op op_fdivW (pe_ix ix_lH (pv 0) pe_int (fun _ _ => rfl)) (pv 1)) (pg_sub (pv 0) pe_int set_lH))
        (pss_one (ps_ret (pv 2))))) pss_nil)
      (pss_cons (ps_asg (pe_op op_add (pe_ix ix_lH (pv 0) pe_int (fun _ _ => rfl)) pe_int) (pg_sub (pv 0) pe_int set_lH))
      (pss_cons (ps_set (i := 3) sc_law_take.nd rfl (Or.inl rfl) (pe_op op_mod (pe_op op_mulA (pe_op op_add (pe_op op_add (pe_ix ix_lH (pv 0) pe_int (fun _ _ => rfl)) (pe_op op_mulA pe_int (pe_ix ix_lH (pv 0) pe_int (fun _ _ => rfl)))) pe_int) pe_int) pe_int))
      (pss_cons (ps_set (i := 3) sc_law_take.nd rfl (Or.inl rfl) (pe_op op_mod (pe_op op_mulA (pv 3) (pe_op op_add (pe_op op_fdivW (pv 3) pe_int) pe_int)) pe_int))
      (pss_one (ps_ret (pe_op op_mod (pe_op op_fdivW (pe_op op_mod (pe_op op_mulA (pv 3) (pe_op op_add (pe_op op_fdivW (pv 3) pe_int) pe_int)) pe_int) pe_int) (pv 1)))))))), ?_⟩
    walk_at "rh"
    by_cases h : 0 < s
    · rw [if_pos h]
      exact ⟨wide_div hn hb (by decide) (by decide), q _ _ Sx.put ⟨s / n, c, d, upd_same, Int.ediv_nonneg s0 (by omega), c0, c1, d0, by omega⟩ (Int.emod_nonneg _ (by omega)) (Int.emod_lt_of_pos _ hn)⟩
    · rw [if_neg h]
      have m0 := Int.emod_nonneg ((c + 32452843 * (d + 1) + 1) * 48271) (by decide : (2147483647 : Int) ≠ 0)
      have m1 := Int.emod_lt_of_pos ((c + 32452843 * (d + 1) + 1) * 48271) (by decide : (0 : Int) < 2147483647)
      generalize (c + 32452843 * (d + 1) + 1) * 48271 % 2147483647 = u at m0 m1 ⊢
      have n0 := Int.emod_nonneg (u * (u / 1021 + 69621)) (by decide : (2147483629 : Int) ≠ 0)
      have n1 := Int.emod_lt_of_pos (u * (u / 1021 + 69621)) (by decide : (0 : Int) < 2147483629)
      generalize u * (u / 1021 + 69621) % 2147483629 = v at n0 n1 ⊢
      refine ⟨.inl (by omega), .inl (by omega), .inl (by omega), .inl (by omega), q _ _ Sx.put ⟨s, c, d + 1, upd_same, s0, c0, c1, by omega, by omega⟩ (Int.emod_nonneg _ (by omega)) (Int.emod_lt_of_pos _ hn)⟩
def sp_law_source (K : PySem.W.Frag) : Sp := fun vs H Q _ => ∃ c : Int, vs = [.int c] ∧ ∀ H' a, Same H H' → H a = none → SrcN H' a 0 → Q (.ref a) H'
theorem ok_law_source (T : Tx K mg) : FnOk P w K mg base CX0 1 T.f_law_source T.fd_law_source ["_law_cell"] (sp_law_source K) := by
  refine T.F_law_source.ok sc_law_source (fun vs H Q E h => ?_) (fun cdv A outer s H vs Q E hr h => ?_)
  · obtain ⟨c, rfl, _⟩ := h; rfl
  · obtain ⟨c, rfl, q⟩ := h
    refine ⟨_, (pss_one (ps_ret (pe_lst (pa_cons (pe_op op_mulA (pv 0) (pe_callTy call_int1 (by rfl) T.n_int (by decide +kernel) (pa_cons (pe_cmpR op_ge (pv 0) (pe_op op_pow pe_int pe_int) (nomark _)) pa_nil))) (pa_cons (pe_op op_mod (pv 0) pe_int) (pa_cons pe_int pa_nil)))))), ?_⟩
    walk_at "rd"
    have h1 : CMulA c (if 1000000000000000000 ≤ c then 1 else 0) := .inr (.inl (by split <;> decide))
    have h2 : 0 ≤ c * (if 1000000000000000000 ≤ c then 1 else 0) := by
      split
      · omega
      · omega
    generalize c * (if 1000000000000000000 ≤ c then 1 else 0) = z at h2 ⊢
    have e1 := Int.emod_lt_of_pos c (by decide : (0 : Int) < 2147483543)
    exact ⟨h1, fun p hp => q _ p (Same.new hp) hp ⟨z, _, _, upd_same, h2, Int.emod_nonneg _ (by decide), by omega, by decide, by decide⟩⟩
def sp_law_pick (K : PySem.W.Frag) : Sp := fun vs H Q _ => ∃ (a l : Addr) (xs : List V) (N : Nat), vs = [.ref a, .ref l] ∧ SrcN H a N ∧ N < 1000000 ∧ H l = some (.lst xs) ∧ l ≠ a ∧ 0 < xs.length ∧ xs.length < 2 ^ 60 ∧ ∀ H' v, Sx a H H' → SrcN H' a (N + 1) → v ∈ xs → Q v H'
theorem pickI {vs : List V} {H : Hp} {Q : VK} {E : XK} (h : ∃ (a l : Addr) (ns : List Int) (N : Nat), vs = [.ref a, .ref l] ∧ SrcN H a N ∧ N < 1000000 ∧ H l = some (.lst (ns.map V.int)) ∧ l ≠ a ∧ 0 < ns.length ∧ ns.length < 2 ^ 60 ∧ ∀ H' r, Sx a H H' → SrcN H' a (N + 1) → r ∈ ns → Q (.int r) H') : sp_law_pick K vs H Q E := by
  obtain ⟨a, l, ns, N, h1, h2, h3, h4, h5, h6, h7, q⟩ := h
  refine ⟨a, l, ns.map V.int, N, h1, h2, h3, h4, h5, by rw [List.length_map]; exact h6, by rw [List.length_map]; exact h7, fun H' v s hs hv => ?_⟩
  obtain ⟨n, hn, rfl⟩ := List.mem_map.mp hv
  exact q H' n s hs hn
theorem ok_law_pick (T : Tx K mg) : FnOk P w K mg base CX0 2 T.f_law_pick T.fd_law_pick ["_law_source_here", "_law_items"] (sp_law_pick K) := by
  refine T.F_law_pick.ok sc_law_pick (fun vs H Q E h => ?_) (fun cdv A outer s H vs Q E hr h => ?_)
  · obtain ⟨a, l, xs, N, rfl, _⟩ := h; rfl
  · obtain ⟨a, l, xs, N, rfl, hs, hN, hl, nla, h0, h1, q⟩ := h
    refine ⟨_, (pss_one (ps_ret (pe_ix ix_lH (pv 1) (pe_call (ok_law_take T) (hr.mono (by decide)) (by rfl) T.g_law_take T.F_law_take.kp T.b_law_take .nil pass0 (pa_cons (pv 0) (pa_cons (pe_callB len_H (by rfl) T.n_len PySem.boot_len (pa_cons (pv 1) pa_nil)) pa_nil))) (fun _ _ => rfl)))), ?_⟩
    walk_at "rd"
    refine .inl ⟨_, hl, a, _, N, rfl, hs, by omega, take_small (by omega) (by omega), hN, fun H1 r s1 hs1 r0 r1 => ⟨r, rfl, _, s1 _ _ nla hl, ?_⟩⟩
    obtain ⟨v, hv, ev⟩ := atI_in r0 r1
    exact ⟨_, ev, q _ _ s1 hs1 hv⟩
/-- a comprehension whose elements draw, k times each -/
theorem lcr_drawN {J : It} {n k : Nat} {G : Hp → Prop} {Y : Nat → Hp → V → Hp → Prop} (w : Walk J n G Y) {g : TG} {te : TE} {vs : List Nat} {σ : L2.St} {H1 : Hp} {Q : VK} {a : Addr} {N : Nat} (R : Nat → V → Prop) (hs1 : SrcN H1 a N) (hn : n ≤ sizeLine)
    (hG : ∀ H, Sx a H1 H → G H) (hY : ∀ i x H H', Y i H x H' → Same H H')
    (hs : ∀ i x H H' (Qy : VK), i < n → Sx a H1 H → SrcN H' a (N + k * i) → Y i H x H' → (∀ y H4, Sx a H' H4 → SrcN H4 a (N + k * (i + 1)) → R i y → Qy y H4) → g x (wipe σ vs) H' fun σ2 H2 => wipe σ2 vs = wipe σ vs ∧ te σ2 H2 Qy)
    (hd : ∀ D acc H, H1 D = none → Sx a H1 H → SrcN H a (N + k * n) → acc.length = n → (∀ (i : Nat) y, acc[i]? = some y → R i y) → H D = some (.lst acc) → Q (.ref D) H) : LcR J g tYes te vs σ H1 Q := fun D hD => by
  have nDa : D ≠ a := hs1.ne hD
  refine lc_gen w (fun i acc H => Sx a H1 H ∧ SrcN H a (N + k * i) ∧ acc.length = i ∧ ∀ (j : Nat) y, acc[j]? = some y → R j y) hn ⟨Sx.of (Same.new hD), (hs1.same (Same.new hD)).mono (by omega), rfl, fun j y h => by simp at h⟩ (fun i acc H _ h _ => hG H h.1) (fun i acc H l h _ => ⟨fun b o nb e => ?_, h.2.1.put nDa.symm, h.2.2⟩) (fun i acc x H H' Qy hi ha h e hy hq => ?_) (fun acc H ha h e => hd D acc H hD h.1 h.2.1 ha h.2.2.2 e)
  · rw [upd_ne (ne_some e hD)]
    exact h.1 b o nb e
  · refine hs i x H H' Qy hi h.1 (h.2.1.same (hY _ _ _ _ hy)) hy fun y H4 s4 hs4 hR => hq y H4 (s4 _ _ nDa (hY _ _ _ _ hy _ _ e)) ⟨(h.1.trans (Sx.of (hY _ _ _ _ hy))).trans s4, hs4, by rw [List.length_append, h.2.2.1]; rfl, fun j z hj => ?_⟩
    by_cases hlt : j < acc.length
    · rw [List.getElem?_append_left hlt] at hj
      exact h.2.2.2 j z hj
    · rw [List.getElem?_append_right (by omega)] at hj
      cases hk : j - acc.length with
      | zero =>
        rw [hk] at hj
        have e1 : j = i := by omega
        rw [e1]
        simp only [List.getElem?_cons_zero, Option.some.injEq] at hj
        rw [← hj]; exact hR
      | succ m => rw [hk] at hj; simp at hj
theorem ints_ofN {acc : List V} {R : Nat → Int → Prop} (h : ∀ (i : Nat) y, acc[i]? = some y → ∃ n, y = V.int n ∧ R i n) : ∃ ns : List Int, acc = ns.map V.int ∧ ∀ (i : Nat) n, ns[i]? = some n → R i n := by
  induction acc generalizing R with
  | nil => exact ⟨[], rfl, fun i n h => by simp at h⟩
  | cons x r ih =>
    obtain ⟨n, e, hn⟩ := h 0 x rfl
    obtain ⟨ns, e2, h2⟩ := ih (R := fun i n => R (i + 1) n) fun i y hy => h (i + 1) y hy
    refine ⟨n :: ns, by rw [e, e2]; rfl, fun i m hm => ?_⟩
    cases i with
    | zero =>
      simp only [List.getElem?_cons_zero, Option.some.injEq] at hm
      rw [← hm]; exact hn
    | succ i => exact h2 i m hm
theorem SrcN.net {H : Hp} {a p : Addr} {N : Nat} {xs : List V} (h : SrcN H a N) (hp : H p = some (.tup xs)) : p ≠ a := fun e => by
  obtain ⟨s, c, d, h, _⟩ := h
  rw [e, h] at hp
  cases hp
theorem Sz.small {ss : List Int} (z : Sz ss) {n : Int} (h : n ∈ ss) : 0 < n ∧ n.natAbs < 2 ^ 8000 := by
  have h1 := z.pos n h
  have h2 := z.bits n h
  exact ⟨by omega, Nat.lt_of_lt_of_le h2 (Nat.pow_le_pow_right (by decide) (by decide))⟩
def sp_law_drawn_seat (K : PySem.W.Frag) : Sp := fun vs H Q _ => ∃ (a l : Addr) (ss : List Int) (N : Nat), vs = [.ref a, .ref l] ∧ SrcN H a N ∧ N < 900000 ∧ H l = some (.tup (ss.map V.int)) ∧ Sz ss ∧ ∀ H' p ps, Sx a H H' → SrcN H' a (N + 4) → H' p = some (.tup (ps.map V.int)) → Seat ss ps → Q (.ref p) H'
theorem ok_law_drawn_seat (T : Tx K mg) : FnOk P w K mg base CX0 2 T.f_law_drawn_seat T.fd_law_drawn_seat ["_law_source_here", "_law_rings"] (sp_law_drawn_seat K) := by
  refine T.F_law_drawn_seat.ok sc_law_drawn_seat (fun vs H Q E h => ?_) (fun cdv A outer s H vs Q E hr h => ?_)
  · obtain ⟨a, l, ss, N, rfl, _⟩ := h; rfl
  · obtain ⟨a, l, ss, N, rfl, hs, hN, hl, z, q⟩ := h
    refine ⟨_, (pss_one (ps_ret (pe_callTy tuple_H (by rfl) T.n_tuple (by decide +kernel) (pa_cons (pe_lc (own := [("_law_size", 2)]) (g := (gName 2)) (tt := tYes) rfl sc_law_drawn_seat.nd (pi_seqH (pv 1)) (blkOk_by (own := [("_law_size", 2)]) (N := N_law_drawn_seat) (sc := defScope d_law_drawn_seat) (by decide +kernel)) (fun _ _ _ _ _ => (pg_name (i := 2) sc_law_drawn_seat.nd rfl (Or.inl rfl))) (fun _ _ _ _ _ => pts_nil) (fun _ _ _ _ _ => (pe_call (ok_law_take T) (hr.mono (by decide)) (by rfl) T.g_law_take T.F_law_take.kp T.b_law_take .nil pass0 (pa_cons (pv 0) (pa_cons (pv 2) pa_nil))))) pa_nil)))), ?_⟩
    have nla := hs.net hl
    have h4 := z.hi
    walk_at "rd"
    refine .inr ⟨_, hl, fun J W => ?_⟩
    refine lcr_drawN (k := 1) W (fun i y => ∃ n, y = V.int n ∧ ∀ s, ss[i]? = some s → 0 ≤ n ∧ n < s) hs (by rw [List.length_map]; exact Nat.le_trans z.hi (by decide)) (fun H1 s1 => s1 _ _ nla hl) (fun _ _ _ _ y => YAt.same y) ?_ ?_
    · rintro i x H3 H4 Qy hi s3 hs3 ⟨rfl, hx⟩ hq
      simp only [List.getElem?_map, Option.map_eq_some_iff] at hx
      obtain ⟨n, hn, rfl⟩ := hx
      rw [List.length_map] at hi
      have hb := z.small (List.mem_of_getElem? hn)
      walk_at "rd"
      refine ⟨a, n, N + 1 * i, rfl, hs3, hb.1, hb.2, by omega, fun H5 r s5 hs5 r0 r1 => hq _ _ s5 (hs5.mono (by omega)) ⟨r, rfl, fun s hs' => ?_⟩⟩
      rw [hn] at hs'
      obtain rfl := Option.some.inj hs'
      exact ⟨r0, r1⟩
    · intro D acc H3 hD s3 hs3 hlen hR hD3
      obtain ⟨ps, rfl, hps⟩ := ints_ofN hR
      rw [List.length_map, List.length_map] at hlen
      rw [List.length_map] at hs3
      refine ⟨D, rfl, .inl ⟨_, hD3, fun p hp => q _ p ps (s3.trans (Sx.of (Same.new hp))) ((hs3.same (Same.new hp)).mono (by omega)) upd_same ⟨hlen, fun i p s h1 h2 => hps i p h1 s h2⟩⟩⟩
def sp_law_moved (K : PySem.W.Frag) : Sp := fun vs H Q _ => ∃ (l p c : Addr) (b : Bool) (ss ps cs : List Int), vs = [.ref l, .ref p, .ref c, .int (sgn b)] ∧ H l = some (.tup (ss.map V.int)) ∧ H p = some (.tup (ps.map V.int)) ∧ H c = some (.tup (cs.map V.int)) ∧ ps.length = ss.length ∧ cs.length = ss.length ∧ Sz ss ∧
  ∀ H' f, Same H H' → H' f = some (.tup ((mvW b ps cs ss).map V.int)) → Q (.ref f) H'
theorem ok_law_moved (T : Tx K mg) : FnOk P w K mg base CX0 1 T.f_law_moved T.fd_law_moved ["_law_rings", "_law_spot", "_law_call_in", "_law_sign"] (sp_law_moved K) := by
  refine T.F_law_moved.ok sc_law_moved (fun vs H Q E h => ?_) (fun cdv A outer s H vs Q E hr h => ?_)
  · obtain ⟨l, p, c, b, ss, ps, cs, rfl, _⟩ := h; rfl
  · obtain ⟨l, p, c, b, ss, ps, cs, rfl, hl, hp, hc, e1, e2, z, q⟩ := h
    refine ⟨_, (pss_one (ps_ret (pe_callTy tuple_H (by rfl) T.n_tuple (by decide +kernel) (pa_cons (pe_lc (own := [("_law_one", 4), ("_law_other", 5), ("_law_size", 6)]) (g := (gTupH 3 (gCons (gName 4) (gCons (gName 5) (gCons (gName 6) gNil))))) (tt := tYes) rfl sc_law_moved.nd (pi_z3H (by rfl) T.n_zip (pa_cons (pv 1) (pa_cons (pv 2) (pa_cons (pv 0) pa_nil)))) (blkOk_by (own := [("_law_one", 4), ("_law_other", 5), ("_law_size", 6)]) (N := N_law_moved) (sc := defScope d_law_moved) (by decide +kernel)) (fun _ _ _ _ _ => (pg_tupH (n := 3) rfl (pgs_cons (pg_name (i := 4) sc_law_moved.nd rfl (Or.inl rfl)) (pgs_cons (pg_name (i := 5) sc_law_moved.nd rfl (Or.inl rfl)) (pgs_cons (pg_name (i := 6) sc_law_moved.nd rfl (Or.inl rfl)) pgs_nil))))) (fun _ _ _ _ _ => pts_nil) (fun _ _ _ _ _ => (pe_op op_mod (pe_op op_add (pv 4) (pe_op op_mulA (pv 3) (pv 5))) (pv 6)))) pa_nil)))), ?_⟩
    have pos : ∀ n ∈ ss, 0 < n := fun n hn => by have := z.pos n hn; omega
    walk_at "rd"
    refine ⟨false, false, false, ps.map V.int, hp, cs.map V.int, hc, ss.map V.int, hl, by rw [List.length_map, List.length_map, e1, e2], by rw [List.length_map, List.length_map, e2], fun J W => ?_⟩
    refine lcr_map W ((mvW b ps cs ss).map V.int) (by rw [List.length_map, List.length_map, mvW_len e1 e2, e1]) ?_ (fun H3 s3 => ⟨s3 _ _ hp, s3 _ _ hc, s3 _ _ hl⟩) (fun _ _ _ _ y => YTrip.same y) ?_ ?_
    · have h4 := z.hi
      rw [List.length_map]
      exact Nat.le_trans (by omega : ps.length ≤ 4) (by decide)
    · intro i x H3 H4 y Qy hi s3 hy hr hq
      obtain ⟨T0, x1, y1, z1, rfl, hT, rfl, h1, h2, h3⟩ := hy
      simp only [List.getElem?_map, Option.map_eq_some_iff] at hr h1 h2 h3
      obtain ⟨x2, hx2, rfl⟩ := h1
      obtain ⟨y2, hy2, rfl⟩ := h2
      obtain ⟨z2, hz2, rfl⟩ := h3
      rw [mvW_get hx2 hy2 hz2] at hr
      obtain ⟨r, hr, rfl⟩ := hr
      obtain rfl := Option.some.inj hr
      walk_at "rd"
      refine ⟨.inl (by unfold sgn; cases b <;> decide), pos z2 (List.mem_of_getElem? hz2), hq _ (Same.refl _)⟩
    · intro D H3 hD s3 h3
      exact ⟨D, rfl, .inl ⟨_, h3, fun f hf => q _ f (s3.trans (Same.new hf)) upd_same⟩⟩
theorem dot_more : ∀ (i : Nat) (ws ps : List Int) {x y : Int}, ws[i]? = some x → ps[i]? = some y → dot (ws.take (i + 1)) (ps.take (i + 1)) = dot (ws.take i) (ps.take i) + x * y
  | 0, x :: ws, y :: ps, _, _, h1, h2 => by
    obtain rfl := Option.some.inj h1
    obtain rfl := Option.some.inj h2
    simp [dot]
  | i + 1, x :: ws, y :: ps, _, _, h1, h2 => by
    have ih := dot_more i ws ps (by simpa using h1) (by simpa using h2)
    show x * y + dot (ws.take (i + 1)) (ps.take (i + 1)) = x * y + dot (ws.take i) (ps.take i) + _
    rw [ih, Int.add_assoc]
  | _, [], _, _, _, h, _ => by simp at h
  | _, _ :: _, [], _, _, _, h => by simp at h
def sp_law_sum_of (K : PySem.W.Frag) : Sp := fun vs H Q _ => ∃ (u p : Addr) (m : Int) (ws ps : List Int), vs = [.int m, .ref u, .ref p] ∧ H u = some (.tup (ws.map V.int)) ∧ H p = some (.tup (ps.map V.int)) ∧ ws.length = ps.length ∧ ws.length ≤ 64 ∧ 0 < m ∧ (∀ (i : Nat) x y, ws[i]? = some x → ps[i]? = some y → CMulA x y) ∧
  ∀ H', Same H H' → Q (.int (dot ws ps % m)) H'
theorem ok_law_sum_of (T : Tx K mg) : FnOk P w K mg base CX0 1 T.f_law_sum_of T.fd_law_sum_of ["_law_modulus", "_law_weights", "_law_spot"] (sp_law_sum_of K) := by
  refine T.F_law_sum_of.ok sc_law_sum_of (fun vs H Q E h => ?_) (fun cdv A outer s H vs Q E hr h => ?_)
  · obtain ⟨u, p, m, ws, ps, rfl, _⟩ := h; rfl
  · obtain ⟨u, p, m, ws, ps, rfl, hu, hp, hl, h64, hm, hmul, q⟩ := h
    refine ⟨_, (pss_cons (ps_set (i := 3) sc_law_sum_of.nd rfl (Or.inl rfl) pe_int)
      (pss_cons (ps_for PassesOwn.never rfl (pi_z2H (by rfl) T.n_zip (pa_cons (pv 1) (pa_cons (pv 2) pa_nil))) (pg_tupH (n := 2) rfl (pgs_cons (pg_name (i := 4) sc_law_sum_of.nd rfl (Or.inl rfl)) (pgs_cons (pg_name (i := 5) sc_law_sum_of.nd rfl (Or.inl rfl)) pgs_nil)))
        (pss_one (ps_set (i := 3) sc_law_sum_of.nd rfl (Or.inl rfl) (pe_op op_add (pv 3) (pe_op op_mulA (pv 4) (pv 5))))))
      (pss_one (ps_ret (pe_op op_mod (pv 3) (pv 0)))))), ?_⟩
    walk_at "rd"
    refine ⟨false, false, ws.map V.int, hu, ps.map V.int, hp, by rw [List.length_map, List.length_map, hl], fun J W => ?_⟩
    refine forr W (fun i σ H' => ∃ v4 v5, σ = [some (V.int m), some (V.ref u), some (V.ref p), some (V.int (dot (ws.take i) (ps.take i))), v4, v5] ∧ Same H H') ⟨none, none, rfl, Same.refl _⟩ (fun i σ H' _ h => by obtain ⟨_, _, _, h⟩ := h; exact ⟨h _ _ hu, h _ _ hp⟩) ?_ ?_
    · rintro i x σ H1 H2 hi ⟨v4, v5, rfl, s1⟩ ⟨T0, x1, y1, rfl, hT, rfl, h1, h2⟩
      simp only [List.getElem?_map, Option.map_eq_some_iff] at h1 h2
      obtain ⟨x2, hx2, rfl⟩ := h1
      obtain ⟨y2, hy2, rfl⟩ := h2
      walk_at "rd"
      exact ⟨hmul i _ _ hx2 hy2, (dot_more i ws ps hx2 hy2).symm, s1.trans (Same.new hT)⟩
    · rintro σ H1 ⟨v4, v5, rfl, s1⟩
      rw [List.length_map, List.take_length, hl, List.take_length]
      walk_at "rd"
      exact ⟨hm, q _ s1⟩
/-- a call whose parts aren't too wide -/
def CallW (e n : Nat) (cs : List Int) : Prop := cs.length = n ∧ ∀ x ∈ cs, x.natAbs < 2 ^ e
def sp_law_drawn_call (K : PySem.W.Frag) : Sp := fun vs H Q _ => ∃ (a l : Addr) (ss : List Int) (N : Nat), vs = [.ref a, .ref l] ∧ SrcN H a N ∧ N < 900000 ∧ H l = some (.tup (ss.map V.int)) ∧ Sz ss ∧ ∀ H' p cs, Sx a H H' → SrcN H' a (N + 8) → H' p = some (.tup (cs.map V.int)) → CallW 1102 ss.length cs → Q (.ref p) H'
theorem ok_law_drawn_call (T : Tx K mg) : FnOk P w K mg base CX0 3 T.f_law_drawn_call T.fd_law_drawn_call ["_law_source_here", "_law_rings"] (sp_law_drawn_call K) := by
  refine T.F_law_drawn_call.ok sc_law_drawn_call (fun vs H Q E h => ?_) (fun cdv A outer s H vs Q E hr h => ?_)
  · obtain ⟨a, l, ss, N, rfl, _⟩ := h; rfl
  · obtain ⟨a, l, ss, N, rfl, hs, hN, hl, z, q⟩ := h
    refine ⟨_, (pss_cons (ps_set (i := 2) sc_law_drawn_call.nd rfl (Or.inl rfl) (pe_lst pa_nil))
      (pss_cons (ps_for PassesOwn.never rfl (pi_seqH (pv 1)) (pg_name (i := 3) sc_law_drawn_call.nd rfl (Or.inl rfl))
        (pss_cons (ps_set (i := 4) sc_law_drawn_call.nd rfl (Or.inl rfl) (pe_call (ok_law_pick T) (hr.mono (by decide)) (by rfl) T.g_law_pick T.F_law_pick.kp T.b_law_pick .nil pass0 (pa_cons (pv 0) (pa_cons (pe_lst (pa_cons (pv 3) (pa_cons (pe_op op_mulA pe_int (pv 3)) (pa_cons (pe_op op_pow pe_int pe_int) pa_nil)))) pa_nil))))
        (pss_one (ps_expr (pe_append (pv 2) (pa_cons (pe_op op_sub (pe_call (ok_law_take T) (hr.mono (by decide)) (by rfl) T.g_law_take T.F_law_take.kp T.b_law_take .nil pass0 (pa_cons (pv 0) (pa_cons (pe_op op_add (pe_op op_mulA pe_int (pv 4)) pe_int) pa_nil))) (pv 4)) pa_nil))))))
      (pss_one (ps_ret (pe_callTy tuple_H (by rfl) T.n_tuple (by decide +kernel) (pa_cons (pv 2) pa_nil)))))), ?_⟩
    have nla := hs.net hl
    have h4 := z.hi
    walk_at "rd"
    intro p hp
    have npa := hs.ne hp
    refine .inr ⟨_, Same.new hp _ _ hl, fun J W => ?_⟩
    refine forr W (fun i σ H' => ∃ (cs : List Int) (v3 v4 : Option V), σ = [some (V.ref a), some (V.ref l), some (V.ref p), v3, v4] ∧ Sx a H H' ∧ SrcN H' a (N + 2 * i) ∧ H' p = some (.lst (cs.map V.int)) ∧ CallW 1102 i cs) ⟨[], none, none, rfl, Sx.of (Same.new hp), hs.put npa.symm, upd_same, rfl, by simp⟩ (fun i σ H' _ h => by obtain ⟨_, _, _, _, h, _⟩ := h; exact h _ _ nla hl) ?_ ?_
    · rintro i x σ H1 H2 hi ⟨cs, v3, v4, rfl, s1, hs1, hp1, hcl, hcb⟩ ⟨rfl, hx⟩
      simp only [List.getElem?_map, Option.map_eq_some_iff] at hx
      obtain ⟨n, hn, rfl⟩ := hx
      rw [List.length_map] at hi
      have hb := z.bits n (List.mem_of_getElem? hn)
      have hpos := z.pos n (List.mem_of_getElem? hn)
      walk_at "rd"
      refine ⟨.inl (by decide), fun g hg => ?_⟩
      have nga := hs1.ne hg
      have sg := Same.new hg (o := .lst [V.int n, V.int (3 * n), V.int 100000000000000000000])
      have fg : (upd H2 g (.lst [V.int n, V.int (3 * n), V.int 100000000000000000000])) g = some (.lst [V.int n, V.int (3 * n), V.int 100000000000000000000]) := upd_same
      generalize upd H2 g (HO.lst [V.int n, V.int (3 * n), V.int 100000000000000000000]) = H3 at sg fg ⊢
      refine pickI ⟨a, g, [n, 3 * n, 100000000000000000000], N + 2 * i, rfl, hs1.same sg, by omega, fg, nga, by simp, by simp, fun H4 r s4 hs4 hr => ?_⟩
      have hr0 : 0 < r ∧ r.natAbs < 2 ^ 1100 := by
        have e1 : (2 : Nat) ^ 1100 = 2 ^ 1000 * 2 ^ 100 := by rw [← Nat.pow_add]
        have e2 : (1 : Nat) ≤ 2 ^ 1000 := Nat.one_le_two_pow
        rw [e1]
        have e3 : (2 : Nat) ^ 100 = 1267650600228229401496703205376 := by decide
        rw [e3]
        generalize (2 : Nat) ^ 1000 = y at *
        simp only [List.mem_cons, List.mem_nil_iff, or_false] at hr
        omega
      have hp4 := s4 _ _ npa (sg _ _ hp1)
      refine ⟨⟨_, hp4⟩, r, rfl, .inl (by decide), a, _, N + 2 * i + 1, rfl, hs4, by omega, ?_, by omega, fun H5 t s5 hs5 t0 t1 => ?_⟩
      · refine Nat.lt_of_lt_of_le (?_ : (2 * r + 1).natAbs < 2 ^ 1102) (Nat.pow_le_pow_right (by decide) (by decide))
        have e1 : (2 : Nat) ^ 1102 = 2 ^ 1100 * 4 := by rw [← Nat.pow_add 2 1100 2]
        rw [e1]
        generalize (2 : Nat) ^ 1100 = y at *
        omega
      have hp5 := s5 _ _ npa hp4
      refine ⟨t, rfl, r, rfl, _, hp5, ?_, ?_, (hs5.put npa.symm).mono (by omega), cs ++ [t - r], by rw [List.map_append]; rfl, by rw [List.length_append, hcl]; rfl, fun x hx => ?_⟩
      · rw [List.length_map, hcl]
        exact Nat.lt_of_lt_of_le (by omega : i < 5) (by decide)
      · have s15 := ((s1.trans (Sx.of sg)).trans s4).trans s5
        intro b o nb hb
        rw [upd_ne (ne_some hb hp)]
        exact s15 b o nb hb
      · rcases List.mem_append.mp hx with hx | hx
        · exact hcb x hx
        · rw [List.mem_singleton.mp hx]
          refine (?_ : (t - r).natAbs < 2 ^ 1102)
          have e1 : (2 : Nat) ^ 1102 = 2 ^ 1100 * 4 := by rw [← Nat.pow_add 2 1100 2]
          rw [e1]
          generalize (2 : Nat) ^ 1100 = y at *
          omega
    · rintro σ H1 ⟨cs, v3, v4, rfl, s1, hs1, hp1, hc⟩
      rw [List.length_map] at hs1 hc
      walk_at "rd"
      refine .inl ⟨_, hp1, fun f hf => q _ f cs (s1.trans (Sx.of (Same.new hf))) ((hs1.same (Same.new hf)).mono (by omega)) upd_same hc⟩
def sp_law_away (K : PySem.W.Frag) : Sp := fun vs H Q _ => ∃ (l u p c : Addr) (m r : Int) (ss ws ps cs : List Int), vs = [.ref l, .int m, .ref u, .int r, .ref p, .ref c] ∧ H l = some (.tup (ss.map V.int)) ∧ H u = some (.tup (ws.map V.int)) ∧ H p = some (.tup (ps.map V.int)) ∧ H c = some (.tup (cs.map V.int)) ∧
  Wit ss m ws r ∧ m.natAbs < 2 ^ 8000 ∧ ps.length = ss.length ∧ cs.length = ss.length ∧ Sz ss ∧ ∀ H', Same H H' → Q (.str (offW (decide (dot ws (mvW false ps cs ss) % m = r)))) H'
def sp_law_sign (K : PySem.W.Frag) : Sp := fun vs H Q _ => ∃ b : Bool, vs = [.str (offW b)] ∧ ∀ H', Same H H' → Q (.int (sgn b)) H'
end

/-! ### planted tables, aimed calls -/
section
variable {P : Program} {w : World} {K : PySem.W.Frag} {mg : Str → Option Value} {base : Heap}
/-- a comprehension that keeps some of its ints -/
theorem lcr_keep {J : It} {n : Nat} {G : Hp → Prop} {Y : Nat → Hp → V → Hp → Prop} (w : Walk J n G Y) {g : TG} {tt : TT} {te : TE} {vs : List Nat} {σ : L2.St} {H1 : Hp} {Q : VK} (f : Nat → Int) (R : Nat → Prop) (hn : n < sizeLine) (hG : ∀ H, Same H1 H → G H)
    (hY : ∀ i x H H', i < n → Y i H x H' → Same H H' ∧ x = .int (f i))
    (hs : ∀ i H (Qn : Hp → Prop) (Qy : VK), i < n → Same H1 H → Qn H → (R i → Qy (.int (f i)) H) → g (.int (f i)) (wipe σ vs) H fun σ2 H2 => wipe σ2 vs = wipe σ vs ∧ tt σ2 H2 fun b H3 => if b = true then te σ2 H3 Qy else Qn H3)
    (hd : ∀ D (fs : List Int) H, Same H1 H → H1 D = none → fs.length ≤ n → (∀ y ∈ fs, ∃ i, i < n ∧ y = f i ∧ R i) → H D = some (.lst (fs.map V.int)) → Q (.ref D) H) : LcR J g tt te vs σ H1 Q := by
  refine lcr_if w (fun D i acc H => Same H1 H ∧ ∃ fs : List Int, acc = fs.map V.int ∧ ∀ y ∈ fs, ∃ i, i < n ∧ y = f i ∧ R i) hn (fun D hD => ⟨Same.new hD, [], rfl, by simp⟩) (fun D i acc H hD hi h e => hG H h.1) (fun D i acc H l hD h hne => ⟨fun b o e => by rw [upd_ne (ne_some e hD)]; exact h.1 b o e, h.2⟩) ?_ ?_
  · rintro D i acc x H H' Qn Qy hD hi ⟨s1, fs, rfl, hf⟩ e hy hqn hqy
    obtain ⟨s2, rfl⟩ := hY _ _ _ _ hi hy
    refine hs i H' Qn Qy hi (s1.trans s2) (hqn _ (s2 _ _ e) ⟨s1.trans s2, fs, rfl, hf⟩) fun hr => hqy _ _ (s2 _ _ e) ⟨s1.trans s2, fs ++ [f i], by rw [List.map_append]; rfl, fun y hy => ?_⟩
    rcases List.mem_append.mp hy with h | h
    · exact hf y h
    · exact ⟨i, hi, List.mem_singleton.mp h, hr⟩
  · rintro D acc H hD hl ⟨s1, fs, rfl, hf⟩ e
    exact hd D fs H s1 hD (by rw [List.length_map] at hl; exact hl) hf e
/-- sizes and weights that fit the modulus m -/
structure PL (m : Int) (ss ws : List Int) : Prop where
  len : ws.length = ss.length
  s : ∀ s ∈ ss, 1 ≤ s ∧ s.natAbs < 2 ^ 300
  w : ∀ x ∈ ws, 0 ≤ x ∧ x < m
  fit : ∀ (i : Nat) x s, ws[i]? = some x → ss[i]? = some s → x * s % m = 0
theorem PL.nil {m : Int} : PL m [] [] := ⟨rfl, by simp, by simp, by simp⟩
theorem PL.add {m f c t : Int} {ss ws : List Int} (h : PL m ss ws) (hm : 1 ≤ m) (hb : m < 2 ^ 62) (f0 : 0 < f) (hf : f ∣ m) (c0 : 1 ≤ c) (cb : c.natAbs < 2 ^ 100) (t0 : 0 ≤ t) (t1 : t < m / f) : PL m (ss ++ [m / f * c]) (ws ++ [f * t]) := by
  have e : f * (m / f) = m := Int.mul_ediv_cancel' hf
  have q0 : 1 ≤ m / f := by omega
  have q1 : m / f ≤ m := Int.ediv_le_self _ (by omega)
  refine ⟨by rw [List.length_append, List.length_append, h.len]; rfl, fun s hs => ?_, fun x hx => ?_, fun i x s hx hs => ?_⟩
  · rcases List.mem_append.mp hs with hs | hs
    · exact h.s s hs
    · rw [List.mem_singleton.mp hs]
      have p0 : 1 * 1 ≤ m / f * c := Int.mul_le_mul q0 c0 (by decide) (by omega)
      refine ⟨by omega, ?_⟩
      rw [Int.natAbs_mul]
      refine Nat.lt_of_lt_of_le (Nat.mul_lt_mul'' (c := 2 ^ 62) (d := 2 ^ 100) (by omega) cb) ?_
      rw [← Nat.pow_add]
      exact Nat.pow_le_pow_right (by decide) (by decide)
  · rcases List.mem_append.mp hx with hx | hx
    · exact h.w x hx
    · rw [List.mem_singleton.mp hx]
      refine ⟨Int.mul_nonneg (by omega) t0, ?_⟩
      have := Int.mul_lt_mul_of_pos_left t1 f0
      omega
  · by_cases hlt : i < ws.length
    · rw [List.getElem?_append_left hlt] at hx
      rw [List.getElem?_append_left (by rw [← h.len]; exact hlt)] at hs
      exact h.fit i x s hx hs
    · have hi : i = ws.length := by
        have := (List.getElem?_eq_some_iff.mp hx).1
        rw [List.length_append] at this
        simp at this
        omega
      subst hi
      rw [List.getElem?_append_right (Nat.le_refl _), Nat.sub_self] at hx
      rw [h.len, List.getElem?_append_right (Nat.le_refl _), Nat.sub_self] at hs
      obtain rfl := Option.some.inj hx
      obtain rfl := Option.some.inj hs
      have e2 : f * t * (m / f * c) = m * (t * c) := by
        rw [Int.mul_assoc, ← Int.mul_assoc t, Int.mul_comm t (m / f), Int.mul_assoc (m / f), ← Int.mul_assoc, e]
      rw [e2]
      exact Int.mul_emod_right _ _
theorem PL.sz {m : Int} {ss ws : List Int} (h : PL m ss ws) (h1 : 1 ≤ ss.length) (h4 : ss.length ≤ 4) : Sz ss :=
  ⟨h1, h4, fun s hs => (h.s s hs).1, fun s hs => Nat.lt_of_lt_of_le (h.s s hs).2 (Nat.pow_le_pow_right (by decide) (by decide))⟩
def sp_law_planted (K : PySem.W.Frag) : Sp := fun vs H Q _ => ∃ (a : Addr) (b : Int) (N : Nat), vs = [.ref a, .int b] ∧ SrcN H a N ∧ N < 900000 ∧ 1 ≤ b ∧ b ≤ 100000000000000000000 ∧
  ∀ H' D l u (m : Int) (ss ws : List Int), Sx a H H' → SrcN H' a (N + 20) → H' D = some (.tup [.ref l, .int m, .ref u]) → H' l = some (.tup (ss.map V.int)) → H' u = some (.tup (ws.map V.int)) → 3 ≤ m → m % 2 = 1 → m < 2 ^ 62 → PL m ss ws → 1 ≤ ss.length → ss.length ≤ 4 → Q (.ref D) H'
def MP1 (a : Addr) (b : Int) (N : Nat) (H : Hp) (σ : L2.St) (H' : Hp) : Prop := ∃ o : Int, σ = [some (V.ref a), some (V.int b), some (V.int o), none, none, none, none, none, none] ∧ Sx a H H' ∧ SrcN H' a (N + 2) ∧ 3 ≤ o ∧ o % 2 = 1 ∧ o < 2 ^ 62
def MP2 (a : Addr) (b : Int) (N : Nat) (H : Hp) (σ : L2.St) (H' : Hp) : Prop := ∃ o m : Int, σ = [some (V.ref a), some (V.int b), some (V.int o), some (V.int m), none, none, none, none, none] ∧ Sx a H H' ∧ SrcN H' a (N + 3) ∧ 3 ≤ m ∧ m % 2 = 1 ∧ m < 2 ^ 62
def MP3 (a : Addr) (b : Int) (N : Nat) (H : Hp) (σ : L2.St) (H' : Hp) : Prop := ∃ (o m : Int) (p : Addr) (fs : List Int), σ = [some (V.ref a), some (V.int b), some (V.int o), some (V.int m), some (V.ref p), none, none, none, none] ∧ Sx a H H' ∧ SrcN H' a (N + 3) ∧ 3 ≤ m ∧ m % 2 = 1 ∧ m < 2 ^ 62 ∧ H' p = some (.lst (fs.map V.int)) ∧ p ≠ a ∧ H p = none ∧ 0 < fs.length ∧ fs.length ≤ 6 ∧ ∀ f ∈ fs, 0 < f ∧ f ∣ m
def MPL (a : Addr) (b o m : Int) (p q1 q2 : Addr) (fs : List Int) (N i : Nat) (H : Hp) (σ : L2.St) (H' : Hp) : Prop := ∃ (v7 v8 : Option V) (ss ws : List Int), σ = [some (V.ref a), some (V.int b), some (V.int o), some (V.int m), some (V.ref p), some (V.ref q1), some (V.ref q2), v7, v8] ∧ Sx a H H' ∧ SrcN H' a N ∧ H' p = some (.lst (fs.map V.int)) ∧ H' q1 = some (.lst (ss.map V.int)) ∧ H' q2 = some (.lst (ws.map V.int)) ∧ PL m ss ws ∧ ss.length = i
def MP4 (a : Addr) (b : Int) (N : Nat) (H : Hp) (σ : L2.St) (H' : Hp) : Prop := ∃ (o m : Int) (p q1 q2 : Addr) (fs : List Int), MPL a b o m p q1 q2 fs (N + 3) 0 H σ H' ∧ 3 ≤ m ∧ m % 2 = 1 ∧ m < 2 ^ 62 ∧ p ≠ a ∧ q1 ≠ a ∧ q2 ≠ a ∧ p ≠ q1 ∧ p ≠ q2 ∧ q1 ≠ q2 ∧ H q1 = none ∧ H q2 = none ∧ 0 < fs.length ∧ fs.length ≤ 6 ∧ ∀ f ∈ fs, 0 < f ∧ f ∣ m
def MP5 (a : Addr) (b o m : Int) (p q1 q2 : Addr) (fs : List Int) (N : Nat) (H : Hp) (σ : L2.St) (H' : Hp) : Prop := ∃ i, 1 ≤ i ∧ i ≤ 4 ∧ MPL a b o m p q1 q2 fs N i H σ H'
def MPF (a : Addr) (b o m : Int) (p q1 q2 : Addr) (fs : List Int) (N i : Nat) (H : Hp) (σ : L2.St) (H' : Hp) : Prop := ∃ (ss ws : List Int) (f : Int), σ = [some (V.ref a), some (V.int b), some (V.int o), some (V.int m), some (V.ref p), some (V.ref q1), some (V.ref q2), some (V.int (i : Nat)), some (V.int f)] ∧ Sx a H H' ∧ SrcN H' a N ∧ H' p = some (.lst (fs.map V.int)) ∧ H' q1 = some (.lst (ss.map V.int)) ∧ H' q2 = some (.lst (ws.map V.int)) ∧ PL m ss ws ∧ ss.length = i ∧ 0 < f ∧ f ∣ m
def MPG (a : Addr) (b o m : Int) (p q1 q2 : Addr) (fs : List Int) (N i : Nat) (H : Hp) (σ : L2.St) (H' : Hp) : Prop := ∃ (ss ws : List Int) (f c : Int), σ = [some (V.ref a), some (V.int b), some (V.int o), some (V.int m), some (V.ref p), some (V.ref q1), some (V.ref q2), some (V.int (i : Nat)), some (V.int f)] ∧ Sx a H H' ∧ SrcN H' a N ∧ H' p = some (.lst (fs.map V.int)) ∧ H' q1 = some (.lst ((ss ++ [m / f * c]).map V.int)) ∧ H' q2 = some (.lst (ws.map V.int)) ∧ PL m ss ws ∧ ss.length = i ∧ 0 < f ∧ f ∣ m ∧ 1 ≤ c ∧ c.natAbs < 2 ^ 100
theorem ok_law_planted (T : Tx K mg) : FnOk P w K mg base CX0 3 T.f_law_planted T.fd_law_planted ["_law_source_here", "_law_wide"] (sp_law_planted K) := by
  refine T.F_law_planted.ok sc_law_planted (fun vs H Q E h => ?_) (fun cdv A outer s H vs Q E hr h => ?_)
  · obtain ⟨a, b, N, rfl, _⟩ := h; rfl
  · obtain ⟨a, b, N, rfl, hs, hN, hb0, hb1, q⟩ := h
    refine ⟨_, (C8.pss_cut (ps_set (i := 2) sc_law_planted.nd rfl (Or.inl rfl) (pe_op op_add (pe_op op_mulA pe_int (pe_call (ok_law_take T) (hr.mono (by decide)) (by rfl) T.g_law_take T.F_law_take.kp T.b_law_take .nil pass0 (pa_cons (pv 0) (pa_cons (pe_ix ix_lH (pe_lst (pa_cons pe_int (pa_cons pe_int (pa_cons (pe_op op_pow pe_int pe_int) pa_nil)))) (pe_call (ok_law_take T) (hr.mono (by decide)) (by rfl) T.g_law_take T.F_law_take.kp T.b_law_take .nil pass0 (pa_cons (pv 0) (pa_cons pe_int pa_nil))) (fun _ _ => rfl)) pa_nil)))) pe_int))
      (C8.pss_cut (ps_set (i := 3) sc_law_planted.nd rfl (Or.inr rfl) (pe_call (ok_law_pick T) (hr.mono (by decide)) (by rfl) T.g_law_pick T.F_law_pick.kp T.b_law_pick .nil pass0 (pa_cons (pv 0) (pa_cons (pe_lst (pa_cons pe_int (pa_cons pe_int (pa_cons pe_int (pa_cons pe_int (pa_cons pe_int (pa_cons pe_int (pa_cons (pe_op op_pow pe_int pe_int) (pa_cons (pv 2) pa_nil))))))))) pa_nil))))
      (C8.pss_cut (ps_set (i := 4) sc_law_planted.nd rfl (Or.inl rfl) (pe_op op_catS (pe_lst (pa_cons pe_int (pa_cons (pv 3) pa_nil))) (pe_lc (own := [("_law_factor_here", 8)]) (g := (gName 8)) rfl sc_law_planted.nd (pi_seqH (pe_lst (pa_cons pe_int (pa_cons pe_int (pa_cons pe_int (pa_cons pe_int pa_nil)))))) (blkOk_by (own := [("_law_factor_here", 8)]) (N := N_law_planted) (sc := defScope d_law_planted) (by decide +kernel)) (fun _ _ _ _ _ => (pg_name (i := 8) sc_law_planted.nd rfl (Or.inl rfl))) (fun _ _ _ _ _ => (pts_one (pt_cmpR op_eq (pe_op op_mod (pv 3) (pv 8)) pe_int (nomark _)))) (fun _ _ _ _ _ => (pv 8)))))
      (C8.pss_cut (ps_par (i := 5) (j := 6) (by rfl) sc_law_planted.nd rfl rfl (by decide) rfl rfl (pa_cons (pe_lst pa_nil) (pa_cons (pe_lst pa_nil) pa_nil)) (by rfl))
      (C8.pss_cut (ps_for PassesOwn.never rfl (pi_range1H (by rfl) T.n_range (pa_cons (pe_op op_add pe_int (pe_call (ok_law_take T) (hr.mono (by decide)) (by rfl) T.g_law_take T.F_law_take.kp T.b_law_take .nil pass0 (pa_cons (pv 0) (pa_cons pe_int pa_nil)))) pa_nil)) (pg_name (i := 7) sc_law_planted.nd rfl (Or.inl rfl))
        (C8.pss_cut (ps_set (i := 8) sc_law_planted.nd rfl (Or.inl rfl) (pe_call (ok_law_pick T) (hr.mono (by decide)) (by rfl) T.g_law_pick T.F_law_pick.kp T.b_law_pick .nil pass0 (pa_cons (pv 0) (pa_cons (pv 4) pa_nil))))
        (C8.pss_cut (ps_expr (pe_append (pv 5) (pa_cons (pe_op op_mulA (pe_op op_fdivW (pv 3) (pv 8)) (pe_op op_add pe_int (pe_call (ok_law_take T) (hr.mono (by decide)) (by rfl) T.g_law_take T.F_law_take.kp T.b_law_take .nil pass0 (pa_cons (pv 0) (pa_cons (pv 1) pa_nil))))) pa_nil)))
        (pss_one (ps_expr (pe_append (pv 6) (pa_cons (pe_op op_mulA (pv 8) (pe_call (ok_law_take T) (hr.mono (by decide)) (by rfl) T.g_law_take T.F_law_take.kp T.b_law_take .nil pass0 (pa_cons (pv 0) (pa_cons (pe_op op_fdivW (pv 3) (pv 8)) pa_nil)))) pa_nil)))))))
      (pss_one (ps_ret (pe_tup (pa_cons (pe_callTy tuple_H (by rfl) T.n_tuple (by decide +kernel) (pa_cons (pv 5) pa_nil)) (pa_cons (pv 3) (pa_cons (pe_callTy tuple_H (by rfl) T.n_tuple (by decide +kernel) (pa_cons (pv 6) pa_nil)) pa_nil))))))))))), ?_⟩
    refine ⟨MP1 a b N H, ?_, ?_⟩
    · walk_at "rd"
      intro g hg
      have nga := hs.ne hg
      have sg := Same.new hg (o := .lst [V.int 10, V.int 50, V.int 1000000000000000000])
      refine ⟨a, 3, N, rfl, hs.same sg, by decide, take_small (by decide) (by decide), by omega, fun H1 r s1 hs1 r0 r1 => ⟨r, rfl, _, s1 _ _ nga upd_same, ?_⟩⟩
      obtain ⟨n, hn, en⟩ := atI_ints (ns := [10, 50, 1000000000000000000]) r0 (by simpa using r1)
      have hn1 : 0 < n ∧ n ≤ 1000000000000000000 := by
        simp only [List.mem_cons, List.mem_nil_iff, or_false] at hn
        omega
      refine ⟨_, en, a, n, N + 1, rfl, hs1, hn1.1, take_small hn1.1 (by omega), by omega, fun H2 t s2 hs2 t0 t1 => ⟨t, rfl, .inl (by decide), _, rfl, ((Sx.of sg).trans s1).trans s2, hs2, by omega, by omega, by omega⟩⟩
    rintro σ1 H1 ⟨o, rfl, s1, hs1, o3, oo, ob⟩
    refine ⟨MP2 a b N H, ?_, ?_⟩
    · walk_at "rd"
      refine ⟨⟨by decide, by decide, by decide⟩, fun g hg => ?_⟩
      have nga := hs1.ne hg
      have sg := Same.new hg (o := .lst [V.int 3, V.int 5, V.int 9, V.int 15, V.int 21, V.int 45, V.int 531441, V.int o])
      refine pickI ⟨a, g, [3, 5, 9, 15, 21, 45, 531441, o], N + 2, rfl, hs1.same sg, by omega, upd_same, nga, by simp, by simp, fun H2 r s2 hs2 hr => ⟨o, r, rfl, (s1.trans (Sx.of sg)).trans s2, hs2, ?_⟩⟩
      simp only [List.mem_cons, List.mem_nil_iff, or_false] at hr
      omega
    rintro σ2 H2 ⟨o, m, rfl, s2, hs2, m3, mo, mb⟩
    refine ⟨MP3 a b N H, ?_, ?_⟩
    · walk_at "rd"
      intro p hp g hg
      obtain ⟨hg2, ngp⟩ := upd_none_of' hg
      have npa := hs2.ne hp
      have sp := Same.new hp (o := .lst [V.int 1, V.int m])
      have sg := Same.new hg (o := .lst [V.int 3, V.int 5, V.int 7, V.int 9])
      have fp := sg _ _ (upd_same : (upd H2 p (.lst [V.int 1, V.int m])) p = some (.lst [V.int 1, V.int m]))
      have fg : (upd (upd H2 p (.lst [V.int 1, V.int m])) g (.lst [V.int 3, V.int 5, V.int 7, V.int 9])) g = some (.lst (([3, 5, 7, 9] : List Int).map V.int)) := upd_same
      have s23 := sp.trans sg
      generalize upd (upd H2 p (HO.lst [V.int 1, V.int m])) g (HO.lst [V.int 3, V.int 5, V.int 7, V.int 9]) = H3 at fp fg s23 ⊢
      intro J W
      refine lcr_keep W (fun i => ([3, 5, 7, 9] : List Int).getD i 3) (fun i => m % ([3, 5, 7, 9] : List Int).getD i 3 = 0) (by decide) (fun H4 s4 => s4 _ _ fg) ?_ ?_ ?_
      · rintro i x H4 H5 hi ⟨rfl, hx⟩
        refine ⟨Same.refl _, ?_⟩
        rw [show [V.int 3, V.int 5, V.int 7, V.int 9] = ([3, 5, 7, 9] : List Int).map V.int from rfl, List.getElem?_map, Option.map_eq_some_iff] at hx
        obtain ⟨n, hn, rfl⟩ := hx
        rw [List.getD_eq_getElem?_getD, hn]
        rfl
      · intro i H4 Qn Qy hi s4 hqn hqy
        have h0 : 0 < ([3, 5, 7, 9] : List Int).getD i 3 := by
          have : i = 0 ∨ i = 1 ∨ i = 2 ∨ i = 3 := by omega
          rcases this with rfl | rfl | rfl | rfl <;> decide
        generalize ([3, 5, 7, 9] : List Int).getD i 3 = y at h0 hqy ⊢
        walk_at "rd"
        refine ⟨h0, ?_⟩
        by_cases e : m % y = 0
        · rw [if_pos e]
          exact hqy e
        · rw [if_neg e]
          exact hqn
      · intro D fs H4 s4 hD hl hfs h4
        have s24 := s23.trans s4
        refine ⟨D, rfl, _, .inl (.inl (s4 _ _ fp)), _, .inl (.inl h4), ?_, fun p1 hp1 => ?_⟩
        · rw [List.length_map]
          exact Nat.le_trans (by simp; omega : [V.int 1, V.int m].length + fs.length ≤ 6) (by decide)
        have s1 := Same.new hp1 (o := .lst ([V.int 1, V.int m] ++ fs.map V.int))
        have np1 := (hs2.same s24).ne hp1
        refine ⟨o, m, p1, 1 :: m :: fs, rfl, s2.trans (Sx.of (s24.trans s1)), hs2.same (s24.trans s1), m3, mo, mb, upd_same, np1, (s2.trans (Sx.of s24)).free np1 hp1, by simp, by simp; omega, fun f hf => ?_⟩
        rcases List.mem_cons.mp hf with rfl | hf
        · exact ⟨by decide, Int.one_dvd _⟩
        rcases List.mem_cons.mp hf with rfl | hf
        · exact ⟨by omega, Int.dvd_refl _⟩
        obtain ⟨i, hi, rfl, hr⟩ := hfs f hf
        refine ⟨?_, Int.dvd_of_emod_eq_zero hr⟩
        have : i = 0 ∨ i = 1 ∨ i = 2 ∨ i = 3 := by omega
        rcases this with rfl | rfl | rfl | rfl <;> decide
    rintro σ3 H3 ⟨o, m, p, fs, rfl, s3, hs3, m3, mo, mb, hp3, npa, hHp, hf0, hf6, hfs⟩
    refine ⟨MP4 a b N H, ?_, ?_⟩
    · walk_at "rd"
      intro q1 hq1 q2 hq2
      obtain ⟨hq2n, n21⟩ := upd_none_of' hq2
      have n1a := hs3.ne hq1
      have n2a := hs3.ne hq2n
      have t1 := Same.new hq1 (o := .lst [])
      have t2 := Same.new hq2 (o := .lst [])
      have t := t1.trans t2
      exact ⟨o, m, p, q1, q2, fs, ⟨none, none, [], [], rfl, s3.trans (Sx.of t), hs3.same t, t _ _ hp3, t2 _ _ upd_same, upd_same, .nil, rfl⟩, m3, mo, mb, npa, n1a, n2a, ne_some hp3 hq1, ne_some hp3 hq2n, n21.symm, s3.free n1a hq1, s3.free n2a hq2n, hf0, hf6, hfs⟩
    rintro σ4 H4 ⟨o, m, p, q1, q2, fs, k4, m3, mo, mb, npa, n1a, n2a, np1, np2, n12, hHq1, hHq2, hf0, hf6, hfs⟩
    refine ⟨MP5 a b o m p q1 q2 fs (N + 16) H, ?_, ?_⟩
    · obtain ⟨v7, v8, ss, ws, rfl, s4, hs4, hp4, h14, h24, hPL, hl⟩ := k4
      walk_at "rd"
      refine ⟨a, 4, N + 3, rfl, hs4, by decide, take_small (by decide) (by decide), by omega, fun H5 r s5 hs5 r0 r1 => ⟨r, rfl, by omega, by omega, fun J W => ?_⟩⟩
      refine forr W (fun i σ H' => MPL a b o m p q1 q2 fs (N + 4 + 3 * i) i H σ H') ⟨v7, v8, ss, ws, rfl, s4.trans s5, hs5, s5 _ _ npa hp4, s5 _ _ n1a h14, s5 _ _ n2a h24, hPL, hl⟩ (fun _ _ _ _ _ => trivial) ?_ ?_
      · rintro i x σ H6o H6 hi ⟨v7, v8, ss, ws, rfl, s6, hs6, hp6, h16, h26, hPL, hl⟩ ⟨rfl, rfl⟩
        refine ⟨MPF a b o m p q1 q2 fs (N + 5 + 3 * i) i H, ?_, ?_⟩
        · walk_at "rd"
          refine pickI ⟨a, p, fs, N + 4 + 3 * i, rfl, hs6, by omega, hp6, npa, hf0, by omega, fun H7 f s7 hs7 hf => ?_⟩
          exact ⟨ss, ws, f, rfl, s6.trans s7, hs7.mono (by omega), s7 _ _ npa hp6, s7 _ _ n1a h16, s7 _ _ n2a h26, hPL, hl, (hfs f hf).1, (hfs f hf).2⟩
        rintro σ7 H7 ⟨ss, ws, f, rfl, s7, hs7, hp7, h17, h27, hPL, hl, f0, fd⟩
        have fm := Int.le_of_dvd (by omega) fd
        have hdiv : CDivW m f := wide_div f0 (take_small f0 (by omega)) (by decide) (by decide)
        have d0 : 0 < m / f := Int.ediv_pos_of_pos_of_dvd (by omega) (by omega) fd
        have d1 : m / f ≤ m := Int.ediv_le_self _ (by omega)
        refine ⟨MPG a b o m p q1 q2 fs (N + 6 + 3 * i) i H, ?_, ?_⟩
        · walk_at "rd"
          refine ⟨⟨_, h17⟩, hdiv, a, b, N + 5 + 3 * i, rfl, hs7, by omega, Nat.lt_of_lt_of_le (by omega : b.natAbs < 2 ^ 70) (Nat.pow_le_pow_right (by decide) (by decide)), by omega, fun H8 r2 s8 hs8 r20 r21 => ⟨r2, rfl, .inl (by omega), _, s8 _ _ n1a h17, ?_, ?_⟩⟩
          · rw [List.length_map, hl]
            exact Nat.lt_of_lt_of_le (by omega : i < 5) (by decide)
          have s18 := s7.trans s8
          exact ⟨ss, ws, f, 1 + r2, rfl, (fun b' o' nb hb => by rw [upd_ne (ne_some hb hHq1)]; exact s18 b' o' nb hb), (hs8.put n1a.symm).mono (by omega), by rw [upd_ne np1]; exact s8 _ _ npa hp7, by rw [upd_same, List.map_append]; rfl, by rw [upd_ne n12.symm]; exact s8 _ _ n2a h27, hPL, hl, f0, fd, by omega, by omega⟩
        rintro σ8 H8 ⟨ss, ws, f, c, rfl, s8, hs8, hp8, h18, h28, hPL, hl, f0, fd, c1, cb⟩
        have fm := Int.le_of_dvd (by omega) fd
        have hdiv : CDivW m f := wide_div f0 (take_small f0 (by omega)) (by decide) (by decide)
        have d0 : 0 < m / f := Int.ediv_pos_of_pos_of_dvd (by omega) (by omega) fd
        have d1 : m / f ≤ m := Int.ediv_le_self _ (by omega)
        walk_at "rd"
        refine ⟨⟨_, h28⟩, hdiv, a, m / f, N + 6 + 3 * i, rfl, hs8, d0, take_small d0 (by omega), by omega, fun H9 t s9 hs9 t0 t1 => ⟨t, rfl, .inl (by omega), _, s9 _ _ n2a h28, ?_, ?_⟩⟩
        · rw [List.length_map, hPL.len, hl]
          exact Nat.lt_of_lt_of_le (by omega : i < 5) (by decide)
        have s19 := s8.trans s9
        exact ⟨_, _, ss ++ [m / f * c], ws ++ [f * t], rfl, (fun b' o' nb hb => by rw [upd_ne (ne_some hb hHq2)]; exact s19 b' o' nb hb), (hs9.put n2a.symm).mono (by omega), by rw [upd_ne np2]; exact s9 _ _ npa hp8, by rw [upd_ne n12]; exact s9 _ _ n1a h18, by rw [upd_same, List.map_append]; rfl, hPL.add (by omega) mb f0 fd c1 cb t0 t1, by rw [List.length_append, hl]; rfl⟩
      · rintro σ H6 h
        exact ⟨(1 + r).toNat, by omega, by omega, by
          obtain ⟨v7, v8, ss, ws, h1, h2, h3, h4⟩ := h
          exact ⟨v7, v8, ss, ws, h1, h2, h3.mono (by omega), h4⟩⟩
    rintro σ5 H5 ⟨i, i1, i4, v7, v8, ss, ws, rfl, s5, hs5, hp5, h15, h25, hPL, hl⟩
    walk_at "rd"
    refine .inl ⟨_, h15, fun l hl1 => .inl ⟨_, (Same.new hl1) _ _ h25, fun u hu => fun D hD => ?_⟩⟩
    have t1 := Same.new hl1 (o := .tup (ss.map V.int))
    have t2 := Same.new hu (o := .tup (ws.map V.int))
    have t3 := Same.new hD (o := .tup [V.ref l, V.int m, V.ref u])
    have t := (t1.trans t2).trans t3
    exact q _ D l u m ss ws (s5.trans (Sx.of t)) ((hs5.same t).mono (by omega)) upd_same ((t2.trans t3) _ _ upd_same) (t3 _ _ upd_same) m3 mo mb hPL (by omega) (by omega)
end

/-! ### a weighted sum behind one step by a word -/
theorem off_eq {ss ws ps cs : List Int} {m r : Int} (hw : Wit ss m ws r) (hp : ps.length = ss.length) (hc : cs.length = ss.length) : dot ws (mvW false ps cs ss) % m = (dot ws ps + dot ws cs) % m := emod_eq_iff.mpr (dot_fw ws ps cs ss hw.len hp hc hw.fit)
theorem off_ne {ss ws ps cs : List Int} {m r : Int} (hw : Wit ss m ws r) (hp : ps.length = ss.length) (hc : cs.length = ss.length) (hne : dot ws ps % m ≠ r) : dot ws (mvW (decide (dot ws (mvW false ps cs ss) % m = r)) ps cs ss) % m ≠ r := by
  by_cases e : dot ws (mvW false ps cs ss) % m = r
  · rw [decide_eq_true e]
    exact fun e2 => one_off hw hp hc hne e e2
  · rw [decide_eq_false e]
    exact e

/-! ### a drawn table, its modulus and its weights -/
/-- a table that is drawn: sizes at l, weights at u -/
structure KR (a l u : Addr) (ss ws : List Int) (N : Nat) (H0 H : Hp) : Prop where
  sx : Sx a H0 H
  src : SrcN H a N
  l : H l = some (.tup (ss.map V.int))
  u : H u = some (.tup (ws.map V.int))
theorem KR.same {a l u : Addr} {ss ws : List Int} {N : Nat} {H0 H H' : Hp} (k : KR a l u ss ws N H0 H) (s : Same H H') : KR a l u ss ws N H0 H' := ⟨k.sx.trans (Sx.of s), k.src.same s, s _ _ k.l, s _ _ k.u⟩
theorem KR.sxx {a l u : Addr} {ss ws : List Int} {N M : Nat} {H0 H H' : Hp} (k : KR a l u ss ws N H0 H) (s : Sx a H H') (h : SrcN H' a M) : KR a l u ss ws M H0 H' := ⟨k.sx.trans s, h, s _ _ (k.src.net k.l) k.l, s _ _ (k.src.net k.u) k.u⟩
theorem KR.more {a l u : Addr} {ss ws : List Int} {N M : Nat} {H0 H : Hp} (k : KR a l u ss ws N H0 H) (h : N ≤ M) : KR a l u ss ws M H0 H := ⟨k.sx, k.src.mono h, k.l, k.u⟩
structure FR (m : Int) (ss ws : List Int) : Prop where
  m3 : 3 ≤ m
  mo : m % 2 = 1
  mb : m < 2 ^ 62
  pl : PL m ss ws
  lo : 1 ≤ ss.length
  hi : ss.length ≤ 4
theorem FR.wit {m r : Int} {ss ws : List Int} (h : FR m ss ws) (r0 : 0 ≤ r) (r1 : r < m) : Wit ss m ws r := ⟨h.pl.len, h.m3, h.mo, h.pl.w, h.pl.fit, r0, r1⟩
theorem FR.sz {m : Int} {ss ws : List Int} (h : FR m ss ws) : Sz ss := h.pl.sz h.lo h.hi
theorem FR.mm {m : Int} {ss ws : List Int} (h : FR m ss ws) : m.natAbs < 2 ^ 8000 := take_small (by have := h.m3; omega) (by have := h.mb; omega)
theorem TabAt.sxN {C : Addr} {H H' : Hp} {a t : Addr} {ss : List Int} {N : Nat} (h : TabAt C H t ss) (hs : SrcN H a N) (s : Sx a H H') : TabAt C H' t ss := by
  obtain ⟨dx, t2, h1, h2⟩ := h
  obtain ⟨x, y, z, h3, _⟩ := hs
  exact ⟨dx, t2, s _ _ (fun e => by rw [e, h3] at h1; cases h1) h1, s _ _ (fun e => by rw [e, h3] at h2; cases h2) h2⟩

/-! ### k37's draws -/
section
variable {P : Program} {w : World} {K : PySem.W.Frag} {mg : Str → Option Value} {base : Heap}
theorem SrcN.tp {H H' : Hp} {a : Addr} {N : Nat} (h : SrcN H a N) (s : Sx a H H') : Tp H H' := by
  obtain ⟨x, y, z, h, _⟩ := h
  exact Tp.sx s h (by simp)
theorem SrcN.nel {H : Hp} {a D : Addr} {N : Nat} {as : List Addr} (h : SrcN H a N) (hD : H D = some (.lst (as.map V.ref))) : D ≠ a := fun e => by
  obtain ⟨s, c, d, h, _⟩ := h
  rw [e, h] at hD
  have := HO.lst.inj (Option.some.inj hD)
  cases as <;> simp at this
theorem _root_.Cs.LstT.sxn {H H' : Hp} {a D : Addr} {N : Nat} {gs : List (List Int)} (h : LstT H D gs) (hs : SrcN H a N) (s : Sx a H H') : LstT H' D gs := by
  obtain ⟨as, h1, h2⟩ := h
  exact ⟨as, s _ _ (hs.nel h1) h1, h2.tp (hs.tp s)⟩
theorem erase_map {α β : Type} (f : α → β) : ∀ (l : List α) (k : Nat), (l.map f).eraseIdx k = (l.eraseIdx k).map f
  | [], k => by simp
  | x :: l, 0 => rfl
  | x :: l, k + 1 => by
    show f x :: (l.map f).eraseIdx k = f x :: (l.eraseIdx k).map f
    rw [erase_map f l k]
theorem erase_perm {α : Type} : ∀ {l : List α} {k : Nat} {x : α}, l[k]? = some x → (x :: l.eraseIdx k).Perm l
  | [], _, _, h => by simp at h
  | y :: l, 0, x, h => by
    simp only [List.getElem?_cons_zero, Option.some.injEq] at h
    rw [h]
    exact List.Perm.refl _
  | y :: l, k + 1, x, h => by
    have ih := erase_perm (l := l) (k := k) (x := x) (by simpa using h)
    exact (List.Perm.swap y x _).trans (ih.cons y)
def MSh (a l P D : Addr) (ns : List Int) (N : Nat) (H : Hp) (σ : L2.St) (H' : Hp) : Prop := σ = [some (V.ref a), some (V.ref l), some (V.ref P), some (V.ref D)] ∧ ∃ ps ds : List Int, H' P = some (.lst (ps.map V.int)) ∧ H' D = some (.lst (ds.map V.int)) ∧ Sx a H H' ∧ SrcN H' a (N + ds.length) ∧ (ps ++ ds).Perm ns
def sp_law_shuffled (K : PySem.W.Frag) : Sp := fun vs H Q _ => ∃ (a l : Addr) (ns : List Int) (N : Nat), vs = [.ref a, .ref l] ∧ SrcN H a N ∧ N < 800000 ∧ H l = some (.lst (ns.map V.int)) ∧ l ≠ a ∧ ns.length ≤ 60 ∧ ∀ H' D (ms : List Int), Sx a H H' → SrcN H' a (N + ns.length) → H' D = some (.lst (ms.map V.int)) → D ≠ a → ms.Perm ns → Q (.ref D) H'
theorem ok_law_shuffled (T : Tx K mg) : FnOk P w K mg base CX0 2 T.f_law_shuffled T.fd_law_shuffled ["_law_source_here", "_law_items"] (sp_law_shuffled K) := by
  refine T.F_law_shuffled.ok sc_law_shuffled (fun vs H Q E h => ?_) (fun cdv A outer s H vs Q E hr h => ?_)
  · obtain ⟨a, l, ns, N, rfl, _⟩ := h; rfl
  · obtain ⟨a, l, ns, N, rfl, hs, hN, hl, nla, hn, q⟩ := h
    refine ⟨_, (pss_cons (ps_par (i := 2) (j := 3) (by rfl) sc_law_shuffled.nd rfl rfl (by decide) rfl rfl (pa_cons (pe_callTy list_H (by rfl) T.n_list (by decide +kernel) (pa_cons (pv 1) pa_nil)) (pa_cons (pe_lst pa_nil) pa_nil)) (by rfl))
      (pss_cons (ps_while PassesOwn.never (pt_cmpR (op_neDK (K := K) rfl hr.units) (pv 2) (pe_lst pa_nil) (nomark _)) (pss_one (ps_expr (pe_append (pv 3) (pa_cons (pe_bm PySem.F.plainAttrs_list PySem.F.slot_list_pop PySem.F.type_list_pop mt_popAt (pv 2) (pa_cons (pe_call (ok_law_take T) (hr.mono (by decide)) (by rfl) T.g_law_take T.F_law_take.kp T.b_law_take .nil pass0 (pa_cons (pv 0) (pa_cons (pe_callB len_H (by rfl) T.n_len PySem.boot_len (pa_cons (pv 2) pa_nil)) pa_nil))) pa_nil)) pa_nil)))))
      (pss_one (ps_ret (pv 3))))), ?_⟩
    walk_at "rd"
    refine .inl ⟨_, hl, fun P hP D hD => ?_⟩
    have sP := Same.new hP (o := .lst (ns.map V.int))
    have fP : (upd H P (.lst (ns.map V.int))) P = some (.lst (ns.map V.int)) := upd_same
    generalize upd H P (HO.lst (ns.map V.int)) = H1 at sP fP hD ⊢
    have sD := Same.new hD (o := .lst [])
    have nPD : P ≠ D := ne_some fP hD
    have nPa := hs.ne hP
    have nDa := (hs.same sP).ne hD
    have hD0 := sP.free hD
    refine while_by (fun σ H' => MSh a l P D ns N H σ H') (fun σ H' => match H' P with | some (.lst xs) => xs.length | _ => 0) ⟨rfl, ns, [], sD _ _ fP, upd_same, Sx.of (sP.trans sD), (hs.same (sP.trans sD)).mono (by omega), by simp⟩ ?_ ?_
    · rintro σ H2 ⟨rfl, ps, ds, hP2, hD2, s2, hs2, hpm⟩
      have hlen := hpm.length_eq
      rw [List.length_append] at hlen
      walk_at "rd"
      intro e he
      have se := Same.new he (o := .lst [])
      refine neD_lst (ns := ps) (ms := []) (se _ _ hP2) upd_same ⟨_, rfl, ?_⟩
      by_cases h0 : ps = []
      · subst h0
        rw [decide_eq_true rfl, if_neg (by decide)]
        exact q _ D ds (s2.trans (Sx.of se)) ((hs2.same se).mono (by simp at hlen; omega)) (se _ _ hD2) nDa (by simpa using hpm)
      · rw [decide_eq_false h0, if_pos (by decide)]
        have hp0 := List.length_pos_iff.mpr h0
        have hP3 := se _ _ hP2
        have hD3 := se _ _ hD2
        have hs3 := hs2.same se
        have s3 := s2.trans (Sx.of se)
        generalize upd H2 e (HO.lst []) = H3 at hP3 hD3 hs3 s3 ⊢
        refine ⟨⟨_, hD3⟩, .inl ⟨rfl, _, .inl (.inl hP3)⟩, .inl ⟨_, hP3, ?_⟩⟩
        rw [List.length_map]
        refine ⟨a, ps.length, N + ds.length, rfl, hs3, by omega, take_small (by omega) (by omega), by omega, fun H4 r s4 hs4 r0 r1 => ?_⟩
        have hP4 := s4 _ _ nPa hP3
        have hD4 := s4 _ _ nDa hD3
        obtain ⟨k, rfl⟩ := Int.eq_ofNat_of_zero_le r0
        have hk : k < ps.length := by omega
        have hpk := List.getElem?_eq_getElem hk
        refine ⟨P, ps.map V.int, (k : Nat), k, V.int ps[k], rfl, rfl, hP4, by omega, by omega, by rw [List.length_map]; exact seqIndex_of (by omega) (by omega), by rw [List.getElem?_map, hpk]; rfl, ?_⟩
        have hD5 : (upd H4 P (.lst ((ps.map V.int).eraseIdx k))) D = some (.lst (ds.map V.int)) := by rw [upd_ne nPD.symm]; exact hD4
        refine ⟨_, hD5, ?_, ⟨rfl, ps.eraseIdx k, ds ++ [ps[k]], by rw [upd_ne nPD, upd_same, erase_map], by rw [upd_same, List.map_append]; rfl, fun b o nb hb => ?_, ?_, ?_⟩, ?_⟩
        · rw [List.length_map]
          exact Nat.lt_of_le_of_lt (by omega : ds.length ≤ 60) (by decide)
        · rw [upd_ne (ne_some hb hD0), upd_ne (ne_some hb hP)]
          exact (s3.trans s4) b o nb hb
        · rw [List.length_append]
          exact ((hs4.put nPa.symm).put nDa.symm).mono (by simp; omega)
        · have p1 := erase_perm hpk
          have p2 : (ps.eraseIdx k ++ (ds ++ [ps[k]])).Perm (ps[k] :: ps.eraseIdx k ++ ds) := by
            rw [← List.append_assoc]
            exact List.perm_append_comm
          exact p2.trans ((p1.append_right ds).trans hpm)
        · rw [upd_ne nPD, upd_same, hP2]
          show ((ps.map V.int).eraseIdx k).length < (ps.map V.int).length
          rw [List.length_eraseIdx, List.length_map, if_pos hk]
          omega
    · intro σ Hi Q1 Q2 h hq
      simp only [tTest, tOp, tLst, tNil] at hq ⊢
      obtain ⟨v, e, hl0, hq⟩ := hq
      exact ⟨v, e, hl0, fun p hp => by
        obtain ⟨d, d2, h1, h2, h3, h4, k, ek, qq⟩ := hq p hp
        exact ⟨d, d2, h1, h2, h3, h4, k, ek, h _ _ qq⟩⟩
def MGo (a l D : Addr) (n : Int) (N i : Nat) (H : Hp) (σ : L2.St) (H' : Hp) (gs : List (List Int)) : Prop := ∃ v4 v5, σ = [some (V.ref a), some (V.ref l), some (V.int n), some (V.ref D), v4, v5] ∧ Sx a H H' ∧ SrcN H' a (N + 1 + 4 * i) ∧ LstT H' D gs
def sp_law_goals (K : PySem.W.Frag) : Sp := fun vs H Q _ => ∃ (a l : Addr) (n : Int) (ss : List Int) (N : Nat), vs = [.ref a, .ref l, .int n] ∧ SrcN H a N ∧ N < 800000 ∧ 1 ≤ n ∧ n ≤ 50 ∧ H l = some (.tup (ss.map V.int)) ∧ Sz ss ∧
  ∀ H' D gs, Sx a H H' → SrcN H' a (N + 201) → LstT H' D gs → Tgts ss gs → Q (.ref D) H'
theorem ok_law_goals (T : Tx K mg) : FnOk P w K mg base CX0 3 T.f_law_goals T.fd_law_goals ["_law_source_here", "_law_rings", "_law_bound"] (sp_law_goals K) := by
  refine T.F_law_goals.ok sc_law_goals (fun vs H Q E h => ?_) (fun cdv A outer s H vs Q E hr h => ?_)
  · obtain ⟨a, l, n, ss, N, rfl, _⟩ := h; rfl
  · obtain ⟨a, l, n, ss, N, rfl, hs, hN, n1, n5, hl, z, q⟩ := h
    refine ⟨_, (pss_cons (ps_set (i := 3) sc_law_goals.nd rfl (Or.inl rfl) (pe_lst pa_nil))
      (pss_cons (ps_for PassesOwn.never rfl (pi_range1H (by rfl) T.n_range (pa_cons (pe_op op_add pe_int (pe_call (ok_law_take T) (hr.mono (by decide)) (by rfl) T.g_law_take T.F_law_take.kp T.b_law_take .nil pass0 (pa_cons (pv 0) (pa_cons (pv 2) pa_nil)))) pa_nil)) (pg_name (i := 4) sc_law_goals.nd rfl (Or.inl rfl))
        (pss_cons (ps_set (i := 5) sc_law_goals.nd rfl (Or.inl rfl) (pe_call (ok_law_drawn_seat T) (hr.mono (by decide)) (by rfl) T.g_law_drawn_seat T.F_law_drawn_seat.kp T.b_law_drawn_seat .nil pass0 (pa_cons (pv 0) (pa_cons (pv 1) pa_nil))))
        (pss_one (ps_if (pt_cmpR (op_notInDK (K := K) rfl hr.units1) (pv 5) (pv 3) rfl) (pss_one (ps_expr (pe_append (pv 3) (pa_cons (pv 5) pa_nil)))) pss_nil))))
      (pss_one (ps_ret (pv 3))))), ?_⟩
    have nla := hs.net hl
    walk_at "rd"
    intro D hD
    have nDa := hs.ne hD
    have sD := Same.new hD (o := .lst [])
    refine ⟨a, n, N, rfl, hs.same sD, by omega, take_small (by omega) (by omega), by omega, fun H1 x s1 hs1 x0 x1 => ⟨x, rfl, by omega, by omega, fun J W => ?_⟩⟩
    refine forr W (fun i σ H' => ∃ gs, MGo a l D n N i H σ H' gs ∧ gs.Nodup ∧ gs.length ≤ i ∧ (1 ≤ i → gs ≠ []) ∧ ∀ g ∈ gs, Seat ss g)
      ⟨[], ⟨none, none, rfl, (Sx.of sD).trans s1, hs1, [], s1 _ _ nDa upd_same, AsT.nil⟩, List.nodup_nil, Nat.le_refl _, fun h => absurd h (by decide), by simp⟩ (fun _ _ _ _ _ => trivial) ?_ ?_
    · rintro i xx σ H2 H3 hi ⟨gs, ⟨v4, v5, rfl, s2, hs2, hL2⟩, hnd, hlen, hne, hok⟩ ⟨rfl, rfl⟩
      walk_at "rd"
      refine ⟨a, l, ss, N + 1 + 4 * i, rfl, hs2, by omega, s2 _ _ nla hl, z, fun H4 p ps s4 hs4 hp hS => ?_⟩
      have hL4 := hL2.sxn hs2 s4
      have sA := s2.trans s4
      refine notInD_tups hp hL4 ⟨_, rfl, ?_⟩
      by_cases h : ps ∈ gs
      · rw [decide_eq_true h, if_neg (by decide)]
        exact ⟨gs, ⟨_, _, rfl, sA, hs4.mono (by omega), hL4⟩, hnd, by omega, fun _ e => by rw [e] at h; simp at h, hok⟩
      · rw [decide_eq_false h, if_pos (by decide)]
        obtain ⟨as, hDa, hal, hL'⟩ := hL4.push hp
        refine ⟨⟨_, hDa⟩, _, hDa, ?_, gs ++ [ps], ⟨_, _, rfl, fun b o nb hb => by rw [upd_ne (ne_some hb hD)]; exact sA b o nb hb, (hs4.put nDa.symm).mono (by omega), hL'⟩, ?_, by rw [List.length_append]; simp; omega, fun _ => by simp, fun g hg => ?_⟩
        · rw [List.length_map, hal]
          exact Nat.lt_of_le_of_lt (by omega : gs.length ≤ 60) (by decide)
        · rw [List.nodup_append]
          exact ⟨hnd, by simp, fun x hx y hy e' => h (by rw [← List.mem_singleton.mp hy, ← e']; exact hx)⟩
        · rcases List.mem_append.mp hg with hg | hg
          · exact hok g hg
          · rw [List.mem_singleton.mp hg]
            exact hS
    · rintro σ H2 ⟨gs, ⟨v4, v5, rfl, s2, hs2, hL2⟩, hnd, hlen, hne, hok⟩
      walk_at "rd"
      exact q _ D gs s2 (hs2.mono (by omega)) hL2 ⟨hne (by omega), hnd, by omega, hok⟩
/-- a comprehension whose elements are drawn tuples of ints -/
theorem lcr_drawT {J : It} {n k : Nat} {G : Hp → Prop} {Y : Nat → Hp → V → Hp → Prop} (w : Walk J n G Y) {g : TG} {te : TE} {vs : List Nat} {σ : L2.St} {H1 : Hp} {Q : VK} {a : Addr} {N : Nat} (R : List Int → Prop) (hs1 : SrcN H1 a N) (hn : n ≤ sizeLine)
    (hG : ∀ H, Sx a H1 H → G H) (hY : ∀ i x H H', Y i H x H' → Same H H')
    (hs : ∀ i x H H' (Qy : VK), i < n → Sx a H1 H → SrcN H' a (N + k * i) → Y i H x H' → (∀ t c H4, Sx a H' H4 → SrcN H4 a (N + k * (i + 1)) → H4 t = some (.tup (c.map V.int)) → R c → Qy (.ref t) H4) → g x (wipe σ vs) H' fun σ2 H2 => wipe σ2 vs = wipe σ vs ∧ te σ2 H2 Qy)
    (hd : ∀ D css H, Sx a H1 H → SrcN H a (N + k * n) → LstT H D css → css.length = n → (∀ c ∈ css, R c) → Q (.ref D) H) : LcR J g tYes te vs σ H1 Q := fun D hD => by
  have nDa : D ≠ a := hs1.ne hD
  refine lc_gen w (fun i acc H => Sx a H1 H ∧ SrcN H a (N + k * i) ∧ (∃ ys, H D = some (.lst ys)) ∧ ∃ as css, acc = as.map V.ref ∧ AsT H as css ∧ css.length = i ∧ ∀ c ∈ css, R c) hn ⟨Sx.of (Same.new hD), (hs1.same (Same.new hD)).mono (by omega), ⟨_, upd_same⟩, [], [], rfl, AsT.nil, rfl, by simp⟩ (fun i acc H _ h _ => hG H h.1) (fun i acc H l h _ => ?_) (fun i acc x H H' Qy hi ha h e hy hq => ?_) (fun acc H ha h e => ?_)
  · obtain ⟨h1, h2, ⟨ys, h3⟩, as, css, h4, h5, h6⟩ := h
    exact ⟨fun b o nb e => by rw [upd_ne (ne_some e hD)]; exact h1 b o nb e, h2.put nDa.symm, ⟨_, upd_same⟩, as, css, h4, h5.tp (Tp.put h3 (by simp)), h6⟩
  · obtain ⟨h1, h2, ⟨ys, h3⟩, as, css, h4, h5, h6, h7⟩ := h
    have sy := hY _ _ _ _ hy
    refine hs i x H H' Qy hi h1 (h2.same sy) hy fun t c H4 s4 hs4 ht hR => ?_
    refine hq (.ref t) H4 (s4 _ _ nDa (sy _ _ e)) ⟨(h1.trans (Sx.of sy)).trans s4, hs4, ⟨_, s4 _ _ nDa (sy _ _ h3)⟩, as ++ [t], css ++ [c], by rw [h4, List.map_append]; rfl, ((h5.same sy).tp ((h2.same sy).tp s4)).snoc ht, by rw [List.length_append, h6]; rfl, fun d hd' => ?_⟩
    rcases List.mem_append.mp hd' with hd' | hd'
    · exact h7 d hd'
    · rw [List.mem_singleton.mp hd']
      exact hR
  · obtain ⟨h1, h2, _, as, css, h4, h5, h6, h7⟩ := h
    exact hd D css H h1 h2 ⟨as, by rw [← h4]; exact e, h5⟩ h6 h7
def sp_law_list_calls (K : PySem.W.Frag) : Sp := fun vs H Q _ => ∃ (a l : Addr) (n : Int) (ss : List Int) (N : Nat), vs = [.ref a, .ref l, .int n] ∧ SrcN H a N ∧ N < 800000 ∧ 1 ≤ n ∧ n ≤ 50 ∧ H l = some (.tup (ss.map V.int)) ∧ Sz ss ∧
  ∀ H' D (cs : List (List Int)), Sx a H H' → SrcN H' a (N + 401) → LstT H' D cs → cs ≠ [] → (cs.length : Int) ≤ n → (∀ c ∈ cs, CallW 1102 ss.length c) → Q (.ref D) H'
theorem ok_law_list_calls (T : Tx K mg) : FnOk P w K mg base CX0 4 T.f_law_list_calls T.fd_law_list_calls ["_law_source_here", "_law_rings", "_law_bound"] (sp_law_list_calls K) := by
  refine T.F_law_list_calls.ok sc_law_list_calls (fun vs H Q E h => ?_) (fun cdv A outer s H vs Q E hr h => ?_)
  · obtain ⟨a, l, n, ss, N, rfl, _⟩ := h; rfl
  · obtain ⟨a, l, n, ss, N, rfl, hs, hN, n1, n5, hl, z, q⟩ := h
    refine ⟨_, (pss_one (ps_ret (pe_lc (own := [("_law_k", 3)]) (g := (gName 3)) (tt := tYes) rfl sc_law_list_calls.nd (pi_range1H (by rfl) T.n_range (pa_cons (pe_op op_add pe_int (pe_call (ok_law_take T) (hr.mono (by decide)) (by rfl) T.g_law_take T.F_law_take.kp T.b_law_take .nil pass0 (pa_cons (pv 0) (pa_cons (pv 2) pa_nil)))) pa_nil)) (blkOk_by (own := [("_law_k", 3)]) (N := N_law_list_calls) (sc := defScope d_law_list_calls) (by decide +kernel)) (fun _ _ _ _ _ => (pg_name (i := 3) sc_law_list_calls.nd rfl (Or.inl rfl))) (fun _ _ _ _ _ => pts_nil) (fun _ _ _ _ _ => (pe_call (ok_law_drawn_call T) (hr.mono (by decide)) (by rfl) T.g_law_drawn_call T.F_law_drawn_call.kp T.b_law_drawn_call .nil pass0 (pa_cons (pv 0) (pa_cons (pv 1) pa_nil))))))), ?_⟩
    have nla := hs.net hl
    walk_at "rd"
    refine ⟨a, n, N, rfl, hs, by omega, take_small (by omega) (by omega), by omega, fun H1 x s1 hs1 x0 x1 => ⟨x, rfl, by omega, by omega, fun J W => ?_⟩⟩
    refine lcr_drawT (k := 8) W (fun c => CallW 1102 ss.length c) hs1 (Nat.le_trans (by omega : (1 + x).toNat ≤ 60) (by decide)) (fun _ _ => trivial) (fun i x H H' y => by rw [y.1]; exact Same.refl _) ?_ ?_
    · rintro i xx H3 H4 Qy hi s3 hs3 ⟨rfl, rfl⟩ hq
      walk_at "rd"
      exact ⟨a, l, ss, N + 1 + 8 * i, rfl, hs3, by omega, s3 _ _ nla (s1 _ _ nla hl), z, fun H5 p cs s5 hs5 hp hcs => hq p cs H5 s5 (hs5.mono (by omega)) hp hcs⟩
    · intro D css H3 s3 hs3 hL hlen hR
      exact q _ D css (s1.trans s3) (hs3.mono (by omega)) hL (by intro e; rw [e] at hlen; simp at hlen; omega) (by omega) hR
theorem words_of {acc : List V} (h : ∀ (i : Nat) y, acc[i]? = some y → ∃ b, y = V.str (offW b)) : ∃ bs : List Bool, acc = bs.map fun b => V.str (offW b) := by
  induction acc with
  | nil => exact ⟨[], rfl⟩
  | cons x r ih =>
    obtain ⟨b, e⟩ := h 0 x rfl
    obtain ⟨bs, e2⟩ := ih fun i y hy => h (i + 1) y hy
    exact ⟨b :: bs, by rw [e, e2]; rfl⟩
def sp_law_list_words (K : PySem.W.Frag) : Sp := fun vs H Q _ => ∃ (a : Addr) (n : Int) (N : Nat), vs = [.ref a, .int n] ∧ SrcN H a N ∧ N < 800000 ∧ 1 ≤ n ∧ n ≤ 50 ∧
  ∀ H' D (bs : List Bool), Sx a H H' → SrcN H' a (N + 51) → H' D = some (.lst (bs.map fun b => V.str (offW b))) → D ≠ a → bs ≠ [] → (bs.length : Int) ≤ n → Q (.ref D) H'
theorem ok_law_list_words (T : Tx K mg) : FnOk P w K mg base CX0 3 T.f_law_list_words T.fd_law_list_words ["_law_source_here", "_law_bound"] (sp_law_list_words K) := by
  refine T.F_law_list_words.ok sc_law_list_words (fun vs H Q E h => ?_) (fun cdv A outer s H vs Q E hr h => ?_)
  · obtain ⟨a, n, N, rfl, _⟩ := h; rfl
  · obtain ⟨a, n, N, rfl, hs, hN, n1, n5, q⟩ := h
    refine ⟨_, (pss_one (ps_ret (pe_lc (own := [("_law_k", 2)]) (g := (gName 2)) (tt := tYes) rfl sc_law_list_words.nd (pi_range1H (by rfl) T.n_range (pa_cons (pe_op op_add pe_int (pe_call (ok_law_take T) (hr.mono (by decide)) (by rfl) T.g_law_take T.F_law_take.kp T.b_law_take .nil pass0 (pa_cons (pv 0) (pa_cons (pv 1) pa_nil)))) pa_nil)) (blkOk_by (own := [("_law_k", 2)]) (N := N_law_list_words) (sc := defScope d_law_list_words) (by decide +kernel)) (fun _ _ _ _ _ => (pg_name (i := 2) sc_law_list_words.nd rfl (Or.inl rfl))) (fun _ _ _ _ _ => pts_nil) (fun _ _ _ _ _ => (pe_call (ok_law_pick T) (hr.mono (by decide)) (by rfl) T.g_law_pick T.F_law_pick.kp T.b_law_pick .nil pass0 (pa_cons (pv 0) (pa_cons (pe_lst (pa_cons pe_str (pa_cons pe_str pa_nil))) pa_nil))))))), ?_⟩
    walk_at "rd"
    refine ⟨a, n, N, rfl, hs, by omega, take_small (by omega) (by omega), by omega, fun H1 x s1 hs1 x0 x1 => ⟨x, rfl, by omega, by omega, fun J W => ?_⟩⟩
    refine lcr_drawN (k := 1) W (fun i y => ∃ b, y = V.str (offW b)) hs1 (Nat.le_trans (by omega : (1 + x).toNat ≤ 60) (by decide)) (fun _ _ => trivial) (fun i x H H' y => by rw [y.1]; exact Same.refl _) ?_ ?_
    · rintro i xx H3 H4 Qy hi s3 hs3 ⟨rfl, rfl⟩ hq
      walk_at "rd"
      intro g hg
      have sg := Same.new hg (o := .lst [V.str (Str.ofString "forward"), V.str (Str.ofString "backward")])
      refine ⟨a, g, _, N + 1 + 1 * i, rfl, hs3.same sg, by omega, upd_same, hs3.ne hg, by simp, by simp, fun H5 v s5 hs5 hv => ?_⟩
      refine hq _ _ ((Sx.of sg).trans s5) (hs5.mono (by omega)) ?_
      simp only [List.mem_cons, List.mem_nil_iff, or_false] at hv
      rcases hv with rfl | rfl
      · exact ⟨false, rfl⟩
      · exact ⟨true, rfl⟩
    · intro D acc H3 hD s3 hs3 hlen hR hD3
      obtain ⟨bs, rfl⟩ := words_of hR
      rw [List.length_map] at hlen
      exact q _ D bs (s1.trans s3) (hs3.mono (by omega)) hD3 (hs1.ne hD) (by intro e; rw [e] at hlen; simp at hlen; omega) (by omega)
theorem sz_of {ss : List Int} (h1 : 1 ≤ ss.length) (h4 : ss.length ≤ 4) (h : ∀ n ∈ ss, 1 ≤ n ∧ n < 2 ^ 100) : Sz ss :=
  ⟨h1, h4, fun n hn => (h n hn).1, fun n hn => Nat.lt_of_lt_of_le (by have := h n hn; omega : n.natAbs < 2 ^ 100) (Nat.pow_le_pow_right (by decide) (by decide))⟩
def sp_law_rings_any (K : PySem.W.Frag) : Sp := fun vs H Q _ => ∃ (a : Addr) (N : Nat), vs = [.ref a] ∧ SrcN H a N ∧ N < 800000 ∧ ∀ H' l ss, Sx a H H' → SrcN H' a (N + 6) → H' l = some (.tup (ss.map V.int)) → Sz ss → Q (.ref l) H'
theorem ok_law_rings_any (T : Tx K mg) : FnOk P w K mg base CX0 3 T.f_law_rings_any T.fd_law_rings_any ["_law_source_here"] (sp_law_rings_any K) := by
  refine T.F_law_rings_any.ok sc_law_rings_any (fun vs H Q E h => ?_) (fun cdv A outer s H vs Q E hr h => ?_)
  · obtain ⟨a, N, rfl, _⟩ := h; rfl
  · obtain ⟨a, N, rfl, hs, hN, q⟩ := h
    refine ⟨_, (pss_cons (ps_set (i := 1) sc_law_rings_any.nd rfl (Or.inr rfl) (pe_call (ok_law_pick T) (hr.mono (by decide)) (by rfl) T.g_law_pick T.F_law_pick.kp T.b_law_pick .nil pass0 (pa_cons (pv 0) (pa_cons (pe_lst (pa_cons pe_int (pa_cons pe_int (pa_cons pe_int (pa_cons (pe_op op_pow pe_int pe_int) pa_nil))))) pa_nil))))
      (pss_one (ps_ret (pe_callTy tuple_H (by rfl) T.n_tuple (by decide +kernel) (pa_cons (pe_lc (own := [("_law_k", 2)]) (g := (gName 2)) (tt := tYes) rfl sc_law_rings_any.nd (pi_range1H (by rfl) T.n_range (pa_cons (pe_op op_add pe_int (pe_call (ok_law_take T) (hr.mono (by decide)) (by rfl) T.g_law_take T.F_law_take.kp T.b_law_take .nil pass0 (pa_cons (pv 0) (pa_cons pe_int pa_nil)))) pa_nil)) (blkOk_by (own := [("_law_k", 2)]) (N := N_law_rings_any) (sc := defScope d_law_rings_any) (by decide +kernel)) (fun _ _ _ _ _ => (pg_name (i := 2) sc_law_rings_any.nd rfl (Or.inl rfl))) (fun _ _ _ _ _ => pts_nil) (fun _ _ _ _ _ => (pe_op op_add pe_int (pe_call (ok_law_take T) (hr.mono (by decide)) (by rfl) T.g_law_take T.F_law_take.kp T.b_law_take .nil pass0 (pa_cons (pv 0) (pa_cons (pv 1) pa_nil)))))) pa_nil))))), ?_⟩
    walk_at "rd"
    intro g hg
    have sg := Same.new hg (o := .lst [V.int 3, V.int 6, V.int 40, V.int 1000000000000000000000000000000])
    refine pickI ⟨a, g, [3, 6, 40, 1000000000000000000000000000000], N, rfl, hs.same sg, by omega, upd_same, hs.ne hg, by simp, by simp, fun H1 b s1 hs1 hb => ?_⟩
    have hb2 : 1 ≤ b ∧ b ≤ 1000000000000000000000000000000 := by
      simp only [List.mem_cons, List.mem_nil_iff, or_false] at hb
      omega
    refine ⟨a, 4, N + 1, rfl, hs1, by decide, take_small (by decide) (by decide), by omega, fun H2 x s2 hs2 x0 x1 => ⟨x, rfl, by omega, by omega, fun J W => ?_⟩⟩
    refine lcr_drawN (k := 1) W (fun i y => ∃ n, y = V.int n ∧ 1 ≤ n ∧ n < 2 ^ 100) hs2 (Nat.le_trans (by omega : (1 + x).toNat ≤ 60) (by decide)) (fun _ _ => trivial) (fun i x H H' y => by rw [y.1]; exact Same.refl _) ?_ ?_
    · rintro i xx H3 H4 Qy hi s3 hs3 ⟨rfl, rfl⟩ hq
      walk_at "rd"
      refine ⟨a, b, N + 1 + 1 + 1 * i, rfl, hs3, by omega, Nat.lt_of_le_of_lt (by omega : b.natAbs ≤ 1000000000000000000000000000000) (Nat.lt_of_lt_of_le (by decide : (1000000000000000000000000000000 : Nat) < 2 ^ 100) (Nat.pow_le_pow_right (by decide) (by decide))), by omega, fun H5 r s5 hs5 r0 r1 => ⟨r, rfl, hq _ _ s5 (hs5.mono (by omega)) ⟨1 + r, rfl, by omega, Int.lt_of_le_of_lt (by omega : 1 + r ≤ 1000000000000000000000000000000) (by decide)⟩⟩⟩
    · intro D acc H3 hD s3 hs3 hlen hR hD3
      obtain ⟨ss, rfl, hss⟩ := ints_ofN hR
      rw [List.length_map] at hlen
      refine ⟨D, rfl, .inl ⟨_, hD3, fun p hp => q _ p ss ((((Sx.of sg).trans s1).trans s2).trans (s3.trans (Sx.of (Same.new hp)))) ((hs3.same (Same.new hp)).mono (by omega)) upd_same (sz_of (by omega) (by omega) fun n hn => ?_)⟩⟩
      obtain ⟨i, hi, e⟩ := List.getElem_of_mem hn
      exact hss i n (by rw [List.getElem?_eq_getElem hi, e])
def sp_law_divisor (K : PySem.W.Frag) : Sp := fun vs H Q _ => ∃ a b : Int, vs = [.int a, .int b] ∧ 0 ≤ a ∧ 0 ≤ b ∧ Q (.int ((Nat.gcd a.natAbs b.natAbs : Nat) : Int)) H
theorem ok_law_divisor (T : Tx K mg) : FnOk P w K mg base CX0 1 T.f_law_divisor T.fd_law_divisor ["_law_one", "_law_other"] (sp_law_divisor K) := by
  refine T.F_law_divisor.ok sc_law_divisor (fun vs H Q E h => ?_) (fun cdv A outer s H vs Q E hr h => ?_)
  · obtain ⟨a, b, rfl, _⟩ := h; rfl
  · obtain ⟨a, b, rfl, ha, hb, q⟩ := h
    refine ⟨_, (pss_cons (ps_while PassesOwn.never (pt_cmpR op_ne (pv 1) pe_int (nomark _)) (pss_one (ps_par (i := 0) (j := 1) (by rfl) sc_law_divisor.nd rfl rfl (by decide) rfl rfl (pa_cons (pv 1) (pa_cons (pe_op op_mod (pv 0) (pv 1)) pa_nil)) (by rfl))))
      (pss_one (ps_ret (pv 0)))), ?_⟩
    refine while_by (fun σ H' => H' = H ∧ ∃ c d : Int, σ = [some (V.int c), some (V.int d)] ∧ 0 ≤ c ∧ 0 ≤ d ∧ Nat.gcd c.natAbs d.natAbs = Nat.gcd a.natAbs b.natAbs) (fun σ _ => match σ with | [_, some (V.int d)] => d.toNat | _ => 0) ⟨rfl, a, b, rfl, ha, hb, rfl⟩ ?_ ?_
    · rintro σ H1 ⟨rfl, c, d, rfl, hc, hd, hg⟩
      walk_at "rd"
      by_cases h0 : d = 0
      · rw [if_neg (by simpa using h0)]
        subst h0
        rw [Int.natAbs_zero, Nat.gcd_zero_right] at hg
        rw [← hg] at q
        rw [Int.natAbs_of_nonneg hc] at q
        exact q
      · rw [if_pos h0]
        have h1 := Int.emod_nonneg c h0
        have h2 := Int.emod_lt_of_pos c (by omega : 0 < d)
        refine ⟨by omega, hd, h1, ?_, by omega⟩
        rw [← hg]
        obtain ⟨m, rfl⟩ := Int.eq_ofNat_of_zero_le hc
        obtain ⟨n, rfl⟩ := Int.eq_ofNat_of_zero_le hd
        rw [← Int.natCast_emod]
        simp only [Int.natAbs_natCast]
        rw [Nat.gcd_comm m n, Nat.gcd_rec n m, Nat.gcd_comm]
    · intro σ H1 Q1 Q2 h hq
      obtain ⟨b1, e, e2, k, e3, hq⟩ := hq
      exact ⟨b1, e, e2, k, e3, h _ _ hq⟩
theorem gcd_one_of {m k : Int} (h : (1 - k) % m = 0) : Nat.gcd m.natAbs k.natAbs = 1 := by
  have h1 : m ∣ 1 - k := Int.dvd_of_emod_eq_zero h
  have g1 : ((Nat.gcd m.natAbs k.natAbs : Nat) : Int) ∣ m := by
    rw [← Int.natAbs_dvd_natAbs, Int.natAbs_natCast]; exact Nat.gcd_dvd_left _ _
  have g2 : ((Nat.gcd m.natAbs k.natAbs : Nat) : Int) ∣ k := by
    rw [← Int.natAbs_dvd_natAbs, Int.natAbs_natCast]; exact Nat.gcd_dvd_right _ _
  have g3 := Int.dvd_add (Int.dvd_trans g1 h1) g2
  rw [Int.sub_add_cancel, ← Int.natAbs_dvd_natAbs, Int.natAbs_natCast] at g3
  exact Nat.dvd_one.mp g3
def sp_law_factor (K : PySem.W.Frag) : Sp := fun vs H Q _ => ∃ (a : Addr) (n : Int) (N : Nat), vs = [.ref a, .int n] ∧ SrcN H a N ∧ N < 800000 ∧ 1 ≤ n ∧ n.natAbs < 2 ^ 1000 ∧ ∀ H' f, Sx a H H' → SrcN H' a (N + 1) → 0 < f → Nat.gcd n.natAbs f.natAbs = 1 → f ≤ 2 * n → Q (.int f) H'
theorem ok_law_factor (T : Tx K mg) : FnOk P w K mg base CX0 2 T.f_law_factor T.fd_law_factor ["_law_source_here", "_law_size"] (sp_law_factor K) := by
  refine T.F_law_factor.ok sc_law_factor (fun vs H Q E h => ?_) (fun cdv A outer s H vs Q E hr h => ?_)
  · obtain ⟨a, n, N, rfl, _⟩ := h; rfl
  · obtain ⟨a, n, N, rfl, hs, hN, n1, nb, q⟩ := h
    refine ⟨_, (pss_cons (ps_set (i := 2) sc_law_factor.nd rfl (Or.inl rfl) (pe_op op_add pe_int (pe_call (ok_law_take T) (hr.mono (by decide)) (by rfl) T.g_law_take T.F_law_take.kp T.b_law_take .nil pass0 (pa_cons (pv 0) (pa_cons (pv 1) pa_nil)))))
      (pss_cons (ps_while PassesOwn.never (pt_cmpR op_ne (pe_call (ok_law_divisor T) (hr.mono (by decide)) (by rfl) T.g_law_divisor T.F_law_divisor.kp T.b_law_divisor .nil pass0 (pa_cons (pv 2) (pa_cons (pv 1) pa_nil))) pe_int (nomark _)) (pss_one (ps_set (i := 2) sc_law_factor.nd rfl (Or.inl rfl) (pe_op op_add (pv 2) pe_int))))
      (pss_one (ps_ret (pv 2))))), ?_⟩
    walk_at "rd"
    refine ⟨a, n, N, rfl, hs, by omega, Nat.lt_of_lt_of_le nb (Nat.pow_le_pow_right (by decide) (by decide)), by omega, fun H1 x s1 hs1 x0 x1 => ⟨x, rfl, ?_⟩⟩
    refine while_by (fun σ H' => H' = H1 ∧ ∃ k : Int, σ = [some (V.ref a), some (V.int n), some (V.int k)] ∧ 1 ≤ k ∧ k + (1 - k) % n ≤ 2 * n) (fun σ _ => match σ with | [_, _, some (V.int k)] => ((1 - k) % n).toNat | _ => 0) ⟨rfl, 1 + x, rfl, by omega, ?_⟩ ?_ ?_
    · have := Int.emod_lt_of_pos (1 - (1 + x)) (by omega : 0 < n)
      omega
    · rintro σ H2 ⟨rfl, k, rfl, k1, k2⟩
      have e0 := Int.emod_nonneg (1 - k) (by omega : n ≠ 0)
      have e1 := Int.emod_lt_of_pos (1 - k) (by omega : 0 < n)
      walk_at "rd"
      refine ⟨k, n, rfl, by omega, by omega, ?_⟩
      walk_at "rd"
      by_cases hg : Nat.gcd n.natAbs k.natAbs = 1
      · rw [if_neg (by rw [Nat.gcd_comm, hg]; decide)]
        exact q _ k s1 hs1 (by omega) hg (by omega)
      · rw [if_pos (by rw [Nat.gcd_comm]; omega)]
        have h0 : (1 - k) % n ≠ 0 := fun e => hg (gcd_one_of e)
        have e2 : (1 - (k + 1)) % n = (1 - k) % n - 1 := by
          have e3 : (1 - (k + 1)) % n = ((1 - k) % n - 1) % n := by
            rw [Int.emod_sub_emod]
            congr 1
            omega
          rw [e3, Int.emod_eq_of_lt (by omega) (by omega)]
        rw [e2]
        exact ⟨by omega, by omega, by omega⟩
    · intro σ H1 Q1 Q2 h hq
      simp only [tTest, tOp, tCall, tCons, tVar, tNil, tC] at hq ⊢
      obtain ⟨v, e, v1, e1, a1, b1, e2, e3, e4, e5, k, e6, hq⟩ := hq
      exact ⟨v, e, v1, e1, a1, b1, e2, e3, e4, e5, k, e6, h _ _ hq⟩
def timI (ps fs ss : List Int) : List Int := (List.range ss.length).map fun i => ps.getD i 0 * fs.getD i 0 % ss.getD i 0
theorem timI_get {ps fs ss : List Int} {i : Nat} {p f s : Int} (h1 : ps[i]? = some p) (h2 : fs[i]? = some f) (h3 : ss[i]? = some s) : (timI ps fs ss)[i]? = some (p * f % s) := by
  have hi := (List.getElem?_eq_some_iff.mp h3).1
  unfold timI
  rw [List.getElem?_map, List.getElem?_range hi]
  show some (ps.getD i 0 * fs.getD i 0 % ss.getD i 0) = _
  rw [List.getD_eq_getElem?_getD, List.getD_eq_getElem?_getD, List.getD_eq_getElem?_getD, h1, h2, h3]
  rfl
theorem timI_len {ps fs ss : List Int} : (timI ps fs ss).length = ss.length := by unfold timI; simp
def sp_law_times (K : PySem.W.Frag) : Sp := fun vs H Q _ => ∃ (l f p : Addr) (ss fs ps : List Int), vs = [.ref l, .ref f, .ref p] ∧ H l = some (.tup (ss.map V.int)) ∧ H f = some (.lst (fs.map V.int)) ∧ H p = some (.tup (ps.map V.int)) ∧ fs.length = ss.length ∧ ps.length = ss.length ∧ Sz ss ∧ (∀ (i : Nat) x y, ps[i]? = some x → fs[i]? = some y → CMulA x y) ∧
  ∀ H' t, Same H H' → H' t = some (.tup ((timI ps fs ss).map V.int)) → Q (.ref t) H'
theorem ok_law_times (T : Tx K mg) : FnOk P w K mg base CX0 1 T.f_law_times T.fd_law_times ["_law_rings", "_law_factors", "_law_spot"] (sp_law_times K) := by
  refine T.F_law_times.ok sc_law_times (fun vs H Q E h => ?_) (fun cdv A outer s H vs Q E hr h => ?_)
  · obtain ⟨l, f, p, ss, fs, ps, rfl, _⟩ := h; rfl
  · obtain ⟨l, f, p, ss, fs, ps, rfl, hl, hf, hp, hfl, hpl, z, hmul, q⟩ := h
    refine ⟨_, (pss_one (ps_ret (pe_callTy tuple_H (by rfl) T.n_tuple (by decide +kernel) (pa_cons (pe_lc (own := [("_law_one", 3), ("_law_factor_here", 4), ("_law_size", 5)]) (g := (gTupH 3 (gCons (gName 3) (gCons (gName 4) (gCons (gName 5) gNil))))) (tt := tYes) rfl sc_law_times.nd (pi_z3H (by rfl) T.n_zip (pa_cons (pv 2) (pa_cons (pv 1) (pa_cons (pv 0) pa_nil)))) (blkOk_by (own := [("_law_one", 3), ("_law_factor_here", 4), ("_law_size", 5)]) (N := N_law_times) (sc := defScope d_law_times) (by decide +kernel)) (fun _ _ _ _ _ => (pg_tupH (n := 3) rfl (pgs_cons (pg_name (i := 3) sc_law_times.nd rfl (Or.inl rfl)) (pgs_cons (pg_name (i := 4) sc_law_times.nd rfl (Or.inl rfl)) (pgs_cons (pg_name (i := 5) sc_law_times.nd rfl (Or.inl rfl)) pgs_nil))))) (fun _ _ _ _ _ => pts_nil) (fun _ _ _ _ _ => (pe_op op_mod (pe_op op_mulA (pv 3) (pv 4)) (pv 5)))) pa_nil)))), ?_⟩
    walk_at "rd"
    refine ⟨false, true, false, ps.map V.int, hp, fs.map V.int, hf, ss.map V.int, hl, by rw [List.length_map, List.length_map, hpl, hfl], by rw [List.length_map, List.length_map, hfl], fun J W => ?_⟩
    refine lcr_map W ((timI ps fs ss).map V.int) (by unfold timI; simp [hpl]) ?_ (fun H3 s3 => ⟨s3 _ _ hp, s3 _ _ hf, s3 _ _ hl⟩) (fun _ _ _ _ y => YTrip.same y) ?_ ?_
    · have h4 := z.hi
      rw [List.length_map]
      exact Nat.le_trans (by omega : ps.length ≤ 4) (by decide)
    · intro i x H3 H4 y Qy hi s3 hy hr hq
      obtain ⟨T0, x1, y1, z1, rfl, hT, rfl, h1, h2, h3⟩ := hy
      simp only [List.getElem?_map, Option.map_eq_some_iff] at hr h1 h2 h3
      obtain ⟨x2, hx2, rfl⟩ := h1
      obtain ⟨y2, hy2, rfl⟩ := h2
      obtain ⟨z2, hz2, rfl⟩ := h3
      obtain ⟨r, hr, rfl⟩ := hr
      rw [timI_get hx2 hy2 hz2] at hr
      obtain rfl := Option.some.inj hr
      have := z.pos z2 (List.mem_of_getElem? hz2)
      walk_at "rd"
      exact ⟨hmul i _ _ hx2 hy2, by omega, hq _ (Same.refl _)⟩
    · intro D H3 hD s3 h3
      exact ⟨D, rfl, .inl ⟨_, h3, fun f hf => q _ f (s3.trans (Same.new hf)) upd_same⟩⟩
end

theorem mvW_red {b : Bool} {ps cs ss : List Int} (h1 : ps.length = ss.length) (h2 : cs.length = ss.length) : mvW b ps (redC cs ss) ss = mvW b ps cs ss := by
  refine List.ext_getElem? fun i => ?_
  by_cases hi : i < ss.length
  · have p := List.getElem?_eq_getElem (l := ps) (i := i) (by omega)
    have c := List.getElem?_eq_getElem (l := cs) (i := i) (by omega)
    have s := List.getElem?_eq_getElem hi
    have c2 : (redC cs ss)[i]? = some (cs[i] % ss[i]) := by
      unfold redC
      rw [List.getElem?_zipWith, c, s]
    rw [mvW_get p c2 s, mvW_get p c s]
    refine congrArg some ?_
    rw [Int.add_emod, Int.mul_emod, Int.emod_emod_of_dvd _ (Int.dvd_refl _), ← Int.mul_emod, ← Int.add_emod]
  · rw [List.getElem?_eq_none (by rw [mvW_len h1 (redC_len h2)]; omega), List.getElem?_eq_none (by rw [mvW_len h1 h2]; omega)]

/-! ### games by lists, transformed -/
section
/-- the seats of a game by calls cl and words bs -/
def curU (ss : List Int) (cl : List (List Int)) (bs : List Bool) (ps : List Int) : Nat → List Int
  | 0 => ps
  | n + 1 => mvW (bs.getD (n % bs.length) false) (curU ss cl bs ps n) (cl.getD (n % cl.length) []) ss
theorem getD_mod {α : Type} {l : List α} (h : l ≠ []) (n : Nat) (d : α) : ∃ x, l[n % l.length]? = some x ∧ l.getD (n % l.length) d = x ∧ x ∈ l := by
  have h0 := List.length_pos_iff.mpr h
  have hlt : n % l.length < l.length := Nat.mod_lt _ h0
  have e := List.getElem?_eq_getElem hlt
  exact ⟨_, e, by rw [List.getD_eq_getElem?_getD, e]; rfl, List.getElem_mem hlt⟩
theorem curU_seat {ss : List Int} {cl : List (List Int)} {bs : List Bool} {ps : List Int} (z : Sz ss) (h : Seat ss ps) (hne : cl ≠ []) (hl : ∀ c ∈ cl, c.length = ss.length) : ∀ n, Seat ss (curU ss cl bs ps n)
  | 0 => h
  | n + 1 => by
    obtain ⟨c, _, e, hc⟩ := getD_mod hne n []
    show Seat ss (mvW _ _ (cl.getD (n % cl.length) []) ss)
    rw [e]
    exact mvW_seat (curU_seat z h hne hl n).len (hl c hc) z.pos
theorem curG_U {ss : List Int} {cl : List (List Int)} {bs : List Bool} {ps : List Int} (z : Sz ss) (h : Seat ss ps) (hne : cl ≠ []) (hl : ∀ c ∈ cl, c.length = ss.length) : ∀ n, curG ss (cl.map fun c => redC c ss) (.dirs bs) ps n = curU ss cl bs ps n
  | 0 => rfl
  | n + 1 => by
    obtain ⟨c, e0, e, hc⟩ := getD_mod hne n []
    have e1 : callG (cl.map fun c => redC c ss) n = redC c ss := by
      unfold callG
      rw [List.length_map, List.getD_eq_getElem?_getD, List.getElem?_map, e0]
      rfl
    show mvW (bs.getD (n % bs.length) false) (curG ss (cl.map fun c => redC c ss) (.dirs bs) ps n) (callG (cl.map fun c => redC c ss) n) ss = mvW (bs.getD (n % bs.length) false) (curU ss cl bs ps n) (cl.getD (n % cl.length) []) ss
    rw [e1, e, curG_U z h hne hl n]
    exact mvW_red (curU_seat z h hne hl n).len (hl c hc)
def stopN (gs : List (List Int)) (f : Nat → List Int) (lim : Nat) : Nat := (List.range lim).findIdx fun i => decide (f i ∈ gs)
theorem stopN_le (gs : List (List Int)) (f : Nat → List Int) (lim : Nat) : stopN gs f lim ≤ lim := by
  have := List.findIdx_le_length (p := fun i => decide (f i ∈ gs)) (xs := List.range lim)
  rw [List.length_range] at this
  exact this
theorem stopN_no {gs : List (List Int)} {f : Nat → List Int} {lim i : Nat} (h : i < stopN gs f lim) : f i ∉ gs := fun hm => by
  have hl := stopN_le gs f lim
  have h1 := List.not_of_lt_findIdx (p := fun i => decide (f i ∈ gs)) (xs := List.range lim) h
  rw [List.getElem_range] at h1
  exact absurd (decide_eq_true hm) (by simpa using h1)
theorem stopN_end (gs : List (List Int)) (f : Nat → List Int) (lim : Nat) : stopN gs f lim = lim ∨ f (stopN gs f lim) ∈ gs := by
  rcases Nat.lt_or_ge (stopN gs f lim) lim with h | h
  · right
    have h1 := List.findIdx_getElem (p := fun i => decide (f i ∈ gs)) (xs := List.range lim) (w := by rw [List.length_range]; exact h)
    rw [List.getElem_range] at h1
    exact of_decide_eq_true h1
  · left
    have := stopN_le gs f lim
    omega
def outW (gs : List (List Int)) (p : List Int) : Str := if p ∈ gs then "reached" else "open"
def couL (ss : List Int) (gs cl : List (List Int)) (bs : List Bool) (ps : List Int) : List (List Int) := (List.range (stopN gs (curU ss cl bs ps) 30 + 1)).map (curU ss cl bs ps)
def couW (ss : List Int) (gs cl : List (List Int)) (bs : List Bool) (ps : List Int) : Str := outW gs (curU ss cl bs ps (stopN gs (curU ss cl bs ps) 30))
/-- a game and its image -/
theorem cou_map {ss ss' : List Int} {gs gs' cl cl' : List (List Int)} {bs bs' : List Bool} {ps : List Int} (g : List Int → List Int) (h : ∀ n, curU ss' cl' bs' (g ps) n = g (curU ss cl bs ps n)) (hm : ∀ n, g (curU ss cl bs ps n) ∈ gs' ↔ curU ss cl bs ps n ∈ gs) :
    couL ss' gs' cl' bs' (g ps) = (couL ss gs cl bs ps).map g ∧ couW ss' gs' cl' bs' (g ps) = couW ss gs cl bs ps := by
  have e0 : curU ss' cl' bs' (g ps) = fun n => g (curU ss cl bs ps n) := funext h
  have e1 : stopN gs' (curU ss' cl' bs' (g ps)) 30 = stopN gs (curU ss cl bs ps) 30 := by
    unfold stopN
    rw [e0]
    congr 1
    funext i
    exact decide_eq_decide.mpr (hm i)
  unfold couL couW
  rw [e1]
  refine ⟨by rw [e0, List.map_map]; rfl, ?_⟩
  unfold outW
  rw [h]
  by_cases hh : curU ss cl bs ps (stopN gs (curU ss cl bs ps) 30) ∈ gs
  · rw [if_pos hh, if_pos ((hm _).mpr hh)]
  · rw [if_neg hh, if_neg (fun x => hh ((hm _).mp x))]
/-- one step and its image give the whole game's -/
theorem cur_map {ss ss' : List Int} {cl cl' : List (List Int)} {bs bs' : List Bool} {ps : List Int} (g : List Int → List Int) (z : Sz ss) (hS : Seat ss ps) (hne : cl ≠ []) (hl : ∀ c ∈ cl, c.length = ss.length)
    (st : ∀ n p, Seat ss p → mvW (bs'.getD (n % bs'.length) false) (g p) (cl'.getD (n % cl'.length) []) ss' = g (mvW (bs.getD (n % bs.length) false) p (cl.getD (n % cl.length) []) ss)) : ∀ n, curU ss' cl' bs' (g ps) n = g (curU ss cl bs ps n)
  | 0 => rfl
  | n + 1 => by
    show mvW (bs'.getD (n % bs'.length) false) (curU ss' cl' bs' (g ps) n) (cl'.getD (n % cl'.length) []) ss' = g (mvW (bs.getD (n % bs.length) false) (curU ss cl bs ps n) (cl.getD (n % cl.length) []) ss)
    rw [cur_map g z hS hne hl st n]
    exact st n _ (curU_seat z hS hne hl n)
theorem mem_inj {ss : List Int} {gs : List (List Int)} (g : List Int → List Int) (hg : ∀ x ∈ gs, Seat ss x) (inj : ∀ x y, Seat ss x → Seat ss y → g x = g y → x = y) {p : List Int} (hp : Seat ss p) : g p ∈ gs.map g ↔ p ∈ gs :=
  ⟨fun h => by
    obtain ⟨x, hx, e⟩ := List.mem_map.mp h
    rw [← inj x p (hg x hx) hp e]
    exact hx, fun h => List.mem_map_of_mem h⟩
/-! by a shift -/
theorem sh_step {b : Bool} {ps cs sh ss : List Int} (h1 : ps.length = ss.length) (h2 : cs.length = ss.length) (h3 : sh.length = ss.length) : mvW b (mvW false ps sh ss) cs ss = mvW false (mvW b ps cs ss) sh ss := by
  refine List.ext_getElem? fun i => ?_
  by_cases hi : i < ss.length
  · have p := List.getElem?_eq_getElem (l := ps) (i := i) (by omega)
    have c := List.getElem?_eq_getElem (l := cs) (i := i) (by omega)
    have t := List.getElem?_eq_getElem (l := sh) (i := i) (by omega)
    have s := List.getElem?_eq_getElem hi
    rw [mvW_get (mvW_get p t s) c s, mvW_get (mvW_get p c s) t s]
    refine congrArg some ?_
    rw [Int.emod_add_emod, Int.emod_add_emod]
    congr 1
    omega
  · rw [List.getElem?_eq_none (by rw [mvW_len (mvW_len h1 h3) h2]; omega), List.getElem?_eq_none (by rw [mvW_len (mvW_len h1 h2) h3]; omega)]
theorem seat_ext {ss x y : List Int} (hx : Seat ss x) (hy : Seat ss y) (h : ∀ (i : Nat) a b s, x[i]? = some a → y[i]? = some b → ss[i]? = some s → 0 ≤ a → a < s → 0 ≤ b → b < s → a = b) : x = y := by
  refine List.ext_getElem? fun i => ?_
  by_cases hi : i < ss.length
  · have a := List.getElem?_eq_getElem (l := x) (i := i) (by have := hx.len; omega)
    have b := List.getElem?_eq_getElem (l := y) (i := i) (by have := hy.len; omega)
    have s := List.getElem?_eq_getElem hi
    have ha := hx.ok i _ _ a s
    have hb := hy.ok i _ _ b s
    rw [a, b, h i _ _ _ a b s ha.1 ha.2 hb.1 hb.2]
  · rw [List.getElem?_eq_none (by have := hx.len; omega), List.getElem?_eq_none (by have := hy.len; omega)]
theorem sh_inj {ss sh x y : List Int} (hs : sh.length = ss.length) (hx : Seat ss x) (hy : Seat ss y) (e : mvW false x sh ss = mvW false y sh ss) : x = y := seat_ext hx hy fun i a b s ha hb hss a0 a1 b0 b1 => by
  have hi := (List.getElem?_eq_some_iff.mp hss).1
  have t := List.getElem?_eq_getElem (l := sh) (i := i) (by omega)
  have e1 := congrArg (fun l => l[i]?) e
  simp only [mvW_get ha t hss, mvW_get hb t hss] at e1
  have e2 := emod_eq_iff.mp (Option.some.inj e1)
  have e3 : a + sgn false * sh[i] - (b + sgn false * sh[i]) = a - b := by omega
  rw [e3] at e2
  have := emod_eq_iff.mpr e2
  rwa [Int.emod_eq_of_lt a0 a1, Int.emod_eq_of_lt b0 b1] at this
/-! by factors -/
theorem tim_step {b : Bool} {ps cs fs ss : List Int} (h1 : ps.length = ss.length) (h2 : cs.length = ss.length) (h3 : fs.length = ss.length) : mvW b (timI ps fs ss) (timI cs fs ss) ss = timI (mvW b ps cs ss) fs ss := by
  refine List.ext_getElem? fun i => ?_
  by_cases hi : i < ss.length
  · have p := List.getElem?_eq_getElem (l := ps) (i := i) (by omega)
    have c := List.getElem?_eq_getElem (l := cs) (i := i) (by omega)
    have t := List.getElem?_eq_getElem (l := fs) (i := i) (by omega)
    have s := List.getElem?_eq_getElem hi
    rw [mvW_get (timI_get p t s) (timI_get c t s) s, timI_get (mvW_get p c s) t s]
    refine congrArg some ?_
    have e1 : ∀ X f s : Int, X % s * f % s = X * f % s := fun X f s => by rw [Int.mul_emod, Int.emod_emod_of_dvd _ (Int.dvd_refl _), ← Int.mul_emod]
    rw [e1, Int.emod_add_emod, Int.add_emod, Int.mul_emod (sgn b), Int.emod_emod_of_dvd _ (Int.dvd_refl _), ← Int.mul_emod, ← Int.add_emod, Int.add_mul, Int.mul_assoc]
  · rw [List.getElem?_eq_none (by rw [mvW_len timI_len timI_len]; omega), List.getElem?_eq_none (by rw [timI_len]; omega)]
theorem tim_seat {ss fs q : List Int} (z : Sz ss) (h1 : fs.length = ss.length) (h2 : q.length = ss.length) : Seat ss (timI q fs ss) := ⟨timI_len, fun i p s hp hs => by
  have hi := (List.getElem?_eq_some_iff.mp hs).1
  have a := List.getElem?_eq_getElem (l := q) (i := i) (by omega)
  have f := List.getElem?_eq_getElem (l := fs) (i := i) (by omega)
  rw [timI_get a f hs] at hp
  obtain rfl := Option.some.inj hp
  have := z.pos s (List.mem_of_getElem? hs)
  exact ⟨Int.emod_nonneg _ (by omega), Int.emod_lt_of_pos _ (by omega)⟩⟩
theorem tim_inj {ss fs x y : List Int} (hc : ∀ (i : Nat) f s, fs[i]? = some f → ss[i]? = some s → Nat.gcd s.natAbs f.natAbs = 1) (hs : fs.length = ss.length) (hx : Seat ss x) (hy : Seat ss y) (e : timI x fs ss = timI y fs ss) : x = y := seat_ext hx hy fun i a b s ha hb hss a0 a1 b0 b1 => by
  have hi := (List.getElem?_eq_some_iff.mp hss).1
  have t := List.getElem?_eq_getElem (l := fs) (i := i) (by omega)
  have e1 := congrArg (fun l => l[i]?) e
  simp only [timI_get ha t hss, timI_get hb t hss] at e1
  have e2 := emod_eq_iff.mp (Option.some.inj e1)
  rw [← Int.sub_mul] at e2
  have g := hc i _ _ t hss
  have e3 : s ∣ a - b := by
    rw [← Int.natAbs_dvd_natAbs] at e2 ⊢
    rw [Int.natAbs_mul] at e2
    exact Nat.Coprime.dvd_of_dvd_mul_right g e2
  have := emod_eq_iff.mpr e3
  rwa [Int.emod_eq_of_lt a0 a1, Int.emod_eq_of_lt b0 b1] at this
/-! by a change of signs -/
theorem neg_step {b : Bool} {ps cs ss : List Int} (h1 : ps.length = ss.length) (h2 : cs.length = ss.length) : mvW (!b) ps (cs.map fun x => 0 - x) ss = mvW b ps cs ss := by
  refine List.ext_getElem? fun i => ?_
  by_cases hi : i < ss.length
  · have p := List.getElem?_eq_getElem (l := ps) (i := i) (by omega)
    have c := List.getElem?_eq_getElem (l := cs) (i := i) (by omega)
    have s := List.getElem?_eq_getElem hi
    have c2 : (cs.map fun x => 0 - x)[i]? = some (0 - cs[i]) := by rw [List.getElem?_map, c]; rfl
    rw [mvW_get p c2 s, mvW_get p c s]
    refine congrArg some (congrArg (· % ss[i]) ?_)
    cases b with
    | true => show ps[i] + 1 * (0 - cs[i]) = ps[i] + -1 * cs[i]; omega
    | false => show ps[i] + -1 * (0 - cs[i]) = ps[i] + 1 * cs[i]; omega
  · rw [List.getElem?_eq_none (by rw [mvW_len h1 (by rw [List.length_map]; exact h2)]; omega), List.getElem?_eq_none (by rw [mvW_len h1 h2]; omega)]
/-! by an order of the rings -/
def ordP (os : List Int) (xs : List Int) : List Int := os.map fun k => xs.getD k.toNat 0
theorem ordP_get {os xs : List Int} {i : Nat} {k : Int} {x : Int} (h1 : os[i]? = some k) (h2 : xs[k.toNat]? = some x) : (ordP os xs)[i]? = some x := by
  unfold ordP
  rw [List.getElem?_map, h1]
  show some (xs.getD k.toNat 0) = _
  rw [List.getD_eq_getElem?_getD, h2]
  rfl
theorem ordP_len {os xs : List Int} : (ordP os xs).length = os.length := by unfold ordP; simp
/-- an order of the rings 0 .. n - 1 -/
structure OrdO (os : List Int) (n : Nat) : Prop where
  len : os.length = n
  rng : ∀ k ∈ os, 0 ≤ k ∧ k < n
  all : ∀ i : Nat, i < n → (i : Int) ∈ os
theorem OrdO.of {os : List Int} {n : Nat} (h : os.Perm ((List.range n).map fun i : Nat => (i : Int))) : OrdO os n := by
  refine ⟨by rw [h.length_eq]; simp, fun k hk => ?_, fun i hi => h.mem_iff.mpr (List.mem_map.mpr ⟨i, List.mem_range.mpr hi, rfl⟩)⟩
  obtain ⟨i, hi, rfl⟩ := List.mem_map.mp (h.mem_iff.mp hk)
  have := List.mem_range.mp hi
  omega
theorem OrdO.get {os xs : List Int} {n i : Nat} (h : OrdO os n) (hx : xs.length = n) {k : Int} (hk : os[i]? = some k) : ∃ x, xs[k.toNat]? = some x ∧ (ordP os xs)[i]? = some x := by
  have h1 := h.rng k (List.mem_of_getElem? hk)
  have h2 := List.getElem?_eq_getElem (l := xs) (i := k.toNat) (by omega)
  exact ⟨_, h2, ordP_get hk h2⟩
theorem ord_seat {os ss xs : List Int} (h : OrdO os ss.length) (hs : Seat ss xs) : Seat (ordP os ss) (ordP os xs) := by
  refine ⟨by rw [ordP_len, ordP_len], fun i p s hp hss => ?_⟩
  have hi : i < os.length := by have := (List.getElem?_eq_some_iff.mp hp).1; rwa [ordP_len] at this
  have hk := List.getElem?_eq_getElem hi
  obtain ⟨x, hx, ex⟩ := h.get hs.len hk
  obtain ⟨t, ht, et⟩ := h.get rfl hk
  rw [ex] at hp
  rw [et] at hss
  obtain rfl := Option.some.inj hp
  obtain rfl := Option.some.inj hss
  exact hs.ok _ _ _ hx ht
theorem ord_step {b : Bool} {os ps cs ss : List Int} (h : OrdO os ss.length) (h1 : ps.length = ss.length) (h2 : cs.length = ss.length) : mvW b (ordP os ps) (ordP os cs) (ordP os ss) = ordP os (mvW b ps cs ss) := by
  have hl : ∀ xs : List Int, (ordP os xs).length = (ordP os ss).length := fun xs => by rw [ordP_len, ordP_len]
  refine List.ext_getElem? fun i => ?_
  by_cases hi : i < os.length
  · have hk := List.getElem?_eq_getElem hi
    obtain ⟨p, hp, ep⟩ := h.get h1 hk
    obtain ⟨c, hc, ec⟩ := h.get h2 hk
    obtain ⟨s, hs, es⟩ := h.get rfl hk
    rw [mvW_get ep ec es, ordP_get hk (mvW_get hp hc hs)]
  · rw [List.getElem?_eq_none (by rw [mvW_len (hl _) (hl _), ordP_len]; omega), List.getElem?_eq_none (by rw [ordP_len]; omega)]
theorem ord_inj {os ss x y : List Int} (h : OrdO os ss.length) (hx : Seat ss x) (hy : Seat ss y) (e : ordP os x = ordP os y) : x = y := by
  refine List.ext_getElem? fun j => ?_
  by_cases hj : j < ss.length
  · obtain ⟨i, hi, ei⟩ := List.getElem_of_mem (h.all j hj)
    have hk : os[i]? = some (j : Int) := by rw [List.getElem?_eq_getElem hi, ei]
    obtain ⟨a, ha, ea⟩ := h.get hx.len hk
    obtain ⟨b, hb, eb⟩ := h.get hy.len hk
    rw [e, eb] at ea
    rw [Int.toNat_natCast] at ha hb
    rw [ha, hb, Option.some.inj ea]
  · rw [List.getElem?_eq_none (by have := hx.len; omega), List.getElem?_eq_none (by have := hy.len; omega)]
theorem ord_sz {os ss : List Int} (h : OrdO os ss.length) (z : Sz ss) : Sz (ordP os ss) := by
  have hm : ∀ n ∈ ordP os ss, n ∈ ss := fun n hn => by
    obtain ⟨i, hi, e⟩ := List.getElem_of_mem hn
    have hi2 : i < os.length := by rwa [ordP_len] at hi
    obtain ⟨s, hs, es⟩ := h.get (xs := ss) rfl (List.getElem?_eq_getElem hi2)
    rw [List.getElem?_eq_getElem hi, e] at es
    rw [Option.some.inj es]
    exact List.mem_of_getElem? hs
  have hl := h.len
  exact ⟨by rw [ordP_len, hl]; exact z.lo, by rw [ordP_len, hl]; exact z.hi, fun n hn => z.pos n (hm n hn), fun n hn => z.bits n (hm n hn)⟩
end

section
variable {K : PySem.W.Frag}
theorem tab_made {C x dx p : Addr} {k : Bool} {ss : List Int} {G : Hp} {Q : VK} {E : XK} (hx : G x = none) (hdx : G dx = none) (hne : dx ≠ x) (hp : Sqh k G p (ss.map V.int)) (z : Sz ss)
    (h : ∀ G', Same G G' → TabAt C G' x ss → Q .non G') : sp_Table_init K C [.ref x, .ref p] (upd (upd G dx (.own x)) x (.ins C dx [])) Q E := by
  have s3 : Same G (upd (upd G dx (.own x)) x (.ins C dx [])) := (Same.new hdx).trans (Same.new (by rw [upd_ne hne.symm]; exact hx))
  refine ⟨x, dx, .ref p, p, k, ss, rfl, upd_same, rfl, hp.same s3, z.lo, z.hi, z.pos, fun G' t s4 h4 ht => h G' (fun b o hb => ?_) ⟨dx, t, h4, ht⟩⟩
  exact s4 _ _ (ne_some hb hx) (s3 _ _ hb)
end

/-! ### k37's own check -/
section
variable {P : Program} {w : World} {K : PySem.W.Frag} {mg : Str → Option Value} {base : Heap}
def couD (L : List (List Int)) (x : Str) : PyData := .tuple [.list (L.map tupI), .str x]
theorem dp_cou {H : Hp} {a S : Addr} {L : List (List Int)} {x : Str} (h : H a = some (.tup [.ref S, .str x])) (hS : LstT H S L) : Dp K H (.ref a) (couD L x) := .tup (.inl (.inl h)) (.cons (dp_lstT hS) (.cons (.str _) .nil))
theorem shaped_cou (L : List (List Int)) {x : Str} (hx : PyData.canLay0 (.str x) = true) : SeqAt.shaped (couD L x) = true := by
  have h1 : PyData.canLay0 (couD L x) = true := by
    show (PyData.canLayAll0 (L.map tupI) && (PyData.canLay0 (.str x) && true)) = true
    rw [canLay_tups, hx]
    rfl
  have h2 : PyData.depth (couD L x) ≤ 64 := by
    show max (PyData.depthAll (L.map tupI) + 1) (max 0 0) + 1 ≤ 64
    have := depth_tups L
    omega
  unfold SeqAt.shaped
  rw [h1, decide_eq_true h2]
  rfl
theorem eqv_cou (L : List (List Int)) (x : Str) : PyData.eqv (couD L x) (couD L x) = true := by
  show (PyData.eqvAll (L.map tupI) (L.map tupI) && (decide (x = x) && true)) = true
  rw [eqv_tups, decide_eq_true rfl, decide_eq_true rfl]
  rfl
theorem outW_lay (gs : List (List Int)) (p : List Int) : PyData.canLay0 (.str (outW gs p)) = true := by
  unfold outW
  split <;> decide +kernel
theorem neD_cou {H : Hp} {a S b S' : Addr} {L : List (List Int)} {x : Str} {Q : VK} (h : H a = some (.tup [.ref S, .str x])) (hS : LstT H S L) (h' : H b = some (.tup [.ref S', .str x])) (hS' : LstT H S' L) (hx : PyData.canLay0 (.str x) = true) (q : Q (.bl false) H) : rNeD K (.ref a) (.ref b) H Q :=
  ⟨_, _, dp_cou h hS, dp_cou h' hS', shaped_cou _ hx, shaped_cou _ hx, by rw [eqv_cou]; exact q⟩
theorem eqD_cou {H : Hp} {a S b S' : Addr} {L : List (List Int)} {x : Str} {Q : VK} (h : H a = some (.tup [.ref S, .str x])) (hS : LstT H S L) (h' : H b = some (.tup [.ref S', .str x])) (hS' : LstT H S' L) (hx : PyData.canLay0 (.str x) = true) (q : Q (.bl true) H) : rEqD K (.ref a) (.ref b) H Q :=
  ⟨_, _, dp_cou h hS, dp_cou h' hS', shaped_cou _ hx, shaped_cou _ hx, by rw [eqv_cou]; exact q⟩
def MCo1 (C l g p c wd : Addr) (ss : List Int) (H : Hp) (σ : L2.St) (H' : Hp) : Prop := ∃ t, σ = [some (V.ref l), some (V.ref g), some (V.ref p), some (V.ref c), some (V.ref wd), some (V.ref t), none] ∧ Same H H' ∧ TabAt C H' t ss
def MCo2 (l g p c wd t : Addr) (x : Str) (L : List (List Int)) (H : Hp) (σ : L2.St) (H' : Hp) : Prop := ∃ D S M, σ = [some (V.ref l), some (V.ref g), some (V.ref p), some (V.ref c), some (V.ref wd), some (V.ref t), some (V.ref D)] ∧ Same H H' ∧ H' D = some (.tup [.ref M, .ref S, .str x]) ∧ LstT H' S L
def sp_law_course_of (K : PySem.W.Frag) : Sp := fun vs H Q _ => ∃ (l g p c wd : Addr) (ss ps : List Int) (gs cl : List (List Int)) (bs : List Bool), vs = [.ref l, .ref g, .ref p, .ref c, .ref wd] ∧ H l = some (.tup (ss.map V.int)) ∧ Sz ss ∧ LstT H g gs ∧ Tgts ss gs ∧ H p = some (.tup (ps.map V.int)) ∧ Seat ss ps ∧
  LstT H c cl ∧ cl ≠ [] ∧ cl.length ≤ 1000 ∧ (∀ c ∈ cl, c.length = ss.length) ∧ H wd = some (.lst (bs.map fun b => V.str (offW b))) ∧ bs ≠ [] ∧ bs.length ≤ 1000 ∧
  ∀ H' D S, Same H H' → H' D = some (.tup [.ref S, .str (couW ss gs cl bs ps)]) → LstT H' S (couL ss gs cl bs ps) → Q (.ref D) H'
theorem ok_law_course_of (T : Tx K mg) : FnOk P w K mg base CX0 7 T.f_law_course_of T.fd_law_course_of ["_law_rings", "_law_goals_here", "_law_spot", "_law_called", "_law_words"] (sp_law_course_of K) := by
  refine T.F_law_course_of.ok sc_law_course_of (fun vs H Q E h => ?_) (fun cdv A outer s H vs Q E hr h => ?_)
  · obtain ⟨l, g, p, c, wd, ss, ps, gs, cl, bs, rfl, _⟩ := h; rfl
  · obtain ⟨l, g, p, c, wd, ss, ps, gs, cl, bs, rfl, hl, z, hG, hgs, hp, hS, hC, hne, hk, hlen, hW, hb, hbk, q⟩ := h
    refine ⟨_, (C8.pss_cut (ps_set (i := 5) sc_law_course_of.nd rfl (Or.inl rfl) (pe_make T.M_Table (ok_Table_init T) (hr.mono (by decide)) (by rfl) T.g_Table T.b_Table_init .nil pass0 (pa_cons (pv 0) pa_nil)))
      (C8.pss_cut (ps_set (i := 6) sc_law_course_of.nd rfl (Or.inl rfl) (pe_call (ok_play T) (hr.mono (by decide)) (by rfl) T.g_play T.F_play.kp T.b_play .nil pass0 (pa_cons (pv 5) (pa_cons (pv 1) (pa_cons (pv 2) (pa_cons (pe_make T.M_Caller (ok_Caller_init T) (hr.mono (by decide)) (by rfl) T.g_Caller T.b_Caller_init .nil pass0 (pa_cons (pv 5) (pa_cons (pv 1) (pa_cons (pv 3) pa_nil)))) (pa_cons (pe_make T.M_Responder (ok_Responder_init T) (hr.mono (by decide)) (by rfl) T.g_Responder T.b_Responder_init .nil pass0 (pa_cons (pv 5) (pa_cons (pv 1) (pa_cons (pv 4) pa_nil)))) (pa_cons pe_int pa_nil))))))))
      (pss_one (ps_ret (pe_tup (pa_cons (pe_ix ix_tH (pv 6) pe_int (fun _ _ => rfl)) (pa_cons (pe_ix ix_tH (pv 6) pe_int (fun _ _ => rfl)) pa_nil))))))), ?_⟩
    refine ⟨MCo1 T.c_Table l g p c wd ss H, ?_, ?_⟩
    · walk_at "rd"
      intro x dx hx hdx hxd
      exact tab_made (k := false) hx hdx hxd hl z fun G s hT => ⟨rfl, x, rfl, s, hT⟩
    rintro σ1 H1 ⟨t, rfl, s1, hT⟩
    refine ⟨MCo2 l g p c wd t (couW ss gs cl bs ps) (couL ss gs cl bs ps) H, ?_, ?_⟩
    · walk_at "rd"
      intro x dx hx hdx hxd
      refine call_made hx hdx hxd hT z (hG.same s1) hgs (hC.same s1) hne hk hlen fun G2 s2 hca => ⟨rfl, fun y dy hy hdy hyd => ?_⟩
      have s12 := s1.trans s2
      refine resp_made (k := .dirs bs) hy hdy hyd (hT.same s2) z (hG.same s12) hgs ⟨wd, rfl, s12 _ _ hW⟩ ⟨hb, hbk⟩ fun G3 s3 hre => ⟨rfl, ?_⟩
      have s13 := s12.trans s3
      have cu := curG_U (bs := bs) z hS hne hlen
      have hf : curG ss (cl.map fun c => redC c ss) (.dirs bs) ps = curU ss cl bs ps := funext cu
      refine ⟨t, g, p, x, y, x, ss, gs, cl.map fun c => redC c ss, .dirs bs, 0, 0, stopN gs (curU ss cl bs ps) 30, 30, ps, rfl, hT.same (s2.trans s3), hca.same s3, hre, hG.same s13, hgs, s13 _ _ hp, z, hS, ⟨hb, hbk⟩, fun _ => rfl, by simpa using hne, by rw [List.length_map]; exact hk, fun d hd => ?_, by have := stopN_le gs (curU ss cl bs ps) 30; omega, by omega, fun i hi => ?_, ?_, fun H' D M S s' hD hM hS' => ?_⟩
      · obtain ⟨e, he, rfl⟩ := List.mem_map.mp hd
        exact redC_seat (hlen e he) z.pos
      · rw [hf]
        exact stopN_no hi
      · rw [hf]
        rcases stopN_end gs (curU ss cl bs ps) 30 with h | h
        · left; rw [h]; rfl
        · exact .inr h
      · rw [hf] at hD hS'
        exact ⟨D, S, M, rfl, s13.trans s', hD, hS'⟩
    rintro σ2 H2 ⟨D, S, M, rfl, s2, hD, hS2⟩
    walk_at "rd"
    exact ⟨_, hD, _, atI_1, _, hD, _, atI_2, fun f hf => q _ f S (s2.trans (Same.new hf)) upd_same (hS2.same (Same.new hf))⟩
end

section
variable {P : Program} {w : World} {K : PySem.W.Frag} {mg : Str → Option Value} {base : Heap}
/-- what the check is given, at H; N draws so far -/
structure LR (a l g c wd : Addr) (ss : List Int) (gs cl : List (List Int)) (bs : List Bool) (N : Nat) (H0 H : Hp) : Prop where
  sx : Sx a H0 H
  src : SrcN H a N
  l : H l = some (.tup (ss.map V.int))
  g : LstT H g gs
  c : LstT H c cl
  w : H wd = some (.lst (bs.map fun b => V.str (offW b)))
  nw : wd ≠ a
structure LS (a l g c wd p S : Addr) (ss ps : List Int) (gs cl : List (List Int)) (bs : List Bool) (L : List (List Int)) (N : Nat) (H0 H : Hp) : Prop extends LR a l g c wd ss gs cl bs N H0 H where
  p : H p = some (.tup (ps.map V.int))
  S : LstT H S L
section
variable {a l g c wd p S : Addr} {ss ps : List Int} {gs cl L : List (List Int)} {bs : List Bool} {N M : Nat} {H0 H H' : Hp}
theorem LR.same (k : LR a l g c wd ss gs cl bs N H0 H) (s : Same H H') : LR a l g c wd ss gs cl bs N H0 H' := ⟨k.sx.trans (Sx.of s), k.src.same s, s _ _ k.l, k.g.same s, k.c.same s, s _ _ k.w, k.nw⟩
theorem LR.sxx (k : LR a l g c wd ss gs cl bs N H0 H) (s : Sx a H H') (h : SrcN H' a M) : LR a l g c wd ss gs cl bs M H0 H' := ⟨k.sx.trans s, h, k.src.tp s _ _ k.l, k.g.sxn k.src s, k.c.sxn k.src s, s _ _ k.nw k.w, k.nw⟩
theorem LR.more (k : LR a l g c wd ss gs cl bs N H0 H) (h : N ≤ M) : LR a l g c wd ss gs cl bs M H0 H := ⟨k.sx, k.src.mono h, k.l, k.g, k.c, k.w, k.nw⟩
theorem LS.same (k : LS a l g c wd p S ss ps gs cl bs L N H0 H) (s : Same H H') : LS a l g c wd p S ss ps gs cl bs L N H0 H' := ⟨k.toLR.same s, s _ _ k.p, k.S.same s⟩
theorem LS.sxx (k : LS a l g c wd p S ss ps gs cl bs L N H0 H) (s : Sx a H H') (h : SrcN H' a M) : LS a l g c wd p S ss ps gs cl bs L M H0 H' := ⟨k.toLR.sxx s h, k.src.tp s _ _ k.p, k.S.sxn k.src s⟩
end
/-- a comprehension over a list of tuples of ints that makes such a list -/
theorem lcr_mapT {J : It} {x : Addr} {as : List Addr} {css : List (List Int)} {H1 : Hp} (hC : H1 x = some (.lst (as.map V.ref))) (hA : AsT H1 as css) (hk : css.length ≤ 1000) (w : Walk J (as.map V.ref).length (fun H => H x = some (.lst (as.map V.ref))) (YAt (as.map V.ref))) {g : TG} {te : TE} {vs : List Nat} {σ : L2.St} {Q : VK} (f : List Int → List Int)
    (hs : ∀ ai c H (Qy : VK), c ∈ css → Same H1 H → H ai = some (.tup (c.map V.int)) → (∀ t H4, Same H H4 → H4 t = some (.tup ((f c).map V.int)) → Qy (.ref t) H4) → g (.ref ai) (wipe σ vs) H fun σ2 H2 => wipe σ2 vs = wipe σ vs ∧ te σ2 H2 Qy)
    (hd : ∀ D H, H1 D = none → Same H1 H → LstT H D (css.map f) → Q (.ref D) H) : LcR J g tYes te vs σ H1 Q := by
  refine lcr_tupf w (fun i => f (css.getD i [])) (by rw [List.length_map, hA.1]; exact hk) (fun H7 s7 => s7 _ _ hC) (fun _ _ _ _ y => YAt.same y) ?_ ?_
  · rintro i y H7 H8 Qy hi s7 ⟨rfl, hx⟩ hq
    rw [List.length_map, hA.1] at hi
    simp only [List.getElem?_map, Option.map_eq_some_iff] at hx
    obtain ⟨ai, hai, rfl⟩ := hx
    have hc := List.getElem?_eq_getElem hi
    refine hs ai _ H8 Qy (List.getElem_mem hi) s7 (s7 _ _ (hA.2 i ai _ hai hc)) fun t H4 s4 ht => hq t H4 s4 ?_
    rw [List.getD_eq_getElem?_getD, hc]
    exact ht
  · intro D H7 hD s7 hL
    rw [List.length_map, hA.1, range_map css f _ (fun i x hx => by rw [List.getD_eq_getElem?_getD, hx]; rfl)] at hL
    exact hd D H7 hD s7 hL
/-- factors that may be undone -/
structure FacO (ss fs : List Int) : Prop where
  len : fs.length = ss.length
  ok : ∀ (i : Nat) f s, fs[i]? = some f → ss[i]? = some s → 0 < f ∧ f ≤ 2 * s ∧ Nat.gcd s.natAbs f.natAbs = 1
/-- the words turned round, m of them -/
def whoB (bs : List Bool) (m : Nat) : List Bool := (List.range m).map fun k => !(bs.getD (k % bs.length) false)
def Q1 (a l g c wd : Addr) (ss : List Int) (gs cl : List (List Int)) (bs : List Bool) (N : Nat) (H : Hp) (σ : L2.St) (H' : Hp) : Prop := ∃ (p : Addr) (sh : Addr) (ps shs : List Int), σ = [some (V.ref a), some (V.ref l), some (V.ref g), some (V.ref c), some (V.ref wd), some (V.ref p), some (V.ref sh), none, none, none, none, none, none, none, none, none, none, none, none, none, none, none, none, none, none, none] ∧ LR a l g c wd ss gs cl bs N H H' ∧ H' p = some (.tup (ps.map V.int)) ∧ Seat ss ps ∧ H' sh = some (.tup (shs.map V.int)) ∧ Seat ss shs
def Q2 (a l g c wd p sh : Addr) (x : Str) (ss : List Int) (gs cl : List (List Int)) (bs : List Bool) (ps : List Int) (L : List (List Int)) (shs : List Int) (N : Nat) (H : Hp) (σ : L2.St) (H' : Hp) : Prop := ∃ (S : Addr), σ = [some (V.ref a), some (V.ref l), some (V.ref g), some (V.ref c), some (V.ref wd), some (V.ref p), some (V.ref sh), some (V.ref S), some (V.str x), none, none, none, none, none, none, none, none, none, none, none, none, none, none, none, none, none] ∧ LS a l g c wd p S ss ps gs cl bs L N H H' ∧ H' sh = some (.tup (shs.map V.int))
def Q3 (a l g c wd p sh S : Addr) (x : Str) (ss : List Int) (gs cl : List (List Int)) (bs : List Bool) (ps : List Int) (L : List (List Int)) (shs : List Int) (N : Nat) (H : Hp) (σ : L2.St) (H' : Hp) : Prop := ∃ (lt : Addr), σ = [some (V.ref a), some (V.ref l), some (V.ref g), some (V.ref c), some (V.ref wd), some (V.ref p), some (V.ref sh), some (V.ref S), some (V.str x), some (V.ref lt), none, none, none, none, none, none, none, none, none, none, none, none, none, none, none, none] ∧ LS a l g c wd p S ss ps gs cl bs L N H H' ∧ H' sh = some (.tup (shs.map V.int)) ∧ LstT H' lt (gs.map fun q => mvW false q shs ss)
def Q4 (a l g c wd p sh S lt : Addr) (x : Str) (ss : List Int) (gs cl : List (List Int)) (bs : List Bool) (ps : List Int) (L : List (List Int)) (shs : List Int) (N : Nat) (H : Hp) (σ : L2.St) (H' : Hp) : Prop := ∃ (du : Addr), σ = [some (V.ref a), some (V.ref l), some (V.ref g), some (V.ref c), some (V.ref wd), some (V.ref p), some (V.ref sh), some (V.ref S), some (V.str x), some (V.ref lt), some (V.ref du), none, none, none, none, none, none, none, none, none, none, none, none, none, none, none] ∧ LS a l g c wd p S ss ps gs cl bs L N H H' ∧ H' sh = some (.tup (shs.map V.int)) ∧ LstT H' lt (gs.map fun q => mvW false q shs ss) ∧ LstT H' du (L.map fun q => mvW false q shs ss)
def Q5 (a l g c wd p sh S lt du : Addr) (x : Str) (ss : List Int) (gs cl : List (List Int)) (bs : List Bool) (ps : List Int) (L : List (List Int)) (N : Nat) (H : Hp) (σ : L2.St) (H' : Hp) : Prop := σ = [some (V.ref a), some (V.ref l), some (V.ref g), some (V.ref c), some (V.ref wd), some (V.ref p), some (V.ref sh), some (V.ref S), some (V.str x), some (V.ref lt), some (V.ref du), none, none, none, none, none, none, none, none, none, none, none, none, none, none, none] ∧ LS a l g c wd p S ss ps gs cl bs L N H H'
def Q6 (a l g c wd p sh S lt du : Addr) (x : Str) (ss : List Int) (gs cl : List (List Int)) (bs : List Bool) (ps : List Int) (L : List (List Int)) (N : Nat) (H : Hp) (σ : L2.St) (H' : Hp) : Prop := ∃ (fa : Addr) (fs : List Int), σ = [some (V.ref a), some (V.ref l), some (V.ref g), some (V.ref c), some (V.ref wd), some (V.ref p), some (V.ref sh), some (V.ref S), some (V.str x), some (V.ref lt), some (V.ref du), some (V.ref fa), none, none, none, none, none, none, none, none, none, none, none, none, none, none] ∧ LS a l g c wd p S ss ps gs cl bs L N H H' ∧ H' fa = some (.lst (fs.map V.int)) ∧ fa ≠ a ∧ FacO ss fs
def Q7 (a l g c wd p sh S lt fa : Addr) (x : Str) (ss : List Int) (gs cl : List (List Int)) (bs : List Bool) (ps : List Int) (L : List (List Int)) (fs : List Int) (N : Nat) (H : Hp) (σ : L2.St) (H' : Hp) : Prop := ∃ (du : Addr), σ = [some (V.ref a), some (V.ref l), some (V.ref g), some (V.ref c), some (V.ref wd), some (V.ref p), some (V.ref sh), some (V.ref S), some (V.str x), some (V.ref lt), some (V.ref du), some (V.ref fa), none, none, none, none, none, none, none, none, none, none, none, none, none, none] ∧ LS a l g c wd p S ss ps gs cl bs L N H H' ∧ H' fa = some (.lst (fs.map V.int)) ∧ LstT H' du (L.map fun q => timI q fs ss)
def Q8 (a l g c wd p sh S lt du fa : Addr) (x : Str) (ss : List Int) (gs cl : List (List Int)) (bs : List Bool) (ps : List Int) (L : List (List Int)) (fs : List Int) (N : Nat) (H : Hp) (σ : L2.St) (H' : Hp) : Prop := ∃ (so : Addr), σ = [some (V.ref a), some (V.ref l), some (V.ref g), some (V.ref c), some (V.ref wd), some (V.ref p), some (V.ref sh), some (V.ref S), some (V.str x), some (V.ref lt), some (V.ref du), some (V.ref fa), some (V.ref so), none, none, none, none, none, none, none, none, none, none, none, none, none] ∧ LS a l g c wd p S ss ps gs cl bs L N H H' ∧ H' fa = some (.lst (fs.map V.int)) ∧ LstT H' du (L.map fun q => timI q fs ss) ∧ LstT H' so (cl.map fun q => timI q fs ss)
def Q9 (a l g c wd p sh S lt du fa so : Addr) (x : Str) (ss : List Int) (gs cl : List (List Int)) (bs : List Bool) (ps : List Int) (L : List (List Int)) (N : Nat) (H : Hp) (σ : L2.St) (H' : Hp) : Prop := σ = [some (V.ref a), some (V.ref l), some (V.ref g), some (V.ref c), some (V.ref wd), some (V.ref p), some (V.ref sh), some (V.ref S), some (V.str x), some (V.ref lt), some (V.ref du), some (V.ref fa), some (V.ref so), none, none, none, none, none, none, none, none, none, none, none, none, none] ∧ LS a l g c wd p S ss ps gs cl bs L N H H'
def Q10 (a l g c wd p sh S lt du fa so : Addr) (x : Str) (ss : List Int) (gs cl : List (List Int)) (bs : List Bool) (ps : List Int) (L : List (List Int)) (N : Nat) (H : Hp) (σ : L2.St) (H' : Hp) : Prop := ∃ (mi : Addr), σ = [some (V.ref a), some (V.ref l), some (V.ref g), some (V.ref c), some (V.ref wd), some (V.ref p), some (V.ref sh), some (V.ref S), some (V.str x), some (V.ref lt), some (V.ref du), some (V.ref fa), some (V.ref so), some (V.ref mi), none, none, none, none, none, none, none, none, none, none, none, none] ∧ LS a l g c wd p S ss ps gs cl bs L N H H' ∧ LstT H' mi (cl.map fun q => q.map fun x => 0 - x)
def Q11 (a l g c wd p sh S lt du fa so mi : Addr) (x : Str) (ss : List Int) (gs cl : List (List Int)) (bs : List Bool) (ps : List Int) (L : List (List Int)) (N : Nat) (H : Hp) (σ : L2.St) (H' : Hp) : Prop := ∃ (sw : Addr), σ = [some (V.ref a), some (V.ref l), some (V.ref g), some (V.ref c), some (V.ref wd), some (V.ref p), some (V.ref sh), some (V.ref S), some (V.str x), some (V.ref lt), some (V.ref du), some (V.ref fa), some (V.ref so), some (V.ref mi), some (V.ref sw), none, none, none, none, none, none, none, none, none, none, none] ∧ LS a l g c wd p S ss ps gs cl bs L N H H' ∧ LstT H' mi (cl.map fun q => q.map fun x => 0 - x) ∧ H' sw = some (.lst ((bs.map fun b => !b).map fun b => V.str (offW b)))
def Q12 (a l g c wd p sh S lt du fa so mi sw : Addr) (x : Str) (th : Int) (ss : List Int) (gs cl : List (List Int)) (bs : List Bool) (ps : List Int) (L : List (List Int)) (N : Nat) (H : Hp) (σ : L2.St) (H' : Hp) : Prop := σ = [some (V.ref a), some (V.ref l), some (V.ref g), some (V.ref c), some (V.ref wd), some (V.ref p), some (V.ref sh), some (V.ref S), some (V.str x), some (V.ref lt), some (V.ref du), some (V.ref fa), some (V.ref so), some (V.ref mi), some (V.ref sw), some (V.int th), none, none, none, none, none, none, none, none, none, none] ∧ LS a l g c wd p S ss ps gs cl bs L N H H' ∧ LstT H' mi (cl.map fun q => q.map fun x => 0 - x) ∧ H' sw = some (.lst ((bs.map fun b => !b).map fun b => V.str (offW b)))
def Q13 (a l g c wd p sh S lt du fa so mi sw : Addr) (x : Str) (th : Int) (ss : List Int) (gs cl : List (List Int)) (bs : List Bool) (ps : List Int) (L : List (List Int)) (N : Nat) (H : Hp) (σ : L2.St) (H' : Hp) : Prop := ∃ (wh : Addr), σ = [some (V.ref a), some (V.ref l), some (V.ref g), some (V.ref c), some (V.ref wd), some (V.ref p), some (V.ref sh), some (V.ref S), some (V.str x), some (V.ref lt), some (V.ref du), some (V.ref fa), some (V.ref so), some (V.ref mi), some (V.ref sw), some (V.int th), some (V.ref wh), none, none, none, none, none, none, none, none, none] ∧ LS a l g c wd p S ss ps gs cl bs L N H H' ∧ LstT H' mi (cl.map fun q => q.map fun x => 0 - x) ∧ H' wh = some (.lst ((whoB bs (cl.length * bs.length)).map fun b => V.str (offW b)))
def Q14 (a l g c wd p sh S lt du fa so mi sw wh : Addr) (x : Str) (th : Int) (ss : List Int) (gs cl : List (List Int)) (bs : List Bool) (ps : List Int) (L : List (List Int)) (N : Nat) (H : Hp) (σ : L2.St) (H' : Hp) : Prop := σ = [some (V.ref a), some (V.ref l), some (V.ref g), some (V.ref c), some (V.ref wd), some (V.ref p), some (V.ref sh), some (V.ref S), some (V.str x), some (V.ref lt), some (V.ref du), some (V.ref fa), some (V.ref so), some (V.ref mi), some (V.ref sw), some (V.int th), some (V.ref wh), none, none, none, none, none, none, none, none, none] ∧ LS a l g c wd p S ss ps gs cl bs L N H H'
def Q15 (a l g c wd p sh S lt du fa so mi sw wh : Addr) (x : Str) (th : Int) (ss : List Int) (gs cl : List (List Int)) (bs : List Bool) (ps : List Int) (L : List (List Int)) (N : Nat) (H : Hp) (σ : L2.St) (H' : Hp) : Prop := ∃ (od : Addr) (os : List Int), σ = [some (V.ref a), some (V.ref l), some (V.ref g), some (V.ref c), some (V.ref wd), some (V.ref p), some (V.ref sh), some (V.ref S), some (V.str x), some (V.ref lt), some (V.ref du), some (V.ref fa), some (V.ref so), some (V.ref mi), some (V.ref sw), some (V.int th), some (V.ref wh), some (V.ref od), none, none, none, none, none, none, none, none] ∧ LS a l g c wd p S ss ps gs cl bs L N H H' ∧ H' od = some (.lst (os.map V.int)) ∧ OrdO os ss.length
def Q16 (a l g c wd p sh S lt du fa so mi sw wh od : Addr) (x : Str) (th : Int) (ss : List Int) (gs cl : List (List Int)) (bs : List Bool) (ps : List Int) (L : List (List Int)) (os : List Int) (N : Nat) (H : Hp) (σ : L2.St) (H' : Hp) : Prop := ∃ (mx : Addr) (d0 d1 d2 : Addr), σ = [some (V.ref a), some (V.ref l), some (V.ref g), some (V.ref c), some (V.ref wd), some (V.ref p), some (V.ref sh), some (V.ref S), some (V.str x), some (V.ref lt), some (V.ref du), some (V.ref fa), some (V.ref so), some (V.ref mi), some (V.ref sw), some (V.int th), some (V.ref wh), some (V.ref od), some (V.ref mx), none, none, none, none, none, none, none] ∧ LS a l g c wd p S ss ps gs cl bs L N H H' ∧ H' od = some (.lst (os.map V.int)) ∧ H' mx = some (.lst [.ref d0, .ref d1, .ref d2]) ∧ LstT H' d0 (gs.map (ordP os)) ∧ LstT H' d1 (cl.map (ordP os)) ∧ LstT H' d2 (L.map (ordP os))
def Q17 (a l g c wd p sh S lt du fa so mi sw wh od mx : Addr) (x : Str) (th : Int) (ss : List Int) (gs cl : List (List Int)) (bs : List Bool) (ps : List Int) (L : List (List Int)) (os : List Int) (N : Nat) (H : Hp) (σ : L2.St) (H' : Hp) : Prop := ∃ (tu : Addr) (d0 d1 d2 : Addr), σ = [some (V.ref a), some (V.ref l), some (V.ref g), some (V.ref c), some (V.ref wd), some (V.ref p), some (V.ref sh), some (V.ref S), some (V.str x), some (V.ref lt), some (V.ref du), some (V.ref fa), some (V.ref so), some (V.ref mi), some (V.ref sw), some (V.int th), some (V.ref wh), some (V.ref od), some (V.ref mx), some (V.ref tu), none, none, none, none, none, none] ∧ LS a l g c wd p S ss ps gs cl bs L N H H' ∧ H' tu = some (.tup ((ordP os ss).map V.int)) ∧ H' mx = some (.lst [.ref d0, .ref d1, .ref d2]) ∧ LstT H' d0 (gs.map (ordP os)) ∧ LstT H' d1 (cl.map (ordP os)) ∧ LstT H' d2 (L.map (ordP os))
end

section
variable {P : Program} {w : World} {K : PySem.W.Frag} {mg : Str → Option Value} {base : Heap}
theorem couL_cons (ss : List Int) (gs cl : List (List Int)) (bs : List Bool) (ps : List Int) : ∃ L, couL ss gs cl bs ps = ps :: L := by
  unfold couL
  rw [List.range_succ_eq_map]
  exact ⟨_, rfl⟩
theorem LstT_hd {H : Hp} {D : Addr} {x : List Int} {L : List (List Int)} (h : LstT H D (x :: L)) : ∃ d r, H D = some (.lst (V.ref d :: r)) ∧ H d = some (.tup (x.map V.int)) := by
  obtain ⟨as, h1, h2⟩ := h
  cases as with
  | nil => have := h2.1; simp at this
  | cons d as => exact ⟨d, as.map V.ref, h1, h2.2 0 d x rfl rfl⟩
theorem tgts_map {ss ss' : List Int} {gs : List (List Int)} (h : Tgts ss gs) (f : List Int → List Int) (inj : ∀ x y, Seat ss x → Seat ss y → f x = f y → x = y) (hs : ∀ x, Seat ss x → Seat ss' (f x)) : Tgts ss' (gs.map f) := by
  refine ⟨by simpa using h.ne, ?_, by rw [List.length_map]; exact h.few, fun g hg => ?_⟩
  · have e : ∀ l : List (List Int), (∀ x ∈ l, Seat ss x) → l.Nodup → (l.map f).Nodup := fun l => by
      induction l with
      | nil => intro _ _; exact List.nodup_nil
      | cons x l ih =>
        intro h1 h2
        rw [List.nodup_cons] at h2
        rw [List.map_cons, List.nodup_cons]
        refine ⟨fun hm => ?_, ih (fun y hy => h1 y (List.mem_cons_of_mem _ hy)) h2.2⟩
        obtain ⟨y, hy, e⟩ := List.mem_map.mp hm
        rw [inj y x (h1 y (List.mem_cons_of_mem _ hy)) (h1 x (List.mem_cons_self ..)) e] at hy
        exact h2.1 hy
    exact e gs h.ok h.nd
  · obtain ⟨x, hx, rfl⟩ := List.mem_map.mp hg
    exact hs x (h.ok x hx)
/-- a comprehension that makes lists of tuples of ints -/
theorem lcr_lstf {J : It} {n : Nat} {G : Hp → Prop} {Y : Nat → Hp → V → Hp → Prop} (w : Walk J n G Y) {g : TG} {te : TE} {vs : List Nat} {σ : L2.St} {H1 : Hp} {Q : VK} (f : Nat → List (List Int)) (hn : n ≤ 1000)
    (hG : ∀ H, Same H1 H → G H) (hY : ∀ i x H H', Y i H x H' → Same H H')
    (hs : ∀ i x H H' (Qy : VK), i < n → Same H1 H → Y i H x H' → (∀ d H4, Same H' H4 → H' d = none → LstT H4 d (f i) → Qy (.ref d) H4) → g x (wipe σ vs) H' fun σ2 H2 => wipe σ2 vs = wipe σ vs ∧ te σ2 H2 Qy)
    (hd : ∀ D (ds : List Addr) H, H1 D = none → Same H1 H → H D = some (.lst (ds.map V.ref)) → ds.length = n → (∀ (j : Nat) d, ds[j]? = some d → LstT H d (f j)) → Q (.ref D) H) : LcR J g tYes te vs σ H1 Q := fun D hD => by
  refine lc_gen w (fun i acc H => Same H1 H ∧ (∃ ys, H D = some (.lst ys)) ∧ ∃ ds : List Addr, acc = ds.map V.ref ∧ ds.length = i ∧ ∀ (j : Nat) d, ds[j]? = some d → d ≠ D ∧ LstT H d (f j)) (Nat.le_trans hn (by decide)) ⟨Same.new hD, ⟨_, upd_same⟩, [], rfl, rfl, by simp⟩ (fun i acc H _ h _ => hG H h.1) (fun i acc H l h _ => ?_) (fun i acc x H H' Qy hi ha h e hy hq => ?_) (fun acc H ha h e => ?_)
  · obtain ⟨h1, ⟨ys, h2⟩, ds, h3, h4, h5⟩ := h
    exact ⟨fun b o hb => by rw [upd_ne (ne_some hb hD)]; exact h1 _ _ hb, ⟨_, upd_same⟩, ds, h3, h4, fun j d hj => ⟨(h5 j d hj).1, (h5 j d hj).2.upd h2 (h5 j d hj).1⟩⟩
  · obtain ⟨h1, ⟨ys, h2⟩, ds, h3, h4, h5⟩ := h
    have sy := hY _ _ _ _ hy
    refine hs i x H H' Qy hi h1 hy fun d H4 s4 hd0 hL => ?_
    have s04 := sy.trans s4
    refine hq (.ref d) H4 (s04 _ _ e) ⟨h1.trans s04, ⟨_, s04 _ _ h2⟩, ds ++ [d], by rw [h3, List.map_append]; rfl, by rw [List.length_append, h4]; rfl, fun j b hj => ?_⟩
    by_cases hlt : j < ds.length
    · rw [List.getElem?_append_left hlt] at hj
      exact ⟨(h5 j b hj).1, (h5 j b hj).2.same s04⟩
    · rw [List.getElem?_append_right (by omega)] at hj
      cases hk : j - ds.length with
      | zero =>
        rw [hk] at hj
        simp only [List.getElem?_cons_zero, Option.some.injEq] at hj
        subst hj
        have ej : j = i := by omega
        subst ej
        exact ⟨(ne_some (sy _ _ h2) hd0).symm, hL⟩
      | succ m => rw [hk] at hj; simp at hj
  · obtain ⟨h1, _, ds, h3, h4, h5⟩ := h
    exact hd D ds H hD h1 (by rw [← h3]; exact e) (by rw [h4]) fun j d hj => (h5 j d hj).2
theorem whoB_at {bs : List Bool} {c n : Nat} (h0 : 0 < c * bs.length) : (whoB bs (c * bs.length)).getD (n % (whoB bs (c * bs.length)).length) false = !(bs.getD (n % bs.length) false) := by
  have hl : (whoB bs (c * bs.length)).length = c * bs.length := by unfold whoB; simp
  rw [hl, List.getD_eq_getElem?_getD]
  unfold whoB
  rw [List.getElem?_map, List.getElem?_range (Nat.mod_lt _ h0)]
  show (!(bs.getD (n % (c * bs.length) % bs.length) false)) = _
  rw [Nat.mod_mod_of_dvd _ (Nat.dvd_mul_left ..)]
def sp_law_lists_right (K : PySem.W.Frag) : Sp := fun vs H Q _ => ∃ (a l g c wd : Addr) (ss : List Int) (gs cl : List (List Int)) (bs : List Bool) (N : Nat), vs = [.ref a, .ref l, .ref g, .ref c, .ref wd] ∧ SrcN H a N ∧ N < 700000 ∧ H l = some (.tup (ss.map V.int)) ∧ Sz ss ∧ LstT H g gs ∧ Tgts ss gs ∧
  LstT H c cl ∧ cl ≠ [] ∧ cl.length ≤ 30 ∧ (∀ c ∈ cl, CallW 1102 ss.length c) ∧ H wd = some (.lst (bs.map fun b => V.str (offW b))) ∧ wd ≠ a ∧ bs ≠ [] ∧ bs.length ≤ 30 ∧
  ∀ H', Sx a H H' → SrcN H' a (N + 20) → Q (.bl true) H'
theorem ok_law_lists_right (T : Tx K mg) : FnOk P w K mg base CX0 8 T.f_law_lists_right T.fd_law_lists_right ["_law_source_here", "_law_rings", "_law_goals_here", "_law_called", "_law_words"] (sp_law_lists_right K) := by
  refine T.F_law_lists_right.ok sc_law_lists_right (fun vs H Q E h => ?_) (fun cdv A outer s H vs Q E hr h => ?_)
  · obtain ⟨a, l, g, c, wd, ss, gs, cl, bs, N, rfl, _⟩ := h; rfl
  · obtain ⟨a, l, g, c, wd, ss, gs, cl, bs, N, rfl, hs, hN, hl, z, hG, hgs, hC, hne, hk, hcw, hW, nwa, hb, hbk, q⟩ := h
    refine ⟨_, (C8.pss_cut (ps_asg (pe_tup (pa_cons (pe_call (ok_law_drawn_seat T) (hr.mono (by decide)) (by rfl) T.g_law_drawn_seat T.F_law_drawn_seat.kp T.b_law_drawn_seat .nil pass0 (pa_cons (pv 0) (pa_cons (pv 1) pa_nil))) (pa_cons (pe_call (ok_law_drawn_seat T) (hr.mono (by decide)) (by rfl) T.g_law_drawn_seat T.F_law_drawn_seat.kp T.b_law_drawn_seat .nil pass0 (pa_cons (pv 0) (pa_cons (pv 1) pa_nil))) pa_nil))) (pg_tupH (n := 2) rfl (pgs_cons (pg_name (i := 5) sc_law_lists_right.nd rfl (Or.inl rfl)) (pgs_cons (pg_name (i := 6) sc_law_lists_right.nd rfl (Or.inr rfl)) pgs_nil))))
      (C8.pss_cut (ps_asg (pe_call (ok_law_course_of T) (hr.mono (by decide)) (by rfl) T.g_law_course_of T.F_law_course_of.kp T.b_law_course_of .nil pass0 (pa_cons (pv 1) (pa_cons (pv 2) (pa_cons (pv 5) (pa_cons (pv 3) (pa_cons (pv 4) pa_nil)))))) (pg_tupH (n := 2) rfl (pgs_cons (pg_name (i := 7) sc_law_lists_right.nd rfl (Or.inl rfl)) (pgs_cons (pg_name (i := 8) sc_law_lists_right.nd rfl (Or.inl rfl)) pgs_nil))))
      (C8.pss_cut (ps_setLc (i := 9) (own := [("_law_one", 20)]) (g := (gName 20)) (tt := tYes) rfl sc_law_lists_right.nd rfl rfl (sw_true rfl rfl rfl (by decide +kernel)) (pi_seqH (pv 2)) (blkOk_by (own := [("_law_one", 20)]) (N := N_law_lists_right) (sc := defScope d_law_lists_right) (by decide +kernel)) (fun _ _ _ _ _ => (pg_name (i := 20) sc_law_lists_right.nd rfl (Or.inl rfl))) (fun _ _ _ _ _ => pts_nil) (fun _ _ _ _ _ => (pe_call (ok_law_moved T) (hr.mono (by decide)) (by rfl) T.g_law_moved T.F_law_moved.kp T.b_law_moved .nil pass0 (pa_cons (pv 1) (pa_cons (pv 20) (pa_cons (pv 6) (pa_cons pe_int pa_nil)))))))
      (C8.pss_cut (ps_setLc (i := 10) (own := [("_law_one", 20)]) (g := (gName 20)) (tt := tYes) rfl sc_law_lists_right.nd rfl rfl (sw_true rfl rfl rfl (by decide +kernel)) (pi_seqH (pv 7)) (blkOk_by (own := [("_law_one", 20)]) (N := N_law_lists_right) (sc := defScope d_law_lists_right) (by decide +kernel)) (fun _ _ _ _ _ => (pg_name (i := 20) sc_law_lists_right.nd rfl (Or.inl rfl))) (fun _ _ _ _ _ => pts_nil) (fun _ _ _ _ _ => (pe_call (ok_law_moved T) (hr.mono (by decide)) (by rfl) T.g_law_moved T.F_law_moved.kp T.b_law_moved .nil pass0 (pa_cons (pv 1) (pa_cons (pv 20) (pa_cons (pv 6) (pa_cons pe_int pa_nil)))))))
      (C8.pss_cut (ps_if (pt_cmpR (op_neDK (K := K) rfl hr.units) (pe_call (ok_law_course_of T) (hr.mono (by decide)) (by rfl) T.g_law_course_of T.F_law_course_of.kp T.b_law_course_of .nil pass0 (pa_cons (pv 1) (pa_cons (pv 9) (pa_cons (pe_ix ix_lH (pv 10) pe_int (fun _ _ => rfl)) (pa_cons (pv 3) (pa_cons (pv 4) pa_nil)))))) (pe_tup (pa_cons (pv 10) (pa_cons (pv 8) pa_nil))) (nomark _)) (pss_one (ps_ret pe_bl)) pss_nil)
      (C8.pss_cut (ps_set (i := 11) sc_law_lists_right.nd rfl (Or.inr rfl) (pe_lc (own := [("_law_size", 21)]) (g := (gName 21)) (tt := tYes) rfl sc_law_lists_right.nd (pi_seqH (pv 1)) (blkOk_by (own := [("_law_size", 21)]) (N := N_law_lists_right) (sc := defScope d_law_lists_right) (by decide +kernel)) (fun _ _ _ _ _ => (pg_name (i := 21) sc_law_lists_right.nd rfl (Or.inl rfl))) (fun _ _ _ _ _ => pts_nil) (fun _ _ _ _ _ => (pe_call (ok_law_factor T) (hr.mono (by decide)) (by rfl) T.g_law_factor T.F_law_factor.kp T.b_law_factor .nil pass0 (pa_cons (pv 0) (pa_cons (pv 21) pa_nil))))))
      (C8.pss_cut (ps_setLc (i := 10) (own := [("_law_one", 20)]) (g := (gName 20)) (tt := tYes) rfl sc_law_lists_right.nd rfl rfl (sw_true rfl rfl rfl (by decide +kernel)) (pi_seqH (pv 7)) (blkOk_by (own := [("_law_one", 20)]) (N := N_law_lists_right) (sc := defScope d_law_lists_right) (by decide +kernel)) (fun _ _ _ _ _ => (pg_name (i := 20) sc_law_lists_right.nd rfl (Or.inl rfl))) (fun _ _ _ _ _ => pts_nil) (fun _ _ _ _ _ => (pe_call (ok_law_times T) (hr.mono (by decide)) (by rfl) T.g_law_times T.F_law_times.kp T.b_law_times .nil pass0 (pa_cons (pv 1) (pa_cons (pv 11) (pa_cons (pv 20) pa_nil))))))
      (C8.pss_cut (ps_setLc (i := 12) (own := [("_law_one", 20)]) (g := (gName 20)) (tt := tYes) rfl sc_law_lists_right.nd rfl rfl (sw_true rfl rfl rfl (by decide +kernel)) (pi_seqH (pv 3)) (blkOk_by (own := [("_law_one", 20)]) (N := N_law_lists_right) (sc := defScope d_law_lists_right) (by decide +kernel)) (fun _ _ _ _ _ => (pg_name (i := 20) sc_law_lists_right.nd rfl (Or.inl rfl))) (fun _ _ _ _ _ => pts_nil) (fun _ _ _ _ _ => (pe_call (ok_law_times T) (hr.mono (by decide)) (by rfl) T.g_law_times T.F_law_times.kp T.b_law_times .nil pass0 (pa_cons (pv 1) (pa_cons (pv 11) (pa_cons (pv 20) pa_nil))))))
      (C8.pss_cut (ps_if (pt_cmpR (op_neDK (K := K) rfl hr.units) (pe_call (ok_law_course_of T) (hr.mono (by decide)) (by rfl) T.g_law_course_of T.F_law_course_of.kp T.b_law_course_of .nil pass0 (pa_cons (pv 1) (pa_cons (pe_lc (own := [("_law_one", 20)]) (g := (gName 20)) (tt := tYes) rfl sc_law_lists_right.nd (pi_seqH (pv 2)) (blkOk_by (own := [("_law_one", 20)]) (N := N_law_lists_right) (sc := defScope d_law_lists_right) (by decide +kernel)) (fun _ _ _ _ _ => (pg_name (i := 20) sc_law_lists_right.nd rfl (Or.inl rfl))) (fun _ _ _ _ _ => pts_nil) (fun _ _ _ _ _ => (pe_call (ok_law_times T) (hr.mono (by decide)) (by rfl) T.g_law_times T.F_law_times.kp T.b_law_times .nil pass0 (pa_cons (pv 1) (pa_cons (pv 11) (pa_cons (pv 20) pa_nil)))))) (pa_cons (pe_ix ix_lH (pv 10) pe_int (fun _ _ => rfl)) (pa_cons (pv 12) (pa_cons (pv 4) pa_nil)))))) (pe_tup (pa_cons (pv 10) (pa_cons (pv 8) pa_nil))) (nomark _)) (pss_one (ps_ret pe_bl)) pss_nil)
      (C8.pss_cut (ps_setLc (i := 13) (own := [("_law_one", 20)]) (g := (gName 20)) (tt := tYes) rfl sc_law_lists_right.nd rfl rfl (sw_true rfl rfl rfl (by decide +kernel)) (pi_seqH (pv 3)) (blkOk_by (own := [("_law_one", 20)]) (N := N_law_lists_right) (sc := defScope d_law_lists_right) (by decide +kernel)) (fun _ _ _ _ _ => (pg_name (i := 20) sc_law_lists_right.nd rfl (Or.inl rfl))) (fun _ _ _ _ _ => pts_nil) (fun _ _ _ _ _ => (pe_callTy tuple_H (by rfl) T.n_tuple (by decide +kernel) (pa_cons (pe_lc (own := [("_law_part", 22)]) (g := (gName 22)) (tt := tYes) rfl sc_law_lists_right.nd (pi_seqH (pv 20)) (blkOk_by (own := [("_law_part", 22)]) (by rfl)) (fun _ _ _ _ _ => (pg_name (i := 22) sc_law_lists_right.nd rfl (by first | exact Or.inl rfl | exact Or.inr rfl))) (fun _ _ _ _ _ => pts_nil) (fun _ _ _ _ _ => (pe_op op_sub pe_int (pv 22)))) pa_nil))))
      (C8.pss_cut (ps_set (i := 14) sc_law_lists_right.nd rfl (Or.inr rfl) (pe_lc (own := [("_law_word", 23)]) (g := (gName 23)) (tt := tYes) rfl sc_law_lists_right.nd (pi_seqH (pv 4)) (blkOk_by (own := [("_law_word", 23)]) (N := N_law_lists_right) (sc := defScope d_law_lists_right) (by decide +kernel)) (fun _ _ _ _ _ => (pg_name (i := 23) sc_law_lists_right.nd rfl (Or.inl rfl))) (fun _ _ _ _ _ => pts_nil) (fun _ _ _ _ _ => (pe_ix ix_lH (pe_lst (pa_cons pe_str (pa_cons pe_str pa_nil))) (pe_callTy call_int1 (by rfl) T.n_int (by decide +kernel) (pa_cons (pe_cmpR op_eq (pv 23) pe_str (nomark _)) pa_nil)) (fun _ _ => rfl)))))
      (C8.pss_cut (ps_set (i := 15) sc_law_lists_right.nd rfl (Or.inl rfl) (pe_op op_mulA (pe_callB len_H (by rfl) T.n_len PySem.boot_len (pa_cons (pv 3) pa_nil)) (pe_callB len_H (by rfl) T.n_len PySem.boot_len (pa_cons (pv 4) pa_nil))))
      (C8.pss_cut (ps_setLc (i := 16) (own := [("_law_k", 24)]) (g := (gName 24)) (tt := tYes) rfl sc_law_lists_right.nd rfl rfl (sw_true rfl rfl rfl (by decide +kernel)) (pi_range1H (by rfl) T.n_range (pa_cons (pv 15) pa_nil)) (blkOk_by (own := [("_law_k", 24)]) (N := N_law_lists_right) (sc := defScope d_law_lists_right) (by decide +kernel)) (fun _ _ _ _ _ => (pg_name (i := 24) sc_law_lists_right.nd rfl (Or.inl rfl))) (fun _ _ _ _ _ => pts_nil) (fun _ _ _ _ _ => (pe_ix ix_lH (pv 14) (pe_op op_mod (pv 24) (pe_callB len_H (by rfl) T.n_len PySem.boot_len (pa_cons (pv 4) pa_nil))) (fun _ _ => rfl))))
      (C8.pss_cut (ps_if (pt_cmpR (op_neDK (K := K) rfl hr.units) (pe_call (ok_law_course_of T) (hr.mono (by decide)) (by rfl) T.g_law_course_of T.F_law_course_of.kp T.b_law_course_of .nil pass0 (pa_cons (pv 1) (pa_cons (pv 2) (pa_cons (pv 5) (pa_cons (pv 13) (pa_cons (pv 16) pa_nil)))))) (pe_tup (pa_cons (pv 7) (pa_cons (pv 8) pa_nil))) (nomark _)) (pss_one (ps_ret pe_bl)) pss_nil)
      (C8.pss_cut (ps_set (i := 17) sc_law_lists_right.nd rfl (Or.inr rfl) (pe_call (ok_law_shuffled T) (hr.mono (by decide)) (by rfl) T.g_law_shuffled T.F_law_shuffled.kp T.b_law_shuffled .nil pass0 (pa_cons (pv 0) (pa_cons (pe_listRg rfl (by rfl) T.n_list (prg_1 (by rfl) T.n_range (pe_callB len_H (by rfl) T.n_len PySem.boot_len (pa_cons (pv 1) pa_nil)))) pa_nil))))
      (C8.pss_cut (ps_setLc (i := 18) (own := [("_law_lot", 25)]) (g := (gName 25)) (tt := tYes) rfl sc_law_lists_right.nd rfl rfl (sw_true rfl rfl rfl (by decide +kernel)) (pi_seqH (pe_tup (pa_cons (pv 2) (pa_cons (pv 3) (pa_cons (pv 7) pa_nil))))) (blkOk_by (own := [("_law_lot", 25)]) (N := N_law_lists_right) (sc := defScope d_law_lists_right) (by decide +kernel)) (fun _ _ _ _ _ => (pg_name (i := 25) sc_law_lists_right.nd rfl (Or.inl rfl))) (fun _ _ _ _ _ => pts_nil) (fun _ _ _ _ _ => (pe_lc (own := [("_law_one", 20)]) (g := (gName 20)) (tt := tYes) rfl sc_law_lists_right.nd (pi_seqH (pv 25)) (blkOk_by (own := [("_law_one", 20)]) (by rfl)) (fun _ _ _ _ _ => (pg_name (i := 20) sc_law_lists_right.nd rfl (by first | exact Or.inl rfl | exact Or.inr rfl))) (fun _ _ _ _ _ => pts_nil) (fun _ _ _ _ _ => (pe_callTy tuple_H (by rfl) T.n_tuple (by decide +kernel) (pa_cons (pe_lc (own := [("_law_k", 24)]) (g := (gName 24)) (tt := tYes) rfl sc_law_lists_right.nd (pi_seqH (pv 17)) (blkOk_by (own := [("_law_k", 24)]) (by rfl)) (fun _ _ _ _ _ => (pg_name (i := 24) sc_law_lists_right.nd rfl (by first | exact Or.inl rfl | exact Or.inr rfl))) (fun _ _ _ _ _ => pts_nil) (fun _ _ _ _ _ => (pe_ix ix_tH (pv 20) (pv 24) (fun _ _ => rfl)))) pa_nil))))))
      (C8.pss_cut (ps_set (i := 19) sc_law_lists_right.nd rfl (Or.inl rfl) (pe_callTy tuple_H (by rfl) T.n_tuple (by decide +kernel) (pa_cons (pe_lc (own := [("_law_k", 24)]) (g := (gName 24)) (tt := tYes) rfl sc_law_lists_right.nd (pi_seqH (pv 17)) (blkOk_by (own := [("_law_k", 24)]) (N := N_law_lists_right) (sc := defScope d_law_lists_right) (by decide +kernel)) (fun _ _ _ _ _ => (pg_name (i := 24) sc_law_lists_right.nd rfl (Or.inl rfl))) (fun _ _ _ _ _ => pts_nil) (fun _ _ _ _ _ => (pe_ix ix_tH (pv 1) (pv 24) (fun _ _ => rfl)))) pa_nil)))
      (pss_one (ps_ret (pe_cmpR (op_eqDK (K := K) rfl hr.units) (pe_call (ok_law_course_of T) (hr.mono (by decide)) (by rfl) T.g_law_course_of T.F_law_course_of.kp T.b_law_course_of .nil pass0 (pa_cons (pv 19) (pa_cons (pe_ix ix_lH (pv 18) pe_int (fun _ _ => rfl)) (pa_cons (pe_ix ix_lH (pe_ix ix_lH (pv 18) pe_int (fun _ _ => rfl)) pe_int (fun _ _ => rfl)) (pa_cons (pe_ix ix_lH (pv 18) pe_int (fun _ _ => rfl)) (pa_cons (pv 4) pa_nil)))))) (pe_tup (pa_cons (pe_ix ix_lH (pv 18) pe_int (fun _ _ => rfl)) (pa_cons (pv 8) pa_nil))) (nomark _))))))))))))))))))))), ?_⟩
    have hlen : ∀ c ∈ cl, c.length = ss.length := fun c hc => (hcw c hc).1
    have h4 := z.hi
    have k0 : LR a l g c wd ss gs cl bs N H H := ⟨Sx.refl, hs, hl, hG, hC, hW, nwa⟩
    refine ⟨Q1 a l g c wd ss gs cl bs (N + 8) H, ?_, ?_⟩
    · walk_at "rd"
      refine ⟨a, l, ss, N, rfl, hs, by omega, hl, z, fun H1 p ps s1 hs1 hp hS => ?_⟩
      have k1 := k0.sxx s1 hs1
      refine ⟨a, l, ss, N + 4, rfl, k1.src, by omega, k1.l, z, fun H2 sh shs s2 hs2 hsh hSs => ?_⟩
      intro e he
      have se := Same.new he (o := .tup [V.ref p, V.ref sh])
      refine ⟨p, sh, ps, shs, rfl, ((k1.sxx s2 hs2).same se).more (by omega), se _ _ (k1.src.tp s2 _ _ hp), hS, se _ _ hsh, hSs⟩
    rintro σ1 H1 ⟨p, sh, ps, shs, rfl, k1, hp, hS, hsh, hSs⟩
    obtain ⟨L', eL⟩ := couL_cons ss gs cl bs ps
    generalize hL : couL ss gs cl bs ps = L at eL
    generalize hx : couW ss gs cl bs ps = x
    have hxl : PyData.canLay0 (.str x) = true := by rw [← hx]; exact outW_lay _ _
    have sL : ∀ q ∈ L, Seat ss q := fun q hq => by
      rw [← hL] at hq
      obtain ⟨i, _, rfl⟩ := List.mem_map.mp hq
      exact curU_seat z hS hne hlen i
    have hLl : L.length ≤ 1000 := by
      rw [← hL]
      unfold couL
      rw [List.length_map, List.length_range]
      have := stopN_le gs (curU ss cl bs ps) 30
      omega
    refine ⟨Q2 a l g c wd p sh x ss gs cl bs ps L shs (N + 8) H, ?_, ?_⟩
    · walk_at "rd"
      refine ⟨l, g, p, c, wd, ss, ps, gs, cl, bs, rfl, k1.l, z, k1.g, hgs, hp, hS, k1.c, hne, by omega, hlen, k1.w, hb, by omega, fun H2 D S s2 hD hS2 => ?_⟩
      rw [hx] at hD
      rw [hL] at hS2
      exact ⟨D, rfl, _, hD, rfl, _, _, rfl, _, _, rfl, rfl, S, rfl, ⟨k1.same s2, s2 _ _ hp, hS2⟩, s2 _ _ hsh⟩
    rintro σ2 H2 ⟨S, rfl, k2, hsh2⟩
    refine ⟨Q3 a l g c wd p sh S x ss gs cl bs ps L shs (N + 8) H, ?_, ?_⟩
    · walk_at "rd"
      obtain ⟨gas, hga, hgA⟩ := id k2.g
      refine .inl ⟨_, hga, fun J W => lcr_mapT hga hgA (by have := hgs.few; omega) W (fun q => mvW false q shs ss) ?_ ?_⟩
      · intro ai q H3 Qy hq s3 hai hQ
        walk_at "rd"
        exact ⟨l, ai, sh, false, ss, q, shs, rfl, s3 _ _ k2.l, hai, s3 _ _ hsh2, (hgs.ok q hq).len, hSs.len, z, fun H4 t s4 ht => hQ t H4 s4 ht⟩
      · intro D H3 hD s3 hLD
        exact ⟨D, rfl, k2.same s3, s3 _ _ hsh2, hLD⟩
    rintro σ3 H3 ⟨lt, rfl, k3, hsh3, hlt3⟩
    refine ⟨Q4 a l g c wd p sh S lt x ss gs cl bs ps L shs (N + 8) H, ?_, ?_⟩
    · walk_at "rd"
      obtain ⟨las, hla, hlA⟩ := id k3.S
      refine .inl ⟨_, hla, fun J W => lcr_mapT hla hlA hLl W (fun q => mvW false q shs ss) ?_ ?_⟩
      · intro ai q H4 Qy hq s4 hai hQ
        walk_at "rd"
        exact ⟨l, ai, sh, false, ss, q, shs, rfl, s4 _ _ k3.l, hai, s4 _ _ hsh3, (sL q hq).len, hSs.len, z, fun H5 t s5 ht => hQ t H5 s5 ht⟩
      · intro D H4 hD s4 hLD
        exact ⟨D, rfl, k3.same s4, s4 _ _ hsh3, hlt3.same s4, hLD⟩
    rintro σ4 H4 ⟨du, rfl, k4, hsh4, hlt4, hdu4⟩
    have inj1 : ∀ q r, Seat ss q → Seat ss r → mvW false q shs ss = mvW false r shs ss → q = r := fun q r hq hr e => sh_inj hSs.len hq hr e
    refine ⟨Q5 a l g c wd p sh S lt du x ss gs cl bs ps L (N + 8) H, ?_, ?_⟩
    · walk_at "rd"
      obtain ⟨d, r, hd1, hd2⟩ : ∃ d r, H4 du = some (.lst (V.ref d :: r)) ∧ H4 d = some (.tup ((mvW false ps shs ss).map V.int)) := by
        rw [eL] at hdu4
        exact LstT_hd hdu4
      refine ⟨_, hd1, _, atI_0, l, lt, d, c, wd, ss, _, _, cl, bs, rfl, k4.l, z, hlt4, tgts_map hgs _ inj1 (fun q hq => mvW_seat hq.len hSs.len z.pos), hd2, mvW_seat hS.len hSs.len z.pos, k4.c, hne, by omega, hlen, k4.w, hb, by omega, fun H5 D T s5 hD hT => ?_⟩
      obtain ⟨e1, e2⟩ := cou_map (ss := ss) (ss' := ss) (gs := gs) (gs' := gs.map fun q => mvW false q shs ss) (cl := cl) (cl' := cl) (bs := bs) (bs' := bs) (ps := ps) (fun q => mvW false q shs ss)
        (cur_map _ z hS hne hlen fun n q hq => by
          obtain ⟨y, _, e, hy⟩ := getD_mod hne n []
          rw [e]
          exact sh_step hq.len (hlen y hy) hSs.len)
        (fun n => mem_inj _ hgs.ok inj1 (curU_seat z hS hne hlen n))
      rw [e2, hx] at hD
      rw [e1, hL] at hT
      intro e he
      have se := Same.new he (o := .tup [V.ref du, V.str x])
      refine neD_cou (se _ _ hD) (hT.same se) upd_same (hdu4.same (s5.trans se)) hxl ⟨_, rfl, ?_⟩
      rw [if_neg (by decide)]
      exact ⟨rfl, k4.same (s5.trans se)⟩
    rintro σ5 H5 ⟨rfl, k5⟩
    refine ⟨Q6 a l g c wd p sh S lt du x ss gs cl bs ps L (N + 12) H, ?_, ?_⟩
    · walk_at "rd"
      refine .inr ⟨_, k5.l, fun J W => ?_⟩
      refine lcr_drawN (k := 1) W (fun i y => ∃ n, y = V.int n ∧ ∀ s, ss[i]? = some s → 0 < n ∧ n ≤ 2 * s ∧ Nat.gcd s.natAbs n.natAbs = 1) k5.src (by rw [List.length_map]; exact Nat.le_trans h4 (by decide)) (fun H6 s6 => k5.src.tp s6 _ _ k5.l) (fun _ _ _ _ y => YAt.same y) ?_ ?_
      · rintro i y H6 H7 Qy hi s6 hs6 ⟨rfl, hy⟩ hq
        simp only [List.getElem?_map, Option.map_eq_some_iff] at hy
        obtain ⟨n, hn, rfl⟩ := hy
        rw [List.length_map] at hi
        have hm := List.mem_of_getElem? hn
        walk_at "rd"
        refine ⟨a, n, N + 8 + 1 * i, rfl, hs6, by omega, z.pos n hm, z.bits n hm, fun H8 f s8 hs8 f0 fg f2 => hq _ _ s8 (hs8.mono (by omega)) ⟨f, rfl, fun s hs' => ?_⟩⟩
        rw [hn] at hs'
        obtain rfl := Option.some.inj hs'
        exact ⟨f0, f2, fg⟩
      · intro D acc H6 hD s6 hs6 hlen' hR hD6
        obtain ⟨fs, rfl, hfs⟩ := ints_ofN hR
        rw [List.length_map, List.length_map] at hlen'
        rw [List.length_map] at hs6
        exact ⟨D, fs, rfl, k5.sxx s6 (hs6.mono (by omega)), hD6, k5.src.ne hD, hlen', fun i f s h1 h2 => hfs i f h1 s h2⟩
    rintro σ6 H6 ⟨fa, fs, rfl, k6, hfa6, nfa, hF⟩
    have fb : ∀ (i : Nat) f, fs[i]? = some f → f.natAbs < 2 ^ 1001 := fun i f hf => by
      have hi := (List.getElem?_eq_some_iff.mp hf).1
      have hs' := List.getElem?_eq_getElem (l := ss) (i := i) (by have := hF.len; omega)
      have h1 := hF.ok i f _ hf hs'
      have h2 := z.bits _ (List.mem_of_getElem? hs')
      have e : (2 : Nat) ^ 1001 = 2 ^ 1000 * 2 := by rw [← Nat.pow_succ]
      rw [e]
      generalize (2 : Nat) ^ 1000 = y at *
      omega
    have mulS : ∀ q, Seat ss q → ∀ (i : Nat) y f, q[i]? = some y → fs[i]? = some f → CMulA y f := fun q hq i y f hy hf => by
      have hi := (List.getElem?_eq_some_iff.mp hf).1
      have hs' := List.getElem?_eq_getElem (l := ss) (i := i) (by have := hF.len; omega)
      have h1 := hq.ok i y _ hy hs'
      have h2 := z.bits _ (List.mem_of_getElem? hs')
      exact .inr (.inr (wide_mul (a := 1000) (b := 1001) (by generalize (2 : Nat) ^ 1000 = y at *; omega) (fb i f hf) (by decide) (by decide) (by decide)))
    have mulC : ∀ q ∈ cl, ∀ (i : Nat) y f, q[i]? = some y → fs[i]? = some f → CMulA y f := fun q hq i y f hy hf =>
      .inr (.inr (wide_mul (a := 1102) (b := 1001) ((hcw q hq).2 y (List.mem_of_getElem? hy)) (fb i f hf) (by decide) (by decide) (by decide)))
    have inj2 : ∀ q r, Seat ss q → Seat ss r → timI q fs ss = timI r fs ss → q = r := fun q r hq hr e => tim_inj (fun i f s h1 h2 => (hF.ok i f s h1 h2).2.2) hF.len hq hr e
    refine ⟨Q7 a l g c wd p sh S lt fa x ss gs cl bs ps L fs (N + 12) H, ?_, ?_⟩
    · walk_at "rd"
      obtain ⟨las, hla, hlA⟩ := id k6.S
      refine .inl ⟨_, hla, fun J W => lcr_mapT hla hlA hLl W (fun q => timI q fs ss) ?_ ?_⟩
      · intro ai q H7 Qy hq s7 hai hQ
        walk_at "rd"
        refine ⟨l, fa, ai, ss, fs, q, rfl, s7 _ _ k6.l, s7 _ _ hfa6, hai, hF.len, (sL q hq).len, z, mulS q (sL q hq), fun H8 t s8 ht => hQ t H8 s8 ht⟩
      · intro D H7 hD s7 hLD
        exact ⟨D, rfl, k6.same s7, s7 _ _ hfa6, hLD⟩
    rintro σ7 H7 ⟨du, rfl, k7, hfa7, hdu7⟩
    refine ⟨Q8 a l g c wd p sh S lt du fa x ss gs cl bs ps L fs (N + 12) H, ?_, ?_⟩
    · walk_at "rd"
      obtain ⟨cas, hca, hcA⟩ := id k7.c
      refine .inl ⟨_, hca, fun J W => lcr_mapT hca hcA (by omega) W (fun q => timI q fs ss) ?_ ?_⟩
      · intro ai q H8 Qy hq s8 hai hQ
        walk_at "rd"
        refine ⟨l, fa, ai, ss, fs, q, rfl, s8 _ _ k7.l, s8 _ _ hfa7, hai, hF.len, hlen q hq, z, mulC q hq, fun H9 t s9 ht => hQ t H9 s9 ht⟩
      · intro D H8 hD s8 hLD
        exact ⟨D, rfl, k7.same s8, s8 _ _ hfa7, hdu7.same s8, hLD⟩
    rintro σ8 H8 ⟨so, rfl, k8, hfa8, hdu8, hso8⟩
    refine ⟨Q9 a l g c wd p sh S lt du fa so x ss gs cl bs ps L (N + 12) H, ?_, ?_⟩
    · walk_at "rd"
      obtain ⟨gas, hga, hgA⟩ := id k8.g
      refine .inl ⟨_, hga, fun J W => lcr_mapT hga hgA (by have := hgs.few; omega) W (fun q => timI q fs ss) ?_ ?_⟩
      · intro ai q H9 Qy hq s9 hai hQ
        walk_at "rd"
        exact ⟨l, fa, ai, ss, fs, q, rfl, s9 _ _ k8.l, s9 _ _ hfa8, hai, hF.len, (hgs.ok q hq).len, z, mulS q (hgs.ok q hq), fun H10 t s10 ht => hQ t H10 s10 ht⟩
      · intro G H9 hG0 s9 hLG
        obtain ⟨d, r, hd1, hd2⟩ : ∃ d r, H8 du = some (.lst (V.ref d :: r)) ∧ H8 d = some (.tup ((timI ps fs ss).map V.int)) := by
          rw [eL] at hdu8
          exact LstT_hd hdu8
        have k9 := k8.same s9
        have tS : ∀ q, Seat ss q → Seat ss (timI q fs ss) := fun q hq => tim_seat z hF.len hq.len
        refine ⟨_, s9 _ _ hd1, _, atI_0, l, G, d, so, wd, ss, _, _, _, bs, rfl, k9.l, z, hLG, tgts_map hgs _ inj2 tS, s9 _ _ hd2, tS ps hS, hso8.same s9, by simpa using hne, by rw [List.length_map]; omega, fun y hy => ?_, k9.w, hb, by omega, fun H10 D T s10 hD hT => ?_⟩
        · obtain ⟨q, hq, rfl⟩ := List.mem_map.mp hy
          exact timI_len
        obtain ⟨e1, e2⟩ := cou_map (ss := ss) (ss' := ss) (gs := gs) (gs' := gs.map fun q => timI q fs ss) (cl := cl) (cl' := cl.map fun q => timI q fs ss) (bs := bs) (bs' := bs) (ps := ps) (fun q => timI q fs ss)
          (cur_map (ss := ss) (ss' := ss) (cl := cl) (cl' := cl.map fun q => timI q fs ss) (bs := bs) (bs' := bs) (fun q => timI q fs ss) z hS hne hlen fun n q hq => by
            obtain ⟨y, e0, e, hy⟩ := getD_mod hne n []
            have ec : (cl.map fun q => timI q fs ss).getD (n % (cl.map fun q => timI q fs ss).length) [] = timI y fs ss := by
              rw [List.length_map, List.getD_eq_getElem?_getD, List.getElem?_map, e0]
              rfl
            rw [e, ec]
            exact tim_step hq.len (hlen y hy) hF.len)
          (fun n => mem_inj _ hgs.ok inj2 (curU_seat z hS hne hlen n))
        rw [e2, hx] at hD
        rw [e1, hL] at hT
        intro e he
        have se := Same.new he (o := .tup [V.ref du, V.str x])
        refine neD_cou (se _ _ hD) (hT.same se) upd_same (hdu8.same ((s9.trans s10).trans se)) hxl ⟨_, rfl, ?_⟩
        rw [if_neg (by decide)]
        exact ⟨rfl, k9.same (s10.trans se)⟩
    rintro σ9 H9 ⟨rfl, k9⟩
    refine ⟨Q10 a l g c wd p sh S lt du fa so x ss gs cl bs ps L (N + 12) H, ?_, ?_⟩
    · walk_at "rd"
      obtain ⟨cas, hca, hcA⟩ := id k9.c
      refine .inl ⟨_, hca, fun J W => lcr_mapT hca hcA (by omega) W (fun q => q.map fun x => 0 - x) ?_ ?_⟩
      · intro ai q H10 Qy hq s10 hai hQ
        walk_at "rd"
        refine .inr ⟨_, hai, fun J2 W2 => ?_⟩
        refine lcr_map W2 ((q.map fun x => 0 - x).map V.int) (by simp) (by rw [List.length_map, hlen q hq]; exact Nat.le_trans h4 (by decide)) (fun H11 s11 => s11 _ _ hai) (fun _ _ _ _ y => YAt.same y) ?_ ?_
        · rintro i y H11 H12 u Qz hi s11 ⟨rfl, hy⟩ hr hq2
          simp only [List.getElem?_map, Option.map_eq_some_iff] at hy hr
          obtain ⟨n, hn, rfl⟩ := hy
          obtain ⟨m, ⟨n2, hn2, rfl⟩, rfl⟩ := hr
          rw [hn] at hn2
          obtain rfl := Option.some.inj hn2
          walk_at "rd"
          exact hq2 _ (Same.refl _)
        · intro D H11 hD s11 hD11
          refine ⟨D, rfl, .inl ⟨_, hD11, fun t ht => hQ t _ (s11.trans (Same.new ht)) upd_same⟩⟩
      · intro D H10 hD s10 hLD
        exact ⟨D, rfl, k9.same s10, hLD⟩
    rintro σ10 H10 ⟨mi, rfl, k10, hmi⟩
    refine ⟨Q11 a l g c wd p sh S lt du fa so mi x ss gs cl bs ps L (N + 12) H, ?_, ?_⟩
    · walk_at "rd"
      refine .inl ⟨_, k10.w, fun J W => ?_⟩
      refine lcr_map W ((bs.map fun b => !b).map fun b => V.str (offW b)) (by simp) (by rw [List.length_map]; exact Nat.le_trans hbk (by decide)) (fun H11 s11 => s11 _ _ k10.w) (fun _ _ _ _ y => YAt.same y) ?_ ?_
      · rintro i y H11 H12 u Qz hi s11 ⟨rfl, hy⟩ hr hq2
        simp only [List.getElem?_map, Option.map_eq_some_iff] at hy hr
        obtain ⟨b, hb1, rfl⟩ := hy
        obtain ⟨m, ⟨b2, hb2, rfl⟩, rfl⟩ := hr
        rw [hb1] at hb2
        obtain rfl := Option.some.inj hb2
        walk_at "rd"
        intro g hg
        have q' := hq2 _ (Same.new hg (o := .lst [V.str (Str.ofString "forward"), V.str (Str.ofString "backward")]))
        cases b with
        | true =>
          rw [if_neg (show ¬ offW true = ("forward" : Str) by decide +kernel)]
          exact ⟨_, atI_0, q'⟩
        | false =>
          rw [if_pos (show offW false = ("forward" : Str) from rfl)]
          exact ⟨_, atI_1, q'⟩
      · intro D H11 hD s11 hD11
        exact ⟨D, rfl, k10.same s11, hmi.same s11, hD11⟩
    rintro σ11 H11 ⟨sw, rfl, k11, hmi11, hsw11⟩
    refine ⟨Q12 a l g c wd p sh S lt du fa so mi sw x (cl.length * bs.length : Nat) ss gs cl bs ps L (N + 12) H, ?_, ?_⟩
    · walk_at "rd"
      obtain ⟨cas, hca, hcA⟩ := id k11.c
      refine .inl ⟨_, hca, .inl ⟨_, k11.w, .inl (by rw [List.length_map, hcA.1]; omega), ?_⟩⟩
      rw [List.length_map, hcA.1, List.length_map, ← Int.natCast_mul]
      exact ⟨rfl, k11, hmi11, hsw11⟩
    have hth : cl.length * bs.length ≤ 900 := Nat.mul_le_mul hk hbk
    have hth0 : 0 < cl.length * bs.length := Nat.mul_pos (List.length_pos_iff.mpr hne) (List.length_pos_iff.mpr hb)
    rintro σ12 H12 ⟨rfl, k12, hmi12, hsw12⟩
    refine ⟨Q13 a l g c wd p sh S lt du fa so mi sw x (cl.length * bs.length : Nat) ss gs cl bs ps L (N + 12) H, ?_, ?_⟩
    · walk_at "rd"
      refine ⟨by omega, by omega, fun J W => ?_⟩
      refine lcr_map W ((whoB bs (cl.length * bs.length)).map fun b => V.str (offW b)) (by unfold whoB; rw [List.length_map, List.length_map, List.length_range, Int.toNat_natCast]) (Nat.le_trans (by omega : ((cl.length * bs.length : Nat) : Int).toNat ≤ 900) (by decide)) (fun _ _ => trivial) (fun i x H H' y => by rw [y.1]; exact Same.refl _) ?_ ?_
      · rintro i y H13 H14 u Qz hi s13 ⟨rfl, rfl⟩ hr hq2
        rw [Int.toNat_natCast] at hi
        unfold whoB at hr
        rw [List.getElem?_map, List.getElem?_map, List.getElem?_range hi] at hr
        obtain rfl := Option.some.inj hr
        have hb0 := List.length_pos_iff.mpr hb
        obtain ⟨b, e0, e1, _⟩ := getD_mod hb i false
        walk_at "rd"
        refine .inl ⟨_, s13 _ _ k12.w, by rw [List.length_map]; omega, _, s13 _ _ hsw12, V.str (offW (!b)), ?_, ?_⟩
        · rw [List.length_map, ← Int.natCast_emod]
          refine atI_nat ?_
          rw [List.getElem?_map, List.getElem?_map, e0]
          rfl
        · rw [← e1]
          exact hq2 _ (Same.refl _)
      · intro D H13 hD s13 hD13
        exact ⟨D, rfl, k12.same s13, hmi12.same s13, hD13⟩
    rintro σ13 H13 ⟨wh, rfl, k13, hmi13, hwh13⟩
    refine ⟨Q14 a l g c wd p sh S lt du fa so mi sw wh x (cl.length * bs.length : Nat) ss gs cl bs ps L (N + 12) H, ?_, ?_⟩
    · walk_at "rd"
      refine ⟨l, g, p, mi, wh, ss, ps, gs, _, _, rfl, k13.l, z, k13.g, hgs, k13.p, hS, hmi13, by simpa using hne, by rw [List.length_map]; omega, fun y hy => ?_, hwh13, fun e => ?_, ?_, fun H14 D T s14 hD hT => ?_⟩
      · obtain ⟨q, hq, rfl⟩ := List.mem_map.mp hy
        rw [List.length_map]
        exact hlen q hq
      · have := congrArg List.length e
        unfold whoB at this
        rw [List.length_map, List.length_range] at this
        simp only [List.length_nil] at this
        omega
      · unfold whoB
        rw [List.length_map, List.length_range]
        omega
      obtain ⟨e1, e2⟩ := cou_map (ss := ss) (ss' := ss) (gs := gs) (gs' := gs) (cl := cl) (cl' := cl.map fun q => q.map fun x => 0 - x) (bs := bs) (bs' := whoB bs (cl.length * bs.length)) (ps := ps) (fun q => q)
        (cur_map (ss := ss) (ss' := ss) (cl := cl) (cl' := cl.map fun q => q.map fun x => 0 - x) (bs := bs) (bs' := whoB bs (cl.length * bs.length)) (fun q => q) z hS hne hlen fun n q hq => by
          obtain ⟨y, e0, e, hy⟩ := getD_mod hne n []
          have ec : (cl.map fun q => q.map fun x => 0 - x).getD (n % (cl.map fun q => q.map fun x => 0 - x).length) [] = y.map fun x => 0 - x := by
            rw [List.length_map, List.getD_eq_getElem?_getD, List.getElem?_map, e0]
            rfl
          rw [e, ec, whoB_at hth0]
          exact neg_step hq.len (hlen y hy))
        (fun n => Iff.rfl)
      rw [e2, hx] at hD
      rw [e1, hL, List.map_id'] at hT
      intro e he
      have se := Same.new he (o := .tup [V.ref S, V.str x])
      refine neD_cou (se _ _ hD) (hT.same se) upd_same (k13.S.same (s14.trans se)) hxl ⟨_, rfl, ?_⟩
      rw [if_neg (by decide)]
      exact ⟨rfl, k13.same (s14.trans se)⟩
    rintro σ14 H14 ⟨rfl, k14⟩
    refine ⟨Q15 a l g c wd p sh S lt du fa so mi sw wh x (cl.length * bs.length : Nat) ss gs cl bs ps L (N + 16) H, ?_, ?_⟩
    · walk_at "rd"
      refine .inr ⟨_, k14.l, RgOk.of_le (by omega) (by rw [List.length_map]; omega) (by omega) (by rw [List.length_map]; omega), fun q hq => ?_⟩
      have e0 : rgV 0 ((ss.map V.int).length : Nat) = ((List.range ss.length).map fun i : Nat => (i : Int)).map V.int := by
        unfold rgV
        rw [List.length_map, List.map_map]
        have e : ((ss.length : Nat) : Int) - 0 = (ss.length : Nat) := by omega
        rw [e, Int.toNat_natCast]
        refine List.map_congr_left fun i _ => ?_
        show V.int (0 + (i : Int)) = V.int (i : Int)
        rw [Int.zero_add]
      rw [e0]
      have sq := Same.new hq (o := .lst (((List.range ss.length).map fun i : Nat => (i : Int)).map V.int))
      refine ⟨a, q, _, N + 12, rfl, k14.src.same sq, by omega, upd_same, k14.src.ne hq, by simp; omega, fun H15 D os s15 hs15 hD nD hpm => ?_⟩
      exact ⟨D, os, rfl, (k14.same sq).sxx s15 (hs15.mono (by simp; omega)), hD, OrdO.of hpm⟩
    rintro σ15 H15 ⟨od, os, rfl, k15, hod15, hO⟩
    refine ⟨Q16 a l g c wd p sh S lt du fa so mi sw wh od x (cl.length * bs.length : Nat) ss gs cl bs ps L os (N + 16) H, ?_, ?_⟩
    · walk_at "rd"
      intro P hP J W
      have sP := Same.new hP (o := .tup [V.ref g, V.ref c, V.ref S])
      have fP : (upd H15 P (.tup [V.ref g, V.ref c, V.ref S])) P = some (.tup [V.ref g, V.ref c, V.ref S]) := upd_same
      generalize upd H15 P (HO.tup [V.ref g, V.ref c, V.ref S]) = Hb at sP fP ⊢
      have kb := k15.same sP
      have hodb := sP _ _ hod15
      have hol : os.length ≤ 4 := by rw [hO.len]; exact h4
      refine lcr_lstf W (fun j => (([gs, cl, L] : List (List (List Int))).getD j []).map (ordP os)) (by decide) (fun H7 s7 => s7 _ _ fP) (fun _ _ _ _ y => YAt.same y) ?_ ?_
      · rintro i y H7 H8 Qy hi s7 ⟨rfl, hy⟩ hQ
        obtain ⟨t, M, rfl, hM, hf, hMk, hMl⟩ : ∃ t M, y = V.ref t ∧ LstT H8 t M ∧ ([gs, cl, L] : List (List (List Int))).getD i [] = M ∧ M.length ≤ 1000 ∧ ∀ q ∈ M, q.length = ss.length := by
          have hi3 : i < 3 := hi
          have : i = 0 ∨ i = 1 ∨ i = 2 := by omega
          rcases this with rfl | rfl | rfl
          · simp only [List.getElem?_cons_zero, Option.some.injEq] at hy
            exact ⟨g, gs, hy.symm, kb.g.same s7, rfl, by have := hgs.few; omega, fun q hq => (hgs.ok q hq).len⟩
          · simp only [List.getElem?_cons_succ, List.getElem?_cons_zero, Option.some.injEq] at hy
            exact ⟨c, cl, hy.symm, kb.c.same s7, rfl, by omega, hlen⟩
          · simp only [List.getElem?_cons_succ, List.getElem?_cons_zero, Option.some.injEq] at hy
            exact ⟨S, L, hy.symm, kb.S.same s7, rfl, hLl, fun q hq => (sL q hq).len⟩
        rw [hf] at hQ
        obtain ⟨mas, hma, hmA⟩ := id hM
        walk_at "rd"
        refine .inl ⟨_, hma, fun J2 W2 => lcr_mapT hma hmA hMk W2 (ordP os) ?_ fun D H9 hD s9 hLD => hQ D H9 s9 hD hLD⟩
        intro ai q H9 Qz hq s9 hai hQ2
        walk_at "rd"
        refine .inl ⟨_, s9 _ _ (s7 _ _ hodb), fun J3 W3 => ?_⟩
        refine lcr_map W3 ((ordP os q).map V.int) (by rw [List.length_map, List.length_map, ordP_len]) (by rw [List.length_map]; exact Nat.le_trans hol (by decide)) (fun H10 s10 => s10 _ _ (s9 _ _ (s7 _ _ hodb))) (fun _ _ _ _ y => YAt.same y) ?_ ?_
        · rintro j y H10 H11 u Qw hj s10 ⟨rfl, hy2⟩ hr hq2
          simp only [List.getElem?_map, Option.map_eq_some_iff] at hy2 hr
          obtain ⟨k, hk2, rfl⟩ := hy2
          obtain ⟨m, hm, rfl⟩ := hr
          obtain ⟨v, hv, ev⟩ := hO.get (hMl q hq) hk2
          rw [ev] at hm
          obtain rfl := Option.some.inj hm
          have hkr := hO.rng k (List.mem_of_getElem? hk2)
          walk_at "rd"
          refine ⟨_, s10 _ _ hai, V.int v, ?_, hq2 _ (Same.refl _)⟩
          obtain ⟨kn, rfl⟩ := Int.eq_ofNat_of_zero_le hkr.1
          refine atI_nat ?_
          rw [List.getElem?_map]
          rw [Int.toNat_natCast] at hv
          rw [hv]
          rfl
        · intro D H10 hD s10 hD10
          exact ⟨D, rfl, .inl ⟨_, hD10, fun t ht => hQ2 t _ (s10.trans (Same.new ht)) upd_same⟩⟩
      · intro D ds H7 hD s7 hD7 hds hf
        obtain ⟨d0, d1, d2, rfl⟩ : ∃ d0 d1 d2, ds = [d0, d1, d2] := by
          match ds, hds with
          | [d0, d1, d2], _ => exact ⟨d0, d1, d2, rfl⟩
        exact ⟨D, d0, d1, d2, rfl, kb.same s7, s7 _ _ hodb, hD7, hf 0 d0 rfl, hf 1 d1 rfl, hf 2 d2 rfl⟩
    rintro σ16 H16 ⟨mx, d0, d1, d2, rfl, k16, hod16, hmx16, h0, h1, h2⟩
    refine ⟨Q17 a l g c wd p sh S lt du fa so mi sw wh od mx x (cl.length * bs.length : Nat) ss gs cl bs ps L os (N + 16) H, ?_, ?_⟩
    · walk_at "rd"
      have hol : os.length ≤ 4 := by rw [hO.len]; exact h4
      refine .inl ⟨_, hod16, fun J W => ?_⟩
      refine lcr_map W ((ordP os ss).map V.int) (by rw [List.length_map, List.length_map, ordP_len]) (by rw [List.length_map]; exact Nat.le_trans hol (by decide)) (fun H10 s10 => s10 _ _ hod16) (fun _ _ _ _ y => YAt.same y) ?_ ?_
      · rintro j y H10 H11 u Qw hj s10 ⟨rfl, hy2⟩ hr hq2
        simp only [List.getElem?_map, Option.map_eq_some_iff] at hy2 hr
        obtain ⟨k, hk2, rfl⟩ := hy2
        obtain ⟨m, hm, rfl⟩ := hr
        obtain ⟨v, hv, ev⟩ := hO.get (xs := ss) rfl hk2
        rw [ev] at hm
        obtain rfl := Option.some.inj hm
        have hkr := hO.rng k (List.mem_of_getElem? hk2)
        walk_at "rd"
        refine ⟨_, s10 _ _ k16.l, V.int v, ?_, hq2 _ (Same.refl _)⟩
        obtain ⟨kn, rfl⟩ := Int.eq_ofNat_of_zero_le hkr.1
        refine atI_nat ?_
        rw [List.getElem?_map]
        rw [Int.toNat_natCast] at hv
        rw [hv]
        rfl
      · intro D H10 hD s10 hD10
        refine ⟨D, rfl, .inl ⟨_, hD10, fun t ht => ?_⟩⟩
        have st := s10.trans (Same.new ht (o := .tup ((ordP os ss).map V.int)))
        exact ⟨t, d0, d1, d2, rfl, k16.same st, upd_same, st _ _ hmx16, h0.same st, h1.same st, h2.same st⟩
    rintro σ17 H17 ⟨tu, d0, d1, d2, rfl, k17, htu17, hmx17, h0, h1, h2⟩
    walk_at "rd"
    have injO : ∀ q r, Seat ss q → Seat ss r → ordP os q = ordP os r → q = r := fun q r hq hr e => ord_inj hO hq hr e
    obtain ⟨d, r, hd1, hd2⟩ : ∃ d r, H17 d2 = some (.lst (V.ref d :: r)) ∧ H17 d = some (.tup ((ordP os ps).map V.int)) := by
      have h2' := h2
      rw [eL] at h2'
      exact LstT_hd h2'
    refine ⟨_, hmx17, _, atI_0, _, hmx17, _, atI_2, d2, rfl, _, hd1, _, atI_0, _, hmx17, _, atI_1, tu, d0, d, d1, wd, _, _, _, _, bs, rfl, htu17, ord_sz hO z, h0, tgts_map hgs _ injO (fun q hq => ord_seat hO hq), hd2, ord_seat hO hS, h1, by simpa using hne, by rw [List.length_map]; omega, fun y hy => ?_, k17.w, hb, by omega, fun H18 D T s18 hD hT => ?_⟩
    · obtain ⟨q, hq, rfl⟩ := List.mem_map.mp hy
      rw [ordP_len, ordP_len]
    obtain ⟨e1, e2⟩ := cou_map (ss := ss) (ss' := ordP os ss) (gs := gs) (gs' := gs.map (ordP os)) (cl := cl) (cl' := cl.map (ordP os)) (bs := bs) (bs' := bs) (ps := ps) (ordP os)
      (cur_map (ss := ss) (ss' := ordP os ss) (cl := cl) (cl' := cl.map (ordP os)) (bs := bs) (bs' := bs) (ordP os) z hS hne hlen fun n q hq => by
        obtain ⟨y, e0, e, hy⟩ := getD_mod hne n []
        have ec : (cl.map (ordP os)).getD (n % (cl.map (ordP os)).length) [] = ordP os y := by
          rw [List.length_map, List.getD_eq_getElem?_getD, List.getElem?_map, e0]
          rfl
        rw [e, ec]
        exact ord_step hO hq.len (hlen y hy))
      (fun n => mem_inj _ hgs.ok injO (curU_seat z hS hne hlen n))
    rw [e2, hx] at hD
    rw [e1, hL] at hT
    refine ⟨_, s18 _ _ hmx17, _, atI_2, fun e he => ?_⟩
    have se := Same.new he (o := .tup [V.ref d2, V.str x])
    refine eqD_cou (se _ _ hD) (hT.same se) upd_same (h2.same (s18.trans se)) hxl ?_
    have k18 := k17.same (s18.trans se)
    exact q _ k18.sx (k18.src.mono (by omega))
end

section
variable {P : Program} {w : World} {K : PySem.W.Frag} {mg : Str → Option Value} {base : Heap}
theorem res_ne {m h t : Int} (h0 : 0 ≤ h) (h1 : h < m) (t0 : 0 ≤ t) (t1 : t < m - 1) : h ≠ (h + 1 + t) % m := fun e => by
  have e1 : h % m = (h + 1 + t) % m := by rw [Int.emod_eq_of_lt h0 h1]; exact e
  have e2 := emod_eq_iff.mp e1.symm
  have e3 : h + 1 + t - h = 1 + t := by omega
  rw [e3] at e2
  have := Int.le_of_dvd (by omega) e2
  omega
theorem res_iff {x m r : Int} (r0 : 0 ≤ r) (r1 : r < m) : x % m = r ↔ m ∣ x - r := by
  rw [← emod_eq_iff, Int.emod_eq_of_lt r0 r1]
theorem res_two {x y m r s : Int} (r0 : 0 ≤ r) (r1 : r < m) (s0 : 0 ≤ s) (s1 : s < m) (h : m ∣ (y - s) - (x - r)) : y % m = s ↔ x % m = r := by
  rw [res_iff r0 r1, res_iff s0 s1]
  exact ⟨fun a => by have := Int.dvd_sub a h; rwa [Int.sub_sub_self] at this, fun a => by have := Int.dvd_add h a; rwa [Int.sub_add_cancel] at this⟩
theorem res_neg {x y m r s : Int} (r0 : 0 ≤ r) (r1 : r < m) (s0 : 0 ≤ s) (s1 : s < m) (h : m ∣ (y - s) + (x - r)) : y % m = s ↔ x % m = r := by
  rw [res_iff r0 r1, res_iff s0 s1]
  exact ⟨fun a => by have := Int.dvd_sub h a; rwa [show y - s + (x - r) - (y - s) = x - r by omega] at this, fun a => by have := Int.dvd_sub h a; rwa [Int.add_sub_cancel] at this⟩
theorem dot_zero : ∀ (ws : List Int) (n : Nat), dot ws (List.replicate n 0) = 0
  | [], _ => by simp [dot]
  | _ :: _, 0 => by simp [dot]
  | x :: ws, n + 1 => by
    show x * 0 + dot ws (List.replicate n 0) = 0
    rw [dot_zero ws n, Int.mul_zero, Int.add_zero]
theorem dot_neg : ∀ (ws cs : List Int), dot ws (cs.map fun x => 0 - x) = - dot ws cs
  | [], _ => by simp [dot]
  | _ :: _, [] => by simp [dot]
  | x :: ws, c :: cs => by
    show x * (0 - c) + dot ws (cs.map fun x => 0 - x) = -(x * c + dot ws cs)
    rw [dot_neg ws cs, Int.zero_sub, Int.mul_neg, Int.neg_add]
def W00 (a : Addr) (N : Nat) (H : Hp) (σ : L2.St) (H' : Hp) : Prop := ∃ (l u : Addr) (m : Int) (ss ws : List Int), σ = [some (V.ref a), some (V.ref l), some (V.int m), some (V.ref u), none, none, none, none, none, none, none, none, none, none, none, none, none, none] ∧ FR m ss ws ∧ KR a l u ss ws N H H'
def W0 (C a l u t : Addr) (m : Int) (ss ws : List Int) (N : Nat) (H : Hp) (σ : L2.St) (H' : Hp) : Prop := ∃ (v5 v6 v7 v8 v9 v10 v11 v12 v13 v14 : Option V), σ = [some (V.ref a), some (V.ref l), some (V.int m), some (V.ref u), some (V.ref t), v5, v6, v7, v8, v9, v10, v11, v12, v13, v14, none, none, none] ∧ KR a l u ss ws N H H' ∧ TabAt C H' t ss
def W01 (C a l u : Addr) (m : Int) (ss ws : List Int) (N : Nat) (H : Hp) (σ : L2.St) (H' : Hp) : Prop := ∃ t, W0 C a l u t m ss ws N H σ H'
def W1 (C a l u t : Addr) (m : Int) (ss ws : List Int) (N : Nat) (H : Hp) (σ : L2.St) (H' : Hp) : Prop := ∃ (p sh : Addr) (ps shs : List Int) (v5 v8 v9 v10 v11 v12 v13 v14 : Option V), σ = [some (V.ref a), some (V.ref l), some (V.int m), some (V.ref u), some (V.ref t), v5, some (V.ref p), some (V.ref sh), v8, v9, v10, v11, v12, v13, v14, none, none, none] ∧ KR a l u ss ws N H H' ∧ TabAt C H' t ss ∧ H' p = some (.tup (ps.map V.int)) ∧ Seat ss ps ∧ H' sh = some (.tup (shs.map V.int)) ∧ Seat ss shs
def W2 (C a l u t : Addr) (m : Int) (ss ws : List Int) (p sh : Addr) (ps shs : List Int) (N : Nat) (H : Hp) (σ : L2.St) (H' : Hp) : Prop := ∃ (c : Addr) (cs : List Int) (v5 v9 v10 v11 v12 v13 v14 : Option V), σ = [some (V.ref a), some (V.ref l), some (V.int m), some (V.ref u), some (V.ref t), v5, some (V.ref p), some (V.ref sh), some (V.ref c), v9, v10, v11, v12, v13, v14, none, none, none] ∧ KR a l u ss ws N H H' ∧ TabAt C H' t ss ∧ H' p = some (.tup (ps.map V.int)) ∧ H' sh = some (.tup (shs.map V.int)) ∧ H' c = some (.tup (cs.map V.int)) ∧ CallW 1102 ss.length cs
def W3 (C a l u t : Addr) (m : Int) (ss ws : List Int) (p sh c : Addr) (ps shs cs : List Int) (N : Nat) (H : Hp) (σ : L2.St) (H' : Hp) : Prop := ∃ (r : Int) (v5 v10 v11 v12 v13 v14 : Option V), σ = [some (V.ref a), some (V.ref l), some (V.int m), some (V.ref u), some (V.ref t), v5, some (V.ref p), some (V.ref sh), some (V.ref c), some (V.int r), v10, v11, v12, v13, v14, none, none, none] ∧ KR a l u ss ws N H H' ∧ TabAt C H' t ss ∧ H' p = some (.tup (ps.map V.int)) ∧ H' sh = some (.tup (shs.map V.int)) ∧ H' c = some (.tup (cs.map V.int)) ∧ 0 ≤ r ∧ r < m ∧ dot ws ps % m ≠ r
def W4 (C a l u t : Addr) (m : Int) (ss ws : List Int) (p sh c : Addr) (r : Int) (b : Bool) (ps shs cs : List Int) (N : Nat) (H : Hp) (σ : L2.St) (H' : Hp) : Prop := ∃ (v5 v11 v12 v13 v14 : Option V), σ = [some (V.ref a), some (V.ref l), some (V.int m), some (V.ref u), some (V.ref t), v5, some (V.ref p), some (V.ref sh), some (V.ref c), some (V.int r), some (V.str (offW b)), v11, v12, v13, v14, none, none, none] ∧ KR a l u ss ws N H H' ∧ TabAt C H' t ss ∧ H' p = some (.tup (ps.map V.int)) ∧ H' sh = some (.tup (shs.map V.int)) ∧ H' c = some (.tup (cs.map V.int))
def W5 (C a l u t : Addr) (m : Int) (ss ws : List Int) (p sh c : Addr) (r : Int) (b : Bool) (ps shs cs : List Int) (N : Nat) (H : Hp) (σ : L2.St) (H' : Hp) : Prop := ∃ (q : Addr) (v5 v12 v13 v14 : Option V), σ = [some (V.ref a), some (V.ref l), some (V.int m), some (V.ref u), some (V.ref t), v5, some (V.ref p), some (V.ref sh), some (V.ref c), some (V.int r), some (V.str (offW b)), some (V.ref q), v12, v13, v14, none, none, none] ∧ KR a l u ss ws N H H' ∧ TabAt C H' t ss ∧ H' p = some (.tup (ps.map V.int)) ∧ H' sh = some (.tup (shs.map V.int)) ∧ H' c = some (.tup (cs.map V.int)) ∧ H' q = some (.tup ((mvW false ps shs ss).map V.int))
def W6 (C a l u t : Addr) (m : Int) (ss ws : List Int) (p sh c q : Addr) (r o : Int) (b : Bool) (ps shs cs : List Int) (N : Nat) (H : Hp) (σ : L2.St) (H' : Hp) : Prop := ∃ (v5 v13 v14 : Option V), σ = [some (V.ref a), some (V.ref l), some (V.int m), some (V.ref u), some (V.ref t), v5, some (V.ref p), some (V.ref sh), some (V.ref c), some (V.int r), some (V.str (offW b)), some (V.ref q), some (V.int o), v13, v14, none, none, none] ∧ KR a l u ss ws N H H' ∧ TabAt C H' t ss ∧ H' p = some (.tup (ps.map V.int)) ∧ H' c = some (.tup (cs.map V.int)) ∧ H' q = some (.tup ((mvW false ps shs ss).map V.int))
def W7 (C a l u t : Addr) (m : Int) (ss ws : List Int) (p sh c q : Addr) (r o : Int) (b : Bool) (ps cs : List Int) (N : Nat) (H : Hp) (σ : L2.St) (H' : Hp) : Prop := ∃ (v5 v13 v14 : Option V), σ = [some (V.ref a), some (V.ref l), some (V.int m), some (V.ref u), some (V.ref t), v5, some (V.ref p), some (V.ref sh), some (V.ref c), some (V.int r), some (V.str (offW b)), some (V.ref q), some (V.int o), v13, v14, none, none, none] ∧ KR a l u ss ws N H H' ∧ TabAt C H' t ss ∧ H' p = some (.tup (ps.map V.int)) ∧ H' c = some (.tup (cs.map V.int))
def W8 (C a l u t : Addr) (m : Int) (ss ws : List Int) (p sh c q : Addr) (r o : Int) (b : Bool) (ps cs : List Int) (N : Nat) (H : Hp) (σ : L2.St) (H' : Hp) : Prop := ∃ (mi : Addr) (v5 v14 : Option V), σ = [some (V.ref a), some (V.ref l), some (V.int m), some (V.ref u), some (V.ref t), v5, some (V.ref p), some (V.ref sh), some (V.ref c), some (V.int r), some (V.str (offW b)), some (V.ref q), some (V.int o), some (V.ref mi), v14, none, none, none] ∧ KR a l u ss ws N H H' ∧ TabAt C H' t ss ∧ H' c = some (.tup (cs.map V.int)) ∧ H' mi = some (.tup ((mvW true (List.replicate ss.length 0) ps ss).map V.int))
def W9 (C a l u t : Addr) (m : Int) (ss ws : List Int) (p sh c q mi : Addr) (r o : Int) (b : Bool) (ps cs : List Int) (N : Nat) (H : Hp) (σ : L2.St) (H' : Hp) : Prop := ∃ (bk : Addr) (v5 : Option V), σ = [some (V.ref a), some (V.ref l), some (V.int m), some (V.ref u), some (V.ref t), v5, some (V.ref p), some (V.ref sh), some (V.ref c), some (V.int r), some (V.str (offW b)), some (V.ref q), some (V.int o), some (V.ref mi), some (V.ref bk), none, none, none] ∧ KR a l u ss ws N H H' ∧ TabAt C H' t ss ∧ H' mi = some (.tup ((mvW true (List.replicate ss.length 0) ps ss).map V.int)) ∧ H' bk = some (.tup ((cs.map fun x => 0 - x).map V.int))
def sp_law_witness_right (K : PySem.W.Frag) : Sp := fun vs H Q _ => ∃ (a : Addr) (N : Nat), vs = [.ref a] ∧ SrcN H a N ∧ N < 700000 ∧ ∀ H', Sx a H H' → Q (.bl true) H'
theorem ok_law_witness_right (T : Tx K mg) : FnOk P w K mg base CX0 6 T.f_law_witness_right T.fd_law_witness_right ["_law_source_here"] (sp_law_witness_right K) := by
  refine T.F_law_witness_right.ok sc_law_witness_right (fun vs H Q E h => ?_) (fun cdv A outer s H vs Q E hr h => ?_)
  · obtain ⟨a, N, rfl, _⟩ := h; rfl
  · obtain ⟨a, N, rfl, hs, hN, q⟩ := h
    refine ⟨_, (C8.pss_cut (ps_asg (pe_call (ok_law_planted T) (hr.mono (by decide)) (by rfl) T.g_law_planted T.F_law_planted.kp T.b_law_planted .nil pass0 (pa_cons (pv 0) (pa_cons (pe_call (ok_law_pick T) (hr.mono (by decide)) (by rfl) T.g_law_pick T.F_law_pick.kp T.b_law_pick .nil pass0 (pa_cons (pv 0) (pa_cons (pe_lst (pa_cons pe_int (pa_cons (pe_op op_pow pe_int pe_int) pa_nil))) pa_nil))) pa_nil))) (pg_tupH (n := 3) rfl (pgs_cons (pg_name (i := 1) sc_law_witness_right.nd rfl (Or.inl rfl)) (pgs_cons (pg_name (i := 2) sc_law_witness_right.nd rfl (Or.inl rfl)) (pgs_cons (pg_name (i := 3) sc_law_witness_right.nd rfl (Or.inl rfl)) pgs_nil)))))
      (C8.pss_cut (ps_set (i := 4) sc_law_witness_right.nd rfl (Or.inl rfl) (pe_make T.M_Table (ok_Table_init T) (hr.mono (by decide)) (by rfl) T.g_Table T.b_Table_init .nil pass0 (pa_cons (pv 1) pa_nil)))
      (C8.pss_cut (ps_for PassesOwn.never rfl (pi_range1H (by rfl) T.n_range (pa_cons pe_int pa_nil)) (pg_name (i := 5) sc_law_witness_right.nd rfl (Or.inl rfl))
        (C8.pss_cut (ps_par (i := 6) (j := 7) (by rfl) sc_law_witness_right.nd rfl rfl (by decide) rfl rfl (pa_cons (pe_call (ok_law_drawn_seat T) (hr.mono (by decide)) (by rfl) T.g_law_drawn_seat T.F_law_drawn_seat.kp T.b_law_drawn_seat .nil pass0 (pa_cons (pv 0) (pa_cons (pv 1) pa_nil))) (pa_cons (pe_call (ok_law_drawn_seat T) (hr.mono (by decide)) (by rfl) T.g_law_drawn_seat T.F_law_drawn_seat.kp T.b_law_drawn_seat .nil pass0 (pa_cons (pv 0) (pa_cons (pv 1) pa_nil))) pa_nil)) (by rfl))
        (C8.pss_cut (ps_set (i := 8) sc_law_witness_right.nd rfl (Or.inl rfl) (pe_call (ok_law_drawn_call T) (hr.mono (by decide)) (by rfl) T.g_law_drawn_call T.F_law_drawn_call.kp T.b_law_drawn_call .nil pass0 (pa_cons (pv 0) (pa_cons (pv 1) pa_nil))))
        (C8.pss_cut (ps_set (i := 9) sc_law_witness_right.nd rfl (Or.inl rfl) (pe_op op_mod (pe_op op_add (pe_op op_add (pe_call (ok_law_sum_of T) (hr.mono (by decide)) (by rfl) T.g_law_sum_of T.F_law_sum_of.kp T.b_law_sum_of .nil pass0 (pa_cons (pv 2) (pa_cons (pv 3) (pa_cons (pv 6) pa_nil)))) pe_int) (pe_call (ok_law_take T) (hr.mono (by decide)) (by rfl) T.g_law_take T.F_law_take.kp T.b_law_take .nil pass0 (pa_cons (pv 0) (pa_cons (pe_op op_sub (pv 2) pe_int) pa_nil)))) (pv 2)))
        (C8.pss_cut (ps_set (i := 10) sc_law_witness_right.nd rfl (Or.inl rfl) (pe_call (ok_avoiding_direction T) (hr.mono (by decide)) (by rfl) T.g_avoiding_direction T.F_avoiding_direction.kp T.b_avoiding_direction .nil pass0 (pa_cons (pv 4) (pa_cons (pe_tup (pa_cons (pv 2) (pa_cons (pv 3) (pa_cons (pv 9) pa_nil)))) (pa_cons (pv 6) (pa_cons (pv 8) pa_nil))))))
        (C8.pss_cut (ps_set (i := 11) sc_law_witness_right.nd rfl (Or.inl rfl) (pe_call (ok_law_moved T) (hr.mono (by decide)) (by rfl) T.g_law_moved T.F_law_moved.kp T.b_law_moved .nil pass0 (pa_cons (pv 1) (pa_cons (pv 6) (pa_cons (pv 7) (pa_cons pe_int pa_nil))))))
        (C8.pss_cut (ps_set (i := 12) sc_law_witness_right.nd rfl (Or.inl rfl) (pe_op op_mod (pe_op op_add (pv 9) (pe_call (ok_law_sum_of T) (hr.mono (by decide)) (by rfl) T.g_law_sum_of T.F_law_sum_of.kp T.b_law_sum_of .nil pass0 (pa_cons (pv 2) (pa_cons (pv 3) (pa_cons (pv 7) pa_nil))))) (pv 2)))
        (C8.pss_cut (ps_if (pt_cmpR op_ne (pe_call (ok_avoiding_direction T) (hr.mono (by decide)) (by rfl) T.g_avoiding_direction T.F_avoiding_direction.kp T.b_avoiding_direction .nil pass0 (pa_cons (pv 4) (pa_cons (pe_tup (pa_cons (pv 2) (pa_cons (pv 3) (pa_cons (pv 12) pa_nil)))) (pa_cons (pv 11) (pa_cons (pv 8) pa_nil))))) (pv 10) (nomark _)) (pss_one (ps_ret pe_bl)) pss_nil)
        (C8.pss_cut (ps_set (i := 13) sc_law_witness_right.nd rfl (Or.inl rfl) (pe_callTy tuple_H (by rfl) T.n_tuple (by decide +kernel) (pa_cons (pe_lc (own := [("_law_place", 15), ("_law_size", 16)]) (g := (gTupH 2 (gCons (gName 15) (gCons (gName 16) gNil)))) (tt := tYes) rfl sc_law_witness_right.nd (pi_z2H (by rfl) T.n_zip (pa_cons (pv 6) (pa_cons (pv 1) pa_nil))) (blkOk_by (own := [("_law_place", 15), ("_law_size", 16)]) (N := N_law_witness_right) (sc := defScope d_law_witness_right) (by decide +kernel)) (fun _ _ _ _ _ => (pg_tupH (n := 2) rfl (pgs_cons (pg_name (i := 15) sc_law_witness_right.nd rfl (Or.inl rfl)) (pgs_cons (pg_name (i := 16) sc_law_witness_right.nd rfl (Or.inl rfl)) pgs_nil)))) (fun _ _ _ _ _ => pts_nil) (fun _ _ _ _ _ => (pe_op op_mod (pe_op op_sub pe_int (pv 15)) (pv 16)))) pa_nil)))
        (C8.pss_cut (ps_set (i := 14) sc_law_witness_right.nd rfl (Or.inl rfl) (pe_callTy tuple_H (by rfl) T.n_tuple (by decide +kernel) (pa_cons (pe_lc (own := [("_law_part", 17)]) (g := (gName 17)) (tt := tYes) rfl sc_law_witness_right.nd (pi_seqH (pv 8)) (blkOk_by (own := [("_law_part", 17)]) (N := N_law_witness_right) (sc := defScope d_law_witness_right) (by decide +kernel)) (fun _ _ _ _ _ => (pg_name (i := 17) sc_law_witness_right.nd rfl (Or.inl rfl))) (fun _ _ _ _ _ => pts_nil) (fun _ _ _ _ _ => (pe_op op_sub pe_int (pv 17)))) pa_nil)))
        (pss_one (ps_if (pt_cmpR op_ne (pe_call (ok_avoiding_direction T) (hr.mono (by decide)) (by rfl) T.g_avoiding_direction T.F_avoiding_direction.kp T.b_avoiding_direction .nil pass0 (pa_cons (pv 4) (pa_cons (pe_tup (pa_cons (pv 2) (pa_cons (pv 3) (pa_cons (pe_op op_mod (pe_op op_sub pe_int (pv 9)) (pv 2)) pa_nil)))) (pa_cons (pv 13) (pa_cons (pv 14) pa_nil))))) (pv 10) (nomark _)) (pss_one (ps_ret pe_bl)) pss_nil))))))))))))
      (pss_one (ps_ret pe_bl))))), ?_⟩
    refine ⟨W00 a (N + 21) H, ?_, ?_⟩
    · walk_at "rd"
      intro g hg
      have sg := Same.new hg (o := .lst [V.int 4, V.int 1000000000])
      refine pickI ⟨a, g, [4, 1000000000], N, rfl, hs.same sg, by omega, upd_same, hs.ne hg, by simp, by simp, fun H1 b s1 hs1 hb => ?_⟩
      refine ⟨a, b, N + 1, rfl, hs1, by omega, ?_, ?_, fun H2 D l u m ss ws s2 hs2 hD hl hu m3 mo mb pl h1 h4 => ?_⟩
      · simp only [List.mem_cons, List.mem_nil_iff, or_false] at hb
        omega
      · simp only [List.mem_cons, List.mem_nil_iff, or_false] at hb
        omega
      exact ⟨D, rfl, _, hD, rfl, _, _, rfl, _, _, rfl, _, _, rfl, rfl, l, u, m, ss, ws, rfl, ⟨m3, mo, mb, pl, h1, h4⟩, ((Sx.of sg).trans s1).trans s2, hs2.mono (by omega), hl, hu⟩
    rintro σ1 H1 ⟨l, u, m, ss, ws, rfl, fr, k1⟩
    have z := fr.sz
    have hm3 := fr.m3
    have hm0 : 0 < m := by omega
    have hw0 : Wit ss m ws 0 := fr.wit (by decide) (by omega)
    have hw64 : ws.length ≤ 64 := by have := fr.hi; have := fr.pl.len; omega
    refine ⟨W01 T.c_Table a l u m ss ws (N + 21) H, ?_, ?_⟩
    · walk_at "rd"
      intro x dx hx hdx hne
      exact tab_made (k := false) hx hdx hne k1.l z fun G s hT => ⟨rfl, x, none, none, none, none, none, none, none, none, none, none, rfl, k1.same s, hT⟩
    rintro σ2 H2 ⟨t, v5, v6, v7, v8, v9, v10, v11, v12, v13, v14, rfl, k2, hT2⟩
    refine ⟨W0 T.c_Table a l u t m ss ws (N + 21 + 20 * 6) H, ?_, ?_⟩
    · walk_at "rd"
      intro J W
      refine forr W (fun i σ H' => W0 T.c_Table a l u t m ss ws (N + 21 + 20 * i) H σ H') ⟨v5, v6, v7, v8, v9, v10, v11, v12, v13, v14, rfl, k2, hT2⟩ (fun _ _ _ _ _ => trivial) ?_ ?_
      · rintro i x σ H5o H5 hi ⟨v5, v6, v7, v8, v9, v10, v11, v12, v13, v14, rfl, k5, hT5⟩ ⟨rfl, rfl⟩
        have wb := fr.mb
        have mulA : ∀ ys : List Int, ∀ (i : Nat) x y, ws[i]? = some x → ys[i]? = some y → CMulA x y := fun ys i x y h1 h2 => by
          have h3 := fr.pl.w x (List.mem_of_getElem? h1)
          exact .inl (by omega)
        refine ⟨W1 T.c_Table a l u t m ss ws (N + 21 + 20 * i + 8) H, ?_, ?_⟩
        · unfold tPar
          walk_at "rd"
          refine ⟨a, l, ss, N + 21 + 20 * i, rfl, k5.src, by omega, k5.l, z, fun H6 p ps s6 hs6 hp hS => ?_⟩
          have k6 := k5.sxx s6 hs6
          exact ⟨a, l, ss, N + 21 + 20 * i + 4, rfl, hs6, by omega, k6.l, z, fun H7 sh shs s7 hs7 hsh hSs => ⟨p, sh, ps, shs, _, _, _, _, _, _, _, _, rfl, k6.sxx s7 (hs7.mono (by omega)), (hT5.sxN k5.src s6).sxN k6.src s7, k6.src.tp s7 _ _ hp, hS, hsh, hSs⟩⟩
        rintro σ6 H6 ⟨p, sh, ps, shs, v5, v8, v9, v10, v11, v12, v13, v14, rfl, k6, hT6, hp6, hS, hsh6, hSs⟩
        refine ⟨W2 T.c_Table a l u t m ss ws p sh ps shs (N + 21 + 20 * i + 16) H, ?_, ?_⟩
        · walk_at "rd"
          exact ⟨a, l, ss, N + 21 + 20 * i + 8, rfl, k6.src, by omega, k6.l, z, fun H7 c cs s7 hs7 hc hcw => ⟨c, cs, _, _, _, _, _, _, _, rfl, k6.sxx s7 (hs7.mono (by omega)), hT6.sxN k6.src s7, k6.src.tp s7 _ _ hp6, k6.src.tp s7 _ _ hsh6, hc, hcw⟩⟩
        rintro σ7 H7 ⟨c, cs, v5, v9, v10, v11, v12, v13, v14, rfl, k7, hT7, hp7, hsh7, hc7, hcw⟩
        have d0 := Int.emod_nonneg (dot ws ps) (by omega : m ≠ 0)
        have d1 := Int.emod_lt_of_pos (dot ws ps) hm0
        refine ⟨W3 T.c_Table a l u t m ss ws p sh c ps shs cs (N + 21 + 20 * i + 17) H, ?_, ?_⟩
        · walk_at "rd"
          refine ⟨u, p, m, ws, ps, rfl, k7.u, hp7, by rw [fr.pl.len, hS.len], hw64, hm0, mulA ps, fun H8 s8 => ?_⟩
          have k8 := k7.same s8
          refine ⟨_, rfl, a, m - 1, N + 21 + 20 * i + 16, rfl, k8.src, by omega, take_small (by omega) (by omega), by omega, fun H9 y s9 hs9 y0 y1 => ⟨y, rfl, hm0, ?_⟩⟩
          exact ⟨_, _, _, _, _, _, _, rfl, k8.sxx s9 (hs9.mono (by omega)), (hT7.same s8).sxN k8.src s9, k8.src.tp s9 _ _ (s8 _ _ hp7), k8.src.tp s9 _ _ (s8 _ _ hsh7), k8.src.tp s9 _ _ (s8 _ _ hc7), Int.emod_nonneg _ (by omega), Int.emod_lt_of_pos _ hm0, res_ne d0 d1 y0 y1⟩
        rintro σ8 H8 ⟨r, v5, v10, v11, v12, v13, v14, rfl, k8, hT8, hp8, hsh8, hc8, r0, r1, hoff⟩
        have hw := fr.wit r0 r1
        generalize hb : decide ((dot ws ps + dot ws cs) % m = r) = b
        refine ⟨W4 T.c_Table a l u t m ss ws p sh c r b ps shs cs (N + 21 + 20 * i + 17) H, ?_, ?_⟩
        · walk_at "rd"
          intro e he
          have se := Same.new he (o := .tup [V.int m, V.ref u, V.int r])
          refine ⟨t, e, p, c, ss, ps, cs, ws, m, r, rfl, hT8.same se, z, ⟨u, upd_same, se _ _ k8.u⟩, hw, fr.mm, se _ _ hp8, hS, se _ _ hc8, hcw.1, mulA cs, hoff, fun H9 s9 => ?_⟩
          rw [hb]
          have s := se.trans s9
          exact ⟨_, _, _, _, _, rfl, k8.same s, hT8.same s, s _ _ hp8, s _ _ hsh8, s _ _ hc8⟩
        rintro σ9 H9 ⟨v5, v11, v12, v13, v14, rfl, k9, hT9, hp9, hsh9, hc9⟩
        refine ⟨W5 T.c_Table a l u t m ss ws p sh c r b ps shs cs (N + 21 + 20 * i + 17) H, ?_, ?_⟩
        · walk_at "rd"
          exact ⟨l, p, sh, false, ss, ps, shs, rfl, k9.l, hp9, hsh9, hS.len, hSs.len, z, fun H10 f s10 hf => ⟨f, _, _, _, _, rfl, k9.same s10, hT9.same s10, s10 _ _ hp9, s10 _ _ hsh9, s10 _ _ hc9, hf⟩⟩
        rintro σ10 H10 ⟨f, v5, v12, v13, v14, rfl, k10, hT10, hp10, hsh10, hc10, hf10⟩
        refine ⟨W6 T.c_Table a l u t m ss ws p sh c f r ((r + dot ws shs % m) % m) b ps shs cs (N + 21 + 20 * i + 17) H, ?_, ?_⟩
        · walk_at "rd"
          exact ⟨u, sh, m, ws, shs, rfl, k10.u, hsh10, by rw [fr.pl.len, hSs.len], hw64, hm0, mulA shs, fun H11 s11 => ⟨_, rfl, hm0, _, _, _, rfl, k10.same s11, hT10.same s11, s11 _ _ hp10, s11 _ _ hc10, s11 _ _ hf10⟩⟩
        rintro σ11 H11 ⟨v5, v13, v14, rfl, k11, hT11, hp11, hc11, hf11⟩
        have hSf : Seat ss (mvW false ps shs ss) := mvW_seat hS.len hSs.len z.pos
        have o0 : 0 ≤ (r + dot ws shs % m) % m := Int.emod_nonneg _ (by omega)
        have o1 : (r + dot ws shs % m) % m < m := Int.emod_lt_of_pos _ hm0
        have eF : m ∣ dot ws (mvW false ps shs ss) - (dot ws ps + dot ws shs) := emod_eq_iff.mp (off_eq hw hS.len hSs.len)
        have eO : m ∣ (r + dot ws shs % m) % m - (r + dot ws shs) := emod_eq_iff.mp (by rw [Int.emod_emod_of_dvd _ (Int.dvd_refl _), Int.add_emod_emod])
        generalize ho : (r + dot ws shs % m) % m = o at *
        have t1 : dot ws (mvW false ps shs ss) % m = o ↔ dot ws ps % m = r := res_two r0 r1 o0 o1 (by
          have := Int.dvd_sub eF eO
          rwa [show dot ws (mvW false ps shs ss) - (dot ws ps + dot ws shs) - (o - (r + dot ws shs)) = dot ws (mvW false ps shs ss) - o - (dot ws ps - r) by omega] at this)
        have t2 : (dot ws (mvW false ps shs ss) + dot ws cs) % m = o ↔ (dot ws ps + dot ws cs) % m = r := res_two r0 r1 o0 o1 (by
          have := Int.dvd_sub eF eO
          rwa [show dot ws (mvW false ps shs ss) - (dot ws ps + dot ws shs) - (o - (r + dot ws shs)) = dot ws (mvW false ps shs ss) + dot ws cs - o - (dot ws ps + dot ws cs - r) by omega] at this)
        refine ⟨W7 T.c_Table a l u t m ss ws p sh c f r o b ps cs (N + 21 + 20 * i + 17) H, ?_, ?_⟩
        · walk_at "rd"
          intro e he
          have se := Same.new he (o := .tup [V.int m, V.ref u, V.int o])
          refine ⟨t, e, f, c, ss, _, cs, ws, m, o, rfl, hT11.same se, z, ⟨u, upd_same, se _ _ k11.u⟩, fr.wit o0 o1, fr.mm, se _ _ hf11, hSf, se _ _ hc11, hcw.1, mulA cs, fun e => hoff (t1.mp e), fun H12 s12 => ?_⟩
          rw [decide_eq_decide.mpr t2, hb]
          refine ⟨rfl, ?_⟩
          rw [if_neg (fun h => h rfl)]
          have s := se.trans s12
          exact ⟨_, _, _, rfl, k11.same s, hT11.same s, s _ _ hp11, s _ _ hc11⟩
        rintro σ12 H12 ⟨v5, v13, v14, rfl, k12, hT12, hp12, hc12⟩
        have hrl : (List.replicate ss.length (0 : Int)).length = ss.length := by simp
        refine ⟨W8 T.c_Table a l u t m ss ws p sh c f r o b ps cs (N + 21 + 20 * i + 17) H, ?_, ?_⟩
        · walk_at "rd"
          refine ⟨false, false, ps.map V.int, hp12, ss.map V.int, k12.l, by rw [List.length_map, List.length_map, hS.len], fun J W => ?_⟩
          refine lcr_map W ((mvW true (List.replicate ss.length 0) ps ss).map V.int) (by rw [List.length_map, List.length_map, mvW_len hrl hS.len, hS.len]) (by rw [List.length_map, hS.len]; exact Nat.le_trans z.hi (by decide)) (fun H13 s13 => ⟨s13 _ _ hp12, s13 _ _ k12.l⟩) (fun _ _ _ _ y => YPair.same y) ?_ ?_
          · intro j y H13 H14 v Qy hj s13 hy hr hq
            obtain ⟨T0, x1, y1, rfl, hT0, rfl, h1, h2⟩ := hy
            simp only [List.getElem?_map, Option.map_eq_some_iff] at h1 h2 hr
            obtain ⟨x2, hx2, rfl⟩ := h1
            obtain ⟨y2, hy2, rfl⟩ := h2
            obtain ⟨e, he, rfl⟩ := hr
            have hz : (List.replicate ss.length (0 : Int))[j]? = some 0 := by rw [List.getElem?_replicate, if_pos (List.getElem?_eq_some_iff.mp hy2).1]
            rw [mvW_get hz hx2 hy2] at he
            obtain rfl := Option.some.inj he
            have := z.pos y2 (List.mem_of_getElem? hy2)
            walk_at "rd"
            refine ⟨by omega, ?_⟩
            have e : (0 - x2) % y2 = (0 + sgn true * x2) % y2 := by congr 1; show 0 - x2 = 0 + -1 * x2; omega
            rw [e]
            exact hq _ (Same.refl _)
          · intro D H13 hD s13 hD13
            refine ⟨D, rfl, .inl ⟨_, hD13, fun g hg => ?_⟩⟩
            have s := s13.trans (Same.new hg (o := .tup ((mvW true (List.replicate ss.length 0) ps ss).map V.int)))
            exact ⟨g, _, _, rfl, k12.same s, hT12.same s, s _ _ hc12, upd_same⟩
        rintro σ13 H13 ⟨mi, v5, v14, rfl, k13, hT13, hc13, hmi13⟩
        refine ⟨W9 T.c_Table a l u t m ss ws p sh c f mi r o b ps cs (N + 21 + 20 * i + 17) H, ?_, ?_⟩
        · walk_at "rd"
          refine .inr ⟨_, hc13, fun J2 W2 => ?_⟩
          refine lcr_map W2 ((cs.map fun x => 0 - x).map V.int) (by simp) (by rw [List.length_map, hcw.1]; exact Nat.le_trans z.hi (by decide)) (fun H14 s14 => s14 _ _ hc13) (fun _ _ _ _ y => YAt.same y) ?_ ?_
          · rintro j y H14 H15 v Qz hj s14 ⟨rfl, hy⟩ hr hq2
            simp only [List.getElem?_map, Option.map_eq_some_iff] at hy hr
            obtain ⟨n, hn, rfl⟩ := hy
            obtain ⟨k, ⟨n2, hn2, rfl⟩, rfl⟩ := hr
            rw [hn] at hn2
            obtain rfl := Option.some.inj hn2
            walk_at "rd"
            exact hq2 _ (Same.refl _)
          · intro D H14 hD s14 hD14
            refine ⟨D, rfl, .inl ⟨_, hD14, fun g hg => ?_⟩⟩
            have s := s14.trans (Same.new hg (o := .tup ((cs.map fun x => 0 - x).map V.int)))
            exact ⟨g, _, rfl, k13.same s, hT13.same s, s _ _ hmi13, upd_same⟩
        rintro σ14 H14 ⟨bk, v5, rfl, k14, hT14, hmi14, hbk14⟩
        have hSm : Seat ss (mvW true (List.replicate ss.length 0) ps ss) := mvW_seat hrl hS.len z.pos
        have eM : m ∣ dot ws (mvW true (List.replicate ss.length 0) ps ss) + dot ws ps := by
          have := dot_bw ws (List.replicate ss.length 0) ps ss hw.len hrl hS.len hw.fit
          rw [dot_zero, Int.zero_sub, Int.sub_neg] at this
          exact this
        have n0 : 0 ≤ (0 - r) % m := Int.emod_nonneg _ (by omega)
        have n1 : (0 - r) % m < m := Int.emod_lt_of_pos _ hm0
        have eN : m ∣ (0 - r) % m - (0 - r) := emod_eq_iff.mp (by rw [Int.emod_emod_of_dvd _ (Int.dvd_refl _)])
        have hdn := dot_neg ws cs
        walk_at "rd"
        refine ⟨hm0, fun e he => ?_⟩
        have se := Same.new he (o := .tup [V.int m, V.ref u, V.int ((0 - r) % m)])
        generalize (0 - r) % m = rr at *
        have t3 : dot ws (mvW true (List.replicate ss.length 0) ps ss) % m = rr ↔ dot ws ps % m = r := res_neg r0 r1 n0 n1 (by
          have := Int.dvd_sub eM eN
          rwa [show dot ws (mvW true (List.replicate ss.length 0) ps ss) + dot ws ps - (rr - (0 - r)) = dot ws (mvW true (List.replicate ss.length 0) ps ss) - rr + (dot ws ps - r) by omega] at this)
        have t4 : (dot ws (mvW true (List.replicate ss.length 0) ps ss) + dot ws (cs.map fun x => 0 - x)) % m = rr ↔ (dot ws ps + dot ws cs) % m = r := res_neg r0 r1 n0 n1 (by
          have := Int.dvd_sub eM eN
          rw [hdn]
          rwa [show dot ws (mvW true (List.replicate ss.length 0) ps ss) + dot ws ps - (rr - (0 - r)) = dot ws (mvW true (List.replicate ss.length 0) ps ss) + -dot ws cs - rr + (dot ws ps + dot ws cs - r) by omega] at this)
        refine ⟨t, e, mi, bk, ss, _, _, ws, m, rr, rfl, hT14.same se, z, ⟨u, upd_same, se _ _ k14.u⟩, fr.wit n0 n1, fr.mm, se _ _ hmi14, hSm, se _ _ hbk14, by rw [List.length_map]; exact hcw.1, mulA _, fun e => hoff (t3.mp e), fun H15 s15 => ?_⟩
        rw [decide_eq_decide.mpr t4, hb]
        refine ⟨rfl, ?_⟩
        rw [if_neg (fun h => h rfl)]
        have s := se.trans s15
        exact ⟨_, _, _, _, _, _, _, _, _, _, rfl, ⟨(k14.same s).sx, (k14.same s).src.mono (by omega), (k14.same s).l, (k14.same s).u⟩, hT14.same s⟩
      · rintro σ H5 h
        exact h
    rintro σ3 H3 ⟨v5, v6, v7, v8, v9, v10, v11, v12, v13, v14, rfl, k3, hT3⟩
    walk_at "rd"
    exact q _ k3.sx
end

section
variable {P : Program} {w : World} {K : PySem.W.Frag} {mg : Str → Option Value} {base : Heap}
def sp_law (K : PySem.W.Frag) : Sp := fun vs H Q _ => ∃ (a : Addr) (ns : List Int), vs = [.ref a] ∧ SqL K H a (ns.map V.int) ∧ ns.length ≤ 63 ∧ (∀ z ∈ ns, Builtin.Int.intBits z ≤ 1048576) ∧ ∀ H', Q (.bl true) H'
def MLw (a p2 : Addr) (ks : List V) (σ : L2.St) (H : Hp) : Prop := ∃ v v2 v3 v4 v5 v6, σ = [some (V.ref a), v, v2, v3, v4, v5, v6] ∧ H p2 = some (.lst ks)
def ML1 (a p2 : Addr) (n : Int) (ks : List V) (σ : L2.St) (H : Hp) : Prop := ∃ c v3 v4 v5 v6, σ = [some (V.ref a), some (V.int n), some (V.ref c), v3, v4, v5, v6] ∧ H p2 = some (.lst ks) ∧ p2 ≠ c ∧ SrcN H c 0
def ML2 (a p2 : Addr) (n : Int) (c : Addr) (ks : List V) (σ : L2.St) (H : Hp) : Prop := ∃ l ss v4 v5 v6, σ = [some (V.ref a), some (V.int n), some (V.ref c), some (V.ref l), v4, v5, v6] ∧ H p2 = some (.lst ks) ∧ SrcN H c 6 ∧ H l = some (.tup (ss.map V.int)) ∧ Sz ss
def ML3 (a p2 : Addr) (n : Int) (c l : Addr) (ks : List V) (ss : List Int) (σ : L2.St) (H : Hp) : Prop := ∃ g gs v5 v6, σ = [some (V.ref a), some (V.int n), some (V.ref c), some (V.ref l), some (V.ref g), v5, v6] ∧ H p2 = some (.lst ks) ∧ SrcN H c 207 ∧ H l = some (.tup (ss.map V.int)) ∧ LstT H g gs ∧ Tgts ss gs
def ML4 (a p2 : Addr) (n : Int) (c l g : Addr) (ks : List V) (ss : List Int) (gs : List (List Int)) (σ : L2.St) (H : Hp) : Prop := ∃ (C W : Addr) (cl : List (List Int)) (bs : List Bool), σ = [some (V.ref a), some (V.int n), some (V.ref c), some (V.ref l), some (V.ref g), some (V.ref C), some (V.ref W)] ∧ H p2 = some (.lst ks) ∧ SrcN H c 659 ∧ H l = some (.tup (ss.map V.int)) ∧ LstT H g gs ∧ LstT H C cl ∧ cl ≠ [] ∧ cl.length ≤ 30 ∧ (∀ c ∈ cl, CallW 1102 ss.length c) ∧ H W = some (.lst (bs.map fun b => V.str (offW b))) ∧ W ≠ c ∧ bs ≠ [] ∧ bs.length ≤ 30
theorem cut_ints (ns : List Int) (lo hi : Option Int) : ∃ ms : List Int, cutV (ns.map V.int) lo hi = ms.map V.int ∧ ms.length ≤ ns.length := by
  refine ⟨(ns.drop (HT.sIx ns.length 0 lo)).take (HT.sIx ns.length ns.length hi - HT.sIx ns.length 0 lo), ?_, ?_⟩
  · unfold cutV
    rw [List.length_map, List.map_take, List.map_drop]
  · rw [List.length_take, List.length_drop]
    omega
theorem ok_law (T : Tx K mg) : FnOk P w K mg base CX0 9 T.f_law T.fd_law ["_law_script"] (sp_law K) := by
  refine T.F_law.ok sc_law (fun vs H Q E h => ?_) (fun cdv A outer s H vs Q E hr h => ?_)
  · obtain ⟨a, ns, rfl, _⟩ := h; rfl
  · obtain ⟨a, ns, rfl, hS, hn, hbits, q⟩ := h
    refine ⟨_, (C8.pss_cut (ps_for PassesOwn.never rfl (pi_seqH (pe_op op_catS (pe_lst (pa_cons (pe_call (ok_law_cell_at T) (hr.mono (by decide)) (by rfl) T.g_law_cell_at T.F_law_cell_at.kp T.b_law_cell_at .nil pass0 (pa_cons (pv 0) (pa_cons pe_int pa_nil))) pa_nil)) (pe_slice sl_list (pv 0) (po_some pe_int) (po_some pe_int)))) (pg_name (i := 1) sc_law.nd rfl (Or.inl rfl))
        (C8.pss_cut (ps_set (i := 2) sc_law.nd rfl (Or.inl rfl) (pe_call (ok_law_source T) (hr.mono (by decide)) (by rfl) T.g_law_source T.F_law_source.kp T.b_law_source .nil pass0 (pa_cons (pv 1) pa_nil)))
        (C8.pss_cut (ps_set (i := 3) sc_law.nd rfl (Or.inl rfl) (pe_call (ok_law_rings_any T) (hr.mono (by decide)) (by rfl) T.g_law_rings_any T.F_law_rings_any.kp T.b_law_rings_any .nil pass0 (pa_cons (pv 2) pa_nil)))
        (C8.pss_cut (ps_set (i := 4) sc_law.nd rfl (Or.inl rfl) (pe_call (ok_law_goals T) (hr.mono (by decide)) (by rfl) T.g_law_goals T.F_law_goals.kp T.b_law_goals .nil pass0 (pa_cons (pv 2) (pa_cons (pv 3) (pa_cons pe_int pa_nil)))))
        (C8.pss_cut (ps_par (i := 5) (j := 6) (by rfl) sc_law.nd rfl rfl (by decide) rfl rfl (pa_cons (pe_call (ok_law_list_calls T) (hr.mono (by decide)) (by rfl) T.g_law_list_calls T.F_law_list_calls.kp T.b_law_list_calls .nil pass0 (pa_cons (pv 2) (pa_cons (pv 3) (pa_cons pe_int pa_nil)))) (pa_cons (pe_call (ok_law_list_words T) (hr.mono (by decide)) (by rfl) T.g_law_list_words T.F_law_list_words.kp T.b_law_list_words .nil pass0 (pa_cons (pv 2) (pa_cons pe_int pa_nil))) pa_nil)) (by rfl))
        (pss_one (ps_if (PW.pt (pw_or (pt_not (pt_val (pe_call (ok_law_lists_right T) (hr.mono (by decide)) (by rfl) T.g_law_lists_right T.F_law_lists_right.kp T.b_law_lists_right .nil pass0 (pa_cons (pv 2) (pa_cons (pv 3) (pa_cons (pv 4) (pa_cons (pv 5) (pa_cons (pv 6) pa_nil)))))))) (pw_or1 (pt_not (pt_val (pe_call (ok_law_witness_right T) (hr.mono (by decide)) (by rfl) T.g_law_witness_right T.F_law_witness_right.kp T.b_law_witness_right .nil pass0 (pa_cons (pv 2) pa_nil))))))) (pss_one (ps_ret pe_bl)) pss_nil)))))))
      (pss_one (ps_ret pe_bl))), ?_⟩
    refine ⟨fun σ _ => σ.length = 7, ?_, ?_⟩
    · walk_at "rd"
      refine ⟨a, ns, 0, rfl, hS, fun p hp => ?_⟩
      have t1 := Same.new hp (o := .lst [V.int (ns.getD 0 0)])
      have g1 : (upd H p (.lst [V.int (ns.getD 0 0)])) p = some (.lst [V.int (ns.getD 0 0)]) := upd_same
      generalize upd H p (HO.lst [V.int (ns.getD 0 0)]) = H1 at t1 g1 ⊢
      refine ⟨_, t1.seq hS, fun p1 hp1 => ?_⟩
      obtain ⟨ms, ems, hms⟩ := cut_ints ns (some 1) (some 4)
      rw [ems]
      have t2 := Same.new hp1 (o := .lst (ms.map V.int))
      have g2 : (upd H1 p1 (.lst (ms.map V.int))) p1 = some (.lst (ms.map V.int)) := upd_same
      generalize upd H1 p1 (HO.lst (ms.map V.int)) = H2 at t2 g2 ⊢
      refine ⟨_, .inl (.inl (t2 _ _ g1)), _, .inl (.inl g2), ?_, fun p2 hp2 J W => ?_⟩
      · rw [List.length_map]
        exact Nat.le_trans (by simp; omega : [V.int (ns.getD 0 0)].length + ms.length ≤ 64) (by decide)
      rw [show [V.int (ns.getD 0 0)] ++ ms.map V.int = (ns.getD 0 0 :: ms).map V.int from rfl] at W ⊢
      generalize ns.getD 0 0 :: ms = ks at W ⊢
      have g3 : (upd H2 p2 (.lst (ks.map V.int))) p2 = some (.lst (ks.map V.int)) := upd_same
      generalize upd H2 p2 (HO.lst (ks.map V.int)) = H3 at g3 ⊢
      refine forr W (fun i σ H' => MLw a p2 (ks.map V.int) σ H') ⟨none, none, none, none, none, none, rfl, g3⟩ (fun _ _ _ _ h => by obtain ⟨_, _, _, _, _, _, _, h⟩ := h; exact h) ?_ ?_
      · rintro i x σ H4o H4 hi ⟨v1, v2, v3, v4, v5, v6, rfl, h4⟩ ⟨rfl, hx⟩
        simp only [List.getElem?_map, Option.map_eq_some_iff] at hx
        obtain ⟨n, hn, rfl⟩ := hx
        refine ⟨ML1 a p2 n (ks.map V.int), ?_, ?_⟩
        · walk_at "rd"
          exact ⟨n, rfl, fun H5 c s5 hc hsrc => ⟨c, v3, v4, v5, v6, rfl, s5 _ _ h4, (ne_some h4 hc), hsrc⟩⟩
        rintro σ5 H5 ⟨c, v3, v4, v5, v6, rfl, h5, nc, hs5⟩
        refine ⟨ML2 a p2 n c (ks.map V.int), ?_, ?_⟩
        · walk_at "rd"
          exact ⟨c, 0, rfl, hs5, by decide, fun H6 l ss s6 hs6 hl z => ⟨l, ss, v4, v5, v6, rfl, s6 _ _ nc h5, hs6, hl, z⟩⟩
        rintro σ6 H6 ⟨l, ss, v4, v5, v6, rfl, h6, hs6, hl6, z⟩
        refine ⟨ML3 a p2 n c l (ks.map V.int) ss, ?_, ?_⟩
        · walk_at "rd"
          exact ⟨c, l, 5, ss, 6, rfl, hs6, by decide, by decide, by decide, hl6, z, fun H7 D gs s7 hs7 hD hgs => ⟨D, gs, v5, v6, rfl, s7 _ _ nc h6, hs7, hs6.tp s7 _ _ hl6, hD, hgs⟩⟩
        rintro σ7 H7 ⟨g, gs, v5, v6, rfl, h7, hs7, hl7, hg7, hgs⟩
        refine ⟨ML4 a p2 n c l g (ks.map V.int) ss gs, ?_, ?_⟩
        · unfold tPar
          walk_at "rd"
          refine ⟨c, l, 5, ss, 207, rfl, hs7, by decide, by decide, by decide, hl7, z, fun H8 C cl s8 hs8 hC hne hk hcw => ?_⟩
          exact ⟨c, 5, 608, rfl, hs8, by decide, by decide, by decide, fun H9 W bs s9 hs9 hW nW hb hbk => ⟨C, W, cl, bs, rfl, s9 _ _ nc (s8 _ _ nc h7), hs9, hs8.tp s9 _ _ (hs7.tp s8 _ _ hl7), (hg7.sxn hs7 s8).sxn hs8 s9, hC.sxn hs8 s9, hne, by omega, hcw, hW, nW, hb, by omega⟩⟩
        rintro σ8 H8 ⟨C, W, cl, bs, rfl, h8, hs8, hl8, hg8, hC8, hne, hk, hcw, hW, nW, hb, hbk⟩
        walk_at "rd"
        refine ⟨c, l, g, C, W, ss, gs, cl, bs, 659, rfl, hs8, by decide, hl8, z, hg8, hgs, hC8, hne, by omega, hcw, hW, nW, hb, by omega, fun H9 s9 hs9 => ⟨true, rfl, ?_⟩⟩
        rw [if_neg (by decide)]
        refine ⟨c, 679, rfl, hs9, by decide, fun H10 s10 => ⟨true, rfl, ?_⟩⟩
        rw [if_neg (by decide)]
        exact ⟨_, _, _, _, _, _, rfl, s10 _ _ nc (s9 _ _ nc h8)⟩
      · rintro σ4 H4 ⟨v1, v2, v3, v4, v5, v6, rfl, h4⟩
        rfl
    rintro σ4 H4 _
    walk_at "rd"
    exact q _
end

theorem kit_self (K : PySem.W.Frag) (C : Addr) : PySem.W.kitOne K (.ref C) (.ref C) = some true := by
  unfold PySem.W.kitOne
  rw [if_pos]
  exact beq_self_eq_true _
theorem all_mk {P : Program} {w : World} {K : PySem.W.Frag} {h : Heap} {mg : Str → Option Value} {fa : Addr} (X : K.In h) (G : h.Ns mainGlobals mg) (hfa : mg "law" = some (.ref fa))
    {c_Table : Addr} {c_Responder : Addr} {c_Caller : Addr} {f_is_integer : Addr} {od_is_integer an_is_integer : Option Addr} {sl_is_integer : Array (Option Value)} {oc_is_integer kV_is_integer dc_is_integer pm_is_integer cd_is_integer ct_is_integer : Value} {f_is_place : Addr} {od_is_place an_is_place : Option Addr} {sl_is_place : Array (Option Value)} {oc_is_place kV_is_place dc_is_place pm_is_place cd_is_place ct_is_place : Value} {f_is_seat : Addr} {od_is_seat an_is_seat : Option Addr} {sl_is_seat : Array (Option Value)} {oc_is_seat kV_is_seat dc_is_seat pm_is_seat cd_is_seat ct_is_seat : Value} {f_is_call : Addr} {od_is_call an_is_call : Option Addr} {sl_is_call : Array (Option Value)} {oc_is_call kV_is_call dc_is_call pm_is_call cd_is_call ct_is_call : Value} {f_is_direction : Addr} {od_is_direction an_is_direction : Option Addr} {sl_is_direction : Array (Option Value)} {oc_is_direction kV_is_direction dc_is_direction pm_is_direction cd_is_direction ct_is_direction : Value} {f_is_list_of_directions : Addr} {od_is_list_of_directions an_is_list_of_directions : Option Addr} {sl_is_list_of_directions : Array (Option Value)} {oc_is_list_of_directions kV_is_list_of_directions dc_is_list_of_directions pm_is_list_of_directions cd_is_list_of_directions ct_is_list_of_directions : Value} {f_is_modulus : Addr} {od_is_modulus an_is_modulus : Option Addr} {sl_is_modulus : Array (Option Value)} {oc_is_modulus kV_is_modulus dc_is_modulus pm_is_modulus cd_is_modulus ct_is_modulus : Value} {f_are_weights : Addr} {od_are_weights an_are_weights : Option Addr} {sl_are_weights : Array (Option Value)} {oc_are_weights kV_are_weights dc_are_weights pm_are_weights cd_are_weights ct_are_weights : Value} {f_is_witness : Addr} {od_is_witness an_is_witness : Option Addr} {sl_is_witness : Array (Option Value)} {oc_is_witness kV_is_witness dc_is_witness pm_is_witness cd_is_witness ct_is_witness : Value} {f_require_seat : Addr} {od_require_seat an_require_seat : Option Addr} {sl_require_seat : Array (Option Value)} {oc_require_seat kV_require_seat dc_require_seat pm_require_seat cd_require_seat ct_require_seat : Value} {f_require_call : Addr} {od_require_call an_require_call : Option Addr} {sl_require_call : Array (Option Value)} {oc_require_call kV_require_call dc_require_call pm_require_call cd_require_call ct_require_call : Value} {f_require_witness : Addr} {od_require_witness an_require_witness : Option Addr} {sl_require_witness : Array (Option Value)} {oc_require_witness kV_require_witness dc_require_witness pm_require_witness cd_require_witness ct_require_witness : Value} {f_require_seats : Addr} {od_require_seats an_require_seats : Option Addr} {sl_require_seats : Array (Option Value)} {oc_require_seats kV_require_seats dc_require_seats pm_require_seats cd_require_seats ct_require_seats : Value} {f_require_targets : Addr} {od_require_targets an_require_targets : Option Addr} {sl_require_targets : Array (Option Value)} {oc_require_targets kV_require_targets dc_require_targets pm_require_targets cd_require_targets ct_require_targets : Value} {f_require_number : Addr} {od_require_number an_require_number : Option Addr} {sl_require_number : Array (Option Value)} {oc_require_number kV_require_number dc_require_number pm_require_number cd_require_number ct_require_number : Value} {f_Table_init : Addr} {od_Table_init an_Table_init : Option Addr} {sl_Table_init : Array (Option Value)} {oc_Table_init kV_Table_init dc_Table_init pm_Table_init cd_Table_init ct_Table_init : Value} {f_Table_sizes : Addr} {od_Table_sizes an_Table_sizes : Option Addr} {sl_Table_sizes : Array (Option Value)} {oc_Table_sizes kV_Table_sizes dc_Table_sizes pm_Table_sizes cd_Table_sizes ct_Table_sizes : Value} {f_sizes_of : Addr} {od_sizes_of an_sizes_of : Option Addr} {sl_sizes_of : Array (Option Value)} {oc_sizes_of kV_sizes_of dc_sizes_of pm_sizes_of cd_sizes_of ct_sizes_of : Value} {f_both_moves : Addr} {od_both_moves an_both_moves : Option Addr} {sl_both_moves : Array (Option Value)} {oc_both_moves kV_both_moves dc_both_moves pm_both_moves cd_both_moves ct_both_moves : Value} {f_stepped : Addr} {od_stepped an_stepped : Option Addr} {sl_stepped : Array (Option Value)} {oc_stepped kV_stepped dc_stepped pm_stepped cd_stepped ct_stepped : Value} {f_are_sizes : Addr} {od_are_sizes an_are_sizes : Option Addr} {sl_are_sizes : Array (Option Value)} {oc_are_sizes kV_are_sizes dc_are_sizes pm_are_sizes cd_are_sizes ct_are_sizes : Value} {f_weighted_sum : Addr} {od_weighted_sum an_weighted_sum : Option Addr} {sl_weighted_sum : Array (Option Value)} {oc_weighted_sum kV_weighted_sum dc_weighted_sum pm_weighted_sum cd_weighted_sum ct_weighted_sum : Value} {f_has_residue : Addr} {od_has_residue an_has_residue : Option Addr} {sl_has_residue : Array (Option Value)} {oc_has_residue kV_has_residue dc_has_residue pm_has_residue cd_has_residue ct_has_residue : Value} {f_direction_off : Addr} {od_direction_off an_direction_off : Option Addr} {sl_direction_off : Array (Option Value)} {oc_direction_off kV_direction_off dc_direction_off pm_direction_off cd_direction_off ct_direction_off : Value} {f_avoiding_direction : Addr} {od_avoiding_direction an_avoiding_direction : Option Addr} {sl_avoiding_direction : Array (Option Value)} {oc_avoiding_direction kV_avoiding_direction dc_avoiding_direction pm_avoiding_direction cd_avoiding_direction ct_avoiding_direction : Value} {f_Responder_init : Addr} {od_Responder_init an_Responder_init : Option Addr} {sl_Responder_init : Array (Option Value)} {oc_Responder_init kV_Responder_init dc_Responder_init pm_Responder_init cd_Responder_init ct_Responder_init : Value} {f_Responder_answer : Addr} {od_Responder_answer an_Responder_answer : Option Addr} {sl_Responder_answer : Array (Option Value)} {oc_Responder_answer kV_Responder_answer dc_Responder_answer pm_Responder_answer cd_Responder_answer ct_Responder_answer : Value} {f_Responder_direction_at : Addr} {od_Responder_direction_at an_Responder_direction_at : Option Addr} {sl_Responder_direction_at : Array (Option Value)} {oc_Responder_direction_at kV_Responder_direction_at dc_Responder_direction_at pm_Responder_direction_at cd_Responder_direction_at ct_Responder_direction_at : Value} {f_Responder_has_lost_at : Addr} {od_Responder_has_lost_at an_Responder_has_lost_at : Option Addr} {sl_Responder_has_lost_at : Array (Option Value)} {oc_Responder_has_lost_at kV_Responder_has_lost_at dc_Responder_has_lost_at pm_Responder_has_lost_at cd_Responder_has_lost_at ct_Responder_has_lost_at : Value} {f_Responder_belongs_to : Addr} {od_Responder_belongs_to an_Responder_belongs_to : Option Addr} {sl_Responder_belongs_to : Array (Option Value)} {oc_Responder_belongs_to kV_Responder_belongs_to dc_Responder_belongs_to pm_Responder_belongs_to cd_Responder_belongs_to ct_Responder_belongs_to : Value} {f_Caller_init : Addr} {od_Caller_init an_Caller_init : Option Addr} {sl_Caller_init : Array (Option Value)} {oc_Caller_init kV_Caller_init dc_Caller_init pm_Caller_init cd_Caller_init ct_Caller_init : Value} {f_Caller_call_at : Addr} {od_Caller_call_at an_Caller_call_at : Option Addr} {sl_Caller_call_at : Array (Option Value)} {oc_Caller_call_at kV_Caller_call_at dc_Caller_call_at pm_Caller_call_at cd_Caller_call_at ct_Caller_call_at : Value} {f_Caller_belongs_to : Addr} {od_Caller_belongs_to an_Caller_belongs_to : Option Addr} {sl_Caller_belongs_to : Array (Option Value)} {oc_Caller_belongs_to kV_Caller_belongs_to dc_Caller_belongs_to pm_Caller_belongs_to cd_Caller_belongs_to ct_Caller_belongs_to : Value} {f_play : Addr} {od_play an_play : Option Addr} {sl_play : Array (Option Value)} {oc_play kV_play dc_play pm_play cd_play ct_play : Value} {f_played : Addr} {od_played an_played : Option Addr} {sl_played : Array (Option Value)} {oc_played kV_played dc_played pm_played cd_played ct_played : Value} {f_reduced_call : Addr} {od_reduced_call an_reduced_call : Option Addr} {sl_reduced_call : Array (Option Value)} {oc_reduced_call kV_reduced_call dc_reduced_call pm_reduced_call cd_reduced_call ct_reduced_call : Value} {f_is_layers : Addr} {od_is_layers an_is_layers : Option Addr} {sl_is_layers : Array (Option Value)} {oc_is_layers kV_is_layers dc_is_layers pm_is_layers cd_is_layers ct_is_layers : Value} {f_is_list_of_calls : Addr} {od_is_list_of_calls an_is_list_of_calls : Option Addr} {sl_is_list_of_calls : Array (Option Value)} {oc_is_list_of_calls kV_is_list_of_calls dc_is_list_of_calls pm_is_list_of_calls cd_is_list_of_calls ct_is_list_of_calls : Value} {f_is_common_witness : Addr} {od_is_common_witness an_is_common_witness : Option Addr} {sl_is_common_witness : Array (Option Value)} {oc_is_common_witness kV_is_common_witness dc_is_common_witness pm_is_common_witness cd_is_common_witness ct_is_common_witness : Value} {f_law_cell_at : Addr} {od_law_cell_at an_law_cell_at : Option Addr} {sl_law_cell_at : Array (Option Value)} {oc_law_cell_at kV_law_cell_at dc_law_cell_at pm_law_cell_at cd_law_cell_at ct_law_cell_at : Value} {f_law_source : Addr} {od_law_source an_law_source : Option Addr} {sl_law_source : Array (Option Value)} {oc_law_source kV_law_source dc_law_source pm_law_source cd_law_source ct_law_source : Value} {f_law_take : Addr} {od_law_take an_law_take : Option Addr} {sl_law_take : Array (Option Value)} {oc_law_take kV_law_take dc_law_take pm_law_take cd_law_take ct_law_take : Value} {f_law_pick : Addr} {od_law_pick an_law_pick : Option Addr} {sl_law_pick : Array (Option Value)} {oc_law_pick kV_law_pick dc_law_pick pm_law_pick cd_law_pick ct_law_pick : Value} {f_law_shuffled : Addr} {od_law_shuffled an_law_shuffled : Option Addr} {sl_law_shuffled : Array (Option Value)} {oc_law_shuffled kV_law_shuffled dc_law_shuffled pm_law_shuffled cd_law_shuffled ct_law_shuffled : Value} {f_law_drawn_seat : Addr} {od_law_drawn_seat an_law_drawn_seat : Option Addr} {sl_law_drawn_seat : Array (Option Value)} {oc_law_drawn_seat kV_law_drawn_seat dc_law_drawn_seat pm_law_drawn_seat cd_law_drawn_seat ct_law_drawn_seat : Value} {f_law_moved : Addr} {od_law_moved an_law_moved : Option Addr} {sl_law_moved : Array (Option Value)} {oc_law_moved kV_law_moved dc_law_moved pm_law_moved cd_law_moved ct_law_moved : Value} {f_law_drawn_call : Addr} {od_law_drawn_call an_law_drawn_call : Option Addr} {sl_law_drawn_call : Array (Option Value)} {oc_law_drawn_call kV_law_drawn_call dc_law_drawn_call pm_law_drawn_call cd_law_drawn_call ct_law_drawn_call : Value} {f_law_goals : Addr} {od_law_goals an_law_goals : Option Addr} {sl_law_goals : Array (Option Value)} {oc_law_goals kV_law_goals dc_law_goals pm_law_goals cd_law_goals ct_law_goals : Value} {f_law_list_calls : Addr} {od_law_list_calls an_law_list_calls : Option Addr} {sl_law_list_calls : Array (Option Value)} {oc_law_list_calls kV_law_list_calls dc_law_list_calls pm_law_list_calls cd_law_list_calls ct_law_list_calls : Value} {f_law_list_words : Addr} {od_law_list_words an_law_list_words : Option Addr} {sl_law_list_words : Array (Option Value)} {oc_law_list_words kV_law_list_words dc_law_list_words pm_law_list_words cd_law_list_words ct_law_list_words : Value} {f_law_rings_any : Addr} {od_law_rings_any an_law_rings_any : Option Addr} {sl_law_rings_any : Array (Option Value)} {oc_law_rings_any kV_law_rings_any dc_law_rings_any pm_law_rings_any cd_law_rings_any ct_law_rings_any : Value} {f_law_planted : Addr} {od_law_planted an_law_planted : Option Addr} {sl_law_planted : Array (Option Value)} {oc_law_planted kV_law_planted dc_law_planted pm_law_planted cd_law_planted ct_law_planted : Value} {f_law_sum_of : Addr} {od_law_sum_of an_law_sum_of : Option Addr} {sl_law_sum_of : Array (Option Value)} {oc_law_sum_of kV_law_sum_of dc_law_sum_of pm_law_sum_of cd_law_sum_of ct_law_sum_of : Value} {f_law_divisor : Addr} {od_law_divisor an_law_divisor : Option Addr} {sl_law_divisor : Array (Option Value)} {oc_law_divisor kV_law_divisor dc_law_divisor pm_law_divisor cd_law_divisor ct_law_divisor : Value} {f_law_factor : Addr} {od_law_factor an_law_factor : Option Addr} {sl_law_factor : Array (Option Value)} {oc_law_factor kV_law_factor dc_law_factor pm_law_factor cd_law_factor ct_law_factor : Value} {f_law_course_of : Addr} {od_law_course_of an_law_course_of : Option Addr} {sl_law_course_of : Array (Option Value)} {oc_law_course_of kV_law_course_of dc_law_course_of pm_law_course_of cd_law_course_of ct_law_course_of : Value} {f_law_times : Addr} {od_law_times an_law_times : Option Addr} {sl_law_times : Array (Option Value)} {oc_law_times kV_law_times dc_law_times pm_law_times cd_law_times ct_law_times : Value} {f_law_lists_right : Addr} {od_law_lists_right an_law_lists_right : Option Addr} {sl_law_lists_right : Array (Option Value)} {oc_law_lists_right kV_law_lists_right dc_law_lists_right pm_law_lists_right cd_law_lists_right ct_law_lists_right : Value} {f_law_witness_right : Addr} {od_law_witness_right an_law_witness_right : Option Addr} {sl_law_witness_right : Array (Option Value)} {oc_law_witness_right kV_law_witness_right dc_law_witness_right pm_law_witness_right cd_law_witness_right ct_law_witness_right : Value} {f_law : Addr} {od_law an_law : Option Addr} {sl_law : Array (Option Value)} {oc_law kV_law dc_law pm_law cd_law ct_law : Value} {v_MAX_RINGS : Value}
    (ac_Caller : PySem.W.nsIn K mainGlobals "Caller" = some (some (.ref c_Caller)))
    (ac_Responder : PySem.W.nsIn K mainGlobals "Responder" = some (some (.ref c_Responder)))
    (ac_Table : PySem.W.nsIn K mainGlobals "Table" = some (some (.ref c_Table)))
    (a_is_integer : PySem.W.nsIn K mainGlobals "is_integer" = some (some (.ref f_is_integer)))
    (l_is_integer : K.lookup f_is_integer = some ⟨oc_is_integer, od_is_integer, .func (PySem.W.fnOf "is_integer" "is_integer" (defArgs d_is_integer) (defBody d_is_integer) (defScope d_is_integer) .none kV_is_integer dc_is_integer pm_is_integer an_is_integer cd_is_integer ct_is_integer), sl_is_integer⟩)
    (x_is_integer : PySem.W.codeIn K cd_is_integer "is_integer" = true)
    (k_is_integer : PySem.W.keepIn K (.ref f_is_integer) = true)
    (a_is_place : PySem.W.nsIn K mainGlobals "is_place" = some (some (.ref f_is_place)))
    (l_is_place : K.lookup f_is_place = some ⟨oc_is_place, od_is_place, .func (PySem.W.fnOf "is_place" "is_place" (defArgs d_is_place) (defBody d_is_place) (defScope d_is_place) .none kV_is_place dc_is_place pm_is_place an_is_place cd_is_place ct_is_place), sl_is_place⟩)
    (x_is_place : PySem.W.codeIn K cd_is_place "is_place" = true)
    (k_is_place : PySem.W.keepIn K (.ref f_is_place) = true)
    (a_is_seat : PySem.W.nsIn K mainGlobals "is_seat" = some (some (.ref f_is_seat)))
    (l_is_seat : K.lookup f_is_seat = some ⟨oc_is_seat, od_is_seat, .func (PySem.W.fnOf "is_seat" "is_seat" (defArgs d_is_seat) (defBody d_is_seat) (defScope d_is_seat) .none kV_is_seat dc_is_seat pm_is_seat an_is_seat cd_is_seat ct_is_seat), sl_is_seat⟩)
    (x_is_seat : PySem.W.codeIn K cd_is_seat "is_seat" = true)
    (k_is_seat : PySem.W.keepIn K (.ref f_is_seat) = true)
    (a_is_call : PySem.W.nsIn K mainGlobals "is_call" = some (some (.ref f_is_call)))
    (l_is_call : K.lookup f_is_call = some ⟨oc_is_call, od_is_call, .func (PySem.W.fnOf "is_call" "is_call" (defArgs d_is_call) (defBody d_is_call) (defScope d_is_call) .none kV_is_call dc_is_call pm_is_call an_is_call cd_is_call ct_is_call), sl_is_call⟩)
    (x_is_call : PySem.W.codeIn K cd_is_call "is_call" = true)
    (k_is_call : PySem.W.keepIn K (.ref f_is_call) = true)
    (a_is_direction : PySem.W.nsIn K mainGlobals "is_direction" = some (some (.ref f_is_direction)))
    (l_is_direction : K.lookup f_is_direction = some ⟨oc_is_direction, od_is_direction, .func (PySem.W.fnOf "is_direction" "is_direction" (defArgs d_is_direction) (defBody d_is_direction) (defScope d_is_direction) .none kV_is_direction dc_is_direction pm_is_direction an_is_direction cd_is_direction ct_is_direction), sl_is_direction⟩)
    (x_is_direction : PySem.W.codeIn K cd_is_direction "is_direction" = true)
    (k_is_direction : PySem.W.keepIn K (.ref f_is_direction) = true)
    (a_is_list_of_directions : PySem.W.nsIn K mainGlobals "is_list_of_directions" = some (some (.ref f_is_list_of_directions)))
    (l_is_list_of_directions : K.lookup f_is_list_of_directions = some ⟨oc_is_list_of_directions, od_is_list_of_directions, .func (PySem.W.fnOf "is_list_of_directions" "is_list_of_directions" (defArgs d_is_list_of_directions) (defBody d_is_list_of_directions) (defScope d_is_list_of_directions) .none kV_is_list_of_directions dc_is_list_of_directions pm_is_list_of_directions an_is_list_of_directions cd_is_list_of_directions ct_is_list_of_directions), sl_is_list_of_directions⟩)
    (x_is_list_of_directions : PySem.W.codeIn K cd_is_list_of_directions "is_list_of_directions" = true)
    (k_is_list_of_directions : PySem.W.keepIn K (.ref f_is_list_of_directions) = true)
    (a_is_modulus : PySem.W.nsIn K mainGlobals "is_modulus" = some (some (.ref f_is_modulus)))
    (l_is_modulus : K.lookup f_is_modulus = some ⟨oc_is_modulus, od_is_modulus, .func (PySem.W.fnOf "is_modulus" "is_modulus" (defArgs d_is_modulus) (defBody d_is_modulus) (defScope d_is_modulus) .none kV_is_modulus dc_is_modulus pm_is_modulus an_is_modulus cd_is_modulus ct_is_modulus), sl_is_modulus⟩)
    (x_is_modulus : PySem.W.codeIn K cd_is_modulus "is_modulus" = true)
    (k_is_modulus : PySem.W.keepIn K (.ref f_is_modulus) = true)
    (a_are_weights : PySem.W.nsIn K mainGlobals "are_weights" = some (some (.ref f_are_weights)))
    (l_are_weights : K.lookup f_are_weights = some ⟨oc_are_weights, od_are_weights, .func (PySem.W.fnOf "are_weights" "are_weights" (defArgs d_are_weights) (defBody d_are_weights) (defScope d_are_weights) .none kV_are_weights dc_are_weights pm_are_weights an_are_weights cd_are_weights ct_are_weights), sl_are_weights⟩)
    (x_are_weights : PySem.W.codeIn K cd_are_weights "are_weights" = true)
    (k_are_weights : PySem.W.keepIn K (.ref f_are_weights) = true)
    (a_is_witness : PySem.W.nsIn K mainGlobals "is_witness" = some (some (.ref f_is_witness)))
    (l_is_witness : K.lookup f_is_witness = some ⟨oc_is_witness, od_is_witness, .func (PySem.W.fnOf "is_witness" "is_witness" (defArgs d_is_witness) (defBody d_is_witness) (defScope d_is_witness) .none kV_is_witness dc_is_witness pm_is_witness an_is_witness cd_is_witness ct_is_witness), sl_is_witness⟩)
    (x_is_witness : PySem.W.codeIn K cd_is_witness "is_witness" = true)
    (k_is_witness : PySem.W.keepIn K (.ref f_is_witness) = true)
    (a_require_seat : PySem.W.nsIn K mainGlobals "require_seat" = some (some (.ref f_require_seat)))
    (l_require_seat : K.lookup f_require_seat = some ⟨oc_require_seat, od_require_seat, .func (PySem.W.fnOf "require_seat" "require_seat" (defArgs d_require_seat) (defBody d_require_seat) (defScope d_require_seat) .none kV_require_seat dc_require_seat pm_require_seat an_require_seat cd_require_seat ct_require_seat), sl_require_seat⟩)
    (x_require_seat : PySem.W.codeIn K cd_require_seat "require_seat" = true)
    (k_require_seat : PySem.W.keepIn K (.ref f_require_seat) = true)
    (a_require_call : PySem.W.nsIn K mainGlobals "require_call" = some (some (.ref f_require_call)))
    (l_require_call : K.lookup f_require_call = some ⟨oc_require_call, od_require_call, .func (PySem.W.fnOf "require_call" "require_call" (defArgs d_require_call) (defBody d_require_call) (defScope d_require_call) .none kV_require_call dc_require_call pm_require_call an_require_call cd_require_call ct_require_call), sl_require_call⟩)
    (x_require_call : PySem.W.codeIn K cd_require_call "require_call" = true)
    (k_require_call : PySem.W.keepIn K (.ref f_require_call) = true)
    (a_require_witness : PySem.W.nsIn K mainGlobals "require_witness" = some (some (.ref f_require_witness)))
    (l_require_witness : K.lookup f_require_witness = some ⟨oc_require_witness, od_require_witness, .func (PySem.W.fnOf "require_witness" "require_witness" (defArgs d_require_witness) (defBody d_require_witness) (defScope d_require_witness) .none kV_require_witness dc_require_witness pm_require_witness an_require_witness cd_require_witness ct_require_witness), sl_require_witness⟩)
    (x_require_witness : PySem.W.codeIn K cd_require_witness "require_witness" = true)
    (k_require_witness : PySem.W.keepIn K (.ref f_require_witness) = true)
    (a_require_seats : PySem.W.nsIn K mainGlobals "require_seats" = some (some (.ref f_require_seats)))
    (l_require_seats : K.lookup f_require_seats = some ⟨oc_require_seats, od_require_seats, .func (PySem.W.fnOf "require_seats" "require_seats" (defArgs d_require_seats) (defBody d_require_seats) (defScope d_require_seats) .none kV_require_seats dc_require_seats pm_require_seats an_require_seats cd_require_seats ct_require_seats), sl_require_seats⟩)
    (x_require_seats : PySem.W.codeIn K cd_require_seats "require_seats" = true)
    (k_require_seats : PySem.W.keepIn K (.ref f_require_seats) = true)
    (a_require_targets : PySem.W.nsIn K mainGlobals "require_targets" = some (some (.ref f_require_targets)))
    (l_require_targets : K.lookup f_require_targets = some ⟨oc_require_targets, od_require_targets, .func (PySem.W.fnOf "require_targets" "require_targets" (defArgs d_require_targets) (defBody d_require_targets) (defScope d_require_targets) .none kV_require_targets dc_require_targets pm_require_targets an_require_targets cd_require_targets ct_require_targets), sl_require_targets⟩)
    (x_require_targets : PySem.W.codeIn K cd_require_targets "require_targets" = true)
    (k_require_targets : PySem.W.keepIn K (.ref f_require_targets) = true)
    (a_require_number : PySem.W.nsIn K mainGlobals "require_number" = some (some (.ref f_require_number)))
    (l_require_number : K.lookup f_require_number = some ⟨oc_require_number, od_require_number, .func (PySem.W.fnOf "require_number" "require_number" (defArgs d_require_number) (defBody d_require_number) (defScope d_require_number) .none kV_require_number dc_require_number pm_require_number an_require_number cd_require_number ct_require_number), sl_require_number⟩)
    (x_require_number : PySem.W.codeIn K cd_require_number "require_number" = true)
    (k_require_number : PySem.W.keepIn K (.ref f_require_number) = true)
    (a_Table_init : PySem.W.findIn K (.ref c_Table) "__init__" = some (some (.ref f_Table_init)))
    (i_Table_init : PySem.W.isFn K (.ref f_Table_init) = true)
    (l_Table_init : K.lookup f_Table_init = some ⟨oc_Table_init, od_Table_init, .func (PySem.W.fnOf "__init__" "Table.__init__" (defArgs d_Table_init) (defBody d_Table_init) (defScope d_Table_init) .none kV_Table_init dc_Table_init pm_Table_init an_Table_init cd_Table_init ct_Table_init), sl_Table_init⟩)
    (x_Table_init : PySem.W.codeIn K cd_Table_init "Table.__init__" = true)
    (k_Table_init : PySem.W.keepIn K (.ref f_Table_init) = true)
    (a_Table_sizes : PySem.W.findIn K (.ref c_Table) "sizes" = some (some (.ref f_Table_sizes)))
    (i_Table_sizes : PySem.W.isFn K (.ref f_Table_sizes) = true)
    (l_Table_sizes : K.lookup f_Table_sizes = some ⟨oc_Table_sizes, od_Table_sizes, .func (PySem.W.fnOf "sizes" "Table.sizes" (defArgs d_Table_sizes) (defBody d_Table_sizes) (defScope d_Table_sizes) .none kV_Table_sizes dc_Table_sizes pm_Table_sizes an_Table_sizes cd_Table_sizes ct_Table_sizes), sl_Table_sizes⟩)
    (x_Table_sizes : PySem.W.codeIn K cd_Table_sizes "Table.sizes" = true)
    (k_Table_sizes : PySem.W.keepIn K (.ref f_Table_sizes) = true)
    (a_sizes_of : PySem.W.nsIn K mainGlobals "sizes_of" = some (some (.ref f_sizes_of)))
    (l_sizes_of : K.lookup f_sizes_of = some ⟨oc_sizes_of, od_sizes_of, .func (PySem.W.fnOf "sizes_of" "sizes_of" (defArgs d_sizes_of) (defBody d_sizes_of) (defScope d_sizes_of) .none kV_sizes_of dc_sizes_of pm_sizes_of an_sizes_of cd_sizes_of ct_sizes_of), sl_sizes_of⟩)
    (x_sizes_of : PySem.W.codeIn K cd_sizes_of "sizes_of" = true)
    (k_sizes_of : PySem.W.keepIn K (.ref f_sizes_of) = true)
    (a_both_moves : PySem.W.nsIn K mainGlobals "both_moves" = some (some (.ref f_both_moves)))
    (l_both_moves : K.lookup f_both_moves = some ⟨oc_both_moves, od_both_moves, .func (PySem.W.fnOf "both_moves" "both_moves" (defArgs d_both_moves) (defBody d_both_moves) (defScope d_both_moves) .none kV_both_moves dc_both_moves pm_both_moves an_both_moves cd_both_moves ct_both_moves), sl_both_moves⟩)
    (x_both_moves : PySem.W.codeIn K cd_both_moves "both_moves" = true)
    (k_both_moves : PySem.W.keepIn K (.ref f_both_moves) = true)
    (a_stepped : PySem.W.nsIn K mainGlobals "stepped" = some (some (.ref f_stepped)))
    (l_stepped : K.lookup f_stepped = some ⟨oc_stepped, od_stepped, .func (PySem.W.fnOf "stepped" "stepped" (defArgs d_stepped) (defBody d_stepped) (defScope d_stepped) .none kV_stepped dc_stepped pm_stepped an_stepped cd_stepped ct_stepped), sl_stepped⟩)
    (x_stepped : PySem.W.codeIn K cd_stepped "stepped" = true)
    (k_stepped : PySem.W.keepIn K (.ref f_stepped) = true)
    (a_are_sizes : PySem.W.nsIn K mainGlobals "_are_sizes" = some (some (.ref f_are_sizes)))
    (l_are_sizes : K.lookup f_are_sizes = some ⟨oc_are_sizes, od_are_sizes, .func (PySem.W.fnOf "_are_sizes" "_are_sizes" (defArgs d_are_sizes) (defBody d_are_sizes) (defScope d_are_sizes) .none kV_are_sizes dc_are_sizes pm_are_sizes an_are_sizes cd_are_sizes ct_are_sizes), sl_are_sizes⟩)
    (x_are_sizes : PySem.W.codeIn K cd_are_sizes "_are_sizes" = true)
    (k_are_sizes : PySem.W.keepIn K (.ref f_are_sizes) = true)
    (a_weighted_sum : PySem.W.nsIn K mainGlobals "weighted_sum" = some (some (.ref f_weighted_sum)))
    (l_weighted_sum : K.lookup f_weighted_sum = some ⟨oc_weighted_sum, od_weighted_sum, .func (PySem.W.fnOf "weighted_sum" "weighted_sum" (defArgs d_weighted_sum) (defBody d_weighted_sum) (defScope d_weighted_sum) .none kV_weighted_sum dc_weighted_sum pm_weighted_sum an_weighted_sum cd_weighted_sum ct_weighted_sum), sl_weighted_sum⟩)
    (x_weighted_sum : PySem.W.codeIn K cd_weighted_sum "weighted_sum" = true)
    (k_weighted_sum : PySem.W.keepIn K (.ref f_weighted_sum) = true)
    (a_has_residue : PySem.W.nsIn K mainGlobals "has_residue" = some (some (.ref f_has_residue)))
    (l_has_residue : K.lookup f_has_residue = some ⟨oc_has_residue, od_has_residue, .func (PySem.W.fnOf "has_residue" "has_residue" (defArgs d_has_residue) (defBody d_has_residue) (defScope d_has_residue) .none kV_has_residue dc_has_residue pm_has_residue an_has_residue cd_has_residue ct_has_residue), sl_has_residue⟩)
    (x_has_residue : PySem.W.codeIn K cd_has_residue "has_residue" = true)
    (k_has_residue : PySem.W.keepIn K (.ref f_has_residue) = true)
    (a_direction_off : PySem.W.nsIn K mainGlobals "direction_off" = some (some (.ref f_direction_off)))
    (l_direction_off : K.lookup f_direction_off = some ⟨oc_direction_off, od_direction_off, .func (PySem.W.fnOf "direction_off" "direction_off" (defArgs d_direction_off) (defBody d_direction_off) (defScope d_direction_off) .none kV_direction_off dc_direction_off pm_direction_off an_direction_off cd_direction_off ct_direction_off), sl_direction_off⟩)
    (x_direction_off : PySem.W.codeIn K cd_direction_off "direction_off" = true)
    (k_direction_off : PySem.W.keepIn K (.ref f_direction_off) = true)
    (a_avoiding_direction : PySem.W.nsIn K mainGlobals "avoiding_direction" = some (some (.ref f_avoiding_direction)))
    (l_avoiding_direction : K.lookup f_avoiding_direction = some ⟨oc_avoiding_direction, od_avoiding_direction, .func (PySem.W.fnOf "avoiding_direction" "avoiding_direction" (defArgs d_avoiding_direction) (defBody d_avoiding_direction) (defScope d_avoiding_direction) .none kV_avoiding_direction dc_avoiding_direction pm_avoiding_direction an_avoiding_direction cd_avoiding_direction ct_avoiding_direction), sl_avoiding_direction⟩)
    (x_avoiding_direction : PySem.W.codeIn K cd_avoiding_direction "avoiding_direction" = true)
    (k_avoiding_direction : PySem.W.keepIn K (.ref f_avoiding_direction) = true)
    (a_Responder_init : PySem.W.findIn K (.ref c_Responder) "__init__" = some (some (.ref f_Responder_init)))
    (i_Responder_init : PySem.W.isFn K (.ref f_Responder_init) = true)
    (l_Responder_init : K.lookup f_Responder_init = some ⟨oc_Responder_init, od_Responder_init, .func (PySem.W.fnOf "__init__" "Responder.__init__" (defArgs d_Responder_init) (defBody d_Responder_init) (defScope d_Responder_init) .none kV_Responder_init dc_Responder_init pm_Responder_init an_Responder_init cd_Responder_init ct_Responder_init), sl_Responder_init⟩)
    (x_Responder_init : PySem.W.codeIn K cd_Responder_init "Responder.__init__" = true)
    (k_Responder_init : PySem.W.keepIn K (.ref f_Responder_init) = true)
    (a_Responder_answer : PySem.W.findIn K (.ref c_Responder) "answer" = some (some (.ref f_Responder_answer)))
    (i_Responder_answer : PySem.W.isFn K (.ref f_Responder_answer) = true)
    (l_Responder_answer : K.lookup f_Responder_answer = some ⟨oc_Responder_answer, od_Responder_answer, .func (PySem.W.fnOf "answer" "Responder.answer" (defArgs d_Responder_answer) (defBody d_Responder_answer) (defScope d_Responder_answer) .none kV_Responder_answer dc_Responder_answer pm_Responder_answer an_Responder_answer cd_Responder_answer ct_Responder_answer), sl_Responder_answer⟩)
    (x_Responder_answer : PySem.W.codeIn K cd_Responder_answer "Responder.answer" = true)
    (k_Responder_answer : PySem.W.keepIn K (.ref f_Responder_answer) = true)
    (a_Responder_direction_at : PySem.W.findIn K (.ref c_Responder) "direction_at" = some (some (.ref f_Responder_direction_at)))
    (i_Responder_direction_at : PySem.W.isFn K (.ref f_Responder_direction_at) = true)
    (l_Responder_direction_at : K.lookup f_Responder_direction_at = some ⟨oc_Responder_direction_at, od_Responder_direction_at, .func (PySem.W.fnOf "direction_at" "Responder.direction_at" (defArgs d_Responder_direction_at) (defBody d_Responder_direction_at) (defScope d_Responder_direction_at) .none kV_Responder_direction_at dc_Responder_direction_at pm_Responder_direction_at an_Responder_direction_at cd_Responder_direction_at ct_Responder_direction_at), sl_Responder_direction_at⟩)
    (x_Responder_direction_at : PySem.W.codeIn K cd_Responder_direction_at "Responder.direction_at" = true)
    (k_Responder_direction_at : PySem.W.keepIn K (.ref f_Responder_direction_at) = true)
    (a_Responder_has_lost_at : PySem.W.findIn K (.ref c_Responder) "has_lost_at" = some (some (.ref f_Responder_has_lost_at)))
    (i_Responder_has_lost_at : PySem.W.isFn K (.ref f_Responder_has_lost_at) = true)
    (l_Responder_has_lost_at : K.lookup f_Responder_has_lost_at = some ⟨oc_Responder_has_lost_at, od_Responder_has_lost_at, .func (PySem.W.fnOf "has_lost_at" "Responder.has_lost_at" (defArgs d_Responder_has_lost_at) (defBody d_Responder_has_lost_at) (defScope d_Responder_has_lost_at) .none kV_Responder_has_lost_at dc_Responder_has_lost_at pm_Responder_has_lost_at an_Responder_has_lost_at cd_Responder_has_lost_at ct_Responder_has_lost_at), sl_Responder_has_lost_at⟩)
    (x_Responder_has_lost_at : PySem.W.codeIn K cd_Responder_has_lost_at "Responder.has_lost_at" = true)
    (k_Responder_has_lost_at : PySem.W.keepIn K (.ref f_Responder_has_lost_at) = true)
    (a_Responder_belongs_to : PySem.W.findIn K (.ref c_Responder) "belongs_to" = some (some (.ref f_Responder_belongs_to)))
    (i_Responder_belongs_to : PySem.W.isFn K (.ref f_Responder_belongs_to) = true)
    (l_Responder_belongs_to : K.lookup f_Responder_belongs_to = some ⟨oc_Responder_belongs_to, od_Responder_belongs_to, .func (PySem.W.fnOf "belongs_to" "Responder.belongs_to" (defArgs d_Responder_belongs_to) (defBody d_Responder_belongs_to) (defScope d_Responder_belongs_to) .none kV_Responder_belongs_to dc_Responder_belongs_to pm_Responder_belongs_to an_Responder_belongs_to cd_Responder_belongs_to ct_Responder_belongs_to), sl_Responder_belongs_to⟩)
    (x_Responder_belongs_to : PySem.W.codeIn K cd_Responder_belongs_to "Responder.belongs_to" = true)
    (k_Responder_belongs_to : PySem.W.keepIn K (.ref f_Responder_belongs_to) = true)
    (a_Caller_init : PySem.W.findIn K (.ref c_Caller) "__init__" = some (some (.ref f_Caller_init)))
    (i_Caller_init : PySem.W.isFn K (.ref f_Caller_init) = true)
    (l_Caller_init : K.lookup f_Caller_init = some ⟨oc_Caller_init, od_Caller_init, .func (PySem.W.fnOf "__init__" "Caller.__init__" (defArgs d_Caller_init) (defBody d_Caller_init) (defScope d_Caller_init) .none kV_Caller_init dc_Caller_init pm_Caller_init an_Caller_init cd_Caller_init ct_Caller_init), sl_Caller_init⟩)
    (x_Caller_init : PySem.W.codeIn K cd_Caller_init "Caller.__init__" = true)
    (k_Caller_init : PySem.W.keepIn K (.ref f_Caller_init) = true)
    (a_Caller_call_at : PySem.W.findIn K (.ref c_Caller) "call_at" = some (some (.ref f_Caller_call_at)))
    (i_Caller_call_at : PySem.W.isFn K (.ref f_Caller_call_at) = true)
    (l_Caller_call_at : K.lookup f_Caller_call_at = some ⟨oc_Caller_call_at, od_Caller_call_at, .func (PySem.W.fnOf "call_at" "Caller.call_at" (defArgs d_Caller_call_at) (defBody d_Caller_call_at) (defScope d_Caller_call_at) .none kV_Caller_call_at dc_Caller_call_at pm_Caller_call_at an_Caller_call_at cd_Caller_call_at ct_Caller_call_at), sl_Caller_call_at⟩)
    (x_Caller_call_at : PySem.W.codeIn K cd_Caller_call_at "Caller.call_at" = true)
    (k_Caller_call_at : PySem.W.keepIn K (.ref f_Caller_call_at) = true)
    (a_Caller_belongs_to : PySem.W.findIn K (.ref c_Caller) "belongs_to" = some (some (.ref f_Caller_belongs_to)))
    (i_Caller_belongs_to : PySem.W.isFn K (.ref f_Caller_belongs_to) = true)
    (l_Caller_belongs_to : K.lookup f_Caller_belongs_to = some ⟨oc_Caller_belongs_to, od_Caller_belongs_to, .func (PySem.W.fnOf "belongs_to" "Caller.belongs_to" (defArgs d_Caller_belongs_to) (defBody d_Caller_belongs_to) (defScope d_Caller_belongs_to) .none kV_Caller_belongs_to dc_Caller_belongs_to pm_Caller_belongs_to an_Caller_belongs_to cd_Caller_belongs_to ct_Caller_belongs_to), sl_Caller_belongs_to⟩)
    (x_Caller_belongs_to : PySem.W.codeIn K cd_Caller_belongs_to "Caller.belongs_to" = true)
    (k_Caller_belongs_to : PySem.W.keepIn K (.ref f_Caller_belongs_to) = true)
    (a_play : PySem.W.nsIn K mainGlobals "play" = some (some (.ref f_play)))
    (l_play : K.lookup f_play = some ⟨oc_play, od_play, .func (PySem.W.fnOf "play" "play" (defArgs d_play) (defBody d_play) (defScope d_play) .none kV_play dc_play pm_play an_play cd_play ct_play), sl_play⟩)
    (x_play : PySem.W.codeIn K cd_play "play" = true)
    (k_play : PySem.W.keepIn K (.ref f_play) = true)
    (a_played : PySem.W.nsIn K mainGlobals "_played" = some (some (.ref f_played)))
    (l_played : K.lookup f_played = some ⟨oc_played, od_played, .func (PySem.W.fnOf "_played" "_played" (defArgs d_played) (defBody d_played) (defScope d_played) .none kV_played dc_played pm_played an_played cd_played ct_played), sl_played⟩)
    (x_played : PySem.W.codeIn K cd_played "_played" = true)
    (k_played : PySem.W.keepIn K (.ref f_played) = true)
    (a_reduced_call : PySem.W.nsIn K mainGlobals "_reduced_call" = some (some (.ref f_reduced_call)))
    (l_reduced_call : K.lookup f_reduced_call = some ⟨oc_reduced_call, od_reduced_call, .func (PySem.W.fnOf "_reduced_call" "_reduced_call" (defArgs d_reduced_call) (defBody d_reduced_call) (defScope d_reduced_call) .none kV_reduced_call dc_reduced_call pm_reduced_call an_reduced_call cd_reduced_call ct_reduced_call), sl_reduced_call⟩)
    (x_reduced_call : PySem.W.codeIn K cd_reduced_call "_reduced_call" = true)
    (k_reduced_call : PySem.W.keepIn K (.ref f_reduced_call) = true)
    (a_is_layers : PySem.W.nsIn K mainGlobals "_is_layers" = some (some (.ref f_is_layers)))
    (l_is_layers : K.lookup f_is_layers = some ⟨oc_is_layers, od_is_layers, .func (PySem.W.fnOf "_is_layers" "_is_layers" (defArgs d_is_layers) (defBody d_is_layers) (defScope d_is_layers) .none kV_is_layers dc_is_layers pm_is_layers an_is_layers cd_is_layers ct_is_layers), sl_is_layers⟩)
    (x_is_layers : PySem.W.codeIn K cd_is_layers "_is_layers" = true)
    (k_is_layers : PySem.W.keepIn K (.ref f_is_layers) = true)
    (a_is_list_of_calls : PySem.W.nsIn K mainGlobals "_is_list_of_calls" = some (some (.ref f_is_list_of_calls)))
    (l_is_list_of_calls : K.lookup f_is_list_of_calls = some ⟨oc_is_list_of_calls, od_is_list_of_calls, .func (PySem.W.fnOf "_is_list_of_calls" "_is_list_of_calls" (defArgs d_is_list_of_calls) (defBody d_is_list_of_calls) (defScope d_is_list_of_calls) .none kV_is_list_of_calls dc_is_list_of_calls pm_is_list_of_calls an_is_list_of_calls cd_is_list_of_calls ct_is_list_of_calls), sl_is_list_of_calls⟩)
    (x_is_list_of_calls : PySem.W.codeIn K cd_is_list_of_calls "_is_list_of_calls" = true)
    (k_is_list_of_calls : PySem.W.keepIn K (.ref f_is_list_of_calls) = true)
    (a_is_common_witness : PySem.W.nsIn K mainGlobals "_is_common_witness" = some (some (.ref f_is_common_witness)))
    (l_is_common_witness : K.lookup f_is_common_witness = some ⟨oc_is_common_witness, od_is_common_witness, .func (PySem.W.fnOf "_is_common_witness" "_is_common_witness" (defArgs d_is_common_witness) (defBody d_is_common_witness) (defScope d_is_common_witness) .none kV_is_common_witness dc_is_common_witness pm_is_common_witness an_is_common_witness cd_is_common_witness ct_is_common_witness), sl_is_common_witness⟩)
    (x_is_common_witness : PySem.W.codeIn K cd_is_common_witness "_is_common_witness" = true)
    (k_is_common_witness : PySem.W.keepIn K (.ref f_is_common_witness) = true)
    (a_law_cell_at : PySem.W.nsIn K mainGlobals "_law_cell_at" = some (some (.ref f_law_cell_at)))
    (l_law_cell_at : K.lookup f_law_cell_at = some ⟨oc_law_cell_at, od_law_cell_at, .func (PySem.W.fnOf "_law_cell_at" "_law_cell_at" (defArgs d_law_cell_at) (defBody d_law_cell_at) (defScope d_law_cell_at) .none kV_law_cell_at dc_law_cell_at pm_law_cell_at an_law_cell_at cd_law_cell_at ct_law_cell_at), sl_law_cell_at⟩)
    (x_law_cell_at : PySem.W.codeIn K cd_law_cell_at "_law_cell_at" = true)
    (k_law_cell_at : PySem.W.keepIn K (.ref f_law_cell_at) = true)
    (a_law_source : PySem.W.nsIn K mainGlobals "_law_source" = some (some (.ref f_law_source)))
    (l_law_source : K.lookup f_law_source = some ⟨oc_law_source, od_law_source, .func (PySem.W.fnOf "_law_source" "_law_source" (defArgs d_law_source) (defBody d_law_source) (defScope d_law_source) .none kV_law_source dc_law_source pm_law_source an_law_source cd_law_source ct_law_source), sl_law_source⟩)
    (x_law_source : PySem.W.codeIn K cd_law_source "_law_source" = true)
    (k_law_source : PySem.W.keepIn K (.ref f_law_source) = true)
    (a_law_take : PySem.W.nsIn K mainGlobals "_law_take" = some (some (.ref f_law_take)))
    (l_law_take : K.lookup f_law_take = some ⟨oc_law_take, od_law_take, .func (PySem.W.fnOf "_law_take" "_law_take" (defArgs d_law_take) (defBody d_law_take) (defScope d_law_take) .none kV_law_take dc_law_take pm_law_take an_law_take cd_law_take ct_law_take), sl_law_take⟩)
    (x_law_take : PySem.W.codeIn K cd_law_take "_law_take" = true)
    (k_law_take : PySem.W.keepIn K (.ref f_law_take) = true)
    (a_law_pick : PySem.W.nsIn K mainGlobals "_law_pick" = some (some (.ref f_law_pick)))
    (l_law_pick : K.lookup f_law_pick = some ⟨oc_law_pick, od_law_pick, .func (PySem.W.fnOf "_law_pick" "_law_pick" (defArgs d_law_pick) (defBody d_law_pick) (defScope d_law_pick) .none kV_law_pick dc_law_pick pm_law_pick an_law_pick cd_law_pick ct_law_pick), sl_law_pick⟩)
    (x_law_pick : PySem.W.codeIn K cd_law_pick "_law_pick" = true)
    (k_law_pick : PySem.W.keepIn K (.ref f_law_pick) = true)
    (a_law_shuffled : PySem.W.nsIn K mainGlobals "_law_shuffled" = some (some (.ref f_law_shuffled)))
    (l_law_shuffled : K.lookup f_law_shuffled = some ⟨oc_law_shuffled, od_law_shuffled, .func (PySem.W.fnOf "_law_shuffled" "_law_shuffled" (defArgs d_law_shuffled) (defBody d_law_shuffled) (defScope d_law_shuffled) .none kV_law_shuffled dc_law_shuffled pm_law_shuffled an_law_shuffled cd_law_shuffled ct_law_shuffled), sl_law_shuffled⟩)
    (x_law_shuffled : PySem.W.codeIn K cd_law_shuffled "_law_shuffled" = true)
    (k_law_shuffled : PySem.W.keepIn K (.ref f_law_shuffled) = true)
    (a_law_drawn_seat : PySem.W.nsIn K mainGlobals "_law_drawn_seat" = some (some (.ref f_law_drawn_seat)))
    (l_law_drawn_seat : K.lookup f_law_drawn_seat = some ⟨oc_law_drawn_seat, od_law_drawn_seat, .func (PySem.W.fnOf "_law_drawn_seat" "_law_drawn_seat" (defArgs d_law_drawn_seat) (defBody d_law_drawn_seat) (defScope d_law_drawn_seat) .none kV_law_drawn_seat dc_law_drawn_seat pm_law_drawn_seat an_law_drawn_seat cd_law_drawn_seat ct_law_drawn_seat), sl_law_drawn_seat⟩)
    (x_law_drawn_seat : PySem.W.codeIn K cd_law_drawn_seat "_law_drawn_seat" = true)
    (k_law_drawn_seat : PySem.W.keepIn K (.ref f_law_drawn_seat) = true)
    (a_law_moved : PySem.W.nsIn K mainGlobals "_law_moved" = some (some (.ref f_law_moved)))
    (l_law_moved : K.lookup f_law_moved = some ⟨oc_law_moved, od_law_moved, .func (PySem.W.fnOf "_law_moved" "_law_moved" (defArgs d_law_moved) (defBody d_law_moved) (defScope d_law_moved) .none kV_law_moved dc_law_moved pm_law_moved an_law_moved cd_law_moved ct_law_moved), sl_law_moved⟩)
    (x_law_moved : PySem.W.codeIn K cd_law_moved "_law_moved" = true)
    (k_law_moved : PySem.W.keepIn K (.ref f_law_moved) = true)
    (a_law_drawn_call : PySem.W.nsIn K mainGlobals "_law_drawn_call" = some (some (.ref f_law_drawn_call)))
    (l_law_drawn_call : K.lookup f_law_drawn_call = some ⟨oc_law_drawn_call, od_law_drawn_call, .func (PySem.W.fnOf "_law_drawn_call" "_law_drawn_call" (defArgs d_law_drawn_call) (defBody d_law_drawn_call) (defScope d_law_drawn_call) .none kV_law_drawn_call dc_law_drawn_call pm_law_drawn_call an_law_drawn_call cd_law_drawn_call ct_law_drawn_call), sl_law_drawn_call⟩)
    (x_law_drawn_call : PySem.W.codeIn K cd_law_drawn_call "_law_drawn_call" = true)
    (k_law_drawn_call : PySem.W.keepIn K (.ref f_law_drawn_call) = true)
    (a_law_goals : PySem.W.nsIn K mainGlobals "_law_goals" = some (some (.ref f_law_goals)))
    (l_law_goals : K.lookup f_law_goals = some ⟨oc_law_goals, od_law_goals, .func (PySem.W.fnOf "_law_goals" "_law_goals" (defArgs d_law_goals) (defBody d_law_goals) (defScope d_law_goals) .none kV_law_goals dc_law_goals pm_law_goals an_law_goals cd_law_goals ct_law_goals), sl_law_goals⟩)
    (x_law_goals : PySem.W.codeIn K cd_law_goals "_law_goals" = true)
    (k_law_goals : PySem.W.keepIn K (.ref f_law_goals) = true)
    (a_law_list_calls : PySem.W.nsIn K mainGlobals "_law_list_calls" = some (some (.ref f_law_list_calls)))
    (l_law_list_calls : K.lookup f_law_list_calls = some ⟨oc_law_list_calls, od_law_list_calls, .func (PySem.W.fnOf "_law_list_calls" "_law_list_calls" (defArgs d_law_list_calls) (defBody d_law_list_calls) (defScope d_law_list_calls) .none kV_law_list_calls dc_law_list_calls pm_law_list_calls an_law_list_calls cd_law_list_calls ct_law_list_calls), sl_law_list_calls⟩)
    (x_law_list_calls : PySem.W.codeIn K cd_law_list_calls "_law_list_calls" = true)
    (k_law_list_calls : PySem.W.keepIn K (.ref f_law_list_calls) = true)
    (a_law_list_words : PySem.W.nsIn K mainGlobals "_law_list_words" = some (some (.ref f_law_list_words)))
    (l_law_list_words : K.lookup f_law_list_words = some ⟨oc_law_list_words, od_law_list_words, .func (PySem.W.fnOf "_law_list_words" "_law_list_words" (defArgs d_law_list_words) (defBody d_law_list_words) (defScope d_law_list_words) .none kV_law_list_words dc_law_list_words pm_law_list_words an_law_list_words cd_law_list_words ct_law_list_words), sl_law_list_words⟩)
    (x_law_list_words : PySem.W.codeIn K cd_law_list_words "_law_list_words" = true)
    (k_law_list_words : PySem.W.keepIn K (.ref f_law_list_words) = true)
    (a_law_rings_any : PySem.W.nsIn K mainGlobals "_law_rings_any" = some (some (.ref f_law_rings_any)))
    (l_law_rings_any : K.lookup f_law_rings_any = some ⟨oc_law_rings_any, od_law_rings_any, .func (PySem.W.fnOf "_law_rings_any" "_law_rings_any" (defArgs d_law_rings_any) (defBody d_law_rings_any) (defScope d_law_rings_any) .none kV_law_rings_any dc_law_rings_any pm_law_rings_any an_law_rings_any cd_law_rings_any ct_law_rings_any), sl_law_rings_any⟩)
    (x_law_rings_any : PySem.W.codeIn K cd_law_rings_any "_law_rings_any" = true)
    (k_law_rings_any : PySem.W.keepIn K (.ref f_law_rings_any) = true)
    (a_law_planted : PySem.W.nsIn K mainGlobals "_law_planted" = some (some (.ref f_law_planted)))
    (l_law_planted : K.lookup f_law_planted = some ⟨oc_law_planted, od_law_planted, .func (PySem.W.fnOf "_law_planted" "_law_planted" (defArgs d_law_planted) (defBody d_law_planted) (defScope d_law_planted) .none kV_law_planted dc_law_planted pm_law_planted an_law_planted cd_law_planted ct_law_planted), sl_law_planted⟩)
    (x_law_planted : PySem.W.codeIn K cd_law_planted "_law_planted" = true)
    (k_law_planted : PySem.W.keepIn K (.ref f_law_planted) = true)
    (a_law_sum_of : PySem.W.nsIn K mainGlobals "_law_sum_of" = some (some (.ref f_law_sum_of)))
    (l_law_sum_of : K.lookup f_law_sum_of = some ⟨oc_law_sum_of, od_law_sum_of, .func (PySem.W.fnOf "_law_sum_of" "_law_sum_of" (defArgs d_law_sum_of) (defBody d_law_sum_of) (defScope d_law_sum_of) .none kV_law_sum_of dc_law_sum_of pm_law_sum_of an_law_sum_of cd_law_sum_of ct_law_sum_of), sl_law_sum_of⟩)
    (x_law_sum_of : PySem.W.codeIn K cd_law_sum_of "_law_sum_of" = true)
    (k_law_sum_of : PySem.W.keepIn K (.ref f_law_sum_of) = true)
    (a_law_divisor : PySem.W.nsIn K mainGlobals "_law_divisor" = some (some (.ref f_law_divisor)))
    (l_law_divisor : K.lookup f_law_divisor = some ⟨oc_law_divisor, od_law_divisor, .func (PySem.W.fnOf "_law_divisor" "_law_divisor" (defArgs d_law_divisor) (defBody d_law_divisor) (defScope d_law_divisor) .none kV_law_divisor dc_law_divisor pm_law_divisor an_law_divisor cd_law_divisor ct_law_divisor), sl_law_divisor⟩)
    (x_law_divisor : PySem.W.codeIn K cd_law_divisor "_law_divisor" = true)
    (k_law_divisor : PySem.W.keepIn K (.ref f_law_divisor) = true)
    (a_law_factor : PySem.W.nsIn K mainGlobals "_law_factor" = some (some (.ref f_law_factor)))
    (l_law_factor : K.lookup f_law_factor = some ⟨oc_law_factor, od_law_factor, .func (PySem.W.fnOf "_law_factor" "_law_factor" (defArgs d_law_factor) (defBody d_law_factor) (defScope d_law_factor) .none kV_law_factor dc_law_factor pm_law_factor an_law_factor cd_law_factor ct_law_factor), sl_law_factor⟩)
    (x_law_factor : PySem.W.codeIn K cd_law_factor "_law_factor" = true)
    (k_law_factor : PySem.W.keepIn K (.ref f_law_factor) = true)
    (a_law_course_of : PySem.W.nsIn K mainGlobals "_law_course_of" = some (some (.ref f_law_course_of)))
    (l_law_course_of : K.lookup f_law_course_of = some ⟨oc_law_course_of, od_law_course_of, .func (PySem.W.fnOf "_law_course_of" "_law_course_of" (defArgs d_law_course_of) (defBody d_law_course_of) (defScope d_law_course_of) .none kV_law_course_of dc_law_course_of pm_law_course_of an_law_course_of cd_law_course_of ct_law_course_of), sl_law_course_of⟩)
    (x_law_course_of : PySem.W.codeIn K cd_law_course_of "_law_course_of" = true)
    (k_law_course_of : PySem.W.keepIn K (.ref f_law_course_of) = true)
    (a_law_times : PySem.W.nsIn K mainGlobals "_law_times" = some (some (.ref f_law_times)))
    (l_law_times : K.lookup f_law_times = some ⟨oc_law_times, od_law_times, .func (PySem.W.fnOf "_law_times" "_law_times" (defArgs d_law_times) (defBody d_law_times) (defScope d_law_times) .none kV_law_times dc_law_times pm_law_times an_law_times cd_law_times ct_law_times), sl_law_times⟩)
    (x_law_times : PySem.W.codeIn K cd_law_times "_law_times" = true)
    (k_law_times : PySem.W.keepIn K (.ref f_law_times) = true)
    (a_law_lists_right : PySem.W.nsIn K mainGlobals "_law_lists_right" = some (some (.ref f_law_lists_right)))
    (l_law_lists_right : K.lookup f_law_lists_right = some ⟨oc_law_lists_right, od_law_lists_right, .func (PySem.W.fnOf "_law_lists_right" "_law_lists_right" (defArgs d_law_lists_right) (defBody d_law_lists_right) (defScope d_law_lists_right) .none kV_law_lists_right dc_law_lists_right pm_law_lists_right an_law_lists_right cd_law_lists_right ct_law_lists_right), sl_law_lists_right⟩)
    (x_law_lists_right : PySem.W.codeIn K cd_law_lists_right "_law_lists_right" = true)
    (k_law_lists_right : PySem.W.keepIn K (.ref f_law_lists_right) = true)
    (a_law_witness_right : PySem.W.nsIn K mainGlobals "_law_witness_right" = some (some (.ref f_law_witness_right)))
    (l_law_witness_right : K.lookup f_law_witness_right = some ⟨oc_law_witness_right, od_law_witness_right, .func (PySem.W.fnOf "_law_witness_right" "_law_witness_right" (defArgs d_law_witness_right) (defBody d_law_witness_right) (defScope d_law_witness_right) .none kV_law_witness_right dc_law_witness_right pm_law_witness_right an_law_witness_right cd_law_witness_right ct_law_witness_right), sl_law_witness_right⟩)
    (x_law_witness_right : PySem.W.codeIn K cd_law_witness_right "_law_witness_right" = true)
    (k_law_witness_right : PySem.W.keepIn K (.ref f_law_witness_right) = true)
    (a_law : PySem.W.nsIn K mainGlobals "law" = some (some (.ref f_law)))
    (l_law : K.lookup f_law = some ⟨oc_law, od_law, .func (PySem.W.fnOf "law" "law" (defArgs d_law) (defBody d_law) (defScope d_law) .none kV_law dc_law pm_law an_law cd_law ct_law), sl_law⟩)
    (x_law : PySem.W.codeIn K cd_law "law" = true)
    (k_law : PySem.W.keepIn K (.ref f_law) = true)
    (pg_Table : PySem.W.plainGet K c_Table Str.empty = true)
    (hd_Table : PySem.W.hasDictIn K c_Table = true)
    (po_Table : PySem.W.plainOver K c_Table = true)
    (sa_Table : PySem.W.findIn K (.ref c_Table) "__setattr__" = some (some (.builtin "object.__setattr__")))
    (mk_Table : PySem.W.makesIn K c_Table = true)
    (kc_Table : PySem.W.keepIn K (.ref c_Table) = true)
    (no_Table_sizes : PySem.W.findIn K (.ref c_Table) "_sizes" = some none)
    (ih_Table : PySem.W.findIn K (.ref c_Table) "__class__" = some (some (.builtin "object.__class__")))
    (in_Table : PySem.W.specialIn K (.builtin "object.__class__") "__get__" = some (some (.builtin "getset_descriptor.__get__")))
    (it_Table : PySem.W.takesIn K (.builtin "object.__class__") = some true)
    (im_Table : PySem.W.mroIn K c_Table (.type "object") = some true)
    (pg_Responder : PySem.W.plainGet K c_Responder Str.empty = true)
    (hd_Responder : PySem.W.hasDictIn K c_Responder = true)
    (po_Responder : PySem.W.plainOver K c_Responder = true)
    (sa_Responder : PySem.W.findIn K (.ref c_Responder) "__setattr__" = some (some (.builtin "object.__setattr__")))
    (mk_Responder : PySem.W.makesIn K c_Responder = true)
    (kc_Responder : PySem.W.keepIn K (.ref c_Responder) = true)
    (no_Responder_witness : PySem.W.findIn K (.ref c_Responder) "_witness" = some none)
    (no_Responder_directions : PySem.W.findIn K (.ref c_Responder) "_directions" = some none)
    (no_Responder_numbers : PySem.W.findIn K (.ref c_Responder) "_numbers" = some none)
    (no_Responder_sizes : PySem.W.findIn K (.ref c_Responder) "_sizes" = some none)
    (no_Responder_targets : PySem.W.findIn K (.ref c_Responder) "_targets" = some none)
    (no_Responder_turn : PySem.W.findIn K (.ref c_Responder) "_turn" = some none)
    (ih_Responder : PySem.W.findIn K (.ref c_Responder) "__class__" = some (some (.builtin "object.__class__")))
    (in_Responder : PySem.W.specialIn K (.builtin "object.__class__") "__get__" = some (some (.builtin "getset_descriptor.__get__")))
    (it_Responder : PySem.W.takesIn K (.builtin "object.__class__") = some true)
    (im_Responder : PySem.W.mroIn K c_Responder (.type "object") = some true)
    (pg_Caller : PySem.W.plainGet K c_Caller Str.empty = true)
    (hd_Caller : PySem.W.hasDictIn K c_Caller = true)
    (po_Caller : PySem.W.plainOver K c_Caller = true)
    (sa_Caller : PySem.W.findIn K (.ref c_Caller) "__setattr__" = some (some (.builtin "object.__setattr__")))
    (mk_Caller : PySem.W.makesIn K c_Caller = true)
    (kc_Caller : PySem.W.keepIn K (.ref c_Caller) = true)
    (no_Caller_listed : PySem.W.findIn K (.ref c_Caller) "_listed" = some none)
    (no_Caller_grid : PySem.W.findIn K (.ref c_Caller) "_grid" = some none)
    (no_Caller_spread : PySem.W.findIn K (.ref c_Caller) "_spread" = some none)
    (no_Caller_sizes : PySem.W.findIn K (.ref c_Caller) "_sizes" = some none)
    (no_Caller_targets : PySem.W.findIn K (.ref c_Caller) "_targets" = some none)
    (no_Caller_turn : PySem.W.findIn K (.ref c_Caller) "_turn" = some none)
    (ih_Caller : PySem.W.findIn K (.ref c_Caller) "__class__" = some (some (.builtin "object.__class__")))
    (in_Caller : PySem.W.specialIn K (.builtin "object.__class__") "__get__" = some (some (.builtin "getset_descriptor.__get__")))
    (it_Caller : PySem.W.takesIn K (.builtin "object.__class__") = some true)
    (im_Caller : PySem.W.mroIn K c_Caller (.type "object") = some true)
    (y_MAX_RINGS : PySem.W.nsIn K mainGlobals "MAX_RINGS" = some (some v_MAX_RINGS))
    (r_MAX_RINGS : RelV (.int 4) v_MAX_RINGS)
    (z_all : PySem.W.nsIn K mainGlobals "all" = some none)
    (z_bool : PySem.W.nsIn K mainGlobals "bool" = some none)
    (z_enumerate : PySem.W.nsIn K mainGlobals "enumerate" = some none)
    (z_int : PySem.W.nsIn K mainGlobals "int" = some none)
    (z_isinstance : PySem.W.nsIn K mainGlobals "isinstance" = some none)
    (z_len : PySem.W.nsIn K mainGlobals "len" = some none)
    (z_list : PySem.W.nsIn K mainGlobals "list" = some none)
    (z_range : PySem.W.nsIn K mainGlobals "range" = some none)
    (z_set : PySem.W.nsIn K mainGlobals "set" = some none)
    (z_sorted : PySem.W.nsIn K mainGlobals "sorted" = some none)
    (z_str : PySem.W.nsIn K mainGlobals "str" = some none)
    (z_sum : PySem.W.nsIn K mainGlobals "sum" = some none)
    (z_tuple : PySem.W.nsIn K mainGlobals "tuple" = some none)
    (z_zip : PySem.W.nsIn K mainGlobals "zip" = some none)
    (ho_CX0 : Unit := ()) : ∃ fd : FuncData, (∀ (s : Shared) (v : Value), BindsTo s fd ⟨[v], []⟩ [("_law_script", v)]) ∧ ∀ base : Heap, K.In base → base.Ns mainGlobals mg → FnOk P w K mg base CX0 9 fa fd ["_law_script"] (sp_law K) := by
  have e := hfa.symm.trans (PySem.W.mg_of X G a_law)
  cases e
  have F_is_integer := fun_mk (st := d_is_integer) l_is_integer x_is_integer k_is_integer
  have b_is_integer := F_is_integer.binds (ps := ["number"]) fun _ _ _ _ _ _ us hl => match us, hl with | [_], _ => rfl
  have F_is_place := fun_mk (st := d_is_place) l_is_place x_is_place k_is_place
  have b_is_place := F_is_place.binds (ps := ["size", "place"]) fun _ _ _ _ _ _ us hl => match us, hl with | [_, _], _ => rfl
  have F_is_seat := fun_mk (st := d_is_seat) l_is_seat x_is_seat k_is_seat
  have b_is_seat := F_is_seat.binds (ps := ["sizes", "seat"]) fun _ _ _ _ _ _ us hl => match us, hl with | [_, _], _ => rfl
  have F_is_call := fun_mk (st := d_is_call) l_is_call x_is_call k_is_call
  have b_is_call := F_is_call.binds (ps := ["sizes", "call"]) fun _ _ _ _ _ _ us hl => match us, hl with | [_, _], _ => rfl
  have F_is_direction := fun_mk (st := d_is_direction) l_is_direction x_is_direction k_is_direction
  have b_is_direction := F_is_direction.binds (ps := ["direction"]) fun _ _ _ _ _ _ us hl => match us, hl with | [_], _ => rfl
  have F_is_list_of_directions := fun_mk (st := d_is_list_of_directions) l_is_list_of_directions x_is_list_of_directions k_is_list_of_directions
  have b_is_list_of_directions := F_is_list_of_directions.binds (ps := ["directions"]) fun _ _ _ _ _ _ us hl => match us, hl with | [_], _ => rfl
  have F_is_modulus := fun_mk (st := d_is_modulus) l_is_modulus x_is_modulus k_is_modulus
  have b_is_modulus := F_is_modulus.binds (ps := ["modulus"]) fun _ _ _ _ _ _ us hl => match us, hl with | [_], _ => rfl
  have F_are_weights := fun_mk (st := d_are_weights) l_are_weights x_are_weights k_are_weights
  have b_are_weights := F_are_weights.binds (ps := ["sizes", "modulus", "weights"]) fun _ _ _ _ _ _ us hl => match us, hl with | [_, _, _], _ => rfl
  have F_is_witness := fun_mk (st := d_is_witness) l_is_witness x_is_witness k_is_witness
  have b_is_witness := F_is_witness.binds (ps := ["sizes", "witness"]) fun _ _ _ _ _ _ us hl => match us, hl with | [_, _], _ => rfl
  have F_require_seat := fun_mk (st := d_require_seat) l_require_seat x_require_seat k_require_seat
  have b_require_seat := F_require_seat.binds (ps := ["sizes", "seat"]) fun _ _ _ _ _ _ us hl => match us, hl with | [_, _], _ => rfl
  have F_require_call := fun_mk (st := d_require_call) l_require_call x_require_call k_require_call
  have b_require_call := F_require_call.binds (ps := ["sizes", "call"]) fun _ _ _ _ _ _ us hl => match us, hl with | [_, _], _ => rfl
  have F_require_witness := fun_mk (st := d_require_witness) l_require_witness x_require_witness k_require_witness
  have b_require_witness := F_require_witness.binds (ps := ["sizes", "witness"]) fun _ _ _ _ _ _ us hl => match us, hl with | [_, _], _ => rfl
  have F_require_seats := fun_mk (st := d_require_seats) l_require_seats x_require_seats k_require_seats
  have b_require_seats := F_require_seats.binds (ps := ["sizes", "seats"]) fun _ _ _ _ _ _ us hl => match us, hl with | [_, _], _ => rfl
  have F_require_targets := fun_mk (st := d_require_targets) l_require_targets x_require_targets k_require_targets
  have b_require_targets := F_require_targets.binds (ps := ["sizes", "targets"]) fun _ _ _ _ _ _ us hl => match us, hl with | [_, _], _ => rfl
  have F_require_number := fun_mk (st := d_require_number) l_require_number x_require_number k_require_number
  have b_require_number := F_require_number.binds (ps := ["number", "least", "name"]) fun _ _ _ _ _ _ us hl => match us, hl with | [_, _, _], _ => rfl
  have F_Table_init := fun_mk (st := d_Table_init) l_Table_init x_Table_init k_Table_init
  have b_Table_init := F_Table_init.binds (ps := ["self", "rings"]) fun _ _ _ _ _ _ us hl => match us, hl with | [_, _], _ => rfl
  have F_Table_sizes := fun_mk (st := d_Table_sizes) l_Table_sizes x_Table_sizes k_Table_sizes
  have b_Table_sizes := F_Table_sizes.binds (ps := ["self"]) fun _ _ _ _ _ _ us hl => match us, hl with | [_], _ => rfl
  have F_sizes_of := fun_mk (st := d_sizes_of) l_sizes_of x_sizes_of k_sizes_of
  have b_sizes_of := F_sizes_of.binds (ps := ["table"]) fun _ _ _ _ _ _ us hl => match us, hl with | [_], _ => rfl
  have F_both_moves := fun_mk (st := d_both_moves) l_both_moves x_both_moves k_both_moves
  have b_both_moves := F_both_moves.binds (ps := ["sizes", "seat", "call"]) fun _ _ _ _ _ _ us hl => match us, hl with | [_, _, _], _ => rfl
  have F_stepped := fun_mk (st := d_stepped) l_stepped x_stepped k_stepped
  have b_stepped := F_stepped.binds (ps := ["sizes", "seat", "call", "direction"]) fun _ _ _ _ _ _ us hl => match us, hl with | [_, _, _, _], _ => rfl
  have F_are_sizes := fun_mk (st := d_are_sizes) l_are_sizes x_are_sizes k_are_sizes
  have b_are_sizes := F_are_sizes.binds (ps := ["rings"]) fun _ _ _ _ _ _ us hl => match us, hl with | [_], _ => rfl
  have F_weighted_sum := fun_mk (st := d_weighted_sum) l_weighted_sum x_weighted_sum k_weighted_sum
  have b_weighted_sum := F_weighted_sum.binds (ps := ["weights", "vector"]) fun _ _ _ _ _ _ us hl => match us, hl with | [_, _], _ => rfl
  have F_has_residue := fun_mk (st := d_has_residue) l_has_residue x_has_residue k_has_residue
  have b_has_residue := F_has_residue.binds (ps := ["witness", "seat"]) fun _ _ _ _ _ _ us hl => match us, hl with | [_, _], _ => rfl
  have F_direction_off := fun_mk (st := d_direction_off) l_direction_off x_direction_off k_direction_off
  have b_direction_off := F_direction_off.binds (ps := ["witness", "seat", "call"]) fun _ _ _ _ _ _ us hl => match us, hl with | [_, _, _], _ => rfl
  have F_avoiding_direction := fun_mk (st := d_avoiding_direction) l_avoiding_direction x_avoiding_direction k_avoiding_direction
  have b_avoiding_direction := F_avoiding_direction.binds (ps := ["table", "witness", "seat", "call"]) fun _ _ _ _ _ _ us hl => match us, hl with | [_, _, _, _], _ => rfl
  have F_Responder_init := fun_mk (st := d_Responder_init) l_Responder_init x_Responder_init k_Responder_init
  have b_Responder_init := F_Responder_init.binds (ps := ["self", "table", "targets", "strategy"]) fun _ _ _ _ _ _ us hl => match us, hl with | [_, _, _, _], _ => rfl
  have F_Responder_answer := fun_mk (st := d_Responder_answer) l_Responder_answer x_Responder_answer k_Responder_answer
  have b_Responder_answer := F_Responder_answer.binds (ps := ["self", "seat", "call"]) fun _ _ _ _ _ _ us hl => match us, hl with | [_, _, _], _ => rfl
  have F_Responder_direction_at := fun_mk (st := d_Responder_direction_at) l_Responder_direction_at x_Responder_direction_at k_Responder_direction_at
  have b_Responder_direction_at := F_Responder_direction_at.binds (ps := ["self", "turn", "seat", "call"]) fun _ _ _ _ _ _ us hl => match us, hl with | [_, _, _, _], _ => rfl
  have F_Responder_has_lost_at := fun_mk (st := d_Responder_has_lost_at) l_Responder_has_lost_at x_Responder_has_lost_at k_Responder_has_lost_at
  have b_Responder_has_lost_at := F_Responder_has_lost_at.binds (ps := ["self", "seat"]) fun _ _ _ _ _ _ us hl => match us, hl with | [_, _], _ => rfl
  have F_Responder_belongs_to := fun_mk (st := d_Responder_belongs_to) l_Responder_belongs_to x_Responder_belongs_to k_Responder_belongs_to
  have b_Responder_belongs_to := F_Responder_belongs_to.binds (ps := ["self", "sizes", "targets"]) fun _ _ _ _ _ _ us hl => match us, hl with | [_, _, _], _ => rfl
  have F_Caller_init := fun_mk (st := d_Caller_init) l_Caller_init x_Caller_init k_Caller_init
  have b_Caller_init := F_Caller_init.binds (ps := ["self", "table", "targets", "strategy"]) fun _ _ _ _ _ _ us hl => match us, hl with | [_, _, _, _], _ => rfl
  have F_Caller_call_at := fun_mk (st := d_Caller_call_at) l_Caller_call_at x_Caller_call_at k_Caller_call_at
  have b_Caller_call_at := F_Caller_call_at.binds (ps := ["self", "turn", "seat"]) fun _ _ _ _ _ _ us hl => match us, hl with | [_, _, _], _ => rfl
  have F_Caller_belongs_to := fun_mk (st := d_Caller_belongs_to) l_Caller_belongs_to x_Caller_belongs_to k_Caller_belongs_to
  have b_Caller_belongs_to := F_Caller_belongs_to.binds (ps := ["self", "sizes", "targets"]) fun _ _ _ _ _ _ us hl => match us, hl with | [_, _, _], _ => rfl
  have F_play := fun_mk (st := d_play) l_play x_play k_play
  have b_play := F_play.binds (ps := ["table", "targets", "seat", "caller", "responder", "limit"]) fun _ _ _ _ _ _ us hl => match us, hl with | [_, _, _, _, _, _], _ => rfl
  have F_played := fun_mk (st := d_played) l_played x_played k_played
  have b_played := F_played.binds (ps := ["sizes", "targets", "seat", "caller", "responder", "limit"]) fun _ _ _ _ _ _ us hl => match us, hl with | [_, _, _, _, _, _], _ => rfl
  have F_reduced_call := fun_mk (st := d_reduced_call) l_reduced_call x_reduced_call k_reduced_call
  have b_reduced_call := F_reduced_call.binds (ps := ["sizes", "call"]) fun _ _ _ _ _ _ us hl => match us, hl with | [_, _], _ => rfl
  have F_is_layers := fun_mk (st := d_is_layers) l_is_layers x_is_layers k_is_layers
  have b_is_layers := F_is_layers.binds (ps := ["strategy"]) fun _ _ _ _ _ _ us hl => match us, hl with | [_], _ => rfl
  have F_is_list_of_calls := fun_mk (st := d_is_list_of_calls) l_is_list_of_calls x_is_list_of_calls k_is_list_of_calls
  have b_is_list_of_calls := F_is_list_of_calls.binds (ps := ["sizes", "strategy"]) fun _ _ _ _ _ _ us hl => match us, hl with | [_, _], _ => rfl
  have F_is_common_witness := fun_mk (st := d_is_common_witness) l_is_common_witness x_is_common_witness k_is_common_witness
  have b_is_common_witness := F_is_common_witness.binds (ps := ["sizes", "targets", "strategy"]) fun _ _ _ _ _ _ us hl => match us, hl with | [_, _, _], _ => rfl
  have F_law_cell_at := fun_mk (st := d_law_cell_at) l_law_cell_at x_law_cell_at k_law_cell_at
  have b_law_cell_at := F_law_cell_at.binds (ps := ["_law_script", "_law_k"]) fun _ _ _ _ _ _ us hl => match us, hl with | [_, _], _ => rfl
  have F_law_source := fun_mk (st := d_law_source) l_law_source x_law_source k_law_source
  have b_law_source := F_law_source.binds (ps := ["_law_cell"]) fun _ _ _ _ _ _ us hl => match us, hl with | [_], _ => rfl
  have F_law_take := fun_mk (st := d_law_take) l_law_take x_law_take k_law_take
  have b_law_take := F_law_take.binds (ps := ["_law_source_here", "_law_bound"]) fun _ _ _ _ _ _ us hl => match us, hl with | [_, _], _ => rfl
  have F_law_pick := fun_mk (st := d_law_pick) l_law_pick x_law_pick k_law_pick
  have b_law_pick := F_law_pick.binds (ps := ["_law_source_here", "_law_items"]) fun _ _ _ _ _ _ us hl => match us, hl with | [_, _], _ => rfl
  have F_law_shuffled := fun_mk (st := d_law_shuffled) l_law_shuffled x_law_shuffled k_law_shuffled
  have b_law_shuffled := F_law_shuffled.binds (ps := ["_law_source_here", "_law_items"]) fun _ _ _ _ _ _ us hl => match us, hl with | [_, _], _ => rfl
  have F_law_drawn_seat := fun_mk (st := d_law_drawn_seat) l_law_drawn_seat x_law_drawn_seat k_law_drawn_seat
  have b_law_drawn_seat := F_law_drawn_seat.binds (ps := ["_law_source_here", "_law_rings"]) fun _ _ _ _ _ _ us hl => match us, hl with | [_, _], _ => rfl
  have F_law_moved := fun_mk (st := d_law_moved) l_law_moved x_law_moved k_law_moved
  have b_law_moved := F_law_moved.binds (ps := ["_law_rings", "_law_spot", "_law_call_in", "_law_sign"]) fun _ _ _ _ _ _ us hl => match us, hl with | [_, _, _, _], _ => rfl
  have F_law_drawn_call := fun_mk (st := d_law_drawn_call) l_law_drawn_call x_law_drawn_call k_law_drawn_call
  have b_law_drawn_call := F_law_drawn_call.binds (ps := ["_law_source_here", "_law_rings"]) fun _ _ _ _ _ _ us hl => match us, hl with | [_, _], _ => rfl
  have F_law_goals := fun_mk (st := d_law_goals) l_law_goals x_law_goals k_law_goals
  have b_law_goals := F_law_goals.binds (ps := ["_law_source_here", "_law_rings", "_law_bound"]) fun _ _ _ _ _ _ us hl => match us, hl with | [_, _, _], _ => rfl
  have F_law_list_calls := fun_mk (st := d_law_list_calls) l_law_list_calls x_law_list_calls k_law_list_calls
  have b_law_list_calls := F_law_list_calls.binds (ps := ["_law_source_here", "_law_rings", "_law_bound"]) fun _ _ _ _ _ _ us hl => match us, hl with | [_, _, _], _ => rfl
  have F_law_list_words := fun_mk (st := d_law_list_words) l_law_list_words x_law_list_words k_law_list_words
  have b_law_list_words := F_law_list_words.binds (ps := ["_law_source_here", "_law_bound"]) fun _ _ _ _ _ _ us hl => match us, hl with | [_, _], _ => rfl
  have F_law_rings_any := fun_mk (st := d_law_rings_any) l_law_rings_any x_law_rings_any k_law_rings_any
  have b_law_rings_any := F_law_rings_any.binds (ps := ["_law_source_here"]) fun _ _ _ _ _ _ us hl => match us, hl with | [_], _ => rfl
  have F_law_planted := fun_mk (st := d_law_planted) l_law_planted x_law_planted k_law_planted
  have b_law_planted := F_law_planted.binds (ps := ["_law_source_here", "_law_wide"]) fun _ _ _ _ _ _ us hl => match us, hl with | [_, _], _ => rfl
  have F_law_sum_of := fun_mk (st := d_law_sum_of) l_law_sum_of x_law_sum_of k_law_sum_of
  have b_law_sum_of := F_law_sum_of.binds (ps := ["_law_modulus", "_law_weights", "_law_spot"]) fun _ _ _ _ _ _ us hl => match us, hl with | [_, _, _], _ => rfl
  have F_law_divisor := fun_mk (st := d_law_divisor) l_law_divisor x_law_divisor k_law_divisor
  have b_law_divisor := F_law_divisor.binds (ps := ["_law_one", "_law_other"]) fun _ _ _ _ _ _ us hl => match us, hl with | [_, _], _ => rfl
  have F_law_factor := fun_mk (st := d_law_factor) l_law_factor x_law_factor k_law_factor
  have b_law_factor := F_law_factor.binds (ps := ["_law_source_here", "_law_size"]) fun _ _ _ _ _ _ us hl => match us, hl with | [_, _], _ => rfl
  have F_law_course_of := fun_mk (st := d_law_course_of) l_law_course_of x_law_course_of k_law_course_of
  have b_law_course_of := F_law_course_of.binds (ps := ["_law_rings", "_law_goals_here", "_law_spot", "_law_called", "_law_words"]) fun _ _ _ _ _ _ us hl => match us, hl with | [_, _, _, _, _], _ => rfl
  have F_law_times := fun_mk (st := d_law_times) l_law_times x_law_times k_law_times
  have b_law_times := F_law_times.binds (ps := ["_law_rings", "_law_factors", "_law_spot"]) fun _ _ _ _ _ _ us hl => match us, hl with | [_, _, _], _ => rfl
  have F_law_lists_right := fun_mk (st := d_law_lists_right) l_law_lists_right x_law_lists_right k_law_lists_right
  have b_law_lists_right := F_law_lists_right.binds (ps := ["_law_source_here", "_law_rings", "_law_goals_here", "_law_called", "_law_words"]) fun _ _ _ _ _ _ us hl => match us, hl with | [_, _, _, _, _], _ => rfl
  have F_law_witness_right := fun_mk (st := d_law_witness_right) l_law_witness_right x_law_witness_right k_law_witness_right
  have b_law_witness_right := F_law_witness_right.binds (ps := ["_law_source_here"]) fun _ _ _ _ _ _ us hl => match us, hl with | [_], _ => rfl
  have F_law := fun_mk (st := d_law) l_law x_law k_law
  have b_law := F_law.binds (ps := ["_law_script"]) fun _ _ _ _ _ _ us hl => match us, hl with | [_], _ => rfl
  let T : Tx K mg := { f_is_integer := f_is_integer, fd_is_integer := _, F_is_integer := F_is_integer, b_is_integer := b_is_integer, g_is_integer := PySem.W.mg_of X G a_is_integer, f_is_place := f_is_place, fd_is_place := _, F_is_place := F_is_place, b_is_place := b_is_place, g_is_place := PySem.W.mg_of X G a_is_place, f_is_seat := f_is_seat, fd_is_seat := _, F_is_seat := F_is_seat, b_is_seat := b_is_seat, g_is_seat := PySem.W.mg_of X G a_is_seat, f_is_call := f_is_call, fd_is_call := _, F_is_call := F_is_call, b_is_call := b_is_call, g_is_call := PySem.W.mg_of X G a_is_call, f_is_direction := f_is_direction, fd_is_direction := _, F_is_direction := F_is_direction, b_is_direction := b_is_direction, g_is_direction := PySem.W.mg_of X G a_is_direction, f_is_list_of_directions := f_is_list_of_directions, fd_is_list_of_directions := _, F_is_list_of_directions := F_is_list_of_directions, b_is_list_of_directions := b_is_list_of_directions, g_is_list_of_directions := PySem.W.mg_of X G a_is_list_of_directions, f_is_modulus := f_is_modulus, fd_is_modulus := _, F_is_modulus := F_is_modulus, b_is_modulus := b_is_modulus, g_is_modulus := PySem.W.mg_of X G a_is_modulus, f_are_weights := f_are_weights, fd_are_weights := _, F_are_weights := F_are_weights, b_are_weights := b_are_weights, g_are_weights := PySem.W.mg_of X G a_are_weights, f_is_witness := f_is_witness, fd_is_witness := _, F_is_witness := F_is_witness, b_is_witness := b_is_witness, g_is_witness := PySem.W.mg_of X G a_is_witness, f_require_seat := f_require_seat, fd_require_seat := _, F_require_seat := F_require_seat, b_require_seat := b_require_seat, g_require_seat := PySem.W.mg_of X G a_require_seat, f_require_call := f_require_call, fd_require_call := _, F_require_call := F_require_call, b_require_call := b_require_call, g_require_call := PySem.W.mg_of X G a_require_call, f_require_witness := f_require_witness, fd_require_witness := _, F_require_witness := F_require_witness, b_require_witness := b_require_witness, g_require_witness := PySem.W.mg_of X G a_require_witness, f_require_seats := f_require_seats, fd_require_seats := _, F_require_seats := F_require_seats, b_require_seats := b_require_seats, g_require_seats := PySem.W.mg_of X G a_require_seats, f_require_targets := f_require_targets, fd_require_targets := _, F_require_targets := F_require_targets, b_require_targets := b_require_targets, g_require_targets := PySem.W.mg_of X G a_require_targets, f_require_number := f_require_number, fd_require_number := _, F_require_number := F_require_number, b_require_number := b_require_number, g_require_number := PySem.W.mg_of X G a_require_number, f_Table_init := f_Table_init, fd_Table_init := _, F_Table_init := F_Table_init, b_Table_init := b_Table_init, f_Table_sizes := f_Table_sizes, fd_Table_sizes := _, F_Table_sizes := F_Table_sizes, b_Table_sizes := b_Table_sizes, f_sizes_of := f_sizes_of, fd_sizes_of := _, F_sizes_of := F_sizes_of, b_sizes_of := b_sizes_of, g_sizes_of := PySem.W.mg_of X G a_sizes_of, f_both_moves := f_both_moves, fd_both_moves := _, F_both_moves := F_both_moves, b_both_moves := b_both_moves, g_both_moves := PySem.W.mg_of X G a_both_moves, f_stepped := f_stepped, fd_stepped := _, F_stepped := F_stepped, b_stepped := b_stepped, g_stepped := PySem.W.mg_of X G a_stepped, f_are_sizes := f_are_sizes, fd_are_sizes := _, F_are_sizes := F_are_sizes, b_are_sizes := b_are_sizes, g_are_sizes := PySem.W.mg_of X G a_are_sizes, f_weighted_sum := f_weighted_sum, fd_weighted_sum := _, F_weighted_sum := F_weighted_sum, b_weighted_sum := b_weighted_sum, g_weighted_sum := PySem.W.mg_of X G a_weighted_sum, f_has_residue := f_has_residue, fd_has_residue := _, F_has_residue := F_has_residue, b_has_residue := b_has_residue, g_has_residue := PySem.W.mg_of X G a_has_residue, f_direction_off := f_direction_off, fd_direction_off := _, F_direction_off := F_direction_off, b_direction_off := b_direction_off, g_direction_off := PySem.W.mg_of X G a_direction_off, f_avoiding_direction := f_avoiding_direction, fd_avoiding_direction := _, F_avoiding_direction := F_avoiding_direction, b_avoiding_direction := b_avoiding_direction, g_avoiding_direction := PySem.W.mg_of X G a_avoiding_direction, f_Responder_init := f_Responder_init, fd_Responder_init := _, F_Responder_init := F_Responder_init, b_Responder_init := b_Responder_init, f_Responder_answer := f_Responder_answer, fd_Responder_answer := _, F_Responder_answer := F_Responder_answer, b_Responder_answer := b_Responder_answer, f_Responder_direction_at := f_Responder_direction_at, fd_Responder_direction_at := _, F_Responder_direction_at := F_Responder_direction_at, b_Responder_direction_at := b_Responder_direction_at, f_Responder_has_lost_at := f_Responder_has_lost_at, fd_Responder_has_lost_at := _, F_Responder_has_lost_at := F_Responder_has_lost_at, b_Responder_has_lost_at := b_Responder_has_lost_at, f_Responder_belongs_to := f_Responder_belongs_to, fd_Responder_belongs_to := _, F_Responder_belongs_to := F_Responder_belongs_to, b_Responder_belongs_to := b_Responder_belongs_to, f_Caller_init := f_Caller_init, fd_Caller_init := _, F_Caller_init := F_Caller_init, b_Caller_init := b_Caller_init, f_Caller_call_at := f_Caller_call_at, fd_Caller_call_at := _, F_Caller_call_at := F_Caller_call_at, b_Caller_call_at := b_Caller_call_at, f_Caller_belongs_to := f_Caller_belongs_to, fd_Caller_belongs_to := _, F_Caller_belongs_to := F_Caller_belongs_to, b_Caller_belongs_to := b_Caller_belongs_to, f_play := f_play, fd_play := _, F_play := F_play, b_play := b_play, g_play := PySem.W.mg_of X G a_play, f_played := f_played, fd_played := _, F_played := F_played, b_played := b_played, g_played := PySem.W.mg_of X G a_played, f_reduced_call := f_reduced_call, fd_reduced_call := _, F_reduced_call := F_reduced_call, b_reduced_call := b_reduced_call, g_reduced_call := PySem.W.mg_of X G a_reduced_call, f_is_layers := f_is_layers, fd_is_layers := _, F_is_layers := F_is_layers, b_is_layers := b_is_layers, g_is_layers := PySem.W.mg_of X G a_is_layers, f_is_list_of_calls := f_is_list_of_calls, fd_is_list_of_calls := _, F_is_list_of_calls := F_is_list_of_calls, b_is_list_of_calls := b_is_list_of_calls, g_is_list_of_calls := PySem.W.mg_of X G a_is_list_of_calls, f_is_common_witness := f_is_common_witness, fd_is_common_witness := _, F_is_common_witness := F_is_common_witness, b_is_common_witness := b_is_common_witness, g_is_common_witness := PySem.W.mg_of X G a_is_common_witness, f_law_cell_at := f_law_cell_at, fd_law_cell_at := _, F_law_cell_at := F_law_cell_at, b_law_cell_at := b_law_cell_at, g_law_cell_at := PySem.W.mg_of X G a_law_cell_at, f_law_source := f_law_source, fd_law_source := _, F_law_source := F_law_source, b_law_source := b_law_source, g_law_source := PySem.W.mg_of X G a_law_source, f_law_take := f_law_take, fd_law_take := _, F_law_take := F_law_take, b_law_take := b_law_take, g_law_take := PySem.W.mg_of X G a_law_take, f_law_pick := f_law_pick, fd_law_pick := _, F_law_pick := F_law_pick, b_law_pick := b_law_pick, g_law_pick := PySem.W.mg_of X G a_law_pick, f_law_shuffled := f_law_shuffled, fd_law_shuffled := _, F_law_shuffled := F_law_shuffled, b_law_shuffled := b_law_shuffled, g_law_shuffled := PySem.W.mg_of X G a_law_shuffled, f_law_drawn_seat := f_law_drawn_seat, fd_law_drawn_seat := _, F_law_drawn_seat := F_law_drawn_seat, b_law_drawn_seat := b_law_drawn_seat, g_law_drawn_seat := PySem.W.mg_of X G a_law_drawn_seat, f_law_moved := f_law_moved, fd_law_moved := _, F_law_moved := F_law_moved, b_law_moved := b_law_moved, g_law_moved := PySem.W.mg_of X G a_law_moved, f_law_drawn_call := f_law_drawn_call, fd_law_drawn_call := _, F_law_drawn_call := F_law_drawn_call, b_law_drawn_call := b_law_drawn_call, g_law_drawn_call := PySem.W.mg_of X G a_law_drawn_call, f_law_goals := f_law_goals, fd_law_goals := _, F_law_goals := F_law_goals, b_law_goals := b_law_goals, g_law_goals := PySem.W.mg_of X G a_law_goals, f_law_list_calls := f_law_list_calls, fd_law_list_calls := _, F_law_list_calls := F_law_list_calls, b_law_list_calls := b_law_list_calls, g_law_list_calls := PySem.W.mg_of X G a_law_list_calls, f_law_list_words := f_law_list_words, fd_law_list_words := _, F_law_list_words := F_law_list_words, b_law_list_words := b_law_list_words, g_law_list_words := PySem.W.mg_of X G a_law_list_words, f_law_rings_any := f_law_rings_any, fd_law_rings_any := _, F_law_rings_any := F_law_rings_any, b_law_rings_any := b_law_rings_any, g_law_rings_any := PySem.W.mg_of X G a_law_rings_any, f_law_planted := f_law_planted, fd_law_planted := _, F_law_planted := F_law_planted, b_law_planted := b_law_planted, g_law_planted := PySem.W.mg_of X G a_law_planted, f_law_sum_of := f_law_sum_of, fd_law_sum_of := _, F_law_sum_of := F_law_sum_of, b_law_sum_of := b_law_sum_of, g_law_sum_of := PySem.W.mg_of X G a_law_sum_of, f_law_divisor := f_law_divisor, fd_law_divisor := _, F_law_divisor := F_law_divisor, b_law_divisor := b_law_divisor, g_law_divisor := PySem.W.mg_of X G a_law_divisor, f_law_factor := f_law_factor, fd_law_factor := _, F_law_factor := F_law_factor, b_law_factor := b_law_factor, g_law_factor := PySem.W.mg_of X G a_law_factor, f_law_course_of := f_law_course_of, fd_law_course_of := _, F_law_course_of := F_law_course_of, b_law_course_of := b_law_course_of, g_law_course_of := PySem.W.mg_of X G a_law_course_of, f_law_times := f_law_times, fd_law_times := _, F_law_times := F_law_times, b_law_times := b_law_times, g_law_times := PySem.W.mg_of X G a_law_times, f_law_lists_right := f_law_lists_right, fd_law_lists_right := _, F_law_lists_right := F_law_lists_right, b_law_lists_right := b_law_lists_right, g_law_lists_right := PySem.W.mg_of X G a_law_lists_right, f_law_witness_right := f_law_witness_right, fd_law_witness_right := _, F_law_witness_right := F_law_witness_right, b_law_witness_right := b_law_witness_right, g_law_witness_right := PySem.W.mg_of X G a_law_witness_right, f_law := fa, fd_law := _, F_law := F_law, b_law := b_law, g_law := PySem.W.mg_of X G a_law, c_Table := c_Table, g_Table := PySem.W.mg_of X G ac_Table, cl_Table := ⟨pg_Table, hd_Table, po_Table, sa_Table⟩, M_Table := ⟨mk_Table, a_Table_init, i_Table_init, kc_Table⟩, m_Table_sizes := ⟨a_Table_sizes, i_Table_sizes, k_Table_sizes⟩, no_Table_sizes := no_Table_sizes, ins_Table := ⟨⟨pg_Table, hd_Table, po_Table, sa_Table⟩, ih_Table, in_Table, it_Table, im_Table, kit_self _ _⟩, c_Responder := c_Responder, g_Responder := PySem.W.mg_of X G ac_Responder, cl_Responder := ⟨pg_Responder, hd_Responder, po_Responder, sa_Responder⟩, M_Responder := ⟨mk_Responder, a_Responder_init, i_Responder_init, kc_Responder⟩, m_Responder_answer := ⟨a_Responder_answer, i_Responder_answer, k_Responder_answer⟩, m_Responder_direction_at := ⟨a_Responder_direction_at, i_Responder_direction_at, k_Responder_direction_at⟩, m_Responder_has_lost_at := ⟨a_Responder_has_lost_at, i_Responder_has_lost_at, k_Responder_has_lost_at⟩, m_Responder_belongs_to := ⟨a_Responder_belongs_to, i_Responder_belongs_to, k_Responder_belongs_to⟩, no_Responder_witness := no_Responder_witness, no_Responder_directions := no_Responder_directions, no_Responder_numbers := no_Responder_numbers, no_Responder_sizes := no_Responder_sizes, no_Responder_targets := no_Responder_targets, no_Responder_turn := no_Responder_turn, ins_Responder := ⟨⟨pg_Responder, hd_Responder, po_Responder, sa_Responder⟩, ih_Responder, in_Responder, it_Responder, im_Responder, kit_self _ _⟩, c_Caller := c_Caller, g_Caller := PySem.W.mg_of X G ac_Caller, cl_Caller := ⟨pg_Caller, hd_Caller, po_Caller, sa_Caller⟩, M_Caller := ⟨mk_Caller, a_Caller_init, i_Caller_init, kc_Caller⟩, m_Caller_call_at := ⟨a_Caller_call_at, i_Caller_call_at, k_Caller_call_at⟩, m_Caller_belongs_to := ⟨a_Caller_belongs_to, i_Caller_belongs_to, k_Caller_belongs_to⟩, no_Caller_listed := no_Caller_listed, no_Caller_grid := no_Caller_grid, no_Caller_spread := no_Caller_spread, no_Caller_sizes := no_Caller_sizes, no_Caller_targets := no_Caller_targets, no_Caller_turn := no_Caller_turn, ins_Caller := ⟨⟨pg_Caller, hd_Caller, po_Caller, sa_Caller⟩, ih_Caller, in_Caller, it_Caller, im_Caller, kit_self _ _⟩, v_MAX_RINGS := _, g_MAX_RINGS := PySem.W.mg_of X G y_MAX_RINGS, r_MAX_RINGS := r_MAX_RINGS, n_all := PySem.W.mg_none_of X G z_all, n_bool := PySem.W.mg_none_of X G z_bool, n_enumerate := PySem.W.mg_none_of X G z_enumerate, n_int := PySem.W.mg_none_of X G z_int, n_isinstance := PySem.W.mg_none_of X G z_isinstance, n_len := PySem.W.mg_none_of X G z_len, n_list := PySem.W.mg_none_of X G z_list, n_range := PySem.W.mg_none_of X G z_range, n_set := PySem.W.mg_none_of X G z_set, n_sorted := PySem.W.mg_none_of X G z_sorted, n_str := PySem.W.mg_none_of X G z_str, n_sum := PySem.W.mg_none_of X G z_sum, n_tuple := PySem.W.mg_none_of X G z_tuple, n_zip := PySem.W.mg_none_of X G z_zip }
  exact ⟨PySem.W.fnOf "law" "law" (defArgs d_law) (defBody d_law) (defScope d_law) .none kV_law dc_law pm_law an_law cd_law ct_law, fun s v => .of_eq rfl, fun base _ _ => ok_law (P := P) (w := w) (base := base) T⟩
section head
open He
theorem facts {P : Program} {w : World} {K : PySem.W.Frag} {h : Heap} {mg : Str → Option Value} {f : Addr} (X : K.In h) (G : h.Ns mainGlobals mg) (hfa : mg ("law" : Str) = some (.ref f)) (c : Cs.SaysM fa xt fn K) :
    ∃ fd : FuncData, (∀ (s : Shared) (v : Value), BindsTo s fd ⟨[v], []⟩ [("_law_script", v)]) ∧ ∀ base : Heap, K.In base → base.Ns mainGlobals mg → FnOk P w K mg base CX0 9 f fd ["_law_script"] (sp_law K) := by
  obtain ⟨oc_is_integer, od_is_integer, sl_is_integer, kV_is_integer, dc_is_integer, pm_is_integer, an_is_integer, cd_is_integer, ct_is_integer, l_is_integer, x_is_integer⟩ := c.def_ 0 (d := D_is_integer) rfl
  obtain ⟨oc_is_place, od_is_place, sl_is_place, kV_is_place, dc_is_place, pm_is_place, an_is_place, cd_is_place, ct_is_place, l_is_place, x_is_place⟩ := c.def_ 1 (d := D_is_place) rfl
  obtain ⟨oc_is_seat, od_is_seat, sl_is_seat, kV_is_seat, dc_is_seat, pm_is_seat, an_is_seat, cd_is_seat, ct_is_seat, l_is_seat, x_is_seat⟩ := c.def_ 2 (d := D_is_seat) rfl
  obtain ⟨oc_is_call, od_is_call, sl_is_call, kV_is_call, dc_is_call, pm_is_call, an_is_call, cd_is_call, ct_is_call, l_is_call, x_is_call⟩ := c.def_ 3 (d := D_is_call) rfl
  obtain ⟨oc_is_direction, od_is_direction, sl_is_direction, kV_is_direction, dc_is_direction, pm_is_direction, an_is_direction, cd_is_direction, ct_is_direction, l_is_direction, x_is_direction⟩ := c.def_ 4 (d := D_is_direction) rfl
  obtain ⟨oc_is_list_of_directions, od_is_list_of_directions, sl_is_list_of_directions, kV_is_list_of_directions, dc_is_list_of_directions, pm_is_list_of_directions, an_is_list_of_directions, cd_is_list_of_directions, ct_is_list_of_directions, l_is_list_of_directions, x_is_list_of_directions⟩ := c.def_ 5 (d := D_is_list_of_directions) rfl
  obtain ⟨oc_is_modulus, od_is_modulus, sl_is_modulus, kV_is_modulus, dc_is_modulus, pm_is_modulus, an_is_modulus, cd_is_modulus, ct_is_modulus, l_is_modulus, x_is_modulus⟩ := c.def_ 6 (d := D_is_modulus) rfl
  obtain ⟨oc_are_weights, od_are_weights, sl_are_weights, kV_are_weights, dc_are_weights, pm_are_weights, an_are_weights, cd_are_weights, ct_are_weights, l_are_weights, x_are_weights⟩ := c.def_ 7 (d := D_are_weights) rfl
  obtain ⟨oc_is_witness, od_is_witness, sl_is_witness, kV_is_witness, dc_is_witness, pm_is_witness, an_is_witness, cd_is_witness, ct_is_witness, l_is_witness, x_is_witness⟩ := c.def_ 8 (d := D_is_witness) rfl
  obtain ⟨oc_require_seat, od_require_seat, sl_require_seat, kV_require_seat, dc_require_seat, pm_require_seat, an_require_seat, cd_require_seat, ct_require_seat, l_require_seat, x_require_seat⟩ := c.def_ 9 (d := D_require_seat) rfl
  obtain ⟨oc_require_call, od_require_call, sl_require_call, kV_require_call, dc_require_call, pm_require_call, an_require_call, cd_require_call, ct_require_call, l_require_call, x_require_call⟩ := c.def_ 10 (d := D_require_call) rfl
  obtain ⟨oc_require_witness, od_require_witness, sl_require_witness, kV_require_witness, dc_require_witness, pm_require_witness, an_require_witness, cd_require_witness, ct_require_witness, l_require_witness, x_require_witness⟩ := c.def_ 11 (d := D_require_witness) rfl
  obtain ⟨oc_require_seats, od_require_seats, sl_require_seats, kV_require_seats, dc_require_seats, pm_require_seats, an_require_seats, cd_require_seats, ct_require_seats, l_require_seats, x_require_seats⟩ := c.def_ 12 (d := D_require_seats) rfl
  obtain ⟨oc_require_targets, od_require_targets, sl_require_targets, kV_require_targets, dc_require_targets, pm_require_targets, an_require_targets, cd_require_targets, ct_require_targets, l_require_targets, x_require_targets⟩ := c.def_ 13 (d := D_require_targets) rfl
  obtain ⟨oc_require_number, od_require_number, sl_require_number, kV_require_number, dc_require_number, pm_require_number, an_require_number, cd_require_number, ct_require_number, l_require_number, x_require_number⟩ := c.def_ 14 (d := D_require_number) rfl
  obtain ⟨oc_Table_init, od_Table_init, sl_Table_init, kV_Table_init, dc_Table_init, pm_Table_init, an_Table_init, cd_Table_init, ct_Table_init, l_Table_init, x_Table_init⟩ := c.def_ 15 (d := D_Table_init) rfl
  obtain ⟨oc_Table_sizes, od_Table_sizes, sl_Table_sizes, kV_Table_sizes, dc_Table_sizes, pm_Table_sizes, an_Table_sizes, cd_Table_sizes, ct_Table_sizes, l_Table_sizes, x_Table_sizes⟩ := c.def_ 16 (d := D_Table_sizes) rfl
  obtain ⟨oc_sizes_of, od_sizes_of, sl_sizes_of, kV_sizes_of, dc_sizes_of, pm_sizes_of, an_sizes_of, cd_sizes_of, ct_sizes_of, l_sizes_of, x_sizes_of⟩ := c.def_ 17 (d := D_sizes_of) rfl
  obtain ⟨oc_both_moves, od_both_moves, sl_both_moves, kV_both_moves, dc_both_moves, pm_both_moves, an_both_moves, cd_both_moves, ct_both_moves, l_both_moves, x_both_moves⟩ := c.def_ 18 (d := D_both_moves) rfl
  obtain ⟨oc_stepped, od_stepped, sl_stepped, kV_stepped, dc_stepped, pm_stepped, an_stepped, cd_stepped, ct_stepped, l_stepped, x_stepped⟩ := c.def_ 19 (d := D_stepped) rfl
  obtain ⟨oc_are_sizes, od_are_sizes, sl_are_sizes, kV_are_sizes, dc_are_sizes, pm_are_sizes, an_are_sizes, cd_are_sizes, ct_are_sizes, l_are_sizes, x_are_sizes⟩ := c.def_ 20 (d := D_are_sizes) rfl
  obtain ⟨oc_weighted_sum, od_weighted_sum, sl_weighted_sum, kV_weighted_sum, dc_weighted_sum, pm_weighted_sum, an_weighted_sum, cd_weighted_sum, ct_weighted_sum, l_weighted_sum, x_weighted_sum⟩ := c.def_ 21 (d := D_weighted_sum) rfl
  obtain ⟨oc_has_residue, od_has_residue, sl_has_residue, kV_has_residue, dc_has_residue, pm_has_residue, an_has_residue, cd_has_residue, ct_has_residue, l_has_residue, x_has_residue⟩ := c.def_ 22 (d := D_has_residue) rfl
  obtain ⟨oc_direction_off, od_direction_off, sl_direction_off, kV_direction_off, dc_direction_off, pm_direction_off, an_direction_off, cd_direction_off, ct_direction_off, l_direction_off, x_direction_off⟩ := c.def_ 23 (d := D_direction_off) rfl
  obtain ⟨oc_avoiding_direction, od_avoiding_direction, sl_avoiding_direction, kV_avoiding_direction, dc_avoiding_direction, pm_avoiding_direction, an_avoiding_direction, cd_avoiding_direction, ct_avoiding_direction, l_avoiding_direction, x_avoiding_direction⟩ := c.def_ 24 (d := D_avoiding_direction) rfl
  obtain ⟨oc_Responder_init, od_Responder_init, sl_Responder_init, kV_Responder_init, dc_Responder_init, pm_Responder_init, an_Responder_init, cd_Responder_init, ct_Responder_init, l_Responder_init, x_Responder_init⟩ := c.def_ 25 (d := D_Responder_init) rfl
  obtain ⟨oc_Responder_answer, od_Responder_answer, sl_Responder_answer, kV_Responder_answer, dc_Responder_answer, pm_Responder_answer, an_Responder_answer, cd_Responder_answer, ct_Responder_answer, l_Responder_answer, x_Responder_answer⟩ := c.def_ 26 (d := D_Responder_answer) rfl
  obtain ⟨oc_Responder_direction_at, od_Responder_direction_at, sl_Responder_direction_at, kV_Responder_direction_at, dc_Responder_direction_at, pm_Responder_direction_at, an_Responder_direction_at, cd_Responder_direction_at, ct_Responder_direction_at, l_Responder_direction_at, x_Responder_direction_at⟩ := c.def_ 27 (d := D_Responder_direction_at) rfl
  obtain ⟨oc_Responder_has_lost_at, od_Responder_has_lost_at, sl_Responder_has_lost_at, kV_Responder_has_lost_at, dc_Responder_has_lost_at, pm_Responder_has_lost_at, an_Responder_has_lost_at, cd_Responder_has_lost_at, ct_Responder_has_lost_at, l_Responder_has_lost_at, x_Responder_has_lost_at⟩ := c.def_ 28 (d := D_Responder_has_lost_at) rfl
  obtain ⟨oc_Responder_belongs_to, od_Responder_belongs_to, sl_Responder_belongs_to, kV_Responder_belongs_to, dc_Responder_belongs_to, pm_Responder_belongs_to, an_Responder_belongs_to, cd_Responder_belongs_to, ct_Responder_belongs_to, l_Responder_belongs_to, x_Responder_belongs_to⟩ := c.def_ 29 (d := D_Responder_belongs_to) rfl
  obtain ⟨oc_Caller_init, od_Caller_init, sl_Caller_init, kV_Caller_init, dc_Caller_init, pm_Caller_init, an_Caller_init, cd_Caller_init, ct_Caller_init, l_Caller_init, x_Caller_init⟩ := c.def_ 30 (d := D_Caller_init) rfl
  obtain ⟨oc_Caller_call_at, od_Caller_call_at, sl_Caller_call_at, kV_Caller_call_at, dc_Caller_call_at, pm_Caller_call_at, an_Caller_call_at, cd_Caller_call_at, ct_Caller_call_at, l_Caller_call_at, x_Caller_call_at⟩ := c.def_ 31 (d := D_Caller_call_at) rfl
  obtain ⟨oc_Caller_belongs_to, od_Caller_belongs_to, sl_Caller_belongs_to, kV_Caller_belongs_to, dc_Caller_belongs_to, pm_Caller_belongs_to, an_Caller_belongs_to, cd_Caller_belongs_to, ct_Caller_belongs_to, l_Caller_belongs_to, x_Caller_belongs_to⟩ := c.def_ 32 (d := D_Caller_belongs_to) rfl
  obtain ⟨oc_play, od_play, sl_play, kV_play, dc_play, pm_play, an_play, cd_play, ct_play, l_play, x_play⟩ := c.def_ 33 (d := D_play) rfl
  obtain ⟨oc_played, od_played, sl_played, kV_played, dc_played, pm_played, an_played, cd_played, ct_played, l_played, x_played⟩ := c.def_ 34 (d := D_played) rfl
  obtain ⟨oc_reduced_call, od_reduced_call, sl_reduced_call, kV_reduced_call, dc_reduced_call, pm_reduced_call, an_reduced_call, cd_reduced_call, ct_reduced_call, l_reduced_call, x_reduced_call⟩ := c.def_ 35 (d := D_reduced_call) rfl
  obtain ⟨oc_is_layers, od_is_layers, sl_is_layers, kV_is_layers, dc_is_layers, pm_is_layers, an_is_layers, cd_is_layers, ct_is_layers, l_is_layers, x_is_layers⟩ := c.def_ 36 (d := D_is_layers) rfl
  obtain ⟨oc_is_list_of_calls, od_is_list_of_calls, sl_is_list_of_calls, kV_is_list_of_calls, dc_is_list_of_calls, pm_is_list_of_calls, an_is_list_of_calls, cd_is_list_of_calls, ct_is_list_of_calls, l_is_list_of_calls, x_is_list_of_calls⟩ := c.def_ 37 (d := D_is_list_of_calls) rfl
  obtain ⟨oc_is_common_witness, od_is_common_witness, sl_is_common_witness, kV_is_common_witness, dc_is_common_witness, pm_is_common_witness, an_is_common_witness, cd_is_common_witness, ct_is_common_witness, l_is_common_witness, x_is_common_witness⟩ := c.def_ 38 (d := D_is_common_witness) rfl
  obtain ⟨oc_law_cell_at, od_law_cell_at, sl_law_cell_at, kV_law_cell_at, dc_law_cell_at, pm_law_cell_at, an_law_cell_at, cd_law_cell_at, ct_law_cell_at, l_law_cell_at, x_law_cell_at⟩ := c.def_ 39 (d := D_law_cell_at) rfl
  obtain ⟨oc_law_source, od_law_source, sl_law_source, kV_law_source, dc_law_source, pm_law_source, an_law_source, cd_law_source, ct_law_source, l_law_source, x_law_source⟩ := c.def_ 40 (d := D_law_source) rfl
  obtain ⟨oc_law_take, od_law_take, sl_law_take, kV_law_take, dc_law_take, pm_law_take, an_law_take, cd_law_take, ct_law_take, l_law_take, x_law_take⟩ := c.def_ 41 (d := D_law_take) rfl
  obtain ⟨oc_law_pick, od_law_pick, sl_law_pick, kV_law_pick, dc_law_pick, pm_law_pick, an_law_pick, cd_law_pick, ct_law_pick, l_law_pick, x_law_pick⟩ := c.def_ 42 (d := D_law_pick) rfl
  obtain ⟨oc_law_shuffled, od_law_shuffled, sl_law_shuffled, kV_law_shuffled, dc_law_shuffled, pm_law_shuffled, an_law_shuffled, cd_law_shuffled, ct_law_shuffled, l_law_shuffled, x_law_shuffled⟩ := c.def_ 43 (d := D_law_shuffled) rfl
  obtain ⟨oc_law_drawn_seat, od_law_drawn_seat, sl_law_drawn_seat, kV_law_drawn_seat, dc_law_drawn_seat, pm_law_drawn_seat, an_law_drawn_seat, cd_law_drawn_seat, ct_law_drawn_seat, l_law_drawn_seat, x_law_drawn_seat⟩ := c.def_ 44 (d := D_law_drawn_seat) rfl
  obtain ⟨oc_law_moved, od_law_moved, sl_law_moved, kV_law_moved, dc_law_moved, pm_law_moved, an_law_moved, cd_law_moved, ct_law_moved, l_law_moved, x_law_moved⟩ := c.def_ 45 (d := D_law_moved) rfl
  obtain ⟨oc_law_drawn_call, od_law_drawn_call, sl_law_drawn_call, kV_law_drawn_call, dc_law_drawn_call, pm_law_drawn_call, an_law_drawn_call, cd_law_drawn_call, ct_law_drawn_call, l_law_drawn_call, x_law_drawn_call⟩ := c.def_ 46 (d := D_law_drawn_call) rfl
  obtain ⟨oc_law_goals, od_law_goals, sl_law_goals, kV_law_goals, dc_law_goals, pm_law_goals, an_law_goals, cd_law_goals, ct_law_goals, l_law_goals, x_law_goals⟩ := c.def_ 47 (d := D_law_goals) rfl
  obtain ⟨oc_law_list_calls, od_law_list_calls, sl_law_list_calls, kV_law_list_calls, dc_law_list_calls, pm_law_list_calls, an_law_list_calls, cd_law_list_calls, ct_law_list_calls, l_law_list_calls, x_law_list_calls⟩ := c.def_ 48 (d := D_law_list_calls) rfl
  obtain ⟨oc_law_list_words, od_law_list_words, sl_law_list_words, kV_law_list_words, dc_law_list_words, pm_law_list_words, an_law_list_words, cd_law_list_words, ct_law_list_words, l_law_list_words, x_law_list_words⟩ := c.def_ 49 (d := D_law_list_words) rfl
  obtain ⟨oc_law_rings_any, od_law_rings_any, sl_law_rings_any, kV_law_rings_any, dc_law_rings_any, pm_law_rings_any, an_law_rings_any, cd_law_rings_any, ct_law_rings_any, l_law_rings_any, x_law_rings_any⟩ := c.def_ 50 (d := D_law_rings_any) rfl
  obtain ⟨oc_law_planted, od_law_planted, sl_law_planted, kV_law_planted, dc_law_planted, pm_law_planted, an_law_planted, cd_law_planted, ct_law_planted, l_law_planted, x_law_planted⟩ := c.def_ 51 (d := D_law_planted) rfl
  obtain ⟨oc_law_sum_of, od_law_sum_of, sl_law_sum_of, kV_law_sum_of, dc_law_sum_of, pm_law_sum_of, an_law_sum_of, cd_law_sum_of, ct_law_sum_of, l_law_sum_of, x_law_sum_of⟩ := c.def_ 52 (d := D_law_sum_of) rfl
  obtain ⟨oc_law_divisor, od_law_divisor, sl_law_divisor, kV_law_divisor, dc_law_divisor, pm_law_divisor, an_law_divisor, cd_law_divisor, ct_law_divisor, l_law_divisor, x_law_divisor⟩ := c.def_ 53 (d := D_law_divisor) rfl
  obtain ⟨oc_law_factor, od_law_factor, sl_law_factor, kV_law_factor, dc_law_factor, pm_law_factor, an_law_factor, cd_law_factor, ct_law_factor, l_law_factor, x_law_factor⟩ := c.def_ 54 (d := D_law_factor) rfl
  obtain ⟨oc_law_course_of, od_law_course_of, sl_law_course_of, kV_law_course_of, dc_law_course_of, pm_law_course_of, an_law_course_of, cd_law_course_of, ct_law_course_of, l_law_course_of, x_law_course_of⟩ := c.def_ 55 (d := D_law_course_of) rfl
  obtain ⟨oc_law_times, od_law_times, sl_law_times, kV_law_times, dc_law_times, pm_law_times, an_law_times, cd_law_times, ct_law_times, l_law_times, x_law_times⟩ := c.def_ 56 (d := D_law_times) rfl
  obtain ⟨oc_law_lists_right, od_law_lists_right, sl_law_lists_right, kV_law_lists_right, dc_law_lists_right, pm_law_lists_right, an_law_lists_right, cd_law_lists_right, ct_law_lists_right, l_law_lists_right, x_law_lists_right⟩ := c.def_ 57 (d := D_law_lists_right) rfl
  obtain ⟨oc_law_witness_right, od_law_witness_right, sl_law_witness_right, kV_law_witness_right, dc_law_witness_right, pm_law_witness_right, an_law_witness_right, cd_law_witness_right, ct_law_witness_right, l_law_witness_right, x_law_witness_right⟩ := c.def_ 58 (d := D_law_witness_right) rfl
  obtain ⟨oc_law, od_law, sl_law, kV_law, dc_law, pm_law, an_law, cd_law, ct_law, l_law, x_law⟩ := c.def_ 59 (d := D_law) rfl
  obtain ⟨v_MAX_RINGS, y_MAX_RINGS, r_MAX_RINGS⟩ := Cs.int_of (c.fact 132 (f := (.int "MAX_RINGS" 4)) rfl)
  exact all_mk (c_Table := ga K "Table") (c_Responder := ga K "Responder") (c_Caller := ga K "Caller") (f_is_integer := fAd K D_is_integer.at_) (f_is_place := fAd K D_is_place.at_) (f_is_seat := fAd K D_is_seat.at_) (f_is_call := fAd K D_is_call.at_) (f_is_direction := fAd K D_is_direction.at_) (f_is_list_of_directions := fAd K D_is_list_of_directions.at_) (f_is_modulus := fAd K D_is_modulus.at_) (f_are_weights := fAd K D_are_weights.at_) (f_is_witness := fAd K D_is_witness.at_) (f_require_seat := fAd K D_require_seat.at_) (f_require_call := fAd K D_require_call.at_) (f_require_witness := fAd K D_require_witness.at_) (f_require_seats := fAd K D_require_seats.at_) (f_require_targets := fAd K D_require_targets.at_) (f_require_number := fAd K D_require_number.at_) (f_Table_init := fAd K D_Table_init.at_) (f_Table_sizes := fAd K D_Table_sizes.at_) (f_sizes_of := fAd K D_sizes_of.at_) (f_both_moves := fAd K D_both_moves.at_) (f_stepped := fAd K D_stepped.at_) (f_are_sizes := fAd K D_are_sizes.at_) (f_weighted_sum := fAd K D_weighted_sum.at_) (f_has_residue := fAd K D_has_residue.at_) (f_direction_off := fAd K D_direction_off.at_) (f_avoiding_direction := fAd K D_avoiding_direction.at_) (f_Responder_init := fAd K D_Responder_init.at_) (f_Responder_answer := fAd K D_Responder_answer.at_) (f_Responder_direction_at := fAd K D_Responder_direction_at.at_) (f_Responder_has_lost_at := fAd K D_Responder_has_lost_at.at_) (f_Responder_belongs_to := fAd K D_Responder_belongs_to.at_) (f_Caller_init := fAd K D_Caller_init.at_) (f_Caller_call_at := fAd K D_Caller_call_at.at_) (f_Caller_belongs_to := fAd K D_Caller_belongs_to.at_) (f_play := fAd K D_play.at_) (f_played := fAd K D_played.at_) (f_reduced_call := fAd K D_reduced_call.at_) (f_is_layers := fAd K D_is_layers.at_) (f_is_list_of_calls := fAd K D_is_list_of_calls.at_) (f_is_common_witness := fAd K D_is_common_witness.at_) (f_law_cell_at := fAd K D_law_cell_at.at_) (f_law_source := fAd K D_law_source.at_) (f_law_take := fAd K D_law_take.at_) (f_law_pick := fAd K D_law_pick.at_) (f_law_shuffled := fAd K D_law_shuffled.at_) (f_law_drawn_seat := fAd K D_law_drawn_seat.at_) (f_law_moved := fAd K D_law_moved.at_) (f_law_drawn_call := fAd K D_law_drawn_call.at_) (f_law_goals := fAd K D_law_goals.at_) (f_law_list_calls := fAd K D_law_list_calls.at_) (f_law_list_words := fAd K D_law_list_words.at_) (f_law_rings_any := fAd K D_law_rings_any.at_) (f_law_planted := fAd K D_law_planted.at_) (f_law_sum_of := fAd K D_law_sum_of.at_) (f_law_divisor := fAd K D_law_divisor.at_) (f_law_factor := fAd K D_law_factor.at_) (f_law_course_of := fAd K D_law_course_of.at_) (f_law_times := fAd K D_law_times.at_) (f_law_lists_right := fAd K D_law_lists_right.at_) (f_law_witness_right := fAd K D_law_witness_right.at_) (f_law := fAd K D_law.at_) X G hfa
    (Cs.glo_of (c.fact 123 (f := (.glo "Caller")) rfl))
    (Cs.glo_of (c.fact 114 (f := (.glo "Responder")) rfl))
    (Cs.glo_of (c.fact 110 (f := (.glo "Table")) rfl))
    (Cs.glo_of (c.fact 0 (f := (.glo "is_integer")) rfl))
    l_is_integer
    x_is_integer
    (Cs.keep_of (c.fact 1 (f := (.keep "is_integer")) rfl))
    (Cs.glo_of (c.fact 2 (f := (.glo "is_place")) rfl))
    l_is_place
    x_is_place
    (Cs.keep_of (c.fact 3 (f := (.keep "is_place")) rfl))
    (Cs.glo_of (c.fact 4 (f := (.glo "is_seat")) rfl))
    l_is_seat
    x_is_seat
    (Cs.keep_of (c.fact 5 (f := (.keep "is_seat")) rfl))
    (Cs.glo_of (c.fact 6 (f := (.glo "is_call")) rfl))
    l_is_call
    x_is_call
    (Cs.keep_of (c.fact 7 (f := (.keep "is_call")) rfl))
    (Cs.glo_of (c.fact 8 (f := (.glo "is_direction")) rfl))
    l_is_direction
    x_is_direction
    (Cs.keep_of (c.fact 9 (f := (.keep "is_direction")) rfl))
    (Cs.glo_of (c.fact 10 (f := (.glo "is_list_of_directions")) rfl))
    l_is_list_of_directions
    x_is_list_of_directions
    (Cs.keep_of (c.fact 11 (f := (.keep "is_list_of_directions")) rfl))
    (Cs.glo_of (c.fact 12 (f := (.glo "is_modulus")) rfl))
    l_is_modulus
    x_is_modulus
    (Cs.keep_of (c.fact 13 (f := (.keep "is_modulus")) rfl))
    (Cs.glo_of (c.fact 14 (f := (.glo "are_weights")) rfl))
    l_are_weights
    x_are_weights
    (Cs.keep_of (c.fact 15 (f := (.keep "are_weights")) rfl))
    (Cs.glo_of (c.fact 16 (f := (.glo "is_witness")) rfl))
    l_is_witness
    x_is_witness
    (Cs.keep_of (c.fact 17 (f := (.keep "is_witness")) rfl))
    (Cs.glo_of (c.fact 18 (f := (.glo "require_seat")) rfl))
    l_require_seat
    x_require_seat
    (Cs.keep_of (c.fact 19 (f := (.keep "require_seat")) rfl))
    (Cs.glo_of (c.fact 20 (f := (.glo "require_call")) rfl))
    l_require_call
    x_require_call
    (Cs.keep_of (c.fact 21 (f := (.keep "require_call")) rfl))
    (Cs.glo_of (c.fact 22 (f := (.glo "require_witness")) rfl))
    l_require_witness
    x_require_witness
    (Cs.keep_of (c.fact 23 (f := (.keep "require_witness")) rfl))
    (Cs.glo_of (c.fact 24 (f := (.glo "require_seats")) rfl))
    l_require_seats
    x_require_seats
    (Cs.keep_of (c.fact 25 (f := (.keep "require_seats")) rfl))
    (Cs.glo_of (c.fact 26 (f := (.glo "require_targets")) rfl))
    l_require_targets
    x_require_targets
    (Cs.keep_of (c.fact 27 (f := (.keep "require_targets")) rfl))
    (Cs.glo_of (c.fact 28 (f := (.glo "require_number")) rfl))
    l_require_number
    x_require_number
    (Cs.keep_of (c.fact 29 (f := (.keep "require_number")) rfl))
    (eqO_ok (ba (c.fact 30 (f := (.meth "Table" "__init__")) rfl)).1)
    (ba (ba (c.fact 30 (f := (.meth "Table" "__init__")) rfl)).2).1
    l_Table_init
    x_Table_init
    (ba (ba (c.fact 30 (f := (.meth "Table" "__init__")) rfl)).2).2
    (eqO_ok (ba (c.fact 31 (f := (.meth "Table" "sizes")) rfl)).1)
    (ba (ba (c.fact 31 (f := (.meth "Table" "sizes")) rfl)).2).1
    l_Table_sizes
    x_Table_sizes
    (ba (ba (c.fact 31 (f := (.meth "Table" "sizes")) rfl)).2).2
    (Cs.glo_of (c.fact 32 (f := (.glo "sizes_of")) rfl))
    l_sizes_of
    x_sizes_of
    (Cs.keep_of (c.fact 33 (f := (.keep "sizes_of")) rfl))
    (Cs.glo_of (c.fact 34 (f := (.glo "both_moves")) rfl))
    l_both_moves
    x_both_moves
    (Cs.keep_of (c.fact 35 (f := (.keep "both_moves")) rfl))
    (Cs.glo_of (c.fact 36 (f := (.glo "stepped")) rfl))
    l_stepped
    x_stepped
    (Cs.keep_of (c.fact 37 (f := (.keep "stepped")) rfl))
    (Cs.glo_of (c.fact 38 (f := (.glo "_are_sizes")) rfl))
    l_are_sizes
    x_are_sizes
    (Cs.keep_of (c.fact 39 (f := (.keep "_are_sizes")) rfl))
    (Cs.glo_of (c.fact 40 (f := (.glo "weighted_sum")) rfl))
    l_weighted_sum
    x_weighted_sum
    (Cs.keep_of (c.fact 41 (f := (.keep "weighted_sum")) rfl))
    (Cs.glo_of (c.fact 42 (f := (.glo "has_residue")) rfl))
    l_has_residue
    x_has_residue
    (Cs.keep_of (c.fact 43 (f := (.keep "has_residue")) rfl))
    (Cs.glo_of (c.fact 44 (f := (.glo "direction_off")) rfl))
    l_direction_off
    x_direction_off
    (Cs.keep_of (c.fact 45 (f := (.keep "direction_off")) rfl))
    (Cs.glo_of (c.fact 46 (f := (.glo "avoiding_direction")) rfl))
    l_avoiding_direction
    x_avoiding_direction
    (Cs.keep_of (c.fact 47 (f := (.keep "avoiding_direction")) rfl))
    (eqO_ok (ba (c.fact 48 (f := (.meth "Responder" "__init__")) rfl)).1)
    (ba (ba (c.fact 48 (f := (.meth "Responder" "__init__")) rfl)).2).1
    l_Responder_init
    x_Responder_init
    (ba (ba (c.fact 48 (f := (.meth "Responder" "__init__")) rfl)).2).2
    (eqO_ok (ba (c.fact 49 (f := (.meth "Responder" "answer")) rfl)).1)
    (ba (ba (c.fact 49 (f := (.meth "Responder" "answer")) rfl)).2).1
    l_Responder_answer
    x_Responder_answer
    (ba (ba (c.fact 49 (f := (.meth "Responder" "answer")) rfl)).2).2
    (eqO_ok (ba (c.fact 50 (f := (.meth "Responder" "direction_at")) rfl)).1)
    (ba (ba (c.fact 50 (f := (.meth "Responder" "direction_at")) rfl)).2).1
    l_Responder_direction_at
    x_Responder_direction_at
    (ba (ba (c.fact 50 (f := (.meth "Responder" "direction_at")) rfl)).2).2
    (eqO_ok (ba (c.fact 51 (f := (.meth "Responder" "has_lost_at")) rfl)).1)
    (ba (ba (c.fact 51 (f := (.meth "Responder" "has_lost_at")) rfl)).2).1
    l_Responder_has_lost_at
    x_Responder_has_lost_at
    (ba (ba (c.fact 51 (f := (.meth "Responder" "has_lost_at")) rfl)).2).2
    (eqO_ok (ba (c.fact 52 (f := (.meth "Responder" "belongs_to")) rfl)).1)
    (ba (ba (c.fact 52 (f := (.meth "Responder" "belongs_to")) rfl)).2).1
    l_Responder_belongs_to
    x_Responder_belongs_to
    (ba (ba (c.fact 52 (f := (.meth "Responder" "belongs_to")) rfl)).2).2
    (eqO_ok (ba (c.fact 53 (f := (.meth "Caller" "__init__")) rfl)).1)
    (ba (ba (c.fact 53 (f := (.meth "Caller" "__init__")) rfl)).2).1
    l_Caller_init
    x_Caller_init
    (ba (ba (c.fact 53 (f := (.meth "Caller" "__init__")) rfl)).2).2
    (eqO_ok (ba (c.fact 54 (f := (.meth "Caller" "call_at")) rfl)).1)
    (ba (ba (c.fact 54 (f := (.meth "Caller" "call_at")) rfl)).2).1
    l_Caller_call_at
    x_Caller_call_at
    (ba (ba (c.fact 54 (f := (.meth "Caller" "call_at")) rfl)).2).2
    (eqO_ok (ba (c.fact 55 (f := (.meth "Caller" "belongs_to")) rfl)).1)
    (ba (ba (c.fact 55 (f := (.meth "Caller" "belongs_to")) rfl)).2).1
    l_Caller_belongs_to
    x_Caller_belongs_to
    (ba (ba (c.fact 55 (f := (.meth "Caller" "belongs_to")) rfl)).2).2
    (Cs.glo_of (c.fact 56 (f := (.glo "play")) rfl))
    l_play
    x_play
    (Cs.keep_of (c.fact 57 (f := (.keep "play")) rfl))
    (Cs.glo_of (c.fact 58 (f := (.glo "_played")) rfl))
    l_played
    x_played
    (Cs.keep_of (c.fact 59 (f := (.keep "_played")) rfl))
    (Cs.glo_of (c.fact 60 (f := (.glo "_reduced_call")) rfl))
    l_reduced_call
    x_reduced_call
    (Cs.keep_of (c.fact 61 (f := (.keep "_reduced_call")) rfl))
    (Cs.glo_of (c.fact 62 (f := (.glo "_is_layers")) rfl))
    l_is_layers
    x_is_layers
    (Cs.keep_of (c.fact 63 (f := (.keep "_is_layers")) rfl))
    (Cs.glo_of (c.fact 64 (f := (.glo "_is_list_of_calls")) rfl))
    l_is_list_of_calls
    x_is_list_of_calls
    (Cs.keep_of (c.fact 65 (f := (.keep "_is_list_of_calls")) rfl))
    (Cs.glo_of (c.fact 66 (f := (.glo "_is_common_witness")) rfl))
    l_is_common_witness
    x_is_common_witness
    (Cs.keep_of (c.fact 67 (f := (.keep "_is_common_witness")) rfl))
    (Cs.glo_of (c.fact 68 (f := (.glo "_law_cell_at")) rfl))
    l_law_cell_at
    x_law_cell_at
    (Cs.keep_of (c.fact 69 (f := (.keep "_law_cell_at")) rfl))
    (Cs.glo_of (c.fact 70 (f := (.glo "_law_source")) rfl))
    l_law_source
    x_law_source
    (Cs.keep_of (c.fact 71 (f := (.keep "_law_source")) rfl))
    (Cs.glo_of (c.fact 72 (f := (.glo "_law_take")) rfl))
    l_law_take
    x_law_take
    (Cs.keep_of (c.fact 73 (f := (.keep "_law_take")) rfl))
    (Cs.glo_of (c.fact 74 (f := (.glo "_law_pick")) rfl))
    l_law_pick
    x_law_pick
    (Cs.keep_of (c.fact 75 (f := (.keep "_law_pick")) rfl))
    (Cs.glo_of (c.fact 76 (f := (.glo "_law_shuffled")) rfl))
    l_law_shuffled
    x_law_shuffled
    (Cs.keep_of (c.fact 77 (f := (.keep "_law_shuffled")) rfl))
    (Cs.glo_of (c.fact 78 (f := (.glo "_law_drawn_seat")) rfl))
    l_law_drawn_seat
    x_law_drawn_seat
    (Cs.keep_of (c.fact 79 (f := (.keep "_law_drawn_seat")) rfl))
    (Cs.glo_of (c.fact 80 (f := (.glo "_law_moved")) rfl))
    l_law_moved
    x_law_moved
    (Cs.keep_of (c.fact 81 (f := (.keep "_law_moved")) rfl))
    (Cs.glo_of (c.fact 82 (f := (.glo "_law_drawn_call")) rfl))
    l_law_drawn_call
    x_law_drawn_call
    (Cs.keep_of (c.fact 83 (f := (.keep "_law_drawn_call")) rfl))
    (Cs.glo_of (c.fact 84 (f := (.glo "_law_goals")) rfl))
    l_law_goals
    x_law_goals
    (Cs.keep_of (c.fact 85 (f := (.keep "_law_goals")) rfl))
    (Cs.glo_of (c.fact 86 (f := (.glo "_law_list_calls")) rfl))
    l_law_list_calls
    x_law_list_calls
    (Cs.keep_of (c.fact 87 (f := (.keep "_law_list_calls")) rfl))
    (Cs.glo_of (c.fact 88 (f := (.glo "_law_list_words")) rfl))
    l_law_list_words
    x_law_list_words
    (Cs.keep_of (c.fact 89 (f := (.keep "_law_list_words")) rfl))
    (Cs.glo_of (c.fact 90 (f := (.glo "_law_rings_any")) rfl))
    l_law_rings_any
    x_law_rings_any
    (Cs.keep_of (c.fact 91 (f := (.keep "_law_rings_any")) rfl))
    (Cs.glo_of (c.fact 92 (f := (.glo "_law_planted")) rfl))
    l_law_planted
    x_law_planted
    (Cs.keep_of (c.fact 93 (f := (.keep "_law_planted")) rfl))
    (Cs.glo_of (c.fact 94 (f := (.glo "_law_sum_of")) rfl))
    l_law_sum_of
    x_law_sum_of
    (Cs.keep_of (c.fact 95 (f := (.keep "_law_sum_of")) rfl))
    (Cs.glo_of (c.fact 96 (f := (.glo "_law_divisor")) rfl))
    l_law_divisor
    x_law_divisor
    (Cs.keep_of (c.fact 97 (f := (.keep "_law_divisor")) rfl))
    (Cs.glo_of (c.fact 98 (f := (.glo "_law_factor")) rfl))
    l_law_factor
    x_law_factor
    (Cs.keep_of (c.fact 99 (f := (.keep "_law_factor")) rfl))
    (Cs.glo_of (c.fact 100 (f := (.glo "_law_course_of")) rfl))
    l_law_course_of
    x_law_course_of
    (Cs.keep_of (c.fact 101 (f := (.keep "_law_course_of")) rfl))
    (Cs.glo_of (c.fact 102 (f := (.glo "_law_times")) rfl))
    l_law_times
    x_law_times
    (Cs.keep_of (c.fact 103 (f := (.keep "_law_times")) rfl))
    (Cs.glo_of (c.fact 104 (f := (.glo "_law_lists_right")) rfl))
    l_law_lists_right
    x_law_lists_right
    (Cs.keep_of (c.fact 105 (f := (.keep "_law_lists_right")) rfl))
    (Cs.glo_of (c.fact 106 (f := (.glo "_law_witness_right")) rfl))
    l_law_witness_right
    x_law_witness_right
    (Cs.keep_of (c.fact 107 (f := (.keep "_law_witness_right")) rfl))
    (Cs.glo_of (c.fact 108 (f := (.glo "law")) rfl))
    l_law
    x_law
    (Cs.keep_of (c.fact 109 (f := (.keep "law")) rfl))
    (cls_ok (c.fact 111 (f := (.cls "Table")) rfl)).1
    (cls_ok (c.fact 111 (f := (.cls "Table")) rfl)).2
    (cls_ok (c.fact 111 (f := (.cls "Table")) rfl)).3
    (cls_ok (c.fact 111 (f := (.cls "Table")) rfl)).4
    (ba (c.fact 112 (f := (.mkr "Table")) rfl)).1
    (ba (ba (ba (c.fact 112 (f := (.mkr "Table")) rfl)).2).2).2
    (noat_ok (c.fact 113 (f := (.noat "Table" "_sizes")) rfl))
    (eqO_ok (c.test 0 (f := (fun K => eqO (PySem.W.findIn K (.ref (ga K "Table")) "__class__") (some (some (.builtin "object.__class__"))))) rfl))
    (eqO_ok (c.test 1 (f := (fun K => eqO (PySem.W.specialIn K (.builtin "object.__class__") "__get__") (some (some (.builtin "getset_descriptor.__get__"))))) rfl))
    (of_decide_eq_true (c.test 2 (f := (fun K => decide (PySem.W.takesIn K (.builtin "object.__class__") = some true))) rfl))
    (of_decide_eq_true (c.test 3 (f := (fun K => decide (PySem.W.mroIn K (ga K "Table") (.type "object") = some true))) rfl))
    (cls_ok (c.fact 115 (f := (.cls "Responder")) rfl)).1
    (cls_ok (c.fact 115 (f := (.cls "Responder")) rfl)).2
    (cls_ok (c.fact 115 (f := (.cls "Responder")) rfl)).3
    (cls_ok (c.fact 115 (f := (.cls "Responder")) rfl)).4
    (ba (c.fact 116 (f := (.mkr "Responder")) rfl)).1
    (ba (ba (ba (c.fact 116 (f := (.mkr "Responder")) rfl)).2).2).2
    (noat_ok (c.fact 117 (f := (.noat "Responder" "_witness")) rfl))
    (noat_ok (c.fact 118 (f := (.noat "Responder" "_directions")) rfl))
    (noat_ok (c.fact 119 (f := (.noat "Responder" "_numbers")) rfl))
    (noat_ok (c.fact 120 (f := (.noat "Responder" "_sizes")) rfl))
    (noat_ok (c.fact 121 (f := (.noat "Responder" "_targets")) rfl))
    (noat_ok (c.fact 122 (f := (.noat "Responder" "_turn")) rfl))
    (eqO_ok (c.test 4 (f := (fun K => eqO (PySem.W.findIn K (.ref (ga K "Responder")) "__class__") (some (some (.builtin "object.__class__"))))) rfl))
    (eqO_ok (c.test 1 (f := (fun K => eqO (PySem.W.specialIn K (.builtin "object.__class__") "__get__") (some (some (.builtin "getset_descriptor.__get__"))))) rfl))
    (of_decide_eq_true (c.test 2 (f := (fun K => decide (PySem.W.takesIn K (.builtin "object.__class__") = some true))) rfl))
    (of_decide_eq_true (c.test 5 (f := (fun K => decide (PySem.W.mroIn K (ga K "Responder") (.type "object") = some true))) rfl))
    (cls_ok (c.fact 124 (f := (.cls "Caller")) rfl)).1
    (cls_ok (c.fact 124 (f := (.cls "Caller")) rfl)).2
    (cls_ok (c.fact 124 (f := (.cls "Caller")) rfl)).3
    (cls_ok (c.fact 124 (f := (.cls "Caller")) rfl)).4
    (ba (c.fact 125 (f := (.mkr "Caller")) rfl)).1
    (ba (ba (ba (c.fact 125 (f := (.mkr "Caller")) rfl)).2).2).2
    (noat_ok (c.fact 126 (f := (.noat "Caller" "_listed")) rfl))
    (noat_ok (c.fact 127 (f := (.noat "Caller" "_grid")) rfl))
    (noat_ok (c.fact 128 (f := (.noat "Caller" "_spread")) rfl))
    (noat_ok (c.fact 129 (f := (.noat "Caller" "_sizes")) rfl))
    (noat_ok (c.fact 130 (f := (.noat "Caller" "_targets")) rfl))
    (noat_ok (c.fact 131 (f := (.noat "Caller" "_turn")) rfl))
    (eqO_ok (c.test 6 (f := (fun K => eqO (PySem.W.findIn K (.ref (ga K "Caller")) "__class__") (some (some (.builtin "object.__class__"))))) rfl))
    (eqO_ok (c.test 1 (f := (fun K => eqO (PySem.W.specialIn K (.builtin "object.__class__") "__get__") (some (some (.builtin "getset_descriptor.__get__"))))) rfl))
    (of_decide_eq_true (c.test 2 (f := (fun K => decide (PySem.W.takesIn K (.builtin "object.__class__") = some true))) rfl))
    (of_decide_eq_true (c.test 7 (f := (fun K => decide (PySem.W.mroIn K (ga K "Caller") (.type "object") = some true))) rfl))
    y_MAX_RINGS
    r_MAX_RINGS
    (Cs.free_of (c.fact 133 (f := (.free "all")) rfl))
    (Cs.free_of (c.fact 134 (f := (.free "bool")) rfl))
    (Cs.free_of (c.fact 135 (f := (.free "enumerate")) rfl))
    (Cs.free_of (c.fact 136 (f := (.free "int")) rfl))
    (Cs.free_of (c.fact 137 (f := (.free "isinstance")) rfl))
    (Cs.free_of (c.fact 138 (f := (.free "len")) rfl))
    (Cs.free_of (c.fact 139 (f := (.free "list")) rfl))
    (Cs.free_of (c.fact 140 (f := (.free "range")) rfl))
    (Cs.free_of (c.fact 141 (f := (.free "set")) rfl))
    (Cs.free_of (c.fact 142 (f := (.free "sorted")) rfl))
    (Cs.free_of (c.fact 143 (f := (.free "str")) rfl))
    (Cs.free_of (c.fact 144 (f := (.free "sum")) rfl))
    (Cs.free_of (c.fact 145 (f := (.free "tuple")) rfl))
    (Cs.free_of (c.fact 146 (f := (.free "zip")) rfl))
end head
end Lw
open PySem PySem.W PySem.Calls PyProof.Rows
set_option maxHeartbeats 0 in
theorem PySem.Challenge.cw_calledseats_k37_whole_games_transformed_holds : PySem.Challenge.rw_calledseats_k37_whole_games_transformed.Holds := by
  w_on; o_law
  refine HandSHeadRun.head_imp (r := Lw.R) (q := view Lw.R.prog [0, 84]) (H := Lw.hk) (ob := Lw.ob) (M := 20000) (loose := Lw.loose) (d := HandSHeadRun.topDef Lw.R.prog 84) (kwd := []) Lw.ob_eq
    Lw.run (by kernel_rfl) (by kernel_rfl) (by kernel_rfl) (by rfl) (by first | assumption | decide +kernel) (by decide +kernel) ⟨rfl, rfl, rfl, rfl, rfl, by decide +kernel⟩ ?hw ?hc
  case hw => w_witness2
  case hc =>
    refine Cs.walk_ofBE (l := PySem.Challenge.rw_calledseats_k37_whole_games_transformed) (n := 63) (k := 9) (x := "_law_script") (CX := L2.CX0) rfl (by decide) (by kernel_rfl) ⟨rfl, by decide, by decide⟩ ?F (fun _ _ _ _ z => z)
    intro w mg fa h Y G hmg0
    obtain ⟨K, KX, c⟩ := Y
    have hmg : mg ("law" : PySem.Str) = some (.ref fa) := by
      have e : (HandSHeadRun.topDef Lw.R.prog 84).name = ("law" : PySem.Str) := by kernel_rfl
      rw [← e]
      exact hmg0
    obtain ⟨fd, hb, hF⟩ := Lw.facts (P := (PySem.Challenge.rw_calledseats_k37_whole_games_transformed).prog) (w := w) KX G hmg c
    exact ⟨K, fd, Lw.sp_law K, KX, hb, fun H a ns hl hbits _ hS => ⟨a, ns, rfl, hS, hl, hbits, fun _ => rfl⟩, hF⟩
