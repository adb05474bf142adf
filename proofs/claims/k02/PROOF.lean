import PyProof.Rows.All
import Wide.All
import OpenK.AllK
import Wide.FinOn
import HandS.ForMost
import HandS.Walk
import HandS.IsInst
import HandS.Wide
import HandS.EndBits
import KE.GoesNew
import KE.GoesMore
import HandS.Defaults
import HandS.MakeKwOnly
import HandS.Codes
import HandS.Gcd
import HandS.Star
import HandS.Deep
import HandS.TupMul
import HandS.TupAny
import HandS.Style
import HandS.TupSets
import HandS.Strs
import KE.GoesEnum
import HandS.RevRange
import HandS.SetFor
import HandS.WideBits
import PySem.Challenge.RW_calledseats_k02_orders_and_halves
set_option Elab.async false
set_option linter.all false
set_option maxRecDepth 100000
set_option maxHeartbeats 4000000
namespace Cs
open PySem PySem.Spec PyProof.Rows L2

/-! ### a list or a tuple -/
def Sqk (K : PySem.W.Frag) (k : Bool) (H : Hp) (a : Addr) (xs : List V) : Prop := match k with
  | true => SqL K H a xs
  | false => SqT K H a xs
def SeqK (k : Bool) (h : Heap) (a : Addr) (its : Array Value) : Prop := match k with
  | true => h.IsList a its
  | false => h.IsTuple a its
def ItK (k : Bool) (h : Heap) (it a : Addr) (i : Nat) : Prop := match k with
  | true => h.IsListIter it a i
  | false => h.IsTupleIter it a i
def itO (k : Bool) (a : Addr) : Obj := match k with
  | true => { cls := .type "list_iterator", data := .fields #[.ref a, .int 0 0] }
  | false => { cls := .type "tuple_iterator", data := .fields #[.ref a, .int 0 0] }
theorem ItK.at {k : Bool} {h h' : Heap} {it a : Addr} {i : Nat} (x : ItK k h it a i) (q : ∀ o, h.get? it = some o → h'.get? it = some o) : ItK k h' it a i := by
  cases k with
  | true => exact PySem.Heap.IsListIter.at x q
  | false => exact PySem.Heap.IsTupleIter.at x q
theorem ItK.obj {k : Bool} {h : Heap} {it a : Addr} {i : Nat} (x : ItK k h it a i) : ∃ o, h.get? it = some o ∧ ∀ v, o.data ≠ .cell v := by
  cases k with
  | true => obtain ⟨o, e, _, d⟩ := x; exact ⟨o, e, fun v q => by rw [d] at q; cases q⟩
  | false => obtain ⟨o, e, _, d⟩ := x; exact ⟨o, e, fun v q => by rw [d] at q; cases q⟩
theorem ItK.new {k : Bool} {h : Heap} {it a : Addr} (e : h.get? it = some (itO k a)) : ItK k h it a 0 := by
  cases k with
  | true => exact ⟨_, e, rfl, rfl⟩
  | false => exact ⟨_, e, rfl, rfl⟩
theorem drawsK {prog : Program} {w : World} {A : Around} (hh : A.handled = none) (k : Bool) (it l : Addr) (hne : l ≠ it) (items : Array Value) :
    Draws prog w A it [it, l] items.size (fun i v => items[i]? = some v) (fun i h => ItK k h it l i ∧ SeqK k h l items) := by
  cases k with
  | true => exact Draws.list hh it l hne items
  | false => exact Draws.tuple hh it l hne items
theorem begK (k : Bool) (a : Addr) (its : Array Value) : Begins (.ref a) (itO k a) fun h => SeqK k h a its := by
  cases k with
  | true => exact begins_list a its
  | false => exact begins_tuple a its
section
variable {X : Cx} {pins : List (Addr × Obj)} {σ : L2.St} {H : Hp} {s : Shared} {k : Bool} {a : Addr} {xs ys : List V}
theorem invK (I : Inv X pins σ H s) (h : Sqk X.K k H a xs) : ∃ its : List Value, Vals xs its ∧ SeqK k s.heap a its.toArray := by
  cases k with
  | true => obtain ⟨its, rv, p, _⟩ := I.list h; exact ⟨its, rv, p.isList⟩
  | false => obtain ⟨its, rv, p, _⟩ := I.tuple h; exact ⟨its, rv, p⟩
theorem injK (I : Inv X pins σ H s) (h : Sqk X.K k H a xs) (h' : Sqk X.K k H a ys) : xs = ys := by
  cases k with
  | true => exact I.list_inj h h'
  | false => exact I.tuple_inj h h'
theorem SeqK.lt {h : Heap} {its : Array Value} (x : SeqK k h a its) : a < h.objs.size := by
  cases k with
  | true => obtain ⟨o, e, _⟩ := x; exact Heap.lt_size e
  | false => obtain ⟨o, e, _⟩ := x; exact Heap.lt_size e
end
theorem Sqk.same {K : PySem.W.Frag} {k : Bool} {H H' : Hp} {a : Addr} {xs : List V} (e : Same H H') (h : Sqk K k H a xs) : Sqk K k H' a xs := by
  cases k with
  | true => exact e.seq h
  | false =>
    rcases h with (h | ⟨o, h⟩) | h
    · exact .inl (.inl (e _ _ h))
    · exact .inl (.inr ⟨o, e _ _ h⟩)
    · exact .inr h

/-! ### for a, b in zip(x, y), x and y lists or tuples -/
def Iz2 (K : PySem.W.Frag) (k1 k2 : Bool) (a b : Addr) : It :=
  ⟨fun i H => ∃ (xs ys : List V) (x y : V), Sqk K k1 H a xs ∧ Sqk K k2 H b ys ∧ xs[i]? = some x ∧ ys[i]? = some y,
    fun i H v H' => ∃ T x y, v = .ref T ∧ H T = none ∧ H' = upd H T (.tup [x, y]) ∧ (∀ xs, Sqk K k1 H a xs → xs[i]? = some x) ∧ ∀ ys, Sqk K k2 H b ys → ys[i]? = some y,
    fun i H => ∃ xs ys : List V, Sqk K k1 H a xs ∧ Sqk K k2 H b ys ∧ xs.length = ys.length ∧ xs.length = i⟩
def Iz3 (K : PySem.W.Frag) (k1 k2 k3 : Bool) (a b c : Addr) : It :=
  ⟨fun i H => ∃ (xs ys zs : List V) (x y z : V), Sqk K k1 H a xs ∧ Sqk K k2 H b ys ∧ Sqk K k3 H c zs ∧ xs[i]? = some x ∧ ys[i]? = some y ∧ zs[i]? = some z,
    fun i H v H' => ∃ T x y z, v = .ref T ∧ H T = none ∧ H' = upd H T (.tup [x, y, z]) ∧ (∀ xs, Sqk K k1 H a xs → xs[i]? = some x) ∧ (∀ ys, Sqk K k2 H b ys → ys[i]? = some y) ∧ ∀ zs, Sqk K k3 H c zs → zs[i]? = some z,
    fun i H => ∃ xs ys zs : List V, Sqk K k1 H a xs ∧ Sqk K k2 H b ys ∧ Sqk K k3 H c zs ∧ xs.length = ys.length ∧ ys.length = zs.length ∧ xs.length = i⟩

theorem turn_z2 {P : Program} {w : World} {K : PySem.W.Frag} {elts : List Expr} {kk : Nat} {tpos : Pos} {k1 k2 : Bool} {a b z TI TO i1 i2 : Addr} (S : ZipSep2 z TI TO i1 i2 [i1, a] [i2, b]) (n1 : a ≠ i1) (n2 : b ≠ i2) :
    Turn P w K (.Tuple elts kk tpos) (Iz2 K k1 k2 a b) [z, TI, TO, i1, i2] z (fun i h => IsZip h z TI TO .none ∧ IsTupOf2 h TI (.ref i1) (.ref i2) ∧ (∃ x y, IsTupOf2 h TO x y) ∧ ItK k1 h i1 a i ∧ ItK k2 h i2 b i) where
  mem := by simp
  obj := fun i h st c hc => by
    obtain ⟨hz, hTI, ⟨x, y, hTO⟩, h1, h2⟩ := st
    have e' : c = z ∨ c = TI ∨ c = TO ∨ c = i1 ∨ c = i2 := by simpa using hc
    rcases e' with q | q | q | q | q
    · rw [q]; exact ⟨_, hz, fun v q => nomatch q⟩
    · rw [q]; exact ⟨_, hTI, fun v q => nomatch q⟩
    · rw [q]; exact ⟨_, hTO, fun v q => nomatch q⟩
    · rw [q]; exact h1.obj
    · rw [q]; exact h2.obj
  keep := fun i h h' st k => by
    obtain ⟨hz, hTI, ⟨x, y, hTO⟩, h1, h2⟩ := st
    exact ⟨k z (by simp) _ hz, k TI (by simp) _ hTI, ⟨x, y, k TO (by simp) _ hTO⟩, h1.at fun o q => k i1 (by simp) o q, h2.at fun o q => k i2 (by simp) o q⟩
  item := by
    intro X hP hw hK hc i pins s σ H E I hf st hg
    subst hP hw hK
    obtain ⟨xs, ys, x, y, hqx, hqy, hx, hy⟩ := hg
    obtain ⟨its, rv, p⟩ := invK I hqx
    obtain ⟨its2, rv2, p2⟩ := invK I hqy
    obtain ⟨u, hu, ru⟩ := rv.get hx
    obtain ⟨u2, hu2, ru2⟩ := rv2.get hy
    have hh : X.A.handled = none := I.ok.hd hc
    have D1 := drawsK (prog := X.prog) (w := X.w) (A := X.A.in1) hh k1 i1 a n1 its.toArray
    have D2 := drawsK (prog := X.prog) (w := X.w) (A := X.A.in1) hh k2 i2 b n2 its2.toArray
    have l1 : i < its.length := (List.getElem?_eq_some_iff.mp hu).1
    have l2 : i < its2.length := (List.getElem?_eq_some_iff.mp hu2).1
    have W := GoesN.zip2 (elts := elts) (x1 := kk) (pos := tpos) S D1 D2
    refine W.goes i s (fun v s2 => ∃ x H', Inv X pins σ H' s2 ∧ RelV x v ∧ (Iz2 X.K k1 k2 a b).yld i H x H' ∧ (IsZip s2.heap z TI TO .none ∧ IsTupOf2 s2.heap TI (.ref i1) (.ref i2) ∧ (∃ x y, IsTupOf2 s2.heap TO x y) ∧ ItK k1 s2.heap i1 a (i + 1) ∧ ItK k2 s2.heap i2 b (i + 1)) ∧ ∀ b ∈ [z, TI, TO, i1, i2], H' b = none) E (by simp only [List.size_toArray]; omega) ⟨st.1, st.2.1, st.2.2.1, ⟨st.2.2.2.1, p⟩, st.2.2.2.2, p2⟩ fun v h' tk hY st' hk htk => ?_
    obtain ⟨T, v1, v2, rfl, hT, e1, e2, hTu⟩ := hY
    have q1 : v1 = u := by
      have e1' : its[i]? = some v1 := by simpa using e1
      rw [hu] at e1'; exact (Option.some.inj e1').symm
    have q2 : v2 = u2 := by
      have e2' : its2[i]? = some v2 := by simpa using e2
      rw [hu2] at e2'; exact (Option.some.inj e2').symm
    subst q1 q2
    have new : ObjOk X.prog X.w (upd H T (.tup [x, y])) h' T (.tup [x, y]) :=
      ⟨by show 2 ≤ sizeLine; decide, [v1, v2], .cons ru (.cons ru2 .nil), hTu⟩
    have I1 : Inv X pins σ (upd H T (.tup [x, y])) { s with heap := h', toks := tk } :=
      I.turnedNew (t' := tk) (ch := [z, TI, TO, i1, i2]) (fun c o hb q => hk c o (fun hm => hb (by
        simp only [List.mem_cons, List.mem_nil_iff, or_false] at hm ⊢
        rcases hm with q | q | q | q <;> simp [q])) q) hf hT new
    refine ⟨.ref T, _, I1, rfl, ⟨T, x, y, rfl, I.hok.fresh hT, rfl, fun l hl => by rw [injK I hl hqx]; exact hx, fun l hl => by rw [injK I hl hqy]; exact hy⟩, ⟨st'.1, st'.2.1, st'.2.2.1, st'.2.2.2.1.1, st'.2.2.2.2.1⟩, fun c hcm => ?_⟩
    have hlt : c < s.heap.objs.size := by
      obtain ⟨hz, hTI, ⟨x0, y0, hTO⟩, h1, h2⟩ := st
      have e' : c = z ∨ c = TI ∨ c = TO ∨ c = i1 ∨ c = i2 := by simpa using hcm
      rcases e' with q | q | q | q | q
      · rw [q]; exact Heap.lt_size hz
      · rw [q]; exact Heap.lt_size hTI
      · rw [q]; exact Heap.lt_size hTO
      · rw [q]; obtain ⟨_, e1, _⟩ := h1.obj; exact Heap.lt_size e1
      · rw [q]; obtain ⟨_, e2, _⟩ := h2.obj; exact Heap.lt_size e2
    rw [upd_ne (Nat.ne_of_lt (Nat.lt_of_lt_of_le hlt hT))]
    exact (hf c hcm).1
  done := by
    intro X hP hw hK hc i pins s σ H E I hf st hg
    subst hP hw hK
    obtain ⟨xs, ys, hqx, hqy, hl, hi⟩ := hg
    obtain ⟨its, rv, p⟩ := invK I hqx
    obtain ⟨its2, rv2, p2⟩ := invK I hqy
    have hh : X.A.handled = none := I.ok.hd hc
    have D1 := drawsK (prog := X.prog) (w := X.w) (A := X.A.in1) hh k1 i1 a n1 its.toArray
    have D2 := drawsK (prog := X.prog) (w := X.w) (A := X.A.in1) hh k2 i2 b n2 its2.toArray
    have W := GoesN.zip2 (elts := elts) (x1 := kk) (pos := tpos) S D1 D2
    have l1 := rv.length
    have l2 := rv2.length
    have en : min its.toArray.size its2.toArray.size = i := by simp only [List.size_toArray]; omega
    have st2 : (IsZip s.heap z TI TO .none ∧ IsTupOf2 s.heap TI (.ref i1) (.ref i2) ∧ (∃ a1 a2, IsTupOf2 s.heap TO a1 a2) ∧ (ItK k1 s.heap i1 a (min its.toArray.size its2.toArray.size) ∧ SeqK k1 s.heap a its.toArray) ∧ ItK k2 s.heap i2 b (min its.toArray.size its2.toArray.size) ∧ SeqK k2 s.heap b its2.toArray) := by
      rw [en]
      exact ⟨st.1, st.2.1, st.2.2.1, ⟨st.2.2.2.1, p⟩, st.2.2.2.2, p2⟩
    refine W.stops s (fun s1 => Inv X pins σ H s1) E st2 fun h' tk hk htk => ?_
    exact I.turnedL (t' := tk) (ch := [z, TI, TO, i1, i2]) (fun c o hb q => hk c o (fun hm => hb (by
        simp only [List.mem_cons, List.mem_nil_iff, or_false] at hm ⊢
        rcases hm with q | q | q | q <;> simp [q])) q) hf
  self := fun A i s Q E st h => wpAny_pyIter_zip st.1 h

theorem turn_z3 {P : Program} {w : World} {K : PySem.W.Frag} {elts : List Expr} {kk : Nat} {tpos : Pos} {k1 k2 k3 : Bool} {a b c z TI TO i1 i2 i3 : Addr} (S : ZipSep3 z TI TO i1 i2 i3 [i1, a] [i2, b] [i3, c]) (n1 : a ≠ i1) (n2 : b ≠ i2) (n3 : c ≠ i3) :
    Turn P w K (.Tuple elts kk tpos) (Iz3 K k1 k2 k3 a b c) [z, TI, TO, i1, i2, i3] z (fun i h => IsZip h z TI TO .none ∧ IsTupOf3 h TI (.ref i1) (.ref i2) (.ref i3) ∧ (∃ x y v, IsTupOf3 h TO x y v) ∧ ItK k1 h i1 a i ∧ ItK k2 h i2 b i ∧ ItK k3 h i3 c i) where
  mem := by simp
  obj := fun i h st c hc => by
    obtain ⟨hz, hTI, ⟨x, y, v, hTO⟩, h1, h2, h3⟩ := st
    have e' : c = z ∨ c = TI ∨ c = TO ∨ c = i1 ∨ c = i2 ∨ c = i3 := by simpa using hc
    rcases e' with q | q | q | q | q | q
    · rw [q]; exact ⟨_, hz, fun v q => nomatch q⟩
    · rw [q]; exact ⟨_, hTI, fun v q => nomatch q⟩
    · rw [q]; exact ⟨_, hTO, fun v q => nomatch q⟩
    · rw [q]; exact h1.obj
    · rw [q]; exact h2.obj
    · rw [q]; exact h3.obj
  keep := fun i h h' st k => by
    obtain ⟨hz, hTI, ⟨x, y, v, hTO⟩, h1, h2, h3⟩ := st
    exact ⟨k z (by simp) _ hz, k TI (by simp) _ hTI, ⟨x, y, v, k TO (by simp) _ hTO⟩, h1.at fun o q => k i1 (by simp) o q, h2.at fun o q => k i2 (by simp) o q, h3.at fun o q => k i3 (by simp) o q⟩
  item := by
    intro X hP hw hK hc i pins s σ H E I hf st hg
    subst hP hw hK
    obtain ⟨xs, ys, zs, x, y, v, hqx, hqy, hqz, hx, hy, hz⟩ := hg
    obtain ⟨its, rv, p⟩ := invK I hqx
    obtain ⟨its2, rv2, p2⟩ := invK I hqy
    obtain ⟨its3, rv3, p3⟩ := invK I hqz
    obtain ⟨u, hu, ru⟩ := rv.get hx
    obtain ⟨u2, hu2, ru2⟩ := rv2.get hy
    obtain ⟨u3, hu3, ru3⟩ := rv3.get hz
    have hh : X.A.handled = none := I.ok.hd hc
    have D1 := drawsK (prog := X.prog) (w := X.w) (A := X.A.in1) hh k1 i1 a n1 its.toArray
    have D2 := drawsK (prog := X.prog) (w := X.w) (A := X.A.in1) hh k2 i2 b n2 its2.toArray
    have D3 := drawsK (prog := X.prog) (w := X.w) (A := X.A.in1) hh k3 i3 c n3 its3.toArray
    have l1 : i < its.length := (List.getElem?_eq_some_iff.mp hu).1
    have l2 : i < its2.length := (List.getElem?_eq_some_iff.mp hu2).1
    have l3 : i < its3.length := (List.getElem?_eq_some_iff.mp hu3).1
    have W := GoesN.zip3 (elts := elts) (x1 := kk) (pos := tpos) S D1 D2 D3
    refine W.goes i s (fun v s2 => ∃ x H', Inv X pins σ H' s2 ∧ RelV x v ∧ (Iz3 X.K k1 k2 k3 a b c).yld i H x H' ∧ (IsZip s2.heap z TI TO .none ∧ IsTupOf3 s2.heap TI (.ref i1) (.ref i2) (.ref i3) ∧ (∃ x y v, IsTupOf3 s2.heap TO x y v) ∧ ItK k1 s2.heap i1 a (i + 1) ∧ ItK k2 s2.heap i2 b (i + 1) ∧ ItK k3 s2.heap i3 c (i + 1)) ∧ ∀ b ∈ [z, TI, TO, i1, i2, i3], H' b = none) E (by simp only [List.size_toArray]; omega) ⟨st.1, st.2.1, st.2.2.1, ⟨st.2.2.2.1, p⟩, ⟨st.2.2.2.2.1, p2⟩, st.2.2.2.2.2, p3⟩ fun v h' tk hY st' hk htk => ?_
    obtain ⟨T, v1, v2, v3, rfl, hT, e1, e2, e3, hTu⟩ := hY
    have q1 : v1 = u := by
      have e1' : its[i]? = some v1 := by simpa using e1
      rw [hu] at e1'; exact (Option.some.inj e1').symm
    have q2 : v2 = u2 := by
      have e2' : its2[i]? = some v2 := by simpa using e2
      rw [hu2] at e2'; exact (Option.some.inj e2').symm
    have q3 : v3 = u3 := by
      have e3' : its3[i]? = some v3 := by simpa using e3
      rw [hu3] at e3'; exact (Option.some.inj e3').symm
    subst q1 q2 q3
    have new : ObjOk X.prog X.w (upd H T (.tup [x, y, v])) h' T (.tup [x, y, v]) :=
      ⟨by show 3 ≤ sizeLine; decide, [v1, v2, v3], .cons ru (.cons ru2 (.cons ru3 .nil)), hTu⟩
    have I1 : Inv X pins σ (upd H T (.tup [x, y, v])) { s with heap := h', toks := tk } :=
      I.turnedNew (t' := tk) (ch := [z, TI, TO, i1, i2, i3]) (fun c o hb q => hk c o (fun hm => hb (by
        simp only [List.mem_cons, List.mem_nil_iff, or_false] at hm ⊢
        rcases hm with q | q | q | q | q <;> simp [q])) q) hf hT new
    refine ⟨.ref T, _, I1, rfl, ⟨T, x, y, v, rfl, I.hok.fresh hT, rfl, fun l hl => by rw [injK I hl hqx]; exact hx, fun l hl => by rw [injK I hl hqy]; exact hy, fun l hl => by rw [injK I hl hqz]; exact hz⟩, ⟨st'.1, st'.2.1, st'.2.2.1, st'.2.2.2.1.1, st'.2.2.2.2.1.1, st'.2.2.2.2.2.1⟩, fun c hcm => ?_⟩
    have hlt : c < s.heap.objs.size := by
      obtain ⟨hz, hTI, ⟨x0, y0, v0, hTO⟩, h1, h2, h3⟩ := st
      have e' : c = z ∨ c = TI ∨ c = TO ∨ c = i1 ∨ c = i2 ∨ c = i3 := by simpa using hcm
      rcases e' with q | q | q | q | q | q
      · rw [q]; exact Heap.lt_size hz
      · rw [q]; exact Heap.lt_size hTI
      · rw [q]; exact Heap.lt_size hTO
      · rw [q]; obtain ⟨_, e1, _⟩ := h1.obj; exact Heap.lt_size e1
      · rw [q]; obtain ⟨_, e2, _⟩ := h2.obj; exact Heap.lt_size e2
      · rw [q]; obtain ⟨_, e2, _⟩ := h3.obj; exact Heap.lt_size e2
    rw [upd_ne (Nat.ne_of_lt (Nat.lt_of_lt_of_le hlt hT))]
    exact (hf c hcm).1
  done := by
    intro X hP hw hK hc i pins s σ H E I hf st hg
    subst hP hw hK
    obtain ⟨xs, ys, zs, hqx, hqy, hqz, hl, hl2, hi⟩ := hg
    obtain ⟨its, rv, p⟩ := invK I hqx
    obtain ⟨its2, rv2, p2⟩ := invK I hqy
    obtain ⟨its3, rv3, p3⟩ := invK I hqz
    have hh : X.A.handled = none := I.ok.hd hc
    have D1 := drawsK (prog := X.prog) (w := X.w) (A := X.A.in1) hh k1 i1 a n1 its.toArray
    have D2 := drawsK (prog := X.prog) (w := X.w) (A := X.A.in1) hh k2 i2 b n2 its2.toArray
    have D3 := drawsK (prog := X.prog) (w := X.w) (A := X.A.in1) hh k3 i3 c n3 its3.toArray
    have W := GoesN.zip3 (elts := elts) (x1 := kk) (pos := tpos) S D1 D2 D3
    have l1 := rv.length
    have l2 := rv2.length
    have l3 := rv3.length
    have en : min (min its.toArray.size its2.toArray.size) its3.toArray.size = i := by simp only [List.size_toArray]; omega
    have st2 : (fun i h => IsZip h z TI TO .none ∧ IsTupOf3 h TI (.ref i1) (.ref i2) (.ref i3) ∧ (∃ a1 a2 a3, IsTupOf3 h TO a1 a2 a3) ∧ (ItK k1 h i1 a i ∧ SeqK k1 h a its.toArray) ∧ (ItK k2 h i2 b i ∧ SeqK k2 h b its2.toArray) ∧ ItK k3 h i3 c i ∧ SeqK k3 h c its3.toArray) (min (min its.toArray.size its2.toArray.size) its3.toArray.size) s.heap := by
      rw [en]
      exact ⟨st.1, st.2.1, st.2.2.1, ⟨st.2.2.2.1, p⟩, ⟨st.2.2.2.2.1, p2⟩, st.2.2.2.2.2, p3⟩
    refine W.stops s (fun s1 => Inv X pins σ H s1) E st2 fun h' tk hk htk => ?_
    exact I.turnedL (t' := tk) (ch := [z, TI, TO, i1, i2, i3]) (fun c o hb q => hk c o (fun hm => hb (by
        simp only [List.mem_cons, List.mem_nil_iff, or_false] at hm ⊢
        rcases hm with q | q | q | q | q <;> simp [q])) q) hf
  self := fun A i s Q E st h => wpAny_pyIter_zip st.1 h

/-! ### the walks -/
def iSeq (K : PySem.W.Frag) (tl : TE) : TI := fun σ H R => tl σ H fun x H1 => ∃ (k : Bool) (a : Addr) (xs : List V), x = .ref a ∧ Sqk K k H1 a xs ∧ R (match k with | true => Itl K a | false => Itt K a) H1
theorem pi_seq {X : Cx} {tg l : Expr} {tl : TE} (hl : PE X l tl) : PI X tg l (iSeq X.K tl) := by
  refine ⟨fun pins s σ H R I h => ?_⟩
  refine thn (hl.run pins s σ H _ I h) fun v s1 ⟨x, H1, I1, r1, q1⟩ => ?_
  obtain ⟨k, a, xs, e, hq, q⟩ := q1
  subst e
  cases r1
  cases k with
  | true =>
    obtain ⟨its, rv, p, hz⟩ := I1.list hq
    refine wpAny_pyIter_list p.isList ?_
    refine ⟨s1.heap.objs.size, [s1.heap.objs.size], _, _, H1, rfl, I1.kept (t' := s1.toks) fun b o e => Heap.get?_push_of_some _ e, turn_list a _, ⟨_, Heap.get?_push_size _ rfl, rfl, rfl⟩, fun b hb => ?_, q⟩
    have e : b = s1.heap.objs.size := by simpa using hb
    subst e
    exact I1.fpOk (Nat.le_refl _) (I1.hok.fresh (Nat.le_refl _))
  | false =>
    obtain ⟨its, rv, p, hz⟩ := I1.tuple hq
    refine wpAny_pyIter_tuple (show s1.heap.IsTuple a its.toArray from p) ?_
    refine ⟨s1.heap.objs.size, [s1.heap.objs.size], _, _, H1, rfl, I1.kept (t' := s1.toks) fun b o e => Heap.get?_push_of_some _ e, turn_tuple a _, ⟨_, Heap.get?_push_size _ rfl, rfl, rfl⟩, fun b hb => ?_, q⟩
    have e : b = s1.heap.objs.size := by simpa using hb
    subst e
    exact I1.fpOk (Nat.le_refl _) (I1.hok.fresh (Nat.le_refl _))
theorem walk_seq {K : PySem.W.Frag} {k : Bool} {a : Addr} {xs : List V} : Walk (match k with | true => Itl K a | false => Itt K a) xs.length (fun H => Sqk K k H a xs) (YAt xs) := by
  cases k with
  | true => exact walk_list
  | false => exact walk_tup
def iZ2 (K : PySem.W.Frag) (ta : TA) : TI := fun σ H R => ta σ H fun vs H1 => ∃ (k1 k2 : Bool) (a b : Addr) (xs ys : List V), vs = [.ref a, .ref b] ∧ Sqk K k1 H1 a xs ∧ Sqk K k2 H1 b ys ∧ R (Iz2 K k1 k2 a b) H1
def iZ3 (K : PySem.W.Frag) (ta : TA) : TI := fun σ H R => ta σ H fun vs H1 => ∃ (k1 k2 k3 : Bool) (a b c : Addr) (xs ys zs : List V), vs = [.ref a, .ref b, .ref c] ∧ Sqk K k1 H1 a xs ∧ Sqk K k2 H1 b ys ∧ Sqk K k3 H1 c zs ∧ R (Iz3 K k1 k2 k3 a b c) H1
theorem pi_z2 {X : Cx} {e e2 : Expr} {ta : TA} {p pos tpos : Pos} {elts : List Expr} {kk : Nat} (hg : Gl X "zip") (hm : X.mg "zip" = none) (ha : PA X [e, e2] ta)
    (hs : starEach [e, e2] X.env = (false, eval e X.env) :: starEach [e2] X.env := by rfl) (hpl : (backTo pos (starEach [e2] X.env)).any (·.1) = false := by rfl) :
    PI X (.Tuple elts kk tpos) (.Call (.Name "zip" p) [e, e2] [] pos) (iZ2 X.K ta) := by
  refine ⟨fun pins s σ H R I h => ?_⟩
  refine Call_ (ld_blt I hg hm PyProof.Rows.boot_zip (PyProof.Rows.callWith_type1 (thn (ha.run pos pins s σ H _ I h) fun us s1 ⟨vs, H1, I1, r1, q1⟩ => ?_) hs hpl))
  obtain ⟨k1, k2, a, b, xs, ys, ex, hqx, hqy, q⟩ := q1
  subst ex
  cases r1 with
  | cons r rr =>
    cases rr with
    | cons r' rr =>
      cases rr
      cases r
      cases r'
      obtain ⟨its, rv, p1⟩ := invK I1 hqx
      obtain ⟨its2, rv2, p2⟩ := invK I1 hqy
      have la : a < s1.heap.objs.size := p1.lt
      have lb : b < s1.heap.objs.size := p2.lt
      refine zip_begins2 (begK k1 a its.toArray) (begK k2 b its2.toArray) p1 p2 fun h' hz hTI hTO h1 h2 hsz hk => wpAny_pyIter_zip hz ?_
      have I2 : Inv X pins σ H1 { s1 with heap := h' } := I1.kept (t' := s1.toks) hk
      refine ⟨s1.heap.objs.size + 4, [s1.heap.objs.size + 4, s1.heap.objs.size + 2, s1.heap.objs.size + 3, s1.heap.objs.size, s1.heap.objs.size + 1], _, _, H1, rfl, I2, turn_z2 (zip_sep2 (fun b hb => by simp at hb; rw [hb]; exact la) (fun b hb => by simp at hb; rw [hb]; exact lb)) (Nat.ne_of_lt la) (Nat.ne_of_lt (Nat.lt_succ_of_lt lb)), ⟨hz, hTI, ⟨_, _, hTO⟩, ItK.new h1, ItK.new h2⟩, fun c hcm => ?_, q⟩
      have e' : c = s1.heap.objs.size + 4 ∨ c = s1.heap.objs.size + 2 ∨ c = s1.heap.objs.size + 3 ∨ c = s1.heap.objs.size ∨ c = s1.heap.objs.size + 1 := by simpa using hcm
      have hle : s1.heap.objs.size ≤ c := by
        rcases e' with z | z | z | z | z
        · rw [z]; exact Nat.le_add_right _ _
        · rw [z]; exact Nat.le_add_right _ _
        · rw [z]; exact Nat.le_add_right _ _
        · rw [z]; exact Nat.le_refl _
        · rw [z]; exact Nat.le_add_right _ _
      exact I1.fpOk hle (I1.hok.fresh hle)
theorem pi_z3 {X : Cx} {e e2 e3 : Expr} {ta : TA} {p pos tpos : Pos} {elts : List Expr} {kk : Nat} (hg : Gl X "zip") (hm : X.mg "zip" = none) (ha : PA X [e, e2, e3] ta)
    (hs : starEach [e, e2, e3] X.env = (false, eval e X.env) :: starEach [e2, e3] X.env := by rfl) (hpl : (backTo pos (starEach [e2, e3] X.env)).any (·.1) = false := by rfl) :
    PI X (.Tuple elts kk tpos) (.Call (.Name "zip" p) [e, e2, e3] [] pos) (iZ3 X.K ta) := by
  refine ⟨fun pins s σ H R I h => ?_⟩
  refine Call_ (ld_blt I hg hm PyProof.Rows.boot_zip (PyProof.Rows.callWith_type1 (thn (ha.run pos pins s σ H _ I h) fun us s1 ⟨vs, H1, I1, r1, q1⟩ => ?_) hs hpl))
  obtain ⟨k1, k2, k3, a, b, c, xs, ys, zs, ex, hqx, hqy, hqz, q⟩ := q1
  subst ex
  cases r1 with
  | cons r rr =>
    cases rr with
    | cons r' rr =>
      cases rr with
      | cons r'' rr =>
        cases rr
        cases r
        cases r'
        cases r''
        obtain ⟨its, rv, p1⟩ := invK I1 hqx
        obtain ⟨its2, rv2, p2⟩ := invK I1 hqy
        obtain ⟨its3, rv3, p3⟩ := invK I1 hqz
        have la : a < s1.heap.objs.size := p1.lt
        have lb : b < s1.heap.objs.size := p2.lt
        have lc : c < s1.heap.objs.size := p3.lt
        refine zip_begins3 (begK k1 a its.toArray) (begK k2 b its2.toArray) (begK k3 c its3.toArray) p1 p2 p3 fun h' hz hTI hTO h1 h2 h3 hsz hk => wpAny_pyIter_zip hz ?_
        have I2 : Inv X pins σ H1 { s1 with heap := h' } := I1.kept (t' := s1.toks) hk
        refine ⟨s1.heap.objs.size + 5, [s1.heap.objs.size + 5, s1.heap.objs.size + 3, s1.heap.objs.size + 4, s1.heap.objs.size, s1.heap.objs.size + 1, s1.heap.objs.size + 2], _, _, H1, rfl, I2, turn_z3 (zip_sep3 (fun b hb => by simp at hb; rw [hb]; exact la) (fun b hb => by simp at hb; rw [hb]; exact lb) (fun b hb => by simp at hb; rw [hb]; exact lc)) (Nat.ne_of_lt la) (Nat.ne_of_lt (Nat.lt_succ_of_lt lb)) (Nat.ne_of_lt (Nat.lt_succ_of_lt (Nat.lt_succ_of_lt lc))), ⟨hz, hTI, ⟨_, _, _, hTO⟩, ItK.new h1, ItK.new h2, ItK.new h3⟩, fun c hcm => ?_, q⟩
        have e' : c = s1.heap.objs.size + 5 ∨ c = s1.heap.objs.size + 3 ∨ c = s1.heap.objs.size + 4 ∨ c = s1.heap.objs.size ∨ c = s1.heap.objs.size + 1 ∨ c = s1.heap.objs.size + 2 := by simpa using hcm
        have hle : s1.heap.objs.size ≤ c := by
          rcases e' with z | z | z | z | z | z
          · rw [z]; exact Nat.le_add_right _ _
          · rw [z]; exact Nat.le_add_right _ _
          · rw [z]; exact Nat.le_add_right _ _
          · rw [z]; exact Nat.le_refl _
          · rw [z]; exact Nat.le_add_right _ _
          · rw [z]; exact Nat.le_add_right _ _
        exact I1.fpOk hle (I1.hok.fresh hle)
/-- a new triple -/
def YTrip (xs ys zs : Nat → Option V) : Nat → Hp → V → Hp → Prop := fun i H v H' => ∃ T x y z, v = .ref T ∧ H T = none ∧ H' = upd H T (.tup [x, y, z]) ∧ xs i = some x ∧ ys i = some y ∧ zs i = some z
section
variable {K : PySem.W.Frag} {k1 k2 k3 : Bool} {a b c : Addr} {xs ys zs : List V}
theorem walk_z2 (hl : xs.length = ys.length) : Walk (Iz2 K k1 k2 a b) xs.length (fun H => Sqk K k1 H a xs ∧ Sqk K k2 H b ys) (YPair (fun i => xs[i]?) (fun i => ys[i]?)) := by
  refine ⟨fun i _ hi q => ?_, fun _ q => ⟨xs, ys, q.1, q.2, hl, rfl⟩, fun i H v H' _ q y => ?_⟩
  · have h2 : i < ys.length := by omega
    exact ⟨xs, ys, xs[i], ys[i], q.1, q.2, by simp [hi], by simp [h2]⟩
  · obtain ⟨T, x, z, h1, h2, h3, h4, h5⟩ := y
    exact ⟨T, x, z, h1, h2, h3, h4 xs q.1, h5 ys q.2⟩
theorem walk_z3 (hl : xs.length = ys.length) (hl2 : ys.length = zs.length) : Walk (Iz3 K k1 k2 k3 a b c) xs.length (fun H => Sqk K k1 H a xs ∧ Sqk K k2 H b ys ∧ Sqk K k3 H c zs) (YTrip (fun i => xs[i]?) (fun i => ys[i]?) (fun i => zs[i]?)) := by
  refine ⟨fun i _ hi q => ?_, fun _ q => ⟨xs, ys, zs, q.1, q.2.1, q.2.2, hl, hl2, rfl⟩, fun i H v H' _ q y => ?_⟩
  · have h2 : i < ys.length := by omega
    have h3 : i < zs.length := by omega
    exact ⟨xs, ys, zs, xs[i], ys[i], zs[i], q.1, q.2.1, q.2.2, by simp [hi], by simp [h2], by simp [h3]⟩
  · obtain ⟨T, x, z, v, h1, h2, h3, h4, h5, h6⟩ := y
    exact ⟨T, x, z, v, h1, h2, h3, h4 xs q.1, h5 ys q.2.1, h6 zs q.2.2⟩
end
end Cs

namespace Cs
open PySem PySem.Spec PyProof.Rows L2

/-! ### keywords -/
section
variable {X : Cx} {CX : CXT} {k n : Nat} {f C : Addr} {fd : FuncData} {ps ks : List Str} {sp : Sp} {E : XK} {x m : Str} {p pos apos : Pos} {e o : Expr} {es : List Expr} {kws : List Keyword} {ta : TE} {t tk : TA} {g : List Value → List Value → List Value} {gV : List V → List V → List V}
def tMethK (C : Addr) (m : Str) (n j : Nat) (sp : Sp) (gV : List V → List V → List V) (E : XK) (ta : TE) (t tk : TA) : TE := fun σ H Q => ta σ H fun x H1 => ∃ a dx fs, x = .ref a ∧ H1 a = some (.ins C dx fs) ∧ fs.lookup m = none ∧
  t σ H1 fun vs H2 => tk σ H2 fun zs H3 => vs.length = n ∧ zs.length = j ∧ sp (gV (x :: vs) zs) H3 Q E
theorem pe_methK0 {pl : Sem Bool} (he : PE X o ta) (c : Cls X.K C) (hm : Meth X.K C m f) (F : FnOk X.prog X.w X.K X.mg X.base CX k f fd ps sp) (hr : Room k X.A) (hb : KBn X.K fd ps 1 ks g gV) (hx : Passes CX X E) (hkw : PK X kws tk)
    (hall : (backToKw pos (keywordEach kws X.env)).all (·.1.isSome) = true := by rfl) (hks : (backToKw pos (keywordEach kws X.env)).filterMap (·.1) = ks := by rfl)
    (hpl : ((backTo pos (starEach [] X.env)).any (·.1) || (backToKw pos (keywordEach kws X.env)).any (·.1.isNone)) = false := by rfl)
    (ht : eval (.Call (.Attribute o m apos) [] kws pos) X.env = (do
      let ov ← eval o X.env
      standAt apos.atName
      let (f, first) ← holding [ov] (getMethod ov m pl)
      callWith pos f first (backTo pos (starEach [] X.env)) (backToKw pos (keywordEach kws X.env))) := by rfl) :
    PE X (.Call (.Attribute o m apos) [] kws pos) (tMethK C m 0 ks.length sp gV E ta tNil tk) := by
  refine ⟨fun pins s σ H Q I h => ?_⟩
  refine PySem.W.methodCall_KW (pl := pl) (thn (he.run pins s σ H _ I h) fun u s1 ⟨x, H1, I1, rx, a, dx, fs, ex, ea, l, q⟩ => ?_) ht
  subst ex
  obtain rfl : u = Value.ref a := rx
  refine getmeth_ok I1 ea c hm l ?_
  refine PySem.W.callWith_KW0 (h₀ := X.base) (first := [.ref a]) I1.ok.mod.kin hm.kp hall ?_ hpl
  refine thn (hkw.run pos pins s1 σ H1 _ I1 q) fun ws s2 ⟨zs, H2, I2, rz, l1, l2, q2⟩ => ⟨I2.kIn, ?_⟩
  rw [hks]
  exact run_fnN (us := [.ref a]) (vs := [.ref a]) F hr hb hx I2 (.cons rfl .nil) rz rfl l2 q2
end

/-! ### list + list, the left one of any standing -/
theorem op_catS {X : Cx} : OpR X (binaryOp .Add) (fun x y H Q => ∃ l b xs zs, x = .ref l ∧ y = .ref b ∧ SqL X.K H l xs ∧ SqL X.K H b zs ∧ xs.length + zs.length ≤ sizeLine ∧ ∀ p, H p = none → Q (.ref p) (upd H p (.lst (xs ++ zs)))) := by
  intro pins s σ H x y v u Q I rx ry h
  obtain ⟨l, b, xs, zs, rfl, rfl, hH, hB, hz, q⟩ := h
  cases rx
  cases ry
  obtain ⟨its, r, p1, z⟩ := I.list hH
  obtain ⟨its2, r2, p2, z2⟩ := I.list hB
  have e1 := r.length
  have e2 := r2.length
  obtain ⟨⟨cls, dd, data, sl⟩, n, ho, hc, hs, hd⟩ := p1
  obtain ⟨⟨cls2, dd2, data2, sl2⟩, n2, ho2, hc2, hs2, hd2⟩ := p2
  simp only at hc hd hc2 hd2 hs hs2
  subst hc hd hc2 hd2 hs hs2
  have ea : its.toArray ++ its2.toArray = (its ++ its2).toArray := by simp
  refine concat_meets ⟨_, ho, rfl⟩ ⟨_, ho2, rfl⟩ noFill_list_add seq_list_add PySem.F.slot_list_add PySem.F.entry_list_add (PySem.F.args_list_add_2 _ _) (list_addW l b its.toArray its2.toArray n n2 none none sl sl2 (by simp only [List.size_toArray]; omega)) ⟨ho, ho2, ?_⟩
  rw [ea]
  exact ⟨.ref _, _, I.lnew (t' := s.toks) (r.append r2) (by rw [List.length_append]; omega), rfl, q _ I.fresh⟩

/-! ### heaps -/
theorem upd_old {H : Hp} {p q : Addr} {o : HO} (hp : H p = none) (hq : H q ≠ none) : upd H p o q = H q := upd_ne (fun e => hq (by rw [e]; exact hp))
/-- all that was tracked is as it was, but what stands at a -/
def Sx (a : Addr) (H H' : Hp) : Prop := ∀ b o, b ≠ a → H b = some o → H' b = some o
theorem Sx.refl {a : Addr} {H : Hp} : Sx a H H := fun _ _ _ h => h
theorem Sx.trans {a : Addr} {H H1 H2 : Hp} (x : Sx a H H1) (y : Sx a H1 H2) : Sx a H H2 := fun b o n h => y b o n (x b o n h)
theorem Sx.of {a : Addr} {H H' : Hp} (x : Same H H') : Sx a H H' := fun b o _ h => x b o h
theorem Sx.new {a p : Addr} {H : Hp} {o : HO} (hp : H p = none) : Sx a H (upd H p o) := fun b u _ h => by rw [upd_old hp (by rw [h]; simp)]; exact h
theorem Sx.put {a : Addr} {H : Hp} {o : HO} : Sx a H (upd H a o) := fun b u n h => by rw [upd_ne n]; exact h
theorem Same.new {p : Addr} {H : Hp} {o : HO} (hp : H p = none) : Same H (upd H p o) := fun b u h => by rw [upd_old hp (by rw [h]; simp)]; exact h
theorem Sx.same {a : Addr} {H H' : Hp} (x : Sx a H H') (h : H a = none) : Same H H' := fun b o e => x b o (fun z => by rw [z, h] at e; cases e) e
theorem ne_some {H : Hp} {p q : Addr} {o : HO} (hq : H q = some o) (hp : H p = none) : q ≠ p := fun e => by rw [e, hp] at hq; cases hq
theorem ne_two {H : Hp} {p q : Addr} {o u : HO} (hq : H q = some o) (hp : H p = some u) (d : o ≠ u) : q ≠ p := fun e => by rw [e, hp] at hq; exact d (Option.some.inj hq).symm

/-! ### comprehensions -/
section
variable {J : It} {n : Nat} {G : Hp → Prop} {Y : Nat → Hp → V → Hp → Prop}
/-- a comprehension without a test: Ia by the turn, what is made so far, and the heap; it does not look at the new list -/
theorem lc_gen (w : Walk J n G Y) {g : TG} {te : TE} {vs : List Nat} {σ : L2.St} {H1 : Hp} {D : Addr} {Qd : Hp → Prop} (Ia : Nat → List V → Hp → Prop) (hn : n ≤ sizeLine)
    (h0 : Ia 0 [] (upd H1 D (.lst []))) (hG : ∀ i acc H, i ≤ n → Ia i acc H → H D = some (.lst acc) → G H) (hst : ∀ i acc H l, Ia i acc H → H D ≠ none → Ia i acc (upd H D (.lst l)))
    (hs : ∀ i acc x H H' (Qy : VK), i < n → acc.length = i → Ia i acc H → H D = some (.lst acc) → Y i H x H' → (∀ y H4, H4 D = some (.lst acc) → Ia (i + 1) (acc ++ [y]) H4 → Qy y H4) → g x (wipe σ vs) H' fun σ2 H2 => wipe σ2 vs = wipe σ vs ∧ te σ2 H2 Qy)
    (hd : ∀ acc H, acc.length = n → Ia n acc H → H D = some (.lst acc) → Qd H) :
    ∃ W : Nat → Nat → Hp → Prop, (∃ m, W 0 m (upd H1 D (.lst []))) ∧ ∀ i m H, W i m H →
      (J.stop i H ∧ Qd H) ∨ (J.go i H ∧ ∃ Nx : Hp → Prop, (∀ H', Nx H' → ∃ m', m' < m ∧ W (i + 1) m' H') ∧ ∀ x H', J.yld i H x H' → g x (wipe σ vs) H' fun σ2 H2 => wipe σ2 vs = wipe σ vs ∧ tYes σ2 H2 fun b H3 =>
        if b = true then te σ2 H3 fun y H4 => ∃ acc, H4 D = some (.lst acc) ∧ acc.length < sizeLine ∧ Nx (upd H4 D (.lst (acc ++ [y]))) else Nx H3) := by
  refine lc_it w (fun i H => ∃ acc : List V, acc.length = i ∧ Ia i acc H ∧ H D = some (.lst acc)) ⟨[], rfl, h0, upd_same⟩ (fun i H hi ⟨acc, _, h, e⟩ => hG i acc H hi h e) (fun i x H H' hi ⟨acc, hl, h, e⟩ hy => ?_) (fun H ⟨acc, hl, h, e⟩ => hd acc H hl h e)
  refine hs i acc x H H' _ hi hl h e hy fun y H4 q1 q2 => ⟨acc, q1, by omega, acc ++ [y], by rw [List.length_append]; simp [hl], ?_, upd_same⟩
  exact hst _ _ _ _ q2 (by rw [q1]; simp)
/-- a comprehension that maps, and leaves all that was tracked as it was -/
theorem lc_map (w : Walk J n G Y) {g : TG} {te : TE} {vs : List Nat} {σ : L2.St} {H1 : Hp} {D : Addr} {Qd : Hp → Prop} (res : List V) (hl : res.length = n) (hn : n ≤ sizeLine) (hD : H1 D = none)
    (hG : ∀ H, Same H1 H → G H)
    (hs : ∀ i x H H' y (Qy : VK), i < n → Same H1 H → H D ≠ none → Y i H x H' → res[i]? = some y → (∀ H4, Same H' H4 → Qy y H4) → g x (wipe σ vs) H' fun σ2 H2 => wipe σ2 vs = wipe σ vs ∧ te σ2 H2 Qy)
    (hY : ∀ i x H H', Y i H x H' → Same H H')
    (hd : ∀ H, Same H1 H → H D = some (.lst res) → Qd H) :
    ∃ W : Nat → Nat → Hp → Prop, (∃ m, W 0 m (upd H1 D (.lst []))) ∧ ∀ i m H, W i m H →
      (J.stop i H ∧ Qd H) ∨ (J.go i H ∧ ∃ Nx : Hp → Prop, (∀ H', Nx H' → ∃ m', m' < m ∧ W (i + 1) m' H') ∧ ∀ x H', J.yld i H x H' → g x (wipe σ vs) H' fun σ2 H2 => wipe σ2 vs = wipe σ vs ∧ tYes σ2 H2 fun b H3 =>
        if b = true then te σ2 H3 fun y H4 => ∃ acc, H4 D = some (.lst acc) ∧ acc.length < sizeLine ∧ Nx (upd H4 D (.lst (acc ++ [y]))) else Nx H3) := by
  refine lc_gen w (fun i acc H => Same H1 H ∧ acc = res.take i) hn ⟨Same.new hD, by simp⟩ (fun i acc H _ h _ => hG H h.1) (fun i acc H l h _ => ⟨fun b o e => ?_, h.2⟩) (fun i acc x H H' Qy hi ha h e hy hq => ?_) (fun acc H ha h e => ?_)
  · rw [upd_ne (ne_some e hD)]
    exact h.1 b o e
  · have hi2 : i < res.length := by omega
    have hr : res[i]? = some res[i] := List.getElem?_eq_getElem hi2
    refine hs i x H H' res[i] Qy hi h.1 (by rw [e]; simp) hy hr fun H4 s4 => hq _ _ (s4 _ _ (hY _ _ _ _ hy _ _ e)) ⟨h.1.trans ((hY _ _ _ _ hy).trans s4), ?_⟩
    rw [h.2, List.take_add_one, hr]
    rfl
  · rw [h.2, ← hl, List.take_length] at e
    exact hd H h.1 e
end
theorem YAt.same {xs : List V} {i : Nat} {x : V} {H H' : Hp} (h : YAt xs i H x H') : Same H H' := by rw [h.1]; exact Same.refl _
theorem YPair.same {f g : Nat → Option V} {i : Nat} {x : V} {H H' : Hp} (h : YPair f g i H x H') : Same H H' := by
  obtain ⟨T, x, y, _, hT, rfl, _⟩ := h
  exact Same.new hT
theorem YTrip.same {f g k : Nat → Option V} {i : Nat} {x : V} {H H' : Hp} (h : YTrip f g k i H x H') : Same H H' := by
  obtain ⟨T, x, y, z, _, hT, rfl, _⟩ := h
  exact Same.new hT

/-! ### isinstance -/
/-- isinstance(x, c) is b -/
def IsI (K : PySem.W.Frag) (H : Hp) (x c : V) (b : Bool) : Prop := ∃ t u : Value, ClsV c u ∧ TyX K H x t ∧ PySem.W.kitOne K t u = some b
def rIsI (K : PySem.W.Frag) : List V → Hp → VK → Prop := fun vs H Q => ∃ x c b, vs = [x, c] ∧ IsI K H x c b ∧ Q (.bl b) H
theorem call_isI {X : Cx} : CallR X (.builtin "isinstance") (rIsI X.K) := by
  intro pins s σ H xs us Q I r h
  obtain ⟨x, c, b, rfl, ⟨t, u, h1, h2, h3⟩, q⟩ := h
  exact call_isi pins s σ H _ us Q I r ⟨x, c, t, u, b, rfl, h1, h2, h3, q⟩
/-- a value that is no object: its type's name -/
def tyN : V → Option String
  | .non => some "NoneType"
  | .bl _ => some "bool"
  | .int _ => some "int"
  | .str _ => some "str"
  | _ => none
theorem tyN_of {K : PySem.W.Frag} {H : Hp} {x : V} {t : Value} {n : String} (h : TyX K H x t) (e : tyN x = some n) : t = .type n := by
  cases h with
  | base b => cases b <;> simp [tyN] at e <;> subst e <;> rfl
  | byt b => simp [tyN] at e
  | set e' => simp [tyN] at e
  | kList e' _ => simp [tyN] at e
  | kTuple e' _ => simp [tyN] at e
  | kDict e' _ => simp [tyN] at e
  | fTuple e' => simp [tyN] at e
  | fDict e' => simp [tyN] at e
theorem isI_ty {K : PySem.W.Frag} {H : Hp} {x : V} {n : String} {c : String} {b : Bool} (ty : TyX K H x (.type n)) (h : kitB n c = some b) : IsI K H x (.ty c) b := ⟨_, _, .ty c, ty, kit_ty h⟩
theorem isI_iff {K : PySem.W.Frag} {H : Hp} {x : V} {n c : String} {b : Bool} {p : Bool → Prop} (e : tyN x = some n) (ty : TyX K H x (.type n)) (h : kitB n c = some b) : (∃ k, IsI K H x (.ty c) k ∧ p k) ↔ p b := by
  constructor
  · rintro ⟨k, ⟨t, u, hc, ht, hk⟩, q⟩
    have e1 := tyN_of ht e
    subst e1
    cases hc
    have e2 := hk.symm.trans (kit_ty (K := K) h)
    cases e2
    exact q
  · intro q
    exact ⟨b, isI_ty ty h, q⟩
section
variable {K : PySem.W.Frag} {H : Hp} {p : Bool → Prop}
theorem isI_int_int (n : Int) : (∃ k, IsI K H (.int n) (.ty "int") k ∧ p k) ↔ p true := isI_iff rfl (.base (.int n)) (by decide +kernel)
theorem isI_int_bool (n : Int) : (∃ k, IsI K H (.int n) (.ty "bool") k ∧ p k) ↔ p false := isI_iff rfl (.base (.int n)) (by decide +kernel)
theorem isI_bl_int (n : Bool) : (∃ k, IsI K H (.bl n) (.ty "int") k ∧ p k) ↔ p true := isI_iff rfl (.base (.bl n)) (by decide +kernel)
theorem isI_bl_bool (n : Bool) : (∃ k, IsI K H (.bl n) (.ty "bool") k ∧ p k) ↔ p true := isI_iff rfl (.base (.bl n)) (by decide +kernel)
theorem isI_str_str (n : Str) : (∃ k, IsI K H (.str n) (.ty "str") k ∧ p k) ↔ p true := isI_iff rfl (.base (.str n)) (by decide +kernel)
end
theorem isI_tup {K : PySem.W.Frag} {H : Hp} {a : Addr} {xs : List V} (h : H a = some (.tup xs)) : IsI K H (.ref a) (.ty "tuple") true := isI_ty (.base (.tup h)) (by decide +kernel)
theorem isI_lst {K : PySem.W.Frag} {H : Hp} {a : Addr} {xs : List V} (h : H a = some (.lst xs)) : IsI K H (.ref a) (.ty "list") true := isI_ty (.base (.lst h)) (by decide +kernel)
theorem isI_tup_list {K : PySem.W.Frag} {H : Hp} {a : Addr} {xs : List V} (h : H a = some (.tup xs)) : IsI K H (.ref a) (.ty "list") false := isI_ty (.base (.tup h)) (by decide +kernel)
theorem isI_lst_tup {K : PySem.W.Frag} {H : Hp} {a : Addr} {xs : List V} (h : H a = some (.lst xs)) : IsI K H (.ref a) (.ty "tuple") false := isI_ty (.base (.lst h)) (by decide +kernel)
/-- isinstance(x, (c1, c2)) is b -/
def IsA (K : PySem.W.Frag) (H : Hp) (x : V) (cs : List V) (b : Bool) : Prop := ∃ (t : Value) (us : List Value), Paired ClsV cs us ∧ TyX K H x t ∧ PySem.W.kitAny K t us = some b
def rIsA (K : PySem.W.Frag) : List V → Hp → VK → Prop := fun vs H Q => ∃ (x : V) (tp : Addr) (cs : List V) (b : Bool), vs = [x, .ref tp] ∧ H tp = some (.tup cs) ∧ IsA K H x cs b ∧ Q (.bl b) H
theorem call_isA {X : Cx} : CallR X (.builtin "isinstance") (rIsA X.K) := by
  intro pins s σ H xs us Q I r h
  obtain ⟨x, tp, cs, b, rfl, hT, ⟨t, ws, h1, h2, h3⟩, q⟩ := h
  exact call_isiT pins s σ H _ us Q I r ⟨x, tp, cs, t, ws, b, rfl, hT, h1, h2, h3, q⟩
theorem isA_two {K : PySem.W.Frag} {H : Hp} {x : V} {n c1 c2 : String} {b1 b2 b : Bool} (ty : TyX K H x (.type n)) (h1 : kitB n c1 = some b1) (h2 : kitB n c2 = some b2) (e : b = (b1 || b2)) : IsA K H x [.ty c1, .ty c2] b := by
  subst e
  refine ⟨_, [_, _], .cons (.ty c1) (.cons (.ty c2) .nil), ty, kitAny_cons (kit_ty h1) (fun e => ?_) fun e => by rw [e]; rfl⟩
  subst e
  exact kitAny_cons (kit_ty h2) (fun e => by subst e; exact kitAny_nil) fun e => by rw [e]; rfl

/-! ### data -/
theorem dpAll_ints {K : PySem.W.Frag} {H : Hp} : ∀ ns : List Int, DpAll K H (ns.map V.int) (ns.map PyData.int)
  | [] => .nil
  | n :: ns => .cons (.int n) (dpAll_ints ns)
theorem canLay_ints : ∀ ns : List Int, PyData.canLayAll0 (ns.map PyData.int) = true
  | [] => rfl
  | n :: ns => by
    show (PyData.canLay0 (.int n) && PyData.canLayAll0 (ns.map PyData.int)) = true
    rw [canLay_ints ns]
    rfl
theorem depth_ints : ∀ ns : List Int, PyData.depthAll (ns.map PyData.int) = 0
  | [] => rfl
  | n :: ns => by
    show max (PyData.depth (.int n)) (PyData.depthAll (ns.map PyData.int)) = 0
    rw [depth_ints ns]
    rfl
theorem eqvAll_ints : ∀ ns ms : List Int, PyData.eqvAll (ns.map PyData.int) (ms.map PyData.int) = decide (ns = ms)
  | [], [] => rfl
  | [], _ :: _ => rfl
  | _ :: _, [] => rfl
  | n :: ns, m :: ms => by
    show (PyData.eqv (.int n) (.int m) && PyData.eqvAll (ns.map PyData.int) (ms.map PyData.int)) = _
    rw [eqvAll_ints ns ms]
    show ((n == m) && decide (ns = ms)) = decide (n :: ns = m :: ms)
    by_cases h : n = m <;> by_cases h2 : ns = ms <;> simp [h, h2]
def tupI (ns : List Int) : PyData := .tuple (ns.map PyData.int)
theorem dp_tupI {K : PySem.W.Frag} {H : Hp} {a : Addr} {ns : List Int} (h : SqT K H a (ns.map V.int)) : Dp K H (.ref a) (tupI ns) := .tup h (dpAll_ints ns)
theorem eqv_tupI (ns ms : List Int) : PyData.eqv (tupI ns) (tupI ms) = decide (ns = ms) := eqvAll_ints ns ms
theorem shaped_tupI (ns : List Int) : SeqAt.shaped (tupI ns) = true := by
  have h1 : PyData.canLay0 (tupI ns) = true := canLay_ints ns
  have h2 : PyData.depth (tupI ns) ≤ 64 := by
    show PyData.depthAll (ns.map PyData.int) + 1 ≤ 64
    rw [depth_ints ns]
    decide
  unfold SeqAt.shaped
  rw [h1, decide_eq_true h2]
  rfl


/-! ### rules over what is tracked alone -/
section
variable {X : Cx}
theorem ix_lH : IxR X (fun x y H Q => ∃ p i, x = .ref p ∧ y = .int i ∧ ∃ xs, H p = some (.lst xs) ∧ ∃ v, atI xs i = some v ∧ Q v H) := by
  intro value slice pins s σ H x y v u Q I rx ry h hs
  obtain ⟨p, i, rfl, rfl, xs, hp, z, hz, q⟩ := h
  exact ix_list value slice pins s σ H _ _ v u Q I rx ry ⟨p, xs, i, z, rfl, rfl, .inl (.inl hp), hz, q⟩ hs
theorem ix_tH : IxR X (fun x y H Q => ∃ p i, x = .ref p ∧ y = .int i ∧ ∃ xs, H p = some (.tup xs) ∧ ∃ v, atI xs i = some v ∧ Q v H) := by
  intro value slice pins s σ H x y v u Q I rx ry h hs
  obtain ⟨p, i, rfl, rfl, xs, hp, z, hz, q⟩ := h
  exact ix_tup value slice pins s σ H _ _ v u Q I rx ry ⟨p, xs, i, z, rfl, rfl, .inl (.inl hp), hz, q⟩ hs
theorem set_lH : PSet X (fun o i v H Q => ∃ p k, o = .ref p ∧ i = .int k ∧ ∃ xs, H p = some (.lst xs) ∧ ∃ j, ixN xs.length k = some j ∧ Q (upd H p (.lst (xs.set j v)))) := by
  intro pins s σ H o i v ov iv u Q I ro ri rv h
  obtain ⟨p, k, e1, e2, xs, hp, j, hj, q⟩ := h
  exact set_list pins s σ H o i v ov iv u Q I ro ri rv ⟨p, xs, k, j, e1, e2, hp, hj, q⟩
theorem len_H : CallR X (.builtin "len") (fun vs H Q => ∃ p, vs = [.ref p] ∧ ((∃ ys, H p = some (.lst ys) ∧ Q (.int ys.length) H) ∨ ∃ ys, H p = some (.tup ys) ∧ Q (.int ys.length) H)) := by
  intro pins s σ H vs us Q I r h
  obtain ⟨p, e, h⟩ := h
  refine call_len_seq pins s σ H vs us Q I r ?_
  rcases h with ⟨ys, hp, q⟩ | ⟨ys, hp, q⟩
  · exact ⟨p, ys, e, .inl (.inl (.inl hp)), q⟩
  · exact ⟨p, ys, e, .inr (.inl (.inl hp)), q⟩
theorem tuple_H : CallR X (.type "tuple") (fun vs H Q => ∃ p, vs = [.ref p] ∧ ((∃ ys, H p = some (.lst ys) ∧ ∀ l, H l = none → Q (.ref l) (upd H l (.tup ys))) ∨ ∃ ys, H p = some (.tup ys) ∧ Q (.ref p) H)) := by
  intro pins s σ H vs us Q I r h
  obtain ⟨p, e, h⟩ := h
  refine call_tuple_of pins s σ H vs us Q I r ?_
  rcases h with ⟨ys, hp, q⟩ | ⟨ys, hp, q⟩
  · exact ⟨p, ys, e, .inl ⟨.inl (.inl hp), q⟩⟩
  · exact ⟨p, ys, e, .inr ⟨.inl (.inl hp), q⟩⟩
theorem list_H : CallR X (.type "list") (fun vs H Q => ∃ p, vs = [.ref p] ∧ ((∃ ys, H p = some (.lst ys) ∧ ∀ l, H l = none → Q (.ref l) (upd H l (.lst ys))) ∨ ∃ ys, H p = some (.tup ys) ∧ ∀ l, H l = none → Q (.ref l) (upd H l (.lst ys)))) := by
  intro pins s σ H vs us Q I r h
  obtain ⟨p, e, h⟩ := h
  refine call_list_of pins s σ H vs us Q I r ?_
  rcases h with ⟨ys, hp, q⟩ | ⟨ys, hp, q⟩
  · exact ⟨p, ys, e, .inl (.inl (.inl hp)), q⟩
  · exact ⟨p, ys, e, .inr (.inl (.inl hp)), q⟩
theorem all_H (hc : X.calm = true) : CallR X (.builtin "all") (fun vs H Q => ∃ p, vs = [.ref p] ∧ ∃ bs : List Bool, H p = some (.lst (bs.map V.bl)) ∧ Q (.bl (bs.all id)) H) := by
  intro pins s σ H vs us Q I r h
  obtain ⟨p, e, bs, hp, q⟩ := h
  exact cr_all hc pins s σ H vs us Q I r ⟨p, bs, e, .inl (.inl hp), q⟩
/-- a, b = t, t tracked -/
def gTupH (n : Nat) (t : TGs) : TG := fun v σ H Q => ∃ a, v = .ref a ∧ ∃ xs, H a = some (.tup xs) ∧ xs.length = n ∧ t xs σ H Q
theorem pg_tupH {es : List Expr} {k : Nat} {t : TGs} {n : Nat} {pos : Pos} (hc : X.calm = true) (h : PGs X es t)
    (hn : (assignEach es X.env).length = n := by rfl) (hst : (assignEach es X.env).findIdx? (·.1) = none := by rfl) : PG X (.Tuple es k pos) (gTupH n t) := by
  refine ⟨fun pins s σ H v u Q I r hw => ?_⟩
  obtain ⟨a, e1, xs, hq, hl, hw⟩ := hw
  exact (pg_tup hc h hn hst).run pins s σ H v u Q I r ⟨a, xs, e1, .inl (.inl hq), hl, hw⟩
/-- l.append(e) -/
def tAppend (to : TE) (t : TA) : TE := fun σ H Q => to σ H fun x H1 => ∃ p, x = .ref p ∧ ∃ xs, H1 p = some (.lst xs) ∧ t σ H1 fun vs H2 => ∃ y, vs = [y] ∧ ∃ ys, H2 p = some (.lst ys) ∧ ys.length < sizeLine ∧ Q .non (upd H2 p (.lst (ys ++ [y])))
theorem pe_append {o e : Expr} {to : TE} {t : TA} {apos cpos : Pos} (ho : PE X o to) (ha : PA X [e] t)
    (hbase : attributeBase o "append" X.env (eval o X.env) = eval o X.env := by rfl)
    (hfew : ((backTo cpos (starEach [e] X.env)).all (fun x => !x.1) && (backToKw cpos (keywordEach [] X.env)).all (fun x => x.1.isSome)
      && decide (([e] : List Expr).length + ([] : List Keyword).length + (if ([] : List Keyword).isEmpty then 0 else 1) < 30)) = true := by rfl)
    (hline : (apos.endLine == cpos.line) = true := by rfl) (hs : starEach [e] X.env = (false, eval e X.env) :: starEach [] X.env := by rfl) :
    PE X (.Call (.Attribute o "append" apos) [e] [] cpos) (tAppend to t) := by
  refine ⟨fun pins s σ H Q I h => ?_⟩
  refine wpAny_Call_method_late hbase hfew hline rfl (thn (ho.run pins s σ H _ I h) fun v s1 ⟨x, H1, I1, r1, p, ex, xs, hp, q1⟩ => ?_)
  subst ex
  have ty : tyV X.K "list" (.ref p) H1 := .inl ⟨rfl, xs, .inl (.inl hp)⟩
  obtain ⟨h1, h2⟩ := tyV_is I1 r1 ty
  refine ⟨"list", _, PySem.F.plainAttrs_list, PySem.F.slot_list_append, PySem.F.type_list_append, h1, h2, ?_⟩
  have hA := ha.run cpos pins s1 σ H1 _ I1 q1
  rw [hs] at hA ⊢
  refine Calls.callWith_builtin (by rfl) (Calls.evalArgs_plain ?_)
  refine thn hA fun us s2 ⟨vs, H2, I2, r2, y, e2, ys, hp2, hz, q2⟩ => ?_
  exact mt_append pins s2 σ H2 (.ref p) vs v us Q I2 r1 r2 ⟨p, ys, y, rfl, e2, hp2, hz, q2⟩
end
/-! ### loops and comprehensions, closed off -/
def LcR (J : It) (g : TG) (tt : TT) (te : TE) (vs : List Nat) (σ : L2.St) (H1 : Hp) (Q : VK) : Prop := ∀ D, H1 D = none → ∃ W : Nat → Nat → Hp → Prop, (∃ m, W 0 m (upd H1 D (.lst []))) ∧ ∀ i m H, W i m H →
  (J.stop i H ∧ Q (.ref D) H) ∨ (J.go i H ∧ ∃ Nx : Hp → Prop, (∀ H', Nx H' → ∃ m', m' < m ∧ W (i + 1) m' H') ∧ ∀ x H', J.yld i H x H' → g x (wipe σ vs) H' fun σ2 H2 => wipe σ2 vs = wipe σ vs ∧ tt σ2 H2 fun b H3 =>
    if b = true then te σ2 H3 fun y H4 => ∃ acc, H4 D = some (.lst acc) ∧ acc.length < sizeLine ∧ Nx (upd H4 D (.lst (acc ++ [y]))) else Nx H3)
theorem tLc_eq {wi : TI} {g : TG} {tt : TT} {te : TE} {vs : List Nat} {σ : L2.St} {H : Hp} {Q : VK} : tLc wi g tt te vs σ H Q = wi σ H fun J H1 => LcR J g tt te vs σ H1 Q := rfl
def ForR (J : It) (g : TG) (tb : TS) (D : Ends) (σ : L2.St) (H1 : Hp) : Prop := ∃ W : Nat → Nat → L2.St → Hp → Prop, (∃ m, W 0 m σ H1) ∧ ∀ i m σ H, W i m σ H →
  (J.stop i H ∧ D.nx σ H) ∨ (J.go i H ∧ ∃ N : L2.St → Hp → Prop, (∀ σ' H', N σ' H' → ∃ m', m' < m ∧ W (i + 1) m' σ' H') ∧ ∀ x H', J.yld i H x H' → g x σ H' fun σ2 H2 => tb { D with nx := N, ct := N, bk := D.nx } σ2 H2)
theorem tFor_eq {wi : TI} {g : TG} {tb : TS} {D : Ends} {σ : L2.St} {H : Hp} : tFor wi g tb D σ H = wi σ H fun J H1 => ForR J g tb D σ H1 := rfl
/-- what is walked, told by Walk alone -/
def iSeqH (tl : TE) : TI := fun σ H R => tl σ H fun x H1 => ∃ a, x = .ref a ∧ ((∃ xs, H1 a = some (.lst xs) ∧ ∀ J : It, Walk J xs.length (fun H => H a = some (.lst xs)) (YAt xs) → R J H1) ∨ ∃ xs, H1 a = some (.tup xs) ∧ ∀ J : It, Walk J xs.length (fun H => H a = some (.tup xs)) (YAt xs) → R J H1)
def iSeqS (K : PySem.W.Frag) (tl : TE) : TI := fun σ H R => tl σ H fun x H1 => ∃ (k : Bool) (a : Addr) (xs : List V), x = .ref a ∧ Sqk K k H1 a xs ∧ ∀ J : It, Walk J xs.length (fun H => Sqk K k H a xs) (YAt xs) → R J H1
theorem PI.mono {X : Cx} {tg it : Expr} {w w' : TI} (h : PI X tg it w) (m : ∀ σ H R, w' σ H R → w σ H R) : PI X tg it w' := ⟨fun pins s σ H R I q => h.run pins s σ H R I (m σ H R q)⟩
section
variable {X : Cx} {tg l : Expr} {tl : TE}
theorem pi_seqH (hl : PE X l tl) : PI X tg l (iSeqH tl) := by
  have h2 : PE X l fun σ H Q => tl σ H fun x H1 => Q x H1 := hl
  refine ⟨fun pins s σ H R I h => ?_⟩
  refine thn (hl.run pins s σ H _ I h) fun v s1 ⟨x, H1, I1, r1, q1⟩ => ?_
  obtain ⟨a, e, q⟩ := q1
  subst e
  have key : ∀ (k : Bool) (xs : List V), Sqk X.K k H1 a xs → R (match k with | true => Itl X.K a | false => Itt X.K a) H1 → wpAny (model X.prog X.w) X.A (pyIter v) (PIE X pins σ tg R) X.xe s1 := fun k xs hs hR => by
    cases r1
    cases k with
    | true =>
      obtain ⟨its, rv, p, hz⟩ := I1.list hs
      refine wpAny_pyIter_list p.isList ?_
      refine ⟨s1.heap.objs.size, [s1.heap.objs.size], _, _, H1, rfl, I1.kept (t' := s1.toks) fun b o e => Heap.get?_push_of_some _ e, turn_list a _, ⟨_, Heap.get?_push_size _ rfl, rfl, rfl⟩, fun b hb => ?_, hR⟩
      have e : b = s1.heap.objs.size := by simpa using hb
      subst e
      exact I1.fpOk (Nat.le_refl _) (I1.hok.fresh (Nat.le_refl _))
    | false =>
      obtain ⟨its, rv, p, hz⟩ := I1.tuple hs
      refine wpAny_pyIter_tuple (show s1.heap.IsTuple a its.toArray from p) ?_
      refine ⟨s1.heap.objs.size, [s1.heap.objs.size], _, _, H1, rfl, I1.kept (t' := s1.toks) fun b o e => Heap.get?_push_of_some _ e, turn_tuple a _, ⟨_, Heap.get?_push_size _ rfl, rfl, rfl⟩, fun b hb => ?_, hR⟩
      have e : b = s1.heap.objs.size := by simpa using hb
      subst e
      exact I1.fpOk (Nat.le_refl _) (I1.hok.fresh (Nat.le_refl _))
  rcases q with ⟨xs, hp, q⟩ | ⟨xs, hp, q⟩
  · exact key true xs (.inl (.inl hp)) (q _ (walk_list.mono (fun H h => .inl (.inl h)) fun _ _ _ _ _ _ y => y))
  · exact key false xs (.inl (.inl hp)) (q _ (walk_tup.mono (fun H h => .inl (.inl h)) fun _ _ _ _ _ _ y => y))
theorem pi_seqS (hl : PE X l tl) : PI X tg l (iSeqS X.K tl) := by
  refine ⟨fun pins s σ H R I h => ?_⟩
  refine thn (hl.run pins s σ H _ I h) fun v s1 ⟨x, H1, I1, r1, q1⟩ => ?_
  obtain ⟨k, a, xs, e, hs, q⟩ := q1
  subst e
  have hR := q _ walk_seq
  cases r1
  cases k with
  | true =>
    obtain ⟨its, rv, p, hz⟩ := I1.list hs
    refine wpAny_pyIter_list p.isList ?_
    refine ⟨s1.heap.objs.size, [s1.heap.objs.size], _, _, H1, rfl, I1.kept (t' := s1.toks) fun b o e => Heap.get?_push_of_some _ e, turn_list a _, ⟨_, Heap.get?_push_size _ rfl, rfl, rfl⟩, fun b hb => ?_, hR⟩
    have e : b = s1.heap.objs.size := by simpa using hb
    subst e
    exact I1.fpOk (Nat.le_refl _) (I1.hok.fresh (Nat.le_refl _))
  | false =>
    obtain ⟨its, rv, p, hz⟩ := I1.tuple hs
    refine wpAny_pyIter_tuple (show s1.heap.IsTuple a its.toArray from p) ?_
    refine ⟨s1.heap.objs.size, [s1.heap.objs.size], _, _, H1, rfl, I1.kept (t' := s1.toks) fun b o e => Heap.get?_push_of_some _ e, turn_tuple a _, ⟨_, Heap.get?_push_size _ rfl, rfl, rfl⟩, fun b hb => ?_, hR⟩
    have e : b = s1.heap.objs.size := by simpa using hb
    subst e
    exact I1.fpOk (Nat.le_refl _) (I1.hok.fresh (Nat.le_refl _))
end
/-- a list or a tuple, tracked -/
def Sqh (k : Bool) (H : Hp) (a : Addr) (xs : List V) : Prop := match k with
  | true => H a = some (.lst xs)
  | false => H a = some (.tup xs)
theorem Sqh.sqk {K : PySem.W.Frag} {k : Bool} {H : Hp} {a : Addr} {xs : List V} (h : Sqh k H a xs) : Sqk K k H a xs := by
  cases k with
  | true => exact .inl (.inl h)
  | false => exact .inl (.inl h)
theorem Sqh.same {k : Bool} {H H' : Hp} {a : Addr} {xs : List V} (e : Same H H') (h : Sqh k H a xs) : Sqh k H' a xs := by
  cases k with
  | true => exact e _ _ h
  | false => exact e _ _ h
def iZ2H (ta : TA) : TI := fun σ H R => ta σ H fun vs H1 => ∃ a b, vs = [.ref a, .ref b] ∧ ∃ (k1 k2 : Bool) (xs ys : List V), Sqh k1 H1 a xs ∧ Sqh k2 H1 b ys ∧ xs.length = ys.length ∧ ∀ J : It, Walk J xs.length (fun H => Sqh k1 H a xs ∧ Sqh k2 H b ys) (YPair (fun i => xs[i]?) (fun i => ys[i]?)) → R J H1
def iZ3H (ta : TA) : TI := fun σ H R => ta σ H fun vs H1 => ∃ a b c, vs = [.ref a, .ref b, .ref c] ∧ ∃ (k1 k2 k3 : Bool) (xs ys zs : List V), Sqh k1 H1 a xs ∧ Sqh k2 H1 b ys ∧ Sqh k3 H1 c zs ∧ xs.length = ys.length ∧ ys.length = zs.length ∧
  ∀ J : It, Walk J xs.length (fun H => Sqh k1 H a xs ∧ Sqh k2 H b ys ∧ Sqh k3 H c zs) (YTrip (fun i => xs[i]?) (fun i => ys[i]?) (fun i => zs[i]?)) → R J H1
theorem PA.weak {X : Cx} {es : List Expr} {t : TA} (h : PA X es t) {pos : Pos} {pins : List (Addr × Obj)} {s : Shared} {σ : L2.St} {H : Hp} {Q : List V → Hp → Prop} (I : Inv X pins σ H s) (q : t σ H Q) : wpAny (model X.prog X.w) X.A (spliced (backTo pos (starEach es X.env))) (AP X pins σ Q) X.xe s := h.run pos pins s σ H Q I q
/-- an argument list whose reading is asked for less -/
theorem PA.of {X : Cx} {es : List Expr} {t : TA} (h : PA X es t) (f : List V → Hp → (List V → Hp → Prop) → Prop) : PA X es fun σ H Q => t σ H fun vs H1 => Q vs H1 := h
section
variable {X : Cx} {e e2 e3 : Expr} {ta : TA} {p pos tpos : Pos} {elts : List Expr} {kk : Nat}
theorem pi_z2H (hg : Gl X "zip") (hm : X.mg "zip" = none) (ha : PA X [e, e2] ta)
    (hs : starEach [e, e2] X.env = (false, eval e X.env) :: starEach [e2] X.env := by rfl) (hpl : (backTo pos (starEach [e2] X.env)).any (·.1) = false := by rfl) :
    PI X (.Tuple elts kk tpos) (.Call (.Name "zip" p) [e, e2] [] pos) (iZ2H ta) := by
  refine ⟨fun pins s σ H R I h => ?_⟩
  let ta' : TA := fun σ H Q => ta σ H fun vs H1 => (∃ a b, vs = [.ref a, .ref b] ∧ ∃ (k1 k2 : Bool) (xs ys : List V), Sqh k1 H1 a xs ∧ Sqh k2 H1 b ys ∧ xs.length = ys.length ∧ ∀ J : It, Walk J xs.length (fun H => Sqh k1 H a xs ∧ Sqh k2 H b ys) (YPair (fun i => xs[i]?) (fun i => ys[i]?)) → R J H1) ∧ Q vs H1
  have ha' : PA X [e, e2] ta' := ⟨fun pos pins s σ H Q I q => thn (ha.run pos pins s σ H _ I q) fun us s1 ⟨vs, H1, I1, r1, _, q1⟩ => ⟨vs, H1, I1, r1, q1⟩⟩
  refine Call_ (ld_blt I hg hm PyProof.Rows.boot_zip (PyProof.Rows.callWith_type1 (thn (ha.run pos pins s σ H _ I h) fun us s1 ⟨vs, H1, I1, r1, q1⟩ => ?_) hs hpl))
  obtain ⟨a, b, ex, k1, k2, xs, ys, hqx, hqy, hl, q⟩ := q1
  subst ex
  have q := q (Iz2 X.K k1 k2 a b) ((walk_z2 (K := X.K) (k1 := k1) (k2 := k2) (a := a) (b := b) hl).mono (fun H h => ⟨h.1.sqk, h.2.sqk⟩) fun _ _ _ _ _ _ y => y)
  have hqx : Sqk X.K k1 H1 a xs := hqx.sqk
  have hqy : Sqk X.K k2 H1 b ys := hqy.sqk
  cases r1 with
  | cons r rr =>
    cases rr with
    | cons r' rr =>
      cases rr
      cases r
      cases r'
      obtain ⟨its, rv, p1⟩ := invK I1 hqx
      obtain ⟨its2, rv2, p2⟩ := invK I1 hqy
      have la : a < s1.heap.objs.size := p1.lt
      have lb : b < s1.heap.objs.size := p2.lt
      refine zip_begins2 (begK k1 a its.toArray) (begK k2 b its2.toArray) p1 p2 fun h' hz hTI hTO h1 h2 hsz hk => wpAny_pyIter_zip hz ?_
      have I2 : Inv X pins σ H1 { s1 with heap := h' } := I1.kept (t' := s1.toks) hk
      refine ⟨s1.heap.objs.size + 4, [s1.heap.objs.size + 4, s1.heap.objs.size + 2, s1.heap.objs.size + 3, s1.heap.objs.size, s1.heap.objs.size + 1], _, _, H1, rfl, I2, turn_z2 (zip_sep2 (fun b hb => by simp at hb; rw [hb]; exact la) (fun b hb => by simp at hb; rw [hb]; exact lb)) (Nat.ne_of_lt la) (Nat.ne_of_lt (Nat.lt_succ_of_lt lb)), ⟨hz, hTI, ⟨_, _, hTO⟩, ItK.new h1, ItK.new h2⟩, fun c hcm => ?_, q⟩
      have e' : c = s1.heap.objs.size + 4 ∨ c = s1.heap.objs.size + 2 ∨ c = s1.heap.objs.size + 3 ∨ c = s1.heap.objs.size ∨ c = s1.heap.objs.size + 1 := by simpa using hcm
      have hle : s1.heap.objs.size ≤ c := by
        rcases e' with z | z | z | z | z
        · rw [z]; exact Nat.le_add_right _ _
        · rw [z]; exact Nat.le_add_right _ _
        · rw [z]; exact Nat.le_add_right _ _
        · rw [z]; exact Nat.le_refl _
        · rw [z]; exact Nat.le_add_right _ _
      exact I1.fpOk hle (I1.hok.fresh hle)
theorem pi_z3H (hg : Gl X "zip") (hm : X.mg "zip" = none) (ha : PA X [e, e2, e3] ta)
    (hs : starEach [e, e2, e3] X.env = (false, eval e X.env) :: starEach [e2, e3] X.env := by rfl) (hpl : (backTo pos (starEach [e2, e3] X.env)).any (·.1) = false := by rfl) :
    PI X (.Tuple elts kk tpos) (.Call (.Name "zip" p) [e, e2, e3] [] pos) (iZ3H ta) := by
  refine ⟨fun pins s σ H R I h => ?_⟩
  refine Call_ (ld_blt I hg hm PyProof.Rows.boot_zip (PyProof.Rows.callWith_type1 (thn (ha.run pos pins s σ H _ I h) fun us s1 ⟨vs, H1, I1, r1, q1⟩ => ?_) hs hpl))
  obtain ⟨a, b, c, ex, k1, k2, k3, xs, ys, zs, hqx, hqy, hqz, hl, hl2, q⟩ := q1
  subst ex
  have q := q (Iz3 X.K k1 k2 k3 a b c) ((walk_z3 (K := X.K) (k1 := k1) (k2 := k2) (k3 := k3) (a := a) (b := b) (c := c) hl hl2).mono (fun H h => ⟨h.1.sqk, h.2.1.sqk, h.2.2.sqk⟩) fun _ _ _ _ _ _ y => y)
  have hqx : Sqk X.K k1 H1 a xs := hqx.sqk
  have hqy : Sqk X.K k2 H1 b ys := hqy.sqk
  have hqz : Sqk X.K k3 H1 c zs := hqz.sqk
  cases r1 with
  | cons r rr =>
    cases rr with
    | cons r' rr =>
      cases rr with
      | cons r'' rr =>
        cases rr
        cases r
        cases r'
        cases r''
        obtain ⟨its, rv, p1⟩ := invK I1 hqx
        obtain ⟨its2, rv2, p2⟩ := invK I1 hqy
        obtain ⟨its3, rv3, p3⟩ := invK I1 hqz
        have la : a < s1.heap.objs.size := p1.lt
        have lb : b < s1.heap.objs.size := p2.lt
        have lc : c < s1.heap.objs.size := p3.lt
        refine zip_begins3 (begK k1 a its.toArray) (begK k2 b its2.toArray) (begK k3 c its3.toArray) p1 p2 p3 fun h' hz hTI hTO h1 h2 h3 hsz hk => wpAny_pyIter_zip hz ?_
        have I2 : Inv X pins σ H1 { s1 with heap := h' } := I1.kept (t' := s1.toks) hk
        refine ⟨s1.heap.objs.size + 5, [s1.heap.objs.size + 5, s1.heap.objs.size + 3, s1.heap.objs.size + 4, s1.heap.objs.size, s1.heap.objs.size + 1, s1.heap.objs.size + 2], _, _, H1, rfl, I2, turn_z3 (zip_sep3 (fun b hb => by simp at hb; rw [hb]; exact la) (fun b hb => by simp at hb; rw [hb]; exact lb) (fun b hb => by simp at hb; rw [hb]; exact lc)) (Nat.ne_of_lt la) (Nat.ne_of_lt (Nat.lt_succ_of_lt lb)) (Nat.ne_of_lt (Nat.lt_succ_of_lt (Nat.lt_succ_of_lt lc))), ⟨hz, hTI, ⟨_, _, _, hTO⟩, ItK.new h1, ItK.new h2, ItK.new h3⟩, fun c hcm => ?_, q⟩
        have e' : c = s1.heap.objs.size + 5 ∨ c = s1.heap.objs.size + 3 ∨ c = s1.heap.objs.size + 4 ∨ c = s1.heap.objs.size ∨ c = s1.heap.objs.size + 1 ∨ c = s1.heap.objs.size + 2 := by simpa using hcm
        have hle : s1.heap.objs.size ≤ c := by
          rcases e' with z | z | z | z | z | z
          · rw [z]; exact Nat.le_add_right _ _
          · rw [z]; exact Nat.le_add_right _ _
          · rw [z]; exact Nat.le_add_right _ _
          · rw [z]; exact Nat.le_refl _
          · rw [z]; exact Nat.le_add_right _ _
          · rw [z]; exact Nat.le_add_right _ _
        exact I1.fpOk hle (I1.hok.fresh hle)
/-- range(n) -/
def iRng1H (ta : TA) : TI := fun σ H R => ta σ H fun vs H1 => ∃ j : Int, vs = [.int j] ∧ -(2 ^ 62) ≤ j ∧ j < 2 ^ 62 ∧ ∀ J : It, Walk J j.toNat (fun _ => True) (YFn fun i => .int (i : Nat)) → R J H1
theorem pi_range1H {a : Expr} {tg : Expr} (hg : Gl X "range") (hm : X.mg "range" = none) (ha : PA X [a] ta) (hs : starEach [a] X.env = [(false, eval a X.env)] := by rfl) : PI X tg (.Call (.Name "range" p) [a] [] pos) (iRng1H ta) := by
  refine ⟨fun pins s σ H R I h => ?_⟩
  have ha' : PA X [a] fun σ H Q => ta σ H fun vs H1 => (∃ j : Int, vs = [.int j] ∧ -(2 ^ 62) ≤ j ∧ j < 2 ^ 62 ∧ ∀ J : It, Walk J j.toNat (fun _ => True) (YFn fun i => .int (i : Nat)) → R J H1) ∧ ∀ j : Int, vs = [.int j] → -(2 ^ 62) ≤ j → j < 2 ^ 62 → R (Itr 0 j.toNat) H1 → Q vs H1 :=
    ⟨fun pos pins s σ H Q I q => thn (ha.run pos pins s σ H _ I q) fun us s1 ⟨vs, H1, I1, r1, ⟨j, ej, h1, h2, hR⟩, q1⟩ => ⟨vs, H1, I1, r1, q1 j ej h1 h2 (hR _ (walk_range.mono (fun _ _ => trivial) fun _ _ _ _ _ _ y => ⟨y.1, by rw [y.2]; show V.int _ = V.int _; rw [Int.zero_add]⟩))⟩⟩
  refine Call_ (ld_blt I hg hm boot_range (PyProof.Rows.callWith_type1 (thn (ha.run pos pins s σ H _ I h) fun us s1 ⟨vs, H1, I1, r1, q1⟩ => ?_) hs rfl))
  obtain ⟨j, e, q1, q2, q⟩ := q1
  subst e
  have q := q (Itr 0 j.toNat) (walk_range.mono (fun _ _ => trivial) fun _ _ _ _ _ _ y => ⟨y.1, by rw [y.2]; show V.int _ = V.int _; rw [Int.zero_add]⟩)
  cases r1 with
  | cons r rr =>
    cases rr
    obtain ⟨t, rfl⟩ := r
    exact call_range_1 (range_it I1 (by omega) (by omega) q1 q2 (by simpa using q))
end
/-- LcR by its lemmas -/
theorem lcr_map {J : It} {n : Nat} {G : Hp → Prop} {Y : Nat → Hp → V → Hp → Prop} (w : Walk J n G Y) {g : TG} {te : TE} {vs : List Nat} {σ : L2.St} {H1 : Hp} {Q : VK} (res : List V) (hl : res.length = n) (hn : n ≤ sizeLine)
    (hG : ∀ H, Same H1 H → G H) (hY : ∀ i x H H', Y i H x H' → Same H H')
    (hs : ∀ i x H H' y (Qy : VK), i < n → Same H1 H → Y i H x H' → res[i]? = some y → (∀ H4, Same H' H4 → Qy y H4) → g x (wipe σ vs) H' fun σ2 H2 => wipe σ2 vs = wipe σ vs ∧ te σ2 H2 Qy)
    (hd : ∀ D H, H1 D = none → Same H1 H → H D = some (.lst res) → Q (.ref D) H) : LcR J g tYes te vs σ H1 Q := fun D hD =>
  lc_map w res hl hn hD hG (fun i x H H' y Qy hi h1 _ hy hr hq => hs i x H H' y Qy hi h1 hy hr hq) hY fun H h1 h2 => hd D H hD h1 h2
theorem forr {J : It} {n : Nat} {G : Hp → Prop} {Y : Nat → Hp → V → Hp → Prop} (w : Walk J n G Y) {g : TG} {tb : TS} {D : Ends} {σ : L2.St} {H : Hp} (Pv : Nat → L2.St → Hp → Prop) (h0 : Pv 0 σ H) (hG : ∀ i σ H, i ≤ n → Pv i σ H → G H)
    (hs : ∀ i x σ H H', i < n → Pv i σ H → Y i H x H' → g x σ H' fun σ2 H2 => tb { D with nx := Pv (i + 1), ct := Pv (i + 1), bk := D.nx } σ2 H2) (hd : ∀ σ H, Pv n σ H → D.nx σ H) : ForR J g tb D σ H := for_it w Pv h0 hG hs hd
theorem map_bl_iff {bs : List Bool} {p : List Bool → Prop} : (∃ cs : List Bool, bs.map V.bl = cs.map V.bl ∧ p cs) ↔ p bs := by
  constructor
  · rintro ⟨cs, e, h⟩
    have inj : ∀ {a b : List Bool}, a.map V.bl = b.map V.bl → a = b := by
      intro a
      induction a with
      | nil => intro b h; cases b with | nil => rfl | cons _ _ => simp at h
      | cons x a ih => intro b h; cases b with
        | nil => simp at h
        | cons y b => simp only [List.map_cons, List.cons.injEq, V.bl.injEq] at h; rw [h.1, ih h.2]
    rw [inj e]; exact h
  · intro h; exact ⟨bs, rfl, h⟩

theorem sz_le {n : Nat} (h : n ≤ 1000) : (n ≤ sizeLine) = True := eq_true (Nat.le_trans h (by decide))
theorem op_inH {X : Cx} : OpR X (compareOp .In) (fun x y H Q => ∃ p, y = .ref p ∧ ∃ xs, H p = some (.tup xs) ∧ flatV x = true ∧ xs.all flatV = true ∧ Q (.bl (inV x xs)) H) := by
  intro pins s σ H x y v u Q I rx ry h
  obtain ⟨p, e, xs, hp, h1, h2, q⟩ := h
  exact op_in_seq pins s σ H x y v u Q I rx ry ⟨p, xs, e, .inr (.inl (.inl hp)), h1, h2, q⟩
theorem putF_one (f : Str) (v : V) : putF f v [] = [(f, v)] := rfl
theorem lookup_one (f : Str) (v : V) : List.lookup f [(f, v)] = some v := by simp [List.lookup]

/-- * of two ints, one of them below 2 ^ 64, or both together below a million bits -/
def CMulA (i j : Int) : Prop := i.natAbs < 2 ^ 64 ∨ j.natAbs < 2 ^ 64 ∨ CMulW i j
theorem op_mulA {X : Cx} : OpR X (binaryOp .Mult) (rI CMulA fun i j => .int (i * j)) := by
  intro pins s σ H x y v u Q I rx ry h
  obtain ⟨i, j, e1, e2, hc, q⟩ := h
  rcases hc with hc | hc | hc
  · exact op_mul pins s σ H x y v u Q I rx ry ⟨i, j, e1, e2, .inl ⟨by omega, by omega⟩, q⟩
  · exact op_mul pins s σ H x y v u Q I rx ry ⟨i, j, e1, e2, .inr ⟨by omega, by omega⟩, q⟩
  · exact op_mulW pins s σ H x y v u Q I rx ry ⟨i, j, e1, e2, hc, q⟩
theorem atI_0 {x : V} {xs : List V} : atI (x :: xs) 0 = some x := atI_nat (j := 0) rfl
theorem atI_1 {x y : V} {xs : List V} : atI (x :: y :: xs) 1 = some y := atI_nat (j := 1) rfl
theorem atI_2 {x y z : V} {xs : List V} : atI (x :: y :: z :: xs) 2 = some z := atI_nat (j := 2) rfl
theorem ixN_30 : ixN 3 0 = some 0 := rfl
theorem ixN_31 : ixN 3 1 = some 1 := rfl
theorem ixN_32 : ixN 3 2 = some 2 := rfl
theorem atI_in {xs : List V} {i : Int} (h0 : 0 ≤ i) (h1 : i < xs.length) : ∃ v, v ∈ xs ∧ atI xs i = some v := by
  obtain ⟨k, rfl⟩ := Int.eq_ofNat_of_zero_le h0
  have hk : k < xs.length := by omega
  exact ⟨xs[k], List.getElem_mem hk, atI_nat (List.getElem?_eq_getElem hk)⟩
theorem cpow_10 {j : Int} (h0 : 0 ≤ j) (h1 : j ≤ 1000000) : CPow 10 j = True := eq_true ⟨h0, h1, by decide⟩
theorem cdivW_small {i j : Int} (h : 0 < j) (h1 : j < 2 ^ 64) : CDivW i j = True := eq_true (wide_div h (b := 64) (by omega) (by decide) (by decide))
theorem Sx.free {a r : Addr} {H H1 : Hp} (h : Sx a H H1) (n : r ≠ a) (e : H1 r = none) : H r = none := by
  cases q : H r with
  | none => rfl
  | some o => rw [h r o n q] at e; cases e
theorem Sx.putN {a r : Addr} {H H1 : Hp} {o : HO} (h : Sx a H H1) (e : H r = none) : Sx a H (upd H1 r o) := fun b u n q => by
  rw [upd_ne (ne_some q e)]
  exact h b u n q
theorem scal_int (i j : Int) : scal (.int i) (.int j) = true := rfl
theorem scal_str (i j : Str) : scal (.str i) (.str j) = true := rfl
section
variable {K : PySem.W.Frag} {H : Hp} {a b c d e f : Addr} {ns ms ks ls : List Int} {Q : VK}
theorem neD_tup (h1 : H a = some (.tup (ns.map V.int))) (h2 : H b = some (.tup (ms.map V.int))) (q : Q (.bl (!decide (ns = ms))) H) : rNeD K (.ref a) (.ref b) H Q :=
  ⟨_, _, dp_tupI (.inl (.inl h1)), dp_tupI (.inl (.inl h2)), shaped_tupI _, shaped_tupI _, by rw [eqv_tupI]; exact q⟩
theorem eqD_tup (h1 : H a = some (.tup (ns.map V.int))) (h2 : H b = some (.tup (ms.map V.int))) (q : Q (.bl (decide (ns = ms))) H) : rEqD K (.ref a) (.ref b) H Q :=
  ⟨_, _, dp_tupI (.inl (.inl h1)), dp_tupI (.inl (.inl h2)), shaped_tupI _, shaped_tupI _, by rw [eqv_tupI]; exact q⟩
theorem depth_tupI (ns : List Int) : PyData.depth (tupI ns) = 1 := by
  show PyData.depthAll (ns.map PyData.int) + 1 = 1
  rw [depth_ints ns]
theorem shaped_two (ns ms : List Int) : SeqAt.shaped (.tuple [tupI ns, tupI ms]) = true := by
  have h1 : PyData.canLay0 (.tuple [tupI ns, tupI ms]) = true := by
    show (PyData.canLayAll0 (ns.map PyData.int) && (PyData.canLayAll0 (ms.map PyData.int) && true)) = true
    rw [canLay_ints, canLay_ints]
    rfl
  have h2 : PyData.depth (.tuple [tupI ns, tupI ms]) ≤ 64 := by
    show max (PyData.depth (tupI ns)) (max (PyData.depth (tupI ms)) 0) + 1 ≤ 64
    rw [depth_tupI, depth_tupI]
    decide
  unfold SeqAt.shaped
  rw [h1, decide_eq_true h2]
  rfl
theorem eqv_two (ns ms ks ls : List Int) : PyData.eqv (.tuple [tupI ns, tupI ms]) (.tuple [tupI ks, tupI ls]) = (decide (ns = ks) && decide (ms = ls)) := by
  show (PyData.eqv (tupI ns) (tupI ks) && (PyData.eqv (tupI ms) (tupI ls) && true)) = _
  rw [eqv_tupI, eqv_tupI, Bool.and_true]
/-- (t, u) != (v, w), four tuples of ints -/
theorem neD_two (h1 : H a = some (.tup [.ref c, .ref d])) (h2 : H b = some (.tup [.ref e, .ref f])) (hc : H c = some (.tup (ns.map V.int))) (hd : H d = some (.tup (ms.map V.int))) (he : H e = some (.tup (ks.map V.int))) (hf : H f = some (.tup (ls.map V.int)))
    (q : Q (.bl (!(decide (ns = ks) && decide (ms = ls)))) H) : rNeD K (.ref a) (.ref b) H Q :=
  ⟨.tuple [tupI ns, tupI ms], .tuple [tupI ks, tupI ls], .tup (.inl (.inl h1)) (.cons (dp_tupI (.inl (.inl hc))) (.cons (dp_tupI (.inl (.inl hd))) .nil)), .tup (.inl (.inl h2)) (.cons (dp_tupI (.inl (.inl he))) (.cons (dp_tupI (.inl (.inl hf))) .nil)), shaped_two _ _, shaped_two _ _, by rw [eqv_two]; exact q⟩
end
theorem Vals.getD {xs : List V} {us : List Value} (r : Vals xs us) (i : Nat) : RelV (xs.getD i .non) (us.getD i Value.none) := by
  rw [List.getD_eq_getElem?_getD, List.getD_eq_getElem?_getD]
  cases h : xs[i]? with
  | none => rw [L2.Vals.none_of r h]; rfl
  | some x =>
    obtain ⟨u, h2, h3⟩ := L2.Vals.get r h
    rw [h2]
    exact h3
theorem kbn_of {K : PySem.W.Frag} {x qual : Str} {st : Stmt} {f : Addr} {fd : FuncData} (F : Fun K x qual st f fd) (ps : List Str) (n : Nat) (ks : List Str) (g : List Value → List Value → List Value) (gV : List V → List V → List V)
    (h : ∀ (kV doc pm : Value) (an : Option Addr) (cdv ct : Value) (us ws : List Value), us.length = n → ws.length = ks.length → bindArgs (PySem.W.fnOf x qual (defArgs st) (defBody st) (defScope st) .none kV doc pm an cdv ct) ⟨us, ks.zip ws⟩ = pure (ps.zip (g us ws)))
    (rel : ∀ {vs : List V} {us : List Value} {zs : List V} {ws : List Value}, Vals vs us → Vals zs ws → Vals (gV vs zs) (g us ws)) : KBn K fd ps n ks g gV := by
  obtain ⟨oc, od, kV, doc, pm, an, cdv, ct, osl, rfl, lk, hcd⟩ := F.ex
  exact ⟨fun s us ws X l1 l2 => .of_eq (h kV doc pm an cdv ct us ws l1 l2), rel⟩

/-! ### a comprehension with two clauses, closed off -/
/-- the second clause's loop -/
def Lc1R (J1 : It) (g1 : TG) (tt1 : TT) (te : TE) (vs1 : List Nat) (D : Addr) (σ2 : L2.St) (H4 : Hp) (Nx : Hp → Prop) : Prop := ∃ W1 : Nat → Nat → Hp → Prop, (∃ m, W1 0 m H4) ∧ ∀ j k H, W1 j k H →
  (J1.stop j H ∧ Nx H) ∨ (J1.go j H ∧ ∃ Nx1 : Hp → Prop, (∀ H', Nx1 H' → ∃ k', k' < k ∧ W1 (j + 1) k' H') ∧ ∀ x H', J1.yld j H x H' → g1 x (wipe σ2 vs1) H' fun σ3 H5 => wipe σ3 vs1 = wipe σ2 vs1 ∧ tt1 σ3 H5 fun b H6 =>
    if b = true then te σ3 H6 fun y H7 => ∃ acc, H7 D = some (.lst acc) ∧ acc.length < sizeLine ∧ Nx1 (upd H7 D (.lst (acc ++ [y]))) else Nx1 H6)
def Lc2R (J : It) (g : TG) (tt : TT) (wi1 : TI) (g1 : TG) (tt1 : TT) (te : TE) (vs vs1 : List Nat) (σ : L2.St) (H1 : Hp) (Q : VK) : Prop := ∀ D, H1 D = none → ∃ W : Nat → Nat → Hp → Prop, (∃ m, W 0 m (upd H1 D (.lst []))) ∧ ∀ i m H, W i m H →
  (J.stop i H ∧ Q (.ref D) H) ∨ (J.go i H ∧ ∃ Nx : Hp → Prop, (∀ H', Nx H' → ∃ m', m' < m ∧ W (i + 1) m' H') ∧ ∀ x H', J.yld i H x H' → g x (wipe σ vs) H' fun σ2 H2 => wipe σ2 vs = wipe σ vs ∧ tt σ2 H2 fun b H3 =>
    if b = true then wi1 σ2 H3 fun J1 H4 => Lc1R J1 g1 tt1 te vs1 D σ2 H4 Nx else Nx H3)
theorem tLc2_eq {wi : TI} {g : TG} {tt : TT} {wi1 : TI} {g1 : TG} {tt1 : TT} {te : TE} {vs vs1 : List Nat} {σ : L2.St} {H : Hp} {Q : VK} : tLc2 wi g tt wi1 g1 tt1 te vs vs1 σ H Q = wi σ H fun J H1 => Lc2R J g tt wi1 g1 tt1 te vs vs1 σ H1 Q := rfl
/-- the second clause's loop by an invariant of the turn, what is made so far and the heap -/
theorem lc1_gen {J1 : It} {n : Nat} {G : Hp → Prop} {Y : Nat → Hp → V → Hp → Prop} (w : Walk J1 n G Y) {g1 : TG} {te : TE} {vs1 : List Nat} {D : Addr} {σ2 : L2.St} {H4 : Hp} {Nx : Hp → Prop} (Ia : Nat → List V → Hp → Prop)
    (h0 : ∃ acc, Ia 0 acc H4 ∧ H4 D = some (.lst acc)) (hG : ∀ j acc H, j ≤ n → Ia j acc H → H D = some (.lst acc) → G H) (hst : ∀ j acc H l l0, Ia j acc H → H D = some (.lst l0) → Ia j acc (upd H D (.lst l))) (hz : ∀ j acc H, Ia j acc H → acc.length < sizeLine)
    (hs : ∀ j acc x H H' (Qy : VK), j < n → Ia j acc H → H D = some (.lst acc) → Y j H x H' → (∀ y H7, H7 D = some (.lst acc) → Ia (j + 1) (acc ++ [y]) H7 → Qy y H7) → g1 x (wipe σ2 vs1) H' fun σ3 H5 => wipe σ3 vs1 = wipe σ2 vs1 ∧ te σ3 H5 Qy)
    (hd : ∀ acc H, Ia n acc H → H D = some (.lst acc) → Nx H) : Lc1R J1 g1 tYes te vs1 D σ2 H4 Nx := by
  obtain ⟨acc0, i0, e0⟩ := h0
  refine ⟨fun j k H => k = n - j ∧ j ≤ n ∧ ∃ acc : List V, Ia j acc H ∧ H D = some (.lst acc), ⟨n, by simp, Nat.zero_le _, acc0, i0, e0⟩, ?_⟩
  rintro j k H ⟨rfl, hj, acc, hI, e⟩
  have q := hG j acc H hj hI e
  by_cases hlt : j < n
  · refine .inr ⟨w.goes j H hlt q, fun H' => ∃ acc : List V, Ia (j + 1) acc H' ∧ H' D = some (.lst acc), fun H' ⟨acc', h1, h2⟩ => ⟨n - (j + 1), by omega, rfl, hlt, acc', h1, h2⟩, fun x H' y => ?_⟩
    exact hs j acc x H H' _ hlt hI e (w.yields j H x H' hlt q y) fun y H7 e7 h7 => ⟨acc, e7, hz j acc H hI, acc ++ [y], hst _ _ _ _ _ h7 e7, upd_same⟩
  · have en : j = n := by omega
    subst en
    exact .inl ⟨w.stops H q, hd acc H hI e⟩
theorem lc2_gen {J : It} {n : Nat} {G : Hp → Prop} {Y : Nat → Hp → V → Hp → Prop} (w : Walk J n G Y) {g : TG} {wi1 : TI} {g1 : TG} {te : TE} {vs vs1 : List Nat} {σ : L2.St} {H1 : Hp} {Q : VK} (Ia : Addr → Nat → List V → Hp → Prop)
    (h0 : ∀ D, H1 D = none → Ia D 0 [] (upd H1 D (.lst []))) (hG : ∀ D i acc H, H1 D = none → i ≤ n → Ia D i acc H → H D = some (.lst acc) → G H)
    (hs : ∀ D i acc x H H' (Nx : Hp → Prop), H1 D = none → i < n → Ia D i acc H → H D = some (.lst acc) → Y i H x H' → (∀ acc' H7, H7 D = some (.lst acc') → Ia D (i + 1) acc' H7 → Nx H7) → g x (wipe σ vs) H' fun σ2 H2 => wipe σ2 vs = wipe σ vs ∧ wi1 σ2 H2 fun J1 H4 => Lc1R J1 g1 tYes te vs1 D σ2 H4 Nx)
    (hd : ∀ D acc H, H1 D = none → Ia D n acc H → H D = some (.lst acc) → Q (.ref D) H) : Lc2R J g tYes wi1 g1 tYes te vs vs1 σ H1 Q := fun D hD => by
  refine ⟨fun i k H => k = n - i ∧ i ≤ n ∧ ∃ acc : List V, Ia D i acc H ∧ H D = some (.lst acc), ⟨n, by simp, Nat.zero_le _, [], h0 D hD, upd_same⟩, ?_⟩
  rintro i k H ⟨rfl, hi, acc, hI, e⟩
  have q := hG D i acc H hD hi hI e
  by_cases hlt : i < n
  · refine .inr ⟨w.goes i H hlt q, fun H' => ∃ acc : List V, Ia D (i + 1) acc H' ∧ H' D = some (.lst acc), fun H' ⟨acc', h1, h2⟩ => ⟨n - (i + 1), by omega, rfl, hlt, acc', h1, h2⟩, fun x H' y => ?_⟩
    exact hs D i acc x H H' _ hD hlt hI e (w.yields i H x H' hlt q y) fun acc' H7 e7 h7 => ⟨acc', h7, e7⟩
  · have en : i = n := by omega
    subst en
    exact .inl ⟨w.stops H q, hd D acc H hD hI e⟩
/-- a comprehension with a test: Ia by the turn, what is made so far, and the heap -/
theorem lcr_if {J : It} {n : Nat} {G : Hp → Prop} {Y : Nat → Hp → V → Hp → Prop} (w : Walk J n G Y) {g : TG} {tt : TT} {te : TE} {vs : List Nat} {σ : L2.St} {H1 : Hp} {Q : VK} (Ia : Addr → Nat → List V → Hp → Prop) (hn : n < sizeLine)
    (h0 : ∀ D, H1 D = none → Ia D 0 [] (upd H1 D (.lst []))) (hG : ∀ D i acc H, H1 D = none → i ≤ n → Ia D i acc H → H D = some (.lst acc) → G H) (hst : ∀ D i acc H l, H1 D = none → Ia D i acc H → H D ≠ none → Ia D i acc (upd H D (.lst l)))
    (hs : ∀ D i acc x H H' (Qn : Hp → Prop) (Qy : VK), H1 D = none → i < n → Ia D i acc H → H D = some (.lst acc) → Y i H x H' → (∀ H4, H4 D = some (.lst acc) → Ia D (i + 1) acc H4 → Qn H4) → (∀ y H4, H4 D = some (.lst acc) → Ia D (i + 1) (acc ++ [y]) H4 → Qy y H4) →
      g x (wipe σ vs) H' fun σ2 H2 => wipe σ2 vs = wipe σ vs ∧ tt σ2 H2 fun b H3 => if b = true then te σ2 H3 Qy else Qn H3)
    (hd : ∀ D acc H, H1 D = none → acc.length ≤ n → Ia D n acc H → H D = some (.lst acc) → Q (.ref D) H) : LcR J g tt te vs σ H1 Q := fun D hD => by
  refine lc_it w (fun i H => ∃ acc : List V, acc.length ≤ i ∧ Ia D i acc H ∧ H D = some (.lst acc)) ⟨[], Nat.le_refl _, h0 D hD, upd_same⟩ (fun i H hi ⟨acc, _, h, e⟩ => hG D i acc H hD hi h e) (fun i x H H' hi ⟨acc, hl, h, e⟩ hy => ?_) (fun H ⟨acc, hl, h, e⟩ => hd D acc H hD hl h e)
  refine hs D i acc x H H' _ _ hD hi h e hy (fun H4 e4 h4 => ⟨acc, by omega, h4, e4⟩) fun y H4 e4 h4 => ⟨acc, e4, by omega, acc ++ [y], by rw [List.length_append]; simp; omega, ?_, upd_same⟩
  exact hst _ _ _ _ _ hD h4 (by rw [e4]; simp)
/-! ### gcd and lcm of wide ints -/
def rLcm : List V → Hp → VK → Prop := fun vs H Q => ∃ a b : Int, vs = [.int a, .int b] ∧ a.natAbs < 2 ^ 6000 ∧ b.natAbs < 2 ^ 6000 ∧ Q (.int ((Nat.lcm a.natAbs b.natAbs : Nat) : Int)) H
theorem lcm_le_mul (m n : Nat) : m.lcm n ≤ m * n := by
  unfold Nat.lcm
  exact Nat.div_le_self _ _
theorem cr_lcm {X : Cx} : CallR X (.builtin "math.lcm") rLcm := by
  intro pins s σ H vs us Q I r h
  obtain ⟨a, b, rfl, ha, hb, q⟩ := h
  obtain ⟨t, u, rfl⟩ := Vals.int2 r
  have e1 : (Nat.lcm 1 a.natAbs) = a.natAbs := by simp [Nat.lcm]
  have lg : ∀ m : Nat, m < 2 ^ 6000 → m.log2 < 6000 := fun m hm => by
    by_cases h0 : m = 0
    · subst h0; decide
    · exact (Nat.log2_lt h0).mpr hm
  have m1 : max 1 a.natAbs < 2 ^ 6000 := by
    have : (1 : Nat) < 2 ^ 6000 := Nat.one_lt_two_pow (by decide)
    omega
  have m2 : max a.natAbs b.natAbs < 2 ^ 6000 := by omega
  have l1 := lg _ m1
  have l2 := lg _ m2
  have hl : (((Nat.lcm 1 a.natAbs).lcm b.natAbs : Nat) : Int).natAbs.log2 < bitsLine := by
    rw [e1, Int.natAbs_natCast]
    have h1 : a.natAbs.lcm b.natAbs ≤ a.natAbs * b.natAbs := lcm_le_mul _ _
    have h2 : a.natAbs * b.natAbs < 2 ^ 12000 := by
      rw [show (12000 : Nat) = 6000 + 6000 by rfl, Nat.pow_add]
      exact Nat.mul_lt_mul'' ha hb
    have eb : bitsLine = 134217728 := by decide
    rw [eb]
    by_cases h0 : a.natAbs.lcm b.natAbs = 0
    · rw [h0]; decide
    · have h3 : (a.natAbs.lcm b.natAbs).log2 < 12000 := (Nat.log2_lt h0).mpr (Nat.lt_of_le_of_lt h1 h2)
      omega
  refine call_function_meets PySem.W.MGF.kind_lcm PySem.W.MGF.plain_lcm PySem.W.MGF.entry_lcm (PySem.W.MGF.args_lcm _ _) (PySem.W.mg_run_lcm a t b u (by omega) (by omega) hl).meets ?_
  rw [e1]
  exact ⟨.int _, H, I.tok _, ⟨_, rfl⟩, q⟩
/-- *t, .. in a display: t a tracked tuple -/
def tStarH (te : TE) (t : TA) : TA := fun σ H Q => te σ H fun x H1 => ∃ p, x = .ref p ∧ ∃ xs, H1 p = some (.tup xs) ∧ t σ H1 fun ys H2 => Q (xs ++ ys) H2
theorem pa_starH {X : Cx} {e : Expr} {es : List Expr} {te : TE} {t : TA} {p : Pos} (he : PE X e te) (hr : PA X es t) (hs : starEach (.Starred e p :: es) X.env = (true, eval e X.env) :: starEach es X.env := by rfl) : PA X (.Starred e p :: es) (tStarH te t) := by
  refine ⟨fun pos pins s σ H Q I h => ?_⟩
  refine PySem.W.items_star (thn (he.run pins s σ H _ I h) fun v s1 ⟨y, H1, I1, ry, a, ey, xs, hx, q⟩ => ?_) hs
  subst ey
  obtain rfl : v = Value.ref a := ry
  refine StX.star_any I1 (.inl (.inl (.inl hx))) fun us s2 I2 rv => ?_
  exact thn (hr.run pos pins s2 σ H1 _ I2 q) fun ws s3 ⟨vs, H3, I3, r3, q3⟩ => ⟨xs ++ vs, H3, I3, rv.append r3, q3⟩
end Cs

/-! tuple * 1, tests of bools -/
namespace Cs
open PySem PySem.Spec PyProof.Rows L2
theorem tuple_mul_one (l : Addr) (items : Array Value) (n : Nat) (dd : Option Addr) (sl : Array (Option Value)) (u : Tok) :
    Meets (Builtin.«tuple.__mul__» ⟨[.ref l, .int 1 u], []⟩) (fun _ R s => s.heap.get? l = some { cls := .type "tuple", dict := dd, data := .seq items n, slots := sl } ∧ R (.ok (.ret (Value.ref l))) s) :=
  .of_wp fun prog w A R s h => by
    obtain ⟨hp, g, d, tk, os⟩ := s
    obtain ⟨hl, h⟩ := h
    have f1 := AutoSeq1.idx_int
    have c0 : (decide ((1 : Int) < -(2 ^ 63)) || decide ((1 : Int) ≥ 2 ^ 63)) = false := by decide
    have c1 : (items.isEmpty || (1 : Int) == 1) = true := by simp
    wp_walk using wpAny_loadPart' hl
    repeat (first
      | (refine wpAny_ite_false (decide_eq_false (by rw [c0]; exact Bool.false_ne_true)) ?_; wp_walk using wpAny_loadPart' hl)
      | (refine wpAny_ite_true (decide_eq_true (by rw [c1])) ?_; wp_walk using wpAny_loadPart' hl))
    exact ⟨_, rfl, h⟩
/-- a tuple times a count of at least one -/
def rRepA (K : PySem.W.Frag) : R2 := fun x y H Q => ∃ (l : Addr) (k : Nat) (xs : List V), x = .ref l ∧ y = .int k ∧ H l = some (.tup xs) ∧ xs ≠ [] ∧ 1 ≤ k ∧ k ≤ 1000 ∧ xs.length ≤ 1000 ∧ ∀ p H', Same H H' → H' p = some (.tup (List.replicate k xs).flatten) → Q (.ref p) H'
section
variable {X : Cx}
theorem op_repA : OpR X (binaryOp .Mult) (rRepA X.K) := by
  intro pins s σ H x y v u Q I rx ry h
  obtain ⟨l, k, xs, rfl, rfl, hT, hne, h1, h2, hz, q⟩ := h
  by_cases hk : 2 ≤ k
  · refine op_repT pins s σ H _ _ _ _ Q I rx ry ⟨l, k, xs, rfl, rfl, .inl (.inl hT), hne, by omega, by omega, hz, fun p hp => ?_⟩
    have e : ((k : Nat) : Int).toNat = k := by simp
    rw [e]
    exact q p _ (Same.new hp) upd_same
  · obtain rfl : k = 1 := by omega
    cases rx
    obtain ⟨t, rfl⟩ := ry
    obtain ⟨its, r, ⟨⟨cls, dd, data, sl⟩, ho, hc, n, hd⟩, hs⟩ := I.tuple (.inl (.inl hT))
    simp only at hc hd
    subst hc hd
    refine wpAny_binaryOp_repeat_ref (T := "tuple") (U := "int") (by decide) ⟨_, ho, rfl⟩ (fun s' => typeIs_int s' 1 t) noFill_tuple_mul F.fills_int_mul F.slot_int_rmul repeat_tuple F.slot_int_index.lookup
      (call_meets F.slot_int_rmul (typeIs_int s 1 t) F.entry_int_rmul (F.args_int_rmul_2 _ _) (int_rmul_tuple 1 t l its.toArray n dd sl)
        ⟨ho, rfl, ⟨_, ho, rfl⟩, call_meets F.slot_tuple_mul ⟨_, ho, rfl⟩ F.entry_tuple_mul (F.args_tuple_mul_2 _ _) (tuple_mul_one l its.toArray n dd sl t) ⟨ho, ?_⟩⟩)
    refine ⟨.ref l, _, I, rfl, q l H (Same.refl _) ?_⟩
    rw [hT]
    simp
end
/-- tuples of ints at the addresses as -/
def AsT (H : Hp) (as : List Addr) (hss : List (List Int)) : Prop := as.length = hss.length ∧ ∀ (i : Nat) t hs, as[i]? = some t → hss[i]? = some hs → H t = some (.tup (hs.map V.int))
theorem AsT.same {H H' : Hp} {as : List Addr} {hss : List (List Int)} (e : Same H H') (h : AsT H as hss) : AsT H' as hss := ⟨h.1, fun i t hs h1 h2 => e _ _ (h.2 i t hs h1 h2)⟩
theorem AsT.nil {H : Hp} : AsT H [] [] := ⟨rfl, fun i t hs h _ => by simp at h⟩
theorem AsT.snoc {H : Hp} {as : List Addr} {hss : List (List Int)} {t : Addr} {hs : List Int} (h : AsT H as hss) (ht : H t = some (.tup (hs.map V.int))) : AsT H (as ++ [t]) (hss ++ [hs]) := by
  refine ⟨by rw [List.length_append, List.length_append, h.1]; rfl, fun i u gs h1 h2 => ?_⟩
  by_cases hlt : i < as.length
  · rw [List.getElem?_append_left hlt] at h1
    rw [List.getElem?_append_left (by rw [← h.1]; exact hlt)] at h2
    exact h.2 i u gs h1 h2
  · rw [List.getElem?_append_right (by omega)] at h1
    rw [List.getElem?_append_right (by rw [← h.1]; omega), ← h.1] at h2
    cases hk : i - as.length with
    | zero =>
      rw [hk] at h1 h2
      simp only [List.getElem?_cons_zero, Option.some.injEq] at h1 h2
      rw [← h1, ← h2]; exact ht
    | succ m => rw [hk] at h1; simp at h1
/-- a list of tuples of ints, at a -/
def LstT (H : Hp) (a : Addr) (hss : List (List Int)) : Prop := ∃ as : List Addr, H a = some (.lst (as.map V.ref)) ∧ AsT H as hss
theorem LstT.same {H H' : Hp} {a : Addr} {hss : List (List Int)} (e : Same H H') (h : LstT H a hss) : LstT H' a hss := by
  obtain ⟨as, h1, h2⟩ := h
  exact ⟨as, e _ _ h1, h2.same e⟩
theorem scal_bl (b c : Bool) : scal (.bl b) (.bl c) = true := rfl
theorem dpAll_tups {K : PySem.W.Frag} {H : Hp} : ∀ {as : List Addr} {hss : List (List Int)}, AsT H as hss → DpAll K H (as.map V.ref) (hss.map tupI)
  | [], [], _ => .nil
  | [], _ :: _, h => by have := h.1; simp at this
  | _ :: _, [], h => by have := h.1; simp at this
  | a :: as, hs :: hss, h => .cons (dp_tupI (.inl (.inl (h.2 0 a hs rfl rfl)))) (dpAll_tups ⟨by simpa using h.1, fun i t gs h1 h2 => h.2 (i + 1) t gs h1 h2⟩)
theorem canLay_tups : ∀ hss : List (List Int), PyData.canLayAll0 (hss.map tupI) = true
  | [] => rfl
  | hs :: hss => by
    show (PyData.canLay0 (tupI hs) && PyData.canLayAll0 (hss.map tupI)) = true
    rw [canLay_tups hss, show PyData.canLay0 (tupI hs) = true from canLay_ints hs]
    rfl
theorem depth_tups : ∀ hss : List (List Int), PyData.depthAll (hss.map tupI) ≤ 1
  | [] => by decide
  | hs :: hss => by
    show max (PyData.depth (tupI hs)) (PyData.depthAll (hss.map tupI)) ≤ 1
    rw [depth_tupI]
    have := depth_tups hss
    omega
theorem shaped_tups (hss : List (List Int)) : SeqAt.shaped (.list (hss.map tupI)) = true := by
  have h1 : PyData.canLay0 (.list (hss.map tupI)) = true := canLay_tups hss
  have h2 : PyData.depth (.list (hss.map tupI)) ≤ 64 := by
    show PyData.depthAll (hss.map tupI) + 1 ≤ 64
    have := depth_tups hss
    omega
  unfold SeqAt.shaped
  rw [h1, decide_eq_true h2]
  rfl
theorem any_tups (ns : List Int) : ∀ hss : List (List Int), ((hss.map tupI).any fun z => PyData.eqv z (tupI ns)) = decide (ns ∈ hss)
  | [] => by simp
  | hs :: hss => by
    rw [List.map_cons, List.any_cons, any_tups ns hss, eqv_tupI]
    by_cases h : hs = ns
    · subst h; simp
    · have h' : ¬ ns = hs := fun e => h e.symm
      simp [h, h']
section
variable {K : PySem.W.Frag} {H : Hp} {a b : Addr} {ns ms : List Int} {hss : List (List Int)} {Q : VK}
theorem dp_lstT (h : LstT H a hss) : Dp K H (.ref a) (.list (hss.map tupI)) := by
  obtain ⟨as, h1, h2⟩ := h
  exact .lst (.inl (.inl h1)) (dpAll_tups h2)
theorem inD_tups (h1 : H a = some (.tup (ns.map V.int))) (h2 : LstT H b hss) (q : Q (.bl (decide (ns ∈ hss))) H) : rInD K (.ref a) (.ref b) H Q :=
  ⟨_, _, dp_tupI (.inl (.inl h1)), dp_lstT h2, shaped_tupI _, shaped_tups _, by rw [any_tups]; exact q⟩
theorem notInD_tups (h1 : H a = some (.tup (ns.map V.int))) (h2 : LstT H b hss) (q : Q (.bl (!decide (ns ∈ hss))) H) : rNotInD K (.ref a) (.ref b) H Q :=
  ⟨_, _, dp_tupI (.inl (.inl h1)), dp_lstT h2, shaped_tupI _, shaped_tups _, by rw [any_tups]; exact q⟩
theorem shaped_lstI (ns : List Int) : SeqAt.shaped (.list (ns.map PyData.int)) = true := by
  have h1 : PyData.canLay0 (.list (ns.map PyData.int)) = true := canLay_ints ns
  have h2 : PyData.depth (.list (ns.map PyData.int)) ≤ 64 := by
    show PyData.depthAll (ns.map PyData.int) + 1 ≤ 64
    rw [depth_ints ns]
    decide
  unfold SeqAt.shaped
  rw [h1, decide_eq_true h2]
  rfl
theorem eqv_lstI (ns ms : List Int) : PyData.eqv (.list (ns.map PyData.int)) (.list (ms.map PyData.int)) = decide (ns = ms) := eqvAll_ints ns ms
theorem eqD_lst (h1 : H a = some (.lst (ns.map V.int))) (h2 : H b = some (.lst (ms.map V.int))) (q : Q (.bl (decide (ns = ms))) H) : rEqD K (.ref a) (.ref b) H Q :=
  ⟨_, _, .lst (.inl (.inl h1)) (dpAll_ints ns), .lst (.inl (.inl h2)) (dpAll_ints ms), shaped_lstI _, shaped_lstI _, by rw [eqv_lstI]; exact q⟩
theorem neD_lst (h1 : H a = some (.lst (ns.map V.int))) (h2 : H b = some (.lst (ms.map V.int))) (q : Q (.bl (!decide (ns = ms))) H) : rNeD K (.ref a) (.ref b) H Q :=
  ⟨_, _, .lst (.inl (.inl h1)) (dpAll_ints ns), .lst (.inl (.inl h2)) (dpAll_ints ms), shaped_lstI _, shaped_lstI _, by rw [eqv_lstI]; exact q⟩
theorem eqv_tups : ∀ (hss gss : List (List Int)), PyData.eqvAll (hss.map tupI) (gss.map tupI) = decide (hss = gss)
  | [], [] => rfl
  | [], _ :: _ => rfl
  | _ :: _, [] => rfl
  | hs :: hss, gs :: gss => by
    show (PyData.eqv (tupI hs) (tupI gs) && PyData.eqvAll (hss.map tupI) (gss.map tupI)) = _
    rw [eqv_tups hss gss, eqv_tupI]
    by_cases h : hs = gs <;> by_cases h2 : hss = gss <;> simp [h, h2]
theorem neD_tups {gss : List (List Int)} (h1 : LstT H a hss) (h2 : LstT H b gss) (q : Q (.bl (!decide (hss = gss))) H) : rNeD K (.ref a) (.ref b) H Q :=
  ⟨_, _, dp_lstT h1, dp_lstT h2, shaped_tups _, shaped_tups _, by rw [show PyData.eqv (.list (hss.map tupI)) (.list (gss.map tupI)) = decide (hss = gss) from eqv_tups hss gss]; exact q⟩
end
theorem _root_.L2.Room.units1 {k : Nat} {A : Around} (r : Room k A) : A.units + 65 < cLine := by have := r.un; omega
theorem call_isIK {X : Cx} {K : PySem.W.Frag} (h : X.K = K) : CallR X (.builtin "isinstance") (rIsI K) := by subst h; exact call_isI
theorem call_isAK {X : Cx} {K : PySem.W.Frag} (h : X.K = K) : CallR X (.builtin "isinstance") (rIsA K) := by subst h; exact call_isA
end Cs

/-! sets of tuples of ints: set(), x in s, x not in s, s.add(x) -/
namespace Cs
open PySem PySem.Spec PyProof.Rows L2
section
variable {P : Program} {w : World} {A : Around} {E : Value → Shared → Prop} {s : Shared} {a : Addr} {L : List (Addr × List Int)} {es : Array (Int × Value)} {ep : Nat} {t : SetTable}
/-- the c-th probe of a search for a hash -/
abbrev pr (t : SetTable) (h : Int) (c : Nat) : SetTable.Probe := nth t.mask (runAt t.mask (SetTable.bits h % (t.mask + 1)) (SetTable.bits h)) c
theorem nth_clean (m : Nat) : ∀ (n : Nat) (p : SetTable.Probe), p.dummy = none → (nth m p n).dummy = none
  | 0, p, h => h
  | n + 1, p, h => nth_clean m n (adv m p) (by unfold adv; split <;> exact h)
/-- what the table's probe meets from the c-th place on: a row of the same hash, or the empty slot -/
theorem probe_at (R : SetTR P w s.heap a L es ep t) {k : List Int} {K c : Nat} (hKf : K < 10 * SetTable.turns t.mask) (hK : way t.mask (thash P w k) K ∉ t.place.toList) (hKb : ∀ c, c < K → way t.mask (thash P w k) c ∈ t.place.toList) (hc : c ≤ K) :
    (∃ q i p, c + q < K ∧ t.place.toList[i]? = some (way t.mask (thash P w k) (c + q)) ∧ L[i]? = some p ∧
      (∀ (q' i' : Nat) (p' : Addr × List Int), q' < q → L[i']? = some p' → t.place.toList[i']? = some (way t.mask (thash P w k) (c + q')) → p'.2 ≠ k) ∧
      t.probe (fun i => (es[i]?.map (·.1)).getD 0) (thash P w k) (pr t (thash P w k) c) = some (.candidate (way t.mask (thash P w k) (c + q)) i (pr t (thash P w k) (c + q + 1)))) ∨
    ((∀ (q' i' : Nat) (p' : Addr × List Int), c + q' < K → L[i']? = some p' → t.place.toList[i']? = some (way t.mask (thash P w k) (c + q')) → p'.2 ≠ k) ∧
      t.probe (fun i => (es[i]?.map (·.1)).getD 0) (thash P w k) (pr t (thash P w k) c) = some (.empty (way t.mask (thash P w k) K) none)) := by
  have shift : ∀ q, nth t.mask (pr t (thash P w k) c) q = pr t (thash P w k) (c + q) := fun q => (nth_add t.mask c _ q).symm
  have shj : ∀ q, (nth t.mask (pr t (thash P w k) c) q).j = way t.mask (thash P w k) (c + q) := fun q => congrArg SetTable.Probe.j (shift q)
  have hash : ∀ (i : Nat) p, L[i]? = some p → (fun i => (es[i]?.map (·.1)).getD 0) i = thash P w p.2 := fun i p hp => by
    show (es[i]?.map (·.1)).getD 0 = _
    rw [R.entry hp]
    rfl
  have same : ∀ {i : Nat} {p : Addr × List Int}, L[i]? = some p → (fun i => (es[i]?.map (·.1)).getD 0) i ≠ thash P w k → p.2 ≠ k := fun {i p} hp hne e => hne (by rw [hash i p hp, e])
  rcases go_spec t R.tab.ris R.tab.dm (fun i => (es[i]?.map (·.1)).getD 0) (thash P w k) (10 * SetTable.turns t.mask) (K - c) (pr t (thash P w k) c) (nth_clean _ _ _ rfl) (by omega)
    (fun q hq => by rw [shj]; exact hKb _ (by omega)) (by rw [shj, show c + (K - c) = K by omega]; exact hK) with ⟨q, i, hq, hi, _, hno, hp⟩ | ⟨hno, hp⟩
  · left
    rw [shj] at hi
    have hil : i < L.length := by
      have h1 := (List.getElem?_eq_some_iff.mp hi).1
      have h2 := R.tab.sz
      rw [List.length_map] at h2
      rw [Array.length_toList] at h1
      omega
    refine ⟨q, i, L[i], by omega, hi, List.getElem?_eq_getElem hil, fun q' i' p' h1 h2 h3 => same h2 (hno q' i' h1 (by rw [shj]; exact h3)), ?_⟩
    rw [shj, shift] at hp
    exact hp
  · right
    refine ⟨fun q' i' p' h1 h2 h3 => same h2 (hno q' i' (by omega) (by rw [shj]; exact h3)), ?_⟩
    rw [shj, show c + (K - c) = K by omega] at hp
    exact hp
/-- the search that a question asks for -/
theorem look_from (R : SetTR P w s.heap a L es ep t) {x : Addr} {k : List Int} (hx : IsT P w s.heap k x) (hu : A.units < cLine) {K : Nat} (hKf : K < 10 * SetTable.turns t.mask) (hK : way t.mask (thash P w k) K ∉ t.place.toList)
    (hKb : ∀ c, c < K → way t.mask (thash P w k) c ∈ t.place.toList) {Q : SetFound → Shared → Prop} (hin : k ∈ L.map (·.2) → ∀ i, Q (.there (some i)) s) (hout : k ∉ L.map (·.2) → ∀ j, Q (.free j false) s) :
    ∀ (f c : Nat) (st : Option SetTable.Probe), st.getD (t.probeStart (thash P w k)) = pr t (thash P w k) c → c ≤ K → K - c < f →
      (∀ (i : Nat) p, L[i]? = some p → p.2 = k → ∃ c', c ≤ c' ∧ c' < K ∧ t.place.toList[i]? = some (way t.mask (thash P w k) c')) → wpAny (model P w) A (setSearchFrom a (.ref x) (thash P w k) false f st) Q E s := by
  intro f
  induction f with
  | zero => intro c st _ _ h _; exact absurd h (Nat.not_lt_zero _)
  | succ f ih =>
    intro c st hst hc hf hre
    obtain ⟨o, ho, hex, hd⟩ := R.ob
    rw [setSearchFrom_succ]
    refine wpAny_bind (wpAny_setState_of ho hd R.fits ?_)
    dsimp only
    refine wp_if_neg R.gw ?_
    try refine wpAny_bind (wpAny_pure ?_)
    rw [hst]
    rcases probe_at R hKf hK hKb hc with ⟨q, i, p, hq, hi, hp, hno, e⟩ | ⟨hno, e⟩
    · rw [e]
      dsimp only
      have hm : p ∈ L := List.mem_of_getElem? hp
      have live : t.slot (way t.mask (thash P w k) (c + q)) = .live i := slot_live R.tab.ris hi
      have rest : wpAny (model P w) A (searchRest a (.ref x) (thash P w k) false f es t (way t.mask (thash P w k) (c + q)) i (pr t (thash P w k) (c + q + 1))) Q E s := by
        unfold searchRest
        rw [R.entry hp]
        dsimp only
        refine wpAny_bind (wpAny_holding (wpAny_eqBool_tuple hu (R.tup p hm) hx ?_))
        refine wpAny_bind (wpAny_setState_of ho hd R.fits ?_)
        dsimp only
        refine wp_if_neg (by simp) ?_
        try refine wpAny_bind (wpAny_pure ?_)
        rw [sameMem]
        dsimp only
        simp only [if_true, live, R.entry hp]
        refine wpAny_bind (wpAny_isSame_ref_self (wpAny_bind (wpAny_pure ?_)))
        simp only [if_true]
        by_cases hk : p.2 = k
        · refine wp_if_pos (by simp [hk]) ?_
          exact wpAny_pure (hin (List.mem_map.mpr ⟨p, hm, hk⟩) i)
        · refine wp_if_neg (by simp [hk]) ?_
          refine ih (c + q + 1) _ rfl (by omega) (by omega) fun i0 p0 h0 hk0 => ?_
          obtain ⟨c', a1, a2, a3⟩ := hre i0 p0 h0 hk0
          refine ⟨c', ?_, a2, a3⟩
          by_cases h1 : c' < c + q
          · exact absurd hk0 (hno (c' - c) i0 p0 (by omega) h0 (by rw [show c + (c' - c) = c' by omega]; exact a3))
          · by_cases h2 : c' = c + q
            · exfalso
              have l2 := slot_live R.tab.ris a3
              rw [h2, live] at l2
              injection l2 with l2
              rw [← l2, hp] at h0
              exact hk ((congrArg Prod.snd (Option.some.inj h0)).trans hk0)
            · omega
      by_cases hl : t.led = true
      · refine wp_if_neg (by simp [hl]) ?_
        try refine wpAny_bind (wpAny_pure ?_)
        exact rest
      · refine wp_if_pos (by simp [hl]) ?_
        refine wpAny_bind (seen_tup hx (fun y hy => ?_) ?_)
        · obtain ⟨e1, he1, rfl⟩ := List.mem_map.mp hy
          have he2 : e1 ∈ es.toList := by
            have h1 : e1 ∈ es ∧ e1.1 = thash P w k := by simpa using he1
            simpa using h1.1
          rw [R.rows] at he2
          obtain ⟨p2, hp2, rfl⟩ := List.mem_map.mp he2
          exact ⟨p2.2, p2.1, rfl, R.tup p2 hp2⟩
        · refine wp_if_neg (by decide) ?_
          try refine wpAny_bind (wpAny_pure ?_)
          exact rest
    · rw [e]
      dsimp only
      refine wpAny_pure (hout (fun hm => ?_) _)
      obtain ⟨p0, h0, hk0⟩ := List.mem_map.mp hm
      obtain ⟨i0, hi0, e0⟩ := List.getElem_of_mem h0
      have h00 : L[i0]? = some p0 := by rw [List.getElem?_eq_getElem hi0, e0]
      obtain ⟨c', a1, a2, a3⟩ := hre i0 p0 h00 hk0
      exact hno (c' - c) i0 p0 (by omega) h00 (by rw [show c + (c' - c) = c' by omega]; exact a3) hk0
theorem look_at (R : SetTR P w s.heap a L es ep t) {x : Addr} {k : List Int} (hx : IsT P w s.heap k x) (hu : A.units < cLine) {Q : SetFound → Shared → Prop} (hin : k ∈ L.map (·.2) → ∀ i, Q (.there (some i)) s) (hout : k ∉ L.map (·.2) → ∀ j, Q (.free j false) s) :
    wpAny (model P w) A (setSearch a (.ref x) (thash P w k)) Q E s := by
  have hroom := R.room
  obtain ⟨K, hKf, hK, hKb⟩ := R.tab.first (by rw [List.length_map]; omega) (thash P w k)
  have hbig : K < 100000 := by
    have : 10 * SetTable.turns t.mask ≤ 1420 := by
      unfold SetTable.turns
      rcases R.tab.mok with e | e | e <;> omega
    omega
  unfold setSearch
  refine look_from R hx hu hKf hK hKb hin hout 100000 0 none rfl (Nat.zero_le _) (by omega) fun i p hp hk => ?_
  have hi : (L.map fun p => thash P w p.2)[i]? = some (thash P w k) := by rw [List.getElem?_map, hp, ← hk]; rfl
  have hil : i < t.place.toList.length := by
    have h1 : i < L.length := (List.getElem?_eq_some_iff.mp hp).1
    have h2 := R.tab.sz
    rw [List.length_map] at h2
    rw [Array.length_toList]
    omega
  obtain ⟨c, hc, e⟩ := R.tab.before hK hi (List.getElem?_eq_getElem hil)
  exact ⟨c, Nat.zero_le _, hc, by rw [List.getElem?_eq_getElem hil, e]⟩
/-- x in s at the model's level -/
theorem find_tup (R : SetTR P w s.heap a L es ep t) {x : Addr} {k : List Int} (hx : IsT P w s.heap k x) (hu : A.units < cLine) {Q : Option Nat → Shared → Prop} (h : ∀ r, r.isSome = decide (k ∈ L.map (·.2)) → Q r s) :
    wpAny (model P w) A (setFind a (.ref x) (thash P w k)) Q E s := by
  obtain ⟨o, ho, hex, hd⟩ := R.ob
  unfold setFind
  rw [show (100000 : Nat) = 99999 + 1 from rfl]
  unfold setFindIn
  refine wpAny_bind (wpAny_setState_of ho hd R.fits ?_)
  dsimp only
  refine wp_if_neg (by simp [byScan, Value.scannable]) ?_
  try refine wpAny_bind (wpAny_pure ?_)
  refine wpAny_bind (look_at R hx hu (fun hm i => ?_) fun hm j => ?_)
  · exact wpAny_pure (h _ (by rw [decide_eq_true hm]; rfl))
  · exact wpAny_pure (h _ (by rw [decide_eq_false hm]; rfl))
end
section
variable {X : Cx}
theorem setTO_got {pins : List (Addr × Obj)} {σ : L2.St} {H : Hp} {s : Shared} {a : Addr} {L : List (Addr × List Int)} (I : Inv X pins σ H s) (ha : H a = some (SetTO X.prog X.w a L)) (hk : ∀ p ∈ L, H p.1 = some (.tup (p.2.map V.int))) :
    ∃ es ep t, SetTR X.prog X.w s.heap a L es ep t := (I.hok a _ ha).1.full fun p hp => I.isT (.inl (.inl (hk p hp)))
/-- set(), to be filled with tuples of ints -/
def rSet0T (P : Program) (w : World) : List V → Hp → VK → Prop := fun xs H Q => xs = [] ∧ ∀ p, H p = none → Q (.ref p) (upd H p (SetTO P w p []))
theorem cr_set0T : CallR X (.type "set") (rSet0T X.prog X.w) := by
  intro pins s σ H xs us Q I r h
  obtain ⟨rfl, q⟩ := h
  cases r
  refine setR_new fun _ => ?_
  exact ⟨.ref _, upd H s.heap.objs.size (SetTO X.prog X.w s.heap.objs.size []), I.laid (t' := s.toks) (fun b u e => Heap.get?_push_of_some _ e) (Nat.le_refl _) (setTO_new (setTR_fresh (Heap.get?_push_size _ rfl)).t0), rfl, q _ (I.hok.fresh (Nat.le_refl _))⟩
/-- t in s, t not in s -/
def rInT (P : Program) (w : World) (neg : Bool) : R2 := fun x y H Q => ∃ (b a : Addr) (k : List Int) (L : List (Addr × List Int)), x = .ref b ∧ y = .ref a ∧ H b = some (.tup (k.map V.int)) ∧ H a = some (SetTO P w a L) ∧ (∀ p ∈ L, H p.1 = some (.tup (p.2.map V.int))) ∧
  Q (.bl (if neg then !decide (k ∈ L.map (·.2)) else decide (k ∈ L.map (·.2)))) H
theorem contains_tup {P : Program} {w : World} {A : Around} {E : Value → Shared → Prop} {s : Shared} {a x : Addr} {L : List (Addr × List Int)} {es : Array (Int × Value)} {ep : Nat} {t : SetTable} {k : List Int} {Q : Bool → Shared → Prop}
    (R : SetTR P w s.heap a L es ep t) (hx : IsT P w s.heap k x) (hu : A.units + 64 < cLine) (h : ∀ tk, Q (decide (k ∈ L.map (·.2))) { s with toks := tk }) : wpAny (model P w) A (contains (.ref a) (.ref x)) Q E s := by
  obtain ⟨o, ho, hex, hd⟩ := id R.ob
  have ty : s.TypeIs (.ref a) "set" := ⟨o, ho, hex.1⟩
  have hu1 : A.in1.units < cLine := by
    show A.units + 1 < cLine
    omega
  unfold contains
  try with_reducible refine wpAny_holding ?_
  refine wpAny_bind (wpAny_specialOf ty F.slot_set_contains.lookup ?_)
  show wpAny _ _ (if (some (Value.builtin "set.__contains__") == some Value.none) = true then _ else _) _ E s
  rw [if_neg (by rw [beq_builtin_none]; exact Bool.false_ne_true)]
  refine wpAny_bind (wpAny_callSpecialUnlessNone?_slot (name := Str.ofString "__contains__") ty F.slot_set_contains
    (wpAny_call_entry F.slot_set_contains ty entry_set_contains ?_ (F.args_set_contains_2 _ _)))
  unfold Builtin.«frozenset.__contains__» Builtin.Frozenset.oneOther
  simp only [List.isEmpty_nil, bind_assoc]
  unfold Builtin.Frozenset.addrOf Builtin.Frozenset.withSetAsKey setContains
  refine wpAny_bind (wpAny_pure ?_)
  try dsimp only
  refine wpAny_bind (wpAny_pure ?_)
  try dsimp only
  refine wpAny_bind (wpAny_tryCatch ?_)
  refine wpAny_holding ?_
  refine wpAny_bind (wpAny_pyHash_tuple hu1 hx ?_)
  refine wpAny_bind (find_tup (s := { s with toks := s.toks + (k.length + 1) }) R hx hu1 fun r hr => ?_)
  refine wpAny_pure ?_
  show wpAny _ _ (ret (Value.bool r.isSome)) _ _ _
  rw [hr]
  exact wpAny_pure ⟨_, rfl, wpAny_truthy_bool (h _)⟩
theorem op_inT (hu : X.A.units + 64 < cLine) : OpR X (compareOp .In) (rInT X.prog X.w false) := by
  intro pins s σ H x y v u Q I rx ry h
  obtain ⟨b, a, k, L, rfl, rfl, hb, ha, hk, q⟩ := h
  cases rx
  cases ry
  obtain ⟨es, ep, t, R⟩ := setTO_got I ha hk
  show wpAny _ _ ((contains (Value.ref a) (Value.ref b)) >>= fun b => pure (Value.bool b)) _ _ s
  exact wpAny_bind (contains_tup R (I.isT (.inl (.inl hb))) hu fun tk => wpAny_pure ⟨.bl _, H, I.tok _, rfl, q⟩)
theorem op_notInT (hu : X.A.units + 64 < cLine) : OpR X (compareOp .NotIn) (rInT X.prog X.w true) := by
  intro pins s σ H x y v u Q I rx ry h
  obtain ⟨b, a, k, L, rfl, rfl, hb, ha, hk, q⟩ := h
  cases rx
  cases ry
  obtain ⟨es, ep, t, R⟩ := setTO_got I ha hk
  show wpAny _ _ ((contains (Value.ref a) (Value.ref b)) >>= fun b => pure (Value.bool !b)) _ _ s
  exact wpAny_bind (contains_tup R (I.isT (.inl (.inl hb))) hu fun tk => wpAny_pure ⟨.bl _, H, I.tok _, rfl, q⟩)
/-- s.add(t) -/
def rAddT (P : Program) (w : World) : V → List V → Hp → VK → Prop := fun x xs H Q => ∃ (b a : Addr) (k : List Int) (L : List (Addr × List Int)), x = .ref a ∧ xs = [.ref b] ∧ H b = some (.tup (k.map V.int)) ∧ H a = some (SetTO P w a L) ∧ (∀ p ∈ L, H p.1 = some (.tup (p.2.map V.int))) ∧ L.length + 1 < 64 ∧
  ∀ L', (k ∈ L.map (·.2) → L' = L) → (k ∉ L.map (·.2) → L'.Perm ((b, k) :: L)) → Q .non (upd H a (SetTO P w a L'))
theorem mt_addT (hu : X.A.units + 64 < cLine) : MtR X "set.add" (rAddT X.prog X.w) := by
  intro pins s σ H x xs v us Q I rx rxs h
  obtain ⟨b, a, k, L, rfl, rfl, hb, ha, hk, hl, q⟩ := h
  cases rx
  cases rxs with
  | cons ry rt =>
    cases rt
    cases ry
    obtain ⟨es, ep, t, R⟩ := setTO_got I ha hk
    obtain ⟨o, ho, hex, hd⟩ := id R.ob
    have ty : s.TypeIs (.ref a) "set" := ⟨o, ho, hex.1⟩
    have hx := I.isT (.inl (.inl hb)) (b := b) (k := k)
    refine wpAny_call_entry F.slot_set_add ty F.entry_set_add ?_ (F.args_set_add_2 _ _)
    have hu1 : X.A.in1.units < cLine := by
      show X.A.units + 1 < cLine
      omega
    unfold Builtin.«set.add» Builtin.Frozenset.oneOther
    simp only [List.isEmpty_nil, bind_assoc]
    unfold Builtin.Frozenset.addrOf setAdd
    refine wpAny_bind (wpAny_pure ?_)
    try dsimp only
    refine wpAny_bind (wpAny_pure ?_)
    try dsimp only
    refine wpAny_bind ?_
    refine wpAny_holding ?_
    refine wpAny_bind (wpAny_pyHash_tuple hu1 hx ?_)
    refine add_at (s := { s with toks := s.toks + (k.length + 1) }) R hx hu1 hl fun b' h' L' es' ep' t' sb R' c1 c2 => ?_
    show wpAny _ _ (ret Value.none) _ _ _
    obtain ⟨o', ho', _⟩ := R'.ob
    exact wpAny_pure ⟨_, rfl, .non, upd H a (SetTO X.prog X.w a L'), I.write (e := a) (t' := s.toks + (k.length + 1)) (by rw [ha]; trivial) (.inl rfl) (fun c u hc hu => (sb.2 c hc).trans hu) ⟨o', ho'⟩ (setTO_new R'.t0), rfl, q L' c1 c2⟩
def tAddT (P : Program) (w : World) (to : TE) (t : TA) : TE := fun σ H Q => to σ H fun x H1 => (∃ a L, x = V.ref a ∧ H1 a = some (SetTO P w a L)) ∧ t σ H1 fun xs H2 => rAddT P w x xs H2 Q
variable {o e : Expr} {to : TE} {t : TA} {apos cpos : Pos}
theorem pe_addT (hu : X.A.units + 64 < cLine) (ho : PE X o to) (ha : PA X [e] t)
    (hbase : attributeBase o "add" X.env (eval o X.env) = eval o X.env := by rfl)
    (hfew : ((backTo cpos (starEach [e] X.env)).all (fun x => !x.1) && (backToKw cpos (keywordEach [] X.env)).all (fun x => x.1.isSome)
      && decide (([e] : List Expr).length + ([] : List Keyword).length + (if ([] : List Keyword).isEmpty then 0 else 1) < 30)) = true := by rfl)
    (hline : (apos.endLine == cpos.line) = true := by rfl) (hs : starEach [e] X.env = (false, eval e X.env) :: starEach [] X.env := by rfl) :
    PE X (.Call (.Attribute o "add" apos) [e] [] cpos) (tAddT X.prog X.w to t) := by
  refine ⟨fun pins s σ H Q I h => wpAny_Call_method_late hbase hfew hline rfl (thn (ho.run pins s σ H _ I h) fun v s1 ⟨x, H1, I1, r1, ty, q1⟩ => ?_)⟩
  obtain ⟨a, L, rfl, hka⟩ := ty
  obtain ⟨_, _, _, ⟨ob, hob, hex, hd⟩, _⟩ := SetT0.ex (I1.hok a _ hka).1
  cases r1
  refine ⟨"set", "set.add", F.plainAttrs_set, F.slot_set_add, F.type_set_add, ⟨ob, hob, hex.1⟩, ?_, ?_⟩
  · intro a' e
    cases e
    exact ⟨ob, hob, hex.2.1⟩
  have hA := ha.run cpos pins s1 σ H1 _ I1 q1
  rw [hs] at hA ⊢
  refine Calls.callWith_builtin rfl (Calls.evalArgs_plain ?_)
  exact thn hA fun us s2 ⟨vs, H2, I2, r2, q2⟩ => mt_addT hu pins s2 σ H2 (.ref a) vs (.ref a) us Q I2 rfl r2 q2
end
end Cs

/-! for i, x in enumerate(v), v a list or a tuple -/
namespace Cs
open PySem PySem.Spec PyProof.Rows L2
theorem enum1_new {v : Value} {o : Obj} {G : Heap → Prop} (B : Begins v o G) :
    Meets (Builtin.«enumerate.__new__» ⟨[.type "enumerate", v], []⟩) (fun _ R s => G s.heap ∧
      R (.ok (.ret (.ref (s.heap.push o).objs.size))) { s with heap := (s.heap.push o).push { cls := .type "enumerate", data := .fields #[.none, .bool false, .ref s.heap.objs.size, rawInt 0, .none, .none] } }) :=
  .of_wp fun prog w A R s h => by
    obtain ⟨hp, g, d, tk, os⟩ := s
    obtain ⟨h1, h⟩ := h
    have hsub := sub_enumerate
    have it : ∀ {A' : Around} {E : Value → Shared → Prop} {Q : Value → Shared → Prop}, Q (.ref hp.objs.size) ⟨hp.push o, g, d, tk, os⟩ → wpAny (model prog w) A' (pyIter v) Q E ⟨hp, g, d, tk, os⟩ :=
      fun q => B.iter prog w _ _ ⟨hp, g, d, tk, os⟩ _ h1 q
    wp_walk using it
    refine wpAny_stack_any fun st => wpAny_pure ?_
    split
    · rename_i c _ _ _ _ _
      cases (c == Value.type "enumerate") <;> (wp_walk using it; exact ⟨_, rfl, h⟩)
    · wp_walk using it
      exact ⟨_, rfl, h⟩
section
variable {prog : Program} {w : World} {A : Around} {E : Value → Shared → Prop} {s : Shared}
theorem enum1_begins {v : Value} {o : Obj} {G : Heap → Prop} {Q : Value → Shared → Prop} (B : Begins v o G) (h1 : G s.heap)
    (h : ∀ h', IsEnum h' (s.heap.objs.size + 1) s.heap.objs.size 0 .none → h'.get? s.heap.objs.size = some o → (∀ b o, s.heap.get? b = some o → h'.get? b = some o) → Q (.ref (s.heap.objs.size + 1)) { s with heap := h' }) :
    wpAny (model prog w) A (call (.type "enumerate") [v]) Q E s := by
  refine callType_new F.called_enumerate (by decide) (F.typeCall_enumerate_1 _) (F.newCall_enumerate_1 _) (fun obj => F.args_object_init_2 obj _) F.entry_enumerate_new (enum1_new B) ⟨h1, ?_⟩
  have hz : (s.heap.push o).objs.size = s.heap.objs.size + 1 := Heap.size_push ..
  have he := Heap.get?_push_size (s.heap.push o) (o := { cls := .type "enumerate", data := .fields #[.none, .bool false, .ref s.heap.objs.size, rawInt 0, .none, .none] }) rfl
  show _ ∧ _
  rw [hz] at he ⊢
  exact ⟨⟨_, he, rfl⟩, h _ he (Heap.get?_push_of_some _ (Heap.get?_push_size _ B.free)) fun b o x => Heap.get?_push_of_some _ (Heap.get?_push_of_some _ x)⟩
end
/-- the items in new pairs with their index -/
def Iek (K : PySem.W.Frag) (k : Bool) (a : Addr) : It :=
  ⟨fun i H => ∃ (xs : List V) (x : V), Sqk K k H a xs ∧ xs[i]? = some x, fun i H v H' => ∃ T x, v = .ref T ∧ H T = none ∧ H' = upd H T (.tup [.int (i : Nat), x]) ∧ ∀ xs, Sqk K k H a xs → xs[i]? = some x, fun i H => ∃ xs : List V, Sqk K k H a xs ∧ xs.length = i⟩
theorem turn_ek {P : Program} {w : World} {K : PySem.W.Frag} {elts : List Expr} {kk : Nat} {tpos : Pos} {k : Bool} {a e it : Addr} (n1 : a ≠ it) (n2 : e ≠ it) (n3 : e ≠ a) :
    Turn P w K (.Tuple elts kk tpos) (Iek K k a) [e, it] e (fun i h => (∃ old, IsEnum h e it ((i : Nat) : Int) old) ∧ ItK k h it a i) where
  mem := by simp
  obj := fun i h st c hc => by
    obtain ⟨⟨old, he⟩, hi⟩ := st
    have e' : c = e ∨ c = it := by simpa using hc
    rcases e' with q | q
    · rw [q]; exact ⟨_, he, fun v q => nomatch q⟩
    · rw [q]; exact hi.obj
  keep := fun i h h' st k => ⟨st.1.imp fun old he => k e (by simp) _ he, st.2.at fun o q => k it (by simp) o q⟩
  item := by
    intro X hP hw hK hc i pins s σ H E I hf st hg
    subst hP hw hK
    obtain ⟨xs, x, hqx, hx⟩ := hg
    obtain ⟨its, rv, p⟩ := invK I hqx
    obtain ⟨u, hu, ru⟩ := rv.get hx
    have D := drawsK (prog := X.prog) (w := X.w) (A := X.A.in1) (I.ok.hd hc) k it a n1 its.toArray
    have l1 : i < its.length := (List.getElem?_eq_some_iff.mp hu).1
    have W := GoesN.enumFrom (elts := elts) (x1 := kk) (pos := tpos) 0 D e n2 (by simp [n2, n3]) (by simp)
    have st0 : (∃ old, IsEnum s.heap e it (0 + ((i : Nat) : Int)) old) ∧ ItK k s.heap it a i ∧ SeqK k s.heap a its.toArray := by
      rw [Int.zero_add]
      exact ⟨st.1, st.2, p⟩
    refine W.goes i s (fun v s2 => ∃ x H', Inv X pins σ H' s2 ∧ RelV x v ∧ (Iek X.K k a).yld i H x H' ∧ ((∃ old, IsEnum s2.heap e it ((i + 1 : Nat) : Int) old) ∧ ItK k s2.heap it a (i + 1)) ∧ ∀ b ∈ [e, it], H' b = none) E (by simpa using l1) st0 fun v h' tk hY st' hk htk => ?_
    obtain ⟨T, tk0, v1, rfl, hT, e1, hTu⟩ := hY
    have q1 : v1 = u := by
      have e1' : its[i]? = some v1 := by simpa using e1
      rw [hu] at e1'; exact (Option.some.inj e1').symm
    subst q1
    have new : ObjOk X.prog X.w (upd H T (.tup [.int (i : Nat), x])) h' T (.tup [.int (i : Nat), x]) :=
      ⟨by show 2 ≤ sizeLine; decide, [.int (0 + (i : Int)) tk0, v1], .cons ⟨tk0, by rw [Int.zero_add]⟩ (.cons ru .nil), hTu⟩
    have I1 : Inv X pins σ (upd H T (.tup [.int (i : Nat), x])) { s with heap := h', toks := tk } :=
      I.turnedNew (t' := tk) (ch := [e, it]) (fun c o hb q => hk c o hb q) hf hT new
    refine ⟨.ref T, _, I1, rfl, ⟨T, x, rfl, I.hok.fresh hT, rfl, fun l hl => by rw [injK I hl hqx]; exact hx⟩, ⟨by have z := st'.1; rw [Int.zero_add] at z; exact z, st'.2.1⟩, fun c hcm => ?_⟩
    have hlt : c < s.heap.objs.size := by
      obtain ⟨⟨old, he⟩, hi⟩ := st
      have e' : c = e ∨ c = it := by simpa using hcm
      rcases e' with q | q
      · rw [q]; exact Heap.lt_size he
      · rw [q]; obtain ⟨_, e1, _⟩ := hi.obj; exact Heap.lt_size e1
    rw [upd_ne (Nat.ne_of_lt (Nat.lt_of_lt_of_le hlt hT))]
    exact (hf c hcm).1
  done := by
    intro X hP hw hK hc i pins s σ H E I hf st hg
    subst hP hw hK
    obtain ⟨xs, hqx, hi⟩ := hg
    obtain ⟨its, rv, p⟩ := invK I hqx
    have D := drawsK (prog := X.prog) (w := X.w) (A := X.A.in1) (I.ok.hd hc) k it a n1 its.toArray
    have W := GoesN.enumFrom (elts := elts) (x1 := kk) (pos := tpos) 0 D e n2 (by simp [n2, n3]) (by simp)
    have en : its.toArray.size = i := by
      have := rv.length
      simp only [List.size_toArray]
      omega
    have st0 : (∃ old, IsEnum s.heap e it (0 + ((its.toArray.size : Nat) : Int)) old) ∧ ItK k s.heap it a its.toArray.size ∧ SeqK k s.heap a its.toArray := by
      rw [en, Int.zero_add]
      exact ⟨st.1, st.2, p⟩
    refine W.stops s (fun s1 => Inv X pins σ H s1) E st0 fun h' tk hk htk => ?_
    exact I.turnedL (t' := tk) (ch := [e, it]) (fun c o hb q => hk c o (fun hm => hb (by simpa using hm)) q) hf
  self := fun A i s Q E st h => let ⟨⟨_, he⟩, _⟩ := st; wpAny_pyIter_enum he h
def YEn (xs : List V) : Nat → Hp → V → Hp → Prop := fun i H v H' => ∃ T x, v = .ref T ∧ H T = none ∧ H' = upd H T (.tup [.int (i : Nat), x]) ∧ xs[i]? = some x
theorem YEn.same {xs : List V} {i : Nat} {x : V} {H H' : Hp} (h : YEn xs i H x H') : Same H H' := by
  obtain ⟨T, y, _, hT, rfl, _⟩ := h
  exact Same.new hT
theorem walk_en {K : PySem.W.Frag} {k : Bool} {a : Addr} {xs : List V} : Walk (Iek K k a) xs.length (fun H => Sqh k H a xs) (YEn xs) := by
  refine ⟨fun i _ hi q => ⟨xs, xs[i], q.sqk, List.getElem?_eq_getElem hi⟩, fun _ q => ⟨xs, q.sqk, rfl⟩, fun i H v H' _ q y => ?_⟩
  obtain ⟨T, x, h1, h2, h3, h4⟩ := y
  exact ⟨T, x, h1, h2, h3, h4 xs q.sqk⟩
def iEnH (ta : TA) : TI := fun σ H R => ta σ H fun vs H1 => ∃ a, vs = [.ref a] ∧ ∃ (k : Bool) (xs : List V), Sqh k H1 a xs ∧ ∀ J : It, Walk J xs.length (fun H => Sqh k H a xs) (YEn xs) → R J H1
theorem pi_enH {X : Cx} {e : Expr} {ta : TA} {p pos tpos : Pos} {elts : List Expr} {kk : Nat} (hg : Gl X "enumerate") (hm : X.mg "enumerate" = none) (ha : PA X [e] ta) (hs : starEach [e] X.env = [(false, eval e X.env)] := by rfl) :
    PI X (.Tuple elts kk tpos) (.Call (.Name "enumerate" p) [e] [] pos) (iEnH ta) := by
  refine ⟨fun pins s σ H R I h => ?_⟩
  refine Call_ (ld_blt I hg hm boot_enumerate (PyProof.Rows.callWith_type1 (thn (ha.run pos pins s σ H _ I h) fun us s1 ⟨vs, H1, I1, r1, q1⟩ => ?_) hs rfl))
  obtain ⟨a, ex, k, xs, hq, q⟩ := q1
  subst ex
  have q := q (Iek X.K k a) walk_en
  cases r1 with
  | cons r rr =>
    cases rr
    cases r
    obtain ⟨its, rv, p'⟩ := invK I1 (hq.sqk (K := X.K))
    have la : a < s1.heap.objs.size := p'.lt
    refine enum1_begins (begK k a its.toArray) p' fun h' he hit hk => wpAny_pyIter_enum he ?_
    have I2 : Inv X pins σ H1 { s1 with heap := h' } := I1.kept (t' := s1.toks) hk
    refine ⟨s1.heap.objs.size + 1, [s1.heap.objs.size + 1, s1.heap.objs.size], _, _, H1, rfl, I2, turn_ek (k := k) (a := a) (Nat.ne_of_lt la) (Nat.succ_ne_self _) (Nat.ne_of_gt (Nat.lt_succ_of_lt la)), ⟨⟨.none, he⟩, ItK.new hit⟩, fun b hb => ?_, q⟩
    have e' : b = s1.heap.objs.size + 1 ∨ b = s1.heap.objs.size := by simpa using hb
    have hle : s1.heap.objs.size ≤ b := by
      rcases e' with z | z
      · rw [z]; exact Nat.le_add_right _ _
      · rw [z]; exact Nat.le_refl _
    exact I1.fpOk hle (I1.hok.fresh hle)
end Cs

namespace Cs
open PySem PySem.Spec PyProof.Rows L2
/-! ### readings that name the frame, for use within comprehensions -/
section
variable {X : Cx} {K : PySem.W.Frag}
theorem op_eqDK (h : X.K = K) (hu : X.A.units + 64 < cLine) : OpR X (compareOp .Eq) (rEqD K) := by subst h; exact op_eqD hu
theorem op_neDK (h : X.K = K) (hu : X.A.units + 64 < cLine) : OpR X (compareOp .NotEq) (rNeD K) := by subst h; exact op_neD hu
theorem op_inDK (h : X.K = K) (hu : X.A.units + 65 < cLine) : OpR X (compareOp .In) (rInD K) := by subst h; exact op_inD hu
theorem op_notInDK (h : X.K = K) (hu : X.A.units + 65 < cLine) : OpR X (compareOp .NotIn) (rNotInD K) := by subst h; exact op_notInD hu
theorem sl_listK (h : X.K = K) : SlR X (rSlL K) := by subst h; exact sl_list
theorem op_repAK (h : X.K = K) : OpR X (binaryOp .Mult) (rRepA K) := by subst h; exact op_repA
/-- xs[::-1] of a list -/
theorem pe_revLK (h : X.K = K) {e : Expr} {te : TE} {k : Nat} {p1 p2 p3 pos : Pos} (he : PE X e te) : PE X (.Subscript e (.Slice none none (some (.UnaryOp .USub (.Constant (.int 1) k p1) p2)) p3) pos) (tRevL K te) := by subst h; exact pe_revL he
end
end Cs

namespace Cs
open PySem PySem.Spec PyProof.Rows L2
/-! ### flat data -/
def dOf : V → PyData
  | .bl b => .bool b
  | .int i => .int i
  | .str x => .str x
  | _ => .none
def Flat0 : V → Prop
  | .non => True
  | .bl _ => True
  | .int _ => True
  | .str x => PyData.canLay0 (.str x) = true
  | _ => False
theorem dp_one {K : PySem.W.Frag} {H : Hp} : ∀ {v : V}, Flat0 v → Dp K H v (dOf v)
  | .non, _ => .non
  | .bl b, _ => .bl b
  | .int i, _ => .int i
  | .str x, _ => .str x
theorem dp_flat {K : PySem.W.Frag} {H : Hp} : ∀ {xs : List V}, (∀ v ∈ xs, Flat0 v) → DpAll K H xs (xs.map dOf)
  | [], _ => .nil
  | x :: xs, h => .cons (dp_one (h x (List.mem_cons_self ..))) (dp_flat fun v hv => h v (List.mem_cons_of_mem _ hv))
theorem lay_one {v : V} (h : Flat0 v) : PyData.canLay0 (dOf v) = true := by
  cases v with
  | str x => exact h
  | _ => rfl
theorem depth_one (v : V) : PyData.depth (dOf v) = 0 := by cases v <;> rfl
theorem lay_flat : ∀ {xs : List V}, (∀ v ∈ xs, Flat0 v) → PyData.canLayAll0 (xs.map dOf) = true
  | [], _ => rfl
  | v :: xs, h => by
    show (PyData.canLay0 (dOf v) && PyData.canLayAll0 (xs.map dOf)) = true
    rw [lay_one (h v (List.mem_cons_self ..)), lay_flat fun u hu => h u (List.mem_cons_of_mem _ hu)]
    rfl
theorem depth_flat : ∀ xs : List V, PyData.depthAll (xs.map dOf) = 0
  | [] => rfl
  | v :: xs => by
    show max (PyData.depth (dOf v)) (PyData.depthAll (xs.map dOf)) = 0
    rw [depth_one, depth_flat xs]
    rfl
theorem shaped_flat {xs : List V} (h : ∀ v ∈ xs, Flat0 v) : SeqAt.shaped (.list (xs.map dOf)) = true := by
  have h1 : PyData.canLay0 (.list (xs.map dOf)) = true := lay_flat h
  have h2 : PyData.depth (.list (xs.map dOf)) ≤ 64 := by
    show PyData.depthAll (xs.map dOf) + 1 ≤ 64
    rw [depth_flat]
    decide
  unfold SeqAt.shaped
  rw [h1, decide_eq_true h2]
  rfl
/-- xs != ys, two lists of the same flat things -/
theorem neD_flat {K : PySem.W.Frag} {H : Hp} {a b : Addr} {xs : List V} {Q : VK} (h1 : H a = some (.lst xs)) (h2 : H b = some (.lst xs)) (hf : ∀ v ∈ xs, Flat0 v) (q : Q (.bl false) H) : rNeD K (.ref a) (.ref b) H Q := by
  refine ⟨_, _, .lst (.inl (.inl h1)) (dp_flat hf), .lst (.inl (.inl h2)) (dp_flat hf), shaped_flat hf, shaped_flat hf, ?_⟩
  have e : PyData.eqv (.list (xs.map dOf)) (.list (xs.map dOf)) = true := SeqAt.eqv_refl _ (lay_flat hf)
  rw [e]
  exact q
theorem eqD_flat {K : PySem.W.Frag} {H : Hp} {a b : Addr} {xs : List V} {Q : VK} (h1 : H a = some (.lst xs)) (h2 : H b = some (.lst xs)) (hf : ∀ v ∈ xs, Flat0 v) (q : Q (.bl true) H) : rEqD K (.ref a) (.ref b) H Q := by
  refine ⟨_, _, .lst (.inl (.inl h1)) (dp_flat hf), .lst (.inl (.inl h2)) (dp_flat hf), shaped_flat hf, shaped_flat hf, ?_⟩
  have e : PyData.eqv (.list (xs.map dOf)) (.list (xs.map dOf)) = true := SeqAt.eqv_refl _ (lay_flat hf)
  rw [e]
  exact q
/-! ### t[::-1] of a tuple -/
section
variable {P : Program} {w : World} {A : Around} {E : Value → Shared → Prop} {s : Shared}
theorem back_adjust (n : Nat) : Builtin.Slice.sliceAdjust none none (-1) (n : Int) = ((n : Int) - 1, -1) := by
  have neg1 : ((-1 : Int) < 0) := by decide
  unfold Builtin.Slice.sliceAdjust
  simp only [neg1, if_true]
theorem back_places (n : Nat) : Builtin.Slice.slicePlaces ((n : Int) - 1) (-1) (-1) = n := by
  unfold Builtin.Slice.slicePlaces
  by_cases h : n = 0
  · subst h; decide
  · have e : ¬ ((-1 : Int) > 0) := by decide
    simp only [e, if_false, Int.neg_neg, Int.ediv_one]
    split <;> omega
theorem filterMap_cong {α β : Type} {f g : α → Option β} : ∀ {l : List α}, (∀ x ∈ l, f x = g x) → l.filterMap f = l.filterMap g
  | [], _ => rfl
  | x :: l, h => by
    rw [List.filterMap_cons, List.filterMap_cons, h x (List.mem_cons_self ..), filterMap_cong fun y hy => h y (List.mem_cons_of_mem _ hy)]
theorem back_pick (xs : Array Value) : ((List.range xs.size).filterMap fun (k : Nat) => xs[((xs.size : Int) - 1 + (k : Int) * (-1)).toNat]?).toArray = xs.toList.reverse.toArray := by
  have e : ((List.range xs.size).filterMap fun (k : Nat) => xs[((xs.size : Int) - 1 + (k : Int) * (-1)).toNat]?) = ((List.range xs.size).map fun k => xs.size - 1 - k).filterMap (xs[·]?) := by
    rw [List.filterMap_map]
    refine filterMap_cong fun k hk => ?_
    have hk := List.mem_range.mp hk
    show xs[((xs.size : Int) - 1 + (k : Int) * (-1)).toNat]? = xs[xs.size - 1 - k]?
    congr 1
    omega
  rw [e, PySem.W.krv_range, List.filterMap_reverse, PySem.W.krv_all]
theorem back_parts {sl : Addr} {vs : Value} {n : Nat} {Q : Int × Int × Nat → Shared → Prop} (hs : s.heap.IsSliceOf sl .none .none vs) (pt : IsPart vs (some (-1)))
    (q : Q ((n : Int) - 1, -1, n) s) : wpAny (model P w) A (Builtin.Slice.sliceApplied (.ref sl) (pure (n : Int))) Q E s := by
  obtain ⟨ob, g1, _, g3⟩ := id hs
  unfold Builtin.Slice.sliceApplied Builtin.Slice.sliceFields
  refine wpAny_bind (wpAny_bind ?_)
  refine wpAny_field g1 g3 (x := .none) rfl (wpAny_bind ?_)
  refine wpAny_field g1 g3 (x := .none) rfl (wpAny_bind ?_)
  refine wpAny_field g1 g3 (x := vs) rfl (wpAny_pure ?_)
  refine wpAny_bind (HT.slicePart_ pt ?_)
  show wpAny _ _ (if ((-1 : Int) == 0) = true then _ else _) _ _ s
  rw [if_neg (show ¬ ((-1 : Int) == 0) = true by decide)]
  refine wpAny_bind (HT.slicePart_ .none (wpAny_bind (HT.slicePart_ .none ?_)))
  refine wpAny_bind (wpAny_pure ?_)
  show wpAny _ _ (match Builtin.Slice.sliceAdjust none none (-1) (n : Int) with | (x, y) => pure (x, (-1 : Int), Builtin.Slice.slicePlaces x y (-1))) _ _ s
  rw [back_adjust]
  show wpAny _ _ (pure ((n : Int) - 1, (-1 : Int), Builtin.Slice.slicePlaces ((n : Int) - 1) (-1) (-1))) _ _ s
  rw [back_places]
  exact wpAny_pure q
theorem back_tuple {t sl : Addr} {xs : Array Value} {vs : Value} {Q : Value → Shared → Prop} (ht : IsTup s.heap t xs) (hs : s.heap.IsSliceOf sl .none .none vs) (pt : IsPart vs (some (-1))) (hz : xs.size ≤ sizeLine)
    (q : Q (.ref s.heap.objs.size) { s with heap := s.heap.push { cls := .type "tuple", data := .seq xs.toList.reverse.toArray } }) : wpAny (model P w) A (getItem (.ref t) (.ref sl)) Q E s := by
  have fits : sizeOk (.seq xs.toList.reverse.toArray) := by
    show xs.toList.reverse.toArray.size ≤ sizeLine
    simpa using hz
  obtain ⟨ob, g1, g2, _⟩ := id hs
  have isSl : s.TypeIs (.ref sl) "slice" := ⟨ob, g1, g2⟩
  unfold getItem
  try with_reducible refine wpAny_holding ?_
  first | refine wpAny_bind (wpAny_pure ?_) | skip
  refine wpAny_bind (wpAny_sequenceKey ht.typeIs (by decide) ?_)
  refine wpAny_bind (wpAny_callSpecial?_slot (name := Str.ofString "__getitem__") ht.typeIs PyProof.Rows.slot_tuple_getitem (wpAny_call_entry PyProof.Rows.slot_tuple_getitem ht.typeIs entry_tuple_getitem ?_ (args_tuple_getitem _ _)))
  show wpAny _ _ (Builtin.Tuple.tupleItemsOf (.ref t) >>= _) _ _ s
  refine wpAny_bind (tupleItemsOf_ ht (wpAny_bind (wpAny_typeOf isSl ?_)))
  rw [if_pos (show (Value.type "slice" == Value.type "slice") = true by decide)]
  refine wpAny_bind (back_parts hs pt ?_)
  show wpAny _ _ (if (((xs.size : Int) - 1) == 0 && (-1 : Int) == 1 && xs.size == xs.size) = true then _ else _) _ _ s
  have no : ¬ ((((xs.size : Int) - 1) == 0 && (-1 : Int) == 1 && xs.size == xs.size) = true) := by
    rw [show ((-1 : Int) == 1) = false by decide, Bool.and_false, Bool.false_and]
    decide
  rw [if_neg no, back_pick]
  first
    | exact wpAny_bind (m := Builtin.Tuple.tupleExact _) (wpAny_newObj_type (wpAny_pure ⟨_, rfl, wpAny_pure q⟩) fits)
    | exact wpAny_bind (m := Builtin.Tuple.tupleExact _) (wpAny_newObj_type (wpAny_bind (wpAny_pure (wpAny_pure ⟨_, rfl, wpAny_pure q⟩))) fits)
    | exact wpAny_bind (wpAny_bind (m := Builtin.Tuple.tupleExact _) (wpAny_newObj_type (wpAny_pure (wpAny_pure ⟨_, rfl, wpAny_pure q⟩)) fits))
    | exact wpAny_bind (wpAny_bind (m := Builtin.Tuple.tupleExact _) (wpAny_newObj_type (wpAny_pure ⟨_, rfl, wpAny_pure q⟩) fits))
end
theorem op_catTK {X : Cx} {K : PySem.W.Frag} (h : X.K = K) : OpR X (binaryOp .Add) (rCatT K) := by subst h; exact op_catT
/-- t[::-1] of a tuple -/
def tRevT (K : PySem.W.Frag) (te : TE) : TE := fun σ H Q => te σ H fun x H1 => ∃ a, x = .ref a ∧ ∃ xs, H1 a = some (.tup xs) ∧ ∀ p, H1 p = none → Q (.ref p) (upd H1 p (.tup xs.reverse))
theorem pe_revT {X : Cx} {K : PySem.W.Frag} (hK : X.K = K) {e : Expr} {te : TE} {k : Nat} {p1 p2 p3 pos : Pos} (he : PE X e te) : PE X (.Subscript e (.Slice none none (some (.UnaryOp .USub (.Constant (.int 1) k p1) p2)) p3) pos) (tRevT K te) := by
  subst hK
  refine ⟨fun pins s0 σ H Q I h => Subscript_ (thn (he.run pins s0 σ H _ I h) fun v s x => ?_)⟩
  obtain ⟨_, H1, I1, r1, a, rfl, xs, hx, q⟩ := x
  cases r1
  have minus : PO X (some (.UnaryOp .USub (.Constant (.int 1) k p1) p2)) (tPart (tUn (rU fun i => .int (-i)) (tC (.int 1)))) := po_some (pe_un un_neg pe_int)
  refine wpAny_Slice (thn (po_none.run pins s σ H1 (fun o G => o = none ∧ G = H1) I1 ⟨rfl, rfl⟩) fun l1 s1 x => ?_)
  obtain ⟨_, _, I2, pl, rfl, rfl⟩ := x
  refine thn (po_none.run pins s1 σ _ (fun o G => o = none ∧ G = _) I2 ⟨rfl, rfl⟩) fun l2 s2 x => ?_
  obtain ⟨_, _, I3, pu, rfl, rfl⟩ := x
  refine thn (minus.run pins s2 σ _ (fun o G => o = some (-1) ∧ G = _) I3 ⟨1, rfl, -1, rfl, rfl, rfl⟩) fun l3 s3 x => ?_
  obtain ⟨_, H4, I4, pt, rfl, rfl⟩ := x
  cases pl
  cases pu
  generalize hs4 : ({ s3 with heap := s3.heap.push { cls := .type "slice", data := .fields #[.none, .none, l3] } } : Shared) = s4
  have I5 : Inv X pins σ H4 s4 := by
    rw [← hs4]
    exact I4.kept (t' := s3.toks) fun b ob y => Heap.get?_push_of_some _ y
  have isl : s4.heap.IsSliceOf s3.heap.objs.size .none .none l3 := by
    rw [← hs4]
    exact Heap.IsSliceOf.new s3.heap .none .none l3
  obtain ⟨its, r, ht, hz⟩ := I5.tuple (.inl (.inl hx))
  have hlen := r.length
  refine tail_any (ops := [.ref a, .ref s3.heap.objs.size]) ht.typeIs PyProof.Rows.slot_tuple_getitem.lookup ?_ (by with_unfolding_all rfl)
  refine back_tuple ht isl pt (by rw [List.size_toArray]; omega) ?_
  refine ⟨.ref s4.heap.objs.size, _, I5.laid (t' := s4.toks) (o := .tup xs.reverse) (fun b ob y => Heap.get?_push_of_some _ y) (Nat.le_refl _) ?_, rfl, q _ (I5.hok.fresh (Nat.le_refl _))⟩
  exact ⟨by rw [List.length_reverse]; exact hz, _, r.reverse, IsTup.new _ _⟩
end Cs

namespace Cs
open PySem PySem.Spec PyProof.Rows L2
/-! ### set(xs) of a list of ints -/
section
variable {P : Program} {w : World} {A : Around} {E : Value → Shared → Prop} {s : Shared}
abbrev bareSet (w : World) : Obj := { cls := .type "set", dict := none, data := .set #[] 0 (.fresh 0 0 (!w.params.followText "set-order")) }
/-- the heap with a new set -/
abbrev withSet (w : World) (h : Heap) : Heap := h.push (bareSet w)
/-- what stood still stands; the set at n holds what ns holds -/
def Filled (w : World) (s : Shared) (ns : List Int) (s2 : Shared) : Prop := ∃ h' tk c, s2 = { s with heap := h', toks := tk } ∧ SetR w h' s.heap.objs.size (fun j => decide (j ∈ ns)) c ∧ c ≤ ns.length ∧ ∀ b o, s.heap.get? b = some o → h'.get? b = some o
theorem call_setL {l : Addr} {items : Array Value} {ns : List Int} {Q : Value → Shared → Prop} (calm : A.handled = none) (hl : s.heap.IsList l items) (vals : IntsAre items.toList ns) (few : ns.length + 1 < scanBound)
    (q : ∀ s2, Filled w s ns s2 → Q (.ref s.heap.objs.size) s2) : wpAny (model P w) A (call (.type "set") [.ref l]) Q E s := by
  have count : items.size = ns.length := by have e := IntsAre.length vals; rwa [Array.length_toList] at e
  obtain ⟨_, _, hmro⟩ := F.called_set.mro
  have hmade := F.called_set.made; have hsub := F.called_set.sub
  refine wpAny_call (codeAny_of_tree (show wpAny _ _ (callAny (.type "set") _) _ _ _ from ?_))
  refine wpAny_pure ⟨Code.quiet_builtin _ (show _ by decide +kernel), codeAny_builtin F.entry_type_call ?_⟩
  rw [Around.under_plain (weight_type_call_type "set" [Value.ref l] []) rfl]
  have u1 := F.called_set.notType; have u2 := F.called_set.canCreate; have u3 := F.typeCall_set_1 (.ref l)
  repeat (any_goals (first | assumption | wp_step))
  refine codeAny_mono (code_set_led1 (.ref l) (E := E) (Q₁ := fun x s1 => x = .ref s.heap.objs.size ∧ s1 = { s with heap := withSet w s.heap }) ⟨rfl, rfl⟩) fun r s1 hr => ?_
  match r, hr with
  | .error e, hr => exact hr
  | .ok (.ret x), hr =>
    obtain ⟨rfl, rfl⟩ := hr
    have fS : (withSet w s.heap).get? s.heap.objs.size = some (bareSet w) := Heap.get?_push_size _ rfl
    have tS : Shared.TypeIs { s with heap := withSet w s.heap } (.ref s.heap.objs.size) "set" := ⟨_, fS, rfl⟩
    have u4 := F.called_set.init.lookup; have u5 := F.called_set.init.bind (.ref s.heap.objs.size)
    repeat (any_goals (first | assumption | wp_step))
    refine codeAny_mono (codeAny_call_builtin (R := wants (fun r s2 => r = .none ∧ Filled w s ns s2) E) F.called_set.init.plain F.entry_set_init (check_set_init_1 tS ?_)) fun r s2 hr => ?_
    · obtain ⟨⟨cl, dc, dt, sl⟩, fl, e1, nl, e2⟩ := hl
      simp only at e1 e2
      subst e1 e2
      have fl2 : (withSet w s.heap).get? l = some { cls := .type "list", dict := dc, data := .seq items nl, slots := sl } := Heap.get?_push_of_some _ fl
      have v1 := F.sub_list_set; have v2 := F.sub_list_frozenset; have v3 : (Value.type "list" == Value.type "dict") = false := by decide
      have isl : (withSet w s.heap).IsList l items := ⟨_, fl2, rfl, nl, rfl⟩
      unfold Builtin.«set.__init__» noKeywords Builtin.Frozenset.updateFrom
      generalize hPI : pyIter = PI
      wp_walk
      subst hPI
      refine wpAny_pyIter_list isl (wpAny_bind (wpAny_runValue ?_))
      have lt := Heap.lt_size fl
      have size1 : (withSet w s.heap).objs.size = s.heap.objs.size + 1 := Heap.size_push ..
      have nI : l ≠ (withSet w s.heap).objs.size := by rw [size1]; exact Nat.ne_of_lt (Nat.lt_succ_of_lt lt)
      have nS : s.heap.objs.size ∉ [(withSet w s.heap).objs.size, l] := by
        rw [size1]
        intro hm
        rcases List.mem_cons.mp hm with e | hm
        · exact Nat.ne_of_lt (Nat.lt_succ_self _) e
        · exact Nat.ne_of_gt lt (List.mem_singleton.mp hm)
      have read : ∀ (i : Nat) (v : Value), items[i]? = some v → ∃ k t, ns[i]? = some k ∧ v = .int k t := by
        intro i v hv
        have hi := (Array.getElem?_eq_some_iff.mp hv).1
        rw [count] at hi
        obtain ⟨t, e⟩ := PyProof.Rows.IntsAre.int_at vals i v (by rw [Array.getElem?_toList]; exact hv)
        exact ⟨ns[i], t, List.getElem?_eq_getElem hi, by rw [e, List.getD_eq_getElem?_getD, List.getElem?_eq_getElem hi] <;> rfl⟩
      refine set_update_ints ((Walks.list (by simp [calm]) _ l nI items).toS) s.heap.objs.size nS ns count few read (items.size - 0) 0 _ (by omega) (Nat.zero_le _) ⟨⟨_, Heap.get?_push_size _ rfl, rfl, rfl⟩, isl.push _⟩ ?start ?last
      case start =>
        exact ⟨0, Nat.le_refl 0, setR_new_at (Heap.get?_push_of_some _ fS)⟩
      case last =>
        rintro ⟨h2, g2, d2, t2, o2⟩ c mv few2 full
        obtain rfl : g2 = s.gens := mv.gens
        obtain rfl : d2 = s.drawn := mv.drawn
        obtain rfl : o2 = s.os := mv.os
        show wpAny _ _ _ _ _ _
        refine wpAny_pure (show wpAny _ _ (ret Value.none) _ _ _ from ?_)
        refine wpAny_pure ⟨rfl, h2, t2, c, rfl, full, by rw [← count]; exact few2, fun b o e => ?_⟩
        have lb := Heap.lt_size e
        refine mv.heap b o (fun hm => ?_) (Heap.get?_push_of_some _ (Heap.get?_push_of_some _ e))
        rcases List.mem_cons.mp hm with e | hm
        · exact Nat.ne_of_lt lb e
        · have e := List.mem_singleton.mp hm
          rw [size1] at e
          exact Nat.ne_of_lt (Nat.lt_succ_of_lt lb) e
    · match r, hr with
      | .error e, hr => exact hr
      | .ok (.ret x), hr =>
        obtain ⟨rfl, fil⟩ := hr
        have Qe := q s2 fil
        obtain ⟨h2, t2, c2, rfl, f1, f2, f3⟩ := id fil
        repeat (any_goals (first | assumption | wp_step))
      | .ok .next, hr => exact hr.elim
      | .ok .brk, hr => exact hr.elim
      | .ok .cont, hr => exact hr.elim
  | .ok .next, hr => exact hr.elim
  | .ok .brk, hr => exact hr.elim
  | .ok .cont, hr => exact hr.elim
end
/-- set(xs) of a list of ints -/
def rSetLI (w : World) : List V → Hp → VK → Prop := fun vs H Q => ∃ l : Addr, vs = [.ref l] ∧ ∃ ns : List Int, H l = some (.lst (ns.map V.int)) ∧ ns.length ≤ 1000 ∧ ∀ p c, H p = none → c ≤ ns.length → Q (.ref p) (upd H p (SetO w p (fun j => decide (j ∈ ns)) c))
theorem cr_setLI {X : Cx} (hc : X.calm = true) : CallR X (.type "set") (rSetLI X.w) := by
  intro pins s σ H vs us Q I r h
  obtain ⟨l, rfl, ns, hl, few, q⟩ := h
  rw [Vals.ref1 r]
  obtain ⟨its, r2, ht, hz⟩ := I.list (.inl (.inl hl))
  refine call_setL (I.ok.hd hc) ht.isList (intsAre_of r2) (Nat.lt_of_le_of_lt (Nat.succ_le_succ few) (by decide)) fun s2 fil => ?_
  obtain ⟨h2, t2, c, rfl, f1, f2, f3⟩ := fil
  exact ⟨.ref _, _, I.laid (t' := t2) f3 (Nat.le_refl _) (setO_new f1), rfl, q _ c (I.hok.fresh (Nat.le_refl _)) f2⟩
/-- sorted(set) -/
def rSortLI (w : World) : List V → Hp → VK → Prop := fun vs H Q => ∃ (a : Addr) (S : Int → Bool) (n : Nat), vs = [V.ref a] ∧ H a = some (SetO w a S n) ∧ n < 64 ∧ ∀ (ns : List Int) (p : Addr), ns.Pairwise (· < ·) → (∀ k : Int, k ∈ ns ↔ S k = true) → ns.length = n → H p = none → Q (.ref p) (upd H p (.lst (ns.map V.int)))
theorem cr_sortLI {X : Cx} (hc : X.calm = true) : CallR X (.builtin "sorted") (rSortLI X.w) := cr_sortedSet hc
end Cs

namespace Cs
open PySem PySem.Spec PyProof.Rows L2
/-! ### f(k = e, ..), no argument by its place -/
section
variable {X : Cx} {CX : CXT} {k : Nat} {f : Addr} {fd : FuncData} {ps ks : List Str} {sp : Sp} {E : XK} {x : Str} {p pos : Pos} {kws : List Keyword} {tk : TA} {g : List Value → List Value → List Value} {gV : List V → List V → List V}
def tCallK0 (j : Nat) (sp : Sp) (gV : List V → List V → List V) (E : XK) (tk : TA) : TE := fun σ H Q => tk σ H fun zs H1 => zs.length = j ∧ sp (gV [] zs) H1 Q E
theorem pe_callK0 (F : FnOk X.prog X.w X.K X.mg X.base CX k f fd ps sp) (hr : Room k X.A) (hg : Gl X x) (hm : X.mg x = some (.ref f)) (hk : PySem.W.keepIn X.K (.ref f) = true) (hb : KBn X.K fd ps 0 ks g gV) (hx : Passes CX X E) (hkw : PK X kws tk)
    (hall : (backToKw pos (keywordEach kws X.env)).all (·.1.isSome) = true := by rfl) (hks : (backToKw pos (keywordEach kws X.env)).filterMap (·.1) = ks := by rfl) (hdb : (x == ("__debug__" : Str)) = false := by decide)
    (hpl : ((backTo pos (starEach [] X.env)).any (·.1) || (backToKw pos (keywordEach kws X.env)).any (·.1.isNone)) = false := by rfl) : PE X (.Call (.Name x p) [] kws pos) (tCallK0 ks.length sp gV E tk) := by
  refine ⟨fun pins s σ H Q I h => wpAny_Call_Name_kw (ld_glob I hg hm ?_ hdb)⟩
  refine PySem.W.callWith_KW0 (h₀ := X.base) (first := []) I.ok.mod.kin hk hall ?_ hpl
  refine thn (hkw.run pos pins s σ H _ I h) fun ws s2 ⟨zs, H2, I2, rz, l2, q2⟩ => ⟨I2.kIn, ?_⟩
  rw [hks]
  exact run_fnN (us := []) (vs := []) F hr hb hx I2 .nil rz rfl l2 q2
end
end Cs

/-! Ck: l.extend(list); tuple + tuple of any length with K fixed. -/
namespace Cs
open PySem PySem.Spec PyProof.Rows L2
theorem op_catAK {X : Cx} {K : PySem.W.Frag} (h : X.K = K) : OpR X (binaryOp .Add) (rCatA K) := by subst h; exact op_catA
section
variable {X : Cx}
/-- l.extend(e), e a list -/
def tExtend (to : TE) (t : TA) : TE := fun σ H Q => to σ H fun x H1 => ∃ p, x = .ref p ∧ ∃ xs, H1 p = some (.lst xs) ∧ t σ H1 fun vs H2 => ∃ b, vs = [.ref b] ∧ ∃ ys zs, H2 p = some (.lst ys) ∧ H2 b = some (.lst zs) ∧ ys.length + zs.length ≤ sizeLine ∧ Q .non (upd H2 p (.lst (ys ++ zs)))
theorem pe_extendL {o e : Expr} {to : TE} {t : TA} {apos cpos : Pos} (ho : PE X o to) (ha : PA X [e] t)
    (hbase : attributeBase o "extend" X.env (eval o X.env) = eval o X.env := by rfl)
    (hfew : ((backTo cpos (starEach [e] X.env)).all (fun x => !x.1) && (backToKw cpos (keywordEach [] X.env)).all (fun x => x.1.isSome)
      && decide (([e] : List Expr).length + ([] : List Keyword).length + (if ([] : List Keyword).isEmpty then 0 else 1) < 30)) = true := by rfl)
    (hline : (apos.endLine == cpos.line) = true := by rfl) (hs : starEach [e] X.env = (false, eval e X.env) :: starEach [] X.env := by rfl) :
    PE X (.Call (.Attribute o "extend" apos) [e] [] cpos) (tExtend to t) := by
  refine ⟨fun pins s σ H Q I h => ?_⟩
  refine wpAny_Call_method_late hbase hfew hline rfl (thn (ho.run pins s σ H _ I h) fun v s1 ⟨x, H1, I1, r1, p, ex, xs, hp, q1⟩ => ?_)
  subst ex
  have ty : tyV X.K "list" (.ref p) H1 := .inl ⟨rfl, xs, .inl (.inl hp)⟩
  obtain ⟨h1, h2⟩ := tyV_is I1 r1 ty
  refine ⟨"list", _, PySem.F.plainAttrs_list, PySem.F.slot_list_extend, PySem.F.type_list_extend, h1, h2, ?_⟩
  have hA := ha.run cpos pins s1 σ H1 _ I1 q1
  rw [hs] at hA ⊢
  refine Calls.callWith_builtin (by rfl) (Calls.evalArgs_plain ?_)
  refine thn hA fun us s2 ⟨vs, H2, I2, r2, b, e2, ys, zs, hp2, hb, hz, q2⟩ => ?_
  exact mt_extend pins s2 σ H2 (.ref p) vs v us Q I2 r1 r2 ⟨p, b, ys, zs, rfl, e2, hp2, hb, hz, q2⟩
end
end Cs

namespace Lw
open PySem PySem.Spec PyProof.Rows L2 Cs
def top (i : Nat) : Stmt := PySem.Challenge.pw_calledseats_k02_orders_and_halves.main.body.getD i (.Pass ⟨0, 0, 0, 0⟩)
abbrev d_is_integer : Stmt := top 7
abbrev N_is_integer : List Str := ["number"]
theorem sc_is_integer : FnScope N_is_integer ["number"] (defScope d_is_integer) := ⟨rfl, rfl, rfl, by decide +kernel, rfl, by decide +kernel, by decide +kernel⟩
abbrev d_is_seat : Stmt := top 8
abbrev N_is_seat : List Str := ["sizes", "seat", "place", "size"]
theorem sc_is_seat : FnScope N_is_seat ["sizes", "seat"] (defScope d_is_seat) := ⟨rfl, rfl, rfl, by decide +kernel, rfl, by decide +kernel, by decide +kernel⟩
abbrev d_require_seat : Stmt := top 9
abbrev N_require_seat : List Str := ["sizes", "seat"]
theorem sc_require_seat : FnScope N_require_seat ["sizes", "seat"] (defScope d_require_seat) := ⟨rfl, rfl, rfl, by decide +kernel, rfl, by decide +kernel, by decide +kernel⟩
abbrev d_Table_init : Stmt := inClass (top 12) 0
abbrev N_Table_init : List Str := ["self", "rings"]
theorem sc_Table_init : FnScope N_Table_init ["self", "rings"] (defScope d_Table_init) := ⟨rfl, rfl, rfl, by decide +kernel, rfl, by decide +kernel, by decide +kernel⟩
abbrev d_Table_order : Stmt := inClass (top 12) 5
abbrev N_Table_order : List Str := ["self", "seat", "copies", "place", "size"]
theorem sc_Table_order : FnScope N_Table_order ["self", "seat"] (defScope d_Table_order) := ⟨rfl, rfl, rfl, by decide +kernel, rfl, by decide +kernel, by decide +kernel⟩
abbrev d_Table_halves : Stmt := inClass (top 12) 6
abbrev N_Table_halves : List Str := ["self", "seat", "place", "size"]
theorem sc_Table_halves : FnScope N_Table_halves ["self", "seat"] (defScope d_Table_halves) := ⟨rfl, rfl, rfl, by decide +kernel, rfl, by decide +kernel, by decide +kernel⟩
abbrev d_all_choices : Stmt := top 13
abbrev N_all_choices : List Str := ["options", "found", "parts", "chosen", "part"]
theorem sc_all_choices : FnScope N_all_choices ["options"] (defScope d_all_choices) := ⟨rfl, rfl, rfl, by decide +kernel, rfl, by decide +kernel, by decide +kernel⟩
abbrev d_are_sizes : Stmt := top 14
abbrev N_are_sizes : List Str := ["rings", "size"]
theorem sc_are_sizes : FnScope N_are_sizes ["rings"] (defScope d_are_sizes) := ⟨rfl, rfl, rfl, by decide +kernel, rfl, by decide +kernel, by decide +kernel⟩
abbrev d_half_places : Stmt := top 15
abbrev N_half_places : List Str := ["place", "size", "double"]
theorem sc_half_places : FnScope N_half_places ["place", "size"] (defScope d_half_places) := ⟨rfl, rfl, rfl, by decide +kernel, rfl, by decide +kernel, by decide +kernel⟩
abbrev d_law_mixed : Stmt := top 17
abbrev N_law_mixed : List Str := ["_law_cell", "_law_draw", "_law_number"]
theorem sc_law_mixed : FnScope N_law_mixed ["_law_cell", "_law_draw"] (defScope d_law_mixed) := ⟨rfl, rfl, rfl, by decide +kernel, rfl, by decide +kernel, by decide +kernel⟩
abbrev d_law_source : Stmt := top 18
abbrev N_law_source : List Str := ["_law_cell"]
theorem sc_law_source : FnScope N_law_source ["_law_cell"] (defScope d_law_source) := ⟨rfl, rfl, rfl, by decide +kernel, rfl, by decide +kernel, by decide +kernel⟩
abbrev d_law_take : Stmt := top 19
abbrev N_law_take : List Str := ["_law_source_here", "_law_count", "_law_drawn"]
theorem sc_law_take : FnScope N_law_take ["_law_source_here", "_law_count"] (defScope d_law_take) := ⟨rfl, rfl, rfl, by decide +kernel, rfl, by decide +kernel, by decide +kernel⟩
abbrev d_law_big : Stmt := top 20
abbrev N_law_big : List Str := ["_law_source_here", "_law_found", "_law_k"]
theorem sc_law_big : FnScope N_law_big ["_law_source_here"] (defScope d_law_big) := ⟨rfl, rfl, rfl, by decide +kernel, rfl, by decide +kernel, by decide +kernel⟩
abbrev d_law_rings : Stmt := top 21
abbrev N_law_rings : List Str := ["_law_source_here", "_law_small", "_law_drawn", "_law_k", "_law_pick"]
theorem sc_law_rings : FnScope N_law_rings ["_law_source_here"] (defScope d_law_rings) := ⟨rfl, rfl, rfl, by decide +kernel, rfl, by decide +kernel, by decide +kernel⟩
abbrev d_law_seat : Stmt := top 22
abbrev N_law_seat : List Str := ["_law_source_here", "_law_sizes", "_law_size"]
theorem sc_law_seat : FnScope N_law_seat ["_law_source_here", "_law_sizes"] (defScope d_law_seat) := ⟨rfl, rfl, rfl, by decide +kernel, rfl, by decide +kernel, by decide +kernel⟩
abbrev d_law_gcd : Stmt := top 24
abbrev N_law_gcd : List Str := ["_law_first", "_law_second"]
theorem sc_law_gcd : FnScope N_law_gcd ["_law_first", "_law_second"] (defScope d_law_gcd) := ⟨rfl, rfl, rfl, by decide +kernel, rfl, by decide +kernel, by decide +kernel⟩
abbrev d_law_all : Stmt := top 25
abbrev N_law_all : List Str := ["_law_sizes", "_law_found", "_law_size", "_law_longer", "_law_start", "_law_place"]
theorem sc_law_all : FnScope N_law_all ["_law_sizes"] (defScope d_law_all) := ⟨rfl, rfl, rfl, by decide +kernel, rfl, by decide +kernel, by decide +kernel⟩
abbrev d_law_sum : Stmt := top 26
abbrev N_law_sum : List Str := ["_law_first", "_law_second", "_law_sizes", "_law_a", "_law_b", "_law_size"]
theorem sc_law_sum : FnScope N_law_sum ["_law_first", "_law_second", "_law_sizes"] (defScope d_law_sum) := ⟨rfl, rfl, rfl, by decide +kernel, rfl, by decide +kernel, by decide +kernel⟩
abbrev d_law_period : Stmt := top 27
abbrev N_law_period : List Str := ["_law_origin", "_law_sizes", "_law_least", "_law_place", "_law_size", "_law_period_here"]
theorem sc_law_period : FnScope N_law_period ["_law_origin", "_law_sizes"] (defScope d_law_period) := ⟨rfl, rfl, rfl, by decide +kernel, rfl, by decide +kernel, by decide +kernel⟩
abbrev d_law_halves : Stmt := top 28
abbrev N_law_halves : List Str := ["_law_origin", "_law_sizes", "_law_found", "_law_place", "_law_size", "_law_some", "_law_longer", "_law_start", "_law_half"]
theorem sc_law_halves : FnScope N_law_halves ["_law_origin", "_law_sizes"] (defScope d_law_halves) := ⟨rfl, rfl, rfl, by decide +kernel, rfl, by decide +kernel, by decide +kernel⟩
abbrev d_law_check_small : Stmt := top 29
abbrev N_law_check_small : List Str := ["_law_source_here", "_law_sizes", "_law_board", "_law_every", "_law_zero", "_law_origin", "_law_total", "_law_copies", "_law_half"]
theorem sc_law_check_small : FnScope N_law_check_small ["_law_source_here"] (defScope d_law_check_small) := ⟨rfl, rfl, rfl, by decide +kernel, rfl, by decide +kernel, by decide +kernel⟩
abbrev d_law_check : Stmt := top 30
abbrev N_law_check : List Str := ["_law_source_here", "_law_sizes", "_law_board", "_law_turn", "_law_origin", "_law_middle", "_law_twice", "_law_found", "_law_place"]
theorem sc_law_check : FnScope N_law_check ["_law_source_here"] (defScope d_law_check) := ⟨rfl, rfl, rfl, by decide +kernel, rfl, by decide +kernel, by decide +kernel⟩
abbrev d_law : Stmt := top 31
abbrev N_law : List Str := ["_law_script", "_law_cell", "_law_source_here"]
theorem sc_law : FnScope N_law ["_law_script"] (defScope d_law) := ⟨rfl, rfl, rfl, by decide +kernel, rfl, by decide +kernel, by decide +kernel⟩
structure Tx (K : PySem.W.Frag) (mg : Str → Option Value) : Type where
  f_is_integer : Addr
  fd_is_integer : FuncData
  F_is_integer : Fun K "is_integer" "is_integer" d_is_integer f_is_integer fd_is_integer
  b_is_integer : Binds K fd_is_integer ["number"] []
  g_is_integer : mg "is_integer" = some (.ref f_is_integer)
  f_is_seat : Addr
  fd_is_seat : FuncData
  F_is_seat : Fun K "is_seat" "is_seat" d_is_seat f_is_seat fd_is_seat
  b_is_seat : Binds K fd_is_seat ["sizes", "seat"] []
  g_is_seat : mg "is_seat" = some (.ref f_is_seat)
  f_require_seat : Addr
  fd_require_seat : FuncData
  F_require_seat : Fun K "require_seat" "require_seat" d_require_seat f_require_seat fd_require_seat
  b_require_seat : Binds K fd_require_seat ["sizes", "seat"] []
  g_require_seat : mg "require_seat" = some (.ref f_require_seat)
  f_Table_init : Addr
  fd_Table_init : FuncData
  F_Table_init : Fun K "__init__" "Table.__init__" d_Table_init f_Table_init fd_Table_init
  b_Table_init : Binds K fd_Table_init ["self", "rings"] []
  f_Table_order : Addr
  fd_Table_order : FuncData
  F_Table_order : Fun K "order" "Table.order" d_Table_order f_Table_order fd_Table_order
  b_Table_order : Binds K fd_Table_order ["self", "seat"] []
  f_Table_halves : Addr
  fd_Table_halves : FuncData
  F_Table_halves : Fun K "halves" "Table.halves" d_Table_halves f_Table_halves fd_Table_halves
  b_Table_halves : Binds K fd_Table_halves ["self", "seat"] []
  f_all_choices : Addr
  fd_all_choices : FuncData
  F_all_choices : Fun K "all_choices" "all_choices" d_all_choices f_all_choices fd_all_choices
  b_all_choices : Binds K fd_all_choices ["options"] []
  g_all_choices : mg "all_choices" = some (.ref f_all_choices)
  f_are_sizes : Addr
  fd_are_sizes : FuncData
  F_are_sizes : Fun K "_are_sizes" "_are_sizes" d_are_sizes f_are_sizes fd_are_sizes
  b_are_sizes : Binds K fd_are_sizes ["rings"] []
  g_are_sizes : mg "_are_sizes" = some (.ref f_are_sizes)
  f_half_places : Addr
  fd_half_places : FuncData
  F_half_places : Fun K "_half_places" "_half_places" d_half_places f_half_places fd_half_places
  b_half_places : Binds K fd_half_places ["place", "size"] []
  g_half_places : mg "_half_places" = some (.ref f_half_places)
  f_law_mixed : Addr
  fd_law_mixed : FuncData
  F_law_mixed : Fun K "_law_mixed" "_law_mixed" d_law_mixed f_law_mixed fd_law_mixed
  b_law_mixed : Binds K fd_law_mixed ["_law_cell", "_law_draw"] []
  g_law_mixed : mg "_law_mixed" = some (.ref f_law_mixed)
  f_law_source : Addr
  fd_law_source : FuncData
  F_law_source : Fun K "_law_source" "_law_source" d_law_source f_law_source fd_law_source
  b_law_source : Binds K fd_law_source ["_law_cell"] []
  g_law_source : mg "_law_source" = some (.ref f_law_source)
  f_law_take : Addr
  fd_law_take : FuncData
  F_law_take : Fun K "_law_take" "_law_take" d_law_take f_law_take fd_law_take
  b_law_take : Binds K fd_law_take ["_law_source_here", "_law_count"] []
  g_law_take : mg "_law_take" = some (.ref f_law_take)
  f_law_big : Addr
  fd_law_big : FuncData
  F_law_big : Fun K "_law_big" "_law_big" d_law_big f_law_big fd_law_big
  b_law_big : Binds K fd_law_big ["_law_source_here"] []
  g_law_big : mg "_law_big" = some (.ref f_law_big)
  f_law_rings : Addr
  fd_law_rings : FuncData
  F_law_rings : Fun K "_law_rings" "_law_rings" d_law_rings f_law_rings fd_law_rings
  b_law_rings : Binds K fd_law_rings ["_law_source_here"] []
  g_law_rings : mg "_law_rings" = some (.ref f_law_rings)
  f_law_seat : Addr
  fd_law_seat : FuncData
  F_law_seat : Fun K "_law_seat" "_law_seat" d_law_seat f_law_seat fd_law_seat
  b_law_seat : Binds K fd_law_seat ["_law_source_here", "_law_sizes"] []
  g_law_seat : mg "_law_seat" = some (.ref f_law_seat)
  f_law_gcd : Addr
  fd_law_gcd : FuncData
  F_law_gcd : Fun K "_law_gcd" "_law_gcd" d_law_gcd f_law_gcd fd_law_gcd
  b_law_gcd : Binds K fd_law_gcd ["_law_first", "_law_second"] []
  g_law_gcd : mg "_law_gcd" = some (.ref f_law_gcd)
  f_law_all : Addr
  fd_law_all : FuncData
  F_law_all : Fun K "_law_all" "_law_all" d_law_all f_law_all fd_law_all
  b_law_all : Binds K fd_law_all ["_law_sizes"] []
  g_law_all : mg "_law_all" = some (.ref f_law_all)
  f_law_sum : Addr
  fd_law_sum : FuncData
  F_law_sum : Fun K "_law_sum" "_law_sum" d_law_sum f_law_sum fd_law_sum
  b_law_sum : Binds K fd_law_sum ["_law_first", "_law_second", "_law_sizes"] []
  g_law_sum : mg "_law_sum" = some (.ref f_law_sum)
  f_law_period : Addr
  fd_law_period : FuncData
  F_law_period : Fun K "_law_period" "_law_period" d_law_period f_law_period fd_law_period
  b_law_period : Binds K fd_law_period ["_law_origin", "_law_sizes"] []
  g_law_period : mg "_law_period" = some (.ref f_law_period)
  f_law_halves : Addr
  fd_law_halves : FuncData
  F_law_halves : Fun K "_law_halves" "_law_halves" d_law_halves f_law_halves fd_law_halves
  b_law_halves : Binds K fd_law_halves ["_law_origin", "_law_sizes"] []
  g_law_halves : mg "_law_halves" = some (.ref f_law_halves)
  f_law_check_small : Addr
  fd_law_check_small : FuncData
  F_law_check_small : Fun K "_law_check_small" "_law_check_small" d_law_check_small f_law_check_small fd_law_check_small
  b_law_check_small : Binds K fd_law_check_small ["_law_source_here"] []
  g_law_check_small : mg "_law_check_small" = some (.ref f_law_check_small)
  f_law_check : Addr
  fd_law_check : FuncData
  F_law_check : Fun K "_law_check" "_law_check" d_law_check f_law_check fd_law_check
  b_law_check : Binds K fd_law_check ["_law_source_here"] []
  g_law_check : mg "_law_check" = some (.ref f_law_check)
  f_law : Addr
  fd_law : FuncData
  F_law : Fun K "law" "law" d_law f_law fd_law
  b_law : Binds K fd_law ["_law_script"] []
  g_law : mg "law" = some (.ref f_law)
  c_Table : Addr
  g_Table : mg "Table" = some (.ref c_Table)
  cl_Table : Cls K c_Table
  M_Table : Mk K c_Table f_Table_init
  m_Table_order : Meth K c_Table "order" f_Table_order
  m_Table_halves : Meth K c_Table "halves" f_Table_halves
  no_Table_sizes : NoAttr K c_Table "_sizes"
  kb_Table_halves_seat : KBn K fd_Table_halves ["self", "seat"] 1 ["seat"] (fun us ws => [us.getD 0 Value.none, ws.getD 0 Value.none]) (fun us ws => [us.getD 0 V.non, ws.getD 0 V.non])
  kb_Table_order_seat : KBn K fd_Table_order ["self", "seat"] 1 ["seat"] (fun us ws => [us.getD 0 Value.none, ws.getD 0 Value.none]) (fun us ws => [us.getD 0 V.non, ws.getD 0 V.non])
  b_gcd : mg "gcd" = some (.builtin "math.gcd")
  b_lcm : mg "lcm" = some (.builtin "math.lcm")
  v_MAX_RINGS : Value
  g_MAX_RINGS : mg "MAX_RINGS" = some v_MAX_RINGS
  r_MAX_RINGS : RelV (.int 4) v_MAX_RINGS
  n_all : mg "all" = none
  n_bool : mg "bool" = none
  n_int : mg "int" = none
  n_isinstance : mg "isinstance" = none
  n_len : mg "len" = none
  n_list : mg "list" = none
  n_min : mg "min" = none
  n_range : mg "range" = none
  n_set : mg "set" = none
  n_sorted : mg "sorted" = none
  n_tuple : mg "tuple" = none
  n_zip : mg "zip" = none
-- RD3
local macro_rules | `(tactic| walk_at "rd") => `(tactic| simp only [cxOf, Cx.nox, Cx.wish, L2.start, tVar, tC, t2I, tIsN, tNotN, tB, tAnd, tOr, tNot, tAndV, tOrV, tNotV, L2.tIf, tNext, tSeq, tBreak, tCont, tDrop, tRet, tRetN, tIfS, tNever, gName, gNil, gCons, gTup, gSub, tAsg, tPar, tPar3, tAug, ipI, tOp, tUn, rI, rI0, rU, rEq, rNe, tTest, tChain, tFld, tCon, sFld, tNil, tCons, tTup, tLst, tCall, tMeth, tMake, tMakeK, tMethK, tCallK, tCallN, tCB, tNoPart, tPart, tSl, rIxL, rIxT, rSetL, rSlL, rAppend, rAll, rIsI, rIsA, tAppend, tLc_eq, tLc2_eq, tFor_eq, tStarH, tRevL, tRevT, tBits, tCallK0, tExtend, rGcd, rLcm, iSeqH, iSeqS, iZ2H, iZ3H, iEnH, iRevR, tRg1, tRg2, iRng1H, gTupH, tYes, wipe, scal_int, scal_str, scal_bl, List.map_cons, List.map_nil, List.replicate, List.length_cons, List.length_nil, List.cons_append, List.nil_append, List.append_nil, List.getElem?_cons_zero, List.getElem?_cons_succ, List.set_cons_zero, List.set_cons_succ, Option.some.injEq, V.int.injEq, V.bl.injEq, V.ref.injEq, V.str.injEq, V.ty.injEq, HO.lst.injEq, HO.tup.injEq, HO.ins.injEq, List.cons.injEq, and_true, true_and, and_assoc, exists_and_left, exists_and_right, exists_eq_left, exists_eq_left', exists_eq_right, exists_const, exists_eq, exists_eq', exists_false, exists_prop, false_and, and_false, false_or, or_false, true_or, or_true, List.length_map, Int.natCast_inj, Bool.not_eq_true', decide_eq_false_iff_not, decide_eq_true_eq, List.getElem?_map, Option.map_some, Option.map_none, Option.map_eq_some_iff, upd_same, sz_le, atI_0, atI_1, atI_2, ixN_30, ixN_31, ixN_32, cpow_10, cdivW_small, Int.reduceToNat, Int.reducePow, Int.reduceAdd, Int.reduceSub, Int.reduceMul, Int.reduceNeg, Int.reduceLT, Int.reduceLE, ge_iff_le, gt_iff_lt, Nat.reduceLeDiff, putF_one, lookup_one, Bool.not_true, Bool.not_false, if_true, if_false, Bool.false_eq_true, ite_true, ite_false, Nat.reduceAdd, Nat.reduceSub, Nat.add_zero, Nat.zero_add, Nat.sub_self, reduceCtorEq, decide_true, decide_false, Bool.or_false, Bool.or_true, Bool.and_true, Bool.and_false])
local macro_rules | `(tactic| walk_at "rh") => `(tactic| simp only [cxOf, Cx.nox, Cx.wish, L2.start, tVar, tC, t2I, tIsN, tNotN, tB, tAnd, tOr, tNot, tAndV, tOrV, tNotV, L2.tIf, tNext, tSeq, tBreak, tCont, tDrop, tRet, tRetN, tIfS, tNever, gName, gNil, gCons, gTup, gSub, tAsg, tPar, tPar3, tAug, ipI, tOp, tUn, rI, rI0, rU, rEq, rNe, tTest, tChain, tFld, tCon, sFld, tNil, tCons, tTup, tLst, tCall, tMeth, tMake, tMakeK, tMethK, tCallK, tCallN, tCB, tNoPart, tPart, tSl, rIxL, rIxT, rSetL, rSlL, rAppend, rAll, rIsI, rIsA, tAppend, tLc_eq, tLc2_eq, tFor_eq, tStarH, tRevL, tRevT, tBits, tCallK0, tExtend, rGcd, rLcm, iSeqH, iSeqS, iZ2H, iZ3H, iEnH, iRevR, tRg1, tRg2, iRng1H, gTupH, tYes, wipe, scal_int, scal_str, scal_bl, List.map_cons, List.map_nil, List.replicate, List.length_cons, List.length_nil, List.cons_append, List.nil_append, List.append_nil, List.getElem?_cons_zero, List.getElem?_cons_succ, List.set_cons_zero, List.set_cons_succ, Option.some.injEq, V.int.injEq, V.bl.injEq, V.ref.injEq, V.str.injEq, V.ty.injEq, HO.lst.injEq, HO.tup.injEq, HO.ins.injEq, List.cons.injEq, and_true, true_and, and_assoc, exists_and_left, exists_and_right, exists_eq_left, exists_eq_left', exists_eq_right, exists_const, exists_eq, exists_eq', exists_false, exists_prop, false_and, and_false, false_or, or_false, true_or, or_true, List.length_map, Int.natCast_inj, Bool.not_eq_true', decide_eq_false_iff_not, decide_eq_true_eq, List.getElem?_map, Option.map_some, Option.map_none, Option.map_eq_some_iff, upd_same, sz_le, atI_0, atI_1, atI_2, ixN_30, ixN_31, ixN_32, cpow_10, cdivW_small, Int.reduceToNat, Int.reducePow, Int.reduceAdd, Int.reduceSub, Int.reduceMul, Int.reduceNeg, Int.reduceLT, Int.reduceLE, ge_iff_le, gt_iff_lt, Nat.reduceLeDiff, putF_one, lookup_one, Bool.not_true, Bool.not_false, if_true, if_false, Bool.false_eq_true, ite_true, ite_false, Nat.reduceAdd, Nat.reduceSub, Nat.add_zero, Nat.zero_add, Nat.sub_self, reduceCtorEq, decide_true, decide_false, Bool.or_false, Bool.or_true, Bool.and_true, Bool.and_false, *])

/-! ### what the program's checks answer -/
theorem TyOf.same {K : PySem.W.Frag} {H H' : Hp} {x : V} {t : Value} (e : Same H H') (h : TyOf K H x t) : TyOf K H' x t := by
  cases h with
  | non => exact .non
  | bl b => exact .bl b
  | int i => exact .int i
  | str y => exact .str y
  | flt y => exact .flt y
  | lst ea => exact .lst (e _ _ ea)
  | frz ea => exact .frz (e _ _ ea)
  | tup ea => exact .tup (e _ _ ea)
  | dK ea => exact .dK (e _ _ ea)
  | dT ea => exact .dT (e _ _ ea)
  | ins ea cl ha hn htk hm => exact .ins (e _ _ ea) cl ha hn htk hm
theorem TyX.same {K : PySem.W.Frag} {H H' : Hp} {x : V} {t : Value} (e : Same H H') (h : TyX K H x t) : TyX K H' x t := by
  cases h with
  | base b => exact .base (TyOf.same e b)
  | byt b => exact .byt b
  | set ea => exact .set (e _ _ ea)
  | kList a b => exact .kList a b
  | kTuple a b => exact .kTuple a b
  | kDict a b => exact .kDict a b
  | fTuple ea => exact .fTuple (e _ _ ea)
  | fDict ea => exact .fDict (e _ _ ea)
theorem IsI.same {K : PySem.W.Frag} {H H' : Hp} {x c : V} {b : Bool} (e : Same H H') (h : IsI K H x c b) : IsI K H' x c b := by
  obtain ⟨t, u, h1, h2, h3⟩ := h
  exact ⟨t, u, h1, TyX.same e h2, h3⟩
theorem IsA.same {K : PySem.W.Frag} {H H' : Hp} {x : V} {cs : List V} {b : Bool} (e : Same H H') (h : IsA K H x cs b) : IsA K H' x cs b := by
  obtain ⟨t, us, h1, h2, h3⟩ := h
  exact ⟨t, us, h1, TyX.same e h2, h3⟩
/-- is_integer(x) is b -/
def IsInt (K : PySem.W.Frag) (H : Hp) (x : V) (b : Bool) : Prop := ∃ b1 b2, IsI K H x (.ty "int") b1 ∧ (b1 = true → IsI K H x (.ty "bool") b2) ∧ b = (b1 && !b2)
theorem IsInt.same {K : PySem.W.Frag} {H H' : Hp} {x : V} {b : Bool} (e : Same H H') (h : IsInt K H x b) : IsInt K H' x b := by
  obtain ⟨b1, b2, h1, h2, h3⟩ := h
  exact ⟨b1, b2, IsI.same e h1, fun z => IsI.same e (h2 z), h3⟩
theorem isInt_int {K : PySem.W.Frag} {H : Hp} (n : Int) : IsInt K H (.int n) true := ⟨true, false, isI_ty (.base (.int n)) (by decide +kernel), fun _ => isI_ty (.base (.int n)) (by decide +kernel), rfl⟩
/-- is_integer(x) and 0 <= x < s is c -/
def PlaceB (K : PySem.W.Frag) (H : Hp) (x : V) (s : Int) (c : Bool) : Prop := (IsInt K H x false ∧ c = false) ∨ ∃ n, x = .int n ∧ c = (decide (0 ≤ n) && decide (n < s))
theorem PlaceB.same {K : PySem.W.Frag} {H H' : Hp} {x : V} {s : Int} {c : Bool} (e : Same H H') (h : PlaceB K H x s c) : PlaceB K H' x s c := by
  rcases h with ⟨h, q⟩ | h
  · exact .inl ⟨IsInt.same e h, q⟩
  · exact .inr h
/-- is_seat(sizes, x) is b -/
def SeatB (K : PySem.W.Frag) (H : Hp) (ss : List Int) (x : V) (b : Bool) : Prop := (IsI K H x (.ty "tuple") false ∧ b = false) ∨ ∃ p xs, x = .ref p ∧ H p = some (.tup xs) ∧ ((xs.length ≠ ss.length ∧ b = false) ∨
  (xs.length = ss.length ∧ xs.length ≤ sizeLine ∧ ∃ bs : List Bool, bs.length = xs.length ∧ b = bs.all id ∧ ∀ (i : Nat) x s c, xs[i]? = some x → ss[i]? = some s → bs[i]? = some c → PlaceB K H x s c))
/-- is_call(sizes, x) is b -/
def CallB (K : PySem.W.Frag) (H : Hp) (n : Nat) (x : V) (b : Bool) : Prop := (IsI K H x (.ty "tuple") false ∧ b = false) ∨ ∃ p xs, x = .ref p ∧ H p = some (.tup xs) ∧ ((xs.length ≠ n ∧ b = false) ∨
  (xs.length = n ∧ xs.length ≤ sizeLine ∧ ∃ bs : List Bool, bs.length = xs.length ∧ b = bs.all id ∧ ∀ (i : Nat) x c, xs[i]? = some x → bs[i]? = some c → IsInt K H x c))
/-- is_direction(x) is b -/
def DirB (K : PySem.W.Frag) (H : Hp) (x : V) (b : Bool) : Prop := (IsI K H x (.ty "str") false ∧ b = false) ∨ ∃ z : Str, x = .str z ∧ b = (z == "forward" || z == "backward")
/-- _are_sizes(x) is b -/
def SizesB (K : PySem.W.Frag) (H : Hp) (x : V) (b : Bool) : Prop := (IsA K H x [.ty "list", .ty "tuple"] false ∧ b = false) ∨ ∃ k p xs, x = .ref p ∧ Sqh k H p xs ∧ ((¬ (1 ≤ xs.length ∧ xs.length ≤ 4) ∧ b = false) ∨
  (1 ≤ xs.length ∧ xs.length ≤ 4 ∧ ∃ bs : List Bool, bs.length = xs.length ∧ b = bs.all id ∧ ∀ (i : Nat) x c, xs[i]? = some x → bs[i]? = some c → (IsInt K H x false ∧ c = false) ∨ ∃ n, x = .int n ∧ c = decide (1 ≤ n)))
/-- a table at a, of the sizes ss -/
def TabAt (C : Addr) (H : Hp) (a : Addr) (ss : List Int) : Prop := ∃ dx t, H a = some (.ins C dx [("_sizes", .ref t)]) ∧ H t = some (.tup (ss.map V.int))
theorem TabAt.same {C : Addr} {H H' : Hp} {a : Addr} {ss : List Int} (e : Same H H') (h : TabAt C H a ss) : TabAt C H' a ss := by
  obtain ⟨dx, t, h1, h2⟩ := h
  exact ⟨dx, t, e _ _ h1, e _ _ h2⟩
section
variable {P : Program} {w : World} {K : PySem.W.Frag} {mg : Str → Option Value} {base : Heap}
def sp_is_integer (K : PySem.W.Frag) : Sp := fun vs H Q _ => ∃ x b, vs = [x] ∧ IsInt K H x b ∧ Q (.bl b) H
theorem ok_is_integer (T : Tx K mg) : FnOk P w K mg base CX0 1 T.f_is_integer T.fd_is_integer ["number"] (sp_is_integer K) := by
  refine T.F_is_integer.ok sc_is_integer (fun vs H Q E h => ?_) (fun cdv A outer s H vs Q E hr h => ?_)
  · obtain ⟨x, b, rfl, _⟩ := h; rfl
  · obtain ⟨x, b, rfl, ⟨b1, b2, h1, h2, rfl⟩, q⟩ := h
    refine ⟨_, (pss_one (ps_ret (pe_and (pe_callB (call_isIK (K := K) rfl) (by rfl) T.n_isinstance (by decide +kernel) (pa_cons (pv 0) (pa_cons (pe_bltn (v := .ty "int") (by rfl) T.n_int (by decide +kernel) rfl) pa_nil))) (pe_one (pe_not (pe_callB (call_isIK (K := K) rfl) (by rfl) T.n_isinstance (by decide +kernel) (pa_cons (pv 0) (pa_cons (pe_bltn (v := .ty "bool") (by rfl) T.n_bool (by decide +kernel) rfl) pa_nil)))))))), ?_⟩
    walk_at "rd"
    refine ⟨b1, h1, ?_⟩
    cases b1 with
    | false => walk_at "rd"; exact q
    | true =>
      walk_at "rd"
      exact ⟨b2, h2 rfl, q⟩
def sp_is_seat (K : PySem.W.Frag) : Sp := fun vs H Q _ => ∃ k a ss x b, vs = [.ref a, x] ∧ Sqh k H a (ss.map V.int) ∧ SeatB K H ss x b ∧ ∀ H', Same H H' → Q (.bl b) H'
theorem ok_is_seat (T : Tx K mg) : FnOk P w K mg base CX0 1 T.f_is_seat T.fd_is_seat ["sizes", "seat"] (sp_is_seat K) := by
  refine T.F_is_seat.ok sc_is_seat (fun vs H Q E h => ?_) (fun cdv A outer s H vs Q E hr h => ?_)
  · obtain ⟨k, a, ss, x, b, rfl, _⟩ := h; rfl
  · obtain ⟨k, a, ss, x, b, rfl, hs, hb, q⟩ := h
    refine ⟨_, (pss_cons (ps_if (PW.pt (pw_or (pt_not (pt_val (pe_callB (call_isIK (K := K) rfl) (by rfl) T.n_isinstance (by decide +kernel) (pa_cons (pv 1) (pa_cons (pe_bltn (v := .ty "tuple") (by rfl) T.n_tuple (by decide +kernel) rfl) pa_nil))))) (pw_or1 (pt_cmpR op_ne (pe_callB len_H (by rfl) T.n_len PySem.boot_len (pa_cons (pv 1) pa_nil)) (pe_callB len_H (by rfl) T.n_len PySem.boot_len (pa_cons (pv 0) pa_nil)) (nomark _))))) (pss_one (ps_ret pe_bl)) pss_nil)
      (pss_cons (ps_for PassesOwn.never rfl (pi_z2H (by rfl) T.n_zip (pa_cons (pv 1) (pa_cons (pv 0) pa_nil))) (pg_tupH (n := 2) rfl (pgs_cons (pg_name (i := 2) sc_is_seat.nd rfl (Or.inl rfl)) (pgs_cons (pg_name (i := 3) sc_is_seat.nd rfl (Or.inl rfl)) pgs_nil)))
        (pss_one (ps_if (PW.pt (pw_or (pt_not (pt_val (pe_callB (call_isIK (K := K) rfl) (by rfl) T.n_isinstance (by decide +kernel) (pa_cons (pv 2) (pa_cons (pe_bltn (v := .ty "int") (by rfl) T.n_int (by decide +kernel) rfl) pa_nil))))) (pw_or (pt_val (pe_callB (call_isIK (K := K) rfl) (by rfl) T.n_isinstance (by decide +kernel) (pa_cons (pv 2) (pa_cons (pe_bltn (v := .ty "bool") (by rfl) T.n_bool (by decide +kernel) rfl) pa_nil)))) (pw_or1 (pt_not (pt_chain op_le op_lt pe_int (pv 2) (pv 3))))))) (pss_one (ps_ret pe_bl)) pss_nil)))
      (pss_one (ps_ret pe_bl)))), ?_⟩
    walk_at "rd"
    rcases hb with ⟨h1, rfl⟩ | ⟨p, xs, rfl, hp, hb⟩
    · refine ⟨false, h1, ?_⟩
      walk_at "rd"
      exact q _ (Same.refl _)
    · refine ⟨true, isI_tup hp, ?_⟩
      have main : ∀ (hl : xs.length = ss.length) (J : It) (bs : List Bool), xs.length ≤ sizeLine → bs.length = xs.length → b = bs.all id → (∀ (i : Nat) x s c, xs[i]? = some x → ss[i]? = some s → bs[i]? = some c → PlaceB K H x s c) → Walk J xs.length (fun H => Sqh false H p xs ∧ Sqh k H a (ss.map V.int)) (YPair (fun i => xs[i]?) (fun i => (ss.map V.int)[i]?)) →
          ForR J (gTupH 2 (gCons (gName 2) (gCons (gName 3) gNil)))
                    (tIfS
                      (tOr (tNot (tB (tCB (rIsI K) (tCons (tVar 2) (tCons (tC (V.ty "int")) tNil)))))
                        (tOr (tB (tCB (rIsI K) (tCons (tVar 2) (tCons (tC (V.ty "bool")) tNil))))
                          (tNot
                            (tTest
                              (tChain (rI0 fun i j => V.bl (decide (i ≤ j))) (rI0 fun i j => V.bl (decide (i < j)))
                                (tC (V.int 0)) (tVar 2) (tVar 3))))))
                      (tRet (tC (V.bl false))) tNext)
                    { nx := tRet (tC (V.bl true)) { nx := fun x H' => Q V.non H', rt := Q }, rt := Q }
                    [some (V.ref a), some (V.ref p), none, none] H := fun hl J bs hz hbl hb hbs W => by
        subst hb
        refine forr W (fun i σ H' => Same H H' ∧ (∃ v2 v3, σ = [some (V.ref a), some (V.ref p), v2, v3]) ∧ (bs.take i).all id = true) ⟨Same.refl _, ⟨none, none, rfl⟩, rfl⟩ (fun i σ H' _ h => ⟨h.1 _ _ hp, hs.same h.1⟩) ?_ ?_
        · rintro i x σ2 H2 H3 hi ⟨s2, ⟨v2, v3, rfl⟩, hall⟩ ⟨T0, x1, y1, rfl, hT, rfl, e1, e2⟩
          simp only [List.getElem?_map, Option.map_eq_some_iff] at e1 e2
          obtain ⟨s3, hs3, rfl⟩ := e2
          have hib : i < bs.length := by rw [hbl]; exact hi
          have hc := List.getElem?_eq_getElem hib
          have sT := Same.new hT (o := .tup [x1, .int s3])
          have hpl := PlaceB.same (s2.trans sT) (hbs i x1 s3 _ e1 hs3 hc)
          have hno : bs[i] = false → bs.all id = false := fun e => by
            rw [Bool.eq_false_iff]
            intro h
            have := List.all_eq_true.mp h _ (List.getElem_mem hib)
            simp [e] at this
          have hyes : bs[i] = true → (bs.take (i + 1)).all id = true := fun e => by
            rw [List.take_add_one, hc, List.all_append, hall]
            simp [e]
          walk_at "rd"
          generalize upd H2 T0 (HO.tup [x1, V.int s3]) = H3 at sT hpl ⊢
          rcases hpl with ⟨⟨b1, b2, h1, h2, h3⟩, h0⟩ | ⟨n, rfl, h0⟩
          · rw [hno h0] at q
            refine ⟨b1, h1, ?_⟩
            cases b1 with
            | false => walk_at "rd"; exact q _ (s2.trans sT)
            | true =>
              walk_at "rd"
              refine ⟨b2, h2 rfl, ?_⟩
              cases b2 with
              | true => walk_at "rd"; exact q _ (s2.trans sT)
              | false => cases h3
          · rw [isI_int_int]
            walk_at "rd"
            rw [isI_int_bool]
            walk_at "rd"
            by_cases h4 : 0 ≤ n
            · rw [if_pos h4]
              rw [decide_eq_true h4, Bool.true_and] at h0
              by_cases h5 : n < s3
              · rw [if_neg (by omega)]
                exact ⟨s2.trans sT, hyes (by rw [h0, decide_eq_true h5])⟩
              · rw [if_pos (by omega)]
                rw [hno (by rw [h0, decide_eq_false h5])] at q
                exact q _ (s2.trans sT)
            · rw [if_neg h4]
              rw [decide_eq_false h4, Bool.false_and] at h0
              rw [hno h0] at q
              exact q _ (s2.trans sT)
        · rintro σ2 H2 ⟨s2, ⟨v2, v3, rfl⟩, hall⟩
          walk_at "rd"
          rw [← hbl, List.take_length] at hall
          rw [hall] at q
          exact q _ s2
      cases k with
      | true =>
        have hs' : H a = some (.lst (ss.map V.int)) := hs
        walk_at "rh"
        rcases hb with ⟨hl, rfl⟩ | ⟨hl, hz, bs, hbl, e, hbs⟩
        · rw [if_pos hl]; exact q _ (Same.refl _)
        · rw [if_neg (fun h => h hl)]
          exact ⟨false, true, xs, hp, _, hs, by rw [List.length_map]; exact hl, fun J W => main hl J bs hz hbl e hbs W⟩
      | false =>
        have hs' : H a = some (.tup (ss.map V.int)) := hs
        walk_at "rh"
        rcases hb with ⟨hl, rfl⟩ | ⟨hl, hz, bs, hbl, e, hbs⟩
        · rw [if_pos hl]; exact q _ (Same.refl _)
        · rw [if_neg (fun h => h hl)]
          exact ⟨false, false, xs, hp, _, hs, by rw [List.length_map]; exact hl, fun J W => main hl J bs hz hbl e hbs W⟩
/-- is_place(size, x) -/
def sp_is_place (K : PySem.W.Frag) : Sp := fun vs H Q _ => ∃ s x c, vs = [.int s, x] ∧ PlaceB K H x s c ∧ Q (.bl c) H
def sp_is_call (K : PySem.W.Frag) : Sp := fun vs H Q _ => ∃ k a ss x b, vs = [.ref a, x] ∧ Sqh k H a ss ∧ CallB K H ss.length x b ∧ ∀ H', Same H H' → Q (.bl b) H'
def sp_is_direction (K : PySem.W.Frag) : Sp := fun vs H Q _ => ∃ x b, vs = [x] ∧ DirB K H x b ∧ ∀ H', Same H H' → Q (.bl b) H'
def sp_require_seat (K : PySem.W.Frag) : Sp := fun vs H Q _ => ∃ k a ss x, vs = [.ref a, x] ∧ Sqh k H a (ss.map V.int) ∧ SeatB K H ss x true ∧ ∀ H', Same H H' → Q .non H'
theorem ok_require_seat (T : Tx K mg) : FnOk P w K mg base CX0 2 T.f_require_seat T.fd_require_seat ["sizes", "seat"] (sp_require_seat K) := by
  refine T.F_require_seat.ok sc_require_seat (fun vs H Q E h => ?_) (fun cdv A outer s H vs Q E hr h => ?_)
  · obtain ⟨k, a, ss, x, rfl, _⟩ := h; rfl
  · obtain ⟨k, a, ss, x, rfl, hs, hb, q⟩ := h
    refine ⟨_, (pss_one (ps_if (pt_not (pt_val (pe_call (ok_is_seat T) (hr.mono (by decide)) (by rfl) T.g_is_seat T.F_is_seat.kp T.b_is_seat .nil pass0 (pa_cons (pv 0) (pa_cons (pv 1) pa_nil))))) (pss_one ps_never) pss_nil)), ?_⟩
    walk_at "rd"
    refine ⟨k, a, ss, x, true, rfl, hs, hb, fun H' s1 => ?_⟩
    walk_at "rd"
    exact q _ s1
def sp_require_call (K : PySem.W.Frag) : Sp := fun vs H Q _ => ∃ k a ss x, vs = [.ref a, x] ∧ Sqh k H a ss ∧ CallB K H ss.length x true ∧ ∀ H', Same H H' → Q .non H'
def sp_require_direction (K : PySem.W.Frag) : Sp := fun vs H Q _ => ∃ x, vs = [x] ∧ DirB K H x true ∧ ∀ H', Same H H' → Q .non H'
def sp_are_sizes (K : PySem.W.Frag) : Sp := fun vs H Q _ => ∃ x b, vs = [x] ∧ SizesB K H x b ∧ ∀ H', Same H H' → Q (.bl b) H'
theorem ok_are_sizes (T : Tx K mg) : FnOk P w K mg base CX0 2 T.f_are_sizes T.fd_are_sizes ["rings"] (sp_are_sizes K) := by
  refine T.F_are_sizes.ok sc_are_sizes (fun vs H Q E h => ?_) (fun cdv A outer s H vs Q E hr h => ?_)
  · obtain ⟨x, b, rfl, _⟩ := h; rfl
  · obtain ⟨x, b, rfl, hb, q⟩ := h
    refine ⟨_, (pss_cons (ps_if (PW.pt (pw_or (pt_not (pt_val (pe_callB (call_isAK (K := K) rfl) (by rfl) T.n_isinstance (by decide +kernel) (pa_cons (pv 0) (pa_cons (pe_tup (pa_cons (pe_bltn (v := .ty "list") (by rfl) T.n_list (by decide +kernel) rfl) (pa_cons (pe_bltn (v := .ty "tuple") (by rfl) T.n_tuple (by decide +kernel) rfl) pa_nil))) pa_nil))))) (pw_or1 (pt_not (pt_chain op_le op_le pe_int (pe_callB len_H (by rfl) T.n_len PySem.boot_len (pa_cons (pv 0) pa_nil)) (pe_glob (by rfl) T.g_MAX_RINGS T.r_MAX_RINGS)))))) (pss_one (ps_ret pe_bl)) pss_nil)
      (pss_one (ps_ret (pe_callB (all_H rfl) (by rfl) T.n_all (by decide +kernel) (pa_cons (pe_lc (own := [("size", 1)]) (g := (gName 1)) (tt := tYes) rfl sc_are_sizes.nd (pi_seqH (pv 0)) (blkOk_by (own := [("size", 1)]) (N := N_are_sizes) (sc := defScope d_are_sizes) (by decide +kernel)) (fun _ _ _ _ _ => (pg_name (i := 1) sc_are_sizes.nd rfl (Or.inl rfl))) (fun _ _ _ _ _ => pts_nil) (fun _ _ _ _ _ => (pe_and (pe_call (ok_is_integer T) (hr.mono (by decide)) (by rfl) T.g_is_integer T.F_is_integer.kp T.b_is_integer .nil pass0 (pa_cons (pv 1) pa_nil)) (pe_one (pe_cmpR op_ge (pv 1) pe_int (nomark _)))))) pa_nil))))), ?_⟩
    walk_at "rd"
    intro tp htp
    have s1 := Same.new htp (o := .tup [V.ty "list", V.ty "tuple"])
    generalize upd H tp (HO.tup [V.ty "list", V.ty "tuple"]) = H1 at s1 ⊢
    rcases hb with ⟨h1, rfl⟩ | ⟨k, p, xs, rfl, hs, hb⟩
    · refine ⟨false, IsA.same s1 h1, ?_⟩
      rw [if_pos rfl]
      exact q _ s1
    · have hs1 : Sqh k H1 p xs := hs.same s1
      have main : ∀ (J : It) (G : Hp → Prop) (bs : List Bool), xs.length ≤ sizeLine → bs.length = xs.length → b = bs.all id → (∀ (i : Nat) x c, xs[i]? = some x → bs[i]? = some c → (IsInt K H x false ∧ c = false) ∨ ∃ n, x = .int n ∧ c = decide (1 ≤ n)) → (∀ H2, Same H1 H2 → G H2) → Walk J xs.length G (YAt xs) →
          LcR J (gName 1) tYes (tAndV (tCall (sp_is_integer K) [] E0 (tCons (tVar 1) tNil)) (tOp (rI0 fun i j => V.bl (decide (j ≤ i))) (tVar 1) (tC (V.int 1)))) [1] [some (V.ref p), none] H1
            fun x H1 => ∃ p, x = V.ref p ∧ ∃ bs : List Bool, H1 p = some (HO.lst (List.map V.bl bs)) ∧ Q (V.bl (bs.all id)) H1 := fun J G bs hz hbl hb hbs hG W => by
        subst hb
        refine lcr_map W (bs.map V.bl) (by rw [List.length_map]; exact hbl) hz hG (fun _ _ _ _ y => YAt.same y) ?_ ?_
        · intro i x H2 H3 y Qy hi s2 hy hr hq
          obtain ⟨rfl, hx⟩ := hy
          simp only [List.getElem?_map, Option.map_eq_some_iff] at hr
          obtain ⟨c, hc, rfl⟩ := hr
          walk_at "rd"
          rcases hbs i x c hx hc with ⟨h0, rfl⟩ | ⟨n, rfl, rfl⟩
          · refine ⟨_, false, rfl, IsInt.same (s1.trans s2) h0, ?_⟩
            walk_at "rd"
            exact hq _ (Same.refl _)
          · refine ⟨_, true, rfl, isInt_int n, ?_⟩
            walk_at "rd"
            exact hq _ (Same.refl _)
        · intro D H2 hD s2 h1
          exact ⟨D, rfl, bs, h1, q _ (s1.trans s2)⟩
      cases k with
      | true =>
        have hs' : H1 p = some (.lst xs) := hs1
        refine ⟨true, isA_two (.base (.lst hs')) (b1 := true) (b2 := false) (by decide +kernel) (by decide +kernel) rfl, ?_⟩
        walk_at "rh"
        rcases hb with ⟨hl, rfl⟩ | ⟨hl, hz, bs, hbl, e, hbs⟩
        · by_cases h1 : 1 ≤ xs.length
          · rw [if_pos (by omega), if_pos (by omega)]; exact q _ s1
          · rw [if_neg (by omega)]; exact q _ s1
        · rw [if_pos (by omega), if_neg (by omega)]
          exact fun J W => main J _ bs (Nat.le_trans hz (by decide)) hbl e hbs (fun H2 s2 => s2 _ _ hs') W
      | false =>
        have hs' : H1 p = some (.tup xs) := hs1
        refine ⟨true, isA_two (.base (.tup hs')) (b1 := false) (b2 := true) (by decide +kernel) (by decide +kernel) rfl, ?_⟩
        walk_at "rh"
        rcases hb with ⟨hl, rfl⟩ | ⟨hl, hz, bs, hbl, e, hbs⟩
        · by_cases h1 : 1 ≤ xs.length
          · rw [if_pos (by omega), if_pos (by omega)]; exact q _ s1
          · rw [if_neg (by omega)]; exact q _ s1
        · rw [if_pos (by omega), if_neg (by omega)]
          exact fun J W => main J _ bs (Nat.le_trans hz (by decide)) hbl e hbs (fun H2 s2 => s2 _ _ hs') W
/-- an instance is written; all else is as it was -/
def sp_Table_init (K : PySem.W.Frag) (C : Addr) : Sp := fun vs H Q _ => ∃ (a dx : Addr) (x : V) (p : Addr) (k : Bool) (ss : List Int), vs = [.ref a, x] ∧ H a = some (.ins C dx []) ∧ x = .ref p ∧ Sqh k H p (ss.map V.int) ∧ 1 ≤ ss.length ∧ ss.length ≤ 4 ∧ (∀ n ∈ ss, 1 ≤ n) ∧
  ∀ H' t, Sx a H H' → H' a = some (.ins C dx [("_sizes", .ref t)]) → H' t = some (.tup (ss.map V.int)) → Q .non H'
theorem ok_Table_init (T : Tx K mg) : FnOk P w K mg base CX0 3 T.f_Table_init T.fd_Table_init ["self", "rings"] (sp_Table_init K T.c_Table) := by
  refine T.F_Table_init.ok sc_Table_init (fun vs H Q E h => ?_) (fun cdv A outer s H vs Q E hr h => ?_)
  · obtain ⟨a, dx, x, p, k, ss, rfl, _⟩ := h; rfl
  · obtain ⟨a, dx, x, p, k, ss, rfl, ha, rfl, hs, h1, h4, hpos, q⟩ := h
    refine ⟨_, (pss_cons (ps_if (pt_not (pt_val (pe_call (ok_are_sizes T) (hr.mono (by decide)) (by rfl) T.g_are_sizes T.F_are_sizes.kp T.b_are_sizes .nil pass0 (pa_cons (pv 1) pa_nil)))) (pss_one ps_never) pss_nil)
      (pss_one (ps_fld (pv 0) (pe_callTy tuple_H (by rfl) T.n_tuple (by decide +kernel) (pa_cons (pv 1) pa_nil)) rfl))), ?_⟩
    walk_at "rd"
    refine ⟨_, true, rfl, .inr ⟨k, p, ss.map V.int, rfl, hs, .inr ⟨by rw [List.length_map]; exact h1, by rw [List.length_map]; exact h4, List.replicate ss.length true, by simp, by simp, fun i x c hx hc => ?_⟩⟩, fun H1 s1 => ?_⟩
    · simp only [List.getElem?_map, Option.map_eq_some_iff] at hx
      obtain ⟨n, hn, rfl⟩ := hx
      have hi : i < ss.length := (List.getElem?_eq_some_iff.mp hn).1
      rw [List.getElem?_replicate, if_pos hi] at hc
      refine .inr ⟨n, rfl, ?_⟩
      rw [decide_eq_true (hpos n (List.mem_of_getElem? hn))]
      exact (Option.some.inj hc).symm
    · have ha1 := s1 _ _ ha
      have hs1 := hs.same s1
      have cl := T.cl_Table
      have no := T.no_Table_sizes
      walk_at "rd"
      cases k with
      | true =>
        have hs' : H1 p = some (.lst (ss.map V.int)) := hs1
        walk_at "rh"
        intro l hl
        have e1 : upd H1 l (.tup (ss.map V.int)) a = some (.ins T.c_Table dx []) := by rw [upd_old hl (by rw [ha1]; simp)]; exact ha1
        rw [e1]
        refine ⟨_, _, _, rfl, cl, no, by decide, ?_⟩
        have nla : l ≠ a := fun e => by rw [e, ha1] at hl; cases hl
        exact q _ l (Sx.trans (Sx.of (s1.trans (Same.new hl))) Sx.put) upd_same (by rw [upd_ne nla]; exact upd_same)
      | false =>
        have hs' : H1 p = some (.tup (ss.map V.int)) := hs1
        walk_at "rh"
        have npa : p ≠ a := ne_two hs' ha1 (by simp)
        exact ⟨by decide, q _ p (Sx.trans (Sx.of s1) Sx.put) upd_same (by rw [upd_ne npa]; exact hs')⟩
def sp_Table_sizes (K : PySem.W.Frag) (C : Addr) : Sp := fun vs H Q _ => ∃ (a : Addr) (ss : List Int), vs = [.ref a] ∧ TabAt C H a ss ∧ ∀ t, H t = some (.tup (ss.map V.int)) → Q (.ref t) H
def prodI (ss : List Int) : Int := ss.foldl (fun a b => a * b) 1
theorem prodI_take {ss : List Int} {i : Nat} {n : Int} (h : ss[i]? = some n) : prodI (ss.take (i + 1)) = prodI (ss.take i) * n := by
  unfold prodI
  rw [List.take_add_one, h, List.foldl_append]
  rfl
theorem prodI_small {B : Nat} : ∀ {ss : List Int}, (∀ n ∈ ss, n.natAbs < 2 ^ B) → (prodI ss).natAbs < 2 ^ (B * ss.length + 1) := by
  have gen : ∀ (ss : List Int) (a : Int) (A : Nat), (∀ n ∈ ss, n.natAbs < 2 ^ B) → a.natAbs < 2 ^ A → (ss.foldl (fun a b => a * b) a).natAbs < 2 ^ (A + B * ss.length) := by
    intro ss
    induction ss with
    | nil => intro a A _ h; simpa using h
    | cons x r ih =>
      intro a A h ha
      have h1 : (a * x).natAbs < 2 ^ (A + B) := wide_lt ha (h x (List.mem_cons_self ..))
      have h2 := ih (a * x) (A + B) (fun n hn => h n (List.mem_cons_of_mem _ hn)) h1
      rw [List.length_cons, Nat.mul_succ, show A + (B * r.length + B) = A + B + B * r.length by omega]
      exact h2
  intro ss h
  have q := gen ss 1 1 h (by decide)
  rw [Nat.add_comm 1] at q
  exact q
/-- the sizes of a table that is used: 1 to 4, each of at most 1000 bits -/
structure Sz (ss : List Int) : Prop where
  lo : 1 ≤ ss.length
  hi : ss.length ≤ 4
  pos : ∀ n ∈ ss, 1 ≤ n
  bits : ∀ n ∈ ss, n.natAbs < 2 ^ 1000
theorem Sz.mul {ss : List Int} (z : Sz ss) {i : Nat} {n : Int} (h : ss[i]? = some n) : CMulW (prodI (ss.take i)) n := by
  have h1 := prodI_small (B := 1000) (ss := ss.take i) fun n hn => z.bits n (List.mem_of_mem_take hn)
  have h2 := z.bits n (List.mem_of_getElem? h)
  have h3 : (ss.take i).length ≤ 4 := Nat.le_trans (by rw [List.length_take]; omega) z.hi
  exact wide_mul h1 h2 (by omega) (by omega) (by omega)
def sp_Table_count (K : PySem.W.Frag) (C : Addr) : Sp := fun vs H Q _ => ∃ (a : Addr) (ss : List Int), vs = [.ref a] ∧ TabAt C H a ss ∧ Sz ss ∧ Q (.int (prodI ss)) H
/-- the places of the steps -/
def mv (g : Int → Int → Int) : List Int → List Int → List Int → List Int
  | p :: ps, c :: cs, s :: ss => (g p c % s) :: mv g ps cs ss
  | _, _, _ => []
theorem mv_len {g : Int → Int → Int} : ∀ {ps cs ss : List Int}, ps.length = cs.length → cs.length = ss.length → (mv g ps cs ss).length = ps.length
  | [], [], [], _, _ => rfl
  | p :: ps, c :: cs, s :: ss, h1, h2 => by
    show (mv g ps cs ss).length + 1 = ps.length + 1
    rw [mv_len (by simpa using h1) (by simpa using h2)]
theorem mv_get {g : Int → Int → Int} : ∀ {ps cs ss : List Int} {i : Nat} {p c s : Int}, ps[i]? = some p → cs[i]? = some c → ss[i]? = some s → (mv g ps cs ss)[i]? = some (g p c % s)
  | p :: ps, c :: cs, s :: ss, 0, _, _, _, h1, h2, h3 => by
    simp only [List.getElem?_cons_zero, Option.some.injEq] at h1 h2 h3
    subst h1 h2 h3
    rfl
  | p :: ps, c :: cs, s :: ss, i + 1, _, _, _, h1, h2, h3 => mv_get (ps := ps) (cs := cs) (ss := ss) (i := i) h1 h2 h3
  | [], _, _, _, _, _, _, h, _, _ => by simp at h
  | _ :: _, [], _, _, _, _, _, _, h, _ => by simp at h
  | _ :: _, _ :: _, [], _, _, _, _, _, _, h => by simp at h
/-- ps a seat of the sizes ss -/
structure Seat (ss ps : List Int) : Prop where
  len : ps.length = ss.length
  ok : ∀ (i : Nat) p s, ps[i]? = some p → ss[i]? = some s → 0 ≤ p ∧ p < s
theorem Seat.b {K : PySem.W.Frag} {H : Hp} {ss ps : List Int} {p : Addr} (h : Seat ss ps) (z : Sz ss) (hp : H p = some (.tup (ps.map V.int))) : SeatB K H ss (.ref p) true := by
  refine .inr ⟨p, _, rfl, hp, .inr ⟨by rw [List.length_map]; exact h.len, ?_, List.replicate ps.length true, by simp, by simp, fun i x s c hx hs hc => ?_⟩⟩
  · have h4 := z.hi
    have hl := h.len
    rw [List.length_map]
    exact Nat.le_trans (by omega : ps.length ≤ 4) (by decide)
  · simp only [List.getElem?_map, Option.map_eq_some_iff] at hx
    obtain ⟨n, hn, rfl⟩ := hx
    have hi : i < ps.length := (List.getElem?_eq_some_iff.mp hn).1
    rw [List.getElem?_replicate, if_pos hi] at hc
    obtain ⟨h1, h2⟩ := h.ok i n s hn hs
    refine .inr ⟨n, rfl, ?_⟩
    rw [decide_eq_true h1, decide_eq_true h2]
    exact (Option.some.inj hc).symm
theorem call_b {K : PySem.W.Frag} {H : Hp} {cs : List Int} {n : Nat} {p : Addr} (h : cs.length = n) (hn : n ≤ 4) (hp : H p = some (.tup (cs.map V.int))) : CallB K H n (.ref p) true := by
  refine .inr ⟨p, _, rfl, hp, .inr ⟨by rw [List.length_map]; exact h, ?_, List.replicate cs.length true, by simp, by simp, fun i x c hx hc => ?_⟩⟩
  · rw [List.length_map]
    exact Nat.le_trans (by omega : cs.length ≤ 4) (by decide)
  · simp only [List.getElem?_map, Option.map_eq_some_iff] at hx
    obtain ⟨m, hm, rfl⟩ := hx
    have hi : i < cs.length := (List.getElem?_eq_some_iff.mp hm).1
    rw [List.getElem?_replicate, if_pos hi] at hc
    obtain rfl := Option.some.inj hc
    exact isInt_int m
def fw (p c : Int) : Int := p + c
def bw (p c : Int) : Int := p - c
def sp_both_moves (K : PySem.W.Frag) : Sp := fun vs H Q _ => ∃ (kt : Bool) (t p c : Addr) (ss ps cs : List Int), vs = [.ref t, .ref p, .ref c] ∧ Sqh kt H t (ss.map V.int) ∧ H p = some (.tup (ps.map V.int)) ∧ H c = some (.tup (cs.map V.int)) ∧ ps.length = cs.length ∧ cs.length = ss.length ∧ ss.length ≤ 4 ∧ (∀ n ∈ ss, 0 < n) ∧
  ∀ H' r f b, Same H H' → H' r = some (.tup [.ref f, .ref b]) → H' f = some (.tup ((mv fw ps cs ss).map V.int)) → H' b = some (.tup ((mv bw ps cs ss).map V.int)) → Q (.ref r) H'
theorem mv_snoc {g : Int → Int → Int} {ps cs ss : List Int} {i : Nat} {p c s : Int} (h1 : ps[i]? = some p) (h2 : cs[i]? = some c) (h3 : ss[i]? = some s) : (mv g ps cs ss).take (i + 1) = (mv g ps cs ss).take i ++ [g p c % s] := by
  rw [List.take_add_one, mv_get h1 h2 h3]
  rfl
def sp_Table_moves (K : PySem.W.Frag) (C : Addr) : Sp := fun vs H Q _ => ∃ (a p c : Addr) (ss ps cs : List Int), vs = [.ref a, .ref p, .ref c] ∧ TabAt C H a ss ∧ Sz ss ∧ H p = some (.tup (ps.map V.int)) ∧ Seat ss ps ∧ H c = some (.tup (cs.map V.int)) ∧ cs.length = ss.length ∧
  ∀ H' r f b, Same H H' → H' r = some (.tup [.ref f, .ref b]) → H' f = some (.tup ((mv fw ps cs ss).map V.int)) → H' b = some (.tup ((mv bw ps cs ss).map V.int)) → Q (.ref r) H'
def sp_stepped (K : PySem.W.Frag) : Sp := fun vs H Q _ => ∃ (kt : Bool) (t p c : Addr) (z : Str) (ss ps cs : List Int), vs = [.ref t, .ref p, .ref c, .str z] ∧ Sqh kt H t (ss.map V.int) ∧ H p = some (.tup (ps.map V.int)) ∧ H c = some (.tup (cs.map V.int)) ∧ ps.length = cs.length ∧ cs.length = ss.length ∧ ss.length ≤ 4 ∧ (∀ n ∈ ss, 0 < n) ∧ (z = "forward" ∨ z = "backward") ∧
  ∀ H' f, Same H H' → H' f = some (.tup ((mv (if z = "forward" then fw else bw) ps cs ss).map V.int)) → Q (.ref f) H'
def sp_Table_step (K : PySem.W.Frag) (C : Addr) : Sp := fun vs H Q _ => ∃ (a p c : Addr) (z : Str) (ss ps cs : List Int), vs = [.ref a, .ref p, .ref c, .str z] ∧ TabAt C H a ss ∧ Sz ss ∧ H p = some (.tup (ps.map V.int)) ∧ Seat ss ps ∧ H c = some (.tup (cs.map V.int)) ∧ cs.length = ss.length ∧ (z = "forward" ∨ z = "backward") ∧
  ∀ H' f, Same H H' → H' f = some (.tup ((mv (if z = "forward" then fw else bw) ps cs ss).map V.int)) → Q (.ref f) H'
end

/-- lists of ints at the addresses as -/
def AsL (H : Hp) (as : List Addr) (rows : List (List Int)) : Prop := as.length = rows.length ∧ ∀ (i : Nat) t r, as[i]? = some t → rows[i]? = some r → H t = some (.lst (r.map V.int))
theorem AsL.same {H H' : Hp} {as : List Addr} {rows : List (List Int)} (e : Same H H') (h : AsL H as rows) : AsL H' as rows := ⟨h.1, fun i t r h1 h2 => e _ _ (h.2 i t r h1 h2)⟩
theorem AsL.nil {H : Hp} : AsL H [] [] := ⟨rfl, fun i t r h _ => by simp at h⟩
theorem AsL.snoc {H : Hp} {as : List Addr} {rows : List (List Int)} {t : Addr} {r : List Int} (h : AsL H as rows) (ht : H t = some (.lst (r.map V.int))) : AsL H (as ++ [t]) (rows ++ [r]) := by
  refine ⟨by rw [List.length_append, List.length_append, h.1]; rfl, fun i u g h1 h2 => ?_⟩
  by_cases hlt : i < as.length
  · rw [List.getElem?_append_left hlt] at h1
    rw [List.getElem?_append_left (by rw [← h.1]; exact hlt)] at h2
    exact h.2 i u g h1 h2
  · rw [List.getElem?_append_right (by omega)] at h1
    rw [List.getElem?_append_right (by rw [← h.1]; omega), ← h.1] at h2
    cases hk : i - as.length with
    | zero =>
      rw [hk] at h1 h2
      simp only [List.getElem?_cons_zero, Option.some.injEq] at h1 h2
      rw [← h1, ← h2]; exact ht
    | succ m => rw [hk] at h1; simp at h1
theorem AsL.put {H : Hp} {as : List Addr} {rows : List (List Int)} {D : Addr} {o : HO} (h : AsL H as rows) (hd : ∀ t ∈ as, t ≠ D) : AsL (upd H D o) as rows :=
  ⟨h.1, fun i t r h1 h2 => by rw [upd_ne (hd t (List.mem_of_getElem? h1))]; exact h.2 i t r h1 h2⟩
theorem row_ne {H : Hp} {t D : Addr} {r : List Int} {bs : List Addr} (h1 : H t = some (.lst (r.map V.int))) (h2 : H D = some (.lst (bs.map V.ref))) (h : r ≠ []) : t ≠ D := fun e => by
  rw [e, h2] at h1
  have h3 : bs.map V.ref = r.map V.int := by
    have := Option.some.inj h1
    injection this
  cases r with
  | nil => exact h rfl
  | cons x r => cases bs <;> simp at h3
theorem AsL.ne {H : Hp} {as : List Addr} {rows : List (List Int)} {D : Addr} {bs : List Addr} (h : AsL H as rows) (hD : H D = some (.lst (bs.map V.ref))) (hr : ∀ r ∈ rows, r ≠ []) : ∀ t ∈ as, t ≠ D := fun t ht => by
  obtain ⟨i, hi, e⟩ := List.getElem_of_mem ht
  have hi2 : i < rows.length := by rw [← h.1]; exact hi
  exact row_ne (h.2 i t rows[i] (by rw [List.getElem?_eq_getElem hi, e]) (List.getElem?_eq_getElem hi2)) hD (hr _ (List.getElem_mem hi2))
/-- a list of lists of ints, at a -/
def LstL (H : Hp) (a : Addr) (rows : List (List Int)) : Prop := ∃ as : List Addr, H a = some (.lst (as.map V.ref)) ∧ AsL H as rows
theorem LstL.same {H H' : Hp} {a : Addr} {rows : List (List Int)} (e : Same H H') (h : LstL H a rows) : LstL H' a rows := by
  obtain ⟨as, h1, h2⟩ := h
  exact ⟨as, e _ _ h1, h2.same e⟩

/-! ### order and halves -/
section
variable {P : Program} {w : World} {K : PySem.W.Frag} {mg : Str → Option Value} {base : Heap}
/-- one ring's part of an order -/
def ordS (c : Nat) (z : Int × Int) : Nat := Nat.lcm c (z.2 / ((Nat.gcd z.1.natAbs z.2.natAbs : Nat) : Int)).natAbs
def ordI (ps ss : List Int) : Nat := (ps.zip ss).foldl ordS 1
theorem ord_take {ps ss : List Int} {i : Nat} {p s : Int} (hp : ps[i]? = some p) (hs : ss[i]? = some s) : ((ps.zip ss).take (i + 1)).foldl ordS 1 = ordS (((ps.zip ss).take i).foldl ordS 1) (p, s) := by
  have h : (ps.zip ss)[i]? = some (p, s) := by
    rw [List.getElem?_zip_eq_some]
    exact ⟨hp, hs⟩
  rw [List.take_add_one, h, List.foldl_append]
  rfl
theorem ord_small {B : Nat} : ∀ (zs : List (Int × Int)) (c A : Nat), (∀ z ∈ zs, 1 ≤ z.2 ∧ z.2.natAbs < 2 ^ B) → c < 2 ^ A → zs.foldl ordS c < 2 ^ (A + B * zs.length)
  | [], c, A, _, h => by simpa using h
  | z :: zs, c, A, hz, hc => by
    obtain ⟨h1, h2⟩ := hz z (List.mem_cons_self ..)
    have hq : (z.2 / ((Nat.gcd z.1.natAbs z.2.natAbs : Nat) : Int)).natAbs ≤ z.2.natAbs := by
      have := Int.natAbs_ediv_le_natAbs z.2 ((Nat.gcd z.1.natAbs z.2.natAbs : Nat) : Int)
      exact this
    have h3 : ordS c z < 2 ^ (A + B) := by
      have e1 : ordS c z ≤ c * (z.2 / ((Nat.gcd z.1.natAbs z.2.natAbs : Nat) : Int)).natAbs := lcm_le_mul _ _
      rw [Nat.pow_add]
      exact Nat.lt_of_le_of_lt e1 (Nat.mul_lt_mul'' hc (Nat.lt_of_le_of_lt hq h2))
    have h4 := ord_small (B := B) zs (ordS c z) (A + B) (fun y hy => hz y (List.mem_cons_of_mem _ hy)) h3
    rw [List.length_cons, Nat.mul_succ, show A + (B * zs.length + B) = A + B + B * zs.length by omega]
    exact h4
theorem mem_zip_sz {ss ps : List Int} (z : Sz ss) : ∀ y ∈ ps.zip ss, 1 ≤ y.2 ∧ y.2.natAbs < 2 ^ 1000 := fun y hy => by
  obtain ⟨p, s⟩ := y
  have h := (List.of_mem_zip hy).2
  exact ⟨z.pos s h, z.bits s h⟩
def sp_Table_order (K : PySem.W.Frag) (C : Addr) : Sp := fun vs H Q _ => ∃ (a p : Addr) (ss ps : List Int), vs = [.ref a, .ref p] ∧ TabAt C H a ss ∧ Sz ss ∧ H p = some (.tup (ps.map V.int)) ∧ Seat ss ps ∧ ∀ H', Same H H' → Q (.int (ordI ps ss : Nat)) H'
theorem ok_Table_order (T : Tx K mg) : FnOk P w K mg base CX0 3 T.f_Table_order T.fd_Table_order ["self", "seat"] (sp_Table_order K T.c_Table) := by
  refine T.F_Table_order.ok sc_Table_order (fun vs H Q E h => ?_) (fun cdv A outer s H vs Q E hr h => ?_)
  · obtain ⟨a, p, ss, ps, rfl, _⟩ := h; rfl
  · obtain ⟨a, p, ss, ps, rfl, ⟨dx, t, h1, h2⟩, z, hp, hS, q⟩ := h
    refine ⟨_, (pss_cons (ps_expr (pe_call (ok_require_seat T) (hr.mono (by decide)) (by rfl) T.g_require_seat T.F_require_seat.kp T.b_require_seat .nil pass0 (pa_cons (pe_fld (pv 0) rfl) (pa_cons (pv 1) pa_nil))))
      (pss_cons (ps_set (i := 2) sc_Table_order.nd rfl (Or.inl rfl) pe_int)
      (pss_cons (ps_for PassesOwn.never rfl (pi_z2H (by rfl) T.n_zip (pa_cons (pv 1) (pa_cons (pe_fld (pv 0) rfl) pa_nil))) (pg_tupH (n := 2) rfl (pgs_cons (pg_name (i := 3) sc_Table_order.nd rfl (Or.inl rfl)) (pgs_cons (pg_name (i := 4) sc_Table_order.nd rfl (Or.inl rfl)) pgs_nil)))
        (pss_one (ps_set (i := 2) sc_Table_order.nd rfl (Or.inl rfl) (pe_callBfun cr_lcm (by rfl) T.b_lcm (pa_cons (pv 2) (pa_cons (pe_op op_fdivW (pv 4) (pe_callBfun cr_gcd (by rfl) T.b_gcd (pa_cons (pv 3) (pa_cons (pv 4) pa_nil)))) pa_nil))))))
      (pss_one (ps_ret (pv 2)))))), ?_⟩
    have cl := T.cl_Table
    have no := T.no_Table_sizes
    walk_at "rh"
    refine ⟨false, t, ss, .ref p, rfl, h2, hS.b z hp, fun H1 s1 => ?_⟩
    have h21 := s1 _ _ h2
    have hp1 := s1 _ _ hp
    refine ⟨_, _, _, s1 _ _ h1, cl, no, _, lookup_one _ _, t, rfl, false, false, ps.map V.int, hp1, ss.map V.int, h21, by rw [List.length_map, List.length_map, hS.len], fun J W => ?_⟩
    refine forr W (fun i σ H' => Same H H' ∧ ∃ v3 v4, σ = [some (V.ref a), some (V.ref p), some (V.int ((((ps.zip ss).take i).foldl ordS 1 : Nat) : Int)), v3, v4]) ⟨s1, none, none, rfl⟩ (fun i σ H' _ hp' => ⟨hp'.1 _ _ hp, hp'.1 _ _ h2⟩) ?_ ?_
    · rintro i x σ H2 H3 hi ⟨s2, v3, v4, rfl⟩ ⟨T0, x1, y1, rfl, hT, rfl, e1, e2⟩
      simp only [List.getElem?_map, Option.map_eq_some_iff] at e1 e2
      obtain ⟨p0, hp0, rfl⟩ := e1
      obtain ⟨s0, hs0, rfl⟩ := e2
      have hs1 := z.pos s0 (List.mem_of_getElem? hs0)
      have hb := z.bits s0 (List.mem_of_getElem? hs0)
      have hg : 0 < Nat.gcd p0.natAbs s0.natAbs := Nat.gcd_pos_of_pos_right _ (by omega)
      have hgs : Nat.gcd p0.natAbs s0.natAbs ≤ s0.natAbs := Nat.gcd_le_right _ (by omega)
      have hlen : ((ps.zip ss).take i).length ≤ 4 := by
        have := z.hi
        rw [List.length_take, List.length_zip]
        omega
      have hc : ((ps.zip ss).take i).foldl ordS 1 < 2 ^ 6000 := by
        have h3 := ord_small (B := 1000) ((ps.zip ss).take i) 1 1 (fun y hy => mem_zip_sz z y (List.mem_of_mem_take hy)) (by decide)
        exact Nat.lt_of_lt_of_le h3 (Nat.pow_le_pow_right (by decide) (by omega))
      walk_at "rd"
      refine ⟨wide_div (b := 1000) (by omega) (by rw [Int.natAbs_natCast]; omega) (by decide) (by decide), ?_, ?_, s2.trans (Same.new hT), ?_⟩
      · rw [Int.natAbs_natCast]; exact hc
      · have h4 := Int.natAbs_ediv_le_natAbs s0 ((Nat.gcd p0.natAbs s0.natAbs : Nat) : Int)
        exact Nat.lt_of_le_of_lt h4 (Nat.lt_of_lt_of_le hb (Nat.pow_le_pow_right (by decide) (by decide)))
      · rw [ord_take hp0 hs0, Int.natAbs_natCast]
        rfl
    · rintro σ H2 ⟨s2, v3, v4, rfl⟩
      walk_at "rd"
      have e : (ps.zip ss).take ((ps.map V.int).length) = ps.zip ss := List.take_of_length_le (by rw [List.length_zip, List.length_map]; omega)
      rw [List.length_map] at e
      rw [e]
      exact q _ s2
/-- the halves of a place -/
def hpl (p s : Int) : List Int := ([p, p + s].filter fun d => d % 2 == 0).map fun d => d / 2
def sp_half_places (K : PySem.W.Frag) : Sp := fun vs H Q _ => ∃ p s : Int, vs = [.int p, .int s] ∧ ∀ H' l, Same H H' → H l = none → H' l = some (.lst ((hpl p s).map V.int)) → Q (.ref l) H'
theorem ok_half_places (T : Tx K mg) : FnOk P w K mg base CX0 1 T.f_half_places T.fd_half_places ["place", "size"] (sp_half_places K) := by
  refine T.F_half_places.ok sc_half_places (fun vs H Q E h => ?_) (fun cdv A outer s H vs Q E hr h => ?_)
  · obtain ⟨p, s, rfl, _⟩ := h; rfl
  · obtain ⟨p, s, rfl, q⟩ := h
    refine ⟨_, (pss_one (ps_ret (pe_lc (own := [("double", 2)]) (g := (gName 2)) rfl sc_half_places.nd (pi_seqH (pe_tup (pa_cons (pv 0) (pa_cons (pe_op op_add (pv 0) (pv 1)) pa_nil)))) (blkOk_by (own := [("double", 2)]) (N := N_half_places) (sc := defScope d_half_places) (by decide +kernel)) (fun _ _ _ _ _ => (pg_name (i := 2) sc_half_places.nd rfl (Or.inl rfl))) (fun _ _ _ _ _ => (pts_one (pt_cmpR op_eq (pe_op op_mod (pv 2) pe_int) pe_int (nomark _)))) (fun _ _ _ _ _ => (pe_op op_fdivW (pv 2) pe_int))))), ?_⟩
    walk_at "rd"
    intro t ht J W
    have s1 := Same.new ht (o := .tup [.int p, .int (p + s)])
    have f1 : (upd H t (.tup [.int p, .int (p + s)])) t = some (.tup [.int p, .int (p + s)]) := upd_same
    generalize upd H t (HO.tup [.int p, .int (p + s)]) = H1 at s1 f1 ⊢
    have hg : ∀ (i : Nat) x, ([V.int p, V.int (p + s)] : List V)[i]? = some x → ∃ d, x = V.int d ∧ ([p, p + s] : List Int)[i]? = some d := fun i x hx => by
      have : ([V.int p, V.int (p + s)] : List V) = ([p, p + s] : List Int).map V.int := rfl
      rw [this, List.getElem?_map, Option.map_eq_some_iff] at hx
      obtain ⟨d, h1, h2⟩ := hx
      exact ⟨d, h2.symm, h1⟩
    refine lcr_if W (fun D i acc H' => Same H1 H' ∧ acc = (((([p, p + s] : List Int).take i).filter fun d => d % 2 == 0).map fun d => d / 2).map V.int) (by show 2 < sizeLine; decide) (fun D hD => ⟨Same.new hD, by simp⟩) (fun D i acc H' hD hi h e => h.1 _ _ f1) (fun D i acc H' l hD h hn => ⟨fun b o e => ?_, h.2⟩) ?_ ?_
    · rw [upd_ne (ne_some e hD)]; exact h.1 b o e
    · rintro D i acc x H2 H3 Qn Qy hD hi ⟨s2, ha⟩ e ⟨rfl, hx⟩ hn hy
      obtain ⟨d, rfl, hd⟩ := hg i x hx
      walk_at "rd"
      by_cases h : d % 2 = 0
      · rw [if_pos h]
        refine hy _ _ e ⟨s2, ?_⟩
        rw [ha, List.take_add_one, hd]
        simp [List.filter_append, h]
      · rw [if_neg h]
        refine hn _ e ⟨s2, ?_⟩
        rw [ha, List.take_add_one, hd]
        simp [List.filter_append, h]
    · rintro D acc H2 hD hl ⟨s2, ha⟩ e
      have hHD : H D = none := by
        cases e2 : H D with
        | none => rfl
        | some o => rw [s1 _ _ e2] at hD; cases hD
      refine q _ D (s1.trans s2) hHD ?_
      rw [e, ha]
      rfl
def halF (found : List (List Int)) (z : Int × Int) : List (List Int) := found.flatMap fun h => (hpl z.1 z.2).map fun x => h ++ [x]
def halI (ps ss : List Int) : List (List Int) := (ps.zip ss).foldl halF [[]]
theorem hpl_len (p s : Int) : (hpl p s).length ≤ 2 := by
  unfold hpl
  rw [List.length_map]
  exact List.length_filter_le _ _
theorem flat_len (f : List Int → List (List Int)) (hf : ∀ h, (f h).length ≤ 2) : ∀ hss : List (List Int), (hss.flatMap f).length ≤ 2 * hss.length
  | [] => by simp
  | h :: hss => by
    rw [List.flatMap_cons, List.length_append, List.length_cons]
    have h1 := hf h
    have h2 := flat_len f hf hss
    omega
theorem halF_len (found : List (List Int)) (z : Int × Int) : (halF found z).length ≤ 2 * found.length := flat_len _ (fun h => by rw [List.length_map]; exact hpl_len _ _) found
theorem hal_len : ∀ (zs : List (Int × Int)) (found : List (List Int)), (zs.foldl halF found).length ≤ 2 ^ zs.length * found.length
  | [], found => by simp
  | z :: zs, found => by
    have h1 := hal_len zs (halF found z)
    have h2 := halF_len found z
    rw [List.foldl_cons, List.length_cons, Nat.pow_succ, Nat.mul_assoc]
    exact Nat.le_trans h1 (Nat.mul_le_mul_left _ h2)
theorem hal_take {ps ss : List Int} {i : Nat} {p s : Int} (hp : ps[i]? = some p) (hs : ss[i]? = some s) : ((ps.zip ss).take (i + 1)).foldl halF [[]] = halF (((ps.zip ss).take i).foldl halF [[]]) (p, s) := by
  have h : (ps.zip ss)[i]? = some (p, s) := by
    rw [List.getElem?_zip_eq_some]
    exact ⟨hp, hs⟩
  rw [List.take_add_one, h, List.foldl_append]
  rfl
theorem hal_in : ∀ (zs : List (Int × Int)) (found : List (List Int)) (k : Nat), (∀ h ∈ found, h.length ≤ k) → ∀ h ∈ zs.foldl halF found, h.length ≤ k + zs.length
  | [], found, k, hf, h, hh => by simpa using hf h hh
  | z :: zs, found, k, hf, h, hh => by
    rw [List.foldl_cons] at hh
    have h1 := hal_in zs (halF found z) (k + 1) (fun g hg => by
      simp only [halF, List.mem_flatMap, List.mem_map] at hg
      obtain ⟨f, hf1, x, hx, rfl⟩ := hg
      rw [List.length_append]
      have := hf f hf1
      simp
      omega) h hh
    rw [List.length_cons]
    omega
/-- one list's part of the choices -/
def choF (found : List (List Int)) (parts : List Int) : List (List Int) := found.flatMap fun h => parts.map fun x => h ++ [x]
def choI (rows : List (List Int)) : List (List Int) := rows.foldl choF [[]]
theorem choF_len (parts : List Int) : ∀ found : List (List Int), (choF found parts).length = found.length * parts.length
  | [] => by simp [choF]
  | h :: found => by
    have ih := choF_len parts found
    unfold choF at ih ⊢
    rw [List.flatMap_cons, List.length_append, ih, List.length_map, List.length_cons, Nat.succ_mul]
    omega
theorem cho_take {rows : List (List Int)} {i : Nat} {r : List Int} (h : rows[i]? = some r) : (rows.take (i + 1)).foldl choF [[]] = choF ((rows.take i).foldl choF [[]]) r := by
  rw [List.take_add_one, h, List.foldl_append]
  rfl
theorem cho_in : ∀ (rows found : List (List Int)) (k : Nat), (∀ h ∈ found, h.length ≤ k) → ∀ h ∈ rows.foldl choF found, h.length ≤ k + rows.length
  | [], found, k, hf, h, hh => by simpa using hf h hh
  | z :: zs, found, k, hf, h, hh => by
    rw [List.foldl_cons] at hh
    have h1 := cho_in zs (choF found z) (k + 1) (fun g hg => by
      simp only [choF, List.mem_flatMap, List.mem_map] at hg
      obtain ⟨f, hf1, x, hx, rfl⟩ := hg
      rw [List.length_append]
      have := hf f hf1
      simp
      omega) h hh
    rw [List.length_cons]
    omega
def sp_all_choices (K : PySem.W.Frag) : Sp := fun vs H Q _ => ∃ (o : Addr) (rows : List (List Int)), vs = [.ref o] ∧ LstL H o rows ∧ rows.length ≤ 4 ∧ (∀ i, ((rows.take i).foldl choF [[]]).length ≤ 1000) ∧ (∀ r ∈ rows, r.length ≤ 1000) ∧ ∀ H' l, Same H H' → H l = none → LstT H' l (choI rows) → Q (.ref l) H'
theorem ok_all_choices (T : Tx K mg) : FnOk P w K mg base CX0 1 T.f_all_choices T.fd_all_choices ["options"] (sp_all_choices K) := by
  refine T.F_all_choices.ok sc_all_choices (fun vs H Q E h => ?_) (fun cdv A outer s H vs Q E hr h => ?_)
  · obtain ⟨o, rows, rfl, _⟩ := h; rfl
  · obtain ⟨o, rows, rfl, ⟨os, ho, hO⟩, h4, hpre, hrow, q⟩ := h
    refine ⟨_, (pss_cons (ps_set (i := 1) sc_all_choices.nd rfl (Or.inl rfl) (pe_lst (pa_cons (pe_tup pa_nil) pa_nil)))
      (pss_cons (ps_for PassesOwn.never rfl (pi_seqH (pv 0)) (pg_name (i := 2) sc_all_choices.nd rfl (Or.inr rfl))
        (pss_one (ps_setLc2 (i := 1) (own := [("chosen", 3), ("part", 4)]) (g := (gName 3)) (tt := tYes) (vs1 := [4]) (g1 := (gName 4)) (tt1 := tYes) rfl sc_all_choices.nd rfl rfl (sw_true rfl rfl rfl (by decide +kernel)) (pi_seqH (pv 1)) (blkOk_by (own := [("chosen", 3), ("part", 4)]) (N := N_all_choices) (sc := defScope d_all_choices) (by decide +kernel)) (by decide) (fun _ _ _ _ _ => (pg_name (i := 3) sc_all_choices.nd rfl (Or.inl rfl))) (fun _ _ _ _ _ => pts_nil) (fun _ _ _ _ _ => (pi_seqH (pv 2))) (fun _ _ _ _ _ => (pg_name (i := 4) sc_all_choices.nd rfl (Or.inl rfl))) (fun _ _ _ _ _ => pts_nil) (fun _ _ _ _ _ => (pe_tup (pa_starH (pv 3) (pa_cons (pv 4) pa_nil)))))))
      (pss_one (ps_ret (pv 1))))), ?_⟩
    walk_at "rd"
    intro p1 hp1 p2 hp2
    have s2 := Same.new hp1 (o := .tup [])
    have f2 : (upd H p1 (.tup [])) p1 = some (.tup []) := upd_same
    generalize upd H p1 (HO.tup []) = H2 at s2 f2 hp2 ⊢
    have s3 := Same.new hp2 (o := .lst [V.ref p1])
    have f3 : (upd H2 p2 (.lst [V.ref p1])) p2 = some (.lst [V.ref p1]) := upd_same
    generalize upd H2 p2 (HO.lst [V.ref p1]) = H3 at s3 f3 ⊢
    have s03 := s2.trans s3
    have nn : ∀ {G : Hp} {u : Addr}, Same H G → G u = none → H u = none := fun {G u} e h => by
      cases e2 : H u with
      | none => rfl
      | some o => rw [e _ _ e2] at h; cases h
    refine .inl ⟨_, s03 _ _ ho, fun J W => ?_⟩
    refine forr W (fun i σ H' => Same H H' ∧ ∃ (L : Addr) (v2 v3 v4 : Option V), σ = [some (V.ref o), some (V.ref L), v2, v3, v4] ∧ H L = none ∧ LstT H' L ((rows.take i).foldl choF [[]])) ⟨s03, p2, none, none, none, rfl, nn s2 hp2, [p1], f3, rfl, fun i t' hs' h1' h2' => ?_⟩ (fun i σ H' _ h => h.1 _ _ ho) ?_ ?_
    · cases i with
      | zero =>
        simp only [List.getElem?_cons_zero, Option.some.injEq] at h1'
        simp only [List.take_zero, List.foldl_nil, List.getElem?_cons_zero, Option.some.injEq] at h2'
        rw [← h1', ← h2']
        exact s3 _ _ f2
      | succ i => simp at h1'
    · rintro i x σ H5o H5 hi ⟨s4, L, v2, v3, v4, rfl, hL, hT⟩ ⟨rfl, hx⟩
      simp only [List.getElem?_map, Option.map_eq_some_iff] at hx
      obtain ⟨ra, hra, rfl⟩ := hx
      rw [List.length_map, hO.1] at hi
      have hr := List.getElem?_eq_getElem hi
      have hl6 := s4 _ _ (hO.2 i ra _ hra hr)
      have hrl := hrow _ (List.getElem_mem hi)
      walk_at "rd"
      obtain ⟨as, hLa, hA⟩ := hT
      generalize hfound : (rows.take i).foldl choF [[]] = found at hA
      have hfl : found.length ≤ 1000 := by rw [← hfound]; exact hpre i
      generalize hparts : rows[i] = parts at *
      refine .inl ⟨as.map V.ref, hLa, fun J2 W2 => ?_⟩
      refine lc2_gen W2 (fun D i2 acc Hx => Same H5 Hx ∧ ∃ bs : List Addr, acc = bs.map V.ref ∧ AsT Hx bs (choF (found.take i2) parts)) (fun D hD => ⟨Same.new hD, [], rfl, AsT.nil⟩) (fun D i2 acc Hx hD hi2 h e => h.1 _ _ hLa) ?_ ?_
      · rintro D i2 acc x Hx Hx' Nx hD hi2 ⟨sx, bs, rfl, hB⟩ e ⟨rfl, hx⟩ hN
        rw [List.getElem?_map, Option.map_eq_some_iff] at hx
        obtain ⟨u, hu, rfl⟩ := hx
        rw [List.length_map] at hi2
        have hi3 : i2 < found.length := by rw [← hA.1]; exact hi2
        have hf : found[i2]? = some found[i2] := List.getElem?_eq_getElem hi3
        have hu6 := hA.2 i2 u _ hu hf
        have ht2 : choF (found.take (i2 + 1)) parts = choF (found.take i2) parts ++ parts.map fun x => found[i2] ++ [x] := by
          unfold choF
          rw [List.take_add_one, hf, List.flatMap_append]
          simp
        walk_at "rd"
        refine .inl ⟨_, sx _ _ hl6, fun J3 W3 => ?_⟩
        refine lc1_gen W3 (fun j acc Hy => Same H5 Hy ∧ ∃ bs : List Addr, acc = bs.map V.ref ∧ AsT Hy bs (choF (found.take i2) parts ++ (parts.take j).map fun x => found[i2] ++ [x])) ⟨_, ⟨sx, bs, rfl, by simpa using hB⟩, e⟩ (fun j acc Hy hj h e => h.1 _ _ hl6) (fun j acc Hy l' l0 h hn => ⟨fun b o e3 => ?_, ?_⟩) ?_ ?_ ?_
        · have hbD : b ≠ D := ne_some e3 hD
          rw [upd_ne hbD]; exact h.1 b o e3
        · obtain ⟨_, bs2, rfl, hB2⟩ := h
          refine ⟨bs2, rfl, hB2.1, fun i' t' hs' h1' h2' => ?_⟩
          have h3' := hB2.2 i' t' hs' h1' h2'
          rw [upd_ne (fun e => by rw [e, hn] at h3'; cases h3')]
          exact h3'
        · rintro j acc Hy ⟨_, bs2, rfl, hB2⟩
          rw [List.length_map, hB2.1, List.length_append, List.length_map, choF_len]
          have h3 : (found.take i2).length ≤ 1000 := by rw [List.length_take]; omega
          have h4 : (parts.take j).length ≤ 1000 := by rw [List.length_take]; omega
          have h5 : (found.take i2).length * parts.length ≤ 1000 * 1000 := Nat.mul_le_mul h3 hrl
          exact Nat.lt_of_le_of_lt (by omega : _ ≤ 2000000) (by decide)
        · rintro j acc y Hy Hy' Qy hj ⟨sy, bs2, rfl, hB2⟩ e3 ⟨rfl, hy⟩ hQ
          rw [List.getElem?_map, Option.map_eq_some_iff] at hy
          obtain ⟨m, hm, rfl⟩ := hy
          walk_at "rd"
          refine ⟨_, sy _ _ hu6, ?_⟩
          rw [show (found[i2].map V.int ++ [V.int m] : List V) = (found[i2] ++ [m]).map V.int by rw [List.map_append]; rfl]
          have hln : found[i2].length ≤ 4 := by
            have h3 := cho_in (rows.take i) [[]] 0 (fun h hh => by rw [List.mem_singleton] at hh; rw [hh]; decide) found[i2] (by rw [hfound]; exact List.getElem_mem hi3)
            rw [List.length_take] at h3
            omega
          refine ⟨by rw [List.length_map, List.length_append]; exact Nat.le_trans (Nat.add_le_add_right hln 1) (by decide), fun q3 hq3 => ?_⟩
          have s7 := Same.new hq3 (o := .tup ((found[i2] ++ [m]).map V.int))
          refine hQ _ _ (s7 _ _ e3) ⟨sy.trans s7, bs2 ++ [q3], by rw [List.map_append]; rfl, ?_⟩
          have e8 : (fun x => found[i2] ++ [x]) <$> (parts.take (j + 1)) = (parts.take j).map (fun x => found[i2] ++ [x]) ++ [found[i2] ++ [m]] := by
            rw [List.take_add_one, hm]
            show List.map _ _ = _
            rw [List.map_append]
            rfl
          have e9 := (hB2.same s7).snoc (t := q3) (hs := found[i2] ++ [m]) upd_same
          rw [List.append_assoc, ← e8] at e9
          exact e9
        · rintro acc Hy ⟨sy, bs2, rfl, hB2⟩ e3
          refine hN _ Hy e3 ⟨sy, bs2, rfl, ?_⟩
          rw [ht2]
          rw [List.length_map, List.take_length] at hB2
          exact hB2
      · rintro D acc Hx hD ⟨sx, bs, rfl, hB⟩ e
        have hHD : H D = none := nn s4 hD
        refine ⟨s4.trans sx, D, rfl, hHD, bs, e, ?_⟩
        rw [cho_take hr, hfound]
        rw [List.length_map, hA.1, List.take_length] at hB
        exact hB
    · rintro σ H4 ⟨s4, L, v2, v3, v4, rfl, hL, hT⟩
      walk_at "rd"
      rw [List.length_map, hO.1, List.take_length] at hT
      exact q _ L s4 hL hT
/-- a comprehension whose elements are new lists of ints -/
theorem lcr_lists {J : It} {n : Nat} {G : Hp → Prop} {Y : Nat → Hp → V → Hp → Prop} (W : Walk J n G Y) {g : TG} {te : TE} {vs : List Nat} {σ : L2.St} {H : Hp} {Q : VK} (rows : List (List Int)) (hl : rows.length = n) (hn : n ≤ sizeLine) (hG : ∀ H3, Same H H3 → G H3)
    (hY : ∀ i x H H', Y i H x H' → Same H H')
    (hte : ∀ i x H1 H2 r (Qy : VK), i < n → Same H H1 → Y i H1 x H2 → rows[i]? = some r → (∀ p H4, Same H2 H4 → H2 p = none → H4 p = some (.lst (r.map V.int)) → Qy (.ref p) H4) → g x (wipe σ vs) H2 fun σ2 H2 => wipe σ2 vs = wipe σ vs ∧ te σ2 H2 Qy)
    (hq : ∀ D H3, H D = none → Same H H3 → LstL H3 D rows → Q (.ref D) H3) : LcR J g tYes te vs σ H Q := fun D hD => by
  refine lc_gen W (fun i acc H' => Same H H' ∧ ∃ bs : List Addr, acc = bs.map V.ref ∧ AsL H' bs (rows.take i) ∧ ∀ b ∈ bs, b ≠ D) hn ⟨Same.new hD, [], rfl, AsL.nil, by simp⟩ (fun i acc H' _ h _ => hG _ h.1) (fun i acc H' l h hn => ?_) (fun i acc x H1 H2 Qy hi ha h e hy hq => ?_) (fun acc H' ha h e => ?_)
  · obtain ⟨h1, bs, rfl, hB, hb⟩ := h
    exact ⟨fun b o e => by rw [upd_ne (ne_some e hD)]; exact h1 b o e, bs, rfl, hB.put hb, hb⟩
  · obtain ⟨h1, bs, rfl, hB, hb⟩ := h
    have hi2 : i < rows.length := by omega
    have hr := List.getElem?_eq_getElem hi2
    have e2 := hY _ _ _ _ hy _ _ e
    refine hte i x H1 H2 _ _ hi h1 hy hr fun p H4 s4 hp f4 => ?_
    refine hq _ _ (s4 _ _ e2) ⟨h1.trans ((hY _ _ _ _ hy).trans s4), bs ++ [p], by rw [List.map_append]; rfl, ?_, fun b hb2 => ?_⟩
    · rw [List.take_add_one, hr]
      exact (hB.same ((hY _ _ _ _ hy).trans s4)).snoc f4
    · rcases List.mem_append.mp hb2 with h | h
      · exact hb b h
      · rw [List.mem_singleton.mp h]
        exact fun e3 => by rw [e3, e2] at hp; cases hp
  · obtain ⟨h1, bs, rfl, hB, hb⟩ := h
    rw [← hl, List.take_length] at hB
    exact hq D H' hD h1 ⟨bs, e, hB⟩
def sp_Table_halves (K : PySem.W.Frag) (C : Addr) : Sp := fun vs H Q _ => ∃ (a p : Addr) (ss ps : List Int), vs = [.ref a, .ref p] ∧ TabAt C H a ss ∧ Sz ss ∧ H p = some (.tup (ps.map V.int)) ∧ Seat ss ps ∧ ∀ H' l, Same H H' → H l = none → LstT H' l (halI ps ss) → Q (.ref l) H'
def hrows (ps ss : List Int) : List (List Int) := (ps.zip ss).map fun z => hpl z.1 z.2
theorem hrows_get {ps ss : List Int} {i : Nat} {p s : Int} (hp : ps[i]? = some p) (hs : ss[i]? = some s) : (hrows ps ss)[i]? = some (hpl p s) := by
  have h : (ps.zip ss)[i]? = some (p, s) := by
    rw [List.getElem?_zip_eq_some]
    exact ⟨hp, hs⟩
  unfold hrows
  rw [List.getElem?_map, h]
  rfl
theorem cho_hal (zs : List (Int × Int)) : ∀ found : List (List Int), (zs.map fun z => hpl z.1 z.2).foldl choF found = zs.foldl halF found := by
  induction zs with
  | nil => intro found; rfl
  | cons z zs ih => intro found; rw [List.map_cons, List.foldl_cons, List.foldl_cons, ih]; rfl
theorem hal_cho (ps ss : List Int) (i : Nat) : ((hrows ps ss).take i).foldl choF [[]] = ((ps.zip ss).take i).foldl halF [[]] := by
  unfold hrows
  rw [← List.map_take, cho_hal]
theorem ok_Table_halves (T : Tx K mg) : FnOk P w K mg base CX0 3 T.f_Table_halves T.fd_Table_halves ["self", "seat"] (sp_Table_halves K T.c_Table) := by
  refine T.F_Table_halves.ok sc_Table_halves (fun vs H Q E h => ?_) (fun cdv A outer s H vs Q E hr h => ?_)
  · obtain ⟨a, p, ss, ps, rfl, _⟩ := h; rfl
  · obtain ⟨a, p, ss, ps, rfl, ⟨dx, t, h1, h2⟩, z, hp, hS, q⟩ := h
    refine ⟨_, (pss_cons (ps_expr (pe_call (ok_require_seat T) (hr.mono (by decide)) (by rfl) T.g_require_seat T.F_require_seat.kp T.b_require_seat .nil pass0 (pa_cons (pe_fld (pv 0) rfl) (pa_cons (pv 1) pa_nil))))
      (pss_one (ps_ret (pe_call (ok_all_choices T) (hr.mono (by decide)) (by rfl) T.g_all_choices T.F_all_choices.kp T.b_all_choices .nil pass0 (pa_cons (pe_lc (own := [("place", 2), ("size", 3)]) (g := (gTupH 2 (gCons (gName 2) (gCons (gName 3) gNil)))) (tt := tYes) rfl sc_Table_halves.nd (pi_z2H (by rfl) T.n_zip (pa_cons (pv 1) (pa_cons (pe_fld (pv 0) rfl) pa_nil))) (blkOk_by (own := [("place", 2), ("size", 3)]) (N := N_Table_halves) (sc := defScope d_Table_halves) (by decide +kernel)) (fun _ _ _ _ _ => (pg_tupH (n := 2) rfl (pgs_cons (pg_name (i := 2) sc_Table_halves.nd rfl (Or.inl rfl)) (pgs_cons (pg_name (i := 3) sc_Table_halves.nd rfl (Or.inl rfl)) pgs_nil)))) (fun _ _ _ _ _ => pts_nil) (fun _ _ _ _ _ => (pe_call (ok_half_places T) (hr.mono (by decide)) (by rfl) T.g_half_places T.F_half_places.kp T.b_half_places .nil pass0 (pa_cons (pv 2) (pa_cons (pv 3) pa_nil))))) pa_nil))))), ?_⟩
    have cl := T.cl_Table
    have no := T.no_Table_sizes
    walk_at "rh"
    refine ⟨false, t, ss, .ref p, rfl, h2, hS.b z hp, fun H1 s1 => ?_⟩
    refine ⟨_, _, _, s1 _ _ h1, cl, no, _, lookup_one _ _, t, rfl, false, false, ps.map V.int, s1 _ _ hp, ss.map V.int, s1 _ _ h2, by rw [List.length_map, List.length_map, hS.len], fun J W => ?_⟩
    have hzl : (ps.zip ss).length = ps.length := by rw [List.length_zip, hS.len, Nat.min_self]
    have hrl : (hrows ps ss).length = (ps.map V.int).length := by unfold hrows; rw [List.length_map, List.length_map, hzl]
    have hp4 : ps.length ≤ 4 := by rw [hS.len]; exact z.hi
    refine lcr_lists W (hrows ps ss) hrl (by rw [List.length_map]; exact Nat.le_trans hp4 (by decide)) (fun H3 s3 => ⟨s3 _ _ (s1 _ _ hp), s3 _ _ (s1 _ _ h2)⟩) (fun _ _ _ _ y => YPair.same y) ?_ ?_
    · rintro i x H3 H4 r Qy hi s3 ⟨T0, x1, y1, rfl, hT0, rfl, e1, e2⟩ hr hq
      simp only [List.getElem?_map, Option.map_eq_some_iff] at e1 e2
      obtain ⟨p0, hp0, rfl⟩ := e1
      obtain ⟨s0, hs0, rfl⟩ := e2
      rw [hrows_get hp0 hs0] at hr
      obtain rfl := Option.some.inj hr
      walk_at "rd"
      exact ⟨p0, s0, rfl, fun H' l s' hn hl => hq l H' s' hn hl⟩
    · intro D H3 hD s3 hL
      refine ⟨D, hrows ps ss, rfl, hL, by rw [hrl, List.length_map]; exact hp4, fun i => ?_, fun r hr => ?_, fun H4 l s4 hn hl => ?_⟩
      · rw [hal_cho]
        have h3 := hal_len ((ps.zip ss).take i) [[]]
        have h4 : ((ps.zip ss).take i).length ≤ 4 := by rw [List.length_take]; omega
        have h5 : 2 ^ ((ps.zip ss).take i).length ≤ 2 ^ 4 := Nat.pow_le_pow_right (by decide) h4
        simp only [List.length_cons, List.length_nil, Nat.zero_add, Nat.mul_one] at h3
        omega
      · unfold hrows at hr
        obtain ⟨zz, _, rfl⟩ := List.mem_map.mp hr
        have := hpl_len zz.1 zz.2
        omega
      · have e : choI (hrows ps ss) = halI ps ss := cho_hal _ _
        rw [e] at hl
        have s01 := s1.trans s3
        have hn0 : H l = none := by
          cases e2 : H l with
          | none => rfl
          | some o => rw [s01 _ _ e2] at hn; cases hn
        exact q _ l (s01.trans s4) hn0 hl
end

/-! ### the mathematics of the steps -/
section
theorem seat_cons {s p : Int} {ss ps : List Int} (h : Seat (s :: ss) (p :: ps)) : (0 ≤ p ∧ p < s) ∧ Seat ss ps :=
  ⟨h.ok 0 p s rfl rfl, ⟨by simpa using h.len, fun i q t h1 h2 => h.ok (i + 1) q t h1 h2⟩⟩
theorem Seat.cons {s p : Int} {ss ps : List Int} (h1 : 0 ≤ p) (h2 : p < s) (h : Seat ss ps) : Seat (s :: ss) (p :: ps) :=
  ⟨by rw [List.length_cons, List.length_cons, h.len], fun i q t e1 e2 => by
    cases i with
    | zero =>
      simp only [List.getElem?_cons_zero, Option.some.injEq] at e1 e2
      subst e1 e2
      exact ⟨h1, h2⟩
    | succ i => exact h.ok i q t e1 e2⟩
theorem Seat.nil : Seat [] [] := ⟨rfl, fun i q t h _ => by simp at h⟩
theorem mv_seat {g : Int → Int → Int} : ∀ {ps cs ss : List Int}, ps.length = ss.length → cs.length = ss.length → (∀ s ∈ ss, 1 ≤ s) → Seat ss (mv g ps cs ss)
  | [], [], [], _, _, _ => .nil
  | _ :: _, _, [], h, _, _ => by simp at h
  | [], _, _ :: _, h, _, _ => by simp at h
  | _, [], _ :: _, _, h, _ => by simp at h
  | _, _ :: _, [], _, h, _ => by simp at h
  | p :: ps, c :: cs, s :: ss, h1, h2, h3 => by
    have hs := h3 s (List.mem_cons_self ..)
    exact .cons (Int.emod_nonneg _ (by omega)) (Int.emod_lt_of_pos _ (by omega)) (mv_seat (by simpa using h1) (by simpa using h2) fun t ht => h3 t (List.mem_cons_of_mem _ ht))
theorem mv_undo {g h : Int → Int → Int} (e : ∀ p c s, h (g p c % s) c % s = p % s) : ∀ {ps cs ss : List Int}, Seat ss ps → cs.length = ss.length → mv h (mv g ps cs ss) cs ss = ps
  | [], [], [], _, _ => rfl
  | [], _ :: _, [], _, h => by simp at h
  | [], _, _ :: _, h, _ => by have := h.len; simp at this
  | _ :: _, _, [], h, _ => by have := h.len; simp at this
  | _ :: _, [], _ :: _, _, h => by simp at h
  | p :: ps, c :: cs, s :: ss, hS, hc => by
    obtain ⟨⟨h1, h2⟩, h3⟩ := seat_cons hS
    show (h (g p c % s) c % s) :: mv h (mv g ps cs ss) cs ss = p :: ps
    rw [mv_undo e h3 (by simpa using hc), e, Int.emod_eq_of_lt h1 h2]
theorem undo_bf (p c s : Int) : bw (fw p c % s) c % s = p % s := by
  unfold fw bw
  rw [Int.emod_sub_emod, Int.add_sub_cancel]
theorem undo_fb (p c s : Int) : fw (bw p c % s) c % s = p % s := by
  unfold fw bw
  rw [Int.emod_add_emod, Int.sub_add_cancel]
theorem mv_neg {g h : Int → Int → Int} (e : ∀ p c, h p (0 - c) = g p c) : ∀ {ps cs ss : List Int}, mv h ps (cs.map fun c => 0 - c) ss = mv g ps cs ss
  | [], _, _ => by simp [mv]
  | _ :: _, [], _ => by simp [mv]
  | _ :: _, _ :: _, [] => by simp [mv]
  | p :: ps, c :: cs, s :: ss => by
    show (h p (0 - c) % s) :: mv h ps (cs.map fun c => 0 - c) ss = (g p c % s) :: mv g ps cs ss
    rw [mv_neg e, e]
theorem neg_fw (p c : Int) : fw p (0 - c) = bw p c := by unfold fw bw; omega
theorem neg_bw (p c : Int) : bw p (0 - c) = fw p c := by unfold fw bw; omega
theorem mv_swap : ∀ {ps cs ds ss : List Int}, mv bw (mv fw ps cs ss) ds ss = mv fw (mv bw ps ds ss) cs ss
  | [], _, _, _ => by simp [mv]
  | _ :: _, [], _, ss => by
    cases ss <;> simp [mv]
  | _ :: _, _ :: _, [], ss => by cases ss <;> simp [mv]
  | _ :: _, _ :: _, _ :: _, [] => by simp [mv]
  | p :: ps, c :: cs, d :: ds, s :: ss => by
    show (bw (fw p c % s) d % s) :: mv bw (mv fw ps cs ss) ds ss = (fw (bw p d % s) c % s) :: mv fw (mv bw ps ds ss) cs ss
    rw [mv_swap]
    have e : bw (fw p c % s) d % s = fw (bw p d % s) c % s := by
      unfold fw bw
      rw [Int.emod_sub_emod, Int.emod_add_emod]
      congr 1
      omega
    rw [e]
/-- the places at which twice the call isn't zero -/
def odI (cs ss : List Int) : List Int := ((cs.zip ss).filter fun z => !decide (2 * z.1 % z.2 = 0)).map fun _ => 1
theorem same_moves : ∀ {ps cs ss : List Int}, ps.length = ss.length → cs.length = ss.length → (mv fw ps cs ss = mv bw ps cs ss ↔ odI cs ss = [])
  | [], [], [], _, _ => by simp [mv, odI]
  | _ :: _, _, [], h, _ => by simp at h
  | [], _, _ :: _, h, _ => by simp at h
  | _, [], _ :: _, _, h => by simp at h
  | _, _ :: _, [], _, h => by simp at h
  | p :: ps, c :: cs, s :: ss, h1, h2 => by
    have ih := same_moves (ps := ps) (cs := cs) (ss := ss) (by simpa using h1) (by simpa using h2)
    have e : (fw p c % s = bw p c % s) ↔ 2 * c % s = 0 := by
      rw [Int.emod_eq_emod_iff_emod_sub_eq_zero]
      unfold fw bw
      rw [show p + c - (p - c) = 2 * c by omega]
    show (fw p c % s) :: mv fw ps cs ss = (bw p c % s) :: mv bw ps cs ss ↔ _
    rw [List.cons.injEq, ih, e]
    unfold odI
    rw [List.zip_cons_cons, List.filter_cons]
    by_cases h : 2 * c % s = 0
    · simp [h]
    · simp [h]
/-! the order -/
theorem div_gcd_dvd {p s m : Nat} (hs : 0 < s) : s / p.gcd s ∣ m ↔ s ∣ p * m := by
  have hg : 0 < p.gcd s := Nat.gcd_pos_of_pos_right _ hs
  have e1 : s / p.gcd s * p.gcd s = s := Nat.div_mul_cancel (Nat.gcd_dvd_right _ _)
  have e2 : p / p.gcd s * p.gcd s = p := Nat.div_mul_cancel (Nat.gcd_dvd_left _ _)
  constructor
  · intro h
    rw [← e1]
    have h1 : s / p.gcd s * p.gcd s ∣ m * p := Nat.mul_dvd_mul h (Nat.gcd_dvd_left _ _)
    rw [Nat.mul_comm p m]
    exact h1
  · intro h
    have h1 : s / p.gcd s * p.gcd s ∣ p / p.gcd s * m * p.gcd s := by
      rw [e1, Nat.mul_right_comm, e2]
      exact h
    have h2 : s / p.gcd s ∣ p / p.gcd s * m := Nat.dvd_of_mul_dvd_mul_right hg h1
    have h3 : (s / p.gcd s).Coprime (p / p.gcd s) := (Nat.coprime_div_gcd_div_gcd hg).symm
    exact h3.dvd_of_dvd_mul_left h2
theorem ordS_dvd {c m : Nat} {z : Int × Int} (h : 1 ≤ z.2) : ordS c z ∣ m ↔ c ∣ m ∧ z.2 ∣ z.1 * m := by
  obtain ⟨p, s⟩ := z
  simp only at h
  obtain ⟨S, rfl⟩ := Int.eq_ofNat_of_zero_le (by omega : 0 ≤ s)
  have hS : 0 < S := by omega
  have e : ordS c (p, (S : Int)) = Nat.lcm c (S / p.natAbs.gcd S) := by
    unfold ordS
    simp only [Int.natAbs_natCast]
    rw [← Int.natCast_ediv, Int.natAbs_natCast]
  rw [e]
  have e2 : ((S : Nat) : Int) ∣ p * (m : Int) ↔ S ∣ p.natAbs * m := by
    rw [← Int.natAbs_dvd_natAbs, Int.natAbs_mul, Int.natAbs_natCast, Int.natAbs_natCast]
  simp only [e2]
  rw [← div_gcd_dvd hS]
  constructor
  · intro hd
    exact ⟨Nat.dvd_trans (Nat.dvd_lcm_left _ _) hd, Nat.dvd_trans (Nat.dvd_lcm_right _ _) hd⟩
  · rintro ⟨h1, h2⟩
    exact Nat.lcm_dvd h1 h2
theorem ord_dvd {m : Nat} : ∀ (zs : List (Int × Int)) (c : Nat), (∀ z ∈ zs, 1 ≤ z.2) → (zs.foldl ordS c ∣ m ↔ c ∣ m ∧ ∀ z ∈ zs, z.2 ∣ z.1 * (m : Int))
  | [], c, _ => by simp
  | z :: zs, c, h => by
    rw [List.foldl_cons, ord_dvd zs _ (fun y hy => h y (List.mem_cons_of_mem _ hy)), ordS_dvd (h z (List.mem_cons_self ..))]
    simp [and_assoc]
theorem ordI_dvd {ps ss : List Int} {m : Nat} (h : ∀ s ∈ ss, 1 ≤ s) : ordI ps ss ∣ m ↔ ∀ z ∈ ps.zip ss, z.2 ∣ z.1 * (m : Int) := by
  unfold ordI
  rw [ord_dvd _ _ (fun z hz => h z.2 (List.of_mem_zip (a := z.1) (b := z.2) hz).2)]
  simp
theorem ordS_pos {c : Nat} {z : Int × Int} (h : 1 ≤ z.2) (hc : 0 < c) : 0 < ordS c z := by
  unfold ordS
  apply Nat.lcm_pos hc
  have hg : 0 < Nat.gcd z.1.natAbs z.2.natAbs := Nat.gcd_pos_of_pos_right _ (by omega)
  have hle : Nat.gcd z.1.natAbs z.2.natAbs ≤ z.2.natAbs := Nat.gcd_le_right _ (by omega)
  have h1 : 1 ≤ z.2 / ((Nat.gcd z.1.natAbs z.2.natAbs : Nat) : Int) := Int.le_ediv_of_mul_le (by omega) (by omega)
  omega
theorem ordI_pos {ps ss : List Int} (h : ∀ s ∈ ss, 1 ≤ s) : 0 < ordI ps ss := by
  have gen : ∀ (zs : List (Int × Int)) (c : Nat), (∀ z ∈ zs, 1 ≤ z.2) → 0 < c → 0 < zs.foldl ordS c := by
    intro zs
    induction zs with
    | nil => intro c _ h; exact h
    | cons z zs ih => intro c h1 h2; exact ih _ (fun y hy => h1 y (List.mem_cons_of_mem _ hy)) (ordS_pos (h1 z (List.mem_cons_self ..)) h2)
  exact gen _ 1 (fun z hz => h z.2 (List.of_mem_zip (a := z.1) (b := z.2) hz).2) (by decide)
theorem dvd_emod {s c m : Int} : s ∣ (c % s) * m ↔ s ∣ c * m := by
  have e : c * m = (c % s) * m + s * ((c / s) * m) := by
    have h := Int.emod_add_mul_ediv c s
    calc c * m = (c % s + s * (c / s)) * m := by rw [h]
      _ = _ := by rw [Int.add_mul, Int.mul_assoc]
  rw [e]
  constructor
  · intro h; exact Int.dvd_add h (Int.dvd_mul_right _ _)
  · intro h
    have := Int.dvd_sub h (Int.dvd_mul_right s ((c / s) * m))
    rwa [Int.add_sub_cancel] at this
/-- a multiple of the call stays at the seat -/
theorem mv_fix : ∀ {ps cs ss : List Int} {m : Nat}, Seat ss ps → cs.length = ss.length → (∀ s ∈ ss, 1 ≤ s) → (mv fw ps (cs.map fun c => c * (m : Int)) ss = ps ↔ ∀ z ∈ (mv fw (List.replicate ss.length 0) cs ss).zip ss, z.2 ∣ z.1 * (m : Int))
  | [], [], [], _, _, _, _ => by simp [mv]
  | [], _, _ :: _, _, h, _, _ => by have := h.len; simp at this
  | _ :: _, _, [], _, h, _, _ => by have := h.len; simp at this
  | _ :: _, [], _ :: _, _, _, h, _ => by simp at h
  | [], _ :: _, [], _, _, h, _ => by simp at h
  | p :: ps, c :: cs, s :: ss, m, hS, hc, hp => by
    obtain ⟨⟨h1, h2⟩, h3⟩ := seat_cons hS
    have ih := mv_fix (m := m) h3 (cs := cs) (by simpa using hc) (fun t ht => hp t (List.mem_cons_of_mem _ ht))
    show (fw p (c * (m : Int)) % s) :: mv fw ps (cs.map fun c => c * (m : Int)) ss = p :: ps ↔ ∀ z ∈ (fw 0 c % s, s) :: (mv fw (List.replicate ss.length 0) cs ss).zip ss, z.2 ∣ z.1 * (m : Int)
    rw [List.cons.injEq, ih, List.forall_mem_cons]
    have e : fw p (c * (m : Int)) % s = p ↔ s ∣ (fw 0 c % s) * (m : Int) := by
      rw [dvd_emod]
      unfold fw
      rw [Int.zero_add]
      constructor
      · intro h
        have h4 : (p + c * (m : Int)) % s = p % s := by rw [h, Int.emod_eq_of_lt h1 h2]
        rw [Int.emod_eq_emod_iff_emod_sub_eq_zero, Int.add_comm p, Int.add_sub_cancel] at h4
        exact Int.dvd_of_emod_eq_zero h4
      · intro h
        have h4 : (p + c * (m : Int)) % s = p % s := by
          rw [Int.emod_eq_emod_iff_emod_sub_eq_zero, Int.add_comm p, Int.add_sub_cancel]
          exact Int.emod_eq_zero_of_dvd h
        rw [h4, Int.emod_eq_of_lt h1 h2]
    rw [e]
theorem mv_order {ps cs ss : List Int} (hS : Seat ss ps) (hc : cs.length = ss.length) (hp : ∀ s ∈ ss, 1 ≤ s) : mv fw ps (cs.map fun c => c * ((ordI (mv fw (List.replicate ss.length 0) cs ss) ss : Nat) : Int)) ss = ps :=
  (mv_fix hS hc hp).mpr ((ordI_dvd hp).mp (Nat.dvd_refl _))
theorem mv_half_order {ps cs ss : List Int} (hS : Seat ss ps) (hc : cs.length = ss.length) (hp : ∀ s ∈ ss, 1 ≤ s) {n : Nat} (hn : ordI (mv fw (List.replicate ss.length 0) cs ss) ss = n) : mv fw ps (cs.map fun c => c * ((n / 2 : Nat) : Int)) ss = ps ↔ n = 1 := by
  rw [mv_fix hS hc hp, ← ordI_dvd hp, hn]
  have hpos : 0 < n := by rw [← hn]; exact ordI_pos hp
  constructor
  · intro h
    by_cases h0 : n / 2 = 0
    · omega
    · have := Nat.le_of_dvd (by omega) h
      omega
  · rintro rfl
    exact Nat.dvd_zero _
/-! the halves -/
theorem hpl_mem {h s q : Int} (h0 : 0 ≤ h) (h1 : h < s) (e : (h + h) % s = q) : h ∈ hpl q s := by
  unfold hpl
  rw [List.mem_map]
  by_cases hl : h + h < s
  · rw [Int.emod_eq_of_lt (by omega) hl] at e
    refine ⟨q, List.mem_filter.mpr ⟨by simp, by simp; omega⟩, by omega⟩
  · have e2 : (h + h) % s = h + h - s := by
      have h3 : (h + h - s) % s = (h + h) % s := by rw [Int.sub_emod_right]
      rw [← h3, Int.emod_eq_of_lt (by omega) (by omega)]
    refine ⟨q + s, List.mem_filter.mpr ⟨by simp, by simp; omega⟩, by omega⟩
theorem hal_gen : ∀ {hs qs ss : List Int} (found : List (List Int)) (pre : List Int), Seat ss hs → qs = mv fw hs hs ss → pre ∈ found → pre ++ hs ∈ (qs.zip ss).foldl halF found
  | [], qs, [], found, pre, _, e, hp => by
    subst e
    simpa [mv] using hp
  | [], _, _ :: _, _, _, h, _, _ => by have := h.len; simp at this
  | _ :: _, _, [], _, _, h, _, _ => by have := h.len; simp at this
  | h :: hs, qs, s :: ss, found, pre, hS, e, hp => by
    obtain ⟨⟨h1, h2⟩, h3⟩ := seat_cons hS
    subst e
    show pre ++ h :: hs ∈ (mv fw hs hs ss |>.zip ss).foldl halF (halF found (fw h h % s, s))
    rw [show pre ++ h :: hs = (pre ++ [h]) ++ hs by simp]
    refine hal_gen _ _ h3 rfl ?_
    unfold halF
    rw [List.mem_flatMap]
    exact ⟨pre, hp, List.mem_map.mpr ⟨h, hpl_mem h1 h2 rfl, rfl⟩⟩
theorem hal_self {hs ss : List Int} (h : Seat ss hs) : hs ∈ halI (mv fw hs hs ss) ss := hal_gen [[]] [] h rfl (by simp)
theorem mv_sum : ∀ {ps cs ss : List Int}, mv fw (mv fw ps cs ss) (mv bw ps cs ss) ss = mv fw ps ps (if cs.length < ss.length then ss.take cs.length else ss)
  | ps, cs, ss => by
    induction ps generalizing cs ss with
    | nil => simp [mv]
    | cons p ps ih =>
      cases cs with
      | nil => cases ss <;> simp [mv]
      | cons c cs =>
        cases ss with
        | nil => simp [mv]
        | cons s ss =>
          have e : fw (fw p c % s) (bw p c % s) % s = fw p p % s := by
            unfold fw bw
            rw [Int.emod_add_emod, Int.add_emod_emod]
            congr 1
            omega
          show (fw (fw p c % s) (bw p c % s) % s) :: mv fw (mv fw ps cs ss) (mv bw ps cs ss) ss = _
          rw [e, ih]
          by_cases h : cs.length < ss.length
          · rw [if_pos h, if_pos (by simpa using h)]; rfl
          · rw [if_neg h, if_neg (by simpa using h)]; rfl
theorem mv_sum' {ps cs ss : List Int} (h : cs.length = ss.length) : mv fw (mv fw ps cs ss) (mv bw ps cs ss) ss = mv fw ps ps ss := by
  rw [mv_sum, if_neg (by omega)]
/-! a product of two sizes -/
theorem ord_prod {p a b : Int} (ha : 1 ≤ a) (hb : 1 ≤ b) (hg : Nat.gcd a.natAbs b.natAbs = 1) : ordI [p] [a * b] = ordI [p % a, p % b] [a, b] := by
  have hab : 1 ≤ a * b := by
    have := Int.mul_le_mul ha hb (by omega) (by omega)
    simpa using this
  have key : ∀ m : Nat, ordI [p] [a * b] ∣ m ↔ ordI [p % a, p % b] [a, b] ∣ m := by
    intro m
    rw [ordI_dvd (by simpa using hab), ordI_dvd (by simpa using ⟨ha, hb⟩)]
    simp only [List.zip_cons_cons, List.zip_nil_left, List.forall_mem_cons, List.mem_singleton, forall_eq, List.not_mem_nil, false_implies, implies_true, and_true, List.zip_nil_right]
    rw [dvd_emod, dvd_emod]
    constructor
    · intro h
      exact ⟨Int.dvd_trans (Int.dvd_mul_right _ _) h, Int.dvd_trans (Int.dvd_mul_left _ _) h⟩
    · rintro ⟨h1, h2⟩
      rw [← Int.natAbs_dvd_natAbs] at h1 h2 ⊢
      rw [Int.natAbs_mul a b]
      exact Nat.Coprime.mul_dvd_of_dvd_of_dvd hg h1 h2
  exact Nat.dvd_antisymm ((key _).mpr (Nat.dvd_refl _)) ((key _).mp (Nat.dvd_refl _))
end

/-! ### the law's draws -/
section
variable {P : Program} {w : World} {K : PySem.W.Frag} {mg : Str → Option Value} {base : Heap}
def Src (H : Hp) (a : Addr) : Prop := ∃ s c d : Int, H a = some (.lst [.int s, .int c, .int d])
theorem Src.same {H H' : Hp} {a : Addr} (e : Same H H') (h : Src H a) : Src H' a := by
  obtain ⟨s, c, d, h⟩ := h
  exact ⟨s, c, d, e _ _ h⟩
theorem Src.ne {H : Hp} {a p : Addr} (h : Src H a) (hp : H p = none) : p ≠ a := fun e => by
  obtain ⟨s, c, d, h⟩ := h
  rw [e, h] at hp
  cases hp
theorem upd_none_of {H : Hp} {p q : Addr} {o : HO} (h : upd H p o q = none) : H q = none ∧ q ≠ p := by
  unfold upd at h
  by_cases e : q = p
  · rw [if_pos e] at h; cases h
  · rw [if_neg e] at h; exact ⟨h, e⟩
theorem Src.put {H : Hp} {a p : Addr} {o : HO} (h : Src H a) (n : a ≠ p) : Src (upd H p o) a := by
  obtain ⟨s, c, d, h⟩ := h
  exact ⟨s, c, d, by rw [upd_ne n]; exact h⟩
def sp_law_mixed (K : PySem.W.Frag) : Sp := fun vs H Q _ => ∃ c d : Int, vs = [.int c, .int d] ∧ ∀ r : Int, Q (.int r) H
theorem ok_law_mixed (T : Tx K mg) : FnOk P w K mg base CX0 1 T.f_law_mixed T.fd_law_mixed ["_law_cell", "_law_draw"] (sp_law_mixed K) := by
  refine T.F_law_mixed.ok sc_law_mixed (fun vs H Q E h => ?_) (fun cdv A outer s H vs Q E hr h => ?_)
  · obtain ⟨c, d, rfl, _⟩ := h; rfl
  · obtain ⟨c, d, rfl, q⟩ := h
    refine ⟨_, (pss_cons (ps_set (i := 2) sc_law_mixed.nd rfl (Or.inl rfl) (pe_op op_mod (pe_op op_mulA (pe_op op_add (pe_op op_mod (pv 0) pe_int) pe_int) (pe_op op_add (pe_op op_mulA (pv 1) pe_int) pe_int)) pe_int))
      (pss_cons (ps_set (i := 2) sc_law_mixed.nd rfl (Or.inl rfl) (pe_op op_mod (pe_op op_mulA (pe_op op_add (pv 2) (pe_op op_mulA (pe_op op_mod (pe_op op_fdivW (pv 0) pe_int) pe_int) (pe_op op_add (pv 1) pe_int))) pe_int) pe_int))
      (pss_cons (ps_set (i := 2) sc_law_mixed.nd rfl (Or.inl rfl) (pe_op op_mod (pe_op op_mulA (pv 2) (pe_op op_add (pe_op op_add (pe_op op_fdivW (pv 2) pe_int) pe_int) (pv 1))) pe_int))
      (pss_one (ps_ret (pe_op op_mod (pe_op op_mulA (pv 2) (pe_op op_add (pe_op op_fdivW (pv 2) pe_int) pe_int)) pe_int)))))), ?_⟩
    walk_at "rd"
    refine ⟨.inr (.inl (by decide)), .inl ?_, .inl ?_, .inr (.inl (by decide)), .inl ?_, .inl ?_, q _⟩
    · omega
    · omega
    · generalize ((c % 2147483646 + 1) * (d * 7919 + 104729) % 2147483647 + c / 2147483646 % 1000003 * (d + 31)) * 48271 = z
      omega
    · generalize ((c % 2147483646 + 1) * (d * 7919 + 104729) % 2147483647 + c / 2147483646 % 1000003 * (d + 31)) * 48271 % 2147483629 * (((c % 2147483646 + 1) * (d * 7919 + 104729) % 2147483647 + c / 2147483646 % 1000003 * (d + 31)) * 48271 % 2147483629 / 1013 + 69621 + d) = z
      omega
def sp_law_take (K : PySem.W.Frag) : Sp := fun vs H Q _ => ∃ (a : Addr) (n : Int), vs = [.ref a, .int n] ∧ Src H a ∧ 0 < n ∧ n.natAbs < 2 ^ 8000 ∧ ∀ H' r, Sx a H H' → Src H' a → 0 ≤ r → r < n → Q (.int r) H'
theorem ok_law_take (T : Tx K mg) : FnOk P w K mg base CX0 2 T.f_law_take T.fd_law_take ["_law_source_here", "_law_count"] (sp_law_take K) := by
  refine T.F_law_take.ok sc_law_take (fun vs H Q E h => ?_) (fun cdv A outer s H vs Q E hr h => ?_)
  · obtain ⟨a, n, rfl, _⟩ := h; rfl
  · obtain ⟨a, n, rfl, ⟨s, c, d, hs⟩, hn, hb, q⟩ := h
    refine ⟨_, (pss_cons (ps_if (pt_cmpR op_ge (pe_ix ix_lH (pv 0) pe_int (fun _ _ => rfl)) (pe_op op_pow pe_int pe_int) (nomark _)) (pss_cons (ps_set (i := 2) sc_law_take.nd rfl (Or.inl rfl) (pe_op op_mod (pe_ix ix_lH (pv 0) pe_int (fun _ _ => rfl)) (pv 1)))
        (pss_cons (ps_asg (pe_op op_fdivW (pe_ix ix_lH (pv 0) pe_int (fun _ _ => rfl)) (pv 1)) (pg_sub (pv 0) pe_int set_lH))
        (pss_one (ps_ret (pv 2))))) pss_nil)
      (pss_cons (ps_asg (pe_op op_add (pe_ix ix_lH (pv 0) pe_int (fun _ _ => rfl)) pe_int) (pg_sub (pv 0) pe_int set_lH))
      (pss_one (ps_ret (pe_op op_mod (pe_call (ok_law_mixed T) (hr.mono (by decide)) (by rfl) T.g_law_mixed T.F_law_mixed.kp T.b_law_mixed .nil pass0 (pa_cons (pe_ix ix_lH (pv 0) pe_int (fun _ _ => rfl)) (pa_cons (pe_ix ix_lH (pv 0) pe_int (fun _ _ => rfl)) pa_nil))) (pv 1)))))), ?_⟩
    walk_at "rh"
    by_cases h : 1000000000000000000 ≤ s
    · rw [if_pos h]
      exact ⟨wide_div hn hb (by decide) (by decide), q _ _ Sx.put ⟨s / n, c, d, upd_same⟩ (Int.emod_nonneg _ (by omega)) (Int.emod_lt_of_pos _ hn)⟩
    · rw [if_neg h]
      refine ⟨c, d + 1, rfl, fun r => ?_⟩
      walk_at "rd"
      exact q _ _ Sx.put ⟨s, c, d + 1, upd_same⟩ (Int.emod_nonneg _ (by omega)) (Int.emod_lt_of_pos _ hn)
theorem take_small {n : Int} (h : 0 < n) (h2 : n < 2 ^ 64) : n.natAbs < 2 ^ 8000 := Nat.lt_of_lt_of_le (by omega : n.natAbs < 2 ^ 64) (Nat.pow_le_pow_right (by decide) (by decide))
def sp_law_source (K : PySem.W.Frag) : Sp := fun vs H Q _ => ∃ c : Int, vs = [.int c] ∧ ∀ H' a, Same H H' → H a = none → Src H' a → Q (.ref a) H'
theorem ok_law_source (T : Tx K mg) : FnOk P w K mg base CX0 1 T.f_law_source T.fd_law_source ["_law_cell"] (sp_law_source K) := by
  refine T.F_law_source.ok sc_law_source (fun vs H Q E h => ?_) (fun cdv A outer s H vs Q E hr h => ?_)
  · obtain ⟨c, rfl, _⟩ := h; rfl
  · obtain ⟨c, rfl, q⟩ := h
    refine ⟨_, (pss_one (ps_ret (pe_lst (pa_cons (pv 0) (pa_cons (pv 0) (pa_cons pe_int pa_nil)))))), ?_⟩
    walk_at "rd"
    intro p hp
    exact q _ p (Same.new hp) hp ⟨_, _, _, upd_same⟩
/-- a comprehension whose elements draw -/
theorem lcr_draw {J : It} {n : Nat} {G : Hp → Prop} {Y : Nat → Hp → V → Hp → Prop} (w : Walk J n G Y) {g : TG} {te : TE} {vs : List Nat} {σ : L2.St} {H1 : Hp} {Q : VK} {a : Addr} (R : Nat → V → Prop) (hs1 : Src H1 a) (hn : n ≤ sizeLine)
    (hG : ∀ H, Sx a H1 H → G H) (hY : ∀ i x H H', Y i H x H' → Same H H')
    (hs : ∀ i x H H' (Qy : VK), i < n → Sx a H1 H → Src H' a → Y i H x H' → (∀ y H4, Sx a H' H4 → Src H4 a → R i y → Qy y H4) → g x (wipe σ vs) H' fun σ2 H2 => wipe σ2 vs = wipe σ vs ∧ te σ2 H2 Qy)
    (hd : ∀ D acc H, H1 D = none → Sx a H1 H → Src H a → acc.length = n → (∀ (i : Nat) y, acc[i]? = some y → R i y) → H D = some (.lst acc) → Q (.ref D) H) : LcR J g tYes te vs σ H1 Q := fun D hD => by
  have nDa : D ≠ a := hs1.ne hD
  refine lc_gen w (fun i acc H => Sx a H1 H ∧ Src H a ∧ acc.length = i ∧ ∀ (j : Nat) y, acc[j]? = some y → R j y) hn ⟨Sx.of (Same.new hD), hs1.same (Same.new hD), rfl, fun j y h => by simp at h⟩ (fun i acc H _ h _ => hG H h.1) (fun i acc H l h _ => ⟨fun b o nb e => ?_, h.2.1.put nDa.symm, h.2.2⟩) (fun i acc x H H' Qy hi ha h e hy hq => ?_) (fun acc H ha h e => hd D acc H hD h.1 h.2.1 ha h.2.2.2 e)
  · rw [upd_ne (ne_some e hD)]
    exact h.1 b o nb e
  · refine hs i x H H' Qy hi h.1 (h.2.1.same (hY _ _ _ _ hy)) hy fun y H4 s4 hs4 hR => hq y H4 (s4 _ _ nDa (hY _ _ _ _ hy _ _ e)) ⟨(h.1.trans (Sx.of (hY _ _ _ _ hy))).trans s4, hs4, by rw [List.length_append, h.2.2.1]; rfl, fun j z hj => ?_⟩
    by_cases hlt : j < acc.length
    · rw [List.getElem?_append_left hlt] at hj
      exact h.2.2.2 j z hj
    · rw [List.getElem?_append_right (by omega)] at hj
      cases hk : j - acc.length with
      | zero =>
        rw [hk] at hj
        have e1 : j = i := by omega
        rw [e1]
        simp only [List.getElem?_cons_zero, Option.some.injEq] at hj
        rw [← hj]; exact hR
      | succ m => rw [hk] at hj; simp at hj
theorem ints_of {acc : List V} {R : Nat → Int → Prop} (h : ∀ (i : Nat) y, acc[i]? = some y → ∃ n, y = V.int n ∧ R i n) : ∃ ns : List Int, acc = ns.map V.int ∧ ∀ (i : Nat) n, ns[i]? = some n → R i n := by
  have key : ∀ (acc : List V) (k : Nat), (∀ (i : Nat) y, acc[i]? = some y → ∃ n, y = V.int n ∧ R (i + k) n) → ∃ ns : List Int, acc = ns.map V.int ∧ ∀ (i : Nat) n, ns[i]? = some n → R (i + k) n := by
    intro acc
    induction acc with
    | nil => intro k _; exact ⟨[], rfl, fun i n h => by simp at h⟩
    | cons x r ih =>
      intro k h
      obtain ⟨n, e, hn⟩ := h 0 x rfl
      obtain ⟨ns, e2, h2⟩ := ih (k + 1) fun i y hy => by
        obtain ⟨m, e3, h3⟩ := h (i + 1) y hy
        exact ⟨m, e3, by rw [show i + (k + 1) = i + 1 + k by omega]; exact h3⟩
      refine ⟨n :: ns, by rw [e, e2]; rfl, fun i m hm => ?_⟩
      cases i with
      | zero =>
        simp only [List.getElem?_cons_zero, Option.some.injEq] at hm
        rw [← hm]; exact hn
      | succ i =>
        have := h2 i m hm
        rw [show i + (k + 1) = i + 1 + k by omega] at this
        exact this
  obtain ⟨ns, e, h2⟩ := key acc 0 (fun i y hy => h i y hy)
  exact ⟨ns, e, fun i n hn => h2 i n hn⟩
/-- a list of ints at an index that is drawn -/
theorem atI_ints {ns : List Int} {i : Int} (h0 : 0 ≤ i) (h1 : i < ns.length) : ∃ n, n ∈ ns ∧ atI (ns.map V.int) i = some (.int n) := by
  obtain ⟨v, hv, e⟩ := atI_in (xs := ns.map V.int) h0 (by rw [List.length_map]; exact h1)
  obtain ⟨n, hn, rfl⟩ := List.mem_map.mp hv
  exact ⟨n, hn, e⟩
end

section
variable {P : Program} {w : World} {K : PySem.W.Frag} {mg : Str → Option Value} {base : Heap}
def sp_law_big (K : PySem.W.Frag) : Sp := fun vs H Q _ => ∃ a : Addr, vs = [.ref a] ∧ Src H a ∧ ∀ H' r, Sx a H H' → Src H' a → 1 ≤ r → r < 2 ^ 100 → Q (.int r) H'
theorem ok_law_big (T : Tx K mg) : FnOk P w K mg base CX0 3 T.f_law_big T.fd_law_big ["_law_source_here"] (sp_law_big K) := by
  refine T.F_law_big.ok sc_law_big (fun vs H Q E h => ?_) (fun cdv A outer s H vs Q E hr h => ?_)
  · obtain ⟨a, rfl, _⟩ := h; rfl
  · obtain ⟨a, rfl, hs, q⟩ := h
    refine ⟨_, (pss_cons (ps_set (i := 1) sc_law_big.nd rfl (Or.inl rfl) pe_int)
      (pss_cons (ps_for PassesOwn.never rfl (pi_range1H (by rfl) T.n_range (pa_cons pe_int pa_nil)) (pg_name (i := 2) sc_law_big.nd rfl (Or.inl rfl))
        (pss_one (ps_set (i := 1) sc_law_big.nd rfl (Or.inl rfl) (pe_op op_add (pe_op op_mulA (pv 1) (pe_op op_pow pe_int pe_int)) (pe_call (ok_law_take T) (hr.mono (by decide)) (by rfl) T.g_law_take T.F_law_take.kp T.b_law_take .nil pass0 (pa_cons (pv 0) (pa_cons (pe_op op_pow pe_int pe_int) pa_nil)))))))
      (pss_one (ps_ret (pe_op op_add pe_int (pv 1)))))), ?_⟩
    walk_at "rd"
    intro J W
    refine forr W (fun i σ H' => Sx a H H' ∧ Src H' a ∧ ∃ (n : Int) (v : Option V), σ = [some (V.ref a), some (V.int n), v] ∧ 0 ≤ n ∧ n < (10 : Int) ^ (9 * i)) ⟨Sx.refl, hs, 0, none, rfl, by decide, by decide⟩ (fun _ _ _ _ _ => trivial) ?_ ?_
    · rintro i x σ H1 H2 hi ⟨s1, hs1, n, v, rfl, n0, n1⟩ ⟨rfl, rfl⟩
      walk_at "rd"
      refine ⟨.inr (.inl (by decide)), a, 1000000000, rfl, hs1, by decide, take_small (by decide) (by decide), fun H3 r s3 hs3 r0 r1 => ⟨r, rfl, s1.trans s3, hs3, by omega, ?_⟩⟩
      rw [Nat.mul_succ, Int.pow_add]
      have e : (10 : Int) ^ 9 = 1000000000 := by decide
      rw [e]
      omega
    · rintro σ H1 ⟨s1, hs1, n, v, rfl, n0, n1⟩
      walk_at "rd"
      have e : (10 : Int) ^ (9 * 3) = 1000000000000000000000000000 := by decide
      rw [e] at n1
      exact q _ _ s1 hs1 (by omega) (by omega)
def sp_law_rings (K : PySem.W.Frag) : Sp := fun vs H Q _ => ∃ a : Addr, vs = [.ref a] ∧ Src H a ∧ ∀ H' l ss, Sx a H H' → Src H' a → H l = none → H' l = some (.lst (ss.map V.int)) → l ≠ a → Sz ss → Q (.ref l) H'
theorem ok_law_rings (T : Tx K mg) : FnOk P w K mg base CX0 4 T.f_law_rings T.fd_law_rings ["_law_source_here"] (sp_law_rings K) := by
  refine T.F_law_rings.ok sc_law_rings (fun vs H Q E h => ?_) (fun cdv A outer s H vs Q E hr h => ?_)
  · obtain ⟨a, rfl, _⟩ := h; rfl
  · obtain ⟨a, rfl, hs, q⟩ := h
    refine ⟨_, (pss_cons (ps_set (i := 1) sc_law_rings.nd rfl (Or.inl rfl) (pe_lst (pa_cons pe_int (pa_cons pe_int (pa_cons pe_int (pa_cons pe_int (pa_cons pe_int (pa_cons pe_int (pa_cons pe_int (pa_cons pe_int (pa_cons pe_int (pa_cons pe_int pa_nil))))))))))))
      (pss_cons (ps_set (i := 2) sc_law_rings.nd rfl (Or.inl rfl) (pe_lst pa_nil))
      (pss_cons (ps_for PassesOwn.never rfl (pi_range1H (by rfl) T.n_range (pa_cons (pe_op op_add pe_int (pe_call (ok_law_take T) (hr.mono (by decide)) (by rfl) T.g_law_take T.F_law_take.kp T.b_law_take .nil pass0 (pa_cons (pv 0) (pa_cons pe_int pa_nil)))) pa_nil)) (pg_name (i := 3) sc_law_rings.nd rfl (Or.inl rfl))
        (pss_cons (ps_set (i := 4) sc_law_rings.nd rfl (Or.inl rfl) (pe_lst (pa_cons (pe_ix ix_lH (pv 1) (pe_call (ok_law_take T) (hr.mono (by decide)) (by rfl) T.g_law_take T.F_law_take.kp T.b_law_take .nil pass0 (pa_cons (pv 0) (pa_cons pe_int pa_nil))) (fun _ _ => rfl)) (pa_cons (pe_op op_shl pe_int (pe_call (ok_law_take T) (hr.mono (by decide)) (by rfl) T.g_law_take T.F_law_take.kp T.b_law_take .nil pass0 (pa_cons (pv 0) (pa_cons pe_int pa_nil)))) (pa_cons (pe_call (ok_law_big T) (hr.mono (by decide)) (by rfl) T.g_law_big T.F_law_big.kp T.b_law_big .nil pass0 (pa_cons (pv 0) pa_nil)) pa_nil)))))
        (pss_one (ps_expr (pe_append (pv 2) (pa_cons (pe_ix ix_lH (pv 4) (pe_ix ix_lH (pe_lst (pa_cons pe_int (pa_cons pe_int (pa_cons pe_int (pa_cons pe_int (pa_cons pe_int pa_nil)))))) (pe_call (ok_law_take T) (hr.mono (by decide)) (by rfl) T.g_law_take T.F_law_take.kp T.b_law_take .nil pass0 (pa_cons (pv 0) (pa_cons pe_int pa_nil))) (fun _ _ => rfl)) (fun _ _ => rfl)) pa_nil))))))
      (pss_one (ps_ret (pv 2)))))), ?_⟩
    walk_at "rd"
    intro p hp p1 hp1
    obtain ⟨hp1n, hp1p⟩ := upd_none_of hp1
    have npa : p ≠ a := hs.ne hp
    have np1a : p1 ≠ a := hs.ne hp1n
    generalize hsm : ([V.int 1, V.int 2, V.int 3, V.int 4, V.int 5, V.int 6, V.int 8, V.int 9, V.int 12, V.int 15] : List V) = small at hp1 ⊢
    have hsm' : small = ([1, 2, 3, 4, 5, 6, 8, 9, 12, 15] : List Int).map V.int := hsm.symm
    have s2 : Same H (upd (upd H p (.lst small)) p1 (.lst [])) := (Same.new hp).trans (Same.new hp1)
    have f1 : (upd (upd H p (.lst small)) p1 (.lst [])) p = some (.lst small) := by rw [upd_ne hp1p.symm]; exact upd_same
    have f2 : (upd (upd H p (.lst small)) p1 (.lst [])) p1 = some (.lst []) := upd_same
    generalize upd (upd H p (HO.lst small)) p1 (HO.lst []) = H2 at s2 f1 f2 ⊢
    refine ⟨a, 4, rfl, hs.same s2, by decide, take_small (by decide) (by decide), fun H3 r s3 hs3 r0 r1 => ⟨r, rfl, by omega, by omega, fun J W => ?_⟩⟩
    have g1 := s3 _ _ npa f1
    have g2 := s3 _ _ np1a f2
    have s23 : Sx a H H3 := (Sx.of s2).trans s3
    refine forr W (fun i σ H' => Sx a H H' ∧ Src H' a ∧ H' p = some (.lst small) ∧ ∃ (ns : List Int) (v3 v4 : Option V), σ = [some (V.ref a), some (V.ref p), some (V.ref p1), v3, v4] ∧ H' p1 = some (.lst (ns.map V.int)) ∧ ns.length = i ∧ ∀ n ∈ ns, 1 ≤ n ∧ n < 2 ^ 100) ⟨s23, hs3, g1, [], none, none, rfl, g2, rfl, by simp⟩ (fun _ _ _ _ _ => trivial) ?_ ?_
    · rintro i x σ H4 H5 hi ⟨s4, hs4, f4, ns, v3, v4, rfl, f5, hl, hb⟩ ⟨rfl, rfl⟩
      have hi4 : i < 4 := by omega
      walk_at "rd"
      refine ⟨a, 10, rfl, hs4, by decide, take_small (by decide) (by decide), fun H6 r6 s6 hs6 r60 r61 => ⟨r6, rfl, small, s6 _ _ npa f4, ?_⟩⟩
      obtain ⟨n1, hn1, en1⟩ := atI_ints (ns := [1, 2, 3, 4, 5, 6, 8, 9, 12, 15]) r60 r61
      rw [hsm', en1]
      refine ⟨_, rfl, a, 70, rfl, hs6, by decide, take_small (by decide) (by decide), fun H7 r7 s7 hs7 r70 r71 => ⟨r7, rfl, ⟨r70, by omega, by decide⟩, ?_⟩⟩
      refine ⟨a, rfl, hs7, fun H8 r8 s8 hs8 r80 r81 => ?_⟩
      walk_at "rd"
      intro q1 hq1
      have f8 : H8 p1 = some (.lst (ns.map V.int)) := s8 _ _ np1a (s7 _ _ np1a (s6 _ _ np1a f5))
      have p8 : H8 p = some (.lst small) := s8 _ _ npa (s7 _ _ npa (s6 _ _ npa f4))
      have nq1a : q1 ≠ a := hs8.ne hq1
      have s9 := Same.new hq1 (o := .lst [.int n1, .int (1 * 2 ^ r7.toNat), .int r8])
      have f9q : (upd H8 q1 (.lst [.int n1, .int (1 * 2 ^ r7.toNat), .int r8])) q1 = some (.lst [.int n1, .int (1 * 2 ^ r7.toNat), .int r8]) := upd_same
      generalize upd H8 q1 (HO.lst [.int n1, .int (1 * 2 ^ r7.toNat), .int r8]) = H9 at s9 f9q ⊢
      refine ⟨⟨_, s9 _ _ f8⟩, ?_⟩
      intro q2 hq2
      have hs9 := hs8.same s9
      have nq2a : q2 ≠ a := hs9.ne hq2
      have s10 := Same.new hq2 (o := .lst [.int 0, .int 0, .int 0, .int 1, .int 2])
      have f10 : (upd H9 q2 (.lst [.int 0, .int 0, .int 0, .int 1, .int 2])) q2 = some (.lst [.int 0, .int 0, .int 0, .int 1, .int 2]) := upd_same
      generalize upd H9 q2 (HO.lst [.int 0, .int 0, .int 0, .int 1, .int 2]) = H10 at s10 f10 ⊢
      refine ⟨a, 5, rfl, hs9.same s10, by decide, take_small (by decide) (by decide), fun H11 r11 s11 hs11 r110 r111 => ⟨r11, rfl, _, s11 _ _ nq2a f10, ?_⟩⟩
      obtain ⟨n2, hn2, en2⟩ := atI_ints (ns := [0, 0, 0, 1, 2]) r110 r111
      refine ⟨_, en2, n2, rfl, _, s11 _ _ nq1a (s10 _ _ f9q), ?_⟩
      have hn2' : 0 ≤ n2 ∧ n2 < 3 := by
        simp only [List.mem_cons, List.mem_nil_iff, or_false] at hn2
        omega
      have hpow : (1 : Int) * 2 ^ r7.toNat < 2 ^ 100 ∧ 1 ≤ (1 : Int) * 2 ^ r7.toNat := by
        have h1 : (2 : Nat) ^ r7.toNat < 2 ^ 100 := Nat.pow_lt_pow_right (by decide) (by omega)
        have h2 : (0 : Nat) < 2 ^ r7.toNat := Nat.pow_pos (by decide)
        have e : ((2 ^ r7.toNat : Nat) : Int) = (2 : Int) ^ r7.toNat := Int.natCast_pow 2 _
        rw [← e]
        omega
      obtain ⟨n3, hn3, en3⟩ := atI_ints (ns := [n1, 1 * 2 ^ r7.toNat, r8]) hn2'.1 hn2'.2
      have hn3' : 1 ≤ n3 ∧ n3 < 2 ^ 100 := by
        simp only [List.mem_cons, List.mem_nil_iff, or_false] at hn3 hn1
        rcases hn3 with rfl | rfl | rfl
        · omega
        · exact ⟨hpow.2, hpow.1⟩
        · exact ⟨r80, r81⟩
      have f11 : H11 p1 = some (.lst (ns.map V.int)) := s11 _ _ np1a (s10 _ _ (s9 _ _ f8))
      refine ⟨_, en3, _, f11, ?_, ?_, ?_, ?_, ns ++ [n3], ?_, ?_, ?_⟩
      · rw [List.length_map]
        exact Nat.lt_of_lt_of_le (by omega : ns.length < 4) (by decide)
      · have s411 : Sx a H H11 := (((((s4.trans s6).trans s7).trans s8).trans (Sx.of s9)).trans (Sx.of s10)).trans s11
        intro b o nb hb'
        rw [upd_ne (ne_some hb' hp1n)]
        exact s411 b o nb hb'
      · exact hs11.put np1a.symm
      · rw [upd_ne hp1p.symm]
        have p11 : H11 p = some (.lst small) := s11 _ _ npa (s10 _ _ (s9 _ _ p8))
        rw [p11, ← hsm]
      · simp
      · rw [List.length_append]; simp [hl]
      · intro n hn
        rcases List.mem_append.mp hn with h | h
        · have := hb n h; omega
        · rw [List.mem_singleton.mp h]; omega
    · rintro σ H4 ⟨s4, hs4, f4, ns, v3, v4, rfl, f5, hl, hb⟩
      walk_at "rd"
      refine q H4 p1 ns s4 hs4 hp1n f5 np1a ⟨by omega, by omega, fun n hn => (hb n hn).1, fun n hn => ?_⟩
      obtain ⟨h1, h2⟩ := hb n hn
      exact Nat.lt_of_lt_of_le (by omega : n.natAbs < 2 ^ 100) (Nat.pow_le_pow_right (by decide) (by decide))
def sp_law_seat (K : PySem.W.Frag) : Sp := fun vs H Q _ => ∃ (a l : Addr) (ss : List Int), vs = [.ref a, .ref l] ∧ Src H a ∧ H l = some (.lst (ss.map V.int)) ∧ l ≠ a ∧ Sz ss ∧ ∀ H' p ps, Sx a H H' → Src H' a → H p = none → H' p = some (.tup (ps.map V.int)) → Seat ss ps → Q (.ref p) H'
theorem ok_law_seat (T : Tx K mg) : FnOk P w K mg base CX0 3 T.f_law_seat T.fd_law_seat ["_law_source_here", "_law_sizes"] (sp_law_seat K) := by
  refine T.F_law_seat.ok sc_law_seat (fun vs H Q E h => ?_) (fun cdv A outer s H vs Q E hr h => ?_)
  · obtain ⟨a, l, ss, rfl, _⟩ := h; rfl
  · obtain ⟨a, l, ss, rfl, hs, hl, nla, z, q⟩ := h
    refine ⟨_, (pss_one (ps_ret (pe_callTy tuple_H (by rfl) T.n_tuple (by decide +kernel) (pa_cons (pe_lc (own := [("_law_size", 2)]) (g := (gName 2)) (tt := tYes) rfl sc_law_seat.nd (pi_seqH (pv 1)) (blkOk_by (own := [("_law_size", 2)]) (N := N_law_seat) (sc := defScope d_law_seat) (by decide +kernel)) (fun _ _ _ _ _ => (pg_name (i := 2) sc_law_seat.nd rfl (Or.inl rfl))) (fun _ _ _ _ _ => pts_nil) (fun _ _ _ _ _ => (pe_op op_mulA (pe_call (ok_law_take T) (hr.mono (by decide)) (by rfl) T.g_law_take T.F_law_take.kp T.b_law_take .nil pass0 (pa_cons (pv 0) (pa_cons (pe_callB (call_min2 rfl) (by rfl) T.n_min (by decide +kernel) (pa_cons (pv 2) (pa_cons (pe_op op_pow pe_int pe_int) pa_nil))) pa_nil))) (pe_op op_fdivW (pv 2) (pe_callB (call_min2 rfl) (by rfl) T.n_min (by decide +kernel) (pa_cons (pv 2) (pa_cons (pe_op op_pow pe_int pe_int) pa_nil))))))) pa_nil)))), ?_⟩
    walk_at "rh"
    intro J W
    refine lcr_draw W (fun i y => ∃ n, y = V.int n ∧ ∀ s, ss[i]? = some s → 0 ≤ n ∧ n < s) hs (Nat.le_trans z.hi (by decide)) (fun H1 s1 => s1 _ _ nla hl) (fun _ _ _ _ y => YAt.same y) ?_ ?_
    · rintro i x H1 H2 Qy hi s1 hs1 ⟨rfl, hx⟩ hq
      simp only [List.getElem?_map, Option.map_eq_some_iff] at hx
      obtain ⟨n, hn, rfl⟩ := hx
      have h1 := z.pos n (List.mem_of_getElem? hn)
      have hb := z.bits n (List.mem_of_getElem? hn)
      walk_at "rd"
      generalize hm : (if (1000000000 : Int) < n then (1000000000 : Int) else n) = m
      have hm1 : 1 ≤ m ∧ m ≤ n ∧ m ≤ 1000000000 := by
        by_cases h : (1000000000 : Int) < n
        · rw [if_pos h] at hm; omega
        · rw [if_neg h] at hm; omega
      refine ⟨a, m, rfl, hs1, by omega, take_small (by omega) (by omega), fun H3 r s3 hs3 r0 r1 => ?_⟩
      walk_at "rd"
      refine ⟨wide_div (b := 64) (by omega) (by omega) (by decide) (by decide), .inl (by omega), hq _ _ s3 hs3 ⟨_, rfl, fun s hs' => ?_⟩⟩
      rw [hn] at hs'
      obtain rfl := Option.some.inj hs'
      have e1 : 0 ≤ n / m := Int.ediv_nonneg (by omega) (by omega)
      refine ⟨Int.mul_nonneg r0 e1, ?_⟩
      have e2 : (n / m) * m ≤ n := Int.ediv_mul_le _ (by omega)
      have e3 : 1 ≤ n / m := by
        have := Int.le_ediv_of_mul_le (a := 1) (b := n) (c := m) (by omega) (by omega)
        exact this
      have e4 : (r + 1) * (n / m) ≤ m * (n / m) := Int.mul_le_mul_of_nonneg_right (by omega) e1
      have e5 : m * (n / m) = (n / m) * m := Int.mul_comm _ _
      have e6 : (r + 1) * (n / m) = r * (n / m) + n / m := by rw [Int.add_mul, Int.one_mul]
      omega
    · intro D acc H1 hD s1 hs1 hlen hR hD1
      obtain ⟨ps, rfl, hps⟩ := ints_of hR
      refine ⟨D, rfl, .inl ⟨_, hD1, fun p hp => ?_⟩⟩
      have hHp : H p = none := by
        cases e : H p with
        | none => rfl
        | some o =>
          have npa : p ≠ a := hs1.ne hp
          rw [s1 _ _ npa e] at hp
          cases hp
      exact q _ p ps (s1.trans (Sx.of (Same.new hp))) (hs1.same (Same.new hp)) hHp upd_same ⟨by rw [← hlen, List.length_map], fun i p s hp hs' => hps i p hp s hs'⟩
def sp_law_call (K : PySem.W.Frag) : Sp := fun vs H Q _ => ∃ (a l : Addr) (ss : List Int), vs = [.ref a, .ref l] ∧ Src H a ∧ H l = some (.lst (ss.map V.int)) ∧ l ≠ a ∧ Sz ss ∧ ∀ H' p (cs : List Int), Sx a H H' → Src H' a → H p = none → H' p = some (.tup (cs.map V.int)) → cs.length = ss.length → (∀ c ∈ cs, c.natAbs < 2 ^ 2000) → Q (.ref p) H'
def stp (g : Int) (p c : Int) : Int := p + g * c
end

section
variable {K : PySem.W.Frag}
theorem Src.ne_of {H : Hp} {a p : Addr} {o : HO} (h : Src H a) (hp : H p = some o) (d : ∀ x y z : Int, o ≠ .lst [.int x, .int y, .int z]) : p ≠ a := fun e => by
  obtain ⟨x, y, z, h⟩ := h
  rw [e, h] at hp
  exact d x y z (Option.some.inj hp).symm
theorem TabAt.sx {C : Addr} {H H' : Hp} {a b : Addr} {ss : List Int} (h : TabAt C H b ss) (hs : Src H a) (s : Sx a H H') : TabAt C H' b ss := by
  obtain ⟨dx, t, h1, h2⟩ := h
  exact ⟨dx, t, s _ _ (hs.ne_of h1 fun _ _ _ => by simp) h1, s _ _ (hs.ne_of h2 fun _ _ _ => by simp) h2⟩
end

section
variable {P : Program} {w : World} {K : PySem.W.Frag} {mg : Str → Option Value} {base : Heap}
theorem _root_.Cs.AsT.keep {H : Hp} {M : Addr} {xs : List V} {o : HO} {as : List Addr} {hs : List (List Int)} (h : AsT H as hs) (hM : H M = some (.lst xs)) : AsT (upd H M o) as hs := ⟨h.1, fun i t g h1 h2 => by
  have h3 := h.2 i t g h1 h2
  rw [upd_ne (ne_two h3 hM (by simp))]
  exact h3⟩
theorem _root_.Cs.AsT.app {H : Hp} {as bs : List Addr} {gs hs : List (List Int)} (h1 : AsT H as gs) (h2 : AsT H bs hs) : AsT H (as ++ bs) (gs ++ hs) := by
  refine ⟨by rw [List.length_append, List.length_append, h1.1, h2.1], fun i t g e1 e2 => ?_⟩
  by_cases hlt : i < as.length
  · rw [List.getElem?_append_left hlt] at e1
    rw [List.getElem?_append_left (by rw [← h1.1]; exact hlt)] at e2
    exact h1.2 i t g e1 e2
  · rw [List.getElem?_append_right (by omega)] at e1
    rw [List.getElem?_append_right (by rw [← h1.1]; omega), ← h1.1] at e2
    exact h2.2 _ t g e1 e2
theorem _root_.Cs.AsT.part {H : Hp} {as : List Addr} {hs : List (List Int)} (h : AsT H as hs) (d n : Nat) : AsT H ((as.drop d).take n) ((hs.drop d).take n) := by
  refine ⟨by rw [List.length_take, List.length_take, List.length_drop, List.length_drop, h.1], fun i t g e1 e2 => ?_⟩
  rw [List.getElem?_take] at e1 e2
  split at e1
  · rename_i hi
    rw [if_pos hi] at e2
    rw [List.getElem?_drop] at e1 e2
    exact h.2 _ t g e1 e2
  · cases e1
theorem cut_to {xs : List V} {n : Nat} (h : n ≤ xs.length) : cutV xs none (some (n : Int)) = xs.take n := by
  have e : HT.sIx xs.length xs.length (some (n : Int)) = n := by
    show (if (n : Int) < 0 then ((n : Int) + (xs.length : Int)).toNat else min (n : Int).toNat xs.length) = n
    rw [if_neg (by omega)]
    omega
  unfold cutV
  rw [e, show HT.sIx xs.length 0 none = 0 from rfl, List.drop_zero, Nat.sub_zero]
theorem cut_from {xs : List V} {n : Nat} (h : n ≤ xs.length) : cutV xs (some (n : Int)) none = xs.drop n := by
  have e : HT.sIx xs.length 0 (some (n : Int)) = n := by
    show (if (n : Int) < 0 then ((n : Int) + (xs.length : Int)).toNat else min (n : Int).toNat xs.length) = n
    rw [if_neg (by omega)]
    omega
  unfold cutV
  rw [e, show HT.sIx xs.length xs.length none = xs.length from rfl, List.take_of_length_le (by rw [List.length_drop]; omega)]
theorem cut_two {H : Hp} {L R : Addr} {gs ps : List (List Int)} {f : List Int → List Int} (hL : LstT H L gs) (hR : LstT H R ((gs ++ ps).map f)) :
    ∃ as ms : List Addr, H L = some (.lst (as.map V.ref)) ∧ H R = some (.lst (ms.map V.ref)) ∧ ∀ p, H p = none → (upd H p (HO.lst (cutV (ms.map V.ref) none (some ((as.map V.ref).length : Int))))) L = some (.lst (as.map V.ref)) ∧
      (upd H p (HO.lst (cutV (ms.map V.ref) none (some ((as.map V.ref).length : Int))))) R = some (.lst (ms.map V.ref)) ∧ ∀ p1, (upd H p (HO.lst (cutV (ms.map V.ref) none (some ((as.map V.ref).length : Int))))) p1 = none →
        ∀ H', H' = upd (upd H p (HO.lst (cutV (ms.map V.ref) none (some ((as.map V.ref).length : Int))))) p1 (HO.lst (cutV (ms.map V.ref) (some ((as.map V.ref).length : Int)) none)) → Same H H' ∧ LstT H' p (gs.map f) ∧ LstT H' p1 (ps.map f) := by
  obtain ⟨as, hLa, hA⟩ := hL
  obtain ⟨ms, hM6a, hms⟩ := hR
  have hml : ms.length = gs.length + ps.length := by rw [hms.1, List.length_map, List.length_append]
  have hn : (as.map V.ref).length = gs.length := by rw [List.length_map, hA.1]
  refine ⟨as, ms, hLa, hM6a, fun p hp => ?_⟩
  rw [hn, cut_to (by rw [List.length_map]; omega), cut_from (by rw [List.length_map]; omega), ← List.map_take, ← List.map_drop]
  have s7 := Same.new hp (o := .lst ((ms.take gs.length).map V.ref))
  have f7 : (upd H p (.lst ((ms.take gs.length).map V.ref))) p = some (.lst ((ms.take gs.length).map V.ref)) := upd_same
  generalize upd H p (HO.lst ((ms.take gs.length).map V.ref)) = H7 at s7 f7 ⊢
  refine ⟨s7 _ _ hLa, s7 _ _ hM6a, fun p2 hp2 H' e => ?_⟩
  have s8 := Same.new hp2 (o := .lst ((ms.drop gs.length).map V.ref))
  have f8 : (upd H7 p2 (.lst ((ms.drop gs.length).map V.ref))) p2 = some (.lst ((ms.drop gs.length).map V.ref)) := upd_same
  rw [← e] at s8 f8
  have hms8 := (hms.same s7).same s8
  refine ⟨s7.trans s8, ⟨_, s8 _ _ f7, ?_⟩, ⟨_, f8, ?_⟩⟩
  · have := hms8.part 0 gs.length
    rw [List.drop_zero, List.drop_zero, List.map_append, List.take_left' (by rw [List.length_map])] at this
    exact this
  · have := hms8.part gs.length ms.length
    rw [List.take_of_length_le (by rw [List.length_drop]; omega), List.take_of_length_le (by rw [List.length_drop, List.length_map, List.length_append]; omega), List.map_append, List.drop_left' (by rw [List.length_map])] at this
    exact this
theorem app_get {H : Hp} {C : Addr} {as bs : List Addr} (h : H C = some (.lst (as.map V.ref ++ bs.map V.ref))) : H C = some (.lst ((as ++ bs).map V.ref)) := by rw [h, List.map_append]
end

/-! ### comprehensions that make lists of tuples of ints -/
section
variable {P : Program} {w : World} {K : PySem.W.Frag} {mg : Str → Option Value} {base : Heap}
theorem lcr_tups {J : It} {n : Nat} {G : Hp → Prop} {Y : Nat → Hp → V → Hp → Prop} (w : Walk J n G Y) {g : TG} {te : TE} {vs : List Nat} {σ : L2.St} {H1 : Hp} {Q : VK} (f : Nat → List Int) (hn : n ≤ 1000)
    (hG : ∀ H, Same H1 H → G H) (hY : ∀ i x H H', Y i H x H' → Same H H')
    (hs : ∀ i x H H' (Qy : VK), i < n → Same H1 H → Y i H x H' → (∀ t H4, Same H' H4 → H4 t = some (.tup ((f i).map V.int)) → Qy (.ref t) H4) → g x (wipe σ vs) H' fun σ2 H2 => wipe σ2 vs = wipe σ vs ∧ te σ2 H2 Qy)
    (hd : ∀ D H, H1 D = none → Same H1 H → LstT H D ((List.range n).map f) → Q (.ref D) H) : LcR J g tYes te vs σ H1 Q := fun D hD => by
  refine lc_gen w (fun i acc H => Same H1 H ∧ (∃ ys, H D = some (.lst ys)) ∧ ∃ as, acc = as.map V.ref ∧ AsT H as ((List.range i).map f)) (Nat.le_trans hn (by decide)) ⟨Same.new hD, ⟨_, upd_same⟩, [], rfl, AsT.nil⟩ (fun i acc H _ h _ => hG H h.1) (fun i acc H l h _ => ?_) (fun i acc x H H' Qy hi ha h e hy hq => ?_) (fun acc H ha h e => ?_)
  · obtain ⟨h1, ⟨ys, h2⟩, as, h3, h4⟩ := h
    exact ⟨fun b o hb => by rw [upd_ne (ne_some hb hD)]; exact h1 _ _ hb, ⟨_, upd_same⟩, as, h3, h4.keep h2⟩
  · obtain ⟨h1, ⟨ys, h2⟩, as, h3, h4⟩ := h
    refine hs i x H H' Qy hi h1 hy fun t H4 s4 h5 => ?_
    have s04 := (hY _ _ _ _ hy).trans s4
    refine hq (.ref t) H4 (s04 _ _ e) ⟨h1.trans s04, ⟨_, s04 _ _ h2⟩, as ++ [t], by rw [h3, List.map_append]; rfl, ?_⟩
    rw [List.range_succ, List.map_append]
    exact (h4.same s04).snoc h5
  · obtain ⟨h1, _, as, h3, h4⟩ := h
    exact hd D H hD h1 ⟨as, by rw [← h3]; exact e, h4⟩
theorem lcr_tupsD {J : It} {n : Nat} {G : Hp → Prop} {Y : Nat → Hp → V → Hp → Prop} (w : Walk J n G Y) {g : TG} {te : TE} {vs : List Nat} {σ : L2.St} {H1 : Hp} {Q : VK} {a : Addr} (R : List Int → Prop) (hs1 : Src H1 a) (hn : n ≤ 1000)
    (hG : ∀ H, Sx a H1 H → G H) (hY : ∀ i x H H', Y i H x H' → Same H H')
    (hs : ∀ i x H H' (Qy : VK), i < n → Sx a H1 H → Src H' a → Y i H x H' → (∀ t z H4, Sx a H' H4 → Src H4 a → R z → H4 t = some (.tup (z.map V.int)) → Qy (.ref t) H4) → g x (wipe σ vs) H' fun σ2 H2 => wipe σ2 vs = wipe σ vs ∧ te σ2 H2 Qy)
    (hd : ∀ D zs H, H1 D = none → Sx a H1 H → Src H a → zs.length = n → (∀ z ∈ zs, R z) → LstT H D zs → Q (.ref D) H) : LcR J g tYes te vs σ H1 Q := fun D hD => by
  have nDa : D ≠ a := hs1.ne hD
  refine lc_gen w (fun i acc H => Sx a H1 H ∧ Src H a ∧ (∃ ys, H D = some (.lst ys)) ∧ ∃ as zs, acc = as.map V.ref ∧ AsT H as zs ∧ zs.length = i ∧ ∀ z ∈ zs, R z) (Nat.le_trans hn (by decide)) ⟨Sx.of (Same.new hD), hs1.same (Same.new hD), ⟨_, upd_same⟩, [], [], rfl, AsT.nil, rfl, by simp⟩ (fun i acc H _ h _ => hG H h.1) (fun i acc H l h _ => ?_) (fun i acc x H H' Qy hi ha h e hy hq => ?_) (fun acc H ha h e => ?_)
  · obtain ⟨h1, h1s, ⟨ys, h2⟩, as, zs, h3, h4, h5, h6⟩ := h
    exact ⟨fun b o nb hb => by rw [upd_ne (ne_some hb hD)]; exact h1 _ _ nb hb, h1s.put nDa.symm, ⟨_, upd_same⟩, as, zs, h3, h4.keep h2, h5, h6⟩
  · obtain ⟨h1, h1s, ⟨ys, h2⟩, as, zs, h3, h4, h5, h6⟩ := h
    have sy := hY _ _ _ _ hy
    refine hs i x H H' Qy hi h1 (h1s.same sy) hy fun t z H4 s4 hs4 hz ht => ?_
    have h4' := h4.same sy
    have h44 : AsT H4 as zs := ⟨h4'.1, fun j t g e1 e2 => by
      have e3 := h4'.2 j t g e1 e2
      exact s4 _ _ ((h1s.same sy).ne_of e3 fun _ _ _ => by simp) e3⟩
    refine hq (.ref t) H4 (s4 _ _ nDa (sy _ _ e)) ⟨(h1.trans (Sx.of sy)).trans s4, hs4, ⟨_, s4 _ _ nDa (sy _ _ h2)⟩, as ++ [t], zs ++ [z], by rw [h3, List.map_append]; rfl, h44.snoc ht, by rw [List.length_append, h5]; rfl, fun y hy2 => ?_⟩
    rcases List.mem_append.mp hy2 with h | h
    · exact h6 y h
    · rw [List.mem_singleton.mp h]; exact hz
  · obtain ⟨h1, h1s, _, as, zs, h3, h4, h5, h6⟩ := h
    exact hd D zs H hD h1 h1s h5 h6 ⟨as, by rw [← h3]; exact e, h4⟩
theorem range_get {α : Type} (l : List (List Int)) (f : List Int → List Int) : (List.range l.length).map (fun i => f (l.getD i [])) = l.map f := by
  refine List.ext_getElem (by simp) fun i h1 h2 => ?_
  simp only [List.length_map, List.length_range] at h1
  rw [List.getElem_map, List.getElem_map, List.getElem_range, List.getD_eq_getElem?_getD, List.getElem?_eq_getElem h1]
  rfl
theorem range_getI (l : List Int) (f : Int → List Int) : (List.range l.length).map (fun i => f (l.getD i 0)) = l.map f := by
  refine List.ext_getElem (by simp) fun i h1 h2 => ?_
  simp only [List.length_map, List.length_range] at h1
  rw [List.getElem_map, List.getElem_map, List.getElem_range, List.getD_eq_getElem?_getD, List.getElem?_eq_getElem h1]
  rfl
end

/-! ### k02: the law's own orders and halves -/
section
variable {P : Program} {w : World} {K : PySem.W.Frag} {mg : Str → Option Value} {base : Heap}
def sp_law_gcd (K : PySem.W.Frag) : Sp := fun vs H Q _ => ∃ a b : Int, vs = [.int a, .int b] ∧ 0 ≤ a ∧ 0 ≤ b ∧ Q (.int ((Nat.gcd a.natAbs b.natAbs : Nat) : Int)) H
theorem ok_law_gcd (T : Tx K mg) : FnOk P w K mg base CX0 1 T.f_law_gcd T.fd_law_gcd ["_law_first", "_law_second"] (sp_law_gcd K) := by
  refine T.F_law_gcd.ok sc_law_gcd (fun vs H Q E h => ?_) (fun cdv A outer s H vs Q E hr h => ?_)
  · obtain ⟨a, b, rfl, _⟩ := h; rfl
  · obtain ⟨a, b, rfl, ha, hb, q⟩ := h
    refine ⟨_, (pss_cons (ps_while PassesOwn.never (pt_cmpR op_ne (pv 1) pe_int (nomark _)) (pss_one (ps_par (i := 0) (j := 1) (by rfl) sc_law_gcd.nd rfl rfl (by decide) rfl rfl (pa_cons (pv 1) (pa_cons (pe_op op_mod (pv 0) (pv 1)) pa_nil)) (by rfl))))
      (pss_one (ps_ret (pv 0)))), ?_⟩
    refine while_by (fun σ H' => H' = H ∧ ∃ c d : Int, σ = [some (V.int c), some (V.int d)] ∧ 0 ≤ c ∧ 0 ≤ d ∧ Nat.gcd c.natAbs d.natAbs = Nat.gcd a.natAbs b.natAbs) (fun σ _ => match σ with | [_, some (V.int d)] => d.toNat | _ => 0) ⟨rfl, a, b, rfl, ha, hb, rfl⟩ ?_ ?_
    · rintro σ H1 ⟨rfl, c, d, rfl, hc, hd, hg⟩
      walk_at "rd"
      by_cases h0 : d = 0
      · rw [if_neg (by simpa using h0)]
        subst h0
        rw [Int.natAbs_zero, Nat.gcd_zero_right] at hg
        rw [← hg] at q
        rw [Int.natAbs_of_nonneg hc] at q
        exact q
      · rw [if_pos h0]
        have h1 := Int.emod_nonneg c h0
        have h2 := Int.emod_lt_of_pos c (by omega : 0 < d)
        refine ⟨by omega, hd, h1, ?_, by omega⟩
        rw [← hg]
        obtain ⟨m, rfl⟩ := Int.eq_ofNat_of_zero_le hc
        obtain ⟨n, rfl⟩ := Int.eq_ofNat_of_zero_le hd
        rw [← Int.natCast_emod]
        simp only [Int.natAbs_natCast]
        rw [Nat.gcd_comm m n, Nat.gcd_rec n m, Nat.gcd_comm]
    · intro σ H1 Q1 Q2 h hq
      obtain ⟨b1, e, e2, k, e3, hq⟩ := hq
      exact ⟨b1, e, e2, k, e3, h _ _ hq⟩
def sp_law_sum (K : PySem.W.Frag) : Sp := fun vs H Q _ => ∃ (p c l : Addr) (ss ps cs : List Int), vs = [.ref p, .ref c, .ref l] ∧ H p = some (.tup (ps.map V.int)) ∧ H c = some (.tup (cs.map V.int)) ∧ H l = some (.lst (ss.map V.int)) ∧ ps.length = ss.length ∧ cs.length = ss.length ∧ Sz ss ∧
  ∀ H' f, Same H H' → H' f = some (.tup ((mv fw ps cs ss).map V.int)) → Q (.ref f) H'
theorem ok_law_sum (T : Tx K mg) : FnOk P w K mg base CX0 1 T.f_law_sum T.fd_law_sum ["_law_first", "_law_second", "_law_sizes"] (sp_law_sum K) := by
  refine T.F_law_sum.ok sc_law_sum (fun vs H Q E h => ?_) (fun cdv A outer s H vs Q E hr h => ?_)
  · obtain ⟨p, c, l, ss, ps, cs, rfl, _⟩ := h; rfl
  · obtain ⟨p, c, l, ss, ps, cs, rfl, hp, hc, hl, e1, e2, z, q⟩ := h
    refine ⟨_, (pss_one (ps_ret (pe_callTy tuple_H (by rfl) T.n_tuple (by decide +kernel) (pa_cons (pe_lc (own := [("_law_a", 3), ("_law_b", 4), ("_law_size", 5)]) (g := (gTupH 3 (gCons (gName 3) (gCons (gName 4) (gCons (gName 5) gNil))))) (tt := tYes) rfl sc_law_sum.nd (pi_z3H (by rfl) T.n_zip (pa_cons (pv 0) (pa_cons (pv 1) (pa_cons (pv 2) pa_nil)))) (blkOk_by (own := [("_law_a", 3), ("_law_b", 4), ("_law_size", 5)]) (N := N_law_sum) (sc := defScope d_law_sum) (by decide +kernel)) (fun _ _ _ _ _ => (pg_tupH (n := 3) rfl (pgs_cons (pg_name (i := 3) sc_law_sum.nd rfl (Or.inl rfl)) (pgs_cons (pg_name (i := 4) sc_law_sum.nd rfl (Or.inl rfl)) (pgs_cons (pg_name (i := 5) sc_law_sum.nd rfl (Or.inl rfl)) pgs_nil))))) (fun _ _ _ _ _ => pts_nil) (fun _ _ _ _ _ => (pe_op op_mod (pe_op op_add (pv 3) (pv 4)) (pv 5)))) pa_nil)))), ?_⟩
    have pos : ∀ n ∈ ss, 0 < n := fun n hn => by have := z.pos n hn; omega
    walk_at "rd"
    refine ⟨false, false, true, ps.map V.int, hp, cs.map V.int, hc, ss.map V.int, hl, by rw [List.length_map, List.length_map, e1, e2], by rw [List.length_map, List.length_map, e2], fun J W => ?_⟩
    refine lcr_map W ((mv fw ps cs ss).map V.int) (by rw [List.length_map, List.length_map, mv_len (by rw [e1, e2]) e2]) ?_ (fun H3 s3 => ⟨s3 _ _ hp, s3 _ _ hc, s3 _ _ hl⟩) (fun _ _ _ _ y => YTrip.same y) ?_ ?_
    · have h4 := z.hi
      rw [List.length_map]
      exact Nat.le_trans (by omega : ps.length ≤ 4) (by decide)
    · intro i x H3 H4 y Qy hi s3 hy hr hq
      obtain ⟨T0, x1, y1, z1, rfl, hT, rfl, h1, h2, h3⟩ := hy
      simp only [List.getElem?_map, Option.map_eq_some_iff] at hr h1 h2 h3
      obtain ⟨x2, hx2, rfl⟩ := h1
      obtain ⟨y2, hy2, rfl⟩ := h2
      obtain ⟨z2, hz2, rfl⟩ := h3
      rw [mv_get hx2 hy2 hz2] at hr
      obtain ⟨r, hr, rfl⟩ := hr
      obtain rfl := Option.some.inj hr
      walk_at "rd"
      exact ⟨pos z2 (List.mem_of_getElem? hz2), hq _ (Same.refl _)⟩
    · intro D H3 hD s3 h3
      exact ⟨D, rfl, .inl ⟨_, h3, fun f hf => q _ f (s3.trans (Same.new hf)) upd_same⟩⟩

theorem foldl_ord_pos : ∀ (zs : List (Int × Int)) (c : Nat), 0 < c → (∀ z ∈ zs, 1 ≤ z.2) → 0 < zs.foldl ordS c
  | [], _, h, _ => h
  | z :: zs, c, h, hz => foldl_ord_pos zs (ordS c z) (ordS_pos (hz z (List.mem_cons_self ..)) h) fun y hy => hz y (List.mem_cons_of_mem _ hy)
def sp_law_period (K : PySem.W.Frag) : Sp := fun vs H Q _ => ∃ (p l : Addr) (ss ps : List Int), vs = [.ref p, .ref l] ∧ H p = some (.tup (ps.map V.int)) ∧ H l = some (.lst (ss.map V.int)) ∧ Seat ss ps ∧ Sz ss ∧ ∀ H', Same H H' → Q (.int (ordI ps ss : Nat)) H'
theorem ok_law_period (T : Tx K mg) : FnOk P w K mg base CX0 2 T.f_law_period T.fd_law_period ["_law_origin", "_law_sizes"] (sp_law_period K) := by
  refine T.F_law_period.ok sc_law_period (fun vs H Q E h => ?_) (fun cdv A outer s H vs Q E hr h => ?_)
  · obtain ⟨p, l, ss, ps, rfl, _⟩ := h; rfl
  · obtain ⟨p, l, ss, ps, rfl, hp, hl, hS, z, q⟩ := h
    refine ⟨_, (pss_cons (ps_set (i := 2) sc_law_period.nd rfl (Or.inl rfl) pe_int)
      (pss_cons (ps_for PassesOwn.never rfl (pi_z2H (by rfl) T.n_zip (pa_cons (pv 0) (pa_cons (pv 1) pa_nil))) (pg_tupH (n := 2) rfl (pgs_cons (pg_name (i := 3) sc_law_period.nd rfl (Or.inl rfl)) (pgs_cons (pg_name (i := 4) sc_law_period.nd rfl (Or.inl rfl)) pgs_nil)))
        (pss_cons (ps_set (i := 5) sc_law_period.nd rfl (Or.inl rfl) (pe_op op_fdivW (pv 4) (pe_call (ok_law_gcd T) (hr.mono (by decide)) (by rfl) T.g_law_gcd T.F_law_gcd.kp T.b_law_gcd .nil pass0 (pa_cons (pv 4) (pa_cons (pv 3) pa_nil)))))
        (pss_one (ps_set (i := 2) sc_law_period.nd rfl (Or.inl rfl) (pe_op op_fdivW (pe_op op_mulA (pv 2) (pv 5)) (pe_call (ok_law_gcd T) (hr.mono (by decide)) (by rfl) T.g_law_gcd T.F_law_gcd.kp T.b_law_gcd .nil pass0 (pa_cons (pv 2) (pa_cons (pv 5) pa_nil))))))))
      (pss_one (ps_ret (pv 2))))), ?_⟩
    walk_at "rd"
    have h4 := z.hi
    refine ⟨false, true, ps.map V.int, hp, ss.map V.int, hl, by rw [List.length_map, List.length_map, hS.len], fun J W => ?_⟩
    refine forr W (fun i σ H' => ∃ v3 v4 v5, σ = [some (V.ref p), some (V.ref l), some (V.int ((((ps.zip ss).take i).foldl ordS 1 : Nat))), v3, v4, v5] ∧ Same H H') ⟨none, none, none, rfl, Same.refl _⟩ (fun i σ H' _ h => by obtain ⟨_, _, _, _, h⟩ := h; exact ⟨h _ _ hp, h _ _ hl⟩) ?_ ?_
    · rintro i x σ H1 H2 hi ⟨v3, v4, v5, rfl, s1⟩ ⟨T0, x1, y1, rfl, hT, rfl, e1, e2⟩
      simp only [List.getElem?_map, Option.map_eq_some_iff] at e1 e2
      obtain ⟨x2, hx2, rfl⟩ := e1
      obtain ⟨y2, hy2, rfl⟩ := e2
      have sp := z.pos y2 (List.mem_of_getElem? hy2)
      have sb := z.bits y2 (List.mem_of_getElem? hy2)
      have st := hS.ok i x2 y2 hx2 hy2
      have ot := ord_take hx2 hy2
      have ob := ord_small (B := 1000) ((ps.zip ss).take i) 1 1 (fun y hy => mem_zip_sz z y (List.mem_of_mem_take hy)) (by decide)
      have ob2 : ((ps.zip ss).take i).foldl ordS 1 < 2 ^ 4001 := by
        refine Nat.lt_of_lt_of_le ob (Nat.pow_le_pow_right (by decide) ?_)
        have : ((ps.zip ss).take i).length ≤ 4 := by rw [List.length_take, List.length_zip]; omega
        omega
      have op : 0 < ((ps.zip ss).take i).foldl ordS 1 := foldl_ord_pos _ 1 (by decide) fun y hy => (mem_zip_sz z y (List.mem_of_mem_take hy)).1
      generalize ((ps.zip ss).take i).foldl ordS 1 = c at *
      have g0 : 0 < Nat.gcd y2.natAbs x2.natAbs := Nat.gcd_pos_of_pos_left _ (by omega)
      have g1 : Nat.gcd y2.natAbs x2.natAbs ≤ y2.natAbs := Nat.gcd_le_left _ (by omega)
      walk_at "rd"
      refine ⟨y2, x2, rfl, by omega, st.1, ?_⟩
      walk_at "rd"
      rw [Nat.gcd_comm y2.natAbs x2.natAbs] at g0 g1 ⊢
      have ot2 : (((ps.zip ss).take (i + 1)).foldl ordS 1) = Nat.lcm c (y2 / ((Nat.gcd x2.natAbs y2.natAbs : Nat) : Int)).natAbs := ot
      rw [ot2]
      have qb : (y2 / ((Nat.gcd x2.natAbs y2.natAbs : Nat) : Int)).natAbs ≤ y2.natAbs := Int.natAbs_ediv_le_natAbs _ _
      have q1 : 0 < y2 / ((Nat.gcd x2.natAbs y2.natAbs : Nat) : Int) := Int.ediv_pos_of_pos_of_dvd (by omega) (by omega) (Int.natAbs_dvd_natAbs.mp (by rw [Int.natAbs_natCast]; exact Nat.gcd_dvd_right _ _))
      have big : y2.natAbs < 2 ^ 8000 := Nat.lt_of_lt_of_le sb (Nat.pow_le_pow_right (by decide) (by decide))
      have hd1 : CDivW y2 ((Nat.gcd x2.natAbs y2.natAbs : Nat) : Int) := wide_div (by omega) (by rw [Int.natAbs_natCast]; exact Nat.lt_of_le_of_lt g1 big) (by decide) (by decide)
      generalize y2 / ((Nat.gcd x2.natAbs y2.natAbs : Nat) : Int) = k at *
      obtain ⟨n, rfl⟩ := Int.eq_ofNat_of_zero_le (by omega : 0 ≤ k)
      rw [Int.natAbs_natCast] at qb ⊢
      have c4 : ((c : Nat) : Int).natAbs < 2 ^ 4001 := by rw [Int.natAbs_natCast]; exact ob2
      have n4 : ((n : Nat) : Int).natAbs < 2 ^ 1000 := by rw [Int.natAbs_natCast]; exact Nat.lt_of_le_of_lt qb sb
      refine ⟨hd1, .inr (.inr (wide_mul (a := 4001) (b := 1000) c4 n4 (by decide) (by decide) (by decide))), c, n, rfl, by omega, by omega, ?_⟩
      walk_at "rd"
      rw [Int.natAbs_natCast, Int.natAbs_natCast]
      have gp : 0 < Nat.gcd c n := Nat.gcd_pos_of_pos_left _ op
      have gle : Nat.gcd c n ≤ n := Nat.gcd_le_right _ (by omega)
      refine ⟨wide_div (by omega) (by rw [Int.natAbs_natCast]; exact Nat.lt_of_le_of_lt (Nat.le_trans gle qb) big) (by decide) (by decide), ?_, s1.trans (Same.new hT)⟩
      rw [← Int.natCast_mul, ← Int.natCast_ediv]
      rfl
    · rintro σ H1 ⟨v3, v4, v5, rfl, s1⟩
      rw [List.length_map, List.take_of_length_le (by rw [List.length_zip]; omega)]
      walk_at "rd"
      exact q _ s1
theorem catA_ints {H : Hp} {a b : Addr} {xs ys : List Int} {Q : VK} (h1 : H a = some (.tup (xs.map V.int))) (h2 : H b = some (.tup (ys.map V.int))) (hz : xs.length + ys.length ≤ 1000) (q : ∀ c H', Same H H' → H' c = some (.tup ((xs ++ ys).map V.int)) → Q (.ref c) H') : rCatA K (.ref a) (.ref b) H Q := by
  refine ⟨a, b, _, _, rfl, rfl, .inl (.inl h1), .inl (.inl h2), by rw [List.length_map, List.length_map]; exact Nat.le_trans hz (by decide), fun e => ?_, fun _ e => ?_, fun _ _ p hp => ?_⟩
  · obtain rfl := List.map_eq_nil_iff.mp e
    exact q b H (Same.refl _) h2
  · obtain rfl := List.map_eq_nil_iff.mp e
    refine q a H (Same.refl _) ?_
    rw [List.append_nil]
    exact h1
  · refine q p _ (Same.new hp) ?_
    rw [upd_same, List.map_append]
theorem slA_ints {H : Hp} {a : Addr} {xs ys : List Int} {lo hi : Option Int} {Q : VK} (h1 : H a = some (.tup (xs.map V.int))) (e : cutV (xs.map V.int) lo hi = ys.map V.int) (q : ∀ c H', Same H H' → H' c = some (.tup (ys.map V.int)) → Q (.ref c) H') : rSlA K (.ref a) lo hi H Q := by
  refine ⟨a, _, rfl, .inl (.inl h1), fun hw => ?_, fun _ p hp => ?_⟩
  · refine q a H (Same.refl _) ?_
    rw [← e]
    unfold cutV
    rw [hw.1, hw.2, List.drop_zero, Nat.sub_zero, List.take_length]
    exact h1
  · refine q p _ (Same.new hp) ?_
    rw [upd_same, e]
theorem cut_take {xs : List Int} {n : Nat} : cutV (xs.map V.int) none (some (n : Int)) = (xs.take n).map V.int := by
  unfold cutV
  rw [HT.sIx_none, HT.sIx_nat]
  show ((xs.map V.int).drop 0).take (min n (xs.map V.int).length - 0) = _
  rw [List.drop_zero, Nat.sub_zero, List.map_take, List.length_map]
  by_cases h : n ≤ xs.length
  · rw [Nat.min_eq_left h]
  · rw [Nat.min_eq_right (by omega), List.take_of_length_le (by rw [List.length_map]; omega), List.take_of_length_le (by rw [List.length_map]; omega)]
theorem cut_drop {xs : List Int} {n : Nat} (h : n ≤ xs.length) : cutV (xs.map V.int) (some (n : Int)) none = (xs.drop n).map V.int := by
  unfold cutV
  rw [HT.sIx_nat, HT.sIx_none, List.length_map, Nat.min_eq_left h, List.map_drop]
  rw [List.take_of_length_le]
  rw [List.length_drop, List.length_map]
  exact Nat.le_refl _

/-- every seat -/
def rngI (s : Int) : List Int := (List.range s.toNat).map fun (i : Nat) => (i : Int)
def allI (ss : List Int) : List (List Int) := choI (ss.map rngI)
/-- behind j of the rows that are made longer -/
def ExtAt (H3 : Hp) (D : Addr) (found : List (List Int)) (parts : List Int) (j : Nat) (H' : Hp) : Prop := Same H3 H' ∧ ∃ bs : List Addr, H' D = some (.lst (bs.map V.ref)) ∧ AsT H' bs (choF (found.take j) parts)
theorem ExtAt.init {H3 : Hp} {D : Addr} {found : List (List Int)} {parts : List Int} (hD : H3 D = none) : ExtAt H3 D found parts 0 (upd H3 D (.lst [])) := ⟨Same.new hD, [], upd_same, AsT.nil⟩
theorem choF_more {found : List (List Int)} {parts : List Int} {j : Nat} {h : List Int} (e : found[j]? = some h) : choF (found.take (j + 1)) parts = choF (found.take j) parts ++ parts.map fun x => h ++ [x] := by
  unfold choF
  rw [List.take_add_one, e, List.flatMap_append]
  simp
theorem ExtAt.step {H3 H' H4 : Hp} {D D2 : Addr} {found : List (List Int)} {parts : List Int} {j : Nat} {h : List Int} (hD : H3 D = none) (k : ExtAt H3 D found parts j H') (e : found[j]? = some h) (s : Same H' H4) (hL : LstT H4 D2 (parts.map fun x => h ++ [x])) (hz : found.length * parts.length ≤ 1000) :
    ∃ ys zs, H4 D = some (.lst ys) ∧ H4 D2 = some (.lst zs) ∧ ys.length + zs.length ≤ sizeLine ∧ ExtAt H3 D found parts (j + 1) (upd H4 D (.lst (ys ++ zs))) := by
  obtain ⟨s1, bs, hb, hA⟩ := k
  obtain ⟨cs, hc, hC⟩ := hL
  have hb4 := s _ _ hb
  have hA2 := (hA.same s).app hC
  refine ⟨_, _, hb4, hc, ?_, ?_, bs ++ cs, by rw [upd_same, List.map_append], ?_⟩
  · have l1 := hA2.1
    rw [← choF_more e, choF_len] at l1
    rw [List.length_map, List.length_map, ← List.length_append, l1]
    refine Nat.le_trans (Nat.mul_le_mul_right _ (?_ : _ ≤ found.length)) (Nat.le_trans hz (by decide))
    rw [List.length_take]
    omega
  · intro b o hb2
    rw [upd_ne (ne_some hb2 hD)]
    exact s _ _ (s1 _ _ hb2)
  · rw [choF_more e]
    exact hA2.keep hb4
theorem allI_take {ss : List Int} {i : Nat} {s : Int} (h : ss[i]? = some s) : allI (ss.take (i + 1)) = choF (allI (ss.take i)) (rngI s) := by
  unfold allI choI
  rw [List.map_take, List.map_take]
  exact cho_take (by rw [List.getElem?_map, h]; rfl)
def MAl (l : Addr) (ss : List Int) (i : Nat) (H : Hp) (σ : L2.St) (H' : Hp) : Prop := ∃ (L : Addr) (v2 v3 v4 v5 : Option V), σ = [some (V.ref l), some (V.ref L), v2, v3, v4, v5] ∧ Same H H' ∧ LstT H' L (allI (ss.take i))
def MAi (l L D : Addr) (s : Int) (found : List (List Int)) (H3 : Hp) (j : Nat) (σ : L2.St) (H' : Hp) : Prop := ∃ (v4 v5 : Option V), σ = [some (V.ref l), some (V.ref L), some (V.int s), some (V.ref D), v4, v5] ∧ ExtAt H3 D found (rngI s) j H'
def sp_law_all (K : PySem.W.Frag) : Sp := fun vs H Q _ => ∃ (l : Addr) (ss : List Int), vs = [.ref l] ∧ H l = some (.lst (ss.map V.int)) ∧ ss.length ≤ 4 ∧ (∀ s ∈ ss, 0 ≤ s ∧ s ≤ 900) ∧ (∀ i, (allI (ss.take i)).length ≤ 1000) ∧ ∀ H' L, Same H H' → LstT H' L (allI ss) → Q (.ref L) H'
theorem ok_law_all (T : Tx K mg) : FnOk P w K mg base CX0 1 T.f_law_all T.fd_law_all ["_law_sizes"] (sp_law_all K) := by
  refine T.F_law_all.ok sc_law_all (fun vs H Q E h => ?_) (fun cdv A outer s H vs Q E hr h => ?_)
  · obtain ⟨l, ss, rfl, _⟩ := h; rfl
  · obtain ⟨l, ss, rfl, hl, h4, hss, hz, q⟩ := h
    refine ⟨_, (pss_cons (ps_set (i := 1) sc_law_all.nd rfl (Or.inl rfl) (pe_lst (pa_cons (pe_tup pa_nil) pa_nil)))
      (pss_cons (ps_for PassesOwn.never rfl (pi_seqH (pv 0)) (pg_name (i := 2) sc_law_all.nd rfl (Or.inl rfl))
        (pss_cons (ps_set (i := 3) sc_law_all.nd rfl (Or.inl rfl) (pe_lst pa_nil))
        (pss_cons (ps_for PassesOwn.never rfl (pi_seqH (pv 1)) (pg_name (i := 4) sc_law_all.nd rfl (Or.inr rfl))
          (pss_one (ps_expr (pe_extendL (pv 3) (pa_cons (pe_lc (own := [("_law_place", 5)]) (g := (gName 5)) (tt := tYes) rfl sc_law_all.nd (pi_range1H (by rfl) T.n_range (pa_cons (pv 2) pa_nil)) (blkOk_by (own := [("_law_place", 5)]) (N := N_law_all) (sc := defScope d_law_all) (by decide +kernel)) (fun _ _ _ _ _ => (pg_name (i := 5) sc_law_all.nd rfl (Or.inl rfl))) (fun _ _ _ _ _ => pts_nil) (fun _ _ _ _ _ => (pe_op (op_catAK (K := K) rfl) (pv 4) (pe_tup (pa_cons (pv 5) pa_nil))))) pa_nil)))))
        (pss_one (ps_set (i := 1) sc_law_all.nd rfl (Or.inl rfl) (pv 3))))))
      (pss_one (ps_ret (pv 1))))), ?_⟩
    walk_at "rd"
    intro p hp p1 hp1
    obtain ⟨hp1n, n1p⟩ := upd_none_of hp1
    have s1 := (Same.new hp (o := .tup [])).trans (Same.new hp1 (o := .lst [V.ref p]))
    have fp := Same.new hp1 (o := .lst [V.ref p]) _ _ (upd_same : (upd H p (.tup [])) p = some (.tup []))
    have fL : LstT (upd (upd H p (.tup [])) p1 (.lst [V.ref p])) p1 [[]] := ⟨[p], upd_same, AsT.snoc (hs := []) AsT.nil fp⟩
    generalize upd (upd H p (HO.tup [])) p1 (HO.lst [V.ref p]) = H1 at s1 fL ⊢
    refine .inl ⟨_, s1 _ _ hl, fun J W => ?_⟩
    refine forr W (fun i σ H' => MAl l ss i H σ H') ⟨p1, none, none, none, none, rfl, s1, fL⟩ (fun i σ H' _ h => by obtain ⟨_, _, _, _, _, _, h, _⟩ := h; exact h _ _ hl) ?_ ?_
    · rintro i x σ H2 H3 hi ⟨L, v2, v3, v4, v5, rfl, s2, hL⟩ ⟨rfl, hx⟩
      simp only [List.getElem?_map, Option.map_eq_some_iff] at hx
      obtain ⟨s, hs, rfl⟩ := hx
      have hsb := hss s (List.mem_of_getElem? hs)
      have hz2 := hz (i + 1)
      rw [allI_take hs, choF_len] at hz2
      have at2 := allI_take hs
      generalize hfd : allI (ss.take i) = found at *
      obtain ⟨as, hLs, hAs⟩ := hL
      walk_at "rd"
      intro D hD
      have nLD : L ≠ D := ne_some hLs hD
      refine .inl ⟨_, Same.new hD _ _ hLs, fun J2 W2 => ?_⟩
      refine forr W2 (fun j σ H' => MAi l L D s found H3 j σ H') ⟨v4, v5, rfl, .init hD⟩ (fun j σ H' _ h => by obtain ⟨_, _, _, h, _⟩ := h; exact h _ _ hLs) ?_ ?_
      · rintro j x σ H4o H4 hj ⟨v4, v5, rfl, k4⟩ ⟨rfl, hx⟩
        simp only [List.getElem?_map, Option.map_eq_some_iff] at hx
        obtain ⟨t, ht, rfl⟩ := hx
        have hjl : j < found.length := by rw [← hAs.1]; exact (List.getElem?_eq_some_iff.mp ht).1
        have hrow := hAs.2 j t _ ht (List.getElem?_eq_getElem hjl)
        have hrow4 := k4.1 _ _ hrow
        obtain ⟨bs, hb, _⟩ := id k4.2
        have hrl : found[j].length ≤ 4 := by
          have h1 := cho_in ((ss.take i).map rngI) [[]] 0 (by simp) found[j] (by rw [show ((ss.take i).map rngI).foldl choF [[]] = found from hfd]; exact List.getElem_mem hjl)
          rw [List.length_map, List.length_take] at h1
          omega
        walk_at "rd"
        refine ⟨⟨_, hb⟩, by omega, by omega, fun J3 W3 => ?_⟩
        refine lcr_tups W3 (fun i => found[j] ++ [(i : Int)]) (by omega) (fun _ _ => trivial) (fun i x H H' y => by rw [y.1]; exact Same.refl _) ?_ ?_
        · rintro i2 x H5 H6 Qy hi2 s5 ⟨rfl, rfl⟩ hq
          walk_at "rd"
          intro g hg
          have sg := Same.new hg (o := .tup [V.int (i2 : Nat)])
          refine catA_ints (ys := [(i2 : Int)]) (sg _ _ (s5 _ _ hrow4)) upd_same (by simp; omega) fun c H7 s7 hc => hq c H7 (sg.trans s7) hc
        · intro D2 H5 hD2 s5 hL5
          obtain ⟨ys, zs, e1, e2, e3, e4⟩ := k4.step (h := found[j]) (D2 := D2) hD (List.getElem?_eq_getElem hjl) s5 (by
            rw [show (rngI s).map (fun x => found[j] ++ [x]) = (List.range s.toNat).map fun (i : Nat) => found[j] ++ [(i : Int)] by unfold rngI; rw [List.map_map]; rfl]
            exact hL5) hz2
          exact ⟨D2, rfl, ys, e1, zs, e2, e3, _, _, rfl, e4⟩
      · rintro σ H4 ⟨v4, v5, rfl, s4, bs, hb, hA⟩
        rw [List.length_map, hAs.1, List.take_length] at hA
        walk_at "rd"
        exact ⟨D, _, _, _, _, rfl, s2.trans s4, bs, hb, by rw [at2]; exact hA⟩
    · rintro σ H2 ⟨L, v2, v3, v4, v5, rfl, s2, hL⟩
      rw [List.length_map, List.take_length] at hL
      walk_at "rd"
      exact q _ L s2 hL
theorem lcr_filt {J : It} {n : Nat} {G : Hp → Prop} {Y : Nat → Hp → V → Hp → Prop} (w : Walk J n G Y) {g : TG} {tt : TT} {te : TE} {vs : List Nat} {σ : L2.St} {H1 : Hp} {Q : VK} (xs : List Int) (pr : Int → Bool) (hl : xs.length = n) (hn : n < sizeLine) (hG : ∀ H, Same H1 H → G H)
    (hY : ∀ i x H H', Y i H x H' → Same H H' ∧ ∃ y, xs[i]? = some y ∧ x = .int y)
    (hs : ∀ y H (Qn : Hp → Prop) (Qy : VK), Same H1 H → (pr y = false → Qn H) → (pr y = true → Qy (.int y) H) → g (.int y) (wipe σ vs) H fun σ2 H2 => wipe σ2 vs = wipe σ vs ∧ tt σ2 H2 fun b H3 => if b = true then te σ2 H3 Qy else Qn H3)
    (hd : ∀ D H, H1 D = none → Same H1 H → H D = some (.lst ((xs.filter pr).map V.int)) → Q (.ref D) H) : LcR J g tt te vs σ H1 Q := by
  refine lcr_if w (fun D i acc H => Same H1 H ∧ acc = ((xs.take i).filter pr).map V.int) hn (fun D hD => ⟨Same.new hD, rfl⟩) (fun D i acc H hD hi h e => hG H h.1) (fun D i acc H l hD h hne => ⟨fun b o e => by rw [upd_ne (ne_some e hD)]; exact h.1 b o e, h.2⟩) ?_ ?_
  · rintro D i acc x H H' Qn Qy hD hi ⟨s1, rfl⟩ e hy hqn hqy
    obtain ⟨s2, y, hx, rfl⟩ := hY _ _ _ _ hy
    refine hs y H' Qn Qy (s1.trans s2) (fun hf => hqn _ (s2 _ _ e) ⟨s1.trans s2, ?_⟩) fun ht => hqy _ _ (s2 _ _ e) ⟨s1.trans s2, ?_⟩
    · rw [List.take_add_one, hx, List.filter_append]
      simp [hf]
    · rw [List.take_add_one, hx, List.filter_append, List.map_append]
      simp [ht]
  · rintro D acc H hD hl2 ⟨s1, rfl⟩ e
    rw [← hl, List.take_length] at e
    exact hd D H hD s1 e
theorem hpl_iff {p s k : Int} : k ∈ hpl p s ↔ (p % 2 = 0 ∧ k = p / 2) ∨ ((p + s) % 2 = 0 ∧ k = (p + s) / 2) := by
  unfold hpl
  simp only [List.mem_map, List.mem_filter, List.mem_cons, List.mem_nil_iff, or_false, beq_iff_eq]
  constructor
  · rintro ⟨d, ⟨rfl | rfl, h2⟩, rfl⟩
    · exact .inl ⟨h2, rfl⟩
    · exact .inr ⟨h2, rfl⟩
  · rintro (⟨h, rfl⟩ | ⟨h, rfl⟩)
    · exact ⟨p, ⟨.inl rfl, h⟩, rfl⟩
    · exact ⟨p + s, ⟨.inr rfl, h⟩, rfl⟩
theorem hpl_lt {p s : Int} (hs : 1 ≤ s) : (hpl p s).Pairwise (· < ·) := by
  unfold hpl
  rw [List.filter_cons, List.filter_cons, List.filter_nil]
  split
  · split
    · rename_i h1 h2
      have h1' := beq_iff_eq.mp h1
      have h2' := beq_iff_eq.mp h2
      simp
      omega
    · simp
  · split <;> simp
theorem hpl_few (p s : Int) : (hpl p s).length ≤ 2 := by
  unfold hpl
  rw [List.length_map]
  exact List.length_filter_le _ _
theorem half_mod {p s : Int} (h0 : 0 ≤ p) (h1 : p < s) (e : (p + s) % 2 = 0) : (p + s) / 2 * 2 % s = p := by
  rw [show (p + s) / 2 * 2 = p + s by omega, Int.add_emod_right, Int.emod_eq_of_lt h0 h1]
theorem half_odd {p s : Int} (h0 : 0 ≤ p) (h1 : p < s) (e : (p + s) % 2 = 1) (h : (p + s) / 2 * 2 % s = p) : s = 1 ∧ p = 0 := by
  rw [show (p + s) / 2 * 2 = (p - 1) + s by omega, Int.add_emod_right] at h
  by_cases hp : p = 0
  · subst hp
    refine ⟨?_, rfl⟩
    by_cases hs : s = 1
    · exact hs
    · exfalso
      have : (0 - 1 : Int) % s = s - 1 := by
        rw [show (0 - 1 : Int) = (s - 1) + s * (-1) by omega, Int.add_mul_emod_self_left]
        exact Int.emod_eq_of_lt (by omega) (by omega)
      omega
  · rw [Int.emod_eq_of_lt (by omega) (by omega)] at h
    omega
def hf1 (p s : Int) (k : Int) : Bool := decide (k * 2 % s = p) && decide (k < s)
theorem some_even {p s : Int} (h0 : 0 ≤ p) (h1 : p < s) (e : p % 2 = 0) (k : Int) : k ∈ ([p / 2, (p + s) / 2] : List Int).filter (hf1 p s) ↔ k ∈ hpl p s := by
  rw [hpl_iff]
  unfold hf1
  simp only [List.mem_filter, List.mem_cons, List.mem_nil_iff, or_false, Bool.and_eq_true, decide_eq_true_eq]
  constructor
  · rintro ⟨rfl | rfl, h2, h3⟩
    · exact .inl ⟨e, rfl⟩
    · have h12 : (p + s) % 2 = 0 ∨ (p + s) % 2 = 1 := by omega
      rcases h12 with h | h
      · exact .inr ⟨h, rfl⟩
      · obtain ⟨a, b⟩ := half_odd h0 h1 h h2
        exact .inl ⟨e, by omega⟩
  · rintro (⟨_, rfl⟩ | ⟨h, rfl⟩)
    · refine ⟨.inl rfl, ?_, by omega⟩
      rw [show p / 2 * 2 = p by omega]
      exact Int.emod_eq_of_lt h0 h1
    · exact ⟨.inr rfl, half_mod h0 h1 h, by omega⟩
theorem some_odd {p s : Int} (h0 : 0 ≤ p) (h1 : p < s) (e : p % 2 = 1) (k : Int) : k ∈ ([(p + s) / 2] : List Int).filter (fun k => decide (k * 2 % s = p)) ↔ k ∈ hpl p s := by
  rw [hpl_iff]
  simp only [List.mem_filter, List.mem_cons, List.mem_nil_iff, or_false, decide_eq_true_eq]
  constructor
  · rintro ⟨rfl, h2⟩
    have h12 : (p + s) % 2 = 0 ∨ (p + s) % 2 = 1 := by omega
    rcases h12 with h | h
    · exact .inr ⟨h, rfl⟩
    · obtain ⟨a, b⟩ := half_odd h0 h1 h h2
      omega
  · rintro (⟨h, rfl⟩ | ⟨h, rfl⟩)
    · omega
    · exact ⟨rfl, half_mod h0 h1 h⟩
def MHl (p l : Addr) (ps ss : List Int) (i : Nat) (H : Hp) (σ : L2.St) (H' : Hp) : Prop := ∃ (L : Addr) (v3 v4 v5 v6 v7 v8 : Option V), σ = [some (V.ref p), some (V.ref l), some (V.ref L), v3, v4, v5, v6, v7, v8] ∧ Same H H' ∧ LstT H' L (choI ((hrows ps ss).take i))
def MH1 (p l : Addr) (H : Hp) (σ : L2.St) (H' : Hp) : Prop := ∃ (L : Addr), σ = [some (V.ref p), some (V.ref l), some (V.ref L), none, none, none, none, none, none] ∧ Same H H' ∧ LstT H' L [[]]
def MHs (p l L : Addr) (x s : Int) (R : List Int → Prop) (found : List (List Int)) (H : Hp) (σ : L2.St) (H' : Hp) : Prop := ∃ (M : Addr) (ns : List Int) (v6 v7 v8 : Option V), σ = [some (V.ref p), some (V.ref l), some (V.ref L), some (V.int x), some (V.int s), some (V.ref M), v6, v7, v8] ∧ Same H H' ∧ LstT H' L found ∧ H' M = some (.lst (ns.map V.int)) ∧ ns.length ≤ 2 ∧ R ns
def MHt (p l L : Addr) (x s : Int) (found : List (List Int)) (H : Hp) (σ : L2.St) (H' : Hp) : Prop := ∃ (M D : Addr) (ns : List Int) (H3 : Hp) (v7 v8 : Option V), σ = [some (V.ref p), some (V.ref l), some (V.ref L), some (V.int x), some (V.int s), some (V.ref M), some (V.ref D), v7, v8] ∧ Same H H3 ∧ LstT H3 L found ∧ H3 M = some (.lst (ns.map V.int)) ∧ ns.length ≤ 2 ∧ (∀ k, k ∈ ns ↔ k ∈ hpl x s) ∧ H3 D = none ∧ H' = upd H3 D (.lst [])
def MHu (p l L : Addr) (x s : Int) (parts : List Int) (found : List (List Int)) (H : Hp) (σ : L2.St) (H' : Hp) : Prop := ∃ (M D : Addr) (v7 v8 : Option V), σ = [some (V.ref p), some (V.ref l), some (V.ref L), some (V.int x), some (V.int s), some (V.ref M), some (V.ref D), v7, v8] ∧ Same H H' ∧ LstT H' D (choF found parts)
theorem sorted_eq : ∀ {xs ys : List Int}, xs.Pairwise (· < ·) → ys.Pairwise (· < ·) → (∀ k, k ∈ xs ↔ k ∈ ys) → xs = ys
  | [], [], _, _, _ => rfl
  | [], y :: ys, _, _, h => absurd ((h y).mpr (List.mem_cons_self ..)) (by simp)
  | x :: xs, [], _, _, h => absurd ((h x).mp (List.mem_cons_self ..)) (by simp)
  | x :: xs, y :: ys, hx, hy, h => by
    obtain ⟨a1, a2⟩ := List.pairwise_cons.mp hx
    obtain ⟨b1, b2⟩ := List.pairwise_cons.mp hy
    have e : x = y := by
      rcases List.mem_cons.mp ((h x).mp (List.mem_cons_self ..)) with e | h1
      · exact e
      rcases List.mem_cons.mp ((h y).mpr (List.mem_cons_self ..)) with e | h2
      · exact e.symm
      have := b1 x h1
      have := a1 y h2
      omega
    subst e
    rw [sorted_eq a2 b2 fun k => ⟨fun hk => ?_, fun hk => ?_⟩]
    · rcases List.mem_cons.mp ((h k).mp (List.mem_cons_of_mem _ hk)) with e | h1
      · have := a1 k hk
        omega
      · exact h1
    · rcases List.mem_cons.mp ((h k).mpr (List.mem_cons_of_mem _ hk)) with e | h1
      · have := b1 k hk
        omega
      · exact h1
def MHx (p l L : Addr) (x s : Int) (M D : Addr) (parts : List Int) (found : List (List Int)) (H3 : Hp) (j : Nat) (σ : L2.St) (H' : Hp) : Prop := ∃ (v7 v8 : Option V), σ = [some (V.ref p), some (V.ref l), some (V.ref L), some (V.int x), some (V.int s), some (V.ref M), some (V.ref D), v7, v8] ∧ ExtAt H3 D found parts j H'
theorem halF_len2 : ∀ (zs : List (Int × Int)) (found : List (List Int)), (zs.foldl halF found).length ≤ found.length * 2 ^ zs.length
  | [], found => by simp
  | z :: zs, found => by
    have h1 := halF_len2 zs (halF found z)
    have h2 : (halF found z).length = found.length * (hpl z.1 z.2).length := choF_len (hpl z.1 z.2) found
    have h3 := hpl_few z.1 z.2
    rw [List.foldl_cons, List.length_cons, Nat.pow_succ]
    refine Nat.le_trans h1 ?_
    rw [h2, Nat.mul_comm (2 ^ zs.length) 2, ← Nat.mul_assoc]
    exact Nat.mul_le_mul_right _ (Nat.mul_le_mul_left _ h3)
theorem hal_few {ss ps : List Int} (z : Sz ss) (i : Nat) : (((ps.zip ss).take i).foldl halF [[]]).length ≤ 16 := by
  refine Nat.le_trans (halF_len2 _ _) ?_
  have h1 : ((ps.zip ss).take i).length ≤ 4 := by rw [List.length_take, List.length_zip]; have := z.hi; omega
  have h2 : 2 ^ ((ps.zip ss).take i).length ≤ 2 ^ 4 := Nat.pow_le_pow_right (by decide) h1
  simp only [List.length_cons, List.length_nil]
  omega
def sp_law_halves (K : PySem.W.Frag) : Sp := fun vs H Q _ => ∃ (p l : Addr) (ss ps : List Int), vs = [.ref p, .ref l] ∧ H p = some (.tup (ps.map V.int)) ∧ H l = some (.lst (ss.map V.int)) ∧ Seat ss ps ∧ Sz ss ∧ ∀ H' L, Same H H' → LstT H' L (halI ps ss) → Q (.ref L) H'
theorem ok_law_halves (T : Tx K mg) : FnOk P w K mg base CX0 1 T.f_law_halves T.fd_law_halves ["_law_origin", "_law_sizes"] (sp_law_halves K) := by
  refine T.F_law_halves.ok sc_law_halves (fun vs H Q E h => ?_) (fun cdv A outer s H vs Q E hr h => ?_)
  · obtain ⟨p, l, ss, ps, rfl, _⟩ := h; rfl
  · obtain ⟨p, l, ss, ps, rfl, hp, hl, hS, z, q⟩ := h
    refine ⟨_, (C8.pss_cut (ps_set (i := 2) sc_law_halves.nd rfl (Or.inl rfl) (pe_lst (pa_cons (pe_tup pa_nil) pa_nil)))
      (C8.pss_cut (ps_for PassesOwn.never rfl (pi_z2H (by rfl) T.n_zip (pa_cons (pv 0) (pa_cons (pv 1) pa_nil))) (pg_tupH (n := 2) rfl (pgs_cons (pg_name (i := 3) sc_law_halves.nd rfl (Or.inr rfl)) (pgs_cons (pg_name (i := 4) sc_law_halves.nd rfl (Or.inr rfl)) pgs_nil)))
        (C8.pss_cut (ps_setLc (i := 5) (own := [("_law_half", 8)]) (g := (gName 8)) rfl sc_law_halves.nd rfl rfl (sw_true rfl rfl rfl (by decide +kernel)) (pi_seqH (pe_lst (pa_cons (pe_op op_fdivW (pv 3) pe_int) (pa_cons (pe_op op_fdivW (pe_op op_add (pv 3) (pv 4)) pe_int) pa_nil)))) (blkOk_by (own := [("_law_half", 8)]) (N := N_law_halves) (sc := defScope d_law_halves) (by decide +kernel)) (fun _ _ _ _ _ => (pg_name (i := 8) sc_law_halves.nd rfl (Or.inl rfl))) (fun _ _ _ _ _ => (pts_one (PW.pt (pw_and (pt_cmpR op_eq (pe_op op_mod (pe_op op_mulA (pv 8) pe_int) (pv 4)) (pv 3) (nomark _)) (pw_and1 (pt_cmpR op_lt (pv 8) (pv 4) (nomark _))))))) (fun _ _ _ _ _ => (pv 8)))
        (C8.pss_cut (ps_if (pt_cmpR op_eq (pe_op op_mod (pv 3) pe_int) pe_int (nomark _)) (pss_one (ps_setLc (i := 5) (own := [("_law_half", 8)]) (g := (gName 8)) rfl sc_law_halves.nd rfl rfl (sw_true rfl rfl rfl (by decide +kernel)) (pi_seqH (pe_lst (pa_cons (pe_op op_fdivW (pe_op op_add (pv 3) (pv 4)) pe_int) pa_nil))) (blkOk_by (own := [("_law_half", 8)]) (N := N_law_halves) (sc := defScope d_law_halves) (by decide +kernel)) (fun _ _ _ _ _ => (pg_name (i := 8) sc_law_halves.nd rfl (Or.inl rfl))) (fun _ _ _ _ _ => (pts_one (pt_cmpR op_eq (pe_op op_mod (pe_op op_mulA (pv 8) pe_int) (pv 4)) (pv 3) (nomark _)))) (fun _ _ _ _ _ => (pv 8)))) pss_nil)
        (C8.pss_cut (ps_set (i := 6) sc_law_halves.nd rfl (Or.inl rfl) (pe_lst pa_nil))
        (C8.pss_cut (ps_for PassesOwn.never rfl (pi_seqH (pv 2)) (pg_name (i := 7) sc_law_halves.nd rfl (Or.inr rfl))
          (pss_one (ps_expr (pe_extendL (pv 6) (pa_cons (pe_lc (own := [("_law_half", 8)]) (g := (gName 8)) (tt := tYes) rfl sc_law_halves.nd (pi_seqH (pe_callB (cr_sortLI rfl) (by rfl) T.n_sorted (by decide +kernel) (pa_cons (pe_callTy (cr_setLI rfl) (by rfl) T.n_set (by decide +kernel) (pa_cons (pv 5) pa_nil)) pa_nil))) (blkOk_by (own := [("_law_half", 8)]) (N := N_law_halves) (sc := defScope d_law_halves) (by decide +kernel)) (fun _ _ _ _ _ => (pg_name (i := 8) sc_law_halves.nd rfl (Or.inl rfl))) (fun _ _ _ _ _ => pts_nil) (fun _ _ _ _ _ => (pe_op (op_catAK (K := K) rfl) (pv 7) (pe_tup (pa_cons (pv 8) pa_nil))))) pa_nil)))))
        (pss_one (ps_set (i := 2) sc_law_halves.nd rfl (Or.inl rfl) (pv 6))))))))
      (pss_one (ps_ret (pv 2))))), ?_⟩
    refine ⟨MH1 p l H, ?_, ?_⟩
    · walk_at "rd"
      intro g hg p1 hp1
      have s1 := (Same.new hg (o := .tup [])).trans (Same.new hp1 (o := .lst [V.ref g]))
      have fp := Same.new hp1 (o := .lst [V.ref g]) _ _ (upd_same : (upd H g (.tup [])) g = some (.tup []))
      exact ⟨p1, rfl, s1, [g], upd_same, AsT.snoc (hs := []) AsT.nil fp⟩
    rintro σ1 H1 ⟨L1, rfl, s1, hL1⟩
    refine ⟨MHl p l ps ss ss.length H, ?_, ?_⟩
    · walk_at "rd"
      refine ⟨false, true, ps.map V.int, s1 _ _ hp, ss.map V.int, s1 _ _ hl, by rw [List.length_map, List.length_map, hS.len], fun J W => ?_⟩
      refine forr W (fun i σ H' => MHl p l ps ss i H σ H') ⟨L1, none, none, none, none, none, none, rfl, s1, hL1⟩ (fun i σ H' _ h => by obtain ⟨_, _, _, _, _, _, _, _, h, _⟩ := h; exact ⟨h _ _ hp, h _ _ hl⟩) ?_ ?_
      · rintro i x σ H2 H3 hi ⟨L, v3, v4, v5, v6, v7, v8, rfl, s2, hL⟩ ⟨T0, x1, y1, rfl, hT, rfl, e1, e2⟩
        simp only [List.getElem?_map, Option.map_eq_some_iff] at e1 e2
        obtain ⟨x2, hx2, rfl⟩ := e1
        obtain ⟨y2, hy2, rfl⟩ := e2
        have st := hS.ok i x2 y2 hx2 hy2
        have s3 := s2.trans (Same.new hT (o := .tup [V.int x2, V.int y2]))
        have hL3 := LstT.same (Same.new hT (o := .tup [V.int x2, V.int y2])) hL
        have row := hrows_get hx2 hy2
        have at2 : choI ((hrows ps ss).take (i + 1)) = choF (choI ((hrows ps ss).take i)) (hpl x2 y2) := cho_take row
        have hal_len : ∀ i, (choI ((hrows ps ss).take i)).length ≤ 16 := fun i => by
          unfold choI
          rw [hal_cho]
          exact hal_few z i
        generalize hfd : choI ((hrows ps ss).take i) = found at *
        walk_at "rd"
        generalize upd H2 T0 (HO.tup [V.int x2, V.int y2]) = H3 at s3 hL3 ⊢
        refine ⟨MHs p l L x2 y2 (fun ns => x2 % 2 = 0 → ∀ k, k ∈ ns ↔ k ∈ hpl x2 y2) found H, ?_, ?_⟩
        · walk_at "rd"
          intro g hg
          have sg := Same.new hg (o := .lst [V.int (x2 / 2), V.int ((x2 + y2) / 2)])
          have fg : (upd H3 g (.lst [V.int (x2 / 2), V.int ((x2 + y2) / 2)])) g = some (.lst [V.int (x2 / 2), V.int ((x2 + y2) / 2)]) := upd_same
          generalize upd H3 g (HO.lst [V.int (x2 / 2), V.int ((x2 + y2) / 2)]) = H4 at sg fg ⊢
          intro J2 W2
          refine lcr_filt W2 [x2 / 2, (x2 + y2) / 2] (hf1 x2 y2) rfl (by decide) (fun H5 s5 => s5 _ _ fg) ?_ ?_ ?_
          · rintro i x H5 H6 ⟨rfl, hx⟩
            refine ⟨Same.refl _, ?_⟩
            rw [show [V.int (x2 / 2), V.int ((x2 + y2) / 2)] = ([x2 / 2, (x2 + y2) / 2] : List Int).map V.int from rfl, List.getElem?_map, Option.map_eq_some_iff] at hx
            obtain ⟨y, hy, rfl⟩ := hx
            exact ⟨y, hy, rfl⟩
          · intro y H5 Qn Qy s5 hf ht
            walk_at "rd"
            refine ⟨.inr (.inl (by decide)), by omega, ?_⟩
            unfold hf1 at hf ht
            by_cases c1 : y * 2 % y2 = x2
            · by_cases c2 : y < y2
              · simp [c1, c2] at ht ⊢
                exact ht
              · simp [c1, c2] at hf ⊢
                exact hf
            · simp [c1] at hf ⊢
              exact hf
          · intro D H5 hD s5 h5
            exact ⟨D, _, _, _, _, rfl, s3.trans (sg.trans s5), LstT.same (sg.trans s5) hL3, h5, List.length_filter_le _ _, fun e => some_even st.1 st.2 e⟩
        rintro σ4 H4 ⟨M, ns, v6, v7, v8, rfl, s4, hL4, hM4, few, hR⟩
        refine ⟨MHs p l L x2 y2 (fun ns => ∀ k, k ∈ ns ↔ k ∈ hpl x2 y2) found H, ?_, ?_⟩
        · walk_at "rd"
          by_cases c : x2 % 2 = 1
          · rw [if_pos c]
            intro g hg
            have sg := Same.new hg (o := .lst [V.int ((x2 + y2) / 2)])
            have fg : (upd H4 g (.lst [V.int ((x2 + y2) / 2)])) g = some (.lst [V.int ((x2 + y2) / 2)]) := upd_same
            generalize upd H4 g (HO.lst [V.int ((x2 + y2) / 2)]) = H4b at sg fg ⊢
            intro J2 W2
            refine lcr_filt W2 [(x2 + y2) / 2] (fun k => decide (k * 2 % y2 = x2)) rfl (by decide) (fun H5 s5 => s5 _ _ fg) ?_ ?_ ?_
            · rintro i x H5 H6 ⟨rfl, hx⟩
              refine ⟨Same.refl _, ?_⟩
              rw [show [V.int ((x2 + y2) / 2)] = ([(x2 + y2) / 2] : List Int).map V.int from rfl, List.getElem?_map, Option.map_eq_some_iff] at hx
              obtain ⟨y, hy, rfl⟩ := hx
              exact ⟨y, hy, rfl⟩
            · intro y H5 Qn Qy s5 hf ht
              walk_at "rd"
              refine ⟨.inr (.inl (by decide)), by omega, ?_⟩
              by_cases c1 : y * 2 % y2 = x2
              · rw [if_pos c1]
                exact ht (decide_eq_true c1)
              · rw [if_neg c1]
                exact hf (decide_eq_false c1)
            · intro D H5 hD s5 h5
              exact ⟨D, _, _, _, _, rfl, s4.trans (sg.trans s5), LstT.same (sg.trans s5) hL4, h5, Nat.le_trans (List.length_filter_le _ _) (by simp), some_odd st.1 st.2 c⟩
          · rw [if_neg c]
            exact ⟨M, ns, _, _, _, rfl, s4, hL4, hM4, few, hR (by omega)⟩
        rintro σ5 H5 ⟨M, ns, v6, v7, v8, rfl, s5, hL5, hM5, few, hR⟩
        refine ⟨MHt p l L x2 y2 found H, ?_, ?_⟩
        · walk_at "rd"
          exact fun D hD => ⟨M, D, ns, H5, _, _, rfl, s5, hL5, hM5, few, hR, hD, rfl⟩
        rintro σ6 H6 ⟨M, D, ns, H3', v7, v8, rfl, s6, hL6, hM6, few, hR, hD, rfl⟩
        obtain ⟨as, hLs, hAs⟩ := hL6
        have hz2 : found.length * (hpl x2 y2).length ≤ 1000 := by
          have h1 := hal_len i
          rw [hfd] at h1
          have h2 := hpl_few x2 y2
          exact Nat.le_trans (Nat.mul_le_mul h1 h2) (by decide)
        refine ⟨MHu p l L x2 y2 (hpl x2 y2) found H, ?_, ?_⟩
        · walk_at "rd"
          refine .inl ⟨_, Same.new hD _ _ hLs, fun J2 W2 => ?_⟩
          refine forr W2 (fun j σ H' => MHx p l L x2 y2 M D (hpl x2 y2) found H3' j σ H') ⟨v7, v8, rfl, .init hD⟩ (fun j σ H' _ h => by obtain ⟨_, _, _, h, _⟩ := h; exact h _ _ hLs) ?_ ?_
          · rintro j x σ H7o H7 hj ⟨v7, v8, rfl, k7⟩ ⟨rfl, hx⟩
            simp only [List.getElem?_map, Option.map_eq_some_iff] at hx
            obtain ⟨t, ht, rfl⟩ := hx
            have hjl : j < found.length := by rw [← hAs.1]; exact (List.getElem?_eq_some_iff.mp ht).1
            have hrow := hAs.2 j t _ ht (List.getElem?_eq_getElem hjl)
            have hrow7 := k7.1 _ _ hrow
            have hM7 := k7.1 _ _ hM6
            obtain ⟨bs, hb, _⟩ := id k7.2
            have hrl : found[j].length ≤ 4 := by
              have h1 := cho_in ((hrows ps ss).take i) [[]] 0 (by simp) found[j] (by rw [show ((hrows ps ss).take i).foldl choF [[]] = found from hfd]; exact List.getElem_mem hjl)
              have h2 : ((hrows ps ss).take i).length ≤ 4 := by
                unfold hrows
                rw [List.length_take, List.length_map, List.length_zip]
                have := z.hi
                omega
              omega
            walk_at "rd"
            refine ⟨⟨_, hb⟩, M, rfl, ns, hM7, by omega, fun S c hS2 hc => ?_⟩
            have sS := Same.new hS2 (o := SetO w S (fun j => decide (j ∈ ns)) c)
            refine ⟨S, _, c, rfl, upd_same, by omega, fun ms q1 hms hmem _ hq1 => ?_⟩
            have sq := Same.new hq1 (o := .lst (ms.map V.int))
            have em : ms = hpl x2 y2 := sorted_eq hms (hpl_lt (by omega)) fun k => by
              rw [hmem k, decide_eq_true_eq]
              exact hR k
            have fq : (upd (upd H7 S (SetO w S (fun j => decide (j ∈ ns)) c)) q1 (.lst (ms.map V.int))) q1 = some (.lst (ms.map V.int)) := upd_same
            have s78 := sS.trans sq
            generalize upd (upd H7 S (SetO w S (fun j => decide (j ∈ ns)) c)) q1 (HO.lst (ms.map V.int)) = H8 at fq s78 ⊢
            subst em
            refine ⟨q1, rfl, .inl ⟨_, fq, fun J3 W3 => ?_⟩⟩
            refine lcr_tups W3 (fun i => found[j] ++ [(hpl x2 y2).getD i 0]) (by rw [List.length_map]; exact Nat.le_trans (hpl_few x2 y2) (by decide)) (fun _ s => s _ _ fq) (fun _ _ _ _ y => YAt.same y) ?_ ?_
            · rintro i2 x H9 H10 Qy hi2 s9 ⟨rfl, hx⟩ hq
              simp only [List.getElem?_map, Option.map_eq_some_iff] at hx
              obtain ⟨k, hk, rfl⟩ := hx
              rw [List.getD_eq_getElem?_getD, hk] at hq
              walk_at "rd"
              intro g hg
              have sg := Same.new hg (o := .tup [V.int k])
              refine catA_ints (ys := [k]) (sg _ _ (s9 _ _ (s78 _ _ hrow7))) upd_same (by simp; omega) fun c H11 s11 hc => hq c H11 (sg.trans s11) hc
            · intro D2 H9 hD2 s9 hL9
              rw [List.length_map, range_getI (hpl x2 y2) fun v => found[j] ++ [v]] at hL9
              obtain ⟨ys, zs, e1, e2, e3, e4⟩ := k7.step (h := found[j]) (D2 := D2) hD (List.getElem?_eq_getElem hjl) (s78.trans s9) hL9 hz2
              exact ⟨D2, rfl, ys, e1, zs, e2, e3, _, _, rfl, e4⟩
          · rintro σ H7 ⟨v7, v8, rfl, s7, bs, hb, hA⟩
            rw [List.length_map, hAs.1, List.take_length] at hA
            exact ⟨M, D, _, _, rfl, s6.trans s7, bs, hb, hA⟩
        rintro σ7 H7 ⟨M, D, v7, v8, rfl, s7, hL7⟩
        walk_at "rd"
        exact ⟨D, _, _, _, _, _, _, rfl, s7, by rw [at2]; exact hL7⟩
      · rintro σ H2 h
        rw [List.length_map, hS.len] at h
        exact h
    rintro σ2 H2 ⟨L, v3, v4, v5, v6, v7, v8, rfl, s2, hL⟩
    have e : choI ((hrows ps ss).take ss.length) = halI ps ss := by
      have := hal_cho ps ss ss.length
      unfold choI
      rw [this, List.take_of_length_le (by rw [List.length_zip]; omega)]
      rfl
    rw [e] at hL
    walk_at "rd"
    exact q _ L s2 hL
end

/-! ### k02's checks -/
section
variable {P : Program} {w : World} {K : PySem.W.Frag} {mg : Str → Option Value} {base : Heap}
theorem noS (t : Addr) (m : Str) (e : (m == ("_sizes" : Str)) = false) : List.lookup m [(("_sizes" : Str), V.ref t)] = none := by simp [List.lookup, e]
theorem flat_zero (k : Nat) : (List.replicate k [V.int 0]).flatten = (List.replicate k (0 : Int)).map V.int := by
  induction k with
  | zero => rfl
  | succ k ih => rw [List.replicate_succ, List.flatten_cons, ih, List.replicate_succ]; rfl
theorem zero_seat {ss : List Int} (h : ∀ s ∈ ss, 1 ≤ s) : Seat ss (List.replicate ss.length 0) := by
  refine ⟨by simp, fun i p s hp hs => ?_⟩
  rw [List.getElem?_replicate] at hp
  have := h s (List.mem_of_getElem? hs)
  split at hp
  · obtain rfl := Option.some.inj hp
    omega
  · cases hp
structure KC (C a l b : Addr) (ss : List Int) (H0 H : Hp) : Prop where
  sx : Sx a H0 H
  src : Src H a
  l : H l = some (.lst (ss.map V.int))
  b : TabAt C H b ss
theorem KC.same {C a l b : Addr} {ss : List Int} {H0 H H' : Hp} (k : KC C a l b ss H0 H) (s : Same H H') : KC C a l b ss H0 H' := ⟨k.sx.trans (Sx.of s), k.src.same s, s _ _ k.l, k.b.same s⟩
theorem KC.sxx {C a l b : Addr} {ss : List Int} {H0 H H' : Hp} (k : KC C a l b ss H0 H) (nla : l ≠ a) (s : Sx a H H') (h : Src H' a) : KC C a l b ss H0 H' := ⟨k.sx.trans s, h, s _ _ nla k.l, k.b.sx k.src s⟩
theorem half_seat {ss : List Int} (h : ∀ s ∈ ss, 1 ≤ s) : Seat ss (ss.map fun s => s / 2) := by
  refine ⟨by simp, fun i p s hp hs => ?_⟩
  rw [List.getElem?_map, hs] at hp
  obtain rfl := Option.some.inj hp
  have := h s (List.mem_of_getElem? hs)
  show 0 ≤ s / 2 ∧ s / 2 < s
  omega
def MC1 (a : Addr) (H : Hp) (σ : L2.St) (H' : Hp) : Prop := ∃ (l : Addr) (ss : List Int), σ = [some (V.ref a), some (V.ref l), none, none, none, none, none, none, none] ∧ Sx a H H' ∧ Src H' a ∧ H' l = some (.lst (ss.map V.int)) ∧ l ≠ a ∧ Sz ss
def MC2 (C a l : Addr) (ss : List Int) (H : Hp) (σ : L2.St) (H' : Hp) : Prop := ∃ (b : Addr) (v3 v4 v5 v6 v7 v8 : Option V), σ = [some (V.ref a), some (V.ref l), some (V.ref b), v3, v4, v5, v6, v7, v8] ∧ KC C a l b ss H H'
def MCa (C a l b : Addr) (n : Nat) (ss : List Int) (H : Hp) (σ : L2.St) (H' : Hp) : Prop := ∃ (o : Addr) (os : List Int) (v5 v6 v7 v8 : Option V), σ = [some (V.ref a), some (V.ref l), some (V.ref b), some (V.int (n : Nat)), some (V.ref o), v5, v6, v7, v8] ∧ KC C a l b ss H H' ∧ H' o = some (.tup (os.map V.int)) ∧ Seat ss os
def MCb (C a l b o : Addr) (n : Nat) (ss os : List Int) (H : Hp) (σ : L2.St) (H' : Hp) : Prop := ∃ (m t : Addr) (ms ts : List Int) (v7 v8 : Option V), σ = [some (V.ref a), some (V.ref l), some (V.ref b), some (V.int (n : Nat)), some (V.ref o), some (V.ref m), some (V.ref t), v7, v8] ∧ KC C a l b ss H H' ∧ H' o = some (.tup (os.map V.int)) ∧ H' m = some (.tup (ms.map V.int)) ∧ Seat ss ms ∧ H' t = some (.tup (ts.map V.int)) ∧ Seat ss ts
def MCd (C a l b o : Addr) (ss os : List Int) (H : Hp) (σ : L2.St) (H' : Hp) : Prop := ∃ (f : Addr) (v3 v5 v6 v8 : Option V), σ = [some (V.ref a), some (V.ref l), some (V.ref b), v3, some (V.ref o), v5, v6, some (V.ref f), v8] ∧ KC C a l b ss H H' ∧ H' o = some (.tup (os.map V.int)) ∧ LstT H' f (halI os ss) ∧ H f = none ∧ f ≠ a ∧ l ≠ f
def MCe (C a l b o : Addr) (ss os : List Int) (H : Hp) (σ : L2.St) (H' : Hp) : Prop := ∃ (v3 v5 v6 v7 v8 : Option V), σ = [some (V.ref a), some (V.ref l), some (V.ref b), v3, some (V.ref o), v5, v6, v7, v8] ∧ KC C a l b ss H H' ∧ H' o = some (.tup (os.map V.int))
def sp_law_check (K : PySem.W.Frag) : Sp := fun vs H Q _ => ∃ (a : Addr), vs = [.ref a] ∧ Src H a ∧ ∀ H', Sx a H H' → Src H' a → Q (.bl true) H'
theorem ok_law_check (T : Tx K mg) : FnOk P w K mg base CX0 5 T.f_law_check T.fd_law_check ["_law_source_here"] (sp_law_check K) := by
  refine T.F_law_check.ok sc_law_check (fun vs H Q E h => ?_) (fun cdv A outer s H vs Q E hr h => ?_)
  · obtain ⟨a, rfl, _⟩ := h; rfl
  · obtain ⟨a, rfl, hs, q⟩ := h
    refine ⟨_, (C8.pss_cut (ps_set (i := 1) sc_law_check.nd rfl (Or.inl rfl) (pe_call (ok_law_rings T) (hr.mono (by decide)) (by rfl) T.g_law_rings T.F_law_rings.kp T.b_law_rings .nil pass0 (pa_cons (pv 0) pa_nil)))
      (C8.pss_cut (ps_set (i := 2) sc_law_check.nd rfl (Or.inl rfl) (pe_make T.M_Table (ok_Table_init T) (hr.mono (by decide)) (by rfl) T.g_Table T.b_Table_init .nil pass0 (pa_cons (pv 1) pa_nil)))
      (C8.pss_cut (ps_for PassesOwn.never rfl (pi_range1H (by rfl) T.n_range (pa_cons pe_int pa_nil)) (pg_name (i := 3) sc_law_check.nd rfl (Or.inl rfl))
        (C8.pss_cut (ps_set (i := 4) sc_law_check.nd rfl (Or.inl rfl) (pe_call (ok_law_seat T) (hr.mono (by decide)) (by rfl) T.g_law_seat T.F_law_seat.kp T.b_law_seat .nil pass0 (pa_cons (pv 0) (pa_cons (pv 1) pa_nil))))
        (C8.pss_cut (ps_par (i := 5) (j := 6) (by rfl) sc_law_check.nd rfl rfl (by decide) rfl rfl (pa_cons (pe_callTy tuple_H (by rfl) T.n_tuple (by decide +kernel) (pa_cons (pe_lc (own := [("_law_place", 8)]) (g := (gName 8)) (tt := tYes) rfl sc_law_check.nd (pi_seqH (pv 1)) (blkOk_by (own := [("_law_place", 8)]) (N := N_law_check) (sc := defScope d_law_check) (by decide +kernel)) (fun _ _ _ _ _ => (pg_name (i := 8) sc_law_check.nd rfl (Or.inl rfl))) (fun _ _ _ _ _ => pts_nil) (fun _ _ _ _ _ => (pe_op op_fdivW (pv 8) pe_int))) pa_nil)) (pa_cons (pe_call (ok_law_sum T) (hr.mono (by decide)) (by rfl) T.g_law_sum T.F_law_sum.kp T.b_law_sum .nil pass0 (pa_cons (pv 4) (pa_cons (pv 4) (pa_cons (pv 1) pa_nil)))) pa_nil)) (by rfl))
        (C8.pss_cut (ps_set (i := 4) sc_law_check.nd rfl (Or.inl rfl) (pe_ix ix_lH (pe_lst (pa_cons (pv 4) (pa_cons (pv 5) (pa_cons (pe_op op_repA (pe_tup (pa_cons pe_int pa_nil)) (pe_callB len_H (by rfl) T.n_len PySem.boot_len (pa_cons (pv 1) pa_nil))) (pa_cons (pv 6) pa_nil))))) (pv 3) (fun _ _ => rfl)))
        (C8.pss_cut (ps_set (i := 7) sc_law_check.nd rfl (Or.inl rfl) (pe_meth (pv 2) T.cl_Table T.m_Table_halves (ok_Table_halves T) (hr.mono (by decide)) T.b_Table_halves .nil pass0 (pa_cons (pv 4) pa_nil)))
        (C8.pss_cut (ps_if (PW.pt (pw_or (pt_cmpR op_ne (pe_meth (pv 2) T.cl_Table T.m_Table_order (ok_Table_order T) (hr.mono (by decide)) T.b_Table_order .nil pass0 (pa_cons (pv 4) pa_nil)) (pe_call (ok_law_period T) (hr.mono (by decide)) (by rfl) T.g_law_period T.F_law_period.kp T.b_law_period .nil pass0 (pa_cons (pv 4) (pa_cons (pv 1) pa_nil))) (nomark _)) (pw_or1 (pt_cmpR (op_neDK (K := K) rfl hr.units) (pv 7) (pe_call (ok_law_halves T) (hr.mono (by decide)) (by rfl) T.g_law_halves T.F_law_halves.kp T.b_law_halves .nil pass0 (pa_cons (pv 4) (pa_cons (pv 1) pa_nil))) (nomark _))))) (pss_one (ps_ret pe_bl)) pss_nil)
        (C8.pss_cut (ps_expr (pe_append (pv 7) (pa_cons pe_non pa_nil)))
        (C8.pss_cut (ps_if (pt_cmpR (op_neDK (K := K) rfl hr.units) (pe_methK0 (pv 2) T.cl_Table T.m_Table_halves (ok_Table_halves T) (hr.mono (by decide)) T.kb_Table_halves_seat pass0 (pk_cons (pv 4) pk_nil)) (pe_call (ok_law_halves T) (hr.mono (by decide)) (by rfl) T.g_law_halves T.F_law_halves.kp T.b_law_halves .nil pass0 (pa_cons (pv 4) (pa_cons (pv 1) pa_nil))) (nomark _)) (pss_one (ps_ret pe_bl)) pss_nil)
        (pss_one (ps_if (pt_cmpR op_ne (pe_methK0 (pv 2) T.cl_Table T.m_Table_order (ok_Table_order T) (hr.mono (by decide)) T.kb_Table_order_seat pass0 (pk_cons (pv 4) pk_nil)) (pe_call (ok_law_period T) (hr.mono (by decide)) (by rfl) T.g_law_period T.F_law_period.kp T.b_law_period .nil pass0 (pa_cons (pv 4) (pa_cons (pv 1) pa_nil))) (nomark _)) (pss_one (ps_ret pe_bl)) pss_nil))))))))))
      (pss_one (ps_ret pe_bl))))), ?_⟩
    refine ⟨MC1 a H, ?_, ?_⟩
    · walk_at "rd"
      exact ⟨a, rfl, hs, fun H1 l ss s1 hs1 hHl hl nla z => ⟨l, ss, rfl, s1, hs1, hl, nla, z⟩⟩
    rintro σ1 H1 ⟨l, ss, rfl, s1, hs1, hl, nla, z⟩
    refine ⟨MC2 T.c_Table a l ss H, ?_, ?_⟩
    · walk_at "rd"
      intro x dx hx hdx hne
      have nxa : x ≠ a := hs1.ne hx
      have s3 : Same H1 (upd (upd H1 dx (.own x)) x (.ins T.c_Table dx [])) := (Same.new hdx).trans (Same.new (by rw [upd_ne hne.symm]; exact hx))
      have f3 : (upd (upd H1 dx (.own x)) x (.ins T.c_Table dx [])) x = some (.ins T.c_Table dx []) := upd_same
      generalize upd (upd H1 dx (HO.own x)) x (HO.ins T.c_Table dx []) = H3 at s3 f3 ⊢
      have hHx : H x = none := s1.free nxa hx
      have nlx : l ≠ x := ne_two (s3 _ _ hl) f3 (by simp)
      refine ⟨x, dx, .ref l, l, true, ss, rfl, f3, rfl, s3 _ _ hl, z.lo, z.hi, z.pos, fun H4 t s4 h4 ht => ⟨rfl, ?_⟩⟩
      obtain ⟨u1, u2, u3, hu⟩ := hs1.same s3
      exact ⟨x, none, none, none, none, none, none, rfl, ⟨fun b' o nb hb' => s4 _ _ (ne_some hb' hHx) (s3 _ _ (s1 _ _ nb hb')), ⟨u1, u2, u3, s4 _ _ nxa.symm hu⟩, s4 _ _ nlx (s3 _ _ hl), dx, t, h4, ht⟩⟩
    rintro σ2 H2 ⟨b, v3, v4, v5, v6, v7, v8, rfl, k2⟩
    refine ⟨MC2 T.c_Table a l ss H, ?_, ?_⟩
    · walk_at "rd"
      intro J W
      refine forr W (fun _ σ H' => ∃ v3 v4 v5 v6 v7 v8, σ = [some (V.ref a), some (V.ref l), some (V.ref b), v3, v4, v5, v6, v7, v8] ∧ KC T.c_Table a l b ss H H') ⟨v3, v4, v5, v6, v7, v8, rfl, k2⟩ (fun _ _ _ _ _ => trivial) ?_ ?_
      · rintro i x σ H3o H3 hi ⟨v3, v4, v5, v6, v7, v8, rfl, k3⟩ ⟨rfl, rfl⟩
        refine ⟨MCa T.c_Table a l b i ss H, ?_, ?_⟩
        · walk_at "rd"
          exact ⟨a, l, ss, rfl, k3.src, k3.l, nla, z, fun H4 p ps s4 hs4 hpn hp hS => ⟨p, ps, _, _, _, _, rfl, k3.sxx nla s4 hs4, hp, hS⟩⟩
        rintro σ4 H4 ⟨o, os, v5, v6, v7, v8, rfl, k4, ho, hSo⟩
        refine ⟨MCb T.c_Table a l b o i ss os H, ?_, ?_⟩
        · walk_at "rd"
          refine .inl ⟨_, k4.l, fun J2 W2 => ?_⟩
          refine lcr_map W2 ((ss.map fun s => s / 2).map V.int) (by simp) (by rw [List.length_map]; exact Nat.le_trans z.hi (by decide)) (fun H5 s5 => s5 _ _ k4.l) (fun _ _ _ _ y => YAt.same y) ?_ ?_
          · rintro i2 x H5 H6 y Qy hi2 s5 ⟨rfl, hx⟩ hr hq
            simp only [List.getElem?_map, Option.map_eq_some_iff] at hx hr
            obtain ⟨n, hn, rfl⟩ := hx
            obtain ⟨r, ⟨n2, hn2, rfl⟩, rfl⟩ := hr
            rw [hn] at hn2
            obtain rfl := Option.some.inj hn2
            walk_at "rd"
            exact hq _ (Same.refl _)
          · intro D H5 hD s5 h5
            refine ⟨D, rfl, .inl ⟨_, h5, fun m hm => ?_⟩⟩
            have sm := s5.trans (Same.new hm (o := .tup ((ss.map fun s => s / 2).map V.int)))
            refine ⟨o, o, l, ss, os, os, rfl, sm _ _ ho, sm _ _ ho, sm _ _ k4.l, hSo.len, hSo.len, z, fun H6 t s6 ht => ?_⟩
            have s46 := sm.trans s6
            exact ⟨m, t, _, _, _, _, rfl, k4.same s46, s46 _ _ ho, s6 _ _ upd_same, half_seat z.pos, ht, mv_seat hSo.len hSo.len z.pos⟩
        rintro σ5 H5 ⟨m, t, ms, ts, v7, v8, rfl, k5, ho5, hm5, hSm, ht5, hSt⟩
        refine ⟨MCa T.c_Table a l b i ss H, ?_, ?_⟩
        · walk_at "rd"
          intro p hp
          have hn1 : 1 ≤ ss.length := z.lo
          have sp := Same.new hp (o := .tup [V.int 0])
          have h4 := z.hi
          refine .inl ⟨_, sp _ _ k5.l, p, ss.length, [V.int 0], rfl, by rw [List.length_map], upd_same, by simp, hn1, by omega, by simp, fun x H6 s6 f6 => fun g hg => ?_⟩
          rw [flat_zero] at f6
          have sg := Same.new hg (o := .lst [V.ref o, V.ref m, V.ref x, V.ref t])
          have s56 := (sp.trans s6).trans sg
          have cases4 : i = 0 ∨ i = 1 ∨ i = 2 ∨ i = 3 := by omega
          rcases cases4 with rfl | rfl | rfl | rfl
          · exact ⟨_, rfl, o, os, _, _, _, _, rfl, k5.same s56, s56 _ _ ho5, hSo⟩
          · exact ⟨_, rfl, m, ms, _, _, _, _, rfl, k5.same s56, s56 _ _ hm5, hSm⟩
          · exact ⟨_, rfl, x, _, _, _, _, _, rfl, k5.same s56, sg _ _ f6, zero_seat z.pos⟩
          · exact ⟨_, rfl, t, ts, _, _, _, _, rfl, k5.same s56, s56 _ _ ht5, hSt⟩
        rintro σ6 H6 ⟨o, os, v5, v6, v7, v8, rfl, k6, ho6, hSo⟩
        refine ⟨MCd T.c_Table a l b o ss os H, ?_, ?_⟩
        · walk_at "rd"
          obtain ⟨dx, t0, hb1, hb2⟩ := id k6.b
          refine ⟨dx, _, hb1, noS _ _ (by decide), b, o, ss, os, rfl, k6.b, z, ho6, hSo, fun H7 f s7 hf hL => ?_⟩
          have nfa : f ≠ a := k6.src.ne hf
          exact ⟨f, _, _, _, _, rfl, k6.same s7, s7 _ _ ho6, hL, k6.sx.free nfa hf, nfa, ne_some k6.l hf⟩
        rintro σ7 H7 ⟨f, v3, v5, v6, v8, rfl, k7, ho7, hf7, hHf, nfa, nlf⟩
        refine ⟨MCd T.c_Table a l b o ss os H, ?_, ?_⟩
        · walk_at "rd"
          obtain ⟨dx, t0, hb1, hb2⟩ := id k7.b
          refine ⟨dx, _, hb1, noS _ _ (by decide), b, o, ss, os, rfl, k7.b, z, ho7, hSo, fun H8 s8 => ?_⟩
          refine ⟨o, l, ss, os, rfl, s8 _ _ ho7, s8 _ _ k7.l, hSo, z, fun H9 s9 => ⟨rfl, ?_⟩⟩
          rw [if_neg (fun h => h rfl)]
          have s79 := s8.trans s9
          refine ⟨o, l, ss, os, rfl, s79 _ _ ho7, s79 _ _ k7.l, hSo, z, fun H10 L s10 hL => ?_⟩
          have s710 := s79.trans s10
          refine neD_tups (LstT.same s710 hf7) hL ⟨_, rfl, ?_⟩
          rw [decide_eq_true rfl]
          exact ⟨f, _, _, _, _, rfl, k7.same s710, s710 _ _ ho7, LstT.same s710 hf7, hHf, nfa, nlf⟩
        rintro σ8 H8 ⟨f, v3, v5, v6, v8, rfl, k8, ho8, hf8, hHf, nfa, nlf⟩
        refine ⟨MCe T.c_Table a l b o ss os H, ?_, ?_⟩
        · obtain ⟨as, hfl, hA⟩ := hf8
          have few : as.length ≤ 16 := by
            have h1 := hal_few (ps := os) z ss.length
            rw [List.take_of_length_le (by rw [List.length_zip]; omega)] at h1
            rw [hA.1]
            exact h1
          walk_at "rd"
          refine ⟨⟨_, hfl⟩, _, hfl, by rw [List.length_map]; exact Nat.lt_of_le_of_lt few (by decide), _, _, _, _, _, rfl, ⟨?_, k8.src.put nfa.symm, by rw [upd_ne nlf]; exact k8.l, ?_⟩, ?_⟩
          · intro b' o' nb hb'
            rw [upd_ne (ne_some hb' hHf)]
            exact k8.sx _ _ nb hb'
          · obtain ⟨dx, t0, h1, h2⟩ := k8.b
            exact ⟨dx, t0, by rw [upd_ne (ne_two h1 hfl (by simp))]; exact h1, by rw [upd_ne (ne_two h2 hfl (by simp))]; exact h2⟩
          · rw [upd_ne (ne_two ho8 hfl (by simp))]
            exact ho8
        rintro σ9 H9 ⟨v3, v5, v6, v7, v8, rfl, k9, ho9⟩
        refine ⟨MCe T.c_Table a l b o ss os H, ?_, ?_⟩
        · walk_at "rd"
          obtain ⟨dx, t0, hb1, hb2⟩ := id k9.b
          refine ⟨dx, _, hb1, noS _ _ (by decide), b, o, ss, os, rfl, k9.b, z, ho9, hSo, fun H10 f s10 hf hL => ?_⟩
          refine ⟨o, l, ss, os, rfl, s10 _ _ ho9, s10 _ _ k9.l, hSo, z, fun H11 L s11 hL2 => ?_⟩
          have s911 := s10.trans s11
          refine neD_tups (LstT.same s11 hL) hL2 ⟨_, rfl, ?_⟩
          rw [decide_eq_true rfl]
          exact ⟨_, _, _, _, _, rfl, k9.same s911, s911 _ _ ho9⟩
        rintro σ10 H10 ⟨v3, v5, v6, v7, v8, rfl, k10, ho10⟩
        walk_at "rd"
        obtain ⟨dx, t0, hb1, hb2⟩ := id k10.b
        refine ⟨dx, _, hb1, noS _ _ (by decide), b, o, ss, os, rfl, k10.b, z, ho10, hSo, fun H11 s11 => ?_⟩
        refine ⟨o, l, ss, os, rfl, s11 _ _ ho10, s11 _ _ k10.l, hSo, z, fun H12 s12 => ⟨rfl, ?_⟩⟩
        rw [if_neg (fun h => h rfl)]
        exact k10.same (s11.trans s12)
      · rintro σ H3 ⟨v3, v4, v5, v6, v7, v8, rfl, k3⟩
        exact ⟨b, _, _, _, _, _, _, rfl, k3⟩
    rintro σ3 H3 ⟨b, v3, v4, v5, v6, v7, v8, rfl, k3⟩
    walk_at "rd"
    exact q _ k3.sx k3.src
end

/-! ### halves are the seats that doubled give the seat -/
def prodL : List (List Int) → List (List Int)
  | [] => [[]]
  | r :: rs => r.flatMap fun x => (prodL rs).map fun h => x :: h
theorem cho_prod : ∀ (rows found : List (List Int)), rows.foldl choF found = found.flatMap fun h => (prodL rows).map fun t => h ++ t
  | [], found => by
    simp [prodL]
  | r :: rs, found => by
    rw [List.foldl_cons, cho_prod rs]
    unfold choF
    rw [List.flatMap_assoc]
    congr 1
    funext h
    rw [prodL, List.flatMap_map, List.map_flatMap]
    congr 1
    funext x
    rw [List.map_map]
    congr 1
    funext t
    show h ++ [x] ++ t = h ++ (x :: t)
    simp
theorem choI_prod (rows : List (List Int)) : choI rows = prodL rows := by
  unfold choI
  rw [cho_prod]
  simp
theorem rng_mem {s k : Int} : k ∈ rngI s ↔ 0 ≤ k ∧ k < s := by
  unfold rngI
  simp only [List.mem_map, List.mem_range]
  constructor
  · rintro ⟨i, hi, rfl⟩
    omega
  · rintro ⟨h0, h1⟩
    exact ⟨k.toNat, by omega, by omega⟩
theorem rng_lt (s : Int) : (rngI s).Pairwise (· < ·) := by
  unfold rngI
  rw [List.pairwise_map]
  refine List.Pairwise.imp (fun h => ?_) (List.pairwise_lt_range)
  omega
theorem hpl_rng {p s : Int} (h0 : 0 ≤ p) (h1 : p < s) : hpl p s = (rngI s).filter fun x => decide ((x + x) % s = p) := by
  refine sorted_eq (hpl_lt (by omega)) ((rng_lt s).sublist (List.filter_sublist)) fun k => ?_
  rw [hpl_iff, List.mem_filter, rng_mem, decide_eq_true_eq]
  constructor
  · rintro (⟨e, rfl⟩ | ⟨e, rfl⟩)
    · exact ⟨⟨by omega, by omega⟩, by rw [show p / 2 + p / 2 = p by omega]; exact Int.emod_eq_of_lt h0 h1⟩
    · refine ⟨⟨by omega, by omega⟩, ?_⟩
      have := half_mod h0 h1 e
      rw [show (p + s) / 2 + (p + s) / 2 = (p + s) / 2 * 2 by omega]
      exact this
  · rintro ⟨⟨k0, k1⟩, e⟩
    by_cases c : k + k < s
    · rw [Int.emod_eq_of_lt (by omega) c] at e
      exact .inl ⟨by omega, by omega⟩
    · rw [show k + k = (k + k - s) + s by omega, Int.add_emod_right, Int.emod_eq_of_lt (by omega) (by omega)] at e
      exact .inr ⟨by omega, by omega⟩
theorem fm_filter {α β : Type} (p : α → Bool) (f : α → List β) : ∀ xs : List α, (xs.filter p).flatMap f = xs.flatMap fun x => if p x = true then f x else []
  | [] => rfl
  | x :: xs => by
    have ih := fm_filter p f xs
    rw [List.filter_cons, List.flatMap_cons, ← ih]
    cases p x <;> simp
theorem hal_prod : ∀ {ps ss : List Int}, Seat ss ps → prodL ((ps.zip ss).map fun z => hpl z.1 z.2) = (prodL (ss.map rngI)).filter fun h => decide (mv fw h h ss = ps)
  | [], [], _ => by simp [prodL, mv]
  | [], _ :: _, h => by have := h.len; simp at this
  | _ :: _, [], h => by have := h.len; simp at this
  | p :: ps, s :: ss, h => by
    obtain ⟨⟨h0, h1⟩, h2⟩ := seat_cons h
    have ih := hal_prod h2
    rw [List.zip_cons_cons, List.map_cons, List.map_cons, prodL, prodL, ih, hpl_rng h0 h1, List.filter_flatMap]
    rw [fm_filter]
    congr 1
    funext x
    rw [List.filter_map]
    by_cases c : (x + x) % s = p
    · rw [if_pos (by simpa using c)]
      congr 2
      funext t
      show decide (mv fw t t ss = ps) = decide (((x + x) % s) :: mv fw t t ss = p :: ps)
      simp [c]
    · rw [if_neg (by simpa using c)]
      symm
      rw [List.map_eq_nil_iff, List.filter_eq_nil_iff]
      intro t _
      show ¬ decide (((x + x) % s) :: mv fw t t ss = p :: ps) = true
      simp [c]
theorem hal_all {ps ss : List Int} (h : Seat ss ps) : halI ps ss = (allI ss).filter fun h => decide (mv fw h h ss = ps) := by
  have e : halI ps ss = choI (hrows ps ss) := by
    have := hal_cho ps ss ss.length
    rw [List.take_of_length_le (by unfold hrows; rw [List.length_map, List.length_zip]; omega), List.take_of_length_le (by rw [List.length_zip]; omega)] at this
    exact this.symm
  rw [e, choI_prod]
  unfold allI
  rw [choI_prod]
  exact hal_prod h
/-! ### an order by counting -/
def tmsK (k : Nat) (ps ss : List Int) : List Int := List.zipWith (fun p s => (k : Int) * p % s) ps ss
theorem tmsK_one {ps ss : List Int} (h : Seat ss ps) : tmsK 1 ps ss = ps := by
  refine List.ext_getElem? fun i => ?_
  unfold tmsK
  rw [List.getElem?_zipWith]
  cases e1 : ps[i]? with
  | none => simp
  | some p =>
    have hi : i < ss.length := by rw [← h.len]; exact (List.getElem?_eq_some_iff.mp e1).1
    rw [List.getElem?_eq_getElem hi]
    have := h.ok i p _ e1 (List.getElem?_eq_getElem hi)
    simp
    exact Int.emod_eq_of_lt this.1 this.2
theorem tmsK_more : ∀ (k : Nat) (ps ss : List Int), ps.length = ss.length → mv fw (tmsK k ps ss) ps ss = tmsK (k + 1) ps ss
  | _, [], [], _ => rfl
  | _, [], _ :: _, h => by simp at h
  | _, _ :: _, [], h => by simp at h
  | k, p :: ps, s :: ss, h => by
    have ih := tmsK_more k ps ss (by simpa using h)
    show (((k : Int) * p % s + p) % s) :: mv fw (tmsK k ps ss) ps ss = ((((k + 1 : Nat) : Int)) * p % s) :: tmsK (k + 1) ps ss
    rw [ih, Int.emod_add_emod]
    congr 2
    rw [Int.natCast_add, Int.add_mul]
    simp
theorem tmsK_zero : ∀ (k : Nat) (ps ss : List Int), ps.length = ss.length → (tmsK k ps ss = List.replicate ss.length 0 ↔ ∀ z ∈ ps.zip ss, z.2 ∣ z.1 * (k : Int))
  | _, [], [], _ => by simp [tmsK]
  | _, [], _ :: _, h => by simp at h
  | _, _ :: _, [], h => by simp at h
  | k, p :: ps, s :: ss, h => by
    have ih := tmsK_zero k ps ss (by simpa using h)
    show ((k : Int) * p % s) :: tmsK k ps ss = 0 :: List.replicate ss.length 0 ↔ _
    rw [List.cons.injEq, ih, List.zip_cons_cons]
    simp only [List.mem_cons, forall_eq_or_imp]
    rw [Int.mul_comm p, Int.dvd_iff_emod_eq_zero]
theorem ord_least {ps ss : List Int} {n : Nat} (hl : ps.length = ss.length) (hs : ∀ s ∈ ss, 1 ≤ s) (h0 : tmsK n ps ss = List.replicate ss.length 0) (n0 : 0 < n) (hm : ∀ j, 1 ≤ j → j < n → tmsK j ps ss ≠ List.replicate ss.length 0) : n = ordI ps ss := by
  have h1 := (ordI_dvd hs).mpr ((tmsK_zero n ps ss hl).mp h0)
  have h2 := Nat.le_of_dvd n0 h1
  have h3 := ordI_pos (ps := ps) hs
  by_cases c : ordI ps ss < n
  · exact absurd ((tmsK_zero _ ps ss hl).mpr ((ordI_dvd hs).mp (Nat.dvd_refl _))) (hm _ h3 c)
  · omega

/-! ### small tables, by counting -/
section
variable {P : Program} {w : World} {K : PySem.W.Frag} {mg : Str → Option Value} {base : Heap}
def smallS : List (List Int) := [[2, 4], [6], [3, 3], [8], [2, 2, 3], [9], [1, 4], [5], [2, 2, 2, 2], [12]]
theorem small_sz {ss : List Int} (h : ss ∈ smallS) : Sz ss := by
  have key : ∀ ss ∈ smallS, 1 ≤ ss.length ∧ ss.length ≤ 4 ∧ ∀ s ∈ ss, 1 ≤ s ∧ s ≤ 12 := by decide
  obtain ⟨h1, h2, h3⟩ := key ss h
  exact ⟨h1, h2, fun s hs => (h3 s hs).1, fun s hs => Nat.lt_of_lt_of_le (by have := h3 s hs; omega : s.natAbs < 2 ^ 4) (Nat.pow_le_pow_right (by decide) (by decide))⟩
theorem small_le {ss : List Int} (h : ss ∈ smallS) : ∀ s ∈ ss, 0 ≤ s ∧ s ≤ 900 := by
  have key : ∀ ss ∈ smallS, ∀ s ∈ ss, 0 ≤ s ∧ s ≤ 900 := by decide
  exact key ss h
theorem small_all {ss : List Int} (h : ss ∈ smallS) (i : Nat) : (allI (ss.take i)).length ≤ 1000 := by
  have key : ∀ ss ∈ smallS, ∀ i, i < 5 → (allI (ss.take i)).length ≤ 1000 := by decide +kernel
  by_cases c : i < 5
  · exact key ss h i c
  · have h2 := (small_sz h).hi
    rw [List.take_of_length_le (by omega)]
    have := key ss h 4 (by decide)
    rw [List.take_of_length_le (by omega)] at this
    exact this
theorem small_ne {ss : List Int} {H : Hp} {L a : Addr} (h : ss ∈ smallS) (hL : LstT H L (allI ss)) (hs : Src H a) : L ≠ a := fun e => by
  obtain ⟨as, h1, h2⟩ := hL
  obtain ⟨x, y, z, h3⟩ := hs
  rw [e, h3] at h1
  have h4 := HO.lst.inj (Option.some.inj h1)
  cases as with
  | nil => cases h4
  | cons b bs => cases h4
theorem atI_refs {as : List Addr} {i : Int} (h0 : 0 ≤ i) (h1 : i < as.length) : ∃ (k : Nat) (a : Addr), as[k]? = some a ∧ atI (as.map V.ref) i = some (.ref a) := by
  obtain ⟨k, rfl⟩ := Int.eq_ofNat_of_zero_le h0
  have hk : k < as.length := by omega
  have e := List.getElem?_eq_getElem hk
  exact ⟨k, as[k], e, atI_nat (by rw [List.getElem?_map, e]; rfl)⟩
/-- lists that are laid one by one -/
structure Frl (H : Hp) (a : Addr) (G : Hp) (as : List Addr) (rows : List (List Int)) : Prop where
  s : Same H G
  A : AsL G as rows
  na : ∀ t ∈ as, t ≠ a
theorem Frl.nil {H : Hp} {a : Addr} : Frl H a H [] [] := ⟨Same.refl _, AsL.nil, by simp⟩
theorem Frl.step {H G : Hp} {a p : Addr} {as : List Addr} {rows : List (List Int)} (k : Frl H a G as rows) (hs : Src H a) (hp : G p = none) (r : List Int) : Frl H a (upd G p (.lst (r.map V.int))) (as ++ [p]) (rows ++ [r]) :=
  ⟨k.s.trans (Same.new hp), (k.A.same (Same.new hp)).snoc upd_same, fun t ht => by
    rcases List.mem_append.mp ht with h | h
    · exact k.na t h
    · rw [List.mem_singleton.mp h]
      exact (hs.same k.s).ne hp⟩
def MS1 (a : Addr) (H : Hp) (σ : L2.St) (H' : Hp) : Prop := ∃ (l : Addr) (ss : List Int), σ = [some (V.ref a), some (V.ref l), none, none, none, none, none, none, none] ∧ Sx a H H' ∧ Src H' a ∧ H' l = some (.lst (ss.map V.int)) ∧ l ≠ a ∧ ss ∈ smallS
def MS2 (C a l : Addr) (ss : List Int) (H : Hp) (σ : L2.St) (H' : Hp) : Prop := ∃ (b e : Addr) (v4 : Option V), σ = [some (V.ref a), some (V.ref l), some (V.ref b), some (V.ref e), v4, none, none, none, none] ∧ KC C a l b ss H H' ∧ LstT H' e (allI ss) ∧ e ≠ a
def MS3 (C a l b e : Addr) (ss : List Int) (H : Hp) (σ : L2.St) (H' : Hp) : Prop := ∃ (z : Addr) (v5 v6 v7 v8 : Option V), σ = [some (V.ref a), some (V.ref l), some (V.ref b), some (V.ref e), some (V.ref z), v5, v6, v7, v8] ∧ KC C a l b ss H H' ∧ LstT H' e (allI ss) ∧ H' z = some (.tup ((List.replicate ss.length (0 : Int)).map V.int))
theorem all_seat {ss h : List Int} (hm : h ∈ allI ss) : Seat ss h := by
  unfold allI at hm
  rw [choI_prod] at hm
  have key : ∀ (ss h : List Int), h ∈ prodL (ss.map rngI) → Seat ss h := by
    intro ss
    induction ss with
    | nil =>
      intro h hm
      simp [prodL] at hm
      subst hm
      exact .nil
    | cons s ss ih =>
      intro h hm
      rw [List.map_cons, prodL, List.mem_flatMap] at hm
      obtain ⟨x, hx, hm⟩ := hm
      obtain ⟨t, ht, rfl⟩ := List.mem_map.mp hm
      have := rng_mem.mp hx
      exact .cons this.1 this.2 (ih t ht)
  exact key ss h hm
def MS4 (C a l b e z : Addr) (as : List Addr) (ss : List Int) (H : Hp) (σ : L2.St) (H' : Hp) : Prop := ∃ (v5 v6 v7 v8 : Option V), σ = [some (V.ref a), some (V.ref l), some (V.ref b), some (V.ref e), some (V.ref z), v5, v6, v7, v8] ∧ KC C a l b ss H H' ∧ H' e = some (.lst (as.map V.ref)) ∧ AsT H' as (allI ss) ∧ H' z = some (.tup ((List.replicate ss.length (0 : Int)).map V.int))
def MS5 (C a l b e z o : Addr) (as : List Addr) (ss os : List Int) (H : Hp) (σ : L2.St) (H' : Hp) : Prop := ∃ (t : Addr) (n : Nat) (v8 : Option V), σ = [some (V.ref a), some (V.ref l), some (V.ref b), some (V.ref e), some (V.ref z), some (V.ref o), some (V.ref t), some (V.int (n : Nat)), v8] ∧ KC C a l b ss H H' ∧ H' e = some (.lst (as.map V.ref)) ∧ AsT H' as (allI ss) ∧ H' z = some (.tup ((List.replicate ss.length (0 : Int)).map V.int)) ∧ H' o = some (.tup (os.map V.int)) ∧
  H' t = some (.tup ((tmsK n os ss).map V.int)) ∧ 1 ≤ n ∧ ∀ j, 1 ≤ j → j < n → tmsK j os ss ≠ List.replicate ss.length 0
def MS6 (C a l b e z o : Addr) (as : List Addr) (ss os : List Int) (H : Hp) (σ : L2.St) (H' : Hp) : Prop := ∃ (t : Addr) (v8 : Option V), σ = [some (V.ref a), some (V.ref l), some (V.ref b), some (V.ref e), some (V.ref z), some (V.ref o), some (V.ref t), some (V.int (ordI os ss : Nat)), v8] ∧ KC C a l b ss H H' ∧ H' e = some (.lst (as.map V.ref)) ∧ AsT H' as (allI ss) ∧ H' z = some (.tup ((List.replicate ss.length (0 : Int)).map V.int)) ∧ H' o = some (.tup (os.map V.int))
def sp_law_check_small (K : PySem.W.Frag) : Sp := fun vs H Q _ => ∃ (a : Addr), vs = [.ref a] ∧ Src H a ∧ ∀ H', Sx a H H' → Src H' a → Q (.bl true) H'
theorem ok_law_check_small (T : Tx K mg) : FnOk P w K mg base CX0 5 T.f_law_check_small T.fd_law_check_small ["_law_source_here"] (sp_law_check_small K) := by
  refine T.F_law_check_small.ok sc_law_check_small (fun vs H Q E h => ?_) (fun cdv A outer s H vs Q E hr h => ?_)
  · obtain ⟨a, rfl, _⟩ := h; rfl
  · obtain ⟨a, rfl, hs, q⟩ := h
    refine ⟨_, (C8.pss_cut (ps_set (i := 1) sc_law_check_small.nd rfl (Or.inr rfl) (pe_ix ix_lH (pe_lst (pa_cons (pe_lst (pa_cons pe_int (pa_cons pe_int pa_nil))) (pa_cons (pe_lst (pa_cons pe_int pa_nil)) (pa_cons (pe_lst (pa_cons pe_int (pa_cons pe_int pa_nil))) (pa_cons (pe_lst (pa_cons pe_int pa_nil)) (pa_cons (pe_lst (pa_cons pe_int (pa_cons pe_int (pa_cons pe_int pa_nil)))) (pa_cons (pe_lst (pa_cons pe_int pa_nil)) (pa_cons (pe_lst (pa_cons pe_int (pa_cons pe_int pa_nil))) (pa_cons (pe_lst (pa_cons pe_int pa_nil)) (pa_cons (pe_lst (pa_cons pe_int (pa_cons pe_int (pa_cons pe_int (pa_cons pe_int pa_nil))))) (pa_cons (pe_lst (pa_cons pe_int pa_nil)) pa_nil))))))))))) (pe_call (ok_law_take T) (hr.mono (by decide)) (by rfl) T.g_law_take T.F_law_take.kp T.b_law_take .nil pass0 (pa_cons (pv 0) (pa_cons pe_int pa_nil))) (fun _ _ => rfl)))
      (C8.pss_cut (ps_par (i := 2) (j := 3) (by rfl) sc_law_check_small.nd rfl rfl (by decide) rfl rfl (pa_cons (pe_make T.M_Table (ok_Table_init T) (hr.mono (by decide)) (by rfl) T.g_Table T.b_Table_init .nil pass0 (pa_cons (pv 1) pa_nil)) (pa_cons (pe_call (ok_law_all T) (hr.mono (by decide)) (by rfl) T.g_law_all T.F_law_all.kp T.b_law_all .nil pass0 (pa_cons (pv 1) pa_nil)) pa_nil)) (by rfl))
      (C8.pss_cut (ps_set (i := 4) sc_law_check_small.nd rfl (Or.inl rfl) (pe_op op_repA (pe_tup (pa_cons pe_int pa_nil)) (pe_callB len_H (by rfl) T.n_len PySem.boot_len (pa_cons (pv 1) pa_nil))))
      (C8.pss_cut (ps_for PassesOwn.never rfl (pi_seqH (pv 3)) (pg_name (i := 5) sc_law_check_small.nd rfl (Or.inr rfl))
        (C8.pss_cut (ps_par (i := 6) (j := 7) (by rfl) sc_law_check_small.nd rfl rfl (by decide) rfl rfl (pa_cons (pv 5) (pa_cons pe_int pa_nil)) (by rfl))
        (C8.pss_cut (ps_while PassesOwn.never (pt_cmpR (op_neDK (K := K) rfl hr.units) (pv 6) (pv 4) (nomark _)) (pss_one (ps_par (i := 6) (j := 7) (by rfl) sc_law_check_small.nd rfl rfl (by decide) rfl rfl (pa_cons (pe_call (ok_law_sum T) (hr.mono (by decide)) (by rfl) T.g_law_sum T.F_law_sum.kp T.b_law_sum .nil pass0 (pa_cons (pv 6) (pa_cons (pv 5) (pa_cons (pv 1) pa_nil)))) (pa_cons (pe_op op_add (pv 7) pe_int) pa_nil)) (by rfl))))
        (C8.pss_cut (ps_if (pt_cmpR op_ne (pe_meth (pv 2) T.cl_Table T.m_Table_order (ok_Table_order T) (hr.mono (by decide)) T.b_Table_order .nil pass0 (pa_cons (pv 5) pa_nil)) (pv 7) (nomark _)) (pss_one (ps_ret pe_bl)) pss_nil)
        (pss_one (ps_if (pt_cmpR (op_neDK (K := K) rfl hr.units) (pe_meth (pv 2) T.cl_Table T.m_Table_halves (ok_Table_halves T) (hr.mono (by decide)) T.b_Table_halves .nil pass0 (pa_cons (pv 5) pa_nil)) (pe_lc (own := [("_law_half", 8)]) (g := (gName 8)) rfl sc_law_check_small.nd (pi_seqH (pv 3)) (blkOk_by (own := [("_law_half", 8)]) (N := N_law_check_small) (sc := defScope d_law_check_small) (by decide +kernel)) (fun _ _ _ _ _ => (pg_name (i := 8) sc_law_check_small.nd rfl (Or.inl rfl))) (fun _ _ _ _ _ => (pts_one (pt_cmpR (op_eqDK (K := K) rfl hr.units) (pe_call (ok_law_sum T) (hr.mono (by decide)) (by rfl) T.g_law_sum T.F_law_sum.kp T.b_law_sum .nil pass0 (pa_cons (pv 8) (pa_cons (pv 8) (pa_cons (pv 1) pa_nil)))) (pv 5) (nomark _)))) (fun _ _ _ _ _ => (pv 8))) (nomark _)) (pss_one (ps_ret pe_bl)) pss_nil))))))
      (pss_one (ps_ret pe_bl)))))), ?_⟩
    refine ⟨MS1 a H, ?_, ?_⟩
    · walk_at "rd"
      intro p0 h0 p1 h1 p2 h2 p3 h3 p4 h4 p5 h5 p6 h6 p7 h7 p8 h8 p9 h9 p10 h10
      have k := ((((((((((Frl.nil (H := H) (a := a)).step hs h0 [2, 4]).step hs h1 [6]).step hs h2 [3, 3]).step hs h3 [8]).step hs h4 [2, 2, 3]).step hs h5 [9]).step hs h6 [1, 4]).step hs h7 [5]).step hs h8 [2, 2, 2, 2]).step hs h9 [12]
      have sg := Same.new h10 (o := .lst [V.ref p0, V.ref p1, V.ref p2, V.ref p3, V.ref p4, V.ref p5, V.ref p6, V.ref p7, V.ref p8, V.ref p9])
      have n10 : p10 ≠ a := (hs.same k.s).ne h10
      have ks := k.s
      have kA : AsL _ [p0, p1, p2, p3, p4, p5, p6, p7, p8, p9] smallS := k.A.same sg
      have kn : ∀ t ∈ [p0, p1, p2, p3, p4, p5, p6, p7, p8, p9], t ≠ a := k.na
      refine ⟨a, 10, rfl, hs.same (ks.trans sg), by decide, take_small (by decide) (by decide), fun H5 r s5 hs5 r0 r1 => ⟨r, rfl, _, s5 _ _ n10 upd_same, ?_⟩⟩
      obtain ⟨j, b, hb, eb⟩ := atI_refs (as := [p0, p1, p2, p3, p4, p5, p6, p7, p8, p9]) r0 (by simpa using r1)
      have hj : j < smallS.length := by rw [← kA.1]; exact (List.getElem?_eq_some_iff.mp hb).1
      have hrow := kA.2 j b _ hb (List.getElem?_eq_getElem hj)
      have nb := kn b (List.mem_of_getElem? hb)
      exact ⟨_, eb, b, _, rfl, (Sx.of (ks.trans sg)).trans s5, hs5, s5 _ _ nb hrow, nb, List.getElem_mem hj⟩
    rintro σ1 H1 ⟨l, ss, rfl, s1, hs1, hl, nla, hsm⟩
    refine ⟨MS2 T.c_Table a l ss H, ?_, ?_⟩
    · walk_at "rd"
      have z := small_sz hsm
      intro x dx hx hdx hne
      have nxa : x ≠ a := hs1.ne hx
      have s3 : Same H1 (upd (upd H1 dx (.own x)) x (.ins T.c_Table dx [])) := (Same.new hdx).trans (Same.new (by rw [upd_ne hne.symm]; exact hx))
      have f3 : (upd (upd H1 dx (.own x)) x (.ins T.c_Table dx [])) x = some (.ins T.c_Table dx []) := upd_same
      generalize upd (upd H1 dx (HO.own x)) x (HO.ins T.c_Table dx []) = H3 at s3 f3 ⊢
      have hHx : H x = none := s1.free nxa hx
      have nlx : l ≠ x := ne_two (s3 _ _ hl) f3 (by simp)
      refine ⟨x, dx, .ref l, l, true, ss, rfl, f3, rfl, s3 _ _ hl, z.lo, z.hi, z.pos, fun H4 t s4 h4 ht => ⟨rfl, ?_⟩⟩
      obtain ⟨u1, u2, u3, hu⟩ := hs1.same s3
      have k4 : KC T.c_Table a l x ss H H4 := ⟨fun b' o nb hb' => s4 _ _ (ne_some hb' hHx) (s3 _ _ (s1 _ _ nb hb')), ⟨u1, u2, u3, s4 _ _ nxa.symm hu⟩, s4 _ _ nlx (s3 _ _ hl), dx, t, h4, ht⟩
      refine ⟨l, ss, rfl, k4.l, z.hi, small_le hsm, small_all hsm, fun H5 L s5 hL => ?_⟩
      have k5 := k4.same s5
      exact ⟨x, L, none, rfl, k5, hL, small_ne hsm hL k5.src⟩
    rintro σ2 H2 ⟨b, e, v4, rfl, k2, he2, nea⟩
    refine ⟨MS3 T.c_Table a l b e ss H, ?_, ?_⟩
    · walk_at "rd"
      have z := small_sz hsm
      have hn1 : 1 ≤ ss.length := z.lo
      have h4 := z.hi
      intro p hp
      have sp := Same.new hp (o := .tup [V.int 0])
      refine .inl ⟨_, sp _ _ k2.l, p, ss.length, [V.int 0], rfl, by rw [List.length_map], upd_same, by simp, hn1, by omega, by simp, fun x H6 s6 f6 => ?_⟩
      rw [flat_zero] at f6
      have s26 := sp.trans s6
      exact ⟨x, _, _, _, _, rfl, k2.same s26, LstT.same s26 he2, f6⟩
    rintro σ3 H3 ⟨z, v5, v6, v7, v8, rfl, k3, he3, hz3⟩
    refine ⟨MS3 T.c_Table a l b e ss H, ?_, ?_⟩
    · walk_at "rd"
      have z0 := small_sz hsm
      obtain ⟨as, hes, hAs⟩ := he3
      refine .inl ⟨_, hes, fun J W => ?_⟩
      refine forr W (fun _ σ H' => MS4 T.c_Table a l b e z as ss H σ H') ⟨v5, v6, v7, v8, rfl, k3, hes, hAs, hz3⟩ (fun i σ H' _ h => by obtain ⟨_, _, _, _, _, _, h, _⟩ := h; exact h) ?_ ?_
      · rintro i x σ H4o H4 hi ⟨v5, v6, v7, v8, rfl, k4, hes4, hAs4, hz4⟩ ⟨rfl, hx⟩
        simp only [List.getElem?_map, Option.map_eq_some_iff] at hx
        obtain ⟨o, ho, rfl⟩ := hx
        have hil : i < (allI ss).length := by rw [← hAs4.1]; exact (List.getElem?_eq_some_iff.mp ho).1
        have ho4 := hAs4.2 i o _ ho (List.getElem?_eq_getElem hil)
        have hSo : Seat ss (allI ss)[i] := all_seat (List.getElem_mem hil)
        generalize (allI ss)[i] = os at ho4 hSo
        refine ⟨MS5 T.c_Table a l b e z o as ss os H, ?_, ?_⟩
        · walk_at "rd"
          exact ⟨o, 1, v8, rfl, k4, hes4, hAs4, hz4, ho4, by rw [tmsK_one hSo]; exact ho4, by decide, fun j h1 h2 => by omega⟩
        rintro σ5 H5 h5
        refine ⟨MS6 T.c_Table a l b e z o as ss os H, ?_, ?_⟩
        · refine while_by (fun σ H' => MS5 T.c_Table a l b e z o as ss os H σ H') (fun σ _ => match σ with | [_, _, _, _, _, _, _, some (V.int d), _] => ordI os ss - d.toNat | _ => 0) h5 ?_ ?_
          · rintro σ H6 ⟨t, n, v8, rfl, k6, hes6, hAs6, hz6, ho6, ht6, n0, hm⟩
            walk_at "rd"
            refine neD_tup ht6 hz6 ⟨_, rfl, ?_⟩
            by_cases h0 : tmsK n os ss = List.replicate ss.length 0
            · rw [if_neg (by rw [decide_eq_true h0]; decide)]
              have en := ord_least hSo.len z0.pos h0 n0 hm
              exact ⟨t, v8, by rw [en], k6, hes6, hAs6, hz6, ho6⟩
            · rw [if_pos (by rw [decide_eq_false h0]; decide)]
              have tl : (tmsK n os ss).length = ss.length := by unfold tmsK; rw [List.length_zipWith, hSo.len, Nat.min_self]
              refine ⟨t, o, l, ss, tmsK n os ss, os, rfl, ht6, ho6, k6.l, tl, hSo.len, z0, fun H7 f s7 hf => ⟨⟨f, n + 1, v8, rfl, k6.same s7, s7 _ _ hes6, hAs6.same s7, s7 _ _ hz6, s7 _ _ ho6, by rw [← tmsK_more n os ss hSo.len]; exact hf, by omega, fun j h1 h2 => ?_⟩, ?_⟩⟩
              · by_cases c : j = n
                · rw [c]
                  exact h0
                · exact hm j h1 (by omega)
              · have h3 := ordI_pos (ps := os) z0.pos
                have h4 := (tmsK_zero _ os ss hSo.len).mpr ((ordI_dvd z0.pos).mp (Nat.dvd_refl _))
                have h5 : n < ordI os ss := by
                  by_cases c1 : ordI os ss = n
                  · rw [c1] at h4
                    exact absurd h4 h0
                  · by_cases c2 : ordI os ss < n
                    · exact absurd h4 (hm _ h3 c2)
                    · omega
                omega
          · intro σ H1 Q1 Q2 h hq
            obtain ⟨x, hx, y, hy, d, e', h1, h2, h3, h4, k, e5, hq⟩ := hq
            exact ⟨x, hx, y, hy, d, e', h1, h2, h3, h4, k, e5, h _ _ hq⟩
        rintro σ6 H6 ⟨t, v8, rfl, k6, hes6, hAs6, hz6, ho6⟩
        refine ⟨MS6 T.c_Table a l b e z o as ss os H, ?_, ?_⟩
        · walk_at "rd"
          obtain ⟨dx, t0, hb1, hb2⟩ := id k6.b
          refine ⟨dx, _, hb1, noS _ _ (by decide), b, o, ss, os, rfl, k6.b, z0, ho6, hSo, fun H7 s7 => ⟨rfl, ?_⟩⟩
          rw [if_neg (fun h => h rfl)]
          exact ⟨t, v8, rfl, k6.same s7, s7 _ _ hes6, hAs6.same s7, s7 _ _ hz6, s7 _ _ ho6⟩
        rintro σ7 H7 ⟨t, v8, rfl, k7, hes7, hAs7, hz7, ho7⟩
        walk_at "rd"
        obtain ⟨dx, t0, hb1, hb2⟩ := id k7.b
        refine ⟨dx, _, hb1, noS _ _ (by decide), b, o, ss, os, rfl, k7.b, z0, ho7, hSo, fun H8 f s8 hfn hL => ?_⟩
        refine .inl ⟨_, s8 _ _ hes7, fun J2 W2 => ?_⟩
        have hlen : (as.map V.ref).length < sizeLine := by
          have h1 := small_all hsm ss.length
          rw [List.take_length] at h1
          rw [List.length_map, hAs7.1]
          exact Nat.lt_of_le_of_lt h1 (by decide)
        refine lcr_if W2 (fun D i acc H' => Same H8 H' ∧ ∃ bs : List Addr, acc = bs.map V.ref ∧ AsT H' bs (((allI ss).take i).filter fun h => decide (mv fw h h ss = os)) ∧ ∀ t ∈ bs, H8 t ≠ none) hlen (fun D hD => ⟨Same.new hD, [], rfl, AsT.nil, by simp⟩) (fun D i acc H hD hi h e => h.1 _ _ (s8 _ _ hes7)) (fun D i acc H l2 hD h hne => ?_) ?_ ?_
        · obtain ⟨h1, bs, h2, h3, h4⟩ := h
          refine ⟨fun b o e => by rw [upd_ne (ne_some e hD)]; exact h1 b o e, bs, h2, ⟨h3.1, fun i t g e1 e2 => ?_⟩, h4⟩
          rw [upd_ne (fun e3 => h4 t (List.mem_of_getElem? e1) (by rw [e3]; exact hD))]
          exact h3.2 i t g e1 e2
        · rintro D i2 acc x H9 H10 Qn Qy hD hi2 ⟨s9, bs, rfl, hB, hN⟩ he ⟨rfl, hx⟩ hqn hqy
          simp only [List.getElem?_map, Option.map_eq_some_iff] at hx
          obtain ⟨c, hc, rfl⟩ := hx
          have hil2 : i2 < (allI ss).length := by rw [← hAs7.1]; exact (List.getElem?_eq_some_iff.mp hc).1
          have hrow := s9 _ _ (s8 _ _ (hAs7.2 i2 c _ hc (List.getElem?_eq_getElem hil2)))
          have hSc : Seat ss (allI ss)[i2] := all_seat (List.getElem_mem hil2)
          have tk : (allI ss).take (i2 + 1) = (allI ss).take i2 ++ [(allI ss)[i2]] := by rw [List.take_add_one, List.getElem?_eq_getElem hil2]; rfl
          have k9 := (k7.same s8).same s9
          walk_at "rd"
          refine ⟨c, c, l, ss, _, _, rfl, hrow, hrow, k9.l, hSc.len, hSc.len, z0, fun H11 g s11 hg => ?_⟩
          refine eqD_tup hg (s11 _ _ (s9 _ _ (s8 _ _ ho7))) ⟨_, rfl, ?_⟩
          by_cases e2 : mv fw (allI ss)[i2] (allI ss)[i2] ss = os
          · rw [if_pos (decide_eq_true e2)]
            refine hqy _ _ (s11 _ _ he) ⟨s9.trans s11, bs ++ [c], by rw [List.map_append]; rfl, ?_, fun t ht => ?_⟩
            · rw [tk, List.filter_append, List.filter_cons, if_pos (decide_eq_true e2)]
              exact (hB.same s11).snoc (s11 _ _ hrow)
            · rcases List.mem_append.mp ht with h | h
              · exact hN t h
              · rw [List.mem_singleton.mp h, s8 _ _ (hAs7.2 i2 c _ hc (List.getElem?_eq_getElem hil2))]
                simp
          · rw [if_neg (by rw [decide_eq_false e2]; decide)]
            refine hqn _ (s11 _ _ he) ⟨s9.trans s11, bs, rfl, ?_, hN⟩
            rw [tk, List.filter_append, List.filter_cons, if_neg (by rw [decide_eq_false e2]; decide)]
            simpa using hB.same s11
        · rintro D acc H9 hD _ ⟨s9, bs, rfl, hB, _⟩ he
          rw [List.length_map, hAs7.1, List.take_length, ← hal_all hSo] at hB
          refine neD_tups (LstT.same s9 hL) ⟨bs, he, hB⟩ ⟨_, rfl, ?_⟩
          rw [decide_eq_true rfl]
          have s79 := s8.trans s9
          exact ⟨_, _, _, _, rfl, k7.same s79, s79 _ _ hes7, hAs7.same s79, s79 _ _ hz7⟩
      · rintro σ H4 ⟨v5, v6, v7, v8, rfl, k4, hes4, hAs4, hz4⟩
        exact ⟨z, _, _, _, _, rfl, k4, ⟨as, hes4, hAs4⟩, hz4⟩
    rintro σ4 H4 ⟨z, v5, v6, v7, v8, rfl, k4, he4, hz4⟩
    walk_at "rd"
    exact q _ k4.sx k4.src
end

/-! ### the law: one check a cell -/
section
variable {P : Program} {w : World} {K : PySem.W.Frag} {mg : Str → Option Value} {base : Heap}
def sp_law (K : PySem.W.Frag) : Sp := fun vs H Q _ => ∃ (a : Addr) (ns : List Int), vs = [.ref a] ∧ SqL K H a (ns.map V.int) ∧ ns.length ≤ 63 ∧ (∀ z ∈ ns, Builtin.Int.intBits z ≤ 1048576) ∧ ∀ H', Q (.bl true) H'
theorem cut_front (xs : List V) (n : Nat) : cutV xs none (some (n : Int)) = xs.take n := by
  unfold cutV
  rw [HT.sIx_none, HT.sIx_nat]
  show (xs.drop 0).take (min n xs.length - 0) = xs.take n
  rw [List.drop_zero, Nat.sub_zero]
  by_cases h : n ≤ xs.length
  · rw [Nat.min_eq_left h]
  · rw [Nat.min_eq_right (by omega), List.take_length, List.take_of_length_le (by omega)]
theorem ok_law (T : Tx K mg) : FnOk P w K mg base CX0 6 T.f_law T.fd_law ["_law_script"] (sp_law K) := by
  refine T.F_law.ok sc_law (fun vs H Q E h => ?_) (fun cdv A outer s H vs Q E hr h => ?_)
  · obtain ⟨a, ns, rfl, _⟩ := h; rfl
  · obtain ⟨a, ns, rfl, hS, hn, hbits, q⟩ := h
    refine ⟨_, (pss_cons (ps_for PassesOwn.never rfl (pi_seqH (pe_slice sl_list (pe_op op_catS (pv 0) (pe_lst (pa_cons pe_int pa_nil))) po_none (po_some pe_int))) (pg_name (i := 1) sc_law.nd rfl (Or.inl rfl))
        (pss_cons (ps_set (i := 2) sc_law.nd rfl (Or.inl rfl) (pe_call (ok_law_source T) (hr.mono (by decide)) (by rfl) T.g_law_source T.F_law_source.kp T.b_law_source .nil pass0 (pa_cons (pv 1) pa_nil)))
        (pss_one (ps_if (PW.pt (pw_or (pt_not (pt_val (pe_call (ok_law_check T) (hr.mono (by decide)) (by rfl) T.g_law_check T.F_law_check.kp T.b_law_check .nil pass0 (pa_cons (pv 2) pa_nil)))) (pw_or1 (pt_not (pt_val (pe_call (ok_law_check_small T) (hr.mono (by decide)) (by rfl) T.g_law_check_small T.F_law_check_small.kp T.b_law_check_small .nil pass0 (pa_cons (pv 2) pa_nil))))))) (pss_one (ps_ret pe_bl)) pss_nil))))
      (pss_one (ps_ret pe_bl))), ?_⟩
    walk_at "rd"
    intro p hp
    have f1 : (upd H p (.lst [V.int 0])) p = some (.lst [V.int 0]) := upd_same
    have s1 := Same.new hp (o := .lst [V.int 0])
    generalize upd H p (HO.lst [V.int 0]) = H1 at s1 f1 ⊢
    refine ⟨_, s1.seq hS, _, .inl (.inl f1), ?_, fun p1 hp1 => ⟨_, .inl (.inl upd_same), fun p2 hp2 J W => ?_⟩⟩
    · rw [List.length_map]
      exact Nat.le_trans (by simp; omega : ns.length + [V.int 0].length ≤ 64) (by decide)
    generalize hH2 : upd H1 p1 (HO.lst (ns.map V.int ++ [V.int 0])) = H2 at hp2 ⊢
    have ei : cutV (ns.map V.int ++ [V.int 0]) none (some 4) = ((ns ++ [0]).take 4).map V.int := by
      have e := cut_front (ns.map V.int ++ [V.int 0]) 4
      rw [show ((4 : Nat) : Int) = 4 by rfl] at e
      rw [e, List.map_take, List.map_append]
      rfl
    rw [ei] at W ⊢
    generalize ((ns ++ [0]).take 4) = ms at W ⊢
    have f3 : (upd H2 p2 (.lst (ms.map V.int))) p2 = some (.lst (ms.map V.int)) := upd_same
    generalize upd H2 p2 (HO.lst (ms.map V.int)) = H3 at f3 ⊢
    refine forr W (fun i σ H' => ∃ v v2, σ = [some (V.ref a), v, v2] ∧ H' p2 = some (.lst (ms.map V.int))) ⟨none, none, rfl, f3⟩ (fun _ _ _ _ h => by obtain ⟨_, _, _, h⟩ := h; exact h) ?_ ?_
    · rintro i x σ H4 H4' hi ⟨v, v2, rfl, h4⟩ ⟨rfl, hx⟩
      simp only [List.getElem?_map, Option.map_eq_some_iff] at hx
      obtain ⟨n, hn, rfl⟩ := hx
      walk_at "rd"
      refine ⟨n, rfl, fun H5 c s5 hc hsrc => ?_⟩
      walk_at "rd"
      refine ⟨c, rfl, hsrc, fun H6 s6 hs6 => ?_⟩
      walk_at "rd"
      refine ⟨c, rfl, hs6, fun H7 s7 hs7 => ?_⟩
      walk_at "rd"
      exact s7 _ _ (ne_some h4 hc) (s6 _ _ (ne_some h4 hc) (s5 _ _ h4))
    · rintro σ H4 ⟨v, v2, rfl, h4⟩
      walk_at "rd"
      exact q _
end

theorem kit_self (K : PySem.W.Frag) (C : Addr) : PySem.W.kitOne K (.ref C) (.ref C) = some true := by
  unfold PySem.W.kitOne
  rw [if_pos]
  exact beq_self_eq_true _
theorem all_mk {P : Program} {w : World} {K : PySem.W.Frag} {h : Heap} {mg : Str → Option Value} {fa : Addr} (X : K.In h) (G : h.Ns mainGlobals mg) (hfa : mg "law" = some (.ref fa))
    {c_Table : Addr} {f_is_integer : Addr} {od_is_integer an_is_integer : Option Addr} {sl_is_integer : Array (Option Value)} {oc_is_integer kV_is_integer dc_is_integer pm_is_integer cd_is_integer ct_is_integer : Value} {f_is_seat : Addr} {od_is_seat an_is_seat : Option Addr} {sl_is_seat : Array (Option Value)} {oc_is_seat kV_is_seat dc_is_seat pm_is_seat cd_is_seat ct_is_seat : Value} {f_require_seat : Addr} {od_require_seat an_require_seat : Option Addr} {sl_require_seat : Array (Option Value)} {oc_require_seat kV_require_seat dc_require_seat pm_require_seat cd_require_seat ct_require_seat : Value} {f_Table_init : Addr} {od_Table_init an_Table_init : Option Addr} {sl_Table_init : Array (Option Value)} {oc_Table_init kV_Table_init dc_Table_init pm_Table_init cd_Table_init ct_Table_init : Value} {f_Table_order : Addr} {od_Table_order an_Table_order : Option Addr} {sl_Table_order : Array (Option Value)} {oc_Table_order kV_Table_order dc_Table_order pm_Table_order cd_Table_order ct_Table_order : Value} {f_Table_halves : Addr} {od_Table_halves an_Table_halves : Option Addr} {sl_Table_halves : Array (Option Value)} {oc_Table_halves kV_Table_halves dc_Table_halves pm_Table_halves cd_Table_halves ct_Table_halves : Value} {f_all_choices : Addr} {od_all_choices an_all_choices : Option Addr} {sl_all_choices : Array (Option Value)} {oc_all_choices kV_all_choices dc_all_choices pm_all_choices cd_all_choices ct_all_choices : Value} {f_are_sizes : Addr} {od_are_sizes an_are_sizes : Option Addr} {sl_are_sizes : Array (Option Value)} {oc_are_sizes kV_are_sizes dc_are_sizes pm_are_sizes cd_are_sizes ct_are_sizes : Value} {f_half_places : Addr} {od_half_places an_half_places : Option Addr} {sl_half_places : Array (Option Value)} {oc_half_places kV_half_places dc_half_places pm_half_places cd_half_places ct_half_places : Value} {f_law_mixed : Addr} {od_law_mixed an_law_mixed : Option Addr} {sl_law_mixed : Array (Option Value)} {oc_law_mixed kV_law_mixed dc_law_mixed pm_law_mixed cd_law_mixed ct_law_mixed : Value} {f_law_source : Addr} {od_law_source an_law_source : Option Addr} {sl_law_source : Array (Option Value)} {oc_law_source kV_law_source dc_law_source pm_law_source cd_law_source ct_law_source : Value} {f_law_take : Addr} {od_law_take an_law_take : Option Addr} {sl_law_take : Array (Option Value)} {oc_law_take kV_law_take dc_law_take pm_law_take cd_law_take ct_law_take : Value} {f_law_big : Addr} {od_law_big an_law_big : Option Addr} {sl_law_big : Array (Option Value)} {oc_law_big kV_law_big dc_law_big pm_law_big cd_law_big ct_law_big : Value} {f_law_rings : Addr} {od_law_rings an_law_rings : Option Addr} {sl_law_rings : Array (Option Value)} {oc_law_rings kV_law_rings dc_law_rings pm_law_rings cd_law_rings ct_law_rings : Value} {f_law_seat : Addr} {od_law_seat an_law_seat : Option Addr} {sl_law_seat : Array (Option Value)} {oc_law_seat kV_law_seat dc_law_seat pm_law_seat cd_law_seat ct_law_seat : Value} {f_law_gcd : Addr} {od_law_gcd an_law_gcd : Option Addr} {sl_law_gcd : Array (Option Value)} {oc_law_gcd kV_law_gcd dc_law_gcd pm_law_gcd cd_law_gcd ct_law_gcd : Value} {f_law_all : Addr} {od_law_all an_law_all : Option Addr} {sl_law_all : Array (Option Value)} {oc_law_all kV_law_all dc_law_all pm_law_all cd_law_all ct_law_all : Value} {f_law_sum : Addr} {od_law_sum an_law_sum : Option Addr} {sl_law_sum : Array (Option Value)} {oc_law_sum kV_law_sum dc_law_sum pm_law_sum cd_law_sum ct_law_sum : Value} {f_law_period : Addr} {od_law_period an_law_period : Option Addr} {sl_law_period : Array (Option Value)} {oc_law_period kV_law_period dc_law_period pm_law_period cd_law_period ct_law_period : Value} {f_law_halves : Addr} {od_law_halves an_law_halves : Option Addr} {sl_law_halves : Array (Option Value)} {oc_law_halves kV_law_halves dc_law_halves pm_law_halves cd_law_halves ct_law_halves : Value} {f_law_check_small : Addr} {od_law_check_small an_law_check_small : Option Addr} {sl_law_check_small : Array (Option Value)} {oc_law_check_small kV_law_check_small dc_law_check_small pm_law_check_small cd_law_check_small ct_law_check_small : Value} {f_law_check : Addr} {od_law_check an_law_check : Option Addr} {sl_law_check : Array (Option Value)} {oc_law_check kV_law_check dc_law_check pm_law_check cd_law_check ct_law_check : Value} {f_law : Addr} {od_law an_law : Option Addr} {sl_law : Array (Option Value)} {oc_law kV_law dc_law pm_law cd_law ct_law : Value} {v_MAX_RINGS : Value}
    (ac_Table : PySem.W.nsIn K mainGlobals "Table" = some (some (.ref c_Table)))
    (a_is_integer : PySem.W.nsIn K mainGlobals "is_integer" = some (some (.ref f_is_integer)))
    (l_is_integer : K.lookup f_is_integer = some ⟨oc_is_integer, od_is_integer, .func (PySem.W.fnOf "is_integer" "is_integer" (defArgs d_is_integer) (defBody d_is_integer) (defScope d_is_integer) .none kV_is_integer dc_is_integer pm_is_integer an_is_integer cd_is_integer ct_is_integer), sl_is_integer⟩)
    (x_is_integer : PySem.W.codeIn K cd_is_integer "is_integer" = true)
    (k_is_integer : PySem.W.keepIn K (.ref f_is_integer) = true)
    (a_is_seat : PySem.W.nsIn K mainGlobals "is_seat" = some (some (.ref f_is_seat)))
    (l_is_seat : K.lookup f_is_seat = some ⟨oc_is_seat, od_is_seat, .func (PySem.W.fnOf "is_seat" "is_seat" (defArgs d_is_seat) (defBody d_is_seat) (defScope d_is_seat) .none kV_is_seat dc_is_seat pm_is_seat an_is_seat cd_is_seat ct_is_seat), sl_is_seat⟩)
    (x_is_seat : PySem.W.codeIn K cd_is_seat "is_seat" = true)
    (k_is_seat : PySem.W.keepIn K (.ref f_is_seat) = true)
    (a_require_seat : PySem.W.nsIn K mainGlobals "require_seat" = some (some (.ref f_require_seat)))
    (l_require_seat : K.lookup f_require_seat = some ⟨oc_require_seat, od_require_seat, .func (PySem.W.fnOf "require_seat" "require_seat" (defArgs d_require_seat) (defBody d_require_seat) (defScope d_require_seat) .none kV_require_seat dc_require_seat pm_require_seat an_require_seat cd_require_seat ct_require_seat), sl_require_seat⟩)
    (x_require_seat : PySem.W.codeIn K cd_require_seat "require_seat" = true)
    (k_require_seat : PySem.W.keepIn K (.ref f_require_seat) = true)
    (a_Table_init : PySem.W.findIn K (.ref c_Table) "__init__" = some (some (.ref f_Table_init)))
    (i_Table_init : PySem.W.isFn K (.ref f_Table_init) = true)
    (l_Table_init : K.lookup f_Table_init = some ⟨oc_Table_init, od_Table_init, .func (PySem.W.fnOf "__init__" "Table.__init__" (defArgs d_Table_init) (defBody d_Table_init) (defScope d_Table_init) .none kV_Table_init dc_Table_init pm_Table_init an_Table_init cd_Table_init ct_Table_init), sl_Table_init⟩)
    (x_Table_init : PySem.W.codeIn K cd_Table_init "Table.__init__" = true)
    (k_Table_init : PySem.W.keepIn K (.ref f_Table_init) = true)
    (a_Table_order : PySem.W.findIn K (.ref c_Table) "order" = some (some (.ref f_Table_order)))
    (i_Table_order : PySem.W.isFn K (.ref f_Table_order) = true)
    (l_Table_order : K.lookup f_Table_order = some ⟨oc_Table_order, od_Table_order, .func (PySem.W.fnOf "order" "Table.order" (defArgs d_Table_order) (defBody d_Table_order) (defScope d_Table_order) .none kV_Table_order dc_Table_order pm_Table_order an_Table_order cd_Table_order ct_Table_order), sl_Table_order⟩)
    (x_Table_order : PySem.W.codeIn K cd_Table_order "Table.order" = true)
    (k_Table_order : PySem.W.keepIn K (.ref f_Table_order) = true)
    (a_Table_halves : PySem.W.findIn K (.ref c_Table) "halves" = some (some (.ref f_Table_halves)))
    (i_Table_halves : PySem.W.isFn K (.ref f_Table_halves) = true)
    (l_Table_halves : K.lookup f_Table_halves = some ⟨oc_Table_halves, od_Table_halves, .func (PySem.W.fnOf "halves" "Table.halves" (defArgs d_Table_halves) (defBody d_Table_halves) (defScope d_Table_halves) .none kV_Table_halves dc_Table_halves pm_Table_halves an_Table_halves cd_Table_halves ct_Table_halves), sl_Table_halves⟩)
    (x_Table_halves : PySem.W.codeIn K cd_Table_halves "Table.halves" = true)
    (k_Table_halves : PySem.W.keepIn K (.ref f_Table_halves) = true)
    (a_all_choices : PySem.W.nsIn K mainGlobals "all_choices" = some (some (.ref f_all_choices)))
    (l_all_choices : K.lookup f_all_choices = some ⟨oc_all_choices, od_all_choices, .func (PySem.W.fnOf "all_choices" "all_choices" (defArgs d_all_choices) (defBody d_all_choices) (defScope d_all_choices) .none kV_all_choices dc_all_choices pm_all_choices an_all_choices cd_all_choices ct_all_choices), sl_all_choices⟩)
    (x_all_choices : PySem.W.codeIn K cd_all_choices "all_choices" = true)
    (k_all_choices : PySem.W.keepIn K (.ref f_all_choices) = true)
    (a_are_sizes : PySem.W.nsIn K mainGlobals "_are_sizes" = some (some (.ref f_are_sizes)))
    (l_are_sizes : K.lookup f_are_sizes = some ⟨oc_are_sizes, od_are_sizes, .func (PySem.W.fnOf "_are_sizes" "_are_sizes" (defArgs d_are_sizes) (defBody d_are_sizes) (defScope d_are_sizes) .none kV_are_sizes dc_are_sizes pm_are_sizes an_are_sizes cd_are_sizes ct_are_sizes), sl_are_sizes⟩)
    (x_are_sizes : PySem.W.codeIn K cd_are_sizes "_are_sizes" = true)
    (k_are_sizes : PySem.W.keepIn K (.ref f_are_sizes) = true)
    (a_half_places : PySem.W.nsIn K mainGlobals "_half_places" = some (some (.ref f_half_places)))
    (l_half_places : K.lookup f_half_places = some ⟨oc_half_places, od_half_places, .func (PySem.W.fnOf "_half_places" "_half_places" (defArgs d_half_places) (defBody d_half_places) (defScope d_half_places) .none kV_half_places dc_half_places pm_half_places an_half_places cd_half_places ct_half_places), sl_half_places⟩)
    (x_half_places : PySem.W.codeIn K cd_half_places "_half_places" = true)
    (k_half_places : PySem.W.keepIn K (.ref f_half_places) = true)
    (a_law_mixed : PySem.W.nsIn K mainGlobals "_law_mixed" = some (some (.ref f_law_mixed)))
    (l_law_mixed : K.lookup f_law_mixed = some ⟨oc_law_mixed, od_law_mixed, .func (PySem.W.fnOf "_law_mixed" "_law_mixed" (defArgs d_law_mixed) (defBody d_law_mixed) (defScope d_law_mixed) .none kV_law_mixed dc_law_mixed pm_law_mixed an_law_mixed cd_law_mixed ct_law_mixed), sl_law_mixed⟩)
    (x_law_mixed : PySem.W.codeIn K cd_law_mixed "_law_mixed" = true)
    (k_law_mixed : PySem.W.keepIn K (.ref f_law_mixed) = true)
    (a_law_source : PySem.W.nsIn K mainGlobals "_law_source" = some (some (.ref f_law_source)))
    (l_law_source : K.lookup f_law_source = some ⟨oc_law_source, od_law_source, .func (PySem.W.fnOf "_law_source" "_law_source" (defArgs d_law_source) (defBody d_law_source) (defScope d_law_source) .none kV_law_source dc_law_source pm_law_source an_law_source cd_law_source ct_law_source), sl_law_source⟩)
    (x_law_source : PySem.W.codeIn K cd_law_source "_law_source" = true)
    (k_law_source : PySem.W.keepIn K (.ref f_law_source) = true)
    (a_law_take : PySem.W.nsIn K mainGlobals "_law_take" = some (some (.ref f_law_take)))
    (l_law_take : K.lookup f_law_take = some ⟨oc_law_take, od_law_take, .func (PySem.W.fnOf "_law_take" "_law_take" (defArgs d_law_take) (defBody d_law_take) (defScope d_law_take) .none kV_law_take dc_law_take pm_law_take an_law_take cd_law_take ct_law_take), sl_law_take⟩)
    (x_law_take : PySem.W.codeIn K cd_law_take "_law_take" = true)
    (k_law_take : PySem.W.keepIn K (.ref f_law_take) = true)
    (a_law_big : PySem.W.nsIn K mainGlobals "_law_big" = some (some (.ref f_law_big)))
    (l_law_big : K.lookup f_law_big = some ⟨oc_law_big, od_law_big, .func (PySem.W.fnOf "_law_big" "_law_big" (defArgs d_law_big) (defBody d_law_big) (defScope d_law_big) .none kV_law_big dc_law_big pm_law_big an_law_big cd_law_big ct_law_big), sl_law_big⟩)
    (x_law_big : PySem.W.codeIn K cd_law_big "_law_big" = true)
    (k_law_big : PySem.W.keepIn K (.ref f_law_big) = true)
    (a_law_rings : PySem.W.nsIn K mainGlobals "_law_rings" = some (some (.ref f_law_rings)))
    (l_law_rings : K.lookup f_law_rings = some ⟨oc_law_rings, od_law_rings, .func (PySem.W.fnOf "_law_rings" "_law_rings" (defArgs d_law_rings) (defBody d_law_rings) (defScope d_law_rings) .none kV_law_rings dc_law_rings pm_law_rings an_law_rings cd_law_rings ct_law_rings), sl_law_rings⟩)
    (x_law_rings : PySem.W.codeIn K cd_law_rings "_law_rings" = true)
    (k_law_rings : PySem.W.keepIn K (.ref f_law_rings) = true)
    (a_law_seat : PySem.W.nsIn K mainGlobals "_law_seat" = some (some (.ref f_law_seat)))
    (l_law_seat : K.lookup f_law_seat = some ⟨oc_law_seat, od_law_seat, .func (PySem.W.fnOf "_law_seat" "_law_seat" (defArgs d_law_seat) (defBody d_law_seat) (defScope d_law_seat) .none kV_law_seat dc_law_seat pm_law_seat an_law_seat cd_law_seat ct_law_seat), sl_law_seat⟩)
    (x_law_seat : PySem.W.codeIn K cd_law_seat "_law_seat" = true)
    (k_law_seat : PySem.W.keepIn K (.ref f_law_seat) = true)
    (a_law_gcd : PySem.W.nsIn K mainGlobals "_law_gcd" = some (some (.ref f_law_gcd)))
    (l_law_gcd : K.lookup f_law_gcd = some ⟨oc_law_gcd, od_law_gcd, .func (PySem.W.fnOf "_law_gcd" "_law_gcd" (defArgs d_law_gcd) (defBody d_law_gcd) (defScope d_law_gcd) .none kV_law_gcd dc_law_gcd pm_law_gcd an_law_gcd cd_law_gcd ct_law_gcd), sl_law_gcd⟩)
    (x_law_gcd : PySem.W.codeIn K cd_law_gcd "_law_gcd" = true)
    (k_law_gcd : PySem.W.keepIn K (.ref f_law_gcd) = true)
    (a_law_all : PySem.W.nsIn K mainGlobals "_law_all" = some (some (.ref f_law_all)))
    (l_law_all : K.lookup f_law_all = some ⟨oc_law_all, od_law_all, .func (PySem.W.fnOf "_law_all" "_law_all" (defArgs d_law_all) (defBody d_law_all) (defScope d_law_all) .none kV_law_all dc_law_all pm_law_all an_law_all cd_law_all ct_law_all), sl_law_all⟩)
    (x_law_all : PySem.W.codeIn K cd_law_all "_law_all" = true)
    (k_law_all : PySem.W.keepIn K (.ref f_law_all) = true)
    (a_law_sum : PySem.W.nsIn K mainGlobals "_law_sum" = some (some (.ref f_law_sum)))
    (l_law_sum : K.lookup f_law_sum = some ⟨oc_law_sum, od_law_sum, .func (PySem.W.fnOf "_law_sum" "_law_sum" (defArgs d_law_sum) (defBody d_law_sum) (defScope d_law_sum) .none kV_law_sum dc_law_sum pm_law_sum an_law_sum cd_law_sum ct_law_sum), sl_law_sum⟩)
    (x_law_sum : PySem.W.codeIn K cd_law_sum "_law_sum" = true)
    (k_law_sum : PySem.W.keepIn K (.ref f_law_sum) = true)
    (a_law_period : PySem.W.nsIn K mainGlobals "_law_period" = some (some (.ref f_law_period)))
    (l_law_period : K.lookup f_law_period = some ⟨oc_law_period, od_law_period, .func (PySem.W.fnOf "_law_period" "_law_period" (defArgs d_law_period) (defBody d_law_period) (defScope d_law_period) .none kV_law_period dc_law_period pm_law_period an_law_period cd_law_period ct_law_period), sl_law_period⟩)
    (x_law_period : PySem.W.codeIn K cd_law_period "_law_period" = true)
    (k_law_period : PySem.W.keepIn K (.ref f_law_period) = true)
    (a_law_halves : PySem.W.nsIn K mainGlobals "_law_halves" = some (some (.ref f_law_halves)))
    (l_law_halves : K.lookup f_law_halves = some ⟨oc_law_halves, od_law_halves, .func (PySem.W.fnOf "_law_halves" "_law_halves" (defArgs d_law_halves) (defBody d_law_halves) (defScope d_law_halves) .none kV_law_halves dc_law_halves pm_law_halves an_law_halves cd_law_halves ct_law_halves), sl_law_halves⟩)
    (x_law_halves : PySem.W.codeIn K cd_law_halves "_law_halves" = true)
    (k_law_halves : PySem.W.keepIn K (.ref f_law_halves) = true)
    (a_law_check_small : PySem.W.nsIn K mainGlobals "_law_check_small" = some (some (.ref f_law_check_small)))
    (l_law_check_small : K.lookup f_law_check_small = some ⟨oc_law_check_small, od_law_check_small, .func (PySem.W.fnOf "_law_check_small" "_law_check_small" (defArgs d_law_check_small) (defBody d_law_check_small) (defScope d_law_check_small) .none kV_law_check_small dc_law_check_small pm_law_check_small an_law_check_small cd_law_check_small ct_law_check_small), sl_law_check_small⟩)
    (x_law_check_small : PySem.W.codeIn K cd_law_check_small "_law_check_small" = true)
    (k_law_check_small : PySem.W.keepIn K (.ref f_law_check_small) = true)
    (a_law_check : PySem.W.nsIn K mainGlobals "_law_check" = some (some (.ref f_law_check)))
    (l_law_check : K.lookup f_law_check = some ⟨oc_law_check, od_law_check, .func (PySem.W.fnOf "_law_check" "_law_check" (defArgs d_law_check) (defBody d_law_check) (defScope d_law_check) .none kV_law_check dc_law_check pm_law_check an_law_check cd_law_check ct_law_check), sl_law_check⟩)
    (x_law_check : PySem.W.codeIn K cd_law_check "_law_check" = true)
    (k_law_check : PySem.W.keepIn K (.ref f_law_check) = true)
    (a_law : PySem.W.nsIn K mainGlobals "law" = some (some (.ref f_law)))
    (l_law : K.lookup f_law = some ⟨oc_law, od_law, .func (PySem.W.fnOf "law" "law" (defArgs d_law) (defBody d_law) (defScope d_law) .none kV_law dc_law pm_law an_law cd_law ct_law), sl_law⟩)
    (x_law : PySem.W.codeIn K cd_law "law" = true)
    (k_law : PySem.W.keepIn K (.ref f_law) = true)
    (pg_Table : PySem.W.plainGet K c_Table Str.empty = true)
    (hd_Table : PySem.W.hasDictIn K c_Table = true)
    (po_Table : PySem.W.plainOver K c_Table = true)
    (sa_Table : PySem.W.findIn K (.ref c_Table) "__setattr__" = some (some (.builtin "object.__setattr__")))
    (mk_Table : PySem.W.makesIn K c_Table = true)
    (kc_Table : PySem.W.keepIn K (.ref c_Table) = true)
    (no_Table_sizes : PySem.W.findIn K (.ref c_Table) "_sizes" = some none)
    (w_gcd : PySem.W.nsIn K mainGlobals "gcd" = some (some (.builtin "math.gcd")))
    (w_lcm : PySem.W.nsIn K mainGlobals "lcm" = some (some (.builtin "math.lcm")))
    (y_MAX_RINGS : PySem.W.nsIn K mainGlobals "MAX_RINGS" = some (some v_MAX_RINGS))
    (r_MAX_RINGS : RelV (.int 4) v_MAX_RINGS)
    (z_all : PySem.W.nsIn K mainGlobals "all" = some none)
    (z_bool : PySem.W.nsIn K mainGlobals "bool" = some none)
    (z_int : PySem.W.nsIn K mainGlobals "int" = some none)
    (z_isinstance : PySem.W.nsIn K mainGlobals "isinstance" = some none)
    (z_len : PySem.W.nsIn K mainGlobals "len" = some none)
    (z_list : PySem.W.nsIn K mainGlobals "list" = some none)
    (z_min : PySem.W.nsIn K mainGlobals "min" = some none)
    (z_range : PySem.W.nsIn K mainGlobals "range" = some none)
    (z_set : PySem.W.nsIn K mainGlobals "set" = some none)
    (z_sorted : PySem.W.nsIn K mainGlobals "sorted" = some none)
    (z_tuple : PySem.W.nsIn K mainGlobals "tuple" = some none)
    (z_zip : PySem.W.nsIn K mainGlobals "zip" = some none)
    (ho_CX0 : Unit := ()) : ∃ fd : FuncData, (∀ (s : Shared) (v : Value), BindsTo s fd ⟨[v], []⟩ [("_law_script", v)]) ∧ ∀ base : Heap, K.In base → base.Ns mainGlobals mg → FnOk P w K mg base CX0 6 fa fd ["_law_script"] (sp_law K) := by
  have e := hfa.symm.trans (PySem.W.mg_of X G a_law)
  cases e
  have F_is_integer := fun_mk (st := d_is_integer) l_is_integer x_is_integer k_is_integer
  have b_is_integer := F_is_integer.binds (ps := ["number"]) fun _ _ _ _ _ _ us hl => match us, hl with | [_], _ => rfl
  have F_is_seat := fun_mk (st := d_is_seat) l_is_seat x_is_seat k_is_seat
  have b_is_seat := F_is_seat.binds (ps := ["sizes", "seat"]) fun _ _ _ _ _ _ us hl => match us, hl with | [_, _], _ => rfl
  have F_require_seat := fun_mk (st := d_require_seat) l_require_seat x_require_seat k_require_seat
  have b_require_seat := F_require_seat.binds (ps := ["sizes", "seat"]) fun _ _ _ _ _ _ us hl => match us, hl with | [_, _], _ => rfl
  have F_Table_init := fun_mk (st := d_Table_init) l_Table_init x_Table_init k_Table_init
  have b_Table_init := F_Table_init.binds (ps := ["self", "rings"]) fun _ _ _ _ _ _ us hl => match us, hl with | [_, _], _ => rfl
  have F_Table_order := fun_mk (st := d_Table_order) l_Table_order x_Table_order k_Table_order
  have b_Table_order := F_Table_order.binds (ps := ["self", "seat"]) fun _ _ _ _ _ _ us hl => match us, hl with | [_, _], _ => rfl
  have F_Table_halves := fun_mk (st := d_Table_halves) l_Table_halves x_Table_halves k_Table_halves
  have b_Table_halves := F_Table_halves.binds (ps := ["self", "seat"]) fun _ _ _ _ _ _ us hl => match us, hl with | [_, _], _ => rfl
  have F_all_choices := fun_mk (st := d_all_choices) l_all_choices x_all_choices k_all_choices
  have b_all_choices := F_all_choices.binds (ps := ["options"]) fun _ _ _ _ _ _ us hl => match us, hl with | [_], _ => rfl
  have F_are_sizes := fun_mk (st := d_are_sizes) l_are_sizes x_are_sizes k_are_sizes
  have b_are_sizes := F_are_sizes.binds (ps := ["rings"]) fun _ _ _ _ _ _ us hl => match us, hl with | [_], _ => rfl
  have F_half_places := fun_mk (st := d_half_places) l_half_places x_half_places k_half_places
  have b_half_places := F_half_places.binds (ps := ["place", "size"]) fun _ _ _ _ _ _ us hl => match us, hl with | [_, _], _ => rfl
  have F_law_mixed := fun_mk (st := d_law_mixed) l_law_mixed x_law_mixed k_law_mixed
  have b_law_mixed := F_law_mixed.binds (ps := ["_law_cell", "_law_draw"]) fun _ _ _ _ _ _ us hl => match us, hl with | [_, _], _ => rfl
  have F_law_source := fun_mk (st := d_law_source) l_law_source x_law_source k_law_source
  have b_law_source := F_law_source.binds (ps := ["_law_cell"]) fun _ _ _ _ _ _ us hl => match us, hl with | [_], _ => rfl
  have F_law_take := fun_mk (st := d_law_take) l_law_take x_law_take k_law_take
  have b_law_take := F_law_take.binds (ps := ["_law_source_here", "_law_count"]) fun _ _ _ _ _ _ us hl => match us, hl with | [_, _], _ => rfl
  have F_law_big := fun_mk (st := d_law_big) l_law_big x_law_big k_law_big
  have b_law_big := F_law_big.binds (ps := ["_law_source_here"]) fun _ _ _ _ _ _ us hl => match us, hl with | [_], _ => rfl
  have F_law_rings := fun_mk (st := d_law_rings) l_law_rings x_law_rings k_law_rings
  have b_law_rings := F_law_rings.binds (ps := ["_law_source_here"]) fun _ _ _ _ _ _ us hl => match us, hl with | [_], _ => rfl
  have F_law_seat := fun_mk (st := d_law_seat) l_law_seat x_law_seat k_law_seat
  have b_law_seat := F_law_seat.binds (ps := ["_law_source_here", "_law_sizes"]) fun _ _ _ _ _ _ us hl => match us, hl with | [_, _], _ => rfl
  have F_law_gcd := fun_mk (st := d_law_gcd) l_law_gcd x_law_gcd k_law_gcd
  have b_law_gcd := F_law_gcd.binds (ps := ["_law_first", "_law_second"]) fun _ _ _ _ _ _ us hl => match us, hl with | [_, _], _ => rfl
  have F_law_all := fun_mk (st := d_law_all) l_law_all x_law_all k_law_all
  have b_law_all := F_law_all.binds (ps := ["_law_sizes"]) fun _ _ _ _ _ _ us hl => match us, hl with | [_], _ => rfl
  have F_law_sum := fun_mk (st := d_law_sum) l_law_sum x_law_sum k_law_sum
  have b_law_sum := F_law_sum.binds (ps := ["_law_first", "_law_second", "_law_sizes"]) fun _ _ _ _ _ _ us hl => match us, hl with | [_, _, _], _ => rfl
  have F_law_period := fun_mk (st := d_law_period) l_law_period x_law_period k_law_period
  have b_law_period := F_law_period.binds (ps := ["_law_origin", "_law_sizes"]) fun _ _ _ _ _ _ us hl => match us, hl with | [_, _], _ => rfl
  have F_law_halves := fun_mk (st := d_law_halves) l_law_halves x_law_halves k_law_halves
  have b_law_halves := F_law_halves.binds (ps := ["_law_origin", "_law_sizes"]) fun _ _ _ _ _ _ us hl => match us, hl with | [_, _], _ => rfl
  have F_law_check_small := fun_mk (st := d_law_check_small) l_law_check_small x_law_check_small k_law_check_small
  have b_law_check_small := F_law_check_small.binds (ps := ["_law_source_here"]) fun _ _ _ _ _ _ us hl => match us, hl with | [_], _ => rfl
  have F_law_check := fun_mk (st := d_law_check) l_law_check x_law_check k_law_check
  have b_law_check := F_law_check.binds (ps := ["_law_source_here"]) fun _ _ _ _ _ _ us hl => match us, hl with | [_], _ => rfl
  have F_law := fun_mk (st := d_law) l_law x_law k_law
  have b_law := F_law.binds (ps := ["_law_script"]) fun _ _ _ _ _ _ us hl => match us, hl with | [_], _ => rfl
  have kb_Table_halves_seat := kbn_of F_Table_halves ["self", "seat"] 1 ["seat"] (fun us ws => [us.getD 0 Value.none, ws.getD 0 Value.none]) (fun us ws => [us.getD 0 V.non, ws.getD 0 V.non])
    (fun _ _ _ _ _ _ us ws h1 h2 => match us, ws, h1, h2 with | [u0], [w0], _, _ => rfl)
    (fun r1 r2 => (.cons (Vals.getD r1 0) (.cons (Vals.getD r2 0) .nil)))
  have kb_Table_order_seat := kbn_of F_Table_order ["self", "seat"] 1 ["seat"] (fun us ws => [us.getD 0 Value.none, ws.getD 0 Value.none]) (fun us ws => [us.getD 0 V.non, ws.getD 0 V.non])
    (fun _ _ _ _ _ _ us ws h1 h2 => match us, ws, h1, h2 with | [u0], [w0], _, _ => rfl)
    (fun r1 r2 => (.cons (Vals.getD r1 0) (.cons (Vals.getD r2 0) .nil)))
  let T : Tx K mg := { f_is_integer := f_is_integer, fd_is_integer := _, F_is_integer := F_is_integer, b_is_integer := b_is_integer, g_is_integer := PySem.W.mg_of X G a_is_integer, f_is_seat := f_is_seat, fd_is_seat := _, F_is_seat := F_is_seat, b_is_seat := b_is_seat, g_is_seat := PySem.W.mg_of X G a_is_seat, f_require_seat := f_require_seat, fd_require_seat := _, F_require_seat := F_require_seat, b_require_seat := b_require_seat, g_require_seat := PySem.W.mg_of X G a_require_seat, f_Table_init := f_Table_init, fd_Table_init := _, F_Table_init := F_Table_init, b_Table_init := b_Table_init, f_Table_order := f_Table_order, fd_Table_order := _, F_Table_order := F_Table_order, b_Table_order := b_Table_order, f_Table_halves := f_Table_halves, fd_Table_halves := _, F_Table_halves := F_Table_halves, b_Table_halves := b_Table_halves, f_all_choices := f_all_choices, fd_all_choices := _, F_all_choices := F_all_choices, b_all_choices := b_all_choices, g_all_choices := PySem.W.mg_of X G a_all_choices, f_are_sizes := f_are_sizes, fd_are_sizes := _, F_are_sizes := F_are_sizes, b_are_sizes := b_are_sizes, g_are_sizes := PySem.W.mg_of X G a_are_sizes, f_half_places := f_half_places, fd_half_places := _, F_half_places := F_half_places, b_half_places := b_half_places, g_half_places := PySem.W.mg_of X G a_half_places, f_law_mixed := f_law_mixed, fd_law_mixed := _, F_law_mixed := F_law_mixed, b_law_mixed := b_law_mixed, g_law_mixed := PySem.W.mg_of X G a_law_mixed, f_law_source := f_law_source, fd_law_source := _, F_law_source := F_law_source, b_law_source := b_law_source, g_law_source := PySem.W.mg_of X G a_law_source, f_law_take := f_law_take, fd_law_take := _, F_law_take := F_law_take, b_law_take := b_law_take, g_law_take := PySem.W.mg_of X G a_law_take, f_law_big := f_law_big, fd_law_big := _, F_law_big := F_law_big, b_law_big := b_law_big, g_law_big := PySem.W.mg_of X G a_law_big, f_law_rings := f_law_rings, fd_law_rings := _, F_law_rings := F_law_rings, b_law_rings := b_law_rings, g_law_rings := PySem.W.mg_of X G a_law_rings, f_law_seat := f_law_seat, fd_law_seat := _, F_law_seat := F_law_seat, b_law_seat := b_law_seat, g_law_seat := PySem.W.mg_of X G a_law_seat, f_law_gcd := f_law_gcd, fd_law_gcd := _, F_law_gcd := F_law_gcd, b_law_gcd := b_law_gcd, g_law_gcd := PySem.W.mg_of X G a_law_gcd, f_law_all := f_law_all, fd_law_all := _, F_law_all := F_law_all, b_law_all := b_law_all, g_law_all := PySem.W.mg_of X G a_law_all, f_law_sum := f_law_sum, fd_law_sum := _, F_law_sum := F_law_sum, b_law_sum := b_law_sum, g_law_sum := PySem.W.mg_of X G a_law_sum, f_law_period := f_law_period, fd_law_period := _, F_law_period := F_law_period, b_law_period := b_law_period, g_law_period := PySem.W.mg_of X G a_law_period, f_law_halves := f_law_halves, fd_law_halves := _, F_law_halves := F_law_halves, b_law_halves := b_law_halves, g_law_halves := PySem.W.mg_of X G a_law_halves, f_law_check_small := f_law_check_small, fd_law_check_small := _, F_law_check_small := F_law_check_small, b_law_check_small := b_law_check_small, g_law_check_small := PySem.W.mg_of X G a_law_check_small, f_law_check := f_law_check, fd_law_check := _, F_law_check := F_law_check, b_law_check := b_law_check, g_law_check := PySem.W.mg_of X G a_law_check, f_law := fa, fd_law := _, F_law := F_law, b_law := b_law, g_law := PySem.W.mg_of X G a_law, c_Table := c_Table, g_Table := PySem.W.mg_of X G ac_Table, cl_Table := ⟨pg_Table, hd_Table, po_Table, sa_Table⟩, M_Table := ⟨mk_Table, a_Table_init, i_Table_init, kc_Table⟩, m_Table_order := ⟨a_Table_order, i_Table_order, k_Table_order⟩, m_Table_halves := ⟨a_Table_halves, i_Table_halves, k_Table_halves⟩, no_Table_sizes := no_Table_sizes, kb_Table_halves_seat := kb_Table_halves_seat, kb_Table_order_seat := kb_Table_order_seat, b_gcd := PySem.W.mg_of X G w_gcd, b_lcm := PySem.W.mg_of X G w_lcm, v_MAX_RINGS := _, g_MAX_RINGS := PySem.W.mg_of X G y_MAX_RINGS, r_MAX_RINGS := r_MAX_RINGS, n_all := PySem.W.mg_none_of X G z_all, n_bool := PySem.W.mg_none_of X G z_bool, n_int := PySem.W.mg_none_of X G z_int, n_isinstance := PySem.W.mg_none_of X G z_isinstance, n_len := PySem.W.mg_none_of X G z_len, n_list := PySem.W.mg_none_of X G z_list, n_min := PySem.W.mg_none_of X G z_min, n_range := PySem.W.mg_none_of X G z_range, n_set := PySem.W.mg_none_of X G z_set, n_sorted := PySem.W.mg_none_of X G z_sorted, n_tuple := PySem.W.mg_none_of X G z_tuple, n_zip := PySem.W.mg_none_of X G z_zip }
  exact ⟨PySem.W.fnOf "law" "law" (defArgs d_law) (defBody d_law) (defScope d_law) .none kV_law dc_law pm_law an_law cd_law ct_law, fun s v => .of_eq rfl, fun base _ _ => ok_law (P := P) (w := w) (base := base) T⟩
end Lw
open PySem PySem.W PyProof.Rows in
set_option maxHeartbeats 0 in
theorem PySem.Challenge.cw_calledseats_k02_orders_and_halves_holds : PySem.Challenge.rw_calledseats_k02_orders_and_halves.Holds := by
  w_on; o_law; k_head; (case hw => w_witness2)
  k_fill
  refine L2.walk_ofB (l := PySem.Challenge.rw_calledseats_k02_orders_and_halves) (n := 63) (k := 6) (x := "_law_script") (CX := fun _ => L2.CX0) (sp := fun w => Lw.sp_law _) rfl (by decide) rfl ⟨rfl, by decide, by decide⟩ (fun w h Y => PySem.W.kIn_of Y) ?F (fun _ _ a ns hl hb _ hS => ⟨a, ns, rfl, hS, hl, hb, fun _ => rfl⟩) (fun _ _ _ _ _ h => h)
  case F =>
    intro w mg fa h KX G hmg
    refine' Lw.all_mk KX G hmg ?ac_Table ?a_is_integer ?l_is_integer ?x_is_integer ?k_is_integer ?a_is_seat ?l_is_seat ?x_is_seat ?k_is_seat ?a_require_seat ?l_require_seat ?x_require_seat ?k_require_seat ?a_Table_init ?i_Table_init ?l_Table_init ?x_Table_init ?k_Table_init ?a_Table_order ?i_Table_order ?l_Table_order ?x_Table_order ?k_Table_order ?a_Table_halves ?i_Table_halves ?l_Table_halves ?x_Table_halves ?k_Table_halves ?a_all_choices ?l_all_choices ?x_all_choices ?k_all_choices ?a_are_sizes ?l_are_sizes ?x_are_sizes ?k_are_sizes ?a_half_places ?l_half_places ?x_half_places ?k_half_places ?a_law_mixed ?l_law_mixed ?x_law_mixed ?k_law_mixed ?a_law_source ?l_law_source ?x_law_source ?k_law_source ?a_law_take ?l_law_take ?x_law_take ?k_law_take ?a_law_big ?l_law_big ?x_law_big ?k_law_big ?a_law_rings ?l_law_rings ?x_law_rings ?k_law_rings ?a_law_seat ?l_law_seat ?x_law_seat ?k_law_seat ?a_law_gcd ?l_law_gcd ?x_law_gcd ?k_law_gcd ?a_law_all ?l_law_all ?x_law_all ?k_law_all ?a_law_sum ?l_law_sum ?x_law_sum ?k_law_sum ?a_law_period ?l_law_period ?x_law_period ?k_law_period ?a_law_halves ?l_law_halves ?x_law_halves ?k_law_halves ?a_law_check_small ?l_law_check_small ?x_law_check_small ?k_law_check_small ?a_law_check ?l_law_check ?x_law_check ?k_law_check ?a_law ?l_law ?x_law ?k_law ?pg_Table ?hd_Table ?po_Table ?sa_Table ?mk_Table ?kc_Table ?no_Table_sizes ?w_gcd ?w_lcm ?y_MAX_RINGS ?r_MAX_RINGS ?z_all ?z_bool ?z_int ?z_isinstance ?z_len ?z_list ?z_min ?z_range ?z_set ?z_sorted ?z_tuple ?z_zip
    (case ac_Table => k_is)
    (case a_is_integer => k_is)
    (case l_is_integer => k_is)
    (case x_is_integer => k_is)
    (case k_is_integer => k_is)
    (case a_is_seat => k_is)
    (case l_is_seat => k_is)
    (case x_is_seat => k_is)
    (case k_is_seat => k_is)
    (case a_require_seat => k_is)
    (case l_require_seat => k_is)
    (case x_require_seat => k_is)
    (case k_require_seat => k_is)
    (case a_Table_init => k_is)
    (case i_Table_init => k_is)
    (case l_Table_init => k_is)
    (case x_Table_init => k_is)
    (case k_Table_init => k_is)
    (case a_Table_order => k_is)
    (case i_Table_order => k_is)
    (case l_Table_order => k_is)
    (case x_Table_order => k_is)
    (case k_Table_order => k_is)
    (case a_Table_halves => k_is)
    (case i_Table_halves => k_is)
    (case l_Table_halves => k_is)
    (case x_Table_halves => k_is)
    (case k_Table_halves => k_is)
    (case a_all_choices => k_is)
    (case l_all_choices => k_is)
    (case x_all_choices => k_is)
    (case k_all_choices => k_is)
    (case a_are_sizes => k_is)
    (case l_are_sizes => k_is)
    (case x_are_sizes => k_is)
    (case k_are_sizes => k_is)
    (case a_half_places => k_is)
    (case l_half_places => k_is)
    (case x_half_places => k_is)
    (case k_half_places => k_is)
    (case a_law_mixed => k_is)
    (case l_law_mixed => k_is)
    (case x_law_mixed => k_is)
    (case k_law_mixed => k_is)
    (case a_law_source => k_is)
    (case l_law_source => k_is)
    (case x_law_source => k_is)
    (case k_law_source => k_is)
    (case a_law_take => k_is)
    (case l_law_take => k_is)
    (case x_law_take => k_is)
    (case k_law_take => k_is)
    (case a_law_big => k_is)
    (case l_law_big => k_is)
    (case x_law_big => k_is)
    (case k_law_big => k_is)
    (case a_law_rings => k_is)
    (case l_law_rings => k_is)
    (case x_law_rings => k_is)
    (case k_law_rings => k_is)
    (case a_law_seat => k_is)
    (case l_law_seat => k_is)
    (case x_law_seat => k_is)
    (case k_law_seat => k_is)
    (case a_law_gcd => k_is)
    (case l_law_gcd => k_is)
    (case x_law_gcd => k_is)
    (case k_law_gcd => k_is)
    (case a_law_all => k_is)
    (case l_law_all => k_is)
    (case x_law_all => k_is)
    (case k_law_all => k_is)
    (case a_law_sum => k_is)
    (case l_law_sum => k_is)
    (case x_law_sum => k_is)
    (case k_law_sum => k_is)
    (case a_law_period => k_is)
    (case l_law_period => k_is)
    (case x_law_period => k_is)
    (case k_law_period => k_is)
    (case a_law_halves => k_is)
    (case l_law_halves => k_is)
    (case x_law_halves => k_is)
    (case k_law_halves => k_is)
    (case a_law_check_small => k_is)
    (case l_law_check_small => k_is)
    (case x_law_check_small => k_is)
    (case k_law_check_small => k_is)
    (case a_law_check => k_is)
    (case l_law_check => k_is)
    (case x_law_check => k_is)
    (case k_law_check => k_is)
    (case a_law => k_is)
    (case l_law => k_is)
    (case x_law => k_is)
    (case k_law => k_is)
    (case pg_Table => k_is)
    (case hd_Table => k_is)
    (case po_Table => k_is)
    (case sa_Table => k_is)
    (case mk_Table => k_is)
    (case kc_Table => k_is)
    (case no_Table_sizes => k_is)
    (case w_gcd => k_is)
    (case w_lcm => k_is)
    (case y_MAX_RINGS => k_is)
    (case r_MAX_RINGS => exact ⟨_, rfl⟩)
    (case z_all => k_is)
    (case z_bool => k_is)
    (case z_int => k_is)
    (case z_isinstance => k_is)
    (case z_len => k_is)
    (case z_list => k_is)
    (case z_min => k_is)
    (case z_range => k_is)
    (case z_set => k_is)
    (case z_sorted => k_is)
    (case z_tuple => k_is)
    (case z_zip => k_is)
