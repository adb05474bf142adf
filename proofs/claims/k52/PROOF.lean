import PyProof.Rows.All
import Wide.All
import OpenK.AllK
import Wide.FinOn
import HandS.ForMost
import HandS.Walk
import HandS.IsInst
import HandS.Wide
import HandS.EndBits
import KE.GoesNew
import KE.GoesMore
import HandS.Defaults
import HandS.MakeKwOnly
import HandS.Codes
import HandS.Gcd
import HandS.Star
import HandS.Deep
import HandS.TupMul
import HandS.TupAny
import HandS.Style
import HandS.TupSets
import HandS.Strs
import KE.GoesEnum
import HandS.RevRange
import HandS.WideBits
import PySem.Challenge.RW_calledseats_k52_two_targets_on_large_rin
set_option Elab.async false
set_option linter.all false
set_option maxRecDepth 100000
set_option maxHeartbeats 4000000
namespace Cs
open PySem PySem.Spec PyProof.Rows L2

/-! ### a list or a tuple -/
def Sqk (K : PySem.W.Frag) (k : Bool) (H : Hp) (a : Addr) (xs : List V) : Prop := match k with
  | true => SqL K H a xs
  | false => SqT K H a xs
def SeqK (k : Bool) (h : Heap) (a : Addr) (its : Array Value) : Prop := match k with
  | true => h.IsList a its
  | false => h.IsTuple a its
def ItK (k : Bool) (h : Heap) (it a : Addr) (i : Nat) : Prop := match k with
  | true => h.IsListIter it a i
  | false => h.IsTupleIter it a i
def itO (k : Bool) (a : Addr) : Obj := match k with
  | true => { cls := .type "list_iterator", data := .fields #[.ref a, .int 0 0] }
  | false => { cls := .type "tuple_iterator", data := .fields #[.ref a, .int 0 0] }
theorem ItK.at {k : Bool} {h h' : Heap} {it a : Addr} {i : Nat} (x : ItK k h it a i) (q : ∀ o, h.get? it = some o → h'.get? it = some o) : ItK k h' it a i := by
  cases k with
  | true => exact PySem.Heap.IsListIter.at x q
  | false => exact PySem.Heap.IsTupleIter.at x q
theorem ItK.obj {k : Bool} {h : Heap} {it a : Addr} {i : Nat} (x : ItK k h it a i) : ∃ o, h.get? it = some o ∧ ∀ v, o.data ≠ .cell v := by
  cases k with
  | true => obtain ⟨o, e, _, d⟩ := x; exact ⟨o, e, fun v q => by rw [d] at q; cases q⟩
  | false => obtain ⟨o, e, _, d⟩ := x; exact ⟨o, e, fun v q => by rw [d] at q; cases q⟩
theorem ItK.new {k : Bool} {h : Heap} {it a : Addr} (e : h.get? it = some (itO k a)) : ItK k h it a 0 := by
  cases k with
  | true => exact ⟨_, e, rfl, rfl⟩
  | false => exact ⟨_, e, rfl, rfl⟩
theorem drawsK {prog : Program} {w : World} {A : Around} (hh : A.handled = none) (k : Bool) (it l : Addr) (hne : l ≠ it) (items : Array Value) :
    Draws prog w A it [it, l] items.size (fun i v => items[i]? = some v) (fun i h => ItK k h it l i ∧ SeqK k h l items) := by
  cases k with
  | true => exact Draws.list hh it l hne items
  | false => exact Draws.tuple hh it l hne items
theorem begK (k : Bool) (a : Addr) (its : Array Value) : Begins (.ref a) (itO k a) fun h => SeqK k h a its := by
  cases k with
  | true => exact begins_list a its
  | false => exact begins_tuple a its
section
variable {X : Cx} {pins : List (Addr × Obj)} {σ : L2.St} {H : Hp} {s : Shared} {k : Bool} {a : Addr} {xs ys : List V}
theorem invK (I : Inv X pins σ H s) (h : Sqk X.K k H a xs) : ∃ its : List Value, Vals xs its ∧ SeqK k s.heap a its.toArray := by
  cases k with
  | true => obtain ⟨its, rv, p, _⟩ := I.list h; exact ⟨its, rv, p.isList⟩
  | false => obtain ⟨its, rv, p, _⟩ := I.tuple h; exact ⟨its, rv, p⟩
theorem injK (I : Inv X pins σ H s) (h : Sqk X.K k H a xs) (h' : Sqk X.K k H a ys) : xs = ys := by
  cases k with
  | true => exact I.list_inj h h'
  | false => exact I.tuple_inj h h'
theorem SeqK.lt {h : Heap} {its : Array Value} (x : SeqK k h a its) : a < h.objs.size := by
  cases k with
  | true => obtain ⟨o, e, _⟩ := x; exact Heap.lt_size e
  | false => obtain ⟨o, e, _⟩ := x; exact Heap.lt_size e
end
theorem Sqk.same {K : PySem.W.Frag} {k : Bool} {H H' : Hp} {a : Addr} {xs : List V} (e : Same H H') (h : Sqk K k H a xs) : Sqk K k H' a xs := by
  cases k with
  | true => exact e.seq h
  | false =>
    rcases h with (h | ⟨o, h⟩) | h
    · exact .inl (.inl (e _ _ h))
    · exact .inl (.inr ⟨o, e _ _ h⟩)
    · exact .inr h

/-! ### for a, b in zip(x, y), x and y lists or tuples -/
def Iz2 (K : PySem.W.Frag) (k1 k2 : Bool) (a b : Addr) : It :=
  ⟨fun i H => ∃ (xs ys : List V) (x y : V), Sqk K k1 H a xs ∧ Sqk K k2 H b ys ∧ xs[i]? = some x ∧ ys[i]? = some y,
    fun i H v H' => ∃ T x y, v = .ref T ∧ H T = none ∧ H' = upd H T (.tup [x, y]) ∧ (∀ xs, Sqk K k1 H a xs → xs[i]? = some x) ∧ ∀ ys, Sqk K k2 H b ys → ys[i]? = some y,
    fun i H => ∃ xs ys : List V, Sqk K k1 H a xs ∧ Sqk K k2 H b ys ∧ xs.length = ys.length ∧ xs.length = i⟩
def Iz3 (K : PySem.W.Frag) (k1 k2 k3 : Bool) (a b c : Addr) : It :=
  ⟨fun i H => ∃ (xs ys zs : List V) (x y z : V), Sqk K k1 H a xs ∧ Sqk K k2 H b ys ∧ Sqk K k3 H c zs ∧ xs[i]? = some x ∧ ys[i]? = some y ∧ zs[i]? = some z,
    fun i H v H' => ∃ T x y z, v = .ref T ∧ H T = none ∧ H' = upd H T (.tup [x, y, z]) ∧ (∀ xs, Sqk K k1 H a xs → xs[i]? = some x) ∧ (∀ ys, Sqk K k2 H b ys → ys[i]? = some y) ∧ ∀ zs, Sqk K k3 H c zs → zs[i]? = some z,
    fun i H => ∃ xs ys zs : List V, Sqk K k1 H a xs ∧ Sqk K k2 H b ys ∧ Sqk K k3 H c zs ∧ xs.length = ys.length ∧ ys.length = zs.length ∧ xs.length = i⟩

theorem turn_z2 {P : Program} {w : World} {K : PySem.W.Frag} {elts : List Expr} {kk : Nat} {tpos : Pos} {k1 k2 : Bool} {a b z TI TO i1 i2 : Addr} (S : ZipSep2 z TI TO i1 i2 [i1, a] [i2, b]) (n1 : a ≠ i1) (n2 : b ≠ i2) :
    Turn P w K (.Tuple elts kk tpos) (Iz2 K k1 k2 a b) [z, TI, TO, i1, i2] z (fun i h => IsZip h z TI TO .none ∧ IsTupOf2 h TI (.ref i1) (.ref i2) ∧ (∃ x y, IsTupOf2 h TO x y) ∧ ItK k1 h i1 a i ∧ ItK k2 h i2 b i) where
  mem := by simp
  obj := fun i h st c hc => by
    obtain ⟨hz, hTI, ⟨x, y, hTO⟩, h1, h2⟩ := st
    have e' : c = z ∨ c = TI ∨ c = TO ∨ c = i1 ∨ c = i2 := by simpa using hc
    rcases e' with q | q | q | q | q
    · rw [q]; exact ⟨_, hz, fun v q => nomatch q⟩
    · rw [q]; exact ⟨_, hTI, fun v q => nomatch q⟩
    · rw [q]; exact ⟨_, hTO, fun v q => nomatch q⟩
    · rw [q]; exact h1.obj
    · rw [q]; exact h2.obj
  keep := fun i h h' st k => by
    obtain ⟨hz, hTI, ⟨x, y, hTO⟩, h1, h2⟩ := st
    exact ⟨k z (by simp) _ hz, k TI (by simp) _ hTI, ⟨x, y, k TO (by simp) _ hTO⟩, h1.at fun o q => k i1 (by simp) o q, h2.at fun o q => k i2 (by simp) o q⟩
  item := by
    intro X hP hw hK hc i pins s σ H E I hf st hg
    subst hP hw hK
    obtain ⟨xs, ys, x, y, hqx, hqy, hx, hy⟩ := hg
    obtain ⟨its, rv, p⟩ := invK I hqx
    obtain ⟨its2, rv2, p2⟩ := invK I hqy
    obtain ⟨u, hu, ru⟩ := rv.get hx
    obtain ⟨u2, hu2, ru2⟩ := rv2.get hy
    have hh : X.A.handled = none := I.ok.hd hc
    have D1 := drawsK (prog := X.prog) (w := X.w) (A := X.A.in1) hh k1 i1 a n1 its.toArray
    have D2 := drawsK (prog := X.prog) (w := X.w) (A := X.A.in1) hh k2 i2 b n2 its2.toArray
    have l1 : i < its.length := (List.getElem?_eq_some_iff.mp hu).1
    have l2 : i < its2.length := (List.getElem?_eq_some_iff.mp hu2).1
    have W := GoesN.zip2 (elts := elts) (x1 := kk) (pos := tpos) S D1 D2
    refine W.goes i s (fun v s2 => ∃ x H', Inv X pins σ H' s2 ∧ RelV x v ∧ (Iz2 X.K k1 k2 a b).yld i H x H' ∧ (IsZip s2.heap z TI TO .none ∧ IsTupOf2 s2.heap TI (.ref i1) (.ref i2) ∧ (∃ x y, IsTupOf2 s2.heap TO x y) ∧ ItK k1 s2.heap i1 a (i + 1) ∧ ItK k2 s2.heap i2 b (i + 1)) ∧ ∀ b ∈ [z, TI, TO, i1, i2], H' b = none) E (by simp only [List.size_toArray]; omega) ⟨st.1, st.2.1, st.2.2.1, ⟨st.2.2.2.1, p⟩, st.2.2.2.2, p2⟩ fun v h' tk hY st' hk htk => ?_
    obtain ⟨T, v1, v2, rfl, hT, e1, e2, hTu⟩ := hY
    have q1 : v1 = u := by
      have e1' : its[i]? = some v1 := by simpa using e1
      rw [hu] at e1'; exact (Option.some.inj e1').symm
    have q2 : v2 = u2 := by
      have e2' : its2[i]? = some v2 := by simpa using e2
      rw [hu2] at e2'; exact (Option.some.inj e2').symm
    subst q1 q2
    have new : ObjOk X.prog X.w (upd H T (.tup [x, y])) h' T (.tup [x, y]) :=
      ⟨by show 2 ≤ sizeLine; decide, [v1, v2], .cons ru (.cons ru2 .nil), hTu⟩
    have I1 : Inv X pins σ (upd H T (.tup [x, y])) { s with heap := h', toks := tk } :=
      I.turnedNew (t' := tk) (ch := [z, TI, TO, i1, i2]) (fun c o hb q => hk c o (fun hm => hb (by
        simp only [List.mem_cons, List.mem_nil_iff, or_false] at hm ⊢
        rcases hm with q | q | q | q <;> simp [q])) q) hf hT new
    refine ⟨.ref T, _, I1, rfl, ⟨T, x, y, rfl, I.hok.fresh hT, rfl, fun l hl => by rw [injK I hl hqx]; exact hx, fun l hl => by rw [injK I hl hqy]; exact hy⟩, ⟨st'.1, st'.2.1, st'.2.2.1, st'.2.2.2.1.1, st'.2.2.2.2.1⟩, fun c hcm => ?_⟩
    have hlt : c < s.heap.objs.size := by
      obtain ⟨hz, hTI, ⟨x0, y0, hTO⟩, h1, h2⟩ := st
      have e' : c = z ∨ c = TI ∨ c = TO ∨ c = i1 ∨ c = i2 := by simpa using hcm
      rcases e' with q | q | q | q | q
      · rw [q]; exact Heap.lt_size hz
      · rw [q]; exact Heap.lt_size hTI
      · rw [q]; exact Heap.lt_size hTO
      · rw [q]; obtain ⟨_, e1, _⟩ := h1.obj; exact Heap.lt_size e1
      · rw [q]; obtain ⟨_, e2, _⟩ := h2.obj; exact Heap.lt_size e2
    rw [upd_ne (Nat.ne_of_lt (Nat.lt_of_lt_of_le hlt hT))]
    exact (hf c hcm).1
  done := by
    intro X hP hw hK hc i pins s σ H E I hf st hg
    subst hP hw hK
    obtain ⟨xs, ys, hqx, hqy, hl, hi⟩ := hg
    obtain ⟨its, rv, p⟩ := invK I hqx
    obtain ⟨its2, rv2, p2⟩ := invK I hqy
    have hh : X.A.handled = none := I.ok.hd hc
    have D1 := drawsK (prog := X.prog) (w := X.w) (A := X.A.in1) hh k1 i1 a n1 its.toArray
    have D2 := drawsK (prog := X.prog) (w := X.w) (A := X.A.in1) hh k2 i2 b n2 its2.toArray
    have W := GoesN.zip2 (elts := elts) (x1 := kk) (pos := tpos) S D1 D2
    have l1 := rv.length
    have l2 := rv2.length
    have en : min its.toArray.size its2.toArray.size = i := by simp only [List.size_toArray]; omega
    have st2 : (IsZip s.heap z TI TO .none ∧ IsTupOf2 s.heap TI (.ref i1) (.ref i2) ∧ (∃ a1 a2, IsTupOf2 s.heap TO a1 a2) ∧ (ItK k1 s.heap i1 a (min its.toArray.size its2.toArray.size) ∧ SeqK k1 s.heap a its.toArray) ∧ ItK k2 s.heap i2 b (min its.toArray.size its2.toArray.size) ∧ SeqK k2 s.heap b its2.toArray) := by
      rw [en]
      exact ⟨st.1, st.2.1, st.2.2.1, ⟨st.2.2.2.1, p⟩, st.2.2.2.2, p2⟩
    refine W.stops s (fun s1 => Inv X pins σ H s1) E st2 fun h' tk hk htk => ?_
    exact I.turnedL (t' := tk) (ch := [z, TI, TO, i1, i2]) (fun c o hb q => hk c o (fun hm => hb (by
        simp only [List.mem_cons, List.mem_nil_iff, or_false] at hm ⊢
        rcases hm with q | q | q | q <;> simp [q])) q) hf
  self := fun A i s Q E st h => wpAny_pyIter_zip st.1 h

theorem turn_z3 {P : Program} {w : World} {K : PySem.W.Frag} {elts : List Expr} {kk : Nat} {tpos : Pos} {k1 k2 k3 : Bool} {a b c z TI TO i1 i2 i3 : Addr} (S : ZipSep3 z TI TO i1 i2 i3 [i1, a] [i2, b] [i3, c]) (n1 : a ≠ i1) (n2 : b ≠ i2) (n3 : c ≠ i3) :
    Turn P w K (.Tuple elts kk tpos) (Iz3 K k1 k2 k3 a b c) [z, TI, TO, i1, i2, i3] z (fun i h => IsZip h z TI TO .none ∧ IsTupOf3 h TI (.ref i1) (.ref i2) (.ref i3) ∧ (∃ x y v, IsTupOf3 h TO x y v) ∧ ItK k1 h i1 a i ∧ ItK k2 h i2 b i ∧ ItK k3 h i3 c i) where
  mem := by simp
  obj := fun i h st c hc => by
    obtain ⟨hz, hTI, ⟨x, y, v, hTO⟩, h1, h2, h3⟩ := st
    have e' : c = z ∨ c = TI ∨ c = TO ∨ c = i1 ∨ c = i2 ∨ c = i3 := by simpa using hc
    rcases e' with q | q | q | q | q | q
    · rw [q]; exact ⟨_, hz, fun v q => nomatch q⟩
    · rw [q]; exact ⟨_, hTI, fun v q => nomatch q⟩
    · rw [q]; exact ⟨_, hTO, fun v q => nomatch q⟩
    · rw [q]; exact h1.obj
    · rw [q]; exact h2.obj
    · rw [q]; exact h3.obj
  keep := fun i h h' st k => by
    obtain ⟨hz, hTI, ⟨x, y, v, hTO⟩, h1, h2, h3⟩ := st
    exact ⟨k z (by simp) _ hz, k TI (by simp) _ hTI, ⟨x, y, v, k TO (by simp) _ hTO⟩, h1.at fun o q => k i1 (by simp) o q, h2.at fun o q => k i2 (by simp) o q, h3.at fun o q => k i3 (by simp) o q⟩
  item := by
    intro X hP hw hK hc i pins s σ H E I hf st hg
    subst hP hw hK
    obtain ⟨xs, ys, zs, x, y, v, hqx, hqy, hqz, hx, hy, hz⟩ := hg
    obtain ⟨its, rv, p⟩ := invK I hqx
    obtain ⟨its2, rv2, p2⟩ := invK I hqy
    obtain ⟨its3, rv3, p3⟩ := invK I hqz
    obtain ⟨u, hu, ru⟩ := rv.get hx
    obtain ⟨u2, hu2, ru2⟩ := rv2.get hy
    obtain ⟨u3, hu3, ru3⟩ := rv3.get hz
    have hh : X.A.handled = none := I.ok.hd hc
    have D1 := drawsK (prog := X.prog) (w := X.w) (A := X.A.in1) hh k1 i1 a n1 its.toArray
    have D2 := drawsK (prog := X.prog) (w := X.w) (A := X.A.in1) hh k2 i2 b n2 its2.toArray
    have D3 := drawsK (prog := X.prog) (w := X.w) (A := X.A.in1) hh k3 i3 c n3 its3.toArray
    have l1 : i < its.length := (List.getElem?_eq_some_iff.mp hu).1
    have l2 : i < its2.length := (List.getElem?_eq_some_iff.mp hu2).1
    have l3 : i < its3.length := (List.getElem?_eq_some_iff.mp hu3).1
    have W := GoesN.zip3 (elts := elts) (x1 := kk) (pos := tpos) S D1 D2 D3
    refine W.goes i s (fun v s2 => ∃ x H', Inv X pins σ H' s2 ∧ RelV x v ∧ (Iz3 X.K k1 k2 k3 a b c).yld i H x H' ∧ (IsZip s2.heap z TI TO .none ∧ IsTupOf3 s2.heap TI (.ref i1) (.ref i2) (.ref i3) ∧ (∃ x y v, IsTupOf3 s2.heap TO x y v) ∧ ItK k1 s2.heap i1 a (i + 1) ∧ ItK k2 s2.heap i2 b (i + 1) ∧ ItK k3 s2.heap i3 c (i + 1)) ∧ ∀ b ∈ [z, TI, TO, i1, i2, i3], H' b = none) E (by simp only [List.size_toArray]; omega) ⟨st.1, st.2.1, st.2.2.1, ⟨st.2.2.2.1, p⟩, ⟨st.2.2.2.2.1, p2⟩, st.2.2.2.2.2, p3⟩ fun v h' tk hY st' hk htk => ?_
    obtain ⟨T, v1, v2, v3, rfl, hT, e1, e2, e3, hTu⟩ := hY
    have q1 : v1 = u := by
      have e1' : its[i]? = some v1 := by simpa using e1
      rw [hu] at e1'; exact (Option.some.inj e1').symm
    have q2 : v2 = u2 := by
      have e2' : its2[i]? = some v2 := by simpa using e2
      rw [hu2] at e2'; exact (Option.some.inj e2').symm
    have q3 : v3 = u3 := by
      have e3' : its3[i]? = some v3 := by simpa using e3
      rw [hu3] at e3'; exact (Option.some.inj e3').symm
    subst q1 q2 q3
    have new : ObjOk X.prog X.w (upd H T (.tup [x, y, v])) h' T (.tup [x, y, v]) :=
      ⟨by show 3 ≤ sizeLine; decide, [v1, v2, v3], .cons ru (.cons ru2 (.cons ru3 .nil)), hTu⟩
    have I1 : Inv X pins σ (upd H T (.tup [x, y, v])) { s with heap := h', toks := tk } :=
      I.turnedNew (t' := tk) (ch := [z, TI, TO, i1, i2, i3]) (fun c o hb q => hk c o (fun hm => hb (by
        simp only [List.mem_cons, List.mem_nil_iff, or_false] at hm ⊢
        rcases hm with q | q | q | q | q <;> simp [q])) q) hf hT new
    refine ⟨.ref T, _, I1, rfl, ⟨T, x, y, v, rfl, I.hok.fresh hT, rfl, fun l hl => by rw [injK I hl hqx]; exact hx, fun l hl => by rw [injK I hl hqy]; exact hy, fun l hl => by rw [injK I hl hqz]; exact hz⟩, ⟨st'.1, st'.2.1, st'.2.2.1, st'.2.2.2.1.1, st'.2.2.2.2.1.1, st'.2.2.2.2.2.1⟩, fun c hcm => ?_⟩
    have hlt : c < s.heap.objs.size := by
      obtain ⟨hz, hTI, ⟨x0, y0, v0, hTO⟩, h1, h2, h3⟩ := st
      have e' : c = z ∨ c = TI ∨ c = TO ∨ c = i1 ∨ c = i2 ∨ c = i3 := by simpa using hcm
      rcases e' with q | q | q | q | q | q
      · rw [q]; exact Heap.lt_size hz
      · rw [q]; exact Heap.lt_size hTI
      · rw [q]; exact Heap.lt_size hTO
      · rw [q]; obtain ⟨_, e1, _⟩ := h1.obj; exact Heap.lt_size e1
      · rw [q]; obtain ⟨_, e2, _⟩ := h2.obj; exact Heap.lt_size e2
      · rw [q]; obtain ⟨_, e2, _⟩ := h3.obj; exact Heap.lt_size e2
    rw [upd_ne (Nat.ne_of_lt (Nat.lt_of_lt_of_le hlt hT))]
    exact (hf c hcm).1
  done := by
    intro X hP hw hK hc i pins s σ H E I hf st hg
    subst hP hw hK
    obtain ⟨xs, ys, zs, hqx, hqy, hqz, hl, hl2, hi⟩ := hg
    obtain ⟨its, rv, p⟩ := invK I hqx
    obtain ⟨its2, rv2, p2⟩ := invK I hqy
    obtain ⟨its3, rv3, p3⟩ := invK I hqz
    have hh : X.A.handled = none := I.ok.hd hc
    have D1 := drawsK (prog := X.prog) (w := X.w) (A := X.A.in1) hh k1 i1 a n1 its.toArray
    have D2 := drawsK (prog := X.prog) (w := X.w) (A := X.A.in1) hh k2 i2 b n2 its2.toArray
    have D3 := drawsK (prog := X.prog) (w := X.w) (A := X.A.in1) hh k3 i3 c n3 its3.toArray
    have W := GoesN.zip3 (elts := elts) (x1 := kk) (pos := tpos) S D1 D2 D3
    have l1 := rv.length
    have l2 := rv2.length
    have l3 := rv3.length
    have en : min (min its.toArray.size its2.toArray.size) its3.toArray.size = i := by simp only [List.size_toArray]; omega
    have st2 : (fun i h => IsZip h z TI TO .none ∧ IsTupOf3 h TI (.ref i1) (.ref i2) (.ref i3) ∧ (∃ a1 a2 a3, IsTupOf3 h TO a1 a2 a3) ∧ (ItK k1 h i1 a i ∧ SeqK k1 h a its.toArray) ∧ (ItK k2 h i2 b i ∧ SeqK k2 h b its2.toArray) ∧ ItK k3 h i3 c i ∧ SeqK k3 h c its3.toArray) (min (min its.toArray.size its2.toArray.size) its3.toArray.size) s.heap := by
      rw [en]
      exact ⟨st.1, st.2.1, st.2.2.1, ⟨st.2.2.2.1, p⟩, ⟨st.2.2.2.2.1, p2⟩, st.2.2.2.2.2, p3⟩
    refine W.stops s (fun s1 => Inv X pins σ H s1) E st2 fun h' tk hk htk => ?_
    exact I.turnedL (t' := tk) (ch := [z, TI, TO, i1, i2, i3]) (fun c o hb q => hk c o (fun hm => hb (by
        simp only [List.mem_cons, List.mem_nil_iff, or_false] at hm ⊢
        rcases hm with q | q | q | q | q <;> simp [q])) q) hf
  self := fun A i s Q E st h => wpAny_pyIter_zip st.1 h

/-! ### the walks -/
def iSeq (K : PySem.W.Frag) (tl : TE) : TI := fun σ H R => tl σ H fun x H1 => ∃ (k : Bool) (a : Addr) (xs : List V), x = .ref a ∧ Sqk K k H1 a xs ∧ R (match k with | true => Itl K a | false => Itt K a) H1
theorem pi_seq {X : Cx} {tg l : Expr} {tl : TE} (hl : PE X l tl) : PI X tg l (iSeq X.K tl) := by
  refine ⟨fun pins s σ H R I h => ?_⟩
  refine thn (hl.run pins s σ H _ I h) fun v s1 ⟨x, H1, I1, r1, q1⟩ => ?_
  obtain ⟨k, a, xs, e, hq, q⟩ := q1
  subst e
  cases r1
  cases k with
  | true =>
    obtain ⟨its, rv, p, hz⟩ := I1.list hq
    refine wpAny_pyIter_list p.isList ?_
    refine ⟨s1.heap.objs.size, [s1.heap.objs.size], _, _, H1, rfl, I1.kept (t' := s1.toks) fun b o e => Heap.get?_push_of_some _ e, turn_list a _, ⟨_, Heap.get?_push_size _ rfl, rfl, rfl⟩, fun b hb => ?_, q⟩
    have e : b = s1.heap.objs.size := by simpa using hb
    subst e
    exact I1.fpOk (Nat.le_refl _) (I1.hok.fresh (Nat.le_refl _))
  | false =>
    obtain ⟨its, rv, p, hz⟩ := I1.tuple hq
    refine wpAny_pyIter_tuple (show s1.heap.IsTuple a its.toArray from p) ?_
    refine ⟨s1.heap.objs.size, [s1.heap.objs.size], _, _, H1, rfl, I1.kept (t' := s1.toks) fun b o e => Heap.get?_push_of_some _ e, turn_tuple a _, ⟨_, Heap.get?_push_size _ rfl, rfl, rfl⟩, fun b hb => ?_, q⟩
    have e : b = s1.heap.objs.size := by simpa using hb
    subst e
    exact I1.fpOk (Nat.le_refl _) (I1.hok.fresh (Nat.le_refl _))
theorem walk_seq {K : PySem.W.Frag} {k : Bool} {a : Addr} {xs : List V} : Walk (match k with | true => Itl K a | false => Itt K a) xs.length (fun H => Sqk K k H a xs) (YAt xs) := by
  cases k with
  | true => exact walk_list
  | false => exact walk_tup
def iZ2 (K : PySem.W.Frag) (ta : TA) : TI := fun σ H R => ta σ H fun vs H1 => ∃ (k1 k2 : Bool) (a b : Addr) (xs ys : List V), vs = [.ref a, .ref b] ∧ Sqk K k1 H1 a xs ∧ Sqk K k2 H1 b ys ∧ R (Iz2 K k1 k2 a b) H1
def iZ3 (K : PySem.W.Frag) (ta : TA) : TI := fun σ H R => ta σ H fun vs H1 => ∃ (k1 k2 k3 : Bool) (a b c : Addr) (xs ys zs : List V), vs = [.ref a, .ref b, .ref c] ∧ Sqk K k1 H1 a xs ∧ Sqk K k2 H1 b ys ∧ Sqk K k3 H1 c zs ∧ R (Iz3 K k1 k2 k3 a b c) H1
theorem pi_z2 {X : Cx} {e e2 : Expr} {ta : TA} {p pos tpos : Pos} {elts : List Expr} {kk : Nat} (hg : Gl X "zip") (hm : X.mg "zip" = none) (ha : PA X [e, e2] ta)
    (hs : starEach [e, e2] X.env = (false, eval e X.env) :: starEach [e2] X.env := by rfl) (hpl : (backTo pos (starEach [e2] X.env)).any (·.1) = false := by rfl) :
    PI X (.Tuple elts kk tpos) (.Call (.Name "zip" p) [e, e2] [] pos) (iZ2 X.K ta) := by
  refine ⟨fun pins s σ H R I h => ?_⟩
  refine Call_ (ld_blt I hg hm PyProof.Rows.boot_zip (PyProof.Rows.callWith_type1 (thn (ha.run pos pins s σ H _ I h) fun us s1 ⟨vs, H1, I1, r1, q1⟩ => ?_) hs hpl))
  obtain ⟨k1, k2, a, b, xs, ys, ex, hqx, hqy, q⟩ := q1
  subst ex
  cases r1 with
  | cons r rr =>
    cases rr with
    | cons r' rr =>
      cases rr
      cases r
      cases r'
      obtain ⟨its, rv, p1⟩ := invK I1 hqx
      obtain ⟨its2, rv2, p2⟩ := invK I1 hqy
      have la : a < s1.heap.objs.size := p1.lt
      have lb : b < s1.heap.objs.size := p2.lt
      refine zip_begins2 (begK k1 a its.toArray) (begK k2 b its2.toArray) p1 p2 fun h' hz hTI hTO h1 h2 hsz hk => wpAny_pyIter_zip hz ?_
      have I2 : Inv X pins σ H1 { s1 with heap := h' } := I1.kept (t' := s1.toks) hk
      refine ⟨s1.heap.objs.size + 4, [s1.heap.objs.size + 4, s1.heap.objs.size + 2, s1.heap.objs.size + 3, s1.heap.objs.size, s1.heap.objs.size + 1], _, _, H1, rfl, I2, turn_z2 (zip_sep2 (fun b hb => by simp at hb; rw [hb]; exact la) (fun b hb => by simp at hb; rw [hb]; exact lb)) (Nat.ne_of_lt la) (Nat.ne_of_lt (Nat.lt_succ_of_lt lb)), ⟨hz, hTI, ⟨_, _, hTO⟩, ItK.new h1, ItK.new h2⟩, fun c hcm => ?_, q⟩
      have e' : c = s1.heap.objs.size + 4 ∨ c = s1.heap.objs.size + 2 ∨ c = s1.heap.objs.size + 3 ∨ c = s1.heap.objs.size ∨ c = s1.heap.objs.size + 1 := by simpa using hcm
      have hle : s1.heap.objs.size ≤ c := by
        rcases e' with z | z | z | z | z
        · rw [z]; exact Nat.le_add_right _ _
        · rw [z]; exact Nat.le_add_right _ _
        · rw [z]; exact Nat.le_add_right _ _
        · rw [z]; exact Nat.le_refl _
        · rw [z]; exact Nat.le_add_right _ _
      exact I1.fpOk hle (I1.hok.fresh hle)
theorem pi_z3 {X : Cx} {e e2 e3 : Expr} {ta : TA} {p pos tpos : Pos} {elts : List Expr} {kk : Nat} (hg : Gl X "zip") (hm : X.mg "zip" = none) (ha : PA X [e, e2, e3] ta)
    (hs : starEach [e, e2, e3] X.env = (false, eval e X.env) :: starEach [e2, e3] X.env := by rfl) (hpl : (backTo pos (starEach [e2, e3] X.env)).any (·.1) = false := by rfl) :
    PI X (.Tuple elts kk tpos) (.Call (.Name "zip" p) [e, e2, e3] [] pos) (iZ3 X.K ta) := by
  refine ⟨fun pins s σ H R I h => ?_⟩
  refine Call_ (ld_blt I hg hm PyProof.Rows.boot_zip (PyProof.Rows.callWith_type1 (thn (ha.run pos pins s σ H _ I h) fun us s1 ⟨vs, H1, I1, r1, q1⟩ => ?_) hs hpl))
  obtain ⟨k1, k2, k3, a, b, c, xs, ys, zs, ex, hqx, hqy, hqz, q⟩ := q1
  subst ex
  cases r1 with
  | cons r rr =>
    cases rr with
    | cons r' rr =>
      cases rr with
      | cons r'' rr =>
        cases rr
        cases r
        cases r'
        cases r''
        obtain ⟨its, rv, p1⟩ := invK I1 hqx
        obtain ⟨its2, rv2, p2⟩ := invK I1 hqy
        obtain ⟨its3, rv3, p3⟩ := invK I1 hqz
        have la : a < s1.heap.objs.size := p1.lt
        have lb : b < s1.heap.objs.size := p2.lt
        have lc : c < s1.heap.objs.size := p3.lt
        refine zip_begins3 (begK k1 a its.toArray) (begK k2 b its2.toArray) (begK k3 c its3.toArray) p1 p2 p3 fun h' hz hTI hTO h1 h2 h3 hsz hk => wpAny_pyIter_zip hz ?_
        have I2 : Inv X pins σ H1 { s1 with heap := h' } := I1.kept (t' := s1.toks) hk
        refine ⟨s1.heap.objs.size + 5, [s1.heap.objs.size + 5, s1.heap.objs.size + 3, s1.heap.objs.size + 4, s1.heap.objs.size, s1.heap.objs.size + 1, s1.heap.objs.size + 2], _, _, H1, rfl, I2, turn_z3 (zip_sep3 (fun b hb => by simp at hb; rw [hb]; exact la) (fun b hb => by simp at hb; rw [hb]; exact lb) (fun b hb => by simp at hb; rw [hb]; exact lc)) (Nat.ne_of_lt la) (Nat.ne_of_lt (Nat.lt_succ_of_lt lb)) (Nat.ne_of_lt (Nat.lt_succ_of_lt (Nat.lt_succ_of_lt lc))), ⟨hz, hTI, ⟨_, _, _, hTO⟩, ItK.new h1, ItK.new h2, ItK.new h3⟩, fun c hcm => ?_, q⟩
        have e' : c = s1.heap.objs.size + 5 ∨ c = s1.heap.objs.size + 3 ∨ c = s1.heap.objs.size + 4 ∨ c = s1.heap.objs.size ∨ c = s1.heap.objs.size + 1 ∨ c = s1.heap.objs.size + 2 := by simpa using hcm
        have hle : s1.heap.objs.size ≤ c := by
          rcases e' with z | z | z | z | z | z
          · rw [z]; exact Nat.le_add_right _ _
          · rw [z]; exact Nat.le_add_right _ _
          · rw [z]; exact Nat.le_add_right _ _
          · rw [z]; exact Nat.le_refl _
          · rw [z]; exact Nat.le_add_right _ _
          · rw [z]; exact Nat.le_add_right _ _
        exact I1.fpOk hle (I1.hok.fresh hle)
/-- a new triple -/
def YTrip (xs ys zs : Nat → Option V) : Nat → Hp → V → Hp → Prop := fun i H v H' => ∃ T x y z, v = .ref T ∧ H T = none ∧ H' = upd H T (.tup [x, y, z]) ∧ xs i = some x ∧ ys i = some y ∧ zs i = some z
section
variable {K : PySem.W.Frag} {k1 k2 k3 : Bool} {a b c : Addr} {xs ys zs : List V}
theorem walk_z2 (hl : xs.length = ys.length) : Walk (Iz2 K k1 k2 a b) xs.length (fun H => Sqk K k1 H a xs ∧ Sqk K k2 H b ys) (YPair (fun i => xs[i]?) (fun i => ys[i]?)) := by
  refine ⟨fun i _ hi q => ?_, fun _ q => ⟨xs, ys, q.1, q.2, hl, rfl⟩, fun i H v H' _ q y => ?_⟩
  · have h2 : i < ys.length := by omega
    exact ⟨xs, ys, xs[i], ys[i], q.1, q.2, by simp [hi], by simp [h2]⟩
  · obtain ⟨T, x, z, h1, h2, h3, h4, h5⟩ := y
    exact ⟨T, x, z, h1, h2, h3, h4 xs q.1, h5 ys q.2⟩
theorem walk_z3 (hl : xs.length = ys.length) (hl2 : ys.length = zs.length) : Walk (Iz3 K k1 k2 k3 a b c) xs.length (fun H => Sqk K k1 H a xs ∧ Sqk K k2 H b ys ∧ Sqk K k3 H c zs) (YTrip (fun i => xs[i]?) (fun i => ys[i]?) (fun i => zs[i]?)) := by
  refine ⟨fun i _ hi q => ?_, fun _ q => ⟨xs, ys, zs, q.1, q.2.1, q.2.2, hl, hl2, rfl⟩, fun i H v H' _ q y => ?_⟩
  · have h2 : i < ys.length := by omega
    have h3 : i < zs.length := by omega
    exact ⟨xs, ys, zs, xs[i], ys[i], zs[i], q.1, q.2.1, q.2.2, by simp [hi], by simp [h2], by simp [h3]⟩
  · obtain ⟨T, x, z, v, h1, h2, h3, h4, h5, h6⟩ := y
    exact ⟨T, x, z, v, h1, h2, h3, h4 xs q.1, h5 ys q.2.1, h6 zs q.2.2⟩
end
end Cs

namespace Cs
open PySem PySem.Spec PyProof.Rows L2

/-! ### keywords -/
section
variable {X : Cx} {CX : CXT} {k n : Nat} {f C : Addr} {fd : FuncData} {ps ks : List Str} {sp : Sp} {E : XK} {x m : Str} {p pos apos : Pos} {e o : Expr} {es : List Expr} {kws : List Keyword} {ta : TE} {t tk : TA} {g : List Value → List Value → List Value} {gV : List V → List V → List V}
def tMethK (C : Addr) (m : Str) (n j : Nat) (sp : Sp) (gV : List V → List V → List V) (E : XK) (ta : TE) (t tk : TA) : TE := fun σ H Q => ta σ H fun x H1 => ∃ a dx fs, x = .ref a ∧ H1 a = some (.ins C dx fs) ∧ fs.lookup m = none ∧
  t σ H1 fun vs H2 => tk σ H2 fun zs H3 => vs.length = n ∧ zs.length = j ∧ sp (gV (x :: vs) zs) H3 Q E
theorem pe_methK0 {pl : Sem Bool} (he : PE X o ta) (c : Cls X.K C) (hm : Meth X.K C m f) (F : FnOk X.prog X.w X.K X.mg X.base CX k f fd ps sp) (hr : Room k X.A) (hb : KBn X.K fd ps 1 ks g gV) (hx : Passes CX X E) (hkw : PK X kws tk)
    (hall : (backToKw pos (keywordEach kws X.env)).all (·.1.isSome) = true := by rfl) (hks : (backToKw pos (keywordEach kws X.env)).filterMap (·.1) = ks := by rfl)
    (hpl : ((backTo pos (starEach [] X.env)).any (·.1) || (backToKw pos (keywordEach kws X.env)).any (·.1.isNone)) = false := by rfl)
    (ht : eval (.Call (.Attribute o m apos) [] kws pos) X.env = (do
      let ov ← eval o X.env
      standAt apos.atName
      let (f, first) ← holding [ov] (getMethod ov m pl)
      callWith pos f first (backTo pos (starEach [] X.env)) (backToKw pos (keywordEach kws X.env))) := by rfl) :
    PE X (.Call (.Attribute o m apos) [] kws pos) (tMethK C m 0 ks.length sp gV E ta tNil tk) := by
  refine ⟨fun pins s σ H Q I h => ?_⟩
  refine PySem.W.methodCall_KW (pl := pl) (thn (he.run pins s σ H _ I h) fun u s1 ⟨x, H1, I1, rx, a, dx, fs, ex, ea, l, q⟩ => ?_) ht
  subst ex
  obtain rfl : u = Value.ref a := rx
  refine getmeth_ok I1 ea c hm l ?_
  refine PySem.W.callWith_KW0 (h₀ := X.base) (first := [.ref a]) I1.ok.mod.kin hm.kp hall ?_ hpl
  refine thn (hkw.run pos pins s1 σ H1 _ I1 q) fun ws s2 ⟨zs, H2, I2, rz, l1, l2, q2⟩ => ⟨I2.kIn, ?_⟩
  rw [hks]
  exact run_fnN (us := [.ref a]) (vs := [.ref a]) F hr hb hx I2 (.cons rfl .nil) rz rfl l2 q2
end

/-! ### list + list, the left one of any standing -/
theorem op_catS {X : Cx} : OpR X (binaryOp .Add) (fun x y H Q => ∃ l b xs zs, x = .ref l ∧ y = .ref b ∧ SqL X.K H l xs ∧ SqL X.K H b zs ∧ xs.length + zs.length ≤ sizeLine ∧ ∀ p, H p = none → Q (.ref p) (upd H p (.lst (xs ++ zs)))) := by
  intro pins s σ H x y v u Q I rx ry h
  obtain ⟨l, b, xs, zs, rfl, rfl, hH, hB, hz, q⟩ := h
  cases rx
  cases ry
  obtain ⟨its, r, p1, z⟩ := I.list hH
  obtain ⟨its2, r2, p2, z2⟩ := I.list hB
  have e1 := r.length
  have e2 := r2.length
  obtain ⟨⟨cls, dd, data, sl⟩, n, ho, hc, hs, hd⟩ := p1
  obtain ⟨⟨cls2, dd2, data2, sl2⟩, n2, ho2, hc2, hs2, hd2⟩ := p2
  simp only at hc hd hc2 hd2 hs hs2
  subst hc hd hc2 hd2 hs hs2
  have ea : its.toArray ++ its2.toArray = (its ++ its2).toArray := by simp
  refine concat_meets ⟨_, ho, rfl⟩ ⟨_, ho2, rfl⟩ noFill_list_add seq_list_add PySem.F.slot_list_add PySem.F.entry_list_add (PySem.F.args_list_add_2 _ _) (list_addW l b its.toArray its2.toArray n n2 none none sl sl2 (by simp only [List.size_toArray]; omega)) ⟨ho, ho2, ?_⟩
  rw [ea]
  exact ⟨.ref _, _, I.lnew (t' := s.toks) (r.append r2) (by rw [List.length_append]; omega), rfl, q _ I.fresh⟩

/-! ### heaps -/
theorem upd_old {H : Hp} {p q : Addr} {o : HO} (hp : H p = none) (hq : H q ≠ none) : upd H p o q = H q := upd_ne (fun e => hq (by rw [e]; exact hp))
/-- all that was tracked is as it was, but what stands at a -/
def Sx (a : Addr) (H H' : Hp) : Prop := ∀ b o, b ≠ a → H b = some o → H' b = some o
theorem Sx.refl {a : Addr} {H : Hp} : Sx a H H := fun _ _ _ h => h
theorem Sx.trans {a : Addr} {H H1 H2 : Hp} (x : Sx a H H1) (y : Sx a H1 H2) : Sx a H H2 := fun b o n h => y b o n (x b o n h)
theorem Sx.of {a : Addr} {H H' : Hp} (x : Same H H') : Sx a H H' := fun b o _ h => x b o h
theorem Sx.new {a p : Addr} {H : Hp} {o : HO} (hp : H p = none) : Sx a H (upd H p o) := fun b u _ h => by rw [upd_old hp (by rw [h]; simp)]; exact h
theorem Sx.put {a : Addr} {H : Hp} {o : HO} : Sx a H (upd H a o) := fun b u n h => by rw [upd_ne n]; exact h
theorem Same.new {p : Addr} {H : Hp} {o : HO} (hp : H p = none) : Same H (upd H p o) := fun b u h => by rw [upd_old hp (by rw [h]; simp)]; exact h
theorem Sx.same {a : Addr} {H H' : Hp} (x : Sx a H H') (h : H a = none) : Same H H' := fun b o e => x b o (fun z => by rw [z, h] at e; cases e) e
theorem ne_some {H : Hp} {p q : Addr} {o : HO} (hq : H q = some o) (hp : H p = none) : q ≠ p := fun e => by rw [e, hp] at hq; cases hq
theorem ne_two {H : Hp} {p q : Addr} {o u : HO} (hq : H q = some o) (hp : H p = some u) (d : o ≠ u) : q ≠ p := fun e => by rw [e, hp] at hq; exact d (Option.some.inj hq).symm

/-! ### comprehensions -/
section
variable {J : It} {n : Nat} {G : Hp → Prop} {Y : Nat → Hp → V → Hp → Prop}
/-- a comprehension without a test: Ia by the turn, what is made so far, and the heap; it does not look at the new list -/
theorem lc_gen (w : Walk J n G Y) {g : TG} {te : TE} {vs : List Nat} {σ : L2.St} {H1 : Hp} {D : Addr} {Qd : Hp → Prop} (Ia : Nat → List V → Hp → Prop) (hn : n ≤ sizeLine)
    (h0 : Ia 0 [] (upd H1 D (.lst []))) (hG : ∀ i acc H, i ≤ n → Ia i acc H → H D = some (.lst acc) → G H) (hst : ∀ i acc H l, Ia i acc H → H D ≠ none → Ia i acc (upd H D (.lst l)))
    (hs : ∀ i acc x H H' (Qy : VK), i < n → acc.length = i → Ia i acc H → H D = some (.lst acc) → Y i H x H' → (∀ y H4, H4 D = some (.lst acc) → Ia (i + 1) (acc ++ [y]) H4 → Qy y H4) → g x (wipe σ vs) H' fun σ2 H2 => wipe σ2 vs = wipe σ vs ∧ te σ2 H2 Qy)
    (hd : ∀ acc H, acc.length = n → Ia n acc H → H D = some (.lst acc) → Qd H) :
    ∃ W : Nat → Nat → Hp → Prop, (∃ m, W 0 m (upd H1 D (.lst []))) ∧ ∀ i m H, W i m H →
      (J.stop i H ∧ Qd H) ∨ (J.go i H ∧ ∃ Nx : Hp → Prop, (∀ H', Nx H' → ∃ m', m' < m ∧ W (i + 1) m' H') ∧ ∀ x H', J.yld i H x H' → g x (wipe σ vs) H' fun σ2 H2 => wipe σ2 vs = wipe σ vs ∧ tYes σ2 H2 fun b H3 =>
        if b = true then te σ2 H3 fun y H4 => ∃ acc, H4 D = some (.lst acc) ∧ acc.length < sizeLine ∧ Nx (upd H4 D (.lst (acc ++ [y]))) else Nx H3) := by
  refine lc_it w (fun i H => ∃ acc : List V, acc.length = i ∧ Ia i acc H ∧ H D = some (.lst acc)) ⟨[], rfl, h0, upd_same⟩ (fun i H hi ⟨acc, _, h, e⟩ => hG i acc H hi h e) (fun i x H H' hi ⟨acc, hl, h, e⟩ hy => ?_) (fun H ⟨acc, hl, h, e⟩ => hd acc H hl h e)
  refine hs i acc x H H' _ hi hl h e hy fun y H4 q1 q2 => ⟨acc, q1, by omega, acc ++ [y], by rw [List.length_append]; simp [hl], ?_, upd_same⟩
  exact hst _ _ _ _ q2 (by rw [q1]; simp)
/-- a comprehension that maps, and leaves all that was tracked as it was -/
theorem lc_map (w : Walk J n G Y) {g : TG} {te : TE} {vs : List Nat} {σ : L2.St} {H1 : Hp} {D : Addr} {Qd : Hp → Prop} (res : List V) (hl : res.length = n) (hn : n ≤ sizeLine) (hD : H1 D = none)
    (hG : ∀ H, Same H1 H → G H)
    (hs : ∀ i x H H' y (Qy : VK), i < n → Same H1 H → H D ≠ none → Y i H x H' → res[i]? = some y → (∀ H4, Same H' H4 → Qy y H4) → g x (wipe σ vs) H' fun σ2 H2 => wipe σ2 vs = wipe σ vs ∧ te σ2 H2 Qy)
    (hY : ∀ i x H H', Y i H x H' → Same H H')
    (hd : ∀ H, Same H1 H → H D = some (.lst res) → Qd H) :
    ∃ W : Nat → Nat → Hp → Prop, (∃ m, W 0 m (upd H1 D (.lst []))) ∧ ∀ i m H, W i m H →
      (J.stop i H ∧ Qd H) ∨ (J.go i H ∧ ∃ Nx : Hp → Prop, (∀ H', Nx H' → ∃ m', m' < m ∧ W (i + 1) m' H') ∧ ∀ x H', J.yld i H x H' → g x (wipe σ vs) H' fun σ2 H2 => wipe σ2 vs = wipe σ vs ∧ tYes σ2 H2 fun b H3 =>
        if b = true then te σ2 H3 fun y H4 => ∃ acc, H4 D = some (.lst acc) ∧ acc.length < sizeLine ∧ Nx (upd H4 D (.lst (acc ++ [y]))) else Nx H3) := by
  refine lc_gen w (fun i acc H => Same H1 H ∧ acc = res.take i) hn ⟨Same.new hD, by simp⟩ (fun i acc H _ h _ => hG H h.1) (fun i acc H l h _ => ⟨fun b o e => ?_, h.2⟩) (fun i acc x H H' Qy hi ha h e hy hq => ?_) (fun acc H ha h e => ?_)
  · rw [upd_ne (ne_some e hD)]
    exact h.1 b o e
  · have hi2 : i < res.length := by omega
    have hr : res[i]? = some res[i] := List.getElem?_eq_getElem hi2
    refine hs i x H H' res[i] Qy hi h.1 (by rw [e]; simp) hy hr fun H4 s4 => hq _ _ (s4 _ _ (hY _ _ _ _ hy _ _ e)) ⟨h.1.trans ((hY _ _ _ _ hy).trans s4), ?_⟩
    rw [h.2, List.take_add_one, hr]
    rfl
  · rw [h.2, ← hl, List.take_length] at e
    exact hd H h.1 e
end
theorem YAt.same {xs : List V} {i : Nat} {x : V} {H H' : Hp} (h : YAt xs i H x H') : Same H H' := by rw [h.1]; exact Same.refl _
theorem YPair.same {f g : Nat → Option V} {i : Nat} {x : V} {H H' : Hp} (h : YPair f g i H x H') : Same H H' := by
  obtain ⟨T, x, y, _, hT, rfl, _⟩ := h
  exact Same.new hT
theorem YTrip.same {f g k : Nat → Option V} {i : Nat} {x : V} {H H' : Hp} (h : YTrip f g k i H x H') : Same H H' := by
  obtain ⟨T, x, y, z, _, hT, rfl, _⟩ := h
  exact Same.new hT

/-! ### isinstance -/
/-- isinstance(x, c) is b -/
def IsI (K : PySem.W.Frag) (H : Hp) (x c : V) (b : Bool) : Prop := ∃ t u : Value, ClsV c u ∧ TyX K H x t ∧ PySem.W.kitOne K t u = some b
def rIsI (K : PySem.W.Frag) : List V → Hp → VK → Prop := fun vs H Q => ∃ x c b, vs = [x, c] ∧ IsI K H x c b ∧ Q (.bl b) H
theorem call_isI {X : Cx} : CallR X (.builtin "isinstance") (rIsI X.K) := by
  intro pins s σ H xs us Q I r h
  obtain ⟨x, c, b, rfl, ⟨t, u, h1, h2, h3⟩, q⟩ := h
  exact call_isi pins s σ H _ us Q I r ⟨x, c, t, u, b, rfl, h1, h2, h3, q⟩
/-- a value that is no object: its type's name -/
def tyN : V → Option String
  | .non => some "NoneType"
  | .bl _ => some "bool"
  | .int _ => some "int"
  | .str _ => some "str"
  | _ => none
theorem tyN_of {K : PySem.W.Frag} {H : Hp} {x : V} {t : Value} {n : String} (h : TyX K H x t) (e : tyN x = some n) : t = .type n := by
  cases h with
  | base b => cases b <;> simp [tyN] at e <;> subst e <;> rfl
  | byt b => simp [tyN] at e
  | set e' => simp [tyN] at e
  | kList e' _ => simp [tyN] at e
  | kTuple e' _ => simp [tyN] at e
  | kDict e' _ => simp [tyN] at e
  | fTuple e' => simp [tyN] at e
  | fDict e' => simp [tyN] at e
theorem isI_ty {K : PySem.W.Frag} {H : Hp} {x : V} {n : String} {c : String} {b : Bool} (ty : TyX K H x (.type n)) (h : kitB n c = some b) : IsI K H x (.ty c) b := ⟨_, _, .ty c, ty, kit_ty h⟩
theorem isI_iff {K : PySem.W.Frag} {H : Hp} {x : V} {n c : String} {b : Bool} {p : Bool → Prop} (e : tyN x = some n) (ty : TyX K H x (.type n)) (h : kitB n c = some b) : (∃ k, IsI K H x (.ty c) k ∧ p k) ↔ p b := by
  constructor
  · rintro ⟨k, ⟨t, u, hc, ht, hk⟩, q⟩
    have e1 := tyN_of ht e
    subst e1
    cases hc
    have e2 := hk.symm.trans (kit_ty (K := K) h)
    cases e2
    exact q
  · intro q
    exact ⟨b, isI_ty ty h, q⟩
section
variable {K : PySem.W.Frag} {H : Hp} {p : Bool → Prop}
theorem isI_int_int (n : Int) : (∃ k, IsI K H (.int n) (.ty "int") k ∧ p k) ↔ p true := isI_iff rfl (.base (.int n)) (by decide +kernel)
theorem isI_int_bool (n : Int) : (∃ k, IsI K H (.int n) (.ty "bool") k ∧ p k) ↔ p false := isI_iff rfl (.base (.int n)) (by decide +kernel)
theorem isI_bl_int (n : Bool) : (∃ k, IsI K H (.bl n) (.ty "int") k ∧ p k) ↔ p true := isI_iff rfl (.base (.bl n)) (by decide +kernel)
theorem isI_bl_bool (n : Bool) : (∃ k, IsI K H (.bl n) (.ty "bool") k ∧ p k) ↔ p true := isI_iff rfl (.base (.bl n)) (by decide +kernel)
theorem isI_str_str (n : Str) : (∃ k, IsI K H (.str n) (.ty "str") k ∧ p k) ↔ p true := isI_iff rfl (.base (.str n)) (by decide +kernel)
end
theorem isI_tup {K : PySem.W.Frag} {H : Hp} {a : Addr} {xs : List V} (h : H a = some (.tup xs)) : IsI K H (.ref a) (.ty "tuple") true := isI_ty (.base (.tup h)) (by decide +kernel)
theorem isI_lst {K : PySem.W.Frag} {H : Hp} {a : Addr} {xs : List V} (h : H a = some (.lst xs)) : IsI K H (.ref a) (.ty "list") true := isI_ty (.base (.lst h)) (by decide +kernel)
theorem isI_tup_list {K : PySem.W.Frag} {H : Hp} {a : Addr} {xs : List V} (h : H a = some (.tup xs)) : IsI K H (.ref a) (.ty "list") false := isI_ty (.base (.tup h)) (by decide +kernel)
theorem isI_lst_tup {K : PySem.W.Frag} {H : Hp} {a : Addr} {xs : List V} (h : H a = some (.lst xs)) : IsI K H (.ref a) (.ty "tuple") false := isI_ty (.base (.lst h)) (by decide +kernel)
/-- isinstance(x, (c1, c2)) is b -/
def IsA (K : PySem.W.Frag) (H : Hp) (x : V) (cs : List V) (b : Bool) : Prop := ∃ (t : Value) (us : List Value), Paired ClsV cs us ∧ TyX K H x t ∧ PySem.W.kitAny K t us = some b
def rIsA (K : PySem.W.Frag) : List V → Hp → VK → Prop := fun vs H Q => ∃ (x : V) (tp : Addr) (cs : List V) (b : Bool), vs = [x, .ref tp] ∧ H tp = some (.tup cs) ∧ IsA K H x cs b ∧ Q (.bl b) H
theorem call_isA {X : Cx} : CallR X (.builtin "isinstance") (rIsA X.K) := by
  intro pins s σ H xs us Q I r h
  obtain ⟨x, tp, cs, b, rfl, hT, ⟨t, ws, h1, h2, h3⟩, q⟩ := h
  exact call_isiT pins s σ H _ us Q I r ⟨x, tp, cs, t, ws, b, rfl, hT, h1, h2, h3, q⟩
theorem isA_two {K : PySem.W.Frag} {H : Hp} {x : V} {n c1 c2 : String} {b1 b2 b : Bool} (ty : TyX K H x (.type n)) (h1 : kitB n c1 = some b1) (h2 : kitB n c2 = some b2) (e : b = (b1 || b2)) : IsA K H x [.ty c1, .ty c2] b := by
  subst e
  refine ⟨_, [_, _], .cons (.ty c1) (.cons (.ty c2) .nil), ty, kitAny_cons (kit_ty h1) (fun e => ?_) fun e => by rw [e]; rfl⟩
  subst e
  exact kitAny_cons (kit_ty h2) (fun e => by subst e; exact kitAny_nil) fun e => by rw [e]; rfl

/-! ### data -/
theorem dpAll_ints {K : PySem.W.Frag} {H : Hp} : ∀ ns : List Int, DpAll K H (ns.map V.int) (ns.map PyData.int)
  | [] => .nil
  | n :: ns => .cons (.int n) (dpAll_ints ns)
theorem canLay_ints : ∀ ns : List Int, PyData.canLayAll0 (ns.map PyData.int) = true
  | [] => rfl
  | n :: ns => by
    show (PyData.canLay0 (.int n) && PyData.canLayAll0 (ns.map PyData.int)) = true
    rw [canLay_ints ns]
    rfl
theorem depth_ints : ∀ ns : List Int, PyData.depthAll (ns.map PyData.int) = 0
  | [] => rfl
  | n :: ns => by
    show max (PyData.depth (.int n)) (PyData.depthAll (ns.map PyData.int)) = 0
    rw [depth_ints ns]
    rfl
theorem eqvAll_ints : ∀ ns ms : List Int, PyData.eqvAll (ns.map PyData.int) (ms.map PyData.int) = decide (ns = ms)
  | [], [] => rfl
  | [], _ :: _ => rfl
  | _ :: _, [] => rfl
  | n :: ns, m :: ms => by
    show (PyData.eqv (.int n) (.int m) && PyData.eqvAll (ns.map PyData.int) (ms.map PyData.int)) = _
    rw [eqvAll_ints ns ms]
    show ((n == m) && decide (ns = ms)) = decide (n :: ns = m :: ms)
    by_cases h : n = m <;> by_cases h2 : ns = ms <;> simp [h, h2]
def tupI (ns : List Int) : PyData := .tuple (ns.map PyData.int)
theorem dp_tupI {K : PySem.W.Frag} {H : Hp} {a : Addr} {ns : List Int} (h : SqT K H a (ns.map V.int)) : Dp K H (.ref a) (tupI ns) := .tup h (dpAll_ints ns)
theorem eqv_tupI (ns ms : List Int) : PyData.eqv (tupI ns) (tupI ms) = decide (ns = ms) := eqvAll_ints ns ms
theorem shaped_tupI (ns : List Int) : SeqAt.shaped (tupI ns) = true := by
  have h1 : PyData.canLay0 (tupI ns) = true := canLay_ints ns
  have h2 : PyData.depth (tupI ns) ≤ 64 := by
    show PyData.depthAll (ns.map PyData.int) + 1 ≤ 64
    rw [depth_ints ns]
    decide
  unfold SeqAt.shaped
  rw [h1, decide_eq_true h2]
  rfl


/-! ### rules over what is tracked alone -/
section
variable {X : Cx}
theorem ix_lH : IxR X (fun x y H Q => ∃ p i, x = .ref p ∧ y = .int i ∧ ∃ xs, H p = some (.lst xs) ∧ ∃ v, atI xs i = some v ∧ Q v H) := by
  intro value slice pins s σ H x y v u Q I rx ry h hs
  obtain ⟨p, i, rfl, rfl, xs, hp, z, hz, q⟩ := h
  exact ix_list value slice pins s σ H _ _ v u Q I rx ry ⟨p, xs, i, z, rfl, rfl, .inl (.inl hp), hz, q⟩ hs
theorem ix_tH : IxR X (fun x y H Q => ∃ p i, x = .ref p ∧ y = .int i ∧ ∃ xs, H p = some (.tup xs) ∧ ∃ v, atI xs i = some v ∧ Q v H) := by
  intro value slice pins s σ H x y v u Q I rx ry h hs
  obtain ⟨p, i, rfl, rfl, xs, hp, z, hz, q⟩ := h
  exact ix_tup value slice pins s σ H _ _ v u Q I rx ry ⟨p, xs, i, z, rfl, rfl, .inl (.inl hp), hz, q⟩ hs
theorem set_lH : PSet X (fun o i v H Q => ∃ p k, o = .ref p ∧ i = .int k ∧ ∃ xs, H p = some (.lst xs) ∧ ∃ j, ixN xs.length k = some j ∧ Q (upd H p (.lst (xs.set j v)))) := by
  intro pins s σ H o i v ov iv u Q I ro ri rv h
  obtain ⟨p, k, e1, e2, xs, hp, j, hj, q⟩ := h
  exact set_list pins s σ H o i v ov iv u Q I ro ri rv ⟨p, xs, k, j, e1, e2, hp, hj, q⟩
theorem len_H : CallR X (.builtin "len") (fun vs H Q => ∃ p, vs = [.ref p] ∧ ((∃ ys, H p = some (.lst ys) ∧ Q (.int ys.length) H) ∨ ∃ ys, H p = some (.tup ys) ∧ Q (.int ys.length) H)) := by
  intro pins s σ H vs us Q I r h
  obtain ⟨p, e, h⟩ := h
  refine call_len_seq pins s σ H vs us Q I r ?_
  rcases h with ⟨ys, hp, q⟩ | ⟨ys, hp, q⟩
  · exact ⟨p, ys, e, .inl (.inl (.inl hp)), q⟩
  · exact ⟨p, ys, e, .inr (.inl (.inl hp)), q⟩
theorem tuple_H : CallR X (.type "tuple") (fun vs H Q => ∃ p, vs = [.ref p] ∧ ((∃ ys, H p = some (.lst ys) ∧ ∀ l, H l = none → Q (.ref l) (upd H l (.tup ys))) ∨ ∃ ys, H p = some (.tup ys) ∧ Q (.ref p) H)) := by
  intro pins s σ H vs us Q I r h
  obtain ⟨p, e, h⟩ := h
  refine call_tuple_of pins s σ H vs us Q I r ?_
  rcases h with ⟨ys, hp, q⟩ | ⟨ys, hp, q⟩
  · exact ⟨p, ys, e, .inl ⟨.inl (.inl hp), q⟩⟩
  · exact ⟨p, ys, e, .inr ⟨.inl (.inl hp), q⟩⟩
theorem list_H : CallR X (.type "list") (fun vs H Q => ∃ p, vs = [.ref p] ∧ ((∃ ys, H p = some (.lst ys) ∧ ∀ l, H l = none → Q (.ref l) (upd H l (.lst ys))) ∨ ∃ ys, H p = some (.tup ys) ∧ ∀ l, H l = none → Q (.ref l) (upd H l (.lst ys)))) := by
  intro pins s σ H vs us Q I r h
  obtain ⟨p, e, h⟩ := h
  refine call_list_of pins s σ H vs us Q I r ?_
  rcases h with ⟨ys, hp, q⟩ | ⟨ys, hp, q⟩
  · exact ⟨p, ys, e, .inl (.inl (.inl hp)), q⟩
  · exact ⟨p, ys, e, .inr (.inl (.inl hp)), q⟩
theorem all_H (hc : X.calm = true) : CallR X (.builtin "all") (fun vs H Q => ∃ p, vs = [.ref p] ∧ ∃ bs : List Bool, H p = some (.lst (bs.map V.bl)) ∧ Q (.bl (bs.all id)) H) := by
  intro pins s σ H vs us Q I r h
  obtain ⟨p, e, bs, hp, q⟩ := h
  exact cr_all hc pins s σ H vs us Q I r ⟨p, bs, e, .inl (.inl hp), q⟩
/-- a, b = t, t tracked -/
def gTupH (n : Nat) (t : TGs) : TG := fun v σ H Q => ∃ a, v = .ref a ∧ ∃ xs, H a = some (.tup xs) ∧ xs.length = n ∧ t xs σ H Q
theorem pg_tupH {es : List Expr} {k : Nat} {t : TGs} {n : Nat} {pos : Pos} (hc : X.calm = true) (h : PGs X es t)
    (hn : (assignEach es X.env).length = n := by rfl) (hst : (assignEach es X.env).findIdx? (·.1) = none := by rfl) : PG X (.Tuple es k pos) (gTupH n t) := by
  refine ⟨fun pins s σ H v u Q I r hw => ?_⟩
  obtain ⟨a, e1, xs, hq, hl, hw⟩ := hw
  exact (pg_tup hc h hn hst).run pins s σ H v u Q I r ⟨a, xs, e1, .inl (.inl hq), hl, hw⟩
/-- l.append(e) -/
def tAppend (to : TE) (t : TA) : TE := fun σ H Q => to σ H fun x H1 => ∃ p, x = .ref p ∧ ∃ xs, H1 p = some (.lst xs) ∧ t σ H1 fun vs H2 => ∃ y, vs = [y] ∧ ∃ ys, H2 p = some (.lst ys) ∧ ys.length < sizeLine ∧ Q .non (upd H2 p (.lst (ys ++ [y])))
theorem pe_append {o e : Expr} {to : TE} {t : TA} {apos cpos : Pos} (ho : PE X o to) (ha : PA X [e] t)
    (hbase : attributeBase o "append" X.env (eval o X.env) = eval o X.env := by rfl)
    (hfew : ((backTo cpos (starEach [e] X.env)).all (fun x => !x.1) && (backToKw cpos (keywordEach [] X.env)).all (fun x => x.1.isSome)
      && decide (([e] : List Expr).length + ([] : List Keyword).length + (if ([] : List Keyword).isEmpty then 0 else 1) < 30)) = true := by rfl)
    (hline : (apos.endLine == cpos.line) = true := by rfl) (hs : starEach [e] X.env = (false, eval e X.env) :: starEach [] X.env := by rfl) :
    PE X (.Call (.Attribute o "append" apos) [e] [] cpos) (tAppend to t) := by
  refine ⟨fun pins s σ H Q I h => ?_⟩
  refine wpAny_Call_method_late hbase hfew hline rfl (thn (ho.run pins s σ H _ I h) fun v s1 ⟨x, H1, I1, r1, p, ex, xs, hp, q1⟩ => ?_)
  subst ex
  have ty : tyV X.K "list" (.ref p) H1 := .inl ⟨rfl, xs, .inl (.inl hp)⟩
  obtain ⟨h1, h2⟩ := tyV_is I1 r1 ty
  refine ⟨"list", _, PySem.F.plainAttrs_list, PySem.F.slot_list_append, PySem.F.type_list_append, h1, h2, ?_⟩
  have hA := ha.run cpos pins s1 σ H1 _ I1 q1
  rw [hs] at hA ⊢
  refine Calls.callWith_builtin (by rfl) (Calls.evalArgs_plain ?_)
  refine thn hA fun us s2 ⟨vs, H2, I2, r2, y, e2, ys, hp2, hz, q2⟩ => ?_
  exact mt_append pins s2 σ H2 (.ref p) vs v us Q I2 r1 r2 ⟨p, ys, y, rfl, e2, hp2, hz, q2⟩
end
/-! ### loops and comprehensions, closed off -/
def LcR (J : It) (g : TG) (tt : TT) (te : TE) (vs : List Nat) (σ : L2.St) (H1 : Hp) (Q : VK) : Prop := ∀ D, H1 D = none → ∃ W : Nat → Nat → Hp → Prop, (∃ m, W 0 m (upd H1 D (.lst []))) ∧ ∀ i m H, W i m H →
  (J.stop i H ∧ Q (.ref D) H) ∨ (J.go i H ∧ ∃ Nx : Hp → Prop, (∀ H', Nx H' → ∃ m', m' < m ∧ W (i + 1) m' H') ∧ ∀ x H', J.yld i H x H' → g x (wipe σ vs) H' fun σ2 H2 => wipe σ2 vs = wipe σ vs ∧ tt σ2 H2 fun b H3 =>
    if b = true then te σ2 H3 fun y H4 => ∃ acc, H4 D = some (.lst acc) ∧ acc.length < sizeLine ∧ Nx (upd H4 D (.lst (acc ++ [y]))) else Nx H3)
theorem tLc_eq {wi : TI} {g : TG} {tt : TT} {te : TE} {vs : List Nat} {σ : L2.St} {H : Hp} {Q : VK} : tLc wi g tt te vs σ H Q = wi σ H fun J H1 => LcR J g tt te vs σ H1 Q := rfl
def ForR (J : It) (g : TG) (tb : TS) (D : Ends) (σ : L2.St) (H1 : Hp) : Prop := ∃ W : Nat → Nat → L2.St → Hp → Prop, (∃ m, W 0 m σ H1) ∧ ∀ i m σ H, W i m σ H →
  (J.stop i H ∧ D.nx σ H) ∨ (J.go i H ∧ ∃ N : L2.St → Hp → Prop, (∀ σ' H', N σ' H' → ∃ m', m' < m ∧ W (i + 1) m' σ' H') ∧ ∀ x H', J.yld i H x H' → g x σ H' fun σ2 H2 => tb { D with nx := N, ct := N, bk := D.nx } σ2 H2)
theorem tFor_eq {wi : TI} {g : TG} {tb : TS} {D : Ends} {σ : L2.St} {H : Hp} : tFor wi g tb D σ H = wi σ H fun J H1 => ForR J g tb D σ H1 := rfl
/-- what is walked, told by Walk alone -/
def iSeqH (tl : TE) : TI := fun σ H R => tl σ H fun x H1 => ∃ a, x = .ref a ∧ ((∃ xs, H1 a = some (.lst xs) ∧ ∀ J : It, Walk J xs.length (fun H => H a = some (.lst xs)) (YAt xs) → R J H1) ∨ ∃ xs, H1 a = some (.tup xs) ∧ ∀ J : It, Walk J xs.length (fun H => H a = some (.tup xs)) (YAt xs) → R J H1)
def iSeqS (K : PySem.W.Frag) (tl : TE) : TI := fun σ H R => tl σ H fun x H1 => ∃ (k : Bool) (a : Addr) (xs : List V), x = .ref a ∧ Sqk K k H1 a xs ∧ ∀ J : It, Walk J xs.length (fun H => Sqk K k H a xs) (YAt xs) → R J H1
theorem PI.mono {X : Cx} {tg it : Expr} {w w' : TI} (h : PI X tg it w) (m : ∀ σ H R, w' σ H R → w σ H R) : PI X tg it w' := ⟨fun pins s σ H R I q => h.run pins s σ H R I (m σ H R q)⟩
section
variable {X : Cx} {tg l : Expr} {tl : TE}
theorem pi_seqH (hl : PE X l tl) : PI X tg l (iSeqH tl) := by
  have h2 : PE X l fun σ H Q => tl σ H fun x H1 => Q x H1 := hl
  refine ⟨fun pins s σ H R I h => ?_⟩
  refine thn (hl.run pins s σ H _ I h) fun v s1 ⟨x, H1, I1, r1, q1⟩ => ?_
  obtain ⟨a, e, q⟩ := q1
  subst e
  have key : ∀ (k : Bool) (xs : List V), Sqk X.K k H1 a xs → R (match k with | true => Itl X.K a | false => Itt X.K a) H1 → wpAny (model X.prog X.w) X.A (pyIter v) (PIE X pins σ tg R) X.xe s1 := fun k xs hs hR => by
    cases r1
    cases k with
    | true =>
      obtain ⟨its, rv, p, hz⟩ := I1.list hs
      refine wpAny_pyIter_list p.isList ?_
      refine ⟨s1.heap.objs.size, [s1.heap.objs.size], _, _, H1, rfl, I1.kept (t' := s1.toks) fun b o e => Heap.get?_push_of_some _ e, turn_list a _, ⟨_, Heap.get?_push_size _ rfl, rfl, rfl⟩, fun b hb => ?_, hR⟩
      have e : b = s1.heap.objs.size := by simpa using hb
      subst e
      exact I1.fpOk (Nat.le_refl _) (I1.hok.fresh (Nat.le_refl _))
    | false =>
      obtain ⟨its, rv, p, hz⟩ := I1.tuple hs
      refine wpAny_pyIter_tuple (show s1.heap.IsTuple a its.toArray from p) ?_
      refine ⟨s1.heap.objs.size, [s1.heap.objs.size], _, _, H1, rfl, I1.kept (t' := s1.toks) fun b o e => Heap.get?_push_of_some _ e, turn_tuple a _, ⟨_, Heap.get?_push_size _ rfl, rfl, rfl⟩, fun b hb => ?_, hR⟩
      have e : b = s1.heap.objs.size := by simpa using hb
      subst e
      exact I1.fpOk (Nat.le_refl _) (I1.hok.fresh (Nat.le_refl _))
  rcases q with ⟨xs, hp, q⟩ | ⟨xs, hp, q⟩
  · exact key true xs (.inl (.inl hp)) (q _ (walk_list.mono (fun H h => .inl (.inl h)) fun _ _ _ _ _ _ y => y))
  · exact key false xs (.inl (.inl hp)) (q _ (walk_tup.mono (fun H h => .inl (.inl h)) fun _ _ _ _ _ _ y => y))
theorem pi_seqS (hl : PE X l tl) : PI X tg l (iSeqS X.K tl) := by
  refine ⟨fun pins s σ H R I h => ?_⟩
  refine thn (hl.run pins s σ H _ I h) fun v s1 ⟨x, H1, I1, r1, q1⟩ => ?_
  obtain ⟨k, a, xs, e, hs, q⟩ := q1
  subst e
  have hR := q _ walk_seq
  cases r1
  cases k with
  | true =>
    obtain ⟨its, rv, p, hz⟩ := I1.list hs
    refine wpAny_pyIter_list p.isList ?_
    refine ⟨s1.heap.objs.size, [s1.heap.objs.size], _, _, H1, rfl, I1.kept (t' := s1.toks) fun b o e => Heap.get?_push_of_some _ e, turn_list a _, ⟨_, Heap.get?_push_size _ rfl, rfl, rfl⟩, fun b hb => ?_, hR⟩
    have e : b = s1.heap.objs.size := by simpa using hb
    subst e
    exact I1.fpOk (Nat.le_refl _) (I1.hok.fresh (Nat.le_refl _))
  | false =>
    obtain ⟨its, rv, p, hz⟩ := I1.tuple hs
    refine wpAny_pyIter_tuple (show s1.heap.IsTuple a its.toArray from p) ?_
    refine ⟨s1.heap.objs.size, [s1.heap.objs.size], _, _, H1, rfl, I1.kept (t' := s1.toks) fun b o e => Heap.get?_push_of_some _ e, turn_tuple a _, ⟨_, Heap.get?_push_size _ rfl, rfl, rfl⟩, fun b hb => ?_, hR⟩
    have e : b = s1.heap.objs.size := by simpa using hb
    subst e
    exact I1.fpOk (Nat.le_refl _) (I1.hok.fresh (Nat.le_refl _))
end
/-- a list or a tuple, tracked -/
def Sqh (k : Bool) (H : Hp) (a : Addr) (xs : List V) : Prop := match k with
  | true => H a = some (.lst xs)
  | false => H a = some (.tup xs)
theorem Sqh.sqk {K : PySem.W.Frag} {k : Bool} {H : Hp} {a : Addr} {xs : List V} (h : Sqh k H a xs) : Sqk K k H a xs := by
  cases k with
  | true => exact .inl (.inl h)
  | false => exact .inl (.inl h)
theorem Sqh.same {k : Bool} {H H' : Hp} {a : Addr} {xs : List V} (e : Same H H') (h : Sqh k H a xs) : Sqh k H' a xs := by
  cases k with
  | true => exact e _ _ h
  | false => exact e _ _ h
def iZ2H (ta : TA) : TI := fun σ H R => ta σ H fun vs H1 => ∃ a b, vs = [.ref a, .ref b] ∧ ∃ (k1 k2 : Bool) (xs ys : List V), Sqh k1 H1 a xs ∧ Sqh k2 H1 b ys ∧ xs.length = ys.length ∧ ∀ J : It, Walk J xs.length (fun H => Sqh k1 H a xs ∧ Sqh k2 H b ys) (YPair (fun i => xs[i]?) (fun i => ys[i]?)) → R J H1
def iZ3H (ta : TA) : TI := fun σ H R => ta σ H fun vs H1 => ∃ a b c, vs = [.ref a, .ref b, .ref c] ∧ ∃ (k1 k2 k3 : Bool) (xs ys zs : List V), Sqh k1 H1 a xs ∧ Sqh k2 H1 b ys ∧ Sqh k3 H1 c zs ∧ xs.length = ys.length ∧ ys.length = zs.length ∧
  ∀ J : It, Walk J xs.length (fun H => Sqh k1 H a xs ∧ Sqh k2 H b ys ∧ Sqh k3 H c zs) (YTrip (fun i => xs[i]?) (fun i => ys[i]?) (fun i => zs[i]?)) → R J H1
theorem PA.weak {X : Cx} {es : List Expr} {t : TA} (h : PA X es t) {pos : Pos} {pins : List (Addr × Obj)} {s : Shared} {σ : L2.St} {H : Hp} {Q : List V → Hp → Prop} (I : Inv X pins σ H s) (q : t σ H Q) : wpAny (model X.prog X.w) X.A (spliced (backTo pos (starEach es X.env))) (AP X pins σ Q) X.xe s := h.run pos pins s σ H Q I q
/-- an argument list whose reading is asked for less -/
theorem PA.of {X : Cx} {es : List Expr} {t : TA} (h : PA X es t) (f : List V → Hp → (List V → Hp → Prop) → Prop) : PA X es fun σ H Q => t σ H fun vs H1 => Q vs H1 := h
section
variable {X : Cx} {e e2 e3 : Expr} {ta : TA} {p pos tpos : Pos} {elts : List Expr} {kk : Nat}
theorem pi_z2H (hg : Gl X "zip") (hm : X.mg "zip" = none) (ha : PA X [e, e2] ta)
    (hs : starEach [e, e2] X.env = (false, eval e X.env) :: starEach [e2] X.env := by rfl) (hpl : (backTo pos (starEach [e2] X.env)).any (·.1) = false := by rfl) :
    PI X (.Tuple elts kk tpos) (.Call (.Name "zip" p) [e, e2] [] pos) (iZ2H ta) := by
  refine ⟨fun pins s σ H R I h => ?_⟩
  let ta' : TA := fun σ H Q => ta σ H fun vs H1 => (∃ a b, vs = [.ref a, .ref b] ∧ ∃ (k1 k2 : Bool) (xs ys : List V), Sqh k1 H1 a xs ∧ Sqh k2 H1 b ys ∧ xs.length = ys.length ∧ ∀ J : It, Walk J xs.length (fun H => Sqh k1 H a xs ∧ Sqh k2 H b ys) (YPair (fun i => xs[i]?) (fun i => ys[i]?)) → R J H1) ∧ Q vs H1
  have ha' : PA X [e, e2] ta' := ⟨fun pos pins s σ H Q I q => thn (ha.run pos pins s σ H _ I q) fun us s1 ⟨vs, H1, I1, r1, _, q1⟩ => ⟨vs, H1, I1, r1, q1⟩⟩
  refine Call_ (ld_blt I hg hm PyProof.Rows.boot_zip (PyProof.Rows.callWith_type1 (thn (ha.run pos pins s σ H _ I h) fun us s1 ⟨vs, H1, I1, r1, q1⟩ => ?_) hs hpl))
  obtain ⟨a, b, ex, k1, k2, xs, ys, hqx, hqy, hl, q⟩ := q1
  subst ex
  have q := q (Iz2 X.K k1 k2 a b) ((walk_z2 (K := X.K) (k1 := k1) (k2 := k2) (a := a) (b := b) hl).mono (fun H h => ⟨h.1.sqk, h.2.sqk⟩) fun _ _ _ _ _ _ y => y)
  have hqx : Sqk X.K k1 H1 a xs := hqx.sqk
  have hqy : Sqk X.K k2 H1 b ys := hqy.sqk
  cases r1 with
  | cons r rr =>
    cases rr with
    | cons r' rr =>
      cases rr
      cases r
      cases r'
      obtain ⟨its, rv, p1⟩ := invK I1 hqx
      obtain ⟨its2, rv2, p2⟩ := invK I1 hqy
      have la : a < s1.heap.objs.size := p1.lt
      have lb : b < s1.heap.objs.size := p2.lt
      refine zip_begins2 (begK k1 a its.toArray) (begK k2 b its2.toArray) p1 p2 fun h' hz hTI hTO h1 h2 hsz hk => wpAny_pyIter_zip hz ?_
      have I2 : Inv X pins σ H1 { s1 with heap := h' } := I1.kept (t' := s1.toks) hk
      refine ⟨s1.heap.objs.size + 4, [s1.heap.objs.size + 4, s1.heap.objs.size + 2, s1.heap.objs.size + 3, s1.heap.objs.size, s1.heap.objs.size + 1], _, _, H1, rfl, I2, turn_z2 (zip_sep2 (fun b hb => by simp at hb; rw [hb]; exact la) (fun b hb => by simp at hb; rw [hb]; exact lb)) (Nat.ne_of_lt la) (Nat.ne_of_lt (Nat.lt_succ_of_lt lb)), ⟨hz, hTI, ⟨_, _, hTO⟩, ItK.new h1, ItK.new h2⟩, fun c hcm => ?_, q⟩
      have e' : c = s1.heap.objs.size + 4 ∨ c = s1.heap.objs.size + 2 ∨ c = s1.heap.objs.size + 3 ∨ c = s1.heap.objs.size ∨ c = s1.heap.objs.size + 1 := by simpa using hcm
      have hle : s1.heap.objs.size ≤ c := by
        rcases e' with z | z | z | z | z
        · rw [z]; exact Nat.le_add_right _ _
        · rw [z]; exact Nat.le_add_right _ _
        · rw [z]; exact Nat.le_add_right _ _
        · rw [z]; exact Nat.le_refl _
        · rw [z]; exact Nat.le_add_right _ _
      exact I1.fpOk hle (I1.hok.fresh hle)
theorem pi_z3H (hg : Gl X "zip") (hm : X.mg "zip" = none) (ha : PA X [e, e2, e3] ta)
    (hs : starEach [e, e2, e3] X.env = (false, eval e X.env) :: starEach [e2, e3] X.env := by rfl) (hpl : (backTo pos (starEach [e2, e3] X.env)).any (·.1) = false := by rfl) :
    PI X (.Tuple elts kk tpos) (.Call (.Name "zip" p) [e, e2, e3] [] pos) (iZ3H ta) := by
  refine ⟨fun pins s σ H R I h => ?_⟩
  refine Call_ (ld_blt I hg hm PyProof.Rows.boot_zip (PyProof.Rows.callWith_type1 (thn (ha.run pos pins s σ H _ I h) fun us s1 ⟨vs, H1, I1, r1, q1⟩ => ?_) hs hpl))
  obtain ⟨a, b, c, ex, k1, k2, k3, xs, ys, zs, hqx, hqy, hqz, hl, hl2, q⟩ := q1
  subst ex
  have q := q (Iz3 X.K k1 k2 k3 a b c) ((walk_z3 (K := X.K) (k1 := k1) (k2 := k2) (k3 := k3) (a := a) (b := b) (c := c) hl hl2).mono (fun H h => ⟨h.1.sqk, h.2.1.sqk, h.2.2.sqk⟩) fun _ _ _ _ _ _ y => y)
  have hqx : Sqk X.K k1 H1 a xs := hqx.sqk
  have hqy : Sqk X.K k2 H1 b ys := hqy.sqk
  have hqz : Sqk X.K k3 H1 c zs := hqz.sqk
  cases r1 with
  | cons r rr =>
    cases rr with
    | cons r' rr =>
      cases rr with
      | cons r'' rr =>
        cases rr
        cases r
        cases r'
        cases r''
        obtain ⟨its, rv, p1⟩ := invK I1 hqx
        obtain ⟨its2, rv2, p2⟩ := invK I1 hqy
        obtain ⟨its3, rv3, p3⟩ := invK I1 hqz
        have la : a < s1.heap.objs.size := p1.lt
        have lb : b < s1.heap.objs.size := p2.lt
        have lc : c < s1.heap.objs.size := p3.lt
        refine zip_begins3 (begK k1 a its.toArray) (begK k2 b its2.toArray) (begK k3 c its3.toArray) p1 p2 p3 fun h' hz hTI hTO h1 h2 h3 hsz hk => wpAny_pyIter_zip hz ?_
        have I2 : Inv X pins σ H1 { s1 with heap := h' } := I1.kept (t' := s1.toks) hk
        refine ⟨s1.heap.objs.size + 5, [s1.heap.objs.size + 5, s1.heap.objs.size + 3, s1.heap.objs.size + 4, s1.heap.objs.size, s1.heap.objs.size + 1, s1.heap.objs.size + 2], _, _, H1, rfl, I2, turn_z3 (zip_sep3 (fun b hb => by simp at hb; rw [hb]; exact la) (fun b hb => by simp at hb; rw [hb]; exact lb) (fun b hb => by simp at hb; rw [hb]; exact lc)) (Nat.ne_of_lt la) (Nat.ne_of_lt (Nat.lt_succ_of_lt lb)) (Nat.ne_of_lt (Nat.lt_succ_of_lt (Nat.lt_succ_of_lt lc))), ⟨hz, hTI, ⟨_, _, _, hTO⟩, ItK.new h1, ItK.new h2, ItK.new h3⟩, fun c hcm => ?_, q⟩
        have e' : c = s1.heap.objs.size + 5 ∨ c = s1.heap.objs.size + 3 ∨ c = s1.heap.objs.size + 4 ∨ c = s1.heap.objs.size ∨ c = s1.heap.objs.size + 1 ∨ c = s1.heap.objs.size + 2 := by simpa using hcm
        have hle : s1.heap.objs.size ≤ c := by
          rcases e' with z | z | z | z | z | z
          · rw [z]; exact Nat.le_add_right _ _
          · rw [z]; exact Nat.le_add_right _ _
          · rw [z]; exact Nat.le_add_right _ _
          · rw [z]; exact Nat.le_refl _
          · rw [z]; exact Nat.le_add_right _ _
          · rw [z]; exact Nat.le_add_right _ _
        exact I1.fpOk hle (I1.hok.fresh hle)
/-- range(n) -/
def iRng1H (ta : TA) : TI := fun σ H R => ta σ H fun vs H1 => ∃ j : Int, vs = [.int j] ∧ -(2 ^ 62) ≤ j ∧ j < 2 ^ 62 ∧ ∀ J : It, Walk J j.toNat (fun _ => True) (YFn fun i => .int (i : Nat)) → R J H1
theorem pi_range1H {a : Expr} {tg : Expr} (hg : Gl X "range") (hm : X.mg "range" = none) (ha : PA X [a] ta) (hs : starEach [a] X.env = [(false, eval a X.env)] := by rfl) : PI X tg (.Call (.Name "range" p) [a] [] pos) (iRng1H ta) := by
  refine ⟨fun pins s σ H R I h => ?_⟩
  have ha' : PA X [a] fun σ H Q => ta σ H fun vs H1 => (∃ j : Int, vs = [.int j] ∧ -(2 ^ 62) ≤ j ∧ j < 2 ^ 62 ∧ ∀ J : It, Walk J j.toNat (fun _ => True) (YFn fun i => .int (i : Nat)) → R J H1) ∧ ∀ j : Int, vs = [.int j] → -(2 ^ 62) ≤ j → j < 2 ^ 62 → R (Itr 0 j.toNat) H1 → Q vs H1 :=
    ⟨fun pos pins s σ H Q I q => thn (ha.run pos pins s σ H _ I q) fun us s1 ⟨vs, H1, I1, r1, ⟨j, ej, h1, h2, hR⟩, q1⟩ => ⟨vs, H1, I1, r1, q1 j ej h1 h2 (hR _ (walk_range.mono (fun _ _ => trivial) fun _ _ _ _ _ _ y => ⟨y.1, by rw [y.2]; show V.int _ = V.int _; rw [Int.zero_add]⟩))⟩⟩
  refine Call_ (ld_blt I hg hm boot_range (PyProof.Rows.callWith_type1 (thn (ha.run pos pins s σ H _ I h) fun us s1 ⟨vs, H1, I1, r1, q1⟩ => ?_) hs rfl))
  obtain ⟨j, e, q1, q2, q⟩ := q1
  subst e
  have q := q (Itr 0 j.toNat) (walk_range.mono (fun _ _ => trivial) fun _ _ _ _ _ _ y => ⟨y.1, by rw [y.2]; show V.int _ = V.int _; rw [Int.zero_add]⟩)
  cases r1 with
  | cons r rr =>
    cases rr
    obtain ⟨t, rfl⟩ := r
    exact call_range_1 (range_it I1 (by omega) (by omega) q1 q2 (by simpa using q))
end
/-- LcR by its lemmas -/
theorem lcr_map {J : It} {n : Nat} {G : Hp → Prop} {Y : Nat → Hp → V → Hp → Prop} (w : Walk J n G Y) {g : TG} {te : TE} {vs : List Nat} {σ : L2.St} {H1 : Hp} {Q : VK} (res : List V) (hl : res.length = n) (hn : n ≤ sizeLine)
    (hG : ∀ H, Same H1 H → G H) (hY : ∀ i x H H', Y i H x H' → Same H H')
    (hs : ∀ i x H H' y (Qy : VK), i < n → Same H1 H → Y i H x H' → res[i]? = some y → (∀ H4, Same H' H4 → Qy y H4) → g x (wipe σ vs) H' fun σ2 H2 => wipe σ2 vs = wipe σ vs ∧ te σ2 H2 Qy)
    (hd : ∀ D H, H1 D = none → Same H1 H → H D = some (.lst res) → Q (.ref D) H) : LcR J g tYes te vs σ H1 Q := fun D hD =>
  lc_map w res hl hn hD hG (fun i x H H' y Qy hi h1 _ hy hr hq => hs i x H H' y Qy hi h1 hy hr hq) hY fun H h1 h2 => hd D H hD h1 h2
theorem forr {J : It} {n : Nat} {G : Hp → Prop} {Y : Nat → Hp → V → Hp → Prop} (w : Walk J n G Y) {g : TG} {tb : TS} {D : Ends} {σ : L2.St} {H : Hp} (Pv : Nat → L2.St → Hp → Prop) (h0 : Pv 0 σ H) (hG : ∀ i σ H, i ≤ n → Pv i σ H → G H)
    (hs : ∀ i x σ H H', i < n → Pv i σ H → Y i H x H' → g x σ H' fun σ2 H2 => tb { D with nx := Pv (i + 1), ct := Pv (i + 1), bk := D.nx } σ2 H2) (hd : ∀ σ H, Pv n σ H → D.nx σ H) : ForR J g tb D σ H := for_it w Pv h0 hG hs hd
theorem map_bl_iff {bs : List Bool} {p : List Bool → Prop} : (∃ cs : List Bool, bs.map V.bl = cs.map V.bl ∧ p cs) ↔ p bs := by
  constructor
  · rintro ⟨cs, e, h⟩
    have inj : ∀ {a b : List Bool}, a.map V.bl = b.map V.bl → a = b := by
      intro a
      induction a with
      | nil => intro b h; cases b with | nil => rfl | cons _ _ => simp at h
      | cons x a ih => intro b h; cases b with
        | nil => simp at h
        | cons y b => simp only [List.map_cons, List.cons.injEq, V.bl.injEq] at h; rw [h.1, ih h.2]
    rw [inj e]; exact h
  · intro h; exact ⟨bs, rfl, h⟩

theorem sz_le {n : Nat} (h : n ≤ 1000) : (n ≤ sizeLine) = True := eq_true (Nat.le_trans h (by decide))
theorem op_inH {X : Cx} : OpR X (compareOp .In) (fun x y H Q => ∃ p, y = .ref p ∧ ∃ xs, H p = some (.tup xs) ∧ flatV x = true ∧ xs.all flatV = true ∧ Q (.bl (inV x xs)) H) := by
  intro pins s σ H x y v u Q I rx ry h
  obtain ⟨p, e, xs, hp, h1, h2, q⟩ := h
  exact op_in_seq pins s σ H x y v u Q I rx ry ⟨p, xs, e, .inr (.inl (.inl hp)), h1, h2, q⟩
theorem putF_one (f : Str) (v : V) : putF f v [] = [(f, v)] := rfl
theorem lookup_one (f : Str) (v : V) : List.lookup f [(f, v)] = some v := by simp [List.lookup]

/-- * of two ints, one of them below 2 ^ 64, or both together below a million bits -/
def CMulA (i j : Int) : Prop := i.natAbs < 2 ^ 64 ∨ j.natAbs < 2 ^ 64 ∨ CMulW i j
theorem op_mulA {X : Cx} : OpR X (binaryOp .Mult) (rI CMulA fun i j => .int (i * j)) := by
  intro pins s σ H x y v u Q I rx ry h
  obtain ⟨i, j, e1, e2, hc, q⟩ := h
  rcases hc with hc | hc | hc
  · exact op_mul pins s σ H x y v u Q I rx ry ⟨i, j, e1, e2, .inl ⟨by omega, by omega⟩, q⟩
  · exact op_mul pins s σ H x y v u Q I rx ry ⟨i, j, e1, e2, .inr ⟨by omega, by omega⟩, q⟩
  · exact op_mulW pins s σ H x y v u Q I rx ry ⟨i, j, e1, e2, hc, q⟩
theorem atI_0 {x : V} {xs : List V} : atI (x :: xs) 0 = some x := atI_nat (j := 0) rfl
theorem atI_1 {x y : V} {xs : List V} : atI (x :: y :: xs) 1 = some y := atI_nat (j := 1) rfl
theorem atI_2 {x y z : V} {xs : List V} : atI (x :: y :: z :: xs) 2 = some z := atI_nat (j := 2) rfl
theorem ixN_30 : ixN 3 0 = some 0 := rfl
theorem ixN_31 : ixN 3 1 = some 1 := rfl
theorem ixN_32 : ixN 3 2 = some 2 := rfl
theorem atI_in {xs : List V} {i : Int} (h0 : 0 ≤ i) (h1 : i < xs.length) : ∃ v, v ∈ xs ∧ atI xs i = some v := by
  obtain ⟨k, rfl⟩ := Int.eq_ofNat_of_zero_le h0
  have hk : k < xs.length := by omega
  exact ⟨xs[k], List.getElem_mem hk, atI_nat (List.getElem?_eq_getElem hk)⟩
theorem cpow_10 {j : Int} (h0 : 0 ≤ j) (h1 : j ≤ 1000000) : CPow 10 j = True := eq_true ⟨h0, h1, by decide⟩
theorem cdivW_small {i j : Int} (h : 0 < j) (h1 : j < 2 ^ 64) : CDivW i j = True := eq_true (wide_div h (b := 64) (by omega) (by decide) (by decide))
theorem Sx.free {a r : Addr} {H H1 : Hp} (h : Sx a H H1) (n : r ≠ a) (e : H1 r = none) : H r = none := by
  cases q : H r with
  | none => rfl
  | some o => rw [h r o n q] at e; cases e
theorem Sx.putN {a r : Addr} {H H1 : Hp} {o : HO} (h : Sx a H H1) (e : H r = none) : Sx a H (upd H1 r o) := fun b u n q => by
  rw [upd_ne (ne_some q e)]
  exact h b u n q
theorem scal_int (i j : Int) : scal (.int i) (.int j) = true := rfl
theorem scal_str (i j : Str) : scal (.str i) (.str j) = true := rfl
section
variable {K : PySem.W.Frag} {H : Hp} {a b c d e f : Addr} {ns ms ks ls : List Int} {Q : VK}
theorem neD_tup (h1 : H a = some (.tup (ns.map V.int))) (h2 : H b = some (.tup (ms.map V.int))) (q : Q (.bl (!decide (ns = ms))) H) : rNeD K (.ref a) (.ref b) H Q :=
  ⟨_, _, dp_tupI (.inl (.inl h1)), dp_tupI (.inl (.inl h2)), shaped_tupI _, shaped_tupI _, by rw [eqv_tupI]; exact q⟩
theorem eqD_tup (h1 : H a = some (.tup (ns.map V.int))) (h2 : H b = some (.tup (ms.map V.int))) (q : Q (.bl (decide (ns = ms))) H) : rEqD K (.ref a) (.ref b) H Q :=
  ⟨_, _, dp_tupI (.inl (.inl h1)), dp_tupI (.inl (.inl h2)), shaped_tupI _, shaped_tupI _, by rw [eqv_tupI]; exact q⟩
theorem depth_tupI (ns : List Int) : PyData.depth (tupI ns) = 1 := by
  show PyData.depthAll (ns.map PyData.int) + 1 = 1
  rw [depth_ints ns]
theorem shaped_two (ns ms : List Int) : SeqAt.shaped (.tuple [tupI ns, tupI ms]) = true := by
  have h1 : PyData.canLay0 (.tuple [tupI ns, tupI ms]) = true := by
    show (PyData.canLayAll0 (ns.map PyData.int) && (PyData.canLayAll0 (ms.map PyData.int) && true)) = true
    rw [canLay_ints, canLay_ints]
    rfl
  have h2 : PyData.depth (.tuple [tupI ns, tupI ms]) ≤ 64 := by
    show max (PyData.depth (tupI ns)) (max (PyData.depth (tupI ms)) 0) + 1 ≤ 64
    rw [depth_tupI, depth_tupI]
    decide
  unfold SeqAt.shaped
  rw [h1, decide_eq_true h2]
  rfl
theorem eqv_two (ns ms ks ls : List Int) : PyData.eqv (.tuple [tupI ns, tupI ms]) (.tuple [tupI ks, tupI ls]) = (decide (ns = ks) && decide (ms = ls)) := by
  show (PyData.eqv (tupI ns) (tupI ks) && (PyData.eqv (tupI ms) (tupI ls) && true)) = _
  rw [eqv_tupI, eqv_tupI, Bool.and_true]
/-- (t, u) != (v, w), four tuples of ints -/
theorem neD_two (h1 : H a = some (.tup [.ref c, .ref d])) (h2 : H b = some (.tup [.ref e, .ref f])) (hc : H c = some (.tup (ns.map V.int))) (hd : H d = some (.tup (ms.map V.int))) (he : H e = some (.tup (ks.map V.int))) (hf : H f = some (.tup (ls.map V.int)))
    (q : Q (.bl (!(decide (ns = ks) && decide (ms = ls)))) H) : rNeD K (.ref a) (.ref b) H Q :=
  ⟨.tuple [tupI ns, tupI ms], .tuple [tupI ks, tupI ls], .tup (.inl (.inl h1)) (.cons (dp_tupI (.inl (.inl hc))) (.cons (dp_tupI (.inl (.inl hd))) .nil)), .tup (.inl (.inl h2)) (.cons (dp_tupI (.inl (.inl he))) (.cons (dp_tupI (.inl (.inl hf))) .nil)), shaped_two _ _, shaped_two _ _, by rw [eqv_two]; exact q⟩
end
theorem Vals.getD {xs : List V} {us : List Value} (r : Vals xs us) (i : Nat) : RelV (xs.getD i .non) (us.getD i Value.none) := by
  rw [List.getD_eq_getElem?_getD, List.getD_eq_getElem?_getD]
  cases h : xs[i]? with
  | none => rw [L2.Vals.none_of r h]; rfl
  | some x =>
    obtain ⟨u, h2, h3⟩ := L2.Vals.get r h
    rw [h2]
    exact h3
theorem kbn_of {K : PySem.W.Frag} {x qual : Str} {st : Stmt} {f : Addr} {fd : FuncData} (F : Fun K x qual st f fd) (ps : List Str) (n : Nat) (ks : List Str) (g : List Value → List Value → List Value) (gV : List V → List V → List V)
    (h : ∀ (kV doc pm : Value) (an : Option Addr) (cdv ct : Value) (us ws : List Value), us.length = n → ws.length = ks.length → bindArgs (PySem.W.fnOf x qual (defArgs st) (defBody st) (defScope st) .none kV doc pm an cdv ct) ⟨us, ks.zip ws⟩ = pure (ps.zip (g us ws)))
    (rel : ∀ {vs : List V} {us : List Value} {zs : List V} {ws : List Value}, Vals vs us → Vals zs ws → Vals (gV vs zs) (g us ws)) : KBn K fd ps n ks g gV := by
  obtain ⟨oc, od, kV, doc, pm, an, cdv, ct, osl, rfl, lk, hcd⟩ := F.ex
  exact ⟨fun s us ws X l1 l2 => .of_eq (h kV doc pm an cdv ct us ws l1 l2), rel⟩

/-! ### a comprehension with two clauses, closed off -/
/-- the second clause's loop -/
def Lc1R (J1 : It) (g1 : TG) (tt1 : TT) (te : TE) (vs1 : List Nat) (D : Addr) (σ2 : L2.St) (H4 : Hp) (Nx : Hp → Prop) : Prop := ∃ W1 : Nat → Nat → Hp → Prop, (∃ m, W1 0 m H4) ∧ ∀ j k H, W1 j k H →
  (J1.stop j H ∧ Nx H) ∨ (J1.go j H ∧ ∃ Nx1 : Hp → Prop, (∀ H', Nx1 H' → ∃ k', k' < k ∧ W1 (j + 1) k' H') ∧ ∀ x H', J1.yld j H x H' → g1 x (wipe σ2 vs1) H' fun σ3 H5 => wipe σ3 vs1 = wipe σ2 vs1 ∧ tt1 σ3 H5 fun b H6 =>
    if b = true then te σ3 H6 fun y H7 => ∃ acc, H7 D = some (.lst acc) ∧ acc.length < sizeLine ∧ Nx1 (upd H7 D (.lst (acc ++ [y]))) else Nx1 H6)
def Lc2R (J : It) (g : TG) (tt : TT) (wi1 : TI) (g1 : TG) (tt1 : TT) (te : TE) (vs vs1 : List Nat) (σ : L2.St) (H1 : Hp) (Q : VK) : Prop := ∀ D, H1 D = none → ∃ W : Nat → Nat → Hp → Prop, (∃ m, W 0 m (upd H1 D (.lst []))) ∧ ∀ i m H, W i m H →
  (J.stop i H ∧ Q (.ref D) H) ∨ (J.go i H ∧ ∃ Nx : Hp → Prop, (∀ H', Nx H' → ∃ m', m' < m ∧ W (i + 1) m' H') ∧ ∀ x H', J.yld i H x H' → g x (wipe σ vs) H' fun σ2 H2 => wipe σ2 vs = wipe σ vs ∧ tt σ2 H2 fun b H3 =>
    if b = true then wi1 σ2 H3 fun J1 H4 => Lc1R J1 g1 tt1 te vs1 D σ2 H4 Nx else Nx H3)
theorem tLc2_eq {wi : TI} {g : TG} {tt : TT} {wi1 : TI} {g1 : TG} {tt1 : TT} {te : TE} {vs vs1 : List Nat} {σ : L2.St} {H : Hp} {Q : VK} : tLc2 wi g tt wi1 g1 tt1 te vs vs1 σ H Q = wi σ H fun J H1 => Lc2R J g tt wi1 g1 tt1 te vs vs1 σ H1 Q := rfl
/-- the second clause's loop by an invariant of the turn, what is made so far and the heap -/
theorem lc1_gen {J1 : It} {n : Nat} {G : Hp → Prop} {Y : Nat → Hp → V → Hp → Prop} (w : Walk J1 n G Y) {g1 : TG} {te : TE} {vs1 : List Nat} {D : Addr} {σ2 : L2.St} {H4 : Hp} {Nx : Hp → Prop} (Ia : Nat → List V → Hp → Prop)
    (h0 : ∃ acc, Ia 0 acc H4 ∧ H4 D = some (.lst acc)) (hG : ∀ j acc H, j ≤ n → Ia j acc H → H D = some (.lst acc) → G H) (hst : ∀ j acc H l l0, Ia j acc H → H D = some (.lst l0) → Ia j acc (upd H D (.lst l))) (hz : ∀ j acc H, Ia j acc H → acc.length < sizeLine)
    (hs : ∀ j acc x H H' (Qy : VK), j < n → Ia j acc H → H D = some (.lst acc) → Y j H x H' → (∀ y H7, H7 D = some (.lst acc) → Ia (j + 1) (acc ++ [y]) H7 → Qy y H7) → g1 x (wipe σ2 vs1) H' fun σ3 H5 => wipe σ3 vs1 = wipe σ2 vs1 ∧ te σ3 H5 Qy)
    (hd : ∀ acc H, Ia n acc H → H D = some (.lst acc) → Nx H) : Lc1R J1 g1 tYes te vs1 D σ2 H4 Nx := by
  obtain ⟨acc0, i0, e0⟩ := h0
  refine ⟨fun j k H => k = n - j ∧ j ≤ n ∧ ∃ acc : List V, Ia j acc H ∧ H D = some (.lst acc), ⟨n, by simp, Nat.zero_le _, acc0, i0, e0⟩, ?_⟩
  rintro j k H ⟨rfl, hj, acc, hI, e⟩
  have q := hG j acc H hj hI e
  by_cases hlt : j < n
  · refine .inr ⟨w.goes j H hlt q, fun H' => ∃ acc : List V, Ia (j + 1) acc H' ∧ H' D = some (.lst acc), fun H' ⟨acc', h1, h2⟩ => ⟨n - (j + 1), by omega, rfl, hlt, acc', h1, h2⟩, fun x H' y => ?_⟩
    exact hs j acc x H H' _ hlt hI e (w.yields j H x H' hlt q y) fun y H7 e7 h7 => ⟨acc, e7, hz j acc H hI, acc ++ [y], hst _ _ _ _ _ h7 e7, upd_same⟩
  · have en : j = n := by omega
    subst en
    exact .inl ⟨w.stops H q, hd acc H hI e⟩
theorem lc2_gen {J : It} {n : Nat} {G : Hp → Prop} {Y : Nat → Hp → V → Hp → Prop} (w : Walk J n G Y) {g : TG} {wi1 : TI} {g1 : TG} {te : TE} {vs vs1 : List Nat} {σ : L2.St} {H1 : Hp} {Q : VK} (Ia : Addr → Nat → List V → Hp → Prop)
    (h0 : ∀ D, H1 D = none → Ia D 0 [] (upd H1 D (.lst []))) (hG : ∀ D i acc H, H1 D = none → i ≤ n → Ia D i acc H → H D = some (.lst acc) → G H)
    (hs : ∀ D i acc x H H' (Nx : Hp → Prop), H1 D = none → i < n → Ia D i acc H → H D = some (.lst acc) → Y i H x H' → (∀ acc' H7, H7 D = some (.lst acc') → Ia D (i + 1) acc' H7 → Nx H7) → g x (wipe σ vs) H' fun σ2 H2 => wipe σ2 vs = wipe σ vs ∧ wi1 σ2 H2 fun J1 H4 => Lc1R J1 g1 tYes te vs1 D σ2 H4 Nx)
    (hd : ∀ D acc H, H1 D = none → Ia D n acc H → H D = some (.lst acc) → Q (.ref D) H) : Lc2R J g tYes wi1 g1 tYes te vs vs1 σ H1 Q := fun D hD => by
  refine ⟨fun i k H => k = n - i ∧ i ≤ n ∧ ∃ acc : List V, Ia D i acc H ∧ H D = some (.lst acc), ⟨n, by simp, Nat.zero_le _, [], h0 D hD, upd_same⟩, ?_⟩
  rintro i k H ⟨rfl, hi, acc, hI, e⟩
  have q := hG D i acc H hD hi hI e
  by_cases hlt : i < n
  · refine .inr ⟨w.goes i H hlt q, fun H' => ∃ acc : List V, Ia D (i + 1) acc H' ∧ H' D = some (.lst acc), fun H' ⟨acc', h1, h2⟩ => ⟨n - (i + 1), by omega, rfl, hlt, acc', h1, h2⟩, fun x H' y => ?_⟩
    exact hs D i acc x H H' _ hD hlt hI e (w.yields i H x H' hlt q y) fun acc' H7 e7 h7 => ⟨acc', h7, e7⟩
  · have en : i = n := by omega
    subst en
    exact .inl ⟨w.stops H q, hd D acc H hD hI e⟩
/-- a comprehension with a test: Ia by the turn, what is made so far, and the heap -/
theorem lcr_if {J : It} {n : Nat} {G : Hp → Prop} {Y : Nat → Hp → V → Hp → Prop} (w : Walk J n G Y) {g : TG} {tt : TT} {te : TE} {vs : List Nat} {σ : L2.St} {H1 : Hp} {Q : VK} (Ia : Addr → Nat → List V → Hp → Prop) (hn : n < sizeLine)
    (h0 : ∀ D, H1 D = none → Ia D 0 [] (upd H1 D (.lst []))) (hG : ∀ D i acc H, H1 D = none → i ≤ n → Ia D i acc H → H D = some (.lst acc) → G H) (hst : ∀ D i acc H l, H1 D = none → Ia D i acc H → H D ≠ none → Ia D i acc (upd H D (.lst l)))
    (hs : ∀ D i acc x H H' (Qn : Hp → Prop) (Qy : VK), H1 D = none → i < n → Ia D i acc H → H D = some (.lst acc) → Y i H x H' → (∀ H4, H4 D = some (.lst acc) → Ia D (i + 1) acc H4 → Qn H4) → (∀ y H4, H4 D = some (.lst acc) → Ia D (i + 1) (acc ++ [y]) H4 → Qy y H4) →
      g x (wipe σ vs) H' fun σ2 H2 => wipe σ2 vs = wipe σ vs ∧ tt σ2 H2 fun b H3 => if b = true then te σ2 H3 Qy else Qn H3)
    (hd : ∀ D acc H, H1 D = none → acc.length ≤ n → Ia D n acc H → H D = some (.lst acc) → Q (.ref D) H) : LcR J g tt te vs σ H1 Q := fun D hD => by
  refine lc_it w (fun i H => ∃ acc : List V, acc.length ≤ i ∧ Ia D i acc H ∧ H D = some (.lst acc)) ⟨[], Nat.le_refl _, h0 D hD, upd_same⟩ (fun i H hi ⟨acc, _, h, e⟩ => hG D i acc H hD hi h e) (fun i x H H' hi ⟨acc, hl, h, e⟩ hy => ?_) (fun H ⟨acc, hl, h, e⟩ => hd D acc H hD hl h e)
  refine hs D i acc x H H' _ _ hD hi h e hy (fun H4 e4 h4 => ⟨acc, by omega, h4, e4⟩) fun y H4 e4 h4 => ⟨acc, e4, by omega, acc ++ [y], by rw [List.length_append]; simp; omega, ?_, upd_same⟩
  exact hst _ _ _ _ _ hD h4 (by rw [e4]; simp)
/-! ### gcd and lcm of wide ints -/
def rLcm : List V → Hp → VK → Prop := fun vs H Q => ∃ a b : Int, vs = [.int a, .int b] ∧ a.natAbs < 2 ^ 6000 ∧ b.natAbs < 2 ^ 6000 ∧ Q (.int ((Nat.lcm a.natAbs b.natAbs : Nat) : Int)) H
theorem lcm_le_mul (m n : Nat) : m.lcm n ≤ m * n := by
  unfold Nat.lcm
  exact Nat.div_le_self _ _
theorem cr_lcm {X : Cx} : CallR X (.builtin "math.lcm") rLcm := by
  intro pins s σ H vs us Q I r h
  obtain ⟨a, b, rfl, ha, hb, q⟩ := h
  obtain ⟨t, u, rfl⟩ := Vals.int2 r
  have e1 : (Nat.lcm 1 a.natAbs) = a.natAbs := by simp [Nat.lcm]
  have lg : ∀ m : Nat, m < 2 ^ 6000 → m.log2 < 6000 := fun m hm => by
    by_cases h0 : m = 0
    · subst h0; decide
    · exact (Nat.log2_lt h0).mpr hm
  have m1 : max 1 a.natAbs < 2 ^ 6000 := by
    have : (1 : Nat) < 2 ^ 6000 := Nat.one_lt_two_pow (by decide)
    omega
  have m2 : max a.natAbs b.natAbs < 2 ^ 6000 := by omega
  have l1 := lg _ m1
  have l2 := lg _ m2
  have hl : (((Nat.lcm 1 a.natAbs).lcm b.natAbs : Nat) : Int).natAbs.log2 < bitsLine := by
    rw [e1, Int.natAbs_natCast]
    have h1 : a.natAbs.lcm b.natAbs ≤ a.natAbs * b.natAbs := lcm_le_mul _ _
    have h2 : a.natAbs * b.natAbs < 2 ^ 12000 := by
      rw [show (12000 : Nat) = 6000 + 6000 by rfl, Nat.pow_add]
      exact Nat.mul_lt_mul'' ha hb
    have eb : bitsLine = 134217728 := by decide
    rw [eb]
    by_cases h0 : a.natAbs.lcm b.natAbs = 0
    · rw [h0]; decide
    · have h3 : (a.natAbs.lcm b.natAbs).log2 < 12000 := (Nat.log2_lt h0).mpr (Nat.lt_of_le_of_lt h1 h2)
      omega
  refine call_function_meets PySem.W.MGF.kind_lcm PySem.W.MGF.plain_lcm PySem.W.MGF.entry_lcm (PySem.W.MGF.args_lcm _ _) (PySem.W.mg_run_lcm a t b u (by omega) (by omega) hl).meets ?_
  rw [e1]
  exact ⟨.int _, H, I.tok _, ⟨_, rfl⟩, q⟩
/-- *t, .. in a display: t a tracked tuple -/
def tStarH (te : TE) (t : TA) : TA := fun σ H Q => te σ H fun x H1 => ∃ p, x = .ref p ∧ ∃ xs, H1 p = some (.tup xs) ∧ t σ H1 fun ys H2 => Q (xs ++ ys) H2
theorem pa_starH {X : Cx} {e : Expr} {es : List Expr} {te : TE} {t : TA} {p : Pos} (he : PE X e te) (hr : PA X es t) (hs : starEach (.Starred e p :: es) X.env = (true, eval e X.env) :: starEach es X.env := by rfl) : PA X (.Starred e p :: es) (tStarH te t) := by
  refine ⟨fun pos pins s σ H Q I h => ?_⟩
  refine PySem.W.items_star (thn (he.run pins s σ H _ I h) fun v s1 ⟨y, H1, I1, ry, a, ey, xs, hx, q⟩ => ?_) hs
  subst ey
  obtain rfl : v = Value.ref a := ry
  refine StX.star_any I1 (.inl (.inl (.inl hx))) fun us s2 I2 rv => ?_
  exact thn (hr.run pos pins s2 σ H1 _ I2 q) fun ws s3 ⟨vs, H3, I3, r3, q3⟩ => ⟨xs ++ vs, H3, I3, rv.append r3, q3⟩
end Cs

/-! tuple * 1, tests of bools -/
namespace Cs
open PySem PySem.Spec PyProof.Rows L2
theorem tuple_mul_one (l : Addr) (items : Array Value) (n : Nat) (dd : Option Addr) (sl : Array (Option Value)) (u : Tok) :
    Meets (Builtin.«tuple.__mul__» ⟨[.ref l, .int 1 u], []⟩) (fun _ R s => s.heap.get? l = some { cls := .type "tuple", dict := dd, data := .seq items n, slots := sl } ∧ R (.ok (.ret (Value.ref l))) s) :=
  .of_wp fun prog w A R s h => by
    obtain ⟨hp, g, d, tk, os⟩ := s
    obtain ⟨hl, h⟩ := h
    have f1 := AutoSeq1.idx_int
    have c0 : (decide ((1 : Int) < -(2 ^ 63)) || decide ((1 : Int) ≥ 2 ^ 63)) = false := by decide
    have c1 : (items.isEmpty || (1 : Int) == 1) = true := by simp
    wp_walk using wpAny_loadPart' hl
    repeat (first
      | (refine wpAny_ite_false (decide_eq_false (by rw [c0]; exact Bool.false_ne_true)) ?_; wp_walk using wpAny_loadPart' hl)
      | (refine wpAny_ite_true (decide_eq_true (by rw [c1])) ?_; wp_walk using wpAny_loadPart' hl))
    exact ⟨_, rfl, h⟩
/-- a tuple times a count of at least one -/
def rRepA (K : PySem.W.Frag) : R2 := fun x y H Q => ∃ (l : Addr) (k : Nat) (xs : List V), x = .ref l ∧ y = .int k ∧ H l = some (.tup xs) ∧ xs ≠ [] ∧ 1 ≤ k ∧ k ≤ 1000 ∧ xs.length ≤ 1000 ∧ ∀ p H', Same H H' → H' p = some (.tup (List.replicate k xs).flatten) → Q (.ref p) H'
section
variable {X : Cx}
theorem op_repA : OpR X (binaryOp .Mult) (rRepA X.K) := by
  intro pins s σ H x y v u Q I rx ry h
  obtain ⟨l, k, xs, rfl, rfl, hT, hne, h1, h2, hz, q⟩ := h
  by_cases hk : 2 ≤ k
  · refine op_repT pins s σ H _ _ _ _ Q I rx ry ⟨l, k, xs, rfl, rfl, .inl (.inl hT), hne, by omega, by omega, hz, fun p hp => ?_⟩
    have e : ((k : Nat) : Int).toNat = k := by simp
    rw [e]
    exact q p _ (Same.new hp) upd_same
  · obtain rfl : k = 1 := by omega
    cases rx
    obtain ⟨t, rfl⟩ := ry
    obtain ⟨its, r, ⟨⟨cls, dd, data, sl⟩, ho, hc, n, hd⟩, hs⟩ := I.tuple (.inl (.inl hT))
    simp only at hc hd
    subst hc hd
    refine wpAny_binaryOp_repeat_ref (T := "tuple") (U := "int") (by decide) ⟨_, ho, rfl⟩ (fun s' => typeIs_int s' 1 t) noFill_tuple_mul F.fills_int_mul F.slot_int_rmul repeat_tuple F.slot_int_index.lookup
      (call_meets F.slot_int_rmul (typeIs_int s 1 t) F.entry_int_rmul (F.args_int_rmul_2 _ _) (int_rmul_tuple 1 t l its.toArray n dd sl)
        ⟨ho, rfl, ⟨_, ho, rfl⟩, call_meets F.slot_tuple_mul ⟨_, ho, rfl⟩ F.entry_tuple_mul (F.args_tuple_mul_2 _ _) (tuple_mul_one l its.toArray n dd sl t) ⟨ho, ?_⟩⟩)
    refine ⟨.ref l, _, I, rfl, q l H (Same.refl _) ?_⟩
    rw [hT]
    simp
end
/-- tuples of ints at the addresses as -/
def AsT (H : Hp) (as : List Addr) (hss : List (List Int)) : Prop := as.length = hss.length ∧ ∀ (i : Nat) t hs, as[i]? = some t → hss[i]? = some hs → H t = some (.tup (hs.map V.int))
theorem AsT.same {H H' : Hp} {as : List Addr} {hss : List (List Int)} (e : Same H H') (h : AsT H as hss) : AsT H' as hss := ⟨h.1, fun i t hs h1 h2 => e _ _ (h.2 i t hs h1 h2)⟩
theorem AsT.nil {H : Hp} : AsT H [] [] := ⟨rfl, fun i t hs h _ => by simp at h⟩
theorem AsT.snoc {H : Hp} {as : List Addr} {hss : List (List Int)} {t : Addr} {hs : List Int} (h : AsT H as hss) (ht : H t = some (.tup (hs.map V.int))) : AsT H (as ++ [t]) (hss ++ [hs]) := by
  refine ⟨by rw [List.length_append, List.length_append, h.1]; rfl, fun i u gs h1 h2 => ?_⟩
  by_cases hlt : i < as.length
  · rw [List.getElem?_append_left hlt] at h1
    rw [List.getElem?_append_left (by rw [← h.1]; exact hlt)] at h2
    exact h.2 i u gs h1 h2
  · rw [List.getElem?_append_right (by omega)] at h1
    rw [List.getElem?_append_right (by rw [← h.1]; omega), ← h.1] at h2
    cases hk : i - as.length with
    | zero =>
      rw [hk] at h1 h2
      simp only [List.getElem?_cons_zero, Option.some.injEq] at h1 h2
      rw [← h1, ← h2]; exact ht
    | succ m => rw [hk] at h1; simp at h1
/-- a list of tuples of ints, at a -/
def LstT (H : Hp) (a : Addr) (hss : List (List Int)) : Prop := ∃ as : List Addr, H a = some (.lst (as.map V.ref)) ∧ AsT H as hss
theorem LstT.same {H H' : Hp} {a : Addr} {hss : List (List Int)} (e : Same H H') (h : LstT H a hss) : LstT H' a hss := by
  obtain ⟨as, h1, h2⟩ := h
  exact ⟨as, e _ _ h1, h2.same e⟩
theorem scal_bl (b c : Bool) : scal (.bl b) (.bl c) = true := rfl
theorem dpAll_tups {K : PySem.W.Frag} {H : Hp} : ∀ {as : List Addr} {hss : List (List Int)}, AsT H as hss → DpAll K H (as.map V.ref) (hss.map tupI)
  | [], [], _ => .nil
  | [], _ :: _, h => by have := h.1; simp at this
  | _ :: _, [], h => by have := h.1; simp at this
  | a :: as, hs :: hss, h => .cons (dp_tupI (.inl (.inl (h.2 0 a hs rfl rfl)))) (dpAll_tups ⟨by simpa using h.1, fun i t gs h1 h2 => h.2 (i + 1) t gs h1 h2⟩)
theorem canLay_tups : ∀ hss : List (List Int), PyData.canLayAll0 (hss.map tupI) = true
  | [] => rfl
  | hs :: hss => by
    show (PyData.canLay0 (tupI hs) && PyData.canLayAll0 (hss.map tupI)) = true
    rw [canLay_tups hss, show PyData.canLay0 (tupI hs) = true from canLay_ints hs]
    rfl
theorem depth_tups : ∀ hss : List (List Int), PyData.depthAll (hss.map tupI) ≤ 1
  | [] => by decide
  | hs :: hss => by
    show max (PyData.depth (tupI hs)) (PyData.depthAll (hss.map tupI)) ≤ 1
    rw [depth_tupI]
    have := depth_tups hss
    omega
theorem shaped_tups (hss : List (List Int)) : SeqAt.shaped (.list (hss.map tupI)) = true := by
  have h1 : PyData.canLay0 (.list (hss.map tupI)) = true := canLay_tups hss
  have h2 : PyData.depth (.list (hss.map tupI)) ≤ 64 := by
    show PyData.depthAll (hss.map tupI) + 1 ≤ 64
    have := depth_tups hss
    omega
  unfold SeqAt.shaped
  rw [h1, decide_eq_true h2]
  rfl
theorem any_tups (ns : List Int) : ∀ hss : List (List Int), ((hss.map tupI).any fun z => PyData.eqv z (tupI ns)) = decide (ns ∈ hss)
  | [] => by simp
  | hs :: hss => by
    rw [List.map_cons, List.any_cons, any_tups ns hss, eqv_tupI]
    by_cases h : hs = ns
    · subst h; simp
    · have h' : ¬ ns = hs := fun e => h e.symm
      simp [h, h']
section
variable {K : PySem.W.Frag} {H : Hp} {a b : Addr} {ns ms : List Int} {hss : List (List Int)} {Q : VK}
theorem dp_lstT (h : LstT H a hss) : Dp K H (.ref a) (.list (hss.map tupI)) := by
  obtain ⟨as, h1, h2⟩ := h
  exact .lst (.inl (.inl h1)) (dpAll_tups h2)
theorem inD_tups (h1 : H a = some (.tup (ns.map V.int))) (h2 : LstT H b hss) (q : Q (.bl (decide (ns ∈ hss))) H) : rInD K (.ref a) (.ref b) H Q :=
  ⟨_, _, dp_tupI (.inl (.inl h1)), dp_lstT h2, shaped_tupI _, shaped_tups _, by rw [any_tups]; exact q⟩
theorem notInD_tups (h1 : H a = some (.tup (ns.map V.int))) (h2 : LstT H b hss) (q : Q (.bl (!decide (ns ∈ hss))) H) : rNotInD K (.ref a) (.ref b) H Q :=
  ⟨_, _, dp_tupI (.inl (.inl h1)), dp_lstT h2, shaped_tupI _, shaped_tups _, by rw [any_tups]; exact q⟩
theorem shaped_lstI (ns : List Int) : SeqAt.shaped (.list (ns.map PyData.int)) = true := by
  have h1 : PyData.canLay0 (.list (ns.map PyData.int)) = true := canLay_ints ns
  have h2 : PyData.depth (.list (ns.map PyData.int)) ≤ 64 := by
    show PyData.depthAll (ns.map PyData.int) + 1 ≤ 64
    rw [depth_ints ns]
    decide
  unfold SeqAt.shaped
  rw [h1, decide_eq_true h2]
  rfl
theorem eqv_lstI (ns ms : List Int) : PyData.eqv (.list (ns.map PyData.int)) (.list (ms.map PyData.int)) = decide (ns = ms) := eqvAll_ints ns ms
theorem eqD_lst (h1 : H a = some (.lst (ns.map V.int))) (h2 : H b = some (.lst (ms.map V.int))) (q : Q (.bl (decide (ns = ms))) H) : rEqD K (.ref a) (.ref b) H Q :=
  ⟨_, _, .lst (.inl (.inl h1)) (dpAll_ints ns), .lst (.inl (.inl h2)) (dpAll_ints ms), shaped_lstI _, shaped_lstI _, by rw [eqv_lstI]; exact q⟩
theorem neD_lst (h1 : H a = some (.lst (ns.map V.int))) (h2 : H b = some (.lst (ms.map V.int))) (q : Q (.bl (!decide (ns = ms))) H) : rNeD K (.ref a) (.ref b) H Q :=
  ⟨_, _, .lst (.inl (.inl h1)) (dpAll_ints ns), .lst (.inl (.inl h2)) (dpAll_ints ms), shaped_lstI _, shaped_lstI _, by rw [eqv_lstI]; exact q⟩
theorem eqv_tups : ∀ (hss gss : List (List Int)), PyData.eqvAll (hss.map tupI) (gss.map tupI) = decide (hss = gss)
  | [], [] => rfl
  | [], _ :: _ => rfl
  | _ :: _, [] => rfl
  | hs :: hss, gs :: gss => by
    show (PyData.eqv (tupI hs) (tupI gs) && PyData.eqvAll (hss.map tupI) (gss.map tupI)) = _
    rw [eqv_tups hss gss, eqv_tupI]
    by_cases h : hs = gs <;> by_cases h2 : hss = gss <;> simp [h, h2]
theorem neD_tups {gss : List (List Int)} (h1 : LstT H a hss) (h2 : LstT H b gss) (q : Q (.bl (!decide (hss = gss))) H) : rNeD K (.ref a) (.ref b) H Q :=
  ⟨_, _, dp_lstT h1, dp_lstT h2, shaped_tups _, shaped_tups _, by rw [show PyData.eqv (.list (hss.map tupI)) (.list (gss.map tupI)) = decide (hss = gss) from eqv_tups hss gss]; exact q⟩
end
theorem _root_.L2.Room.units1 {k : Nat} {A : Around} (r : Room k A) : A.units + 65 < cLine := by have := r.un; omega
theorem call_isIK {X : Cx} {K : PySem.W.Frag} (h : X.K = K) : CallR X (.builtin "isinstance") (rIsI K) := by subst h; exact call_isI
theorem call_isAK {X : Cx} {K : PySem.W.Frag} (h : X.K = K) : CallR X (.builtin "isinstance") (rIsA K) := by subst h; exact call_isA
end Cs

/-! sets of tuples of ints: set(), x in s, x not in s, s.add(x) -/
namespace Cs
open PySem PySem.Spec PyProof.Rows L2
section
variable {P : Program} {w : World} {A : Around} {E : Value → Shared → Prop} {s : Shared} {a : Addr} {L : List (Addr × List Int)} {es : Array (Int × Value)} {ep : Nat} {t : SetTable}
/-- the c-th probe of a search for a hash -/
abbrev pr (t : SetTable) (h : Int) (c : Nat) : SetTable.Probe := nth t.mask (runAt t.mask (SetTable.bits h % (t.mask + 1)) (SetTable.bits h)) c
theorem nth_clean (m : Nat) : ∀ (n : Nat) (p : SetTable.Probe), p.dummy = none → (nth m p n).dummy = none
  | 0, p, h => h
  | n + 1, p, h => nth_clean m n (adv m p) (by unfold adv; split <;> exact h)
/-- what the table's probe meets from the c-th place on: a row of the same hash, or the empty slot -/
theorem probe_at (R : SetTR P w s.heap a L es ep t) {k : List Int} {K c : Nat} (hKf : K < 10 * SetTable.turns t.mask) (hK : way t.mask (thash P w k) K ∉ t.place.toList) (hKb : ∀ c, c < K → way t.mask (thash P w k) c ∈ t.place.toList) (hc : c ≤ K) :
    (∃ q i p, c + q < K ∧ t.place.toList[i]? = some (way t.mask (thash P w k) (c + q)) ∧ L[i]? = some p ∧
      (∀ (q' i' : Nat) (p' : Addr × List Int), q' < q → L[i']? = some p' → t.place.toList[i']? = some (way t.mask (thash P w k) (c + q')) → p'.2 ≠ k) ∧
      t.probe (fun i => (es[i]?.map (·.1)).getD 0) (thash P w k) (pr t (thash P w k) c) = some (.candidate (way t.mask (thash P w k) (c + q)) i (pr t (thash P w k) (c + q + 1)))) ∨
    ((∀ (q' i' : Nat) (p' : Addr × List Int), c + q' < K → L[i']? = some p' → t.place.toList[i']? = some (way t.mask (thash P w k) (c + q')) → p'.2 ≠ k) ∧
      t.probe (fun i => (es[i]?.map (·.1)).getD 0) (thash P w k) (pr t (thash P w k) c) = some (.empty (way t.mask (thash P w k) K) none)) := by
  have shift : ∀ q, nth t.mask (pr t (thash P w k) c) q = pr t (thash P w k) (c + q) := fun q => (nth_add t.mask c _ q).symm
  have shj : ∀ q, (nth t.mask (pr t (thash P w k) c) q).j = way t.mask (thash P w k) (c + q) := fun q => congrArg SetTable.Probe.j (shift q)
  have hash : ∀ (i : Nat) p, L[i]? = some p → (fun i => (es[i]?.map (·.1)).getD 0) i = thash P w p.2 := fun i p hp => by
    show (es[i]?.map (·.1)).getD 0 = _
    rw [R.entry hp]
    rfl
  have same : ∀ {i : Nat} {p : Addr × List Int}, L[i]? = some p → (fun i => (es[i]?.map (·.1)).getD 0) i ≠ thash P w k → p.2 ≠ k := fun {i p} hp hne e => hne (by rw [hash i p hp, e])
  rcases go_spec t R.tab.ris R.tab.dm (fun i => (es[i]?.map (·.1)).getD 0) (thash P w k) (10 * SetTable.turns t.mask) (K - c) (pr t (thash P w k) c) (nth_clean _ _ _ rfl) (by omega)
    (fun q hq => by rw [shj]; exact hKb _ (by omega)) (by rw [shj, show c + (K - c) = K by omega]; exact hK) with ⟨q, i, hq, hi, _, hno, hp⟩ | ⟨hno, hp⟩
  · left
    rw [shj] at hi
    have hil : i < L.length := by
      have h1 := (List.getElem?_eq_some_iff.mp hi).1
      have h2 := R.tab.sz
      rw [List.length_map] at h2
      rw [Array.length_toList] at h1
      omega
    refine ⟨q, i, L[i], by omega, hi, List.getElem?_eq_getElem hil, fun q' i' p' h1 h2 h3 => same h2 (hno q' i' h1 (by rw [shj]; exact h3)), ?_⟩
    rw [shj, shift] at hp
    exact hp
  · right
    refine ⟨fun q' i' p' h1 h2 h3 => same h2 (hno q' i' (by omega) (by rw [shj]; exact h3)), ?_⟩
    rw [shj, show c + (K - c) = K by omega] at hp
    exact hp
/-- the search that a question asks for -/
theorem look_from (R : SetTR P w s.heap a L es ep t) {x : Addr} {k : List Int} (hx : IsT P w s.heap k x) (hu : A.units < cLine) {K : Nat} (hKf : K < 10 * SetTable.turns t.mask) (hK : way t.mask (thash P w k) K ∉ t.place.toList)
    (hKb : ∀ c, c < K → way t.mask (thash P w k) c ∈ t.place.toList) {Q : SetFound → Shared → Prop} (hin : k ∈ L.map (·.2) → ∀ i, Q (.there (some i)) s) (hout : k ∉ L.map (·.2) → ∀ j, Q (.free j false) s) :
    ∀ (f c : Nat) (st : Option SetTable.Probe), st.getD (t.probeStart (thash P w k)) = pr t (thash P w k) c → c ≤ K → K - c < f →
      (∀ (i : Nat) p, L[i]? = some p → p.2 = k → ∃ c', c ≤ c' ∧ c' < K ∧ t.place.toList[i]? = some (way t.mask (thash P w k) c')) → wpAny (model P w) A (setSearchFrom a (.ref x) (thash P w k) false f st) Q E s := by
  intro f
  induction f with
  | zero => intro c st _ _ h _; exact absurd h (Nat.not_lt_zero _)
  | succ f ih =>
    intro c st hst hc hf hre
    obtain ⟨o, ho, hex, hd⟩ := R.ob
    rw [setSearchFrom_succ]
    refine wpAny_bind (wpAny_setState_of ho hd R.fits ?_)
    dsimp only
    refine wp_if_neg R.gw ?_
    try refine wpAny_bind (wpAny_pure ?_)
    rw [hst]
    rcases probe_at R hKf hK hKb hc with ⟨q, i, p, hq, hi, hp, hno, e⟩ | ⟨hno, e⟩
    · rw [e]
      dsimp only
      have hm : p ∈ L := List.mem_of_getElem? hp
      have live : t.slot (way t.mask (thash P w k) (c + q)) = .live i := slot_live R.tab.ris hi
      have rest : wpAny (model P w) A (searchRest a (.ref x) (thash P w k) false f es t (way t.mask (thash P w k) (c + q)) i (pr t (thash P w k) (c + q + 1))) Q E s := by
        unfold searchRest
        rw [R.entry hp]
        dsimp only
        refine wpAny_bind (wpAny_holding (wpAny_eqBool_tuple hu (R.tup p hm) hx ?_))
        refine wpAny_bind (wpAny_setState_of ho hd R.fits ?_)
        dsimp only
        refine wp_if_neg (by simp) ?_
        try refine wpAny_bind (wpAny_pure ?_)
        rw [sameMem]
        dsimp only
        simp only [if_true, live, R.entry hp]
        refine wpAny_bind (wpAny_isSame_ref_self (wpAny_bind (wpAny_pure ?_)))
        simp only [if_true]
        by_cases hk : p.2 = k
        · refine wp_if_pos (by simp [hk]) ?_
          exact wpAny_pure (hin (List.mem_map.mpr ⟨p, hm, hk⟩) i)
        · refine wp_if_neg (by simp [hk]) ?_
          refine ih (c + q + 1) _ rfl (by omega) (by omega) fun i0 p0 h0 hk0 => ?_
          obtain ⟨c', a1, a2, a3⟩ := hre i0 p0 h0 hk0
          refine ⟨c', ?_, a2, a3⟩
          by_cases h1 : c' < c + q
          · exact absurd hk0 (hno (c' - c) i0 p0 (by omega) h0 (by rw [show c + (c' - c) = c' by omega]; exact a3))
          · by_cases h2 : c' = c + q
            · exfalso
              have l2 := slot_live R.tab.ris a3
              rw [h2, live] at l2
              injection l2 with l2
              rw [← l2, hp] at h0
              exact hk ((congrArg Prod.snd (Option.some.inj h0)).trans hk0)
            · omega
      by_cases hl : t.led = true
      · refine wp_if_neg (by simp [hl]) ?_
        try refine wpAny_bind (wpAny_pure ?_)
        exact rest
      · refine wp_if_pos (by simp [hl]) ?_
        refine wpAny_bind (seen_tup hx (fun y hy => ?_) ?_)
        · obtain ⟨e1, he1, rfl⟩ := List.mem_map.mp hy
          have he2 : e1 ∈ es.toList := by
            have h1 : e1 ∈ es ∧ e1.1 = thash P w k := by simpa using he1
            simpa using h1.1
          rw [R.rows] at he2
          obtain ⟨p2, hp2, rfl⟩ := List.mem_map.mp he2
          exact ⟨p2.2, p2.1, rfl, R.tup p2 hp2⟩
        · refine wp_if_neg (by decide) ?_
          try refine wpAny_bind (wpAny_pure ?_)
          exact rest
    · rw [e]
      dsimp only
      refine wpAny_pure (hout (fun hm => ?_) _)
      obtain ⟨p0, h0, hk0⟩ := List.mem_map.mp hm
      obtain ⟨i0, hi0, e0⟩ := List.getElem_of_mem h0
      have h00 : L[i0]? = some p0 := by rw [List.getElem?_eq_getElem hi0, e0]
      obtain ⟨c', a1, a2, a3⟩ := hre i0 p0 h00 hk0
      exact hno (c' - c) i0 p0 (by omega) h00 (by rw [show c + (c' - c) = c' by omega]; exact a3) hk0
theorem look_at (R : SetTR P w s.heap a L es ep t) {x : Addr} {k : List Int} (hx : IsT P w s.heap k x) (hu : A.units < cLine) {Q : SetFound → Shared → Prop} (hin : k ∈ L.map (·.2) → ∀ i, Q (.there (some i)) s) (hout : k ∉ L.map (·.2) → ∀ j, Q (.free j false) s) :
    wpAny (model P w) A (setSearch a (.ref x) (thash P w k)) Q E s := by
  have hroom := R.room
  obtain ⟨K, hKf, hK, hKb⟩ := R.tab.first (by rw [List.length_map]; omega) (thash P w k)
  have hbig : K < 100000 := by
    have : 10 * SetTable.turns t.mask ≤ 1420 := by
      unfold SetTable.turns
      rcases R.tab.mok with e | e | e <;> omega
    omega
  unfold setSearch
  refine look_from R hx hu hKf hK hKb hin hout 100000 0 none rfl (Nat.zero_le _) (by omega) fun i p hp hk => ?_
  have hi : (L.map fun p => thash P w p.2)[i]? = some (thash P w k) := by rw [List.getElem?_map, hp, ← hk]; rfl
  have hil : i < t.place.toList.length := by
    have h1 : i < L.length := (List.getElem?_eq_some_iff.mp hp).1
    have h2 := R.tab.sz
    rw [List.length_map] at h2
    rw [Array.length_toList]
    omega
  obtain ⟨c, hc, e⟩ := R.tab.before hK hi (List.getElem?_eq_getElem hil)
  exact ⟨c, Nat.zero_le _, hc, by rw [List.getElem?_eq_getElem hil, e]⟩
/-- x in s at the model's level -/
theorem find_tup (R : SetTR P w s.heap a L es ep t) {x : Addr} {k : List Int} (hx : IsT P w s.heap k x) (hu : A.units < cLine) {Q : Option Nat → Shared → Prop} (h : ∀ r, r.isSome = decide (k ∈ L.map (·.2)) → Q r s) :
    wpAny (model P w) A (setFind a (.ref x) (thash P w k)) Q E s := by
  obtain ⟨o, ho, hex, hd⟩ := R.ob
  unfold setFind
  rw [show (100000 : Nat) = 99999 + 1 from rfl]
  unfold setFindIn
  refine wpAny_bind (wpAny_setState_of ho hd R.fits ?_)
  dsimp only
  refine wp_if_neg (by simp [byScan, Value.scannable]) ?_
  try refine wpAny_bind (wpAny_pure ?_)
  refine wpAny_bind (look_at R hx hu (fun hm i => ?_) fun hm j => ?_)
  · exact wpAny_pure (h _ (by rw [decide_eq_true hm]; rfl))
  · exact wpAny_pure (h _ (by rw [decide_eq_false hm]; rfl))
end
section
variable {X : Cx}
theorem setTO_got {pins : List (Addr × Obj)} {σ : L2.St} {H : Hp} {s : Shared} {a : Addr} {L : List (Addr × List Int)} (I : Inv X pins σ H s) (ha : H a = some (SetTO X.prog X.w a L)) (hk : ∀ p ∈ L, H p.1 = some (.tup (p.2.map V.int))) :
    ∃ es ep t, SetTR X.prog X.w s.heap a L es ep t := (I.hok a _ ha).1.full fun p hp => I.isT (.inl (.inl (hk p hp)))
/-- set(), to be filled with tuples of ints -/
def rSet0T (P : Program) (w : World) : List V → Hp → VK → Prop := fun xs H Q => xs = [] ∧ ∀ p, H p = none → Q (.ref p) (upd H p (SetTO P w p []))
theorem cr_set0T : CallR X (.type "set") (rSet0T X.prog X.w) := by
  intro pins s σ H xs us Q I r h
  obtain ⟨rfl, q⟩ := h
  cases r
  refine setR_new fun _ => ?_
  exact ⟨.ref _, upd H s.heap.objs.size (SetTO X.prog X.w s.heap.objs.size []), I.laid (t' := s.toks) (fun b u e => Heap.get?_push_of_some _ e) (Nat.le_refl _) (setTO_new (setTR_fresh (Heap.get?_push_size _ rfl)).t0), rfl, q _ (I.hok.fresh (Nat.le_refl _))⟩
/-- t in s, t not in s -/
def rInT (P : Program) (w : World) (neg : Bool) : R2 := fun x y H Q => ∃ (b a : Addr) (k : List Int) (L : List (Addr × List Int)), x = .ref b ∧ y = .ref a ∧ H b = some (.tup (k.map V.int)) ∧ H a = some (SetTO P w a L) ∧ (∀ p ∈ L, H p.1 = some (.tup (p.2.map V.int))) ∧
  Q (.bl (if neg then !decide (k ∈ L.map (·.2)) else decide (k ∈ L.map (·.2)))) H
theorem contains_tup {P : Program} {w : World} {A : Around} {E : Value → Shared → Prop} {s : Shared} {a x : Addr} {L : List (Addr × List Int)} {es : Array (Int × Value)} {ep : Nat} {t : SetTable} {k : List Int} {Q : Bool → Shared → Prop}
    (R : SetTR P w s.heap a L es ep t) (hx : IsT P w s.heap k x) (hu : A.units + 64 < cLine) (h : ∀ tk, Q (decide (k ∈ L.map (·.2))) { s with toks := tk }) : wpAny (model P w) A (contains (.ref a) (.ref x)) Q E s := by
  obtain ⟨o, ho, hex, hd⟩ := id R.ob
  have ty : s.TypeIs (.ref a) "set" := ⟨o, ho, hex.1⟩
  have hu1 : A.in1.units < cLine := by
    show A.units + 1 < cLine
    omega
  unfold contains
  try with_reducible refine wpAny_holding ?_
  refine wpAny_bind (wpAny_specialOf ty F.slot_set_contains.lookup ?_)
  show wpAny _ _ (if (some (Value.builtin "set.__contains__") == some Value.none) = true then _ else _) _ E s
  rw [if_neg (by rw [beq_builtin_none]; exact Bool.false_ne_true)]
  refine wpAny_bind (wpAny_callSpecialUnlessNone?_slot (name := Str.ofString "__contains__") ty F.slot_set_contains
    (wpAny_call_entry F.slot_set_contains ty entry_set_contains ?_ (F.args_set_contains_2 _ _)))
  unfold Builtin.«frozenset.__contains__» Builtin.Frozenset.oneOther
  simp only [List.isEmpty_nil, bind_assoc]
  unfold Builtin.Frozenset.addrOf Builtin.Frozenset.withSetAsKey setContains
  refine wpAny_bind (wpAny_pure ?_)
  try dsimp only
  refine wpAny_bind (wpAny_pure ?_)
  try dsimp only
  refine wpAny_bind (wpAny_tryCatch ?_)
  refine wpAny_holding ?_
  refine wpAny_bind (wpAny_pyHash_tuple hu1 hx ?_)
  refine wpAny_bind (find_tup (s := { s with toks := s.toks + (k.length + 1) }) R hx hu1 fun r hr => ?_)
  refine wpAny_pure ?_
  show wpAny _ _ (ret (Value.bool r.isSome)) _ _ _
  rw [hr]
  exact wpAny_pure ⟨_, rfl, wpAny_truthy_bool (h _)⟩
theorem op_inT (hu : X.A.units + 64 < cLine) : OpR X (compareOp .In) (rInT X.prog X.w false) := by
  intro pins s σ H x y v u Q I rx ry h
  obtain ⟨b, a, k, L, rfl, rfl, hb, ha, hk, q⟩ := h
  cases rx
  cases ry
  obtain ⟨es, ep, t, R⟩ := setTO_got I ha hk
  show wpAny _ _ ((contains (Value.ref a) (Value.ref b)) >>= fun b => pure (Value.bool b)) _ _ s
  exact wpAny_bind (contains_tup R (I.isT (.inl (.inl hb))) hu fun tk => wpAny_pure ⟨.bl _, H, I.tok _, rfl, q⟩)
theorem op_notInT (hu : X.A.units + 64 < cLine) : OpR X (compareOp .NotIn) (rInT X.prog X.w true) := by
  intro pins s σ H x y v u Q I rx ry h
  obtain ⟨b, a, k, L, rfl, rfl, hb, ha, hk, q⟩ := h
  cases rx
  cases ry
  obtain ⟨es, ep, t, R⟩ := setTO_got I ha hk
  show wpAny _ _ ((contains (Value.ref a) (Value.ref b)) >>= fun b => pure (Value.bool !b)) _ _ s
  exact wpAny_bind (contains_tup R (I.isT (.inl (.inl hb))) hu fun tk => wpAny_pure ⟨.bl _, H, I.tok _, rfl, q⟩)
/-- s.add(t) -/
def rAddT (P : Program) (w : World) : V → List V → Hp → VK → Prop := fun x xs H Q => ∃ (b a : Addr) (k : List Int) (L : List (Addr × List Int)), x = .ref a ∧ xs = [.ref b] ∧ H b = some (.tup (k.map V.int)) ∧ H a = some (SetTO P w a L) ∧ (∀ p ∈ L, H p.1 = some (.tup (p.2.map V.int))) ∧ L.length + 1 < 64 ∧
  ∀ L', (k ∈ L.map (·.2) → L' = L) → (k ∉ L.map (·.2) → L'.Perm ((b, k) :: L)) → Q .non (upd H a (SetTO P w a L'))
theorem mt_addT (hu : X.A.units + 64 < cLine) : MtR X "set.add" (rAddT X.prog X.w) := by
  intro pins s σ H x xs v us Q I rx rxs h
  obtain ⟨b, a, k, L, rfl, rfl, hb, ha, hk, hl, q⟩ := h
  cases rx
  cases rxs with
  | cons ry rt =>
    cases rt
    cases ry
    obtain ⟨es, ep, t, R⟩ := setTO_got I ha hk
    obtain ⟨o, ho, hex, hd⟩ := id R.ob
    have ty : s.TypeIs (.ref a) "set" := ⟨o, ho, hex.1⟩
    have hx := I.isT (.inl (.inl hb)) (b := b) (k := k)
    refine wpAny_call_entry F.slot_set_add ty F.entry_set_add ?_ (F.args_set_add_2 _ _)
    have hu1 : X.A.in1.units < cLine := by
      show X.A.units + 1 < cLine
      omega
    unfold Builtin.«set.add» Builtin.Frozenset.oneOther
    simp only [List.isEmpty_nil, bind_assoc]
    unfold Builtin.Frozenset.addrOf setAdd
    refine wpAny_bind (wpAny_pure ?_)
    try dsimp only
    refine wpAny_bind (wpAny_pure ?_)
    try dsimp only
    refine wpAny_bind ?_
    refine wpAny_holding ?_
    refine wpAny_bind (wpAny_pyHash_tuple hu1 hx ?_)
    refine add_at (s := { s with toks := s.toks + (k.length + 1) }) R hx hu1 hl fun b' h' L' es' ep' t' sb R' c1 c2 => ?_
    show wpAny _ _ (ret Value.none) _ _ _
    obtain ⟨o', ho', _⟩ := R'.ob
    exact wpAny_pure ⟨_, rfl, .non, upd H a (SetTO X.prog X.w a L'), I.write (e := a) (t' := s.toks + (k.length + 1)) (by rw [ha]; trivial) (.inl rfl) (fun c u hc hu => (sb.2 c hc).trans hu) ⟨o', ho'⟩ (setTO_new R'.t0), rfl, q L' c1 c2⟩
def tAddT (P : Program) (w : World) (to : TE) (t : TA) : TE := fun σ H Q => to σ H fun x H1 => (∃ a L, x = V.ref a ∧ H1 a = some (SetTO P w a L)) ∧ t σ H1 fun xs H2 => rAddT P w x xs H2 Q
variable {o e : Expr} {to : TE} {t : TA} {apos cpos : Pos}
theorem pe_addT (hu : X.A.units + 64 < cLine) (ho : PE X o to) (ha : PA X [e] t)
    (hbase : attributeBase o "add" X.env (eval o X.env) = eval o X.env := by rfl)
    (hfew : ((backTo cpos (starEach [e] X.env)).all (fun x => !x.1) && (backToKw cpos (keywordEach [] X.env)).all (fun x => x.1.isSome)
      && decide (([e] : List Expr).length + ([] : List Keyword).length + (if ([] : List Keyword).isEmpty then 0 else 1) < 30)) = true := by rfl)
    (hline : (apos.endLine == cpos.line) = true := by rfl) (hs : starEach [e] X.env = (false, eval e X.env) :: starEach [] X.env := by rfl) :
    PE X (.Call (.Attribute o "add" apos) [e] [] cpos) (tAddT X.prog X.w to t) := by
  refine ⟨fun pins s σ H Q I h => wpAny_Call_method_late hbase hfew hline rfl (thn (ho.run pins s σ H _ I h) fun v s1 ⟨x, H1, I1, r1, ty, q1⟩ => ?_)⟩
  obtain ⟨a, L, rfl, hka⟩ := ty
  obtain ⟨_, _, _, ⟨ob, hob, hex, hd⟩, _⟩ := SetT0.ex (I1.hok a _ hka).1
  cases r1
  refine ⟨"set", "set.add", F.plainAttrs_set, F.slot_set_add, F.type_set_add, ⟨ob, hob, hex.1⟩, ?_, ?_⟩
  · intro a' e
    cases e
    exact ⟨ob, hob, hex.2.1⟩
  have hA := ha.run cpos pins s1 σ H1 _ I1 q1
  rw [hs] at hA ⊢
  refine Calls.callWith_builtin rfl (Calls.evalArgs_plain ?_)
  exact thn hA fun us s2 ⟨vs, H2, I2, r2, q2⟩ => mt_addT hu pins s2 σ H2 (.ref a) vs (.ref a) us Q I2 rfl r2 q2
end
end Cs

/-! for i, x in enumerate(v), v a list or a tuple -/
namespace Cs
open PySem PySem.Spec PyProof.Rows L2
theorem enum1_new {v : Value} {o : Obj} {G : Heap → Prop} (B : Begins v o G) :
    Meets (Builtin.«enumerate.__new__» ⟨[.type "enumerate", v], []⟩) (fun _ R s => G s.heap ∧
      R (.ok (.ret (.ref (s.heap.push o).objs.size))) { s with heap := (s.heap.push o).push { cls := .type "enumerate", data := .fields #[.none, .bool false, .ref s.heap.objs.size, rawInt 0, .none, .none] } }) :=
  .of_wp fun prog w A R s h => by
    obtain ⟨hp, g, d, tk, os⟩ := s
    obtain ⟨h1, h⟩ := h
    have hsub := sub_enumerate
    have it : ∀ {A' : Around} {E : Value → Shared → Prop} {Q : Value → Shared → Prop}, Q (.ref hp.objs.size) ⟨hp.push o, g, d, tk, os⟩ → wpAny (model prog w) A' (pyIter v) Q E ⟨hp, g, d, tk, os⟩ :=
      fun q => B.iter prog w _ _ ⟨hp, g, d, tk, os⟩ _ h1 q
    wp_walk using it
    refine wpAny_stack_any fun st => wpAny_pure ?_
    split
    · rename_i c _ _ _ _ _
      cases (c == Value.type "enumerate") <;> (wp_walk using it; exact ⟨_, rfl, h⟩)
    · wp_walk using it
      exact ⟨_, rfl, h⟩
section
variable {prog : Program} {w : World} {A : Around} {E : Value → Shared → Prop} {s : Shared}
theorem enum1_begins {v : Value} {o : Obj} {G : Heap → Prop} {Q : Value → Shared → Prop} (B : Begins v o G) (h1 : G s.heap)
    (h : ∀ h', IsEnum h' (s.heap.objs.size + 1) s.heap.objs.size 0 .none → h'.get? s.heap.objs.size = some o → (∀ b o, s.heap.get? b = some o → h'.get? b = some o) → Q (.ref (s.heap.objs.size + 1)) { s with heap := h' }) :
    wpAny (model prog w) A (call (.type "enumerate") [v]) Q E s := by
  refine callType_new F.called_enumerate (by decide) (F.typeCall_enumerate_1 _) (F.newCall_enumerate_1 _) (fun obj => F.args_object_init_2 obj _) F.entry_enumerate_new (enum1_new B) ⟨h1, ?_⟩
  have hz : (s.heap.push o).objs.size = s.heap.objs.size + 1 := Heap.size_push ..
  have he := Heap.get?_push_size (s.heap.push o) (o := { cls := .type "enumerate", data := .fields #[.none, .bool false, .ref s.heap.objs.size, rawInt 0, .none, .none] }) rfl
  show _ ∧ _
  rw [hz] at he ⊢
  exact ⟨⟨_, he, rfl⟩, h _ he (Heap.get?_push_of_some _ (Heap.get?_push_size _ B.free)) fun b o x => Heap.get?_push_of_some _ (Heap.get?_push_of_some _ x)⟩
end
/-- the items in new pairs with their index -/
def Iek (K : PySem.W.Frag) (k : Bool) (a : Addr) : It :=
  ⟨fun i H => ∃ (xs : List V) (x : V), Sqk K k H a xs ∧ xs[i]? = some x, fun i H v H' => ∃ T x, v = .ref T ∧ H T = none ∧ H' = upd H T (.tup [.int (i : Nat), x]) ∧ ∀ xs, Sqk K k H a xs → xs[i]? = some x, fun i H => ∃ xs : List V, Sqk K k H a xs ∧ xs.length = i⟩
theorem turn_ek {P : Program} {w : World} {K : PySem.W.Frag} {elts : List Expr} {kk : Nat} {tpos : Pos} {k : Bool} {a e it : Addr} (n1 : a ≠ it) (n2 : e ≠ it) (n3 : e ≠ a) :
    Turn P w K (.Tuple elts kk tpos) (Iek K k a) [e, it] e (fun i h => (∃ old, IsEnum h e it ((i : Nat) : Int) old) ∧ ItK k h it a i) where
  mem := by simp
  obj := fun i h st c hc => by
    obtain ⟨⟨old, he⟩, hi⟩ := st
    have e' : c = e ∨ c = it := by simpa using hc
    rcases e' with q | q
    · rw [q]; exact ⟨_, he, fun v q => nomatch q⟩
    · rw [q]; exact hi.obj
  keep := fun i h h' st k => ⟨st.1.imp fun old he => k e (by simp) _ he, st.2.at fun o q => k it (by simp) o q⟩
  item := by
    intro X hP hw hK hc i pins s σ H E I hf st hg
    subst hP hw hK
    obtain ⟨xs, x, hqx, hx⟩ := hg
    obtain ⟨its, rv, p⟩ := invK I hqx
    obtain ⟨u, hu, ru⟩ := rv.get hx
    have D := drawsK (prog := X.prog) (w := X.w) (A := X.A.in1) (I.ok.hd hc) k it a n1 its.toArray
    have l1 : i < its.length := (List.getElem?_eq_some_iff.mp hu).1
    have W := GoesN.enumFrom (elts := elts) (x1 := kk) (pos := tpos) 0 D e n2 (by simp [n2, n3]) (by simp)
    have st0 : (∃ old, IsEnum s.heap e it (0 + ((i : Nat) : Int)) old) ∧ ItK k s.heap it a i ∧ SeqK k s.heap a its.toArray := by
      rw [Int.zero_add]
      exact ⟨st.1, st.2, p⟩
    refine W.goes i s (fun v s2 => ∃ x H', Inv X pins σ H' s2 ∧ RelV x v ∧ (Iek X.K k a).yld i H x H' ∧ ((∃ old, IsEnum s2.heap e it ((i + 1 : Nat) : Int) old) ∧ ItK k s2.heap it a (i + 1)) ∧ ∀ b ∈ [e, it], H' b = none) E (by simpa using l1) st0 fun v h' tk hY st' hk htk => ?_
    obtain ⟨T, tk0, v1, rfl, hT, e1, hTu⟩ := hY
    have q1 : v1 = u := by
      have e1' : its[i]? = some v1 := by simpa using e1
      rw [hu] at e1'; exact (Option.some.inj e1').symm
    subst q1
    have new : ObjOk X.prog X.w (upd H T (.tup [.int (i : Nat), x])) h' T (.tup [.int (i : Nat), x]) :=
      ⟨by show 2 ≤ sizeLine; decide, [.int (0 + (i : Int)) tk0, v1], .cons ⟨tk0, by rw [Int.zero_add]⟩ (.cons ru .nil), hTu⟩
    have I1 : Inv X pins σ (upd H T (.tup [.int (i : Nat), x])) { s with heap := h', toks := tk } :=
      I.turnedNew (t' := tk) (ch := [e, it]) (fun c o hb q => hk c o hb q) hf hT new
    refine ⟨.ref T, _, I1, rfl, ⟨T, x, rfl, I.hok.fresh hT, rfl, fun l hl => by rw [injK I hl hqx]; exact hx⟩, ⟨by have z := st'.1; rw [Int.zero_add] at z; exact z, st'.2.1⟩, fun c hcm => ?_⟩
    have hlt : c < s.heap.objs.size := by
      obtain ⟨⟨old, he⟩, hi⟩ := st
      have e' : c = e ∨ c = it := by simpa using hcm
      rcases e' with q | q
      · rw [q]; exact Heap.lt_size he
      · rw [q]; obtain ⟨_, e1, _⟩ := hi.obj; exact Heap.lt_size e1
    rw [upd_ne (Nat.ne_of_lt (Nat.lt_of_lt_of_le hlt hT))]
    exact (hf c hcm).1
  done := by
    intro X hP hw hK hc i pins s σ H E I hf st hg
    subst hP hw hK
    obtain ⟨xs, hqx, hi⟩ := hg
    obtain ⟨its, rv, p⟩ := invK I hqx
    have D := drawsK (prog := X.prog) (w := X.w) (A := X.A.in1) (I.ok.hd hc) k it a n1 its.toArray
    have W := GoesN.enumFrom (elts := elts) (x1 := kk) (pos := tpos) 0 D e n2 (by simp [n2, n3]) (by simp)
    have en : its.toArray.size = i := by
      have := rv.length
      simp only [List.size_toArray]
      omega
    have st0 : (∃ old, IsEnum s.heap e it (0 + ((its.toArray.size : Nat) : Int)) old) ∧ ItK k s.heap it a its.toArray.size ∧ SeqK k s.heap a its.toArray := by
      rw [en, Int.zero_add]
      exact ⟨st.1, st.2, p⟩
    refine W.stops s (fun s1 => Inv X pins σ H s1) E st0 fun h' tk hk htk => ?_
    exact I.turnedL (t' := tk) (ch := [e, it]) (fun c o hb q => hk c o (fun hm => hb (by simpa using hm)) q) hf
  self := fun A i s Q E st h => let ⟨⟨_, he⟩, _⟩ := st; wpAny_pyIter_enum he h
def YEn (xs : List V) : Nat → Hp → V → Hp → Prop := fun i H v H' => ∃ T x, v = .ref T ∧ H T = none ∧ H' = upd H T (.tup [.int (i : Nat), x]) ∧ xs[i]? = some x
theorem YEn.same {xs : List V} {i : Nat} {x : V} {H H' : Hp} (h : YEn xs i H x H') : Same H H' := by
  obtain ⟨T, y, _, hT, rfl, _⟩ := h
  exact Same.new hT
theorem walk_en {K : PySem.W.Frag} {k : Bool} {a : Addr} {xs : List V} : Walk (Iek K k a) xs.length (fun H => Sqh k H a xs) (YEn xs) := by
  refine ⟨fun i _ hi q => ⟨xs, xs[i], q.sqk, List.getElem?_eq_getElem hi⟩, fun _ q => ⟨xs, q.sqk, rfl⟩, fun i H v H' _ q y => ?_⟩
  obtain ⟨T, x, h1, h2, h3, h4⟩ := y
  exact ⟨T, x, h1, h2, h3, h4 xs q.sqk⟩
def iEnH (ta : TA) : TI := fun σ H R => ta σ H fun vs H1 => ∃ a, vs = [.ref a] ∧ ∃ (k : Bool) (xs : List V), Sqh k H1 a xs ∧ ∀ J : It, Walk J xs.length (fun H => Sqh k H a xs) (YEn xs) → R J H1
theorem pi_enH {X : Cx} {e : Expr} {ta : TA} {p pos tpos : Pos} {elts : List Expr} {kk : Nat} (hg : Gl X "enumerate") (hm : X.mg "enumerate" = none) (ha : PA X [e] ta) (hs : starEach [e] X.env = [(false, eval e X.env)] := by rfl) :
    PI X (.Tuple elts kk tpos) (.Call (.Name "enumerate" p) [e] [] pos) (iEnH ta) := by
  refine ⟨fun pins s σ H R I h => ?_⟩
  refine Call_ (ld_blt I hg hm boot_enumerate (PyProof.Rows.callWith_type1 (thn (ha.run pos pins s σ H _ I h) fun us s1 ⟨vs, H1, I1, r1, q1⟩ => ?_) hs rfl))
  obtain ⟨a, ex, k, xs, hq, q⟩ := q1
  subst ex
  have q := q (Iek X.K k a) walk_en
  cases r1 with
  | cons r rr =>
    cases rr
    cases r
    obtain ⟨its, rv, p'⟩ := invK I1 (hq.sqk (K := X.K))
    have la : a < s1.heap.objs.size := p'.lt
    refine enum1_begins (begK k a its.toArray) p' fun h' he hit hk => wpAny_pyIter_enum he ?_
    have I2 : Inv X pins σ H1 { s1 with heap := h' } := I1.kept (t' := s1.toks) hk
    refine ⟨s1.heap.objs.size + 1, [s1.heap.objs.size + 1, s1.heap.objs.size], _, _, H1, rfl, I2, turn_ek (k := k) (a := a) (Nat.ne_of_lt la) (Nat.succ_ne_self _) (Nat.ne_of_gt (Nat.lt_succ_of_lt la)), ⟨⟨.none, he⟩, ItK.new hit⟩, fun b hb => ?_, q⟩
    have e' : b = s1.heap.objs.size + 1 ∨ b = s1.heap.objs.size := by simpa using hb
    have hle : s1.heap.objs.size ≤ b := by
      rcases e' with z | z
      · rw [z]; exact Nat.le_add_right _ _
      · rw [z]; exact Nat.le_refl _
    exact I1.fpOk hle (I1.hok.fresh hle)
end Cs

namespace Cs
open PySem PySem.Spec PyProof.Rows L2
/-! ### readings that name the frame, for use within comprehensions -/
section
variable {X : Cx} {K : PySem.W.Frag}
theorem op_eqDK (h : X.K = K) (hu : X.A.units + 64 < cLine) : OpR X (compareOp .Eq) (rEqD K) := by subst h; exact op_eqD hu
theorem op_neDK (h : X.K = K) (hu : X.A.units + 64 < cLine) : OpR X (compareOp .NotEq) (rNeD K) := by subst h; exact op_neD hu
theorem op_inDK (h : X.K = K) (hu : X.A.units + 65 < cLine) : OpR X (compareOp .In) (rInD K) := by subst h; exact op_inD hu
theorem op_notInDK (h : X.K = K) (hu : X.A.units + 65 < cLine) : OpR X (compareOp .NotIn) (rNotInD K) := by subst h; exact op_notInD hu
theorem sl_listK (h : X.K = K) : SlR X (rSlL K) := by subst h; exact sl_list
theorem op_repAK (h : X.K = K) : OpR X (binaryOp .Mult) (rRepA K) := by subst h; exact op_repA
/-- xs[::-1] of a list -/
theorem pe_revLK (h : X.K = K) {e : Expr} {te : TE} {k : Nat} {p1 p2 p3 pos : Pos} (he : PE X e te) : PE X (.Subscript e (.Slice none none (some (.UnaryOp .USub (.Constant (.int 1) k p1) p2)) p3) pos) (tRevL K te) := by subst h; exact pe_revL he
end
end Cs

namespace Cs
open PySem PySem.Spec PyProof.Rows L2
/-! ### flat data -/
def dOf : V → PyData
  | .bl b => .bool b
  | .int i => .int i
  | .str x => .str x
  | _ => .none
def Flat0 : V → Prop
  | .non => True
  | .bl _ => True
  | .int _ => True
  | .str x => PyData.canLay0 (.str x) = true
  | _ => False
theorem dp_one {K : PySem.W.Frag} {H : Hp} : ∀ {v : V}, Flat0 v → Dp K H v (dOf v)
  | .non, _ => .non
  | .bl b, _ => .bl b
  | .int i, _ => .int i
  | .str x, _ => .str x
theorem dp_flat {K : PySem.W.Frag} {H : Hp} : ∀ {xs : List V}, (∀ v ∈ xs, Flat0 v) → DpAll K H xs (xs.map dOf)
  | [], _ => .nil
  | x :: xs, h => .cons (dp_one (h x (List.mem_cons_self ..))) (dp_flat fun v hv => h v (List.mem_cons_of_mem _ hv))
theorem lay_one {v : V} (h : Flat0 v) : PyData.canLay0 (dOf v) = true := by
  cases v with
  | str x => exact h
  | _ => rfl
theorem depth_one (v : V) : PyData.depth (dOf v) = 0 := by cases v <;> rfl
theorem lay_flat : ∀ {xs : List V}, (∀ v ∈ xs, Flat0 v) → PyData.canLayAll0 (xs.map dOf) = true
  | [], _ => rfl
  | v :: xs, h => by
    show (PyData.canLay0 (dOf v) && PyData.canLayAll0 (xs.map dOf)) = true
    rw [lay_one (h v (List.mem_cons_self ..)), lay_flat fun u hu => h u (List.mem_cons_of_mem _ hu)]
    rfl
theorem depth_flat : ∀ xs : List V, PyData.depthAll (xs.map dOf) = 0
  | [] => rfl
  | v :: xs => by
    show max (PyData.depth (dOf v)) (PyData.depthAll (xs.map dOf)) = 0
    rw [depth_one, depth_flat xs]
    rfl
theorem shaped_flat {xs : List V} (h : ∀ v ∈ xs, Flat0 v) : SeqAt.shaped (.list (xs.map dOf)) = true := by
  have h1 : PyData.canLay0 (.list (xs.map dOf)) = true := lay_flat h
  have h2 : PyData.depth (.list (xs.map dOf)) ≤ 64 := by
    show PyData.depthAll (xs.map dOf) + 1 ≤ 64
    rw [depth_flat]
    decide
  unfold SeqAt.shaped
  rw [h1, decide_eq_true h2]
  rfl
/-- xs != ys, two lists of the same flat things -/
theorem neD_flat {K : PySem.W.Frag} {H : Hp} {a b : Addr} {xs : List V} {Q : VK} (h1 : H a = some (.lst xs)) (h2 : H b = some (.lst xs)) (hf : ∀ v ∈ xs, Flat0 v) (q : Q (.bl false) H) : rNeD K (.ref a) (.ref b) H Q := by
  refine ⟨_, _, .lst (.inl (.inl h1)) (dp_flat hf), .lst (.inl (.inl h2)) (dp_flat hf), shaped_flat hf, shaped_flat hf, ?_⟩
  have e : PyData.eqv (.list (xs.map dOf)) (.list (xs.map dOf)) = true := SeqAt.eqv_refl _ (lay_flat hf)
  rw [e]
  exact q
theorem eqD_flat {K : PySem.W.Frag} {H : Hp} {a b : Addr} {xs : List V} {Q : VK} (h1 : H a = some (.lst xs)) (h2 : H b = some (.lst xs)) (hf : ∀ v ∈ xs, Flat0 v) (q : Q (.bl true) H) : rEqD K (.ref a) (.ref b) H Q := by
  refine ⟨_, _, .lst (.inl (.inl h1)) (dp_flat hf), .lst (.inl (.inl h2)) (dp_flat hf), shaped_flat hf, shaped_flat hf, ?_⟩
  have e : PyData.eqv (.list (xs.map dOf)) (.list (xs.map dOf)) = true := SeqAt.eqv_refl _ (lay_flat hf)
  rw [e]
  exact q
/-! ### t[::-1] of a tuple -/
section
variable {P : Program} {w : World} {A : Around} {E : Value → Shared → Prop} {s : Shared}
theorem back_adjust (n : Nat) : Builtin.Slice.sliceAdjust none none (-1) (n : Int) = ((n : Int) - 1, -1) := by
  have neg1 : ((-1 : Int) < 0) := by decide
  unfold Builtin.Slice.sliceAdjust
  simp only [neg1, if_true]
theorem back_places (n : Nat) : Builtin.Slice.slicePlaces ((n : Int) - 1) (-1) (-1) = n := by
  unfold Builtin.Slice.slicePlaces
  by_cases h : n = 0
  · subst h; decide
  · have e : ¬ ((-1 : Int) > 0) := by decide
    simp only [e, if_false, Int.neg_neg, Int.ediv_one]
    split <;> omega
theorem filterMap_cong {α β : Type} {f g : α → Option β} : ∀ {l : List α}, (∀ x ∈ l, f x = g x) → l.filterMap f = l.filterMap g
  | [], _ => rfl
  | x :: l, h => by
    rw [List.filterMap_cons, List.filterMap_cons, h x (List.mem_cons_self ..), filterMap_cong fun y hy => h y (List.mem_cons_of_mem _ hy)]
theorem back_pick (xs : Array Value) : ((List.range xs.size).filterMap fun (k : Nat) => xs[((xs.size : Int) - 1 + (k : Int) * (-1)).toNat]?).toArray = xs.toList.reverse.toArray := by
  have e : ((List.range xs.size).filterMap fun (k : Nat) => xs[((xs.size : Int) - 1 + (k : Int) * (-1)).toNat]?) = ((List.range xs.size).map fun k => xs.size - 1 - k).filterMap (xs[·]?) := by
    rw [List.filterMap_map]
    refine filterMap_cong fun k hk => ?_
    have hk := List.mem_range.mp hk
    show xs[((xs.size : Int) - 1 + (k : Int) * (-1)).toNat]? = xs[xs.size - 1 - k]?
    congr 1
    omega
  rw [e, PySem.W.krv_range, List.filterMap_reverse, PySem.W.krv_all]
theorem back_parts {sl : Addr} {vs : Value} {n : Nat} {Q : Int × Int × Nat → Shared → Prop} (hs : s.heap.IsSliceOf sl .none .none vs) (pt : IsPart vs (some (-1)))
    (q : Q ((n : Int) - 1, -1, n) s) : wpAny (model P w) A (Builtin.Slice.sliceApplied (.ref sl) (pure (n : Int))) Q E s := by
  obtain ⟨ob, g1, _, g3⟩ := id hs
  unfold Builtin.Slice.sliceApplied Builtin.Slice.sliceFields
  refine wpAny_bind (wpAny_bind ?_)
  refine wpAny_field g1 g3 (x := .none) rfl (wpAny_bind ?_)
  refine wpAny_field g1 g3 (x := .none) rfl (wpAny_bind ?_)
  refine wpAny_field g1 g3 (x := vs) rfl (wpAny_pure ?_)
  refine wpAny_bind (HT.slicePart_ pt ?_)
  show wpAny _ _ (if ((-1 : Int) == 0) = true then _ else _) _ _ s
  rw [if_neg (show ¬ ((-1 : Int) == 0) = true by decide)]
  refine wpAny_bind (HT.slicePart_ .none (wpAny_bind (HT.slicePart_ .none ?_)))
  refine wpAny_bind (wpAny_pure ?_)
  show wpAny _ _ (match Builtin.Slice.sliceAdjust none none (-1) (n : Int) with | (x, y) => pure (x, (-1 : Int), Builtin.Slice.slicePlaces x y (-1))) _ _ s
  rw [back_adjust]
  show wpAny _ _ (pure ((n : Int) - 1, (-1 : Int), Builtin.Slice.slicePlaces ((n : Int) - 1) (-1) (-1))) _ _ s
  rw [back_places]
  exact wpAny_pure q
theorem back_tuple {t sl : Addr} {xs : Array Value} {vs : Value} {Q : Value → Shared → Prop} (ht : IsTup s.heap t xs) (hs : s.heap.IsSliceOf sl .none .none vs) (pt : IsPart vs (some (-1))) (hz : xs.size ≤ sizeLine)
    (q : Q (.ref s.heap.objs.size) { s with heap := s.heap.push { cls := .type "tuple", data := .seq xs.toList.reverse.toArray } }) : wpAny (model P w) A (getItem (.ref t) (.ref sl)) Q E s := by
  have fits : sizeOk (.seq xs.toList.reverse.toArray) := by
    show xs.toList.reverse.toArray.size ≤ sizeLine
    simpa using hz
  obtain ⟨ob, g1, g2, _⟩ := id hs
  have isSl : s.TypeIs (.ref sl) "slice" := ⟨ob, g1, g2⟩
  unfold getItem
  try with_reducible refine wpAny_holding ?_
  first | refine wpAny_bind (wpAny_pure ?_) | skip
  refine wpAny_bind (wpAny_sequenceKey ht.typeIs (by decide) ?_)
  refine wpAny_bind (wpAny_callSpecial?_slot (name := Str.ofString "__getitem__") ht.typeIs PyProof.Rows.slot_tuple_getitem (wpAny_call_entry PyProof.Rows.slot_tuple_getitem ht.typeIs entry_tuple_getitem ?_ (args_tuple_getitem _ _)))
  show wpAny _ _ (Builtin.Tuple.tupleItemsOf (.ref t) >>= _) _ _ s
  refine wpAny_bind (tupleItemsOf_ ht (wpAny_bind (wpAny_typeOf isSl ?_)))
  rw [if_pos (show (Value.type "slice" == Value.type "slice") = true by decide)]
  refine wpAny_bind (back_parts hs pt ?_)
  show wpAny _ _ (if (((xs.size : Int) - 1) == 0 && (-1 : Int) == 1 && xs.size == xs.size) = true then _ else _) _ _ s
  have no : ¬ ((((xs.size : Int) - 1) == 0 && (-1 : Int) == 1 && xs.size == xs.size) = true) := by
    rw [show ((-1 : Int) == 1) = false by decide, Bool.and_false, Bool.false_and]
    decide
  rw [if_neg no, back_pick]
  first
    | exact wpAny_bind (m := Builtin.Tuple.tupleExact _) (wpAny_newObj_type (wpAny_pure ⟨_, rfl, wpAny_pure q⟩) fits)
    | exact wpAny_bind (m := Builtin.Tuple.tupleExact _) (wpAny_newObj_type (wpAny_bind (wpAny_pure (wpAny_pure ⟨_, rfl, wpAny_pure q⟩))) fits)
    | exact wpAny_bind (wpAny_bind (m := Builtin.Tuple.tupleExact _) (wpAny_newObj_type (wpAny_pure (wpAny_pure ⟨_, rfl, wpAny_pure q⟩)) fits))
    | exact wpAny_bind (wpAny_bind (m := Builtin.Tuple.tupleExact _) (wpAny_newObj_type (wpAny_pure ⟨_, rfl, wpAny_pure q⟩) fits))
end
theorem op_catTK {X : Cx} {K : PySem.W.Frag} (h : X.K = K) : OpR X (binaryOp .Add) (rCatT K) := by subst h; exact op_catT
/-- t[::-1] of a tuple -/
def tRevT (K : PySem.W.Frag) (te : TE) : TE := fun σ H Q => te σ H fun x H1 => ∃ a, x = .ref a ∧ ∃ xs, H1 a = some (.tup xs) ∧ ∀ p, H1 p = none → Q (.ref p) (upd H1 p (.tup xs.reverse))
theorem pe_revT {X : Cx} {K : PySem.W.Frag} (hK : X.K = K) {e : Expr} {te : TE} {k : Nat} {p1 p2 p3 pos : Pos} (he : PE X e te) : PE X (.Subscript e (.Slice none none (some (.UnaryOp .USub (.Constant (.int 1) k p1) p2)) p3) pos) (tRevT K te) := by
  subst hK
  refine ⟨fun pins s0 σ H Q I h => Subscript_ (thn (he.run pins s0 σ H _ I h) fun v s x => ?_)⟩
  obtain ⟨_, H1, I1, r1, a, rfl, xs, hx, q⟩ := x
  cases r1
  have minus : PO X (some (.UnaryOp .USub (.Constant (.int 1) k p1) p2)) (tPart (tUn (rU fun i => .int (-i)) (tC (.int 1)))) := po_some (pe_un un_neg pe_int)
  refine wpAny_Slice (thn (po_none.run pins s σ H1 (fun o G => o = none ∧ G = H1) I1 ⟨rfl, rfl⟩) fun l1 s1 x => ?_)
  obtain ⟨_, _, I2, pl, rfl, rfl⟩ := x
  refine thn (po_none.run pins s1 σ _ (fun o G => o = none ∧ G = _) I2 ⟨rfl, rfl⟩) fun l2 s2 x => ?_
  obtain ⟨_, _, I3, pu, rfl, rfl⟩ := x
  refine thn (minus.run pins s2 σ _ (fun o G => o = some (-1) ∧ G = _) I3 ⟨1, rfl, -1, rfl, rfl, rfl⟩) fun l3 s3 x => ?_
  obtain ⟨_, H4, I4, pt, rfl, rfl⟩ := x
  cases pl
  cases pu
  generalize hs4 : ({ s3 with heap := s3.heap.push { cls := .type "slice", data := .fields #[.none, .none, l3] } } : Shared) = s4
  have I5 : Inv X pins σ H4 s4 := by
    rw [← hs4]
    exact I4.kept (t' := s3.toks) fun b ob y => Heap.get?_push_of_some _ y
  have isl : s4.heap.IsSliceOf s3.heap.objs.size .none .none l3 := by
    rw [← hs4]
    exact Heap.IsSliceOf.new s3.heap .none .none l3
  obtain ⟨its, r, ht, hz⟩ := I5.tuple (.inl (.inl hx))
  have hlen := r.length
  refine tail_any (ops := [.ref a, .ref s3.heap.objs.size]) ht.typeIs PyProof.Rows.slot_tuple_getitem.lookup ?_ (by with_unfolding_all rfl)
  refine back_tuple ht isl pt (by rw [List.size_toArray]; omega) ?_
  refine ⟨.ref s4.heap.objs.size, _, I5.laid (t' := s4.toks) (o := .tup xs.reverse) (fun b ob y => Heap.get?_push_of_some _ y) (Nat.le_refl _) ?_, rfl, q _ (I5.hok.fresh (Nat.le_refl _))⟩
  exact ⟨by rw [List.length_reverse]; exact hz, _, r.reverse, IsTup.new _ _⟩
end Cs

namespace Cs
open PySem PySem.Spec PyProof.Rows L2
/-! ### f(k = e, ..), no argument by its place -/
section
variable {X : Cx} {CX : CXT} {k : Nat} {f : Addr} {fd : FuncData} {ps ks : List Str} {sp : Sp} {E : XK} {x : Str} {p pos : Pos} {kws : List Keyword} {tk : TA} {g : List Value → List Value → List Value} {gV : List V → List V → List V}
def tCallK0 (j : Nat) (sp : Sp) (gV : List V → List V → List V) (E : XK) (tk : TA) : TE := fun σ H Q => tk σ H fun zs H1 => zs.length = j ∧ sp (gV [] zs) H1 Q E
theorem pe_callK0 (F : FnOk X.prog X.w X.K X.mg X.base CX k f fd ps sp) (hr : Room k X.A) (hg : Gl X x) (hm : X.mg x = some (.ref f)) (hk : PySem.W.keepIn X.K (.ref f) = true) (hb : KBn X.K fd ps 0 ks g gV) (hx : Passes CX X E) (hkw : PK X kws tk)
    (hall : (backToKw pos (keywordEach kws X.env)).all (·.1.isSome) = true := by rfl) (hks : (backToKw pos (keywordEach kws X.env)).filterMap (·.1) = ks := by rfl) (hdb : (x == ("__debug__" : Str)) = false := by decide)
    (hpl : ((backTo pos (starEach [] X.env)).any (·.1) || (backToKw pos (keywordEach kws X.env)).any (·.1.isNone)) = false := by rfl) : PE X (.Call (.Name x p) [] kws pos) (tCallK0 ks.length sp gV E tk) := by
  refine ⟨fun pins s σ H Q I h => wpAny_Call_Name_kw (ld_glob I hg hm ?_ hdb)⟩
  refine PySem.W.callWith_KW0 (h₀ := X.base) (first := []) I.ok.mod.kin hk hall ?_ hpl
  refine thn (hkw.run pos pins s σ H _ I h) fun ws s2 ⟨zs, H2, I2, rz, l2, q2⟩ => ⟨I2.kIn, ?_⟩
  rw [hks]
  exact run_fnN (us := []) (vs := []) F hr hb hx I2 .nil rz rfl l2 q2
end
end Cs

namespace Lw
open PySem PySem.Spec PyProof.Rows L2 Cs
def top (i : Nat) : Stmt := PySem.Challenge.pw_calledseats_k52_two_targets_on_large_rin.main.body.getD i (.Pass ⟨0, 0, 0, 0⟩)
abbrev d_is_integer : Stmt := top 5
abbrev N_is_integer : List Str := ["number"]
theorem sc_is_integer : FnScope N_is_integer ["number"] (defScope d_is_integer) := ⟨rfl, rfl, rfl, by decide +kernel, rfl, by decide +kernel, by decide +kernel⟩
abbrev d_is_place : Stmt := top 6
abbrev N_is_place : List Str := ["size", "place"]
theorem sc_is_place : FnScope N_is_place ["size", "place"] (defScope d_is_place) := ⟨rfl, rfl, rfl, by decide +kernel, rfl, by decide +kernel, by decide +kernel⟩
abbrev d_require_number : Stmt := top 7
abbrev N_require_number : List Str := ["number", "least", "name"]
theorem sc_require_number : FnScope N_require_number ["number", "least", "name"] (defScope d_require_number) := ⟨rfl, rfl, rfl, by decide +kernel, rfl, by decide +kernel, by decide +kernel⟩
abbrev d_require_place : Stmt := top 8
abbrev N_require_place : List Str := ["size", "place", "name"]
theorem sc_require_place : FnScope N_require_place ["size", "place", "name"] (defScope d_require_place) := ⟨rfl, rfl, rfl, by decide +kernel, rfl, by decide +kernel, by decide +kernel⟩
abbrev d_min_calls_two : Stmt := top 10
abbrev N_min_calls_two : List Str := ["size", "first", "second", "place", "found"]
theorem sc_min_calls_two : FnScope N_min_calls_two ["size", "first", "second", "place"] (defScope d_min_calls_two) := ⟨rfl, rfl, rfl, by decide +kernel, rfl, by decide +kernel, by decide +kernel⟩
abbrev d_require_two : Stmt := top 11
abbrev N_require_two : List Str := ["size", "first", "second", "place"]
theorem sc_require_two : FnScope N_require_two ["size", "first", "second", "place"] (defScope d_require_two) := ⟨rfl, rfl, rfl, by decide +kernel, rfl, by decide +kernel, by decide +kernel⟩
abbrev d_least_sum_of_two : Stmt := top 12
abbrev N_least_sum_of_two : List Str := ["size", "step", "gap", "common", "missing", "calls", "turn", "total", "count"]
theorem sc_least_sum_of_two : FnScope N_least_sum_of_two ["size", "step", "gap"] (defScope d_least_sum_of_two) := ⟨rfl, rfl, rfl, by decide +kernel, rfl, by decide +kernel, by decide +kernel⟩
abbrev d_inverse : Stmt := top 13
abbrev N_inverse : List Str := ["number", "modulus", "larger", "smaller", "before", "factor", "times"]
theorem sc_inverse : FnScope N_inverse ["number", "modulus"] (defScope d_inverse) := ⟨rfl, rfl, rfl, by decide +kernel, rfl, by decide +kernel, by decide +kernel⟩
abbrev d_law_cell_at : Stmt := top 15
abbrev N_law_cell_at : List Str := ["_law_script", "_law_k"]
theorem sc_law_cell_at : FnScope N_law_cell_at ["_law_script", "_law_k"] (defScope d_law_cell_at) := ⟨rfl, rfl, rfl, by decide +kernel, rfl, by decide +kernel, by decide +kernel⟩
abbrev d_law_source : Stmt := top 16
abbrev N_law_source : List Str := ["_law_cell"]
theorem sc_law_source : FnScope N_law_source ["_law_cell"] (defScope d_law_source) := ⟨rfl, rfl, rfl, by decide +kernel, rfl, by decide +kernel, by decide +kernel⟩
abbrev d_law_take : Stmt := top 17
abbrev N_law_take : List Str := ["_law_source_here", "_law_bound", "_law_digit", "_law_prime", "_law_mixed"]
theorem sc_law_take : FnScope N_law_take ["_law_source_here", "_law_bound"] (defScope d_law_take) := ⟨rfl, rfl, rfl, by decide +kernel, rfl, by decide +kernel, by decide +kernel⟩
abbrev d_law_large : Stmt := top 18
abbrev N_law_large : List Str := ["_law_source_here", "_law_bound", "_law_total", "_law_part"]
theorem sc_law_large : FnScope N_law_large ["_law_source_here", "_law_bound"] (defScope d_law_large) := ⟨rfl, rfl, rfl, by decide +kernel, rfl, by decide +kernel, by decide +kernel⟩
abbrev d_law_gcd : Stmt := top 19
abbrev N_law_gcd : List Str := ["_law_a", "_law_b"]
theorem sc_law_gcd : FnScope N_law_gcd ["_law_a", "_law_b"] (defScope d_law_gcd) := ⟨rfl, rfl, rfl, by decide +kernel, rfl, by decide +kernel, by decide +kernel⟩
abbrev d_law_inverse : Stmt := top 20
abbrev N_law_inverse : List Str := ["_law_number", "_law_modulus", "_law_low", "_law_high", "_law_quotient"]
theorem sc_law_inverse : FnScope N_law_inverse ["_law_number", "_law_modulus"] (defScope d_law_inverse) := ⟨rfl, rfl, rfl, by decide +kernel, rfl, by decide +kernel, by decide +kernel⟩
abbrev d_law_count : Stmt := top 21
abbrev N_law_count : List Str := ["_law_ring_here", "_law_gap", "_law_away", "_law_shared"]
theorem sc_law_count : FnScope N_law_count ["_law_ring_here", "_law_gap", "_law_away"] (defScope d_law_count) := ⟨rfl, rfl, rfl, by decide +kernel, rfl, by decide +kernel, by decide +kernel⟩
abbrev d_law_ring : Stmt := top 22
abbrev N_law_ring : List Str := ["_law_source_here", "_law_power", "_law_odd", "_law_sizes_here"]
theorem sc_law_ring : FnScope N_law_ring ["_law_source_here"] (defScope d_law_ring) := ⟨rfl, rfl, rfl, by decide +kernel, rfl, by decide +kernel, by decide +kernel⟩
abbrev d_law_scene : Stmt := top 23
abbrev N_law_scene : List Str := ["_law_source_here", "_law_ring_here", "_law_start", "_law_unit", "_law_gap", "_law_other", "_law_half", "_law_moved", "_law_spots"]
theorem sc_law_scene : FnScope N_law_scene ["_law_source_here"] (defScope d_law_scene) := ⟨rfl, rfl, rfl, by decide +kernel, rfl, by decide +kernel, by decide +kernel⟩
abbrev d_law_right : Stmt := top 24
abbrev N_law_right : List Str := ["_law_ring_here", "_law_start", "_law_other", "_law_spot", "_law_gap", "_law_away", "_law_odd", "_law_found", "_law_enough", "_law_fewer"]
theorem sc_law_right : FnScope N_law_right ["_law_ring_here", "_law_start", "_law_other", "_law_spot"] (defScope d_law_right) := ⟨rfl, rfl, rfl, by decide +kernel, rfl, by decide +kernel, by decide +kernel⟩
abbrev d_law : Stmt := top 25
abbrev N_law : List Str := ["_law_script", "_law_cell", "_law_source_here", "_law_turn", "_law_ring_here", "_law_start", "_law_other", "_law_spot"]
theorem sc_law : FnScope N_law ["_law_script"] (defScope d_law) := ⟨rfl, rfl, rfl, by decide +kernel, rfl, by decide +kernel, by decide +kernel⟩
structure Tx (K : PySem.W.Frag) (mg : Str → Option Value) : Type where
  f_is_integer : Addr
  fd_is_integer : FuncData
  F_is_integer : Fun K "is_integer" "is_integer" d_is_integer f_is_integer fd_is_integer
  b_is_integer : Binds K fd_is_integer ["number"] []
  g_is_integer : mg "is_integer" = some (.ref f_is_integer)
  f_is_place : Addr
  fd_is_place : FuncData
  F_is_place : Fun K "is_place" "is_place" d_is_place f_is_place fd_is_place
  b_is_place : Binds K fd_is_place ["size", "place"] []
  g_is_place : mg "is_place" = some (.ref f_is_place)
  f_require_number : Addr
  fd_require_number : FuncData
  F_require_number : Fun K "require_number" "require_number" d_require_number f_require_number fd_require_number
  b_require_number : Binds K fd_require_number ["number", "least", "name"] []
  g_require_number : mg "require_number" = some (.ref f_require_number)
  f_require_place : Addr
  fd_require_place : FuncData
  F_require_place : Fun K "require_place" "require_place" d_require_place f_require_place fd_require_place
  b_require_place : Binds K fd_require_place ["size", "place", "name"] []
  g_require_place : mg "require_place" = some (.ref f_require_place)
  f_min_calls_two : Addr
  fd_min_calls_two : FuncData
  F_min_calls_two : Fun K "min_calls_two" "min_calls_two" d_min_calls_two f_min_calls_two fd_min_calls_two
  b_min_calls_two : Binds K fd_min_calls_two ["size", "first", "second", "place"] []
  g_min_calls_two : mg "min_calls_two" = some (.ref f_min_calls_two)
  f_require_two : Addr
  fd_require_two : FuncData
  F_require_two : Fun K "_require_two" "_require_two" d_require_two f_require_two fd_require_two
  b_require_two : Binds K fd_require_two ["size", "first", "second", "place"] []
  g_require_two : mg "_require_two" = some (.ref f_require_two)
  f_least_sum_of_two : Addr
  fd_least_sum_of_two : FuncData
  F_least_sum_of_two : Fun K "_least_sum_of_two" "_least_sum_of_two" d_least_sum_of_two f_least_sum_of_two fd_least_sum_of_two
  b_least_sum_of_two : Binds K fd_least_sum_of_two ["size", "step", "gap"] []
  g_least_sum_of_two : mg "_least_sum_of_two" = some (.ref f_least_sum_of_two)
  f_inverse : Addr
  fd_inverse : FuncData
  F_inverse : Fun K "_inverse" "_inverse" d_inverse f_inverse fd_inverse
  b_inverse : Binds K fd_inverse ["number", "modulus"] []
  g_inverse : mg "_inverse" = some (.ref f_inverse)
  f_law_cell_at : Addr
  fd_law_cell_at : FuncData
  F_law_cell_at : Fun K "_law_cell_at" "_law_cell_at" d_law_cell_at f_law_cell_at fd_law_cell_at
  b_law_cell_at : Binds K fd_law_cell_at ["_law_script", "_law_k"] []
  g_law_cell_at : mg "_law_cell_at" = some (.ref f_law_cell_at)
  f_law_source : Addr
  fd_law_source : FuncData
  F_law_source : Fun K "_law_source" "_law_source" d_law_source f_law_source fd_law_source
  b_law_source : Binds K fd_law_source ["_law_cell"] []
  g_law_source : mg "_law_source" = some (.ref f_law_source)
  f_law_take : Addr
  fd_law_take : FuncData
  F_law_take : Fun K "_law_take" "_law_take" d_law_take f_law_take fd_law_take
  b_law_take : Binds K fd_law_take ["_law_source_here", "_law_bound"] []
  g_law_take : mg "_law_take" = some (.ref f_law_take)
  f_law_large : Addr
  fd_law_large : FuncData
  F_law_large : Fun K "_law_large" "_law_large" d_law_large f_law_large fd_law_large
  b_law_large : Binds K fd_law_large ["_law_source_here", "_law_bound"] []
  g_law_large : mg "_law_large" = some (.ref f_law_large)
  f_law_gcd : Addr
  fd_law_gcd : FuncData
  F_law_gcd : Fun K "_law_gcd" "_law_gcd" d_law_gcd f_law_gcd fd_law_gcd
  b_law_gcd : Binds K fd_law_gcd ["_law_a", "_law_b"] []
  g_law_gcd : mg "_law_gcd" = some (.ref f_law_gcd)
  f_law_inverse : Addr
  fd_law_inverse : FuncData
  F_law_inverse : Fun K "_law_inverse" "_law_inverse" d_law_inverse f_law_inverse fd_law_inverse
  b_law_inverse : Binds K fd_law_inverse ["_law_number", "_law_modulus"] []
  g_law_inverse : mg "_law_inverse" = some (.ref f_law_inverse)
  f_law_count : Addr
  fd_law_count : FuncData
  F_law_count : Fun K "_law_count" "_law_count" d_law_count f_law_count fd_law_count
  b_law_count : Binds K fd_law_count ["_law_ring_here", "_law_gap", "_law_away"] []
  g_law_count : mg "_law_count" = some (.ref f_law_count)
  f_law_ring : Addr
  fd_law_ring : FuncData
  F_law_ring : Fun K "_law_ring" "_law_ring" d_law_ring f_law_ring fd_law_ring
  b_law_ring : Binds K fd_law_ring ["_law_source_here"] []
  g_law_ring : mg "_law_ring" = some (.ref f_law_ring)
  f_law_scene : Addr
  fd_law_scene : FuncData
  F_law_scene : Fun K "_law_scene" "_law_scene" d_law_scene f_law_scene fd_law_scene
  b_law_scene : Binds K fd_law_scene ["_law_source_here"] []
  g_law_scene : mg "_law_scene" = some (.ref f_law_scene)
  f_law_right : Addr
  fd_law_right : FuncData
  F_law_right : Fun K "_law_right" "_law_right" d_law_right f_law_right fd_law_right
  b_law_right : Binds K fd_law_right ["_law_ring_here", "_law_start", "_law_other", "_law_spot"] []
  g_law_right : mg "_law_right" = some (.ref f_law_right)
  f_law : Addr
  fd_law : FuncData
  F_law : Fun K "law" "law" d_law f_law fd_law
  b_law : Binds K fd_law ["_law_script"] []
  g_law : mg "law" = some (.ref f_law)
  kb_min_calls_two_place_second_first_size : KBn K fd_min_calls_two ["size", "first", "second", "place"] 0 ["place", "second", "first", "size"] (fun us ws => [ws.getD 3 Value.none, ws.getD 2 Value.none, ws.getD 1 Value.none, ws.getD 0 Value.none]) (fun us ws => [ws.getD 3 V.non, ws.getD 2 V.non, ws.getD 1 V.non, ws.getD 0 V.non])
  b_gcd : mg "gcd" = some (.builtin "math.gcd")
  n_abs : mg "abs" = none
  n_bool : mg "bool" = none
  n_int : mg "int" = none
  n_isinstance : mg "isinstance" = none
  n_len : mg "len" = none
  n_range : mg "range" = none
-- RD2
local macro_rules | `(tactic| walk_at "rd") => `(tactic| simp only [cxOf, Cx.nox, Cx.wish, L2.start, tVar, tC, t2I, tIsN, tNotN, tB, tAnd, tOr, tNot, tAndV, tOrV, tNotV, L2.tIf, tNext, tSeq, tBreak, tCont, tDrop, tRet, tRetN, tIfS, tNever, gName, gNil, gCons, gTup, gSub, tAsg, tPar, tPar3, tAug, ipI, tOp, tUn, rI, rI0, rU, rEq, rNe, tTest, tChain, tFld, tCon, sFld, tNil, tCons, tTup, tLst, tCall, tMeth, tMake, tMakeK, tMethK, tCallK, tCallN, tCB, tNoPart, tPart, tSl, rIxL, rIxT, rSetL, rSlL, rAppend, rAll, rIsI, rIsA, tAppend, tLc_eq, tLc2_eq, tFor_eq, tStarH, tRevL, tRevT, tBits, tCallK0, rGcd, rLcm, iSeqH, iSeqS, iZ2H, iZ3H, iEnH, iRevR, tRg1, tRg2, iRng1H, gTupH, tYes, wipe, scal_int, scal_str, scal_bl, List.map_cons, List.map_nil, List.replicate, List.length_cons, List.length_nil, List.cons_append, List.nil_append, List.append_nil, List.getElem?_cons_zero, List.getElem?_cons_succ, List.set_cons_zero, List.set_cons_succ, Option.some.injEq, V.int.injEq, V.bl.injEq, V.ref.injEq, V.str.injEq, V.ty.injEq, HO.lst.injEq, HO.tup.injEq, HO.ins.injEq, List.cons.injEq, and_true, true_and, and_assoc, exists_and_left, exists_and_right, exists_eq_left, exists_eq_left', exists_eq_right, exists_const, exists_eq, exists_eq', exists_false, exists_prop, false_and, and_false, false_or, or_false, true_or, or_true, List.length_map, Int.natCast_inj, Bool.not_eq_true', decide_eq_false_iff_not, decide_eq_true_eq, List.getElem?_map, Option.map_some, Option.map_none, Option.map_eq_some_iff, upd_same, sz_le, atI_0, atI_1, atI_2, ixN_30, ixN_31, ixN_32, cpow_10, cdivW_small, Int.reduceToNat, Int.reducePow, Int.reduceAdd, Int.reduceSub, Int.reduceMul, Int.reduceNeg, Int.reduceLT, Int.reduceLE, ge_iff_le, gt_iff_lt, Nat.reduceLeDiff, putF_one, lookup_one, Bool.not_true, Bool.not_false, if_true, if_false, Bool.false_eq_true, ite_true, ite_false, Nat.reduceAdd, Nat.reduceSub, Nat.add_zero, Nat.zero_add, Nat.sub_self, reduceCtorEq, decide_true, decide_false, Bool.or_false, Bool.or_true, Bool.and_true, Bool.and_false])
local macro_rules | `(tactic| walk_at "rh") => `(tactic| simp only [cxOf, Cx.nox, Cx.wish, L2.start, tVar, tC, t2I, tIsN, tNotN, tB, tAnd, tOr, tNot, tAndV, tOrV, tNotV, L2.tIf, tNext, tSeq, tBreak, tCont, tDrop, tRet, tRetN, tIfS, tNever, gName, gNil, gCons, gTup, gSub, tAsg, tPar, tPar3, tAug, ipI, tOp, tUn, rI, rI0, rU, rEq, rNe, tTest, tChain, tFld, tCon, sFld, tNil, tCons, tTup, tLst, tCall, tMeth, tMake, tMakeK, tMethK, tCallK, tCallN, tCB, tNoPart, tPart, tSl, rIxL, rIxT, rSetL, rSlL, rAppend, rAll, rIsI, rIsA, tAppend, tLc_eq, tLc2_eq, tFor_eq, tStarH, tRevL, tRevT, tBits, tCallK0, rGcd, rLcm, iSeqH, iSeqS, iZ2H, iZ3H, iEnH, iRevR, tRg1, tRg2, iRng1H, gTupH, tYes, wipe, scal_int, scal_str, scal_bl, List.map_cons, List.map_nil, List.replicate, List.length_cons, List.length_nil, List.cons_append, List.nil_append, List.append_nil, List.getElem?_cons_zero, List.getElem?_cons_succ, List.set_cons_zero, List.set_cons_succ, Option.some.injEq, V.int.injEq, V.bl.injEq, V.ref.injEq, V.str.injEq, V.ty.injEq, HO.lst.injEq, HO.tup.injEq, HO.ins.injEq, List.cons.injEq, and_true, true_and, and_assoc, exists_and_left, exists_and_right, exists_eq_left, exists_eq_left', exists_eq_right, exists_const, exists_eq, exists_eq', exists_false, exists_prop, false_and, and_false, false_or, or_false, true_or, or_true, List.length_map, Int.natCast_inj, Bool.not_eq_true', decide_eq_false_iff_not, decide_eq_true_eq, List.getElem?_map, Option.map_some, Option.map_none, Option.map_eq_some_iff, upd_same, sz_le, atI_0, atI_1, atI_2, ixN_30, ixN_31, ixN_32, cpow_10, cdivW_small, Int.reduceToNat, Int.reducePow, Int.reduceAdd, Int.reduceSub, Int.reduceMul, Int.reduceNeg, Int.reduceLT, Int.reduceLE, ge_iff_le, gt_iff_lt, Nat.reduceLeDiff, putF_one, lookup_one, Bool.not_true, Bool.not_false, if_true, if_false, Bool.false_eq_true, ite_true, ite_false, Nat.reduceAdd, Nat.reduceSub, Nat.add_zero, Nat.zero_add, Nat.sub_self, reduceCtorEq, decide_true, decide_false, Bool.or_false, Bool.or_true, Bool.and_true, Bool.and_false, *])

/-! ### what the program's checks answer -/
theorem TyOf.same {K : PySem.W.Frag} {H H' : Hp} {x : V} {t : Value} (e : Same H H') (h : TyOf K H x t) : TyOf K H' x t := by
  cases h with
  | non => exact .non
  | bl b => exact .bl b
  | int i => exact .int i
  | str y => exact .str y
  | flt y => exact .flt y
  | lst ea => exact .lst (e _ _ ea)
  | frz ea => exact .frz (e _ _ ea)
  | tup ea => exact .tup (e _ _ ea)
  | dK ea => exact .dK (e _ _ ea)
  | dT ea => exact .dT (e _ _ ea)
  | ins ea cl ha hn htk hm => exact .ins (e _ _ ea) cl ha hn htk hm
theorem TyX.same {K : PySem.W.Frag} {H H' : Hp} {x : V} {t : Value} (e : Same H H') (h : TyX K H x t) : TyX K H' x t := by
  cases h with
  | base b => exact .base (TyOf.same e b)
  | byt b => exact .byt b
  | set ea => exact .set (e _ _ ea)
  | kList a b => exact .kList a b
  | kTuple a b => exact .kTuple a b
  | kDict a b => exact .kDict a b
  | fTuple ea => exact .fTuple (e _ _ ea)
  | fDict ea => exact .fDict (e _ _ ea)
theorem IsI.same {K : PySem.W.Frag} {H H' : Hp} {x c : V} {b : Bool} (e : Same H H') (h : IsI K H x c b) : IsI K H' x c b := by
  obtain ⟨t, u, h1, h2, h3⟩ := h
  exact ⟨t, u, h1, TyX.same e h2, h3⟩
theorem IsA.same {K : PySem.W.Frag} {H H' : Hp} {x : V} {cs : List V} {b : Bool} (e : Same H H') (h : IsA K H x cs b) : IsA K H' x cs b := by
  obtain ⟨t, us, h1, h2, h3⟩ := h
  exact ⟨t, us, h1, TyX.same e h2, h3⟩
/-- is_integer(x) is b -/
def IsInt (K : PySem.W.Frag) (H : Hp) (x : V) (b : Bool) : Prop := ∃ b1 b2, IsI K H x (.ty "int") b1 ∧ (b1 = true → IsI K H x (.ty "bool") b2) ∧ b = (b1 && !b2)
theorem IsInt.same {K : PySem.W.Frag} {H H' : Hp} {x : V} {b : Bool} (e : Same H H') (h : IsInt K H x b) : IsInt K H' x b := by
  obtain ⟨b1, b2, h1, h2, h3⟩ := h
  exact ⟨b1, b2, IsI.same e h1, fun z => IsI.same e (h2 z), h3⟩
theorem isInt_int {K : PySem.W.Frag} {H : Hp} (n : Int) : IsInt K H (.int n) true := ⟨true, false, isI_ty (.base (.int n)) (by decide +kernel), fun _ => isI_ty (.base (.int n)) (by decide +kernel), rfl⟩
/-- is_integer(x) and 0 <= x < s is c -/
def PlaceB (K : PySem.W.Frag) (H : Hp) (x : V) (s : Int) (c : Bool) : Prop := (IsInt K H x false ∧ c = false) ∨ ∃ n, x = .int n ∧ c = (decide (0 ≤ n) && decide (n < s))
theorem PlaceB.same {K : PySem.W.Frag} {H H' : Hp} {x : V} {s : Int} {c : Bool} (e : Same H H') (h : PlaceB K H x s c) : PlaceB K H' x s c := by
  rcases h with ⟨h, q⟩ | h
  · exact .inl ⟨IsInt.same e h, q⟩
  · exact .inr h
/-- is_seat(sizes, x) is b -/
def SeatB (K : PySem.W.Frag) (H : Hp) (ss : List Int) (x : V) (b : Bool) : Prop := (IsI K H x (.ty "tuple") false ∧ b = false) ∨ ∃ p xs, x = .ref p ∧ H p = some (.tup xs) ∧ ((xs.length ≠ ss.length ∧ b = false) ∨
  (xs.length = ss.length ∧ xs.length ≤ sizeLine ∧ ∃ bs : List Bool, bs.length = xs.length ∧ b = bs.all id ∧ ∀ (i : Nat) x s c, xs[i]? = some x → ss[i]? = some s → bs[i]? = some c → PlaceB K H x s c))
/-- is_call(sizes, x) is b -/
def CallB (K : PySem.W.Frag) (H : Hp) (n : Nat) (x : V) (b : Bool) : Prop := (IsI K H x (.ty "tuple") false ∧ b = false) ∨ ∃ p xs, x = .ref p ∧ H p = some (.tup xs) ∧ ((xs.length ≠ n ∧ b = false) ∨
  (xs.length = n ∧ xs.length ≤ sizeLine ∧ ∃ bs : List Bool, bs.length = xs.length ∧ b = bs.all id ∧ ∀ (i : Nat) x c, xs[i]? = some x → bs[i]? = some c → IsInt K H x c))
/-- is_direction(x) is b -/
def DirB (K : PySem.W.Frag) (H : Hp) (x : V) (b : Bool) : Prop := (IsI K H x (.ty "str") false ∧ b = false) ∨ ∃ z : Str, x = .str z ∧ b = (z == "forward" || z == "backward")
/-- _are_sizes(x) is b -/
def SizesB (K : PySem.W.Frag) (H : Hp) (x : V) (b : Bool) : Prop := (IsA K H x [.ty "list", .ty "tuple"] false ∧ b = false) ∨ ∃ k p xs, x = .ref p ∧ Sqh k H p xs ∧ ((¬ (1 ≤ xs.length ∧ xs.length ≤ 4) ∧ b = false) ∨
  (1 ≤ xs.length ∧ xs.length ≤ 4 ∧ ∃ bs : List Bool, bs.length = xs.length ∧ b = bs.all id ∧ ∀ (i : Nat) x c, xs[i]? = some x → bs[i]? = some c → (IsInt K H x false ∧ c = false) ∨ ∃ n, x = .int n ∧ c = decide (1 ≤ n)))
/-- a table at a, of the sizes ss -/
def TabAt (C : Addr) (H : Hp) (a : Addr) (ss : List Int) : Prop := ∃ dx t, H a = some (.ins C dx [("_sizes", .ref t)]) ∧ H t = some (.tup (ss.map V.int))
theorem TabAt.same {C : Addr} {H H' : Hp} {a : Addr} {ss : List Int} (e : Same H H') (h : TabAt C H a ss) : TabAt C H' a ss := by
  obtain ⟨dx, t, h1, h2⟩ := h
  exact ⟨dx, t, e _ _ h1, e _ _ h2⟩
section
variable {P : Program} {w : World} {K : PySem.W.Frag} {mg : Str → Option Value} {base : Heap}
def sp_is_integer (K : PySem.W.Frag) : Sp := fun vs H Q _ => ∃ x b, vs = [x] ∧ IsInt K H x b ∧ Q (.bl b) H
theorem ok_is_integer (T : Tx K mg) : FnOk P w K mg base CX0 1 T.f_is_integer T.fd_is_integer ["number"] (sp_is_integer K) := by
  refine T.F_is_integer.ok sc_is_integer (fun vs H Q E h => ?_) (fun cdv A outer s H vs Q E hr h => ?_)
  · obtain ⟨x, b, rfl, _⟩ := h; rfl
  · obtain ⟨x, b, rfl, ⟨b1, b2, h1, h2, rfl⟩, q⟩ := h
    refine ⟨_, (pss_one (ps_ret (pe_and (pe_callB (call_isIK (K := K) rfl) (by rfl) T.n_isinstance (by decide +kernel) (pa_cons (pv 0) (pa_cons (pe_bltn (v := .ty "int") (by rfl) T.n_int (by decide +kernel) rfl) pa_nil))) (pe_one (pe_not (pe_callB (call_isIK (K := K) rfl) (by rfl) T.n_isinstance (by decide +kernel) (pa_cons (pv 0) (pa_cons (pe_bltn (v := .ty "bool") (by rfl) T.n_bool (by decide +kernel) rfl) pa_nil)))))))), ?_⟩
    walk_at "rd"
    refine ⟨b1, h1, ?_⟩
    cases b1 with
    | false => walk_at "rd"; exact q
    | true =>
      walk_at "rd"
      exact ⟨b2, h2 rfl, q⟩
def sp_is_seat (K : PySem.W.Frag) : Sp := fun vs H Q _ => ∃ k a ss x b, vs = [.ref a, x] ∧ Sqh k H a (ss.map V.int) ∧ SeatB K H ss x b ∧ ∀ H', Same H H' → Q (.bl b) H'
/-- is_place(size, x) -/
def sp_is_place (K : PySem.W.Frag) : Sp := fun vs H Q _ => ∃ s x c, vs = [.int s, x] ∧ PlaceB K H x s c ∧ Q (.bl c) H
theorem ok_is_place (T : Tx K mg) : FnOk P w K mg base CX0 1 T.f_is_place T.fd_is_place ["size", "place"] (sp_is_place K) := by
  refine T.F_is_place.ok sc_is_place (fun vs H Q E h => ?_) (fun cdv A outer s H vs Q E hr h => ?_)
  · obtain ⟨z, x, c, rfl, _⟩ := h; rfl
  · obtain ⟨z, x, c, rfl, hb, q⟩ := h
    refine ⟨_, (pss_one (ps_ret (pe_and (pe_callB (call_isIK (K := K) rfl) (by rfl) T.n_isinstance (by decide +kernel) (pa_cons (pv 1) (pa_cons (pe_bltn (v := .ty "int") (by rfl) T.n_int (by decide +kernel) rfl) pa_nil))) (pe_and (pe_not (pe_callB (call_isIK (K := K) rfl) (by rfl) T.n_isinstance (by decide +kernel) (pa_cons (pv 1) (pa_cons (pe_bltn (v := .ty "bool") (by rfl) T.n_bool (by decide +kernel) rfl) pa_nil)))) (pe_one (pe_chain op_le op_lt pe_int (pv 1) (pv 0))))))), ?_⟩
    walk_at "rd"
    rcases hb with ⟨⟨b1, b2, h1, h2, h3⟩, rfl⟩ | ⟨n, rfl, rfl⟩
    · refine ⟨b1, h1, ?_⟩
      cases b1 with
      | false => walk_at "rd"; exact q
      | true =>
        walk_at "rd"
        refine ⟨b2, h2 rfl, ?_⟩
        cases b2 with
        | true => walk_at "rd"; exact q
        | false => cases h3
    · rw [isI_int_int]
      walk_at "rd"
      rw [isI_int_bool]
      walk_at "rd"
      by_cases h4 : 0 ≤ n
      · rw [if_pos h4]
        rw [decide_eq_true h4, Bool.true_and] at q
        exact q
      · rw [if_neg h4]
        rw [decide_eq_false h4, Bool.false_and] at q
        exact q
def sp_is_call (K : PySem.W.Frag) : Sp := fun vs H Q _ => ∃ k a ss x b, vs = [.ref a, x] ∧ Sqh k H a ss ∧ CallB K H ss.length x b ∧ ∀ H', Same H H' → Q (.bl b) H'
def sp_is_direction (K : PySem.W.Frag) : Sp := fun vs H Q _ => ∃ x b, vs = [x] ∧ DirB K H x b ∧ ∀ H', Same H H' → Q (.bl b) H'
def sp_require_seat (K : PySem.W.Frag) : Sp := fun vs H Q _ => ∃ k a ss x, vs = [.ref a, x] ∧ Sqh k H a (ss.map V.int) ∧ SeatB K H ss x true ∧ ∀ H', Same H H' → Q .non H'
def sp_require_call (K : PySem.W.Frag) : Sp := fun vs H Q _ => ∃ k a ss x, vs = [.ref a, x] ∧ Sqh k H a ss ∧ CallB K H ss.length x true ∧ ∀ H', Same H H' → Q .non H'
def sp_require_direction (K : PySem.W.Frag) : Sp := fun vs H Q _ => ∃ x, vs = [x] ∧ DirB K H x true ∧ ∀ H', Same H H' → Q .non H'
def sp_are_sizes (K : PySem.W.Frag) : Sp := fun vs H Q _ => ∃ x b, vs = [x] ∧ SizesB K H x b ∧ ∀ H', Same H H' → Q (.bl b) H'
/-- an instance is written; all else is as it was -/
def sp_Table_init (K : PySem.W.Frag) (C : Addr) : Sp := fun vs H Q _ => ∃ (a dx : Addr) (x : V) (p : Addr) (k : Bool) (ss : List Int), vs = [.ref a, x] ∧ H a = some (.ins C dx []) ∧ x = .ref p ∧ Sqh k H p (ss.map V.int) ∧ 1 ≤ ss.length ∧ ss.length ≤ 4 ∧ (∀ n ∈ ss, 1 ≤ n) ∧
  ∀ H' t, Sx a H H' → H' a = some (.ins C dx [("_sizes", .ref t)]) → H' t = some (.tup (ss.map V.int)) → Q .non H'
def sp_Table_sizes (K : PySem.W.Frag) (C : Addr) : Sp := fun vs H Q _ => ∃ (a : Addr) (ss : List Int), vs = [.ref a] ∧ TabAt C H a ss ∧ ∀ t, H t = some (.tup (ss.map V.int)) → Q (.ref t) H
def prodI (ss : List Int) : Int := ss.foldl (fun a b => a * b) 1
theorem prodI_take {ss : List Int} {i : Nat} {n : Int} (h : ss[i]? = some n) : prodI (ss.take (i + 1)) = prodI (ss.take i) * n := by
  unfold prodI
  rw [List.take_add_one, h, List.foldl_append]
  rfl
theorem prodI_small {B : Nat} : ∀ {ss : List Int}, (∀ n ∈ ss, n.natAbs < 2 ^ B) → (prodI ss).natAbs < 2 ^ (B * ss.length + 1) := by
  have gen : ∀ (ss : List Int) (a : Int) (A : Nat), (∀ n ∈ ss, n.natAbs < 2 ^ B) → a.natAbs < 2 ^ A → (ss.foldl (fun a b => a * b) a).natAbs < 2 ^ (A + B * ss.length) := by
    intro ss
    induction ss with
    | nil => intro a A _ h; simpa using h
    | cons x r ih =>
      intro a A h ha
      have h1 : (a * x).natAbs < 2 ^ (A + B) := wide_lt ha (h x (List.mem_cons_self ..))
      have h2 := ih (a * x) (A + B) (fun n hn => h n (List.mem_cons_of_mem _ hn)) h1
      rw [List.length_cons, Nat.mul_succ, show A + (B * r.length + B) = A + B + B * r.length by omega]
      exact h2
  intro ss h
  have q := gen ss 1 1 h (by decide)
  rw [Nat.add_comm 1] at q
  exact q
/-- the sizes of a table that is used: 1 to 4, each of at most 1000 bits -/
structure Sz (ss : List Int) : Prop where
  lo : 1 ≤ ss.length
  hi : ss.length ≤ 4
  pos : ∀ n ∈ ss, 1 ≤ n
  bits : ∀ n ∈ ss, n.natAbs < 2 ^ 1000
theorem Sz.mul {ss : List Int} (z : Sz ss) {i : Nat} {n : Int} (h : ss[i]? = some n) : CMulW (prodI (ss.take i)) n := by
  have h1 := prodI_small (B := 1000) (ss := ss.take i) fun n hn => z.bits n (List.mem_of_mem_take hn)
  have h2 := z.bits n (List.mem_of_getElem? h)
  have h3 : (ss.take i).length ≤ 4 := Nat.le_trans (by rw [List.length_take]; omega) z.hi
  exact wide_mul h1 h2 (by omega) (by omega) (by omega)
def sp_Table_count (K : PySem.W.Frag) (C : Addr) : Sp := fun vs H Q _ => ∃ (a : Addr) (ss : List Int), vs = [.ref a] ∧ TabAt C H a ss ∧ Sz ss ∧ Q (.int (prodI ss)) H
/-- the places of the steps -/
def mv (g : Int → Int → Int) : List Int → List Int → List Int → List Int
  | p :: ps, c :: cs, s :: ss => (g p c % s) :: mv g ps cs ss
  | _, _, _ => []
theorem mv_len {g : Int → Int → Int} : ∀ {ps cs ss : List Int}, ps.length = cs.length → cs.length = ss.length → (mv g ps cs ss).length = ps.length
  | [], [], [], _, _ => rfl
  | p :: ps, c :: cs, s :: ss, h1, h2 => by
    show (mv g ps cs ss).length + 1 = ps.length + 1
    rw [mv_len (by simpa using h1) (by simpa using h2)]
theorem mv_get {g : Int → Int → Int} : ∀ {ps cs ss : List Int} {i : Nat} {p c s : Int}, ps[i]? = some p → cs[i]? = some c → ss[i]? = some s → (mv g ps cs ss)[i]? = some (g p c % s)
  | p :: ps, c :: cs, s :: ss, 0, _, _, _, h1, h2, h3 => by
    simp only [List.getElem?_cons_zero, Option.some.injEq] at h1 h2 h3
    subst h1 h2 h3
    rfl
  | p :: ps, c :: cs, s :: ss, i + 1, _, _, _, h1, h2, h3 => mv_get (ps := ps) (cs := cs) (ss := ss) (i := i) h1 h2 h3
  | [], _, _, _, _, _, _, h, _, _ => by simp at h
  | _ :: _, [], _, _, _, _, _, _, h, _ => by simp at h
  | _ :: _, _ :: _, [], _, _, _, _, _, _, h => by simp at h
/-- ps a seat of the sizes ss -/
structure Seat (ss ps : List Int) : Prop where
  len : ps.length = ss.length
  ok : ∀ (i : Nat) p s, ps[i]? = some p → ss[i]? = some s → 0 ≤ p ∧ p < s
theorem Seat.b {K : PySem.W.Frag} {H : Hp} {ss ps : List Int} {p : Addr} (h : Seat ss ps) (z : Sz ss) (hp : H p = some (.tup (ps.map V.int))) : SeatB K H ss (.ref p) true := by
  refine .inr ⟨p, _, rfl, hp, .inr ⟨by rw [List.length_map]; exact h.len, ?_, List.replicate ps.length true, by simp, by simp, fun i x s c hx hs hc => ?_⟩⟩
  · have h4 := z.hi
    have hl := h.len
    rw [List.length_map]
    exact Nat.le_trans (by omega : ps.length ≤ 4) (by decide)
  · simp only [List.getElem?_map, Option.map_eq_some_iff] at hx
    obtain ⟨n, hn, rfl⟩ := hx
    have hi : i < ps.length := (List.getElem?_eq_some_iff.mp hn).1
    rw [List.getElem?_replicate, if_pos hi] at hc
    obtain ⟨h1, h2⟩ := h.ok i n s hn hs
    refine .inr ⟨n, rfl, ?_⟩
    rw [decide_eq_true h1, decide_eq_true h2]
    exact (Option.some.inj hc).symm
theorem call_b {K : PySem.W.Frag} {H : Hp} {cs : List Int} {n : Nat} {p : Addr} (h : cs.length = n) (hn : n ≤ 4) (hp : H p = some (.tup (cs.map V.int))) : CallB K H n (.ref p) true := by
  refine .inr ⟨p, _, rfl, hp, .inr ⟨by rw [List.length_map]; exact h, ?_, List.replicate cs.length true, by simp, by simp, fun i x c hx hc => ?_⟩⟩
  · rw [List.length_map]
    exact Nat.le_trans (by omega : cs.length ≤ 4) (by decide)
  · simp only [List.getElem?_map, Option.map_eq_some_iff] at hx
    obtain ⟨m, hm, rfl⟩ := hx
    have hi : i < cs.length := (List.getElem?_eq_some_iff.mp hm).1
    rw [List.getElem?_replicate, if_pos hi] at hc
    obtain rfl := Option.some.inj hc
    exact isInt_int m
def fw (p c : Int) : Int := p + c
def bw (p c : Int) : Int := p - c
def sp_both_moves (K : PySem.W.Frag) : Sp := fun vs H Q _ => ∃ (kt : Bool) (t p c : Addr) (ss ps cs : List Int), vs = [.ref t, .ref p, .ref c] ∧ Sqh kt H t (ss.map V.int) ∧ H p = some (.tup (ps.map V.int)) ∧ H c = some (.tup (cs.map V.int)) ∧ ps.length = cs.length ∧ cs.length = ss.length ∧ ss.length ≤ 4 ∧ (∀ n ∈ ss, 0 < n) ∧
  ∀ H' r f b, Same H H' → H' r = some (.tup [.ref f, .ref b]) → H' f = some (.tup ((mv fw ps cs ss).map V.int)) → H' b = some (.tup ((mv bw ps cs ss).map V.int)) → Q (.ref r) H'
theorem mv_snoc {g : Int → Int → Int} {ps cs ss : List Int} {i : Nat} {p c s : Int} (h1 : ps[i]? = some p) (h2 : cs[i]? = some c) (h3 : ss[i]? = some s) : (mv g ps cs ss).take (i + 1) = (mv g ps cs ss).take i ++ [g p c % s] := by
  rw [List.take_add_one, mv_get h1 h2 h3]
  rfl
def sp_Table_moves (K : PySem.W.Frag) (C : Addr) : Sp := fun vs H Q _ => ∃ (a p c : Addr) (ss ps cs : List Int), vs = [.ref a, .ref p, .ref c] ∧ TabAt C H a ss ∧ Sz ss ∧ H p = some (.tup (ps.map V.int)) ∧ Seat ss ps ∧ H c = some (.tup (cs.map V.int)) ∧ cs.length = ss.length ∧
  ∀ H' r f b, Same H H' → H' r = some (.tup [.ref f, .ref b]) → H' f = some (.tup ((mv fw ps cs ss).map V.int)) → H' b = some (.tup ((mv bw ps cs ss).map V.int)) → Q (.ref r) H'
def sp_stepped (K : PySem.W.Frag) : Sp := fun vs H Q _ => ∃ (kt : Bool) (t p c : Addr) (z : Str) (ss ps cs : List Int), vs = [.ref t, .ref p, .ref c, .str z] ∧ Sqh kt H t (ss.map V.int) ∧ H p = some (.tup (ps.map V.int)) ∧ H c = some (.tup (cs.map V.int)) ∧ ps.length = cs.length ∧ cs.length = ss.length ∧ ss.length ≤ 4 ∧ (∀ n ∈ ss, 0 < n) ∧ (z = "forward" ∨ z = "backward") ∧
  ∀ H' f, Same H H' → H' f = some (.tup ((mv (if z = "forward" then fw else bw) ps cs ss).map V.int)) → Q (.ref f) H'
def sp_Table_step (K : PySem.W.Frag) (C : Addr) : Sp := fun vs H Q _ => ∃ (a p c : Addr) (z : Str) (ss ps cs : List Int), vs = [.ref a, .ref p, .ref c, .str z] ∧ TabAt C H a ss ∧ Sz ss ∧ H p = some (.tup (ps.map V.int)) ∧ Seat ss ps ∧ H c = some (.tup (cs.map V.int)) ∧ cs.length = ss.length ∧ (z = "forward" ∨ z = "backward") ∧
  ∀ H' f, Same H H' → H' f = some (.tup ((mv (if z = "forward" then fw else bw) ps cs ss).map V.int)) → Q (.ref f) H'
end

/-- lists of ints at the addresses as -/
def AsL (H : Hp) (as : List Addr) (rows : List (List Int)) : Prop := as.length = rows.length ∧ ∀ (i : Nat) t r, as[i]? = some t → rows[i]? = some r → H t = some (.lst (r.map V.int))
theorem AsL.same {H H' : Hp} {as : List Addr} {rows : List (List Int)} (e : Same H H') (h : AsL H as rows) : AsL H' as rows := ⟨h.1, fun i t r h1 h2 => e _ _ (h.2 i t r h1 h2)⟩
theorem AsL.nil {H : Hp} : AsL H [] [] := ⟨rfl, fun i t r h _ => by simp at h⟩
theorem AsL.snoc {H : Hp} {as : List Addr} {rows : List (List Int)} {t : Addr} {r : List Int} (h : AsL H as rows) (ht : H t = some (.lst (r.map V.int))) : AsL H (as ++ [t]) (rows ++ [r]) := by
  refine ⟨by rw [List.length_append, List.length_append, h.1]; rfl, fun i u g h1 h2 => ?_⟩
  by_cases hlt : i < as.length
  · rw [List.getElem?_append_left hlt] at h1
    rw [List.getElem?_append_left (by rw [← h.1]; exact hlt)] at h2
    exact h.2 i u g h1 h2
  · rw [List.getElem?_append_right (by omega)] at h1
    rw [List.getElem?_append_right (by rw [← h.1]; omega), ← h.1] at h2
    cases hk : i - as.length with
    | zero =>
      rw [hk] at h1 h2
      simp only [List.getElem?_cons_zero, Option.some.injEq] at h1 h2
      rw [← h1, ← h2]; exact ht
    | succ m => rw [hk] at h1; simp at h1
theorem AsL.put {H : Hp} {as : List Addr} {rows : List (List Int)} {D : Addr} {o : HO} (h : AsL H as rows) (hd : ∀ t ∈ as, t ≠ D) : AsL (upd H D o) as rows :=
  ⟨h.1, fun i t r h1 h2 => by rw [upd_ne (hd t (List.mem_of_getElem? h1))]; exact h.2 i t r h1 h2⟩
theorem row_ne {H : Hp} {t D : Addr} {r : List Int} {bs : List Addr} (h1 : H t = some (.lst (r.map V.int))) (h2 : H D = some (.lst (bs.map V.ref))) (h : r ≠ []) : t ≠ D := fun e => by
  rw [e, h2] at h1
  have h3 : bs.map V.ref = r.map V.int := by
    have := Option.some.inj h1
    injection this
  cases r with
  | nil => exact h rfl
  | cons x r => cases bs <;> simp at h3
theorem AsL.ne {H : Hp} {as : List Addr} {rows : List (List Int)} {D : Addr} {bs : List Addr} (h : AsL H as rows) (hD : H D = some (.lst (bs.map V.ref))) (hr : ∀ r ∈ rows, r ≠ []) : ∀ t ∈ as, t ≠ D := fun t ht => by
  obtain ⟨i, hi, e⟩ := List.getElem_of_mem ht
  have hi2 : i < rows.length := by rw [← h.1]; exact hi
  exact row_ne (h.2 i t rows[i] (by rw [List.getElem?_eq_getElem hi, e]) (List.getElem?_eq_getElem hi2)) hD (hr _ (List.getElem_mem hi2))
/-- a list of lists of ints, at a -/
def LstL (H : Hp) (a : Addr) (rows : List (List Int)) : Prop := ∃ as : List Addr, H a = some (.lst (as.map V.ref)) ∧ AsL H as rows
theorem LstL.same {H H' : Hp} {a : Addr} {rows : List (List Int)} (e : Same H H') (h : LstL H a rows) : LstL H' a rows := by
  obtain ⟨as, h1, h2⟩ := h
  exact ⟨as, e _ _ h1, h2.same e⟩

/-! ### reach -/
section
variable {P : Program} {w : World} {K : PySem.W.Frag} {mg : Str → Option Value} {base : Heap}
theorem isI_own {C a dx : Addr} {fs : List (Str × V)} {H : Hp} (c : C8.InsC K C) (ha : H a = some (.ins C dx fs)) : IsI K H (.ref a) (.ref C) true := ⟨_, _, .own C, .base (.ins ha c.cl c.ha c.hn c.htk c.hm), c.me⟩
def sp_sizes_of (K : PySem.W.Frag) (C : Addr) : Sp := fun vs H Q _ => ∃ (a : Addr) (ss : List Int), vs = [.ref a] ∧ TabAt C H a ss ∧ ∀ t, H t = some (.tup (ss.map V.int)) → Q (.ref t) H
def dot : List Int → List Int → Int
  | x :: xs, y :: ys => x * y + dot xs ys
  | _, _ => 0
theorem dot_sum : ∀ xs ys : List Int, (List.zipWith (· * ·) xs ys).sum = dot xs ys
  | [], _ => by simp [dot]
  | _ :: _, [] => by simp [dot]
  | x :: xs, y :: ys => by
    rw [List.zipWith_cons_cons, List.sum_cons, dot_sum xs ys]
    rfl
theorem zw_get {g : Int → Int → Int} {xs ys : List Int} {i : Nat} {x y : Int} (hx : xs[i]? = some x) (hy : ys[i]? = some y) : (List.zipWith g xs ys)[i]? = some (g x y) := by
  rw [List.getElem?_zipWith, hx, hy]
/-- [g(x, y) for x, y in zip(xs, ys)] -/
theorem lcr_two {J : It} {xs ys : List Int} {G : Hp → Prop} {Q : VK} {te : TE} {σ : L2.St} {H : Hp} {p q : Nat} {g : TG} (hlen : xs.length = ys.length) (hs : xs.length ≤ 64) (φ : Int → Int → Int)
    (W : Walk J (xs.map V.int).length G (YPair (fun i => (xs.map V.int)[i]?) fun i => (ys.map V.int)[i]?)) (hG : ∀ H3, Same H H3 → G H3)
    (hg : ∀ (T0 : Addr) (x y : Int) (H3 : Hp) (R : L2.St → Hp → Prop), H3 T0 = some (.tup [V.int x, V.int y]) → R ((σ.set p (some (V.int x))).set q (some (V.int y))) H3 → g (.ref T0) (wipe σ [p, q]) H3 R)
    (hw : ∀ (x y : Option V), wipe ((σ.set p x).set q y) [p, q] = wipe σ [p, q])
    (hte : ∀ (i : Nat) (x y : Int) (Qy : VK) H3, xs[i]? = some x → ys[i]? = some y → Qy (.int (φ x y)) H3 → te ((σ.set p (some (V.int x))).set q (some (V.int y))) H3 Qy)
    (hq : ∀ D H3, H D = none → Same H H3 → H3 D = some (.lst ((List.zipWith φ xs ys).map V.int)) → Q (.ref D) H3) : LcR J g tYes te [p, q] σ H Q := by
  refine lcr_map W ((List.zipWith φ xs ys).map V.int) (by simp [hlen]) (by rw [List.length_map]; exact Nat.le_trans hs (by decide)) hG (fun _ _ _ _ y => YPair.same y) ?_ hq
  intro i x H3 H4 y Qy hi s3 hy hr hq
  obtain ⟨T0, x1, y1, rfl, hT, rfl, e1, e2⟩ := hy
  simp only [List.getElem?_map, Option.map_eq_some_iff] at hr e1 e2
  obtain ⟨x2, hx2, rfl⟩ := e1
  obtain ⟨y2, hy2, rfl⟩ := e2
  rw [zw_get hx2 hy2] at hr
  obtain ⟨r, hr, rfl⟩ := hr
  obtain rfl := Option.some.inj hr
  exact hg T0 x2 y2 _ _ upd_same ⟨hw _ _, hte i x2 y2 Qy _ hx2 hy2 (hq _ (Same.refl _))⟩
def sp_weighted_sum (K : PySem.W.Frag) : Sp := fun vs H Q _ => ∃ (k1 k2 : Bool) (a b : Addr) (xs ys : List Int), vs = [.ref a, .ref b] ∧ Sqh k1 H a (xs.map V.int) ∧ Sqh k2 H b (ys.map V.int) ∧ xs.length = ys.length ∧ xs.length ≤ 64 ∧
  (∀ (i : Nat) x y, xs[i]? = some x → ys[i]? = some y → CMulA x y) ∧ ∀ H', Same H H' → Q (.int (dot xs ys)) H'
def sub2 (xs ys : List Int) : List Int := List.zipWith (fun x y => x - y) xs ys
def mod2 (xs ys : List Int) : List Int := List.zipWith (fun x y => x % y) xs ys
def sp_difference (K : PySem.W.Frag) : Sp := fun vs H Q _ => ∃ (k1 k2 : Bool) (a b : Addr) (xs ys : List Int), vs = [.ref a, .ref b] ∧ Sqh k1 H a (xs.map V.int) ∧ Sqh k2 H b (ys.map V.int) ∧ xs.length = ys.length ∧ xs.length ≤ 64 ∧
  ∀ H' l, Same H H' → H l = none → H' l = some (.lst ((sub2 xs ys).map V.int)) → Q (.ref l) H'
def sp_reduced (K : PySem.W.Frag) : Sp := fun vs H Q _ => ∃ (k1 k2 : Bool) (a b : Addr) (xs ys : List Int), vs = [.ref a, .ref b] ∧ Sqh k1 H a (xs.map V.int) ∧ Sqh k2 H b (ys.map V.int) ∧ xs.length = ys.length ∧ xs.length ≤ 64 ∧ (∀ y ∈ ys, 0 < y) ∧
  ∀ H' l, Same H H' → H l = none → H' l = some (.lst ((mod2 xs ys).map V.int)) → Q (.ref l) H'
def lowN (n : Nat) : Nat := n - (n &&& (n - 1))
theorem low_even {q : Nat} (h : 0 < q) : lowN (2 * q) = 2 * lowN q := by
  unfold lowN
  have e : (2 * q) &&& (2 * q - 1) = 2 * (q &&& (q - 1)) := by
    have h1 : ((2 * q) &&& (2 * q - 1)) / 2 = q &&& (q - 1) := by
      rw [Nat.and_div_two, show 2 * q / 2 = q by omega, show (2 * q - 1) / 2 = q - 1 by omega]
    have h2 : ((2 * q) &&& (2 * q - 1)) % 2 = 0 := by
      have h3 := Nat.and_mod_two_pow (a := 2 * q) (b := 2 * q - 1) (n := 1)
      rw [Nat.pow_one, show (2 * q) % 2 = 0 by omega, Nat.zero_and] at h3
      exact h3
    omega
  have h4 : q &&& (q - 1) ≤ q := Nat.and_le_left
  rw [e]
  omega
theorem low_odd (q : Nat) : lowN (2 * q + 1) = 1 := by
  unfold lowN
  have e : (2 * q + 1) &&& (2 * q + 1 - 1) = 2 * q := by
    have h1 : ((2 * q + 1) &&& (2 * q + 1 - 1)) / 2 = q := by
      rw [Nat.and_div_two, show (2 * q + 1) / 2 = q by omega, show (2 * q + 1 - 1) / 2 = q by omega, Nat.and_self]
    have h2 : ((2 * q + 1) &&& (2 * q + 1 - 1)) % 2 = 0 := by
      have h3 := Nat.and_mod_two_pow (a := 2 * q + 1) (b := 2 * q + 1 - 1) (n := 1)
      rw [Nat.pow_one, show (2 * q + 1 - 1) % 2 = 0 by omega, Nat.and_zero] at h3
      exact h3
    omega
  omega
def oddN (n : Nat) : Nat := n / lowN n
theorem odd_even {q : Nat} (h : 0 < q) : oddN (2 * q) = oddN q := by
  unfold oddN
  rw [low_even h, Nat.mul_div_mul_left _ _ (by decide)]
theorem odd_odd (q : Nat) : oddN (2 * q + 1) = 2 * q + 1 := by
  unfold oddN
  rw [low_odd, Nat.div_one]
/-- a size is its odd part times a power of 2 -/
theorem odd_split : ∀ n : Nat, 0 < n → ∃ k, n = oddN n * 2 ^ k ∧ oddN n % 2 = 1 := by
  intro n
  induction n using Nat.strongRecOn with
  | ind n ih =>
    intro h
    by_cases h2 : n % 2 = 0
    · obtain ⟨q, rfl⟩ : ∃ q, n = 2 * q := ⟨n / 2, by omega⟩
      obtain ⟨k, e1, e2⟩ := ih q (by omega) (by omega)
      rw [odd_even (by omega)]
      exact ⟨k + 1, by rw [Nat.pow_succ, ← Nat.mul_assoc, ← e1]; omega, e2⟩
    · obtain ⟨q, rfl⟩ : ∃ q, n = 2 * q + 1 := ⟨n / 2, by omega⟩
      rw [odd_odd]
      exact ⟨0, by simp, by omega⟩
theorem odd_pos {n : Nat} (h : 0 < n) : 0 < oddN n := by
  obtain ⟨k, _, e⟩ := odd_split n h
  omega
theorem low_pos {n : Nat} (h : 0 < n) : 0 < lowN n := by
  have h1 := odd_pos h
  unfold oddN at h1
  by_cases e : lowN n = 0
  · rw [e] at h1; simp at h1
  · omega
theorem and_neg {n : Nat} (h : 0 < n) : Builtin.bitAnd (n : Int) (-(n : Int)) = (lowN n : Nat) := by
  rw [bitAnd_pn (by omega) (by omega)]
  have e : (Builtin.bitNot (-(n : Int))).toNat = n - 1 := by
    unfold Builtin.bitNot
    omega
  rw [e, Int.toNat_natCast]
  unfold lowN
  have h4 : n &&& (n - 1) ≤ n := Nat.and_le_left
  omega
def oddI (s : Int) : Int := (oddN s.toNat : Nat)
def sp_odd_part (K : PySem.W.Frag) : Sp := fun vs H Q _ => ∃ s : Int, vs = [.int s] ∧ 1 ≤ s ∧ s.natAbs < 2 ^ 6000 ∧ Q (.int (oddI s)) H
theorem ixN_in {n i : Nat} (h : i < n) : ixN n (i : Int) = some i := by
  unfold ixN
  simp [h]
def rowI (es : List Int) (i : Nat) : List Int := (List.replicate es.length (0 : Int)).set i (es.getD i 0)
def diagI (es : List Int) : List (List Int) := (List.range es.length).map (rowI es)
theorem flat0 (k : Nat) : (List.replicate k [V.int 0]).flatten = (List.replicate k (0 : Int)).map V.int := by
  induction k with
  | zero => rfl
  | succ k ih => rw [List.replicate_succ, List.flatten_cons, ih, List.replicate_succ]; rfl
theorem diag_take {es : List Int} {i : Nat} (h : i < es.length) : (diagI es).take (i + 1) = (diagI es).take i ++ [rowI es i] := by
  have e : (diagI es)[i]? = some (rowI es i) := by
    unfold diagI
    rw [List.getElem?_map, List.getElem?_range h]
    rfl
  rw [List.take_add_one, e]
  rfl
def MD1 (l : Addr) (H : Hp) (σ : L2.St) (H' : Hp) : Prop := ∃ D, σ = [some (V.ref l), some (V.ref D), none, none, none] ∧ Same H H' ∧ H D = none ∧ H' D = some (.lst [])
def MD2 (l D : Addr) (es : List Int) (H : Hp) (σ : L2.St) (H' : Hp) : Prop := ∃ v2 v3 v4, σ = [some (V.ref l), some (V.ref D), v2, v3, v4] ∧ Same H H' ∧ LstL H' D (diagI es)
def MD3 (l D : Addr) (i : Nat) (e : Int) (es : List Int) (H : Hp) (σ : L2.St) (H' : Hp) : Prop := ∃ r, σ = [some (V.ref l), some (V.ref D), some (V.int (i : Nat)), some (V.int e), some (V.ref r)] ∧ Same H H' ∧ H r = none ∧ H' r = some (.lst ((List.replicate es.length (0 : Int)).map V.int))
def MD4 (l D r : Addr) (i : Nat) (e : Int) (es : List Int) (H : Hp) (σ : L2.St) (H' : Hp) : Prop := σ = [some (V.ref l), some (V.ref D), some (V.int (i : Nat)), some (V.int e), some (V.ref r)] ∧ Same H H' ∧ H' r = some (.lst ((rowI es i).map V.int))
def sp_diagonal (K : PySem.W.Frag) : Sp := fun vs H Q _ => ∃ (l : Addr) (es : List Int), vs = [.ref l] ∧ H l = some (.lst (es.map V.int)) ∧ es.length ≤ 64 ∧ ∀ H' D, Same H H' → H D = none → LstL H' D (diagI es) → Q (.ref D) H'
end

/-! ### odd parts -/
theorem cd_of {n : Nat} {z : Int} (h : n ∣ z.natAbs) : ((n : Nat) : Int) ∣ z := Int.natAbs_dvd_natAbs.mp (by rw [Int.natAbs_natCast]; exact h)
theorem cd_to {n : Nat} {z : Int} (h : ((n : Nat) : Int) ∣ z) : n ∣ z.natAbs := by
  have := Int.natAbs_dvd_natAbs.mpr h
  rwa [Int.natAbs_natCast] at this
theorem oddI_pos {s : Int} (h : 1 ≤ s) : 0 < oddI s := by
  have := odd_pos (n := s.toNat) (by omega)
  unfold oddI
  omega
theorem oddI_split {s : Int} (h : 1 ≤ s) : ∃ k : Nat, s = oddI s * 2 ^ k ∧ oddI s % 2 = 1 := by
  obtain ⟨k, e1, e2⟩ := odd_split s.toNat (by omega)
  refine ⟨k, ?_, by unfold oddI; omega⟩
  have : (s.toNat : Int) = ((oddN s.toNat * 2 ^ k : Nat) : Int) := by rw [← e1]
  rw [Int.natCast_mul, Int.natCast_pow] at this
  unfold oddI
  rw [Int.toNat_of_nonneg (by omega)] at this
  exact this
theorem odd_dvd {e x : Int} {k : Nat} (he : e % 2 = 1) (h : e ∣ x * 2 ^ k) : e ∣ x := by
  have hc : Nat.Coprime e.natAbs (2 ^ k) := by
    refine Nat.Coprime.pow_right k ?_
    have h2 : e.natAbs % 2 = 1 := by omega
    show Nat.gcd e.natAbs 2 = 1
    rw [Nat.gcd_comm, Nat.gcd_rec, h2]
    rfl
  have h1 := Int.natAbs_dvd_natAbs.mpr h
  rw [Int.natAbs_mul, Int.natAbs_pow] at h1
  exact Int.natAbs_dvd_natAbs.mp (hc.dvd_of_dvd_mul_right h1)
theorem dvd_odd {e o : Int} (h : e ∣ o) (ho : o % 2 = 1) : e % 2 = 1 := by
  obtain ⟨c, rfl⟩ := h
  have h12 : e % 2 = 0 ∨ e % 2 = 1 := by omega
  rcases h12 with h | h
  · exfalso
    rw [Int.mul_emod, h] at ho
    simp at ho
  · exact h
theorem oddI_dvd {s : Int} (h : 1 ≤ s) : oddI s ∣ s := by
  obtain ⟨k, e, _⟩ := oddI_split h
  exact ⟨2 ^ k, e⟩

theorem gcd_emod {a b c : Int} (h : (c.natAbs : Int) ∣ b) : Nat.gcd c.natAbs (a % b).natAbs = Nat.gcd c.natAbs a.natAbs := by
  apply Nat.dvd_antisymm
  · refine Nat.dvd_gcd (Nat.gcd_dvd_left _ _) ?_
    have h1 : ((Nat.gcd c.natAbs (a % b).natAbs : Nat) : Int) ∣ b := Int.dvd_trans (Int.natCast_dvd_natCast.mpr (Nat.gcd_dvd_left _ _)) h
    have h2 : ((Nat.gcd c.natAbs (a % b).natAbs : Nat) : Int) ∣ a % b := cd_of (Nat.gcd_dvd_right _ _)
    have e : a = a % b + b * (a / b) := by have := Int.emod_add_mul_ediv a b; omega
    have h5 := Int.dvd_add h2 (Int.dvd_mul_of_dvd_left (c := a / b) h1)
    rw [← e] at h5
    exact cd_to h5
  · refine Nat.dvd_gcd (Nat.gcd_dvd_left _ _) ?_
    have h1 : ((Nat.gcd c.natAbs a.natAbs : Nat) : Int) ∣ b := Int.dvd_trans (Int.natCast_dvd_natCast.mpr (Nat.gcd_dvd_left _ _)) h
    have h2 : ((Nat.gcd c.natAbs a.natAbs : Nat) : Int) ∣ a := cd_of (Nat.gcd_dvd_right _ _)
    have e : a % b = a - b * (a / b) := by have := Int.emod_add_mul_ediv a b; omega
    have h5 := Int.dvd_sub h2 (Int.dvd_mul_of_dvd_left (c := a / b) h1)
    rw [← e] at h5
    exact cd_to h5

/-! ### two targets on a ring -/
theorem pow_and {m : Nat} (h : 0 < m) : m &&& (m - 1) = 0 ↔ ∃ k, m = 2 ^ k := by
  constructor
  · intro e
    obtain ⟨k, e1, _⟩ := odd_split m h
    have e2 : lowN m = m := by unfold lowN; rw [e, Nat.sub_zero]
    unfold oddN at e1
    rw [e2, Nat.div_self h, Nat.one_mul] at e1
    exact ⟨k, e1⟩
  · rintro ⟨k, rfl⟩
    rw [Nat.and_two_pow_sub_one_eq_mod, Nat.mod_self]
theorem dvd_sub_mod (x m : Int) : m ∣ x % m - x := by
  have := Int.emod_add_mul_ediv x m
  exact ⟨-(x / m), by rw [Int.mul_neg]; omega⟩
/-- j targets at step of t targets in all give t times gap -/
def Sol (size step gap j t : Int) : Prop := size ∣ j * step - t * gap
structure Ring2 (size step g Z S : Int) : Prop where
  gpos : 0 < g
  zpos : 0 < Z
  esize : size = g * Z
  estep : step = g * S
  cop : Nat.gcd S.natAbs Z.natAbs = 1
theorem ring2_of {size step : Int} (h : 1 ≤ size) : Ring2 size step ((Nat.gcd step.natAbs size.natAbs : Nat) : Int) (size / ((Nat.gcd step.natAbs size.natAbs : Nat) : Int)) (step / ((Nat.gcd step.natAbs size.natAbs : Nat) : Int)) := by
  have hg : 0 < Nat.gcd step.natAbs size.natAbs := Nat.gcd_pos_of_pos_right _ (by omega)
  have d1 : ((Nat.gcd step.natAbs size.natAbs : Nat) : Int) ∣ size := Int.natAbs_dvd_natAbs.mp (by rw [Int.natAbs_natCast]; exact Nat.gcd_dvd_right _ _)
  have d2 : ((Nat.gcd step.natAbs size.natAbs : Nat) : Int) ∣ step := Int.natAbs_dvd_natAbs.mp (by rw [Int.natAbs_natCast]; exact Nat.gcd_dvd_left _ _)
  refine ⟨by omega, Int.ediv_pos_of_pos_of_dvd (by omega) (by omega) d1, (Int.mul_ediv_cancel' d1).symm, (Int.mul_ediv_cancel' d2).symm, ?_⟩
  rw [Int.natAbs_ediv_of_dvd d2, Int.natAbs_ediv_of_dvd d1, Int.natAbs_natCast]
  exact Nat.coprime_div_gcd_div_gcd hg
theorem Sol.dvd {size step gap j t g Z S : Int} (r : Ring2 size step g Z S) (h : Sol size step gap j t) : g ∣ t * gap := by
  have d1 : g ∣ size := ⟨Z, r.esize⟩
  have d2 : g ∣ j * step := Int.dvd_mul_of_dvd_right ⟨S, r.estep⟩
  have := Int.dvd_sub d2 (Int.dvd_trans d1 h)
  rwa [show j * step - (j * step - t * gap) = t * gap by omega] at this
theorem Sol.uniq {size step gap j k t g Z S : Int} (r : Ring2 size step g Z S) (h : Sol size step gap j t) (h2 : Sol size step gap k t) : Z ∣ j - k := by
  have d := Int.dvd_sub h h2
  rw [show j * step - t * gap - (k * step - t * gap) = (j - k) * step by rw [Int.sub_mul]; omega, r.esize, r.estep, Int.mul_left_comm] at d
  have d2 : Z ∣ (j - k) * S := Int.dvd_of_mul_dvd_mul_left (by have := r.gpos; omega) d
  have d3 := Int.natAbs_dvd_natAbs.mpr d2
  rw [Int.natAbs_mul] at d3
  have hc : Nat.Coprime Z.natAbs S.natAbs := by rw [Nat.coprime_comm]; exact r.cop
  exact Int.natAbs_dvd_natAbs.mp (hc.dvd_of_dvd_mul_right d3)
theorem Sol.cong {size step gap j k t g Z S : Int} (r : Ring2 size step g Z S) (h : Sol size step gap j t) (d : Z ∣ k - j) : Sol size step gap k t := by
  obtain ⟨q, hq⟩ := d
  have d2 : size ∣ (k - j) * step := ⟨q * S, by rw [hq, r.esize, r.estep]; ac_rfl⟩
  have := Int.dvd_add d2 h
  rwa [show (k - j) * step + (j * step - t * gap) = k * step - t * gap by rw [Int.sub_mul]; omega] at this
theorem Sol.double {size step gap j t : Int} (h : Sol size step gap j t) : Sol size step gap (2 * j) (2 * t) := by
  have := Int.dvd_mul_of_dvd_right (b := 2) h
  unfold Sol
  rwa [show (2 : Int) * (j * step - t * gap) = 2 * j * step - 2 * t * gap by rw [Int.mul_sub, Int.mul_assoc, Int.mul_assoc]] at this
/-- the first solution, by an inverse -/
theorem Sol.start {size step gap t g Z S v : Int} (r : Ring2 size step g Z S) (d : g ∣ gap * t) (hv : Z ∣ v * (S % Z) - 1) : Sol size step gap (gap * t / g * v % Z) t := by
  obtain ⟨G, hG⟩ := d
  have eG : gap * t / g = G := by rw [hG, Int.mul_ediv_cancel_left _ (by have := r.gpos; omega)]
  rw [eG]
  have d1 : Z ∣ v * S - 1 := by
    have h1 := Int.dvd_mul_of_dvd_right (b := v) (dvd_sub_mod S Z)
    have h2 := Int.dvd_sub hv h1
    rwa [show v * (S % Z) - 1 - v * (S % Z - S) = v * S - 1 by rw [Int.mul_sub]; omega] at h2
  have d2 := dvd_sub_mod (G * v) Z
  have d3 := Int.dvd_add (Int.dvd_mul_of_dvd_left (c := S) d2) (Int.dvd_mul_of_dvd_right (b := G) d1)
  have e3 : (G * v % Z - G * v) * S + G * (v * S - 1) = G * v % Z * S - G := by
    rw [Int.sub_mul, Int.mul_sub, Int.mul_assoc, Int.mul_one]
    omega
  rw [e3] at d3
  obtain ⟨q, hq⟩ := d3
  unfold Sol
  rw [r.estep, r.esize, Int.mul_comm t gap, hG]
  exact ⟨q, by rw [Int.mul_left_comm, ← Int.mul_sub, hq, Int.mul_assoc]⟩
/-- the least number of calls c, with the count j -/
structure Least2 (size step gap : Int) (c : Nat) (j : Int) : Prop where
  lo : 0 ≤ j
  hi : j ≤ 2 ^ c
  sol : Sol size step gap j (2 ^ c)
  least : ∀ c' : Nat, c' < c → ∀ k : Int, 0 ≤ k → k ≤ 2 ^ c' → ¬ Sol size step gap k (2 ^ c')
/-- what is missing at the gap: g over what g and the gap share -/
def missI (g gap : Int) : Int := g / ((Nat.gcd g.natAbs gap.natAbs : Nat) : Int)
theorem miss_pos {g : Int} (gap : Int) (h : 0 < g) : 0 < missI g gap := by
  have hg : 0 < Nat.gcd g.natAbs gap.natAbs := Nat.gcd_pos_of_pos_left _ (by omega)
  have d1 : ((Nat.gcd g.natAbs gap.natAbs : Nat) : Int) ∣ g := Int.natAbs_dvd_natAbs.mp (by rw [Int.natAbs_natCast]; exact Nat.gcd_dvd_left _ _)
  exact Int.ediv_pos_of_pos_of_dvd h (by omega) d1
theorem miss_le {g : Int} (gap : Int) (h : 0 < g) : missI g gap ≤ g := Int.ediv_le_self _ (by omega)
theorem miss_dvd {g gap t : Int} (h : 0 < g) : g ∣ t * gap ↔ missI g gap ∣ t := by
  have hg : 0 < Nat.gcd g.natAbs gap.natAbs := Nat.gcd_pos_of_pos_left _ (by omega)
  have d1 : ((Nat.gcd g.natAbs gap.natAbs : Nat) : Int) ∣ g := Int.natAbs_dvd_natAbs.mp (by rw [Int.natAbs_natCast]; exact Nat.gcd_dvd_left _ _)
  have d2 : ((Nat.gcd g.natAbs gap.natAbs : Nat) : Int) ∣ gap := Int.natAbs_dvd_natAbs.mp (by rw [Int.natAbs_natCast]; exact Nat.gcd_dvd_right _ _)
  have hc := Nat.coprime_div_gcd_div_gcd hg
  have e1 : (missI g gap).natAbs = g.natAbs / Nat.gcd g.natAbs gap.natAbs := by
    unfold missI
    rw [Int.natAbs_ediv_of_dvd d1, Int.natAbs_natCast]
  obtain ⟨q, hq⟩ := d2
  have eg : g = ((Nat.gcd g.natAbs gap.natAbs : Nat) : Int) * missI g gap := (Int.mul_ediv_cancel' d1).symm
  have e2 : q.natAbs = gap.natAbs / Nat.gcd g.natAbs gap.natAbs := by
    have := congrArg Int.natAbs hq
    rw [Int.natAbs_mul, Int.natAbs_natCast] at this
    exact (Nat.div_eq_of_eq_mul_right hg this).symm
  rw [← e1, ← e2] at hc
  have key : g ∣ t * gap ↔ missI g gap ∣ t * q := by
    generalize ((Nat.gcd g.natAbs gap.natAbs : Nat) : Int) = d at *
    generalize missI g gap = m at *
    subst eg
    rw [hq, Int.mul_left_comm]
    exact Int.mul_dvd_mul_iff_left (by intro e; subst e; simp at h)
  rw [key]
  constructor
  · intro h2
    have h3 := Int.natAbs_dvd_natAbs.mpr h2
    rw [Int.natAbs_mul] at h3
    exact Int.natAbs_dvd_natAbs.mp (hc.dvd_of_dvd_mul_right h3)
  · exact fun h2 => Int.dvd_mul_of_dvd_left h2
theorem pow2_cast (c : Nat) : (2 : Int) ^ c = ((2 ^ c : Nat) : Int) := by rw [Int.natCast_pow]; rfl
theorem dvd_pow2 {m c : Nat} (h : 0 < m) (d : m ∣ 2 ^ c) : ∃ k, m = 2 ^ k := by
  obtain ⟨k, e1, e2⟩ := odd_split m h
  have d1 : (oddN m : Int) ∣ 1 := by
    refine odd_dvd (k := c) (by omega) ?_
    rw [Int.one_mul, pow2_cast]
    exact Int.natCast_dvd_natCast.mpr (Nat.dvd_trans ⟨2 ^ k, e1⟩ d)
  have e3 : oddN m = 1 := Nat.dvd_one.mp (Int.natCast_dvd_natCast.mp d1)
  exact ⟨k, by rw [e3, Nat.one_mul] at e1; exact e1⟩
/-- no power of 2 makes up for what is missing -/
theorem miss_never {g gap : Int} (h : 0 < g) (hn : ¬ ∃ k : Nat, missI g gap = 2 ^ k) (c : Nat) : ¬ g ∣ 2 ^ c * gap := fun d => by
  have h1 := (miss_dvd h).mp d
  have hp := miss_pos gap h
  obtain ⟨m, hm⟩ := Int.eq_ofNat_of_zero_le (Int.le_of_lt hp)
  rw [hm, pow2_cast] at h1
  obtain ⟨k, e⟩ := dvd_pow2 (by omega) (Int.natCast_dvd_natCast.mp h1)
  exact hn ⟨k, by rw [hm, e, pow2_cast]⟩
theorem bitAnd_pp {x y : Int} (hx : 0 ≤ x) (hy : 0 ≤ y) : Builtin.bitAnd x y = ((x.toNat &&& y.toNat : Nat) : Int) := by simp [Builtin.bitAnd, hx, hy]
theorem miss_and {m : Int} (h : 0 < m) : Builtin.bitAnd m (m - 1) = 0 ↔ ∃ k : Nat, m = 2 ^ k := by
  obtain ⟨n, rfl⟩ := Int.eq_ofNat_of_zero_le (Int.le_of_lt h)
  rw [bitAnd_pp (by omega) (by omega), show ((n : Int) - 1).toNat = n - 1 by omega, Int.toNat_natCast]
  constructor
  · intro e
    obtain ⟨k, hk⟩ := (pow_and (by omega)).mp (Int.natCast_eq_zero.mp e)
    exact ⟨k, by rw [hk, pow2_cast]⟩
  · rintro ⟨k, hk⟩
    rw [pow2_cast] at hk
    rw [(pow_and (by omega)).mpr ⟨k, Int.natCast_inj.mp hk⟩]
    rfl
theorem bits_pow (i : Nat) : Builtin.Int.intBits (2 ^ i) = i + 1 := by
  unfold Builtin.Int.intBits
  rw [pow2_cast, if_neg (by
    intro h
    have h := eq_of_beq h
    have : 0 < 2 ^ i := Nat.pow_pos (by decide)
    exact absurd (Int.natCast_eq_zero.mp h) (by omega)), Int.natAbs_natCast, Nat.log2_two_pow]
theorem bits_le {k : Nat} {size : Int} (h : 2 ^ k ≤ size) : k + 1 ≤ Builtin.Int.intBits size := by
  have h2 : (0 : Int) < 2 ^ k := Int.pow_pos (by decide)
  have h3 : 0 < size := Int.lt_of_lt_of_le h2 h
  obtain ⟨n, rfl⟩ := Int.eq_ofNat_of_zero_le (by omega : 0 ≤ size)
  unfold Builtin.Int.intBits
  rw [if_neg (by simpa using (show (n : Int) ≠ 0 by omega)), Int.natAbs_natCast]
  rw [pow2_cast] at h
  have := (Nat.le_log2 (by omega : n ≠ 0)).mpr (Int.ofNat_le.mp h)
  omega
/-- what holds while the number of calls is raised -/
structure Rise (size step gap g Z : Int) (i c : Nat) (j : Int) : Prop where
  j0 : 0 ≤ j
  j1 : j < Z
  sol : Sol size step gap j (2 ^ c)
  ic : i ≤ c
  top : c = i ∨ (2 : Int) ^ (c - 1) < Z
  least : ∀ c' : Nat, c' < c → ∀ k : Int, 0 ≤ k → k ≤ 2 ^ c' → ¬ Sol size step gap k (2 ^ c')
theorem rise_start {size step gap g Z S : Int} (r : Ring2 size step g Z S) {i : Nat} (hi : missI g gap = 2 ^ i) {j : Int} (h0 : 0 ≤ j) (h1 : j < Z) (hs : Sol size step gap j (2 ^ i)) : Rise size step gap g Z i i j := by
  refine ⟨h0, h1, hs, Nat.le_refl _, .inl rfl, fun c' hc k _ _ h => ?_⟩
  have d := (miss_dvd r.gpos).mp (h.dvd r)
  rw [hi, pow2_cast, pow2_cast] at d
  have := Nat.le_of_dvd (Nat.pow_pos (by decide)) (Int.natCast_dvd_natCast.mp d)
  have := Nat.pow_lt_pow_right (by decide : 1 < 2) hc
  omega
theorem rise_step {size step gap g Z S : Int} (r : Ring2 size step g Z S) {i c : Nat} {j : Int} (h : Rise size step gap g Z i c j) (hj : 2 ^ c < j) : Rise size step gap g Z i (c + 1) (2 * j % Z) := by
  have hz := r.zpos
  refine ⟨Int.emod_nonneg _ (by omega), Int.emod_lt_of_pos _ hz, ?_, by have := h.ic; omega, .inr ?_, fun c' hc k k0 k1 hk => ?_⟩
  · have e : (2 : Int) ^ (c + 1) = 2 * 2 ^ c := by rw [Int.pow_succ, Int.mul_comm]
    rw [e]
    exact (Sol.double h.sol).cong r (dvd_sub_mod _ _)
  · rw [Nat.add_sub_cancel]
    have := h.j1
    omega
  · by_cases e : c' = c
    · subst e
      have d := Sol.uniq r h.sol hk
      have := h.j1
      have := Int.le_of_dvd (by omega) d
      omega
    · exact h.least c' (by omega) k k0 k1 hk
theorem rise_end {size step gap g Z S : Int} (r : Ring2 size step g Z S) {i c : Nat} (hi : missI g gap = 2 ^ i) {j : Int} (h : Rise size step gap g Z i c j) (hj : j ≤ 2 ^ c) : Least2 size step gap c j ∧ c ≤ Builtin.Int.intBits size := by
  refine ⟨⟨h.j0, hj, h.sol, h.least⟩, ?_⟩
  have g0 := r.gpos
  have z0 := r.zpos
  have e := r.esize
  have gs : g ≤ size := by
    have := Int.mul_le_mul_of_nonneg_left (show 1 ≤ Z by omega) (show 0 ≤ g by omega)
    omega
  have zs : Z ≤ size := by
    have := Int.mul_le_mul_of_nonneg_right (show 1 ≤ g by omega) (show 0 ≤ Z by omega)
    omega
  rcases h.top with rfl | h2
  · have m := miss_le gap r.gpos
    have := bits_le (k := c) (size := size) (by omega)
    omega
  · have := bits_le (k := c - 1) (size := size) (by omega)
    omega

/-! ### the law's gcd, odd part, values, witnesses -/
section
variable {P : Program} {w : World} {K : PySem.W.Frag} {mg : Str → Option Value} {base : Heap}
theorem fmod_abs (a : Int) {b : Int} (h : b ≠ 0) : (a.fmod b).natAbs < b.natAbs := by
  rw [Int.fmod_eq_emod]
  have h1 := Int.emod_nonneg a h
  have h2 := Int.emod_lt a h
  by_cases hp : 0 ≤ b
  · rw [if_pos (.inl hp)]; omega
  · by_cases hd : b ∣ a
    · rw [if_pos (.inr hd)]; omega
    · rw [if_neg (by rintro (h | h); exact hp h; exact hd h)]
      have : a % b ≠ 0 := fun e => hd (Int.dvd_of_emod_eq_zero e)
      omega
theorem fmod_gcd (a : Int) {b : Int} : Nat.gcd b.natAbs (a.fmod b).natAbs = Nat.gcd a.natAbs b.natAbs := by
  have e : a.fmod b = a - b * a.fdiv b := Int.fmod_def a b
  apply Nat.dvd_antisymm
  · refine Nat.dvd_gcd ?_ (Nat.gcd_dvd_left _ _)
    have h1 : ((Nat.gcd b.natAbs (a.fmod b).natAbs : Nat) : Int) ∣ b := cd_of (Nat.gcd_dvd_left _ _)
    have h2 : ((Nat.gcd b.natAbs (a.fmod b).natAbs : Nat) : Int) ∣ a.fmod b := cd_of (Nat.gcd_dvd_right _ _)
    have h3 := Int.dvd_add h2 (Int.dvd_mul_of_dvd_left (c := a.fdiv b) h1)
    have e2 : a.fmod b + b * a.fdiv b = a := by rw [e]; omega
    rw [e2] at h3
    exact cd_to h3
  · refine Nat.dvd_gcd (Nat.gcd_dvd_right _ _) ?_
    have h1 : ((Nat.gcd a.natAbs b.natAbs : Nat) : Int) ∣ b := cd_of (Nat.gcd_dvd_right _ _)
    have h2 : ((Nat.gcd a.natAbs b.natAbs : Nat) : Int) ∣ a := cd_of (Nat.gcd_dvd_left _ _)
    have h3 := Int.dvd_sub h2 (Int.dvd_mul_of_dvd_left (c := a.fdiv b) h1)
    rw [← e] at h3
    exact cd_to h3
def sp_law_gcd (K : PySem.W.Frag) : Sp := fun vs H Q _ => ∃ a b : Int, vs = [.int a, .int b] ∧ Q (.int ((Nat.gcd a.natAbs b.natAbs : Nat) : Int)) H
theorem ok_law_gcd (T : Tx K mg) : FnOk P w K mg base CX0 1 T.f_law_gcd T.fd_law_gcd ["_law_a", "_law_b"] (sp_law_gcd K) := by
  refine T.F_law_gcd.ok sc_law_gcd (fun vs H Q E h => ?_) (fun cdv A outer s H vs Q E hr h => ?_)
  · obtain ⟨a, b, rfl, _⟩ := h; rfl
  · obtain ⟨a, b, rfl, q⟩ := h
    refine ⟨_, (pss_cons (ps_while PassesOwn.never (pt_cmpR op_ne (pv 1) pe_int (nomark _)) (pss_one (ps_par (i := 0) (j := 1) (by rfl) sc_law_gcd.nd rfl rfl (by decide) rfl rfl (pa_cons (pv 1) (pa_cons (pe_op op_modN (pv 0) (pv 1)) pa_nil)) (by rfl))))
      (pss_one (ps_ret (pe_callB call_abs (by rfl) T.n_abs (by decide +kernel) (pa_cons (pv 0) pa_nil))))), ?_⟩
    refine while_by (fun σ H' => H' = H ∧ ∃ c d : Int, σ = [some (V.int c), some (V.int d)] ∧ Nat.gcd c.natAbs d.natAbs = Nat.gcd a.natAbs b.natAbs) (fun σ _ => match σ with | [_, some (V.int d)] => d.natAbs | _ => 0) ⟨rfl, a, b, rfl, rfl⟩ ?_ ?_
    · rintro σ H1 ⟨rfl, c, d, rfl, hg⟩
      walk_at "rd"
      by_cases h0 : d = 0
      · rw [if_neg (by simpa using h0)]
        subst h0
        rw [Int.natAbs_zero, Nat.gcd_zero_right] at hg
        rw [← hg] at q
        have e : (if c < 0 then -c else c) = ((c.natAbs : Nat) : Int) := by split <;> omega
        rw [e]
        exact q
      · rw [if_pos h0]
        have h1 := fmod_abs c h0
        exact ⟨h0, by rw [fmod_gcd, hg], h1⟩
    · intro σ H1 Q1 Q2 h hq
      obtain ⟨b1, e, e2, k, e3, hq⟩ := hq
      exact ⟨b1, e, e2, k, e3, h _ _ hq⟩
theorem oddI_even {n : Int} (h : 1 ≤ n) (e : n % 2 = 0) : oddI (n / 2) = oddI n := by
  obtain ⟨m, rfl⟩ := Int.eq_ofNat_of_zero_le (by omega : 0 ≤ n)
  obtain ⟨q, hq⟩ : ∃ q, m = 2 * q := ⟨m / 2, by omega⟩
  unfold oddI
  have e1 : ((m : Int) / 2).toNat = q := by omega
  rw [e1, Int.toNat_natCast, hq, odd_even (by omega)]
theorem oddI_odd {n : Int} (h : 1 ≤ n) (e : n % 2 = 1) : oddI n = n := by
  obtain ⟨m, rfl⟩ := Int.eq_ofNat_of_zero_le (by omega : 0 ≤ n)
  obtain ⟨q, hq⟩ : ∃ q, m = 2 * q + 1 := ⟨m / 2, by omega⟩
  unfold oddI
  rw [Int.toNat_natCast, hq, odd_odd]
end

/-! ### the draws of the laws of sums -/
section
variable {P : Program} {w : World} {K : PySem.W.Frag} {mg : Str → Option Value} {base : Heap}
/-- a source after at most N draws -/
def SrcN (H : Hp) (a : Addr) (N : Nat) : Prop := ∃ s m n : Int, H a = some (.lst [.int s, .int m, .int n]) ∧ 0 ≤ s ∧ 0 ≤ m ∧ m < 2147483647 ∧ 0 ≤ n ∧ n ≤ N
theorem SrcN.same {H H' : Hp} {a : Addr} {N : Nat} (e : Same H H') (h : SrcN H a N) : SrcN H' a N := by
  obtain ⟨s, c, d, h, r⟩ := h
  exact ⟨s, c, d, e _ _ h, r⟩
theorem SrcN.mono {H : Hp} {a : Addr} {N M : Nat} (h : SrcN H a N) (e : N ≤ M) : SrcN H a M := by
  obtain ⟨s, c, d, h, r1, r2, r3, r4, r5⟩ := h
  exact ⟨s, c, d, h, r1, r2, r3, r4, by omega⟩
theorem SrcN.ne {H : Hp} {a p : Addr} {N : Nat} (h : SrcN H a N) (hp : H p = none) : p ≠ a := fun e => by
  obtain ⟨s, c, d, h, _⟩ := h
  rw [e, h] at hp
  cases hp
theorem SrcN.put {H : Hp} {a p : Addr} {o : HO} {N : Nat} (h : SrcN H a N) (n : a ≠ p) : SrcN (upd H p o) a N := by
  obtain ⟨s, c, d, h, r⟩ := h
  exact ⟨s, c, d, by rw [upd_ne n]; exact h, r⟩
theorem upd_none_of' {H : Hp} {p q : Addr} {o : HO} (h : upd H p o q = none) : H q = none ∧ q ≠ p := by
  unfold upd at h
  by_cases e : q = p
  · rw [if_pos e] at h; cases h
  · rw [if_neg e] at h; exact ⟨h, e⟩
theorem atI_ints {ns : List Int} {i : Int} (h0 : 0 ≤ i) (h1 : i < ns.length) : ∃ n, n ∈ ns ∧ atI (ns.map V.int) i = some (.int n) := by
  obtain ⟨v, hv, e⟩ := atI_in (xs := ns.map V.int) h0 (by rw [List.length_map]; exact h1)
  obtain ⟨n, hn, rfl⟩ := List.mem_map.mp hv
  exact ⟨n, hn, e⟩
theorem take_small {n : Int} (h : 0 < n) (h2 : n < 2 ^ 64) : n.natAbs < 2 ^ 8000 := Nat.lt_of_lt_of_le (by omega : n.natAbs < 2 ^ 64) (Nat.pow_le_pow_right (by decide) (by decide))
def sp_law_cell_at (K : PySem.W.Frag) : Sp := fun vs H Q _ => ∃ (a : Addr) (ns : List Int) (k : Nat), vs = [.ref a, .int (k : Nat)] ∧ SqL K H a (ns.map V.int) ∧ Q (.int (ns.getD k 0)) H
theorem ok_law_cell_at (T : Tx K mg) : FnOk P w K mg base CX0 1 T.f_law_cell_at T.fd_law_cell_at ["_law_script", "_law_k"] (sp_law_cell_at K) := by
  refine T.F_law_cell_at.ok sc_law_cell_at (fun vs H Q E h => ?_) (fun cdv A outer s H vs Q E hr h => ?_)
  · obtain ⟨a, ns, k, rfl, _⟩ := h; rfl
  · obtain ⟨a, ns, k, rfl, ha, q⟩ := h
    refine ⟨_, (pss_one (ps_ret (pe_ifExp (pt_cmpR op_lt (pv 1) (pe_callB call_len (by rfl) T.n_len PySem.boot_len (pa_cons (pv 0) pa_nil)) (nomark _)) (pe_ix ix_list (pv 0) (pv 1) (fun _ _ => rfl)) pe_int))), ?_⟩
    walk_at "rd"
    refine ⟨ns.length, .inl ⟨_, ha, by rw [List.length_map]⟩, ?_⟩
    split
    · rename_i hk
      have hk : k < ns.length := by omega
      refine ⟨_, ha, .int (ns.getD k 0), atI_nat (by rw [List.getElem?_map, List.getD_eq_getElem?_getD, List.getElem?_eq_getElem hk]; rfl), q⟩
    · rename_i hk
      rw [List.getD_eq_getElem?_getD, List.getElem?_eq_none (by omega)] at q
      exact q
def sp_law_take (K : PySem.W.Frag) : Sp := fun vs H Q _ => ∃ (a : Addr) (n : Int) (N : Nat), vs = [.ref a, .int n] ∧ SrcN H a N ∧ 0 < n ∧ n.natAbs < 2 ^ 8000 ∧ N < 1000000 ∧ ∀ H' r, Sx a H H' → SrcN H' a (N + 1) → 0 ≤ r → r < n → Q (.int r) H'
theorem ok_law_take (T : Tx K mg) : FnOk P w K mg base CX0 1 T.f_law_take T.fd_law_take ["_law_source_here", "_law_bound"] (sp_law_take K) := by
  refine T.F_law_take.ok sc_law_take (fun vs H Q E h => ?_) (fun cdv A outer s H vs Q E hr h => ?_)
  · obtain ⟨a, n, N, rfl, _⟩ := h; rfl
  · obtain ⟨a, n, N, rfl, ⟨s, c, d, hs, s0, c0, c1, d0, d1⟩, hn, hb, hN, q⟩ := h
    refine ⟨_, (pss_cons (ps_if (pt_cmpR op_gt (pe_ix ix_lH (pv 0) pe_int (fun _ _ => rfl)) pe_int (nomark _)) (pss_cons (ps_set (i := 2) sc_law_take.nd rfl (Or.inl rfl) (pe_op op_mod (pe_ix ix_lH (pv 0) pe_int (fun _ _ => rfl)) (pv 1)))
        (pss_cons (ps_asg (pe_op op_fdivW (pe_ix ix_lH (pv 0) pe_int (fun _ _ => rfl)) (pv 1)) (pg_sub (pv 0) pe_int set_lH))
        (pss_one (ps_ret (pv 2))))) pss_nil)
      (pss_cons (ps_asg (pe_op op_add (pe_ix ix_lH (pv 0) pe_int (fun _ _ => rfl)) pe_int) (pg_sub (pv 0) pe_int set_lH))
      (pss_cons (ps_set (i := 3) sc_law_take.nd rfl (Or.inl rfl) (pe_ix ix_lH (pe_lst (pa_cons pe_int (pa_cons pe_int (pa_cons pe_int (pa_cons pe_int pa_nil))))) (pe_op op_mod (pe_ix ix_lH (pv 0) pe_int (fun _ _ => rfl)) pe_int) (fun _ _ => rfl)))
      (pss_cons (ps_set (i := 4) sc_law_take.nd rfl (Or.inl rfl) (pe_op op_mod (pe_op op_pow (pe_op op_add (pe_op op_add (pe_ix ix_lH (pv 0) pe_int (fun _ _ => rfl)) (pe_op op_mulA pe_int (pe_ix ix_lH (pv 0) pe_int (fun _ _ => rfl)))) pe_int) pe_int) (pv 3)))
      (pss_cons (ps_set (i := 4) sc_law_take.nd rfl (Or.inl rfl) (pe_op op_mod (pe_op op_mulA (pe_op op_add (pv 4) (pe_ix ix_lH (pv 0) pe_int (fun _ _ => rfl))) (pe_op op_add (pe_op op_fdivW (pv 4) pe_int) pe_int)) (pv 3)))
      (pss_cons (ps_set (i := 4) sc_law_take.nd rfl (Or.inl rfl) (pe_op op_mod (pe_op op_mulA (pv 4) (pe_op op_add (pe_op op_add (pe_op op_fdivW (pv 4) pe_int) (pe_op op_mulA pe_int (pe_ix ix_lH (pv 0) pe_int (fun _ _ => rfl)))) pe_int)) (pv 3)))
      (pss_one (ps_ret (pe_op op_mod (pe_op op_fdivW (pv 4) pe_int) (pv 1)))))))))), ?_⟩
    walk_at "rh"
    by_cases h : 0 < s
    · rw [if_pos h]
      exact ⟨wide_div hn hb (by decide) (by decide), q _ _ Sx.put ⟨s / n, c, d, upd_same, Int.ediv_nonneg s0 (by omega), c0, c1, d0, by omega⟩ (Int.emod_nonneg _ (by omega)) (Int.emod_lt_of_pos _ hn)⟩
    · rw [if_neg h]
      intro p hp
      obtain ⟨_, npa⟩ := upd_none_of' hp
      have h2 : (upd (upd H a (.lst [V.int s, V.int c, V.int (d + 1)])) p (.lst [V.int 2147483629, V.int 2147483587, V.int 2147483579, V.int 2147483563])) a = some (.lst [V.int s, V.int c, V.int (d + 1)]) := by
        rw [upd_ne npa.symm, upd_same]
      have sx : Sx a H (upd (upd H a (.lst [V.int s, V.int c, V.int (d + 1)])) p (.lst [V.int 2147483629, V.int 2147483587, V.int 2147483579, V.int 2147483563])) := Sx.trans Sx.put (Sx.new hp)
      generalize upd (upd H a (HO.lst [V.int s, V.int c, V.int (d + 1)])) p (HO.lst [V.int 2147483629, V.int 2147483587, V.int 2147483579, V.int 2147483563]) = H2 at h2 sx ⊢
      obtain ⟨pr, hpr, epr⟩ := atI_ints (ns := [2147483629, 2147483587, 2147483579, 2147483563]) (i := (d + 1) % 4) (by omega) (by simp; omega)
      have hp1 : 2147483563 ≤ pr ∧ pr ≤ 2147483629 := by
        simp only [List.mem_cons, List.mem_nil_iff, or_false] at hpr
        omega
      have epr2 : atI [V.int 2147483629, V.int 2147483587, V.int 2147483579, V.int 2147483563] ((d + 1) % 4) = some (V.int pr) := epr
      walk_at "rh"
      have m0 := Int.emod_nonneg ((c + 6007 * (d + 1) + 29) ^ 3) (by omega : pr ≠ 0)
      have m1 := Int.emod_lt_of_pos ((c + 6007 * (d + 1) + 29) ^ 3) (by omega : 0 < pr)
      generalize (c + 6007 * (d + 1) + 29) ^ 3 % pr = u at m0 m1 ⊢
      have n0 := Int.emod_nonneg ((u + (d + 1)) * (u / 1021 + 50021)) (by omega : pr ≠ 0)
      have n1 := Int.emod_lt_of_pos ((u + (d + 1)) * (u / 1021 + 50021)) (by omega : 0 < pr)
      generalize (u + (d + 1)) * (u / 1021 + 50021) % pr = v at n0 n1 ⊢
      have hpos : 0 < pr := by omega
      refine ⟨.inl (by decide), ⟨by decide, by decide, by omega⟩, hpos, .inl (by omega), hpos, .inl (by decide), .inl (by omega), hpos, q _ _ sx ⟨s, c, d + 1, h2, s0, c0, c1, by omega, by omega⟩ (Int.emod_nonneg _ (by omega)) (Int.emod_lt_of_pos _ hn)⟩
def sp_law_source (K : PySem.W.Frag) : Sp := fun vs H Q _ => ∃ c : Int, vs = [.int c] ∧ ∀ H' a, Same H H' → H a = none → SrcN H' a 0 → Q (.ref a) H'
theorem ok_law_source (T : Tx K mg) : FnOk P w K mg base CX0 1 T.f_law_source T.fd_law_source ["_law_cell"] (sp_law_source K) := by
  refine T.F_law_source.ok sc_law_source (fun vs H Q E h => ?_) (fun cdv A outer s H vs Q E hr h => ?_)
  · obtain ⟨c, rfl, _⟩ := h; rfl
  · obtain ⟨c, rfl, q⟩ := h
    refine ⟨_, (pss_one (ps_ret (pe_lst (pa_cons (pe_op op_mulA (pv 0) (pe_callTy call_int1 (by rfl) T.n_int (by decide +kernel) (pa_cons (pe_cmpR op_ge (pv 0) (pe_op op_pow pe_int pe_int) (nomark _)) pa_nil))) (pa_cons (pe_op op_mod (pv 0) pe_int) (pa_cons pe_int pa_nil)))))), ?_⟩
    walk_at "rd"
    have h1 : CMulA c (if 1000000000000000000 ≤ c then 1 else 0) := .inr (.inl (by split <;> decide))
    have h2 : 0 ≤ c * (if 1000000000000000000 ≤ c then 1 else 0) := by
      split
      · omega
      · omega
    generalize c * (if 1000000000000000000 ≤ c then 1 else 0) = z at h2 ⊢
    exact ⟨h1, fun p hp => q _ p (Same.new hp) hp ⟨z, _, _, upd_same, h2, Int.emod_nonneg _ (by decide), Int.emod_lt_of_pos _ (by decide), by decide, by decide⟩⟩
def sp_law_large (K : PySem.W.Frag) : Sp := fun vs H Q _ => ∃ (a : Addr) (n : Int) (N : Nat), vs = [.ref a, .int n] ∧ SrcN H a N ∧ 0 < n ∧ N < 900000 ∧ ∀ H' r, Sx a H H' → SrcN H' a (N + 4) → 0 ≤ r → r < n → Q (.int r) H'
theorem ok_law_large (T : Tx K mg) : FnOk P w K mg base CX0 2 T.f_law_large T.fd_law_large ["_law_source_here", "_law_bound"] (sp_law_large K) := by
  refine T.F_law_large.ok sc_law_large (fun vs H Q E h => ?_) (fun cdv A outer s H vs Q E hr h => ?_)
  · obtain ⟨a, n, N, rfl, _⟩ := h; rfl
  · obtain ⟨a, n, N, rfl, hs, hn, hN, q⟩ := h
    refine ⟨_, (pss_cons (ps_set (i := 2) sc_law_large.nd rfl (Or.inl rfl) pe_int)
      (pss_cons (ps_for PassesOwn.never rfl (pi_range1H (by rfl) T.n_range (pa_cons pe_int pa_nil)) (pg_name (i := 3) sc_law_large.nd rfl (Or.inl rfl))
        (pss_one (ps_set (i := 2) sc_law_large.nd rfl (Or.inl rfl) (pe_op op_add (pe_op op_mulA (pv 2) (pe_op op_pow pe_int pe_int)) (pe_call (ok_law_take T) (hr.mono (by decide)) (by rfl) T.g_law_take T.F_law_take.kp T.b_law_take .nil pass0 (pa_cons (pv 0) (pa_cons (pe_op op_pow pe_int pe_int) pa_nil)))))))
      (pss_one (ps_ret (pe_op op_mod (pv 2) (pv 1)))))), ?_⟩
    walk_at "rd"
    intro J W
    refine forr W (fun i σ H' => ∃ t v3, σ = [some (V.ref a), some (V.int n), some (V.int t), v3] ∧ Sx a H H' ∧ SrcN H' a (N + i) ∧ 0 ≤ t ∧ t < 2 ^ (40 * (i + 1))) ⟨0, none, rfl, Sx.refl, hs, by decide, by decide⟩ (fun _ _ _ _ _ => trivial) ?_ ?_
    · rintro i x σ H1 H2 hi ⟨t, v3, rfl, s1, hs1, t0, t1⟩ ⟨rfl, rfl⟩
      walk_at "rd"
      refine ⟨.inr (.inl (by decide)), a, _, N + i, rfl, hs1, by decide, take_small (by decide) (by decide), by omega, fun H3 r s3 hs3 r0 r1 => ⟨r, rfl, s1.trans s3, hs3, by omega, ?_⟩⟩
      have e : (2 : Int) ^ (40 * (i + 1 + 1)) = 2 ^ (40 * (i + 1)) * 2 ^ 40 := by rw [← Int.pow_add]; congr 1
      rw [e]
      have e2 : (2 : Int) ^ 40 = 1099511627776 := by decide
      rw [e2]
      generalize (2 : Int) ^ (40 * (i + 1)) = y at *
      omega
    · rintro σ H1 ⟨t, v3, rfl, s1, hs1, t0, t1⟩
      walk_at "rd"
      exact ⟨hn, q _ _ s1 hs1 (Int.emod_nonneg _ (by omega)) (Int.emod_lt_of_pos _ hn)⟩
end

/-! ### the program -/
section
variable {P : Program} {w : World} {K : PySem.W.Frag} {mg : Str → Option Value} {base : Heap}
def sp_require_number (K : PySem.W.Frag) : Sp := fun vs H Q _ => ∃ (n m : Int) (z : Str), vs = [.int n, .int m, .str z] ∧ m ≤ n ∧ Q .non H
theorem ok_require_number (T : Tx K mg) : FnOk P w K mg base CX0 2 T.f_require_number T.fd_require_number ["number", "least", "name"] (sp_require_number K) := by
  refine T.F_require_number.ok sc_require_number (fun vs H Q E h => ?_) (fun cdv A outer s H vs Q E hr h => ?_)
  · obtain ⟨n, m, z, rfl, _⟩ := h; rfl
  · obtain ⟨n, m, z, rfl, hnm, q⟩ := h
    refine ⟨_, (pss_one (ps_if (PW.pt (pw_or (pt_not (pt_val (pe_call (ok_is_integer T) (hr.mono (by decide)) (by rfl) T.g_is_integer T.F_is_integer.kp T.b_is_integer .nil pass0 (pa_cons (pv 0) pa_nil)))) (pw_or1 (pt_cmpR op_lt (pv 0) (pv 1) (nomark _))))) (pss_one ps_never) pss_nil)), ?_⟩
    walk_at "rd"
    refine ⟨_, true, rfl, isInt_int n, ?_⟩
    walk_at "rd"
    rw [if_neg (by omega)]
    exact q
def sp_require_place (K : PySem.W.Frag) : Sp := fun vs H Q _ => ∃ (n p : Int) (z : Str), vs = [.int n, .int p, .str z] ∧ 0 ≤ p ∧ p < n ∧ Q .non H
theorem ok_require_place (T : Tx K mg) : FnOk P w K mg base CX0 2 T.f_require_place T.fd_require_place ["size", "place", "name"] (sp_require_place K) := by
  refine T.F_require_place.ok sc_require_place (fun vs H Q E h => ?_) (fun cdv A outer s H vs Q E hr h => ?_)
  · obtain ⟨n, p, z, rfl, _⟩ := h; rfl
  · obtain ⟨n, p, z, rfl, h0, h1, q⟩ := h
    refine ⟨_, (pss_one (ps_if (pt_not (pt_val (pe_call (ok_is_place T) (hr.mono (by decide)) (by rfl) T.g_is_place T.F_is_place.kp T.b_is_place .nil pass0 (pa_cons (pv 0) (pa_cons (pv 1) pa_nil))))) (pss_one ps_never) pss_nil)), ?_⟩
    walk_at "rd"
    refine ⟨n, .int p, true, rfl, .inr ⟨p, rfl, ?_⟩, ?_⟩
    · rw [decide_eq_true h0, decide_eq_true h1]; rfl
    walk_at "rd"
    exact q
/-- within Euclid's steps for an inverse: a sign e, the numbers' factors x and y -/
structure Euc (n m l s b f : Int) : Prop where
  l0 : 0 < l
  s0 : 0 ≤ s
  sl : s < l
  gcd : Nat.gcd l.natAbs s.natAbs = 1
  cl : m ∣ b * n - l
  cs : m ∣ f * n - s
  mag : ∃ e x y : Int, (e = 1 ∨ e = -1) ∧ 0 ≤ x ∧ 1 ≤ y ∧ b = e * x ∧ f = -(e * y) ∧ l * y + s * x = m
theorem Euc.step {n m l s b f : Int} (h : Euc n m l s b f) (hs : 0 < s) : Euc n m s (l - l / s * s) f (b - l / s * f) := by
  have e1 : l - l / s * s = l % s := by have := Int.emod_add_mul_ediv l s; rw [Int.mul_comm (l / s)]; omega
  have hl0 := h.l0
  have r0 := Int.emod_nonneg l (by omega : s ≠ 0)
  have r1 := Int.emod_lt_of_pos l hs
  have t0 : 0 ≤ l / s := Int.ediv_nonneg (by omega) (by omega)
  rw [e1]
  have t1 : 1 ≤ l / s := (Int.le_ediv_iff_mul_le hs).mpr (by have := h.sl; omega)
  refine ⟨hs, r0, r1, ?_, h.cs, ?_, ?_⟩
  · have hg := h.gcd
    obtain ⟨a, rfl⟩ := Int.eq_ofNat_of_zero_le (by omega : 0 ≤ l)
    obtain ⟨c, rfl⟩ := Int.eq_ofNat_of_zero_le (by omega : 0 ≤ s)
    rw [← Int.natCast_emod]
    simp only [Int.natAbs_natCast] at hg ⊢
    rw [Nat.gcd_comm, ← Nat.gcd_rec, Nat.gcd_comm]
    exact hg
  · have d := Int.dvd_sub h.cl (Int.dvd_mul_of_dvd_right (b := l / s) h.cs)
    rw [← e1]
    rwa [show b * n - l - l / s * (f * n - s) = (b - l / s * f) * n - (l - l / s * s) by rw [Int.mul_sub, Int.sub_mul, Int.mul_assoc]; omega] at d
  · obtain ⟨e, x, y, he, hx, hy, rfl, rfl, hm⟩ := h.mag
    refine ⟨-e, y, x + l / s * y, by omega, by omega, ?_, by rw [Int.neg_mul], ?_, ?_⟩
    · have := Int.mul_le_mul t1 hy (by decide) t0
      omega
    · rw [Int.neg_mul, Int.neg_neg, Int.mul_neg, Int.sub_neg, Int.mul_add, Int.mul_left_comm]
    · rw [← e1, Int.mul_add, Int.sub_mul, ← hm, Int.mul_comm s (l / s * y), Int.mul_right_comm]
      omega
theorem Euc.bnd {n m l s b f : Int} (h : Euc n m l s b f) : f.natAbs ≤ m.natAbs ∧ l ≤ m ∧ l / s ≤ l := by
  obtain ⟨e, x, y, he, hx, hy, rfl, rfl, hm⟩ := h.mag
  have l0 := h.l0
  have s0 := h.s0
  have h1 : 0 ≤ s * x := Int.mul_nonneg s0 hx
  have h2 : l * 1 ≤ l * y := Int.mul_le_mul_of_nonneg_left hy (by omega)
  have h3 : 1 * y ≤ l * y := Int.mul_le_mul_of_nonneg_right (by omega) (by omega)
  have h4 : l / s ≤ l := Int.ediv_le_self _ (by omega)
  rcases he with rfl | rfl
  · rw [Int.one_mul]; omega
  · rw [Int.neg_mul, Int.neg_neg, Int.one_mul]; omega
/-- the start of the steps -/
theorem Euc.init {n m : Int} (h0 : 0 ≤ n) (h1 : n < m) (hg : Nat.gcd n.natAbs m.natAbs = 1) : Euc n m m n 0 1 :=
  ⟨by omega, h0, h1, by rw [Nat.gcd_comm]; exact hg, by rw [Int.zero_mul, Int.zero_sub]; exact Int.dvd_neg.mpr (Int.dvd_refl _), by rw [Int.one_mul, Int.sub_self]; exact Int.dvd_zero _, -1, 0, 1, .inr rfl, by decide, by decide, by decide, by decide, by omega⟩
theorem Euc.last {n m l b f : Int} (h : Euc n m l 0 b f) : m ∣ b % m * n - 1 := by
  have e : l = 1 := by
    have := h.gcd
    rw [Int.natAbs_zero, Nat.gcd_zero_right] at this
    have := h.l0
    omega
  have d := h.cl
  rw [e] at d
  have d2 := Int.dvd_add (Int.dvd_mul_of_dvd_left (c := n) (dvd_sub_mod b m)) d
  rwa [show (b % m - b) * n + (b * n - 1) = b % m * n - 1 by rw [Int.sub_mul]; omega] at d2
def sp_inverse (K : PySem.W.Frag) : Sp := fun vs H Q _ => ∃ n m : Int, vs = [.int n, .int m] ∧ 0 ≤ n ∧ n < m ∧ m.natAbs < 2 ^ 1000 ∧ Nat.gcd n.natAbs m.natAbs = 1 ∧ ∀ v H', Same H H' → 0 ≤ v → v < m → m ∣ v * n - 1 → Q (.int v) H'
theorem ok_inverse (T : Tx K mg) : FnOk P w K mg base CX0 1 T.f_inverse T.fd_inverse ["number", "modulus"] (sp_inverse K) := by
  refine T.F_inverse.ok sc_inverse (fun vs H Q E h => ?_) (fun cdv A outer s H vs Q E hr h => ?_)
  · obtain ⟨n, m, rfl, _⟩ := h; rfl
  · obtain ⟨n, m, rfl, h0, h1, hb, hg, q⟩ := h
    refine ⟨_, (pss_cons (ps_par (i := 2) (j := 3) (by rfl) sc_inverse.nd rfl rfl (by decide) rfl rfl (pa_cons (pv 1) (pa_cons (pv 0) pa_nil)) (by rfl))
      (pss_cons (ps_asg (pe_tup (pa_cons pe_int (pa_cons pe_int pa_nil))) (pg_tupH (n := 2) rfl (pgs_cons (pg_name (i := 4) sc_inverse.nd rfl (Or.inl rfl)) (pgs_cons (pg_name (i := 5) sc_inverse.nd rfl (Or.inl rfl)) pgs_nil))))
      (pss_cons (ps_while PassesOwn.never (pt_cmpR op_ne (pv 3) pe_int (nomark _)) (pss_cons (ps_set (i := 6) sc_inverse.nd rfl (Or.inl rfl) (pe_op op_fdivW (pv 2) (pv 3)))
        (pss_cons (ps_par (i := 2) (j := 3) (by rfl) sc_inverse.nd rfl rfl (by decide) rfl rfl (pa_cons (pv 3) (pa_cons (pe_op op_sub (pv 2) (pe_op op_mulA (pv 6) (pv 3))) pa_nil)) (by rfl))
        (pss_one (ps_par (i := 4) (j := 5) (by rfl) sc_inverse.nd rfl rfl (by decide) rfl rfl (pa_cons (pv 5) (pa_cons (pe_op op_sub (pv 4) (pe_op op_mulA (pv 6) (pv 5))) pa_nil)) (by rfl))))))
      (pss_one (ps_ret (pe_op op_mod (pv 4) (pv 1))))))), ?_⟩
    walk_at "rd"
    intro p hp
    have sp := Same.new hp (o := .tup [V.int 0, V.int 1])
    generalize upd H p (HO.tup [V.int 0, V.int 1]) = H0 at sp ⊢
    refine while_by (fun σ H' => H' = H0 ∧ ∃ l s b f v6, σ = [some (V.int n), some (V.int m), some (V.int l), some (V.int s), some (V.int b), some (V.int f), v6] ∧ Euc n m l s b f) (fun σ _ => match σ with | [_, _, _, some (V.int s), _, _, _] => s.toNat | _ => 0) ⟨rfl, m, n, 0, 1, none, rfl, Euc.init h0 h1 hg⟩ ?_ ?_
    · rintro σ H1 ⟨rfl, l, s, b, f, v6, rfl, he⟩
      walk_at "rd"
      by_cases hz : s = 0
      · subst hz
        rw [if_neg (fun h => h rfl)]
        exact ⟨by omega, q _ _ sp (Int.emod_nonneg _ (by omega)) (Int.emod_lt_of_pos _ (by omega)) he.last⟩
      · rw [if_pos hz]
        have hs : 0 < s := by have := he.s0; omega
        obtain ⟨b1, b2, b3⟩ := he.bnd
        have hsm : s.natAbs < 2 ^ 1000 := by have := he.sl; have := he.l0; omega
        have ht : (l / s).natAbs < 2 ^ 1000 := Nat.lt_of_le_of_lt (Int.natAbs_ediv_le_natAbs _ _) (by have := he.l0; omega)
        have hst := he.step hs
        exact ⟨wide_div hs hsm (by decide) (by decide), .inr (.inr (wide_mul ht hsm (by decide) (by decide) (by decide))), .inr (.inr (wide_mul ht (by omega : f.natAbs < 2 ^ 1000) (by decide) (by decide) (by decide))), hst, by have := hst.s0; have := hst.sl; omega⟩
    · intro σ H1 Q1 Q2 h hq
      obtain ⟨v, e, e2, k, e3, hq⟩ := hq
      exact ⟨v, e, e2, k, e3, h _ _ hq⟩
theorem gcd_mod (s : Int) {z : Int} (hz : 0 < z) : Nat.gcd (s % z).natAbs z.natAbs = Nat.gcd s.natAbs z.natAbs := by
  have := gcd_emod (a := s) (b := z) (c := z) (by rw [Int.natAbs_of_nonneg (by omega)]; exact Int.dvd_refl _)
  rw [Nat.gcd_comm, this, Nat.gcd_comm]
def MT (xs : L2.St) (H : Hp) (σ : L2.St) (H' : Hp) : Prop := σ = xs ∧ Same H H'
def sp_least_sum_of_two (K : PySem.W.Frag) : Sp := fun vs H Q _ => ∃ size step gap : Int, vs = [.int size, .int step, .int gap] ∧ 1 ≤ size ∧ size.natAbs < 2 ^ 400 ∧ step.natAbs < 2 ^ 400 ∧ gap.natAbs < 2 ^ 400 ∧
  (∀ H', Same H H' → (∀ c : Nat, ¬ ((Nat.gcd step.natAbs size.natAbs : Nat) : Int) ∣ 2 ^ c * gap) → Q .non H') ∧
  ∀ H' p (c : Nat) j, Same H H' → H' p = some (.tup [.int c, .int j]) → Least2 size step gap c j → c ≤ Builtin.Int.intBits size → Q (.ref p) H'
theorem ok_least_sum_of_two (T : Tx K mg) : FnOk P w K mg base CX0 2 T.f_least_sum_of_two T.fd_least_sum_of_two ["size", "step", "gap"] (sp_least_sum_of_two K) := by
  refine T.F_least_sum_of_two.ok sc_least_sum_of_two (fun vs H Q E h => ?_) (fun cdv A outer s H vs Q E hr h => ?_)
  · obtain ⟨size, step, gap, rfl, _⟩ := h; rfl
  · obtain ⟨size, step, gap, rfl, h1, hb, hb2, hb3, q1, q2⟩ := h
    refine ⟨_, (C8.pss_cut (ps_set (i := 3) sc_least_sum_of_two.nd rfl (Or.inl rfl) (pe_callBfun cr_gcd (by rfl) T.b_gcd (pa_cons (pv 1) (pa_cons (pv 0) pa_nil))))
      (C8.pss_cut (ps_set (i := 4) sc_least_sum_of_two.nd rfl (Or.inl rfl) (pe_op op_fdivW (pv 3) (pe_callBfun cr_gcd (by rfl) T.b_gcd (pa_cons (pv 3) (pa_cons (pv 2) pa_nil)))))
      (C8.pss_cut (ps_if (pt_cmpR op_ne (pe_op op_and (pv 4) (pe_op op_sub (pv 4) pe_int)) pe_int (nomark _)) (pss_one (ps_ret pe_non)) pss_nil)
      (C8.pss_cut (ps_set (i := 5) sc_least_sum_of_two.nd rfl (Or.inl rfl) (pe_op op_sub (pe_bits (pv 4)) pe_int))
      (C8.pss_cut (ps_set (i := 6) sc_least_sum_of_two.nd rfl (Or.inl rfl) (pe_op op_fdivW (pv 0) (pv 3)))
      (C8.pss_cut (ps_set (i := 7) sc_least_sum_of_two.nd rfl (Or.inl rfl) (pv 4))
      (C8.pss_cut (ps_set (i := 8) sc_least_sum_of_two.nd rfl (Or.inl rfl) (pe_op op_mod (pe_op op_mulA (pe_op op_fdivW (pe_op op_mulA (pv 2) (pv 4)) (pv 3)) (pe_call (ok_inverse T) (hr.mono (by decide)) (by rfl) T.g_inverse T.F_inverse.kp T.b_inverse .nil pass0 (pa_cons (pe_op op_mod (pe_op op_fdivW (pv 1) (pv 3)) (pv 6)) (pa_cons (pv 6) pa_nil)))) (pv 6)))
      (C8.pss_cut (ps_while PassesOwn.never (pt_cmpR op_gt (pv 8) (pv 7) (nomark _)) (C8.pss_cut (ps_aug (i := 5) sc_least_sum_of_two.nd rfl (.inl rfl) pe_int ip_add)
        (C8.pss_cut (ps_set (i := 7) sc_least_sum_of_two.nd rfl (Or.inl rfl) (pe_op op_mulA pe_int (pv 7)))
        (pss_one (ps_set (i := 8) sc_least_sum_of_two.nd rfl (Or.inl rfl) (pe_op op_mod (pe_op op_mulA pe_int (pv 8)) (pv 6)))))))
      (pss_one (ps_ret (pe_tup (pa_cons (pv 5) (pa_cons (pv 8) pa_nil))))))))))))), ?_⟩
    have R := ring2_of (step := step) h1
    generalize hg : ((Nat.gcd step.natAbs size.natAbs : Nat) : Int) = g at R q1
    generalize hZ : size / g = Z at R
    generalize hS : step / g = S at R
    have zs : Z ≤ size := by
      have g0 := R.gpos
      have z0 := R.zpos
      have := Int.mul_le_mul_of_nonneg_right (show 1 ≤ g by omega) (show 0 ≤ Z by omega)
      have := R.esize
      omega
    have gs : g ≤ size := by
      have g0 := R.gpos
      have z0 := R.zpos
      have := Int.mul_le_mul_of_nonneg_left (show 1 ≤ Z by omega) (show 0 ≤ g by omega)
      have := R.esize
      omega
    have gb : g.natAbs < 2 ^ 400 := by have := R.gpos; omega
    have z0 := R.zpos
    refine ⟨MT [some (V.int size), some (V.int step), some (V.int gap), some (V.int g), none, none, none, none, none] H, ?_, ?_⟩
    · walk_at "rd"
      rw [hg]
      exact ⟨rfl, Same.refl _⟩
    rintro σ1 H1 ⟨rfl, s1⟩
    refine ⟨MT [some (V.int size), some (V.int step), some (V.int gap), some (V.int g), some (V.int (missI g gap)), none, none, none, none] H, ?_, ?_⟩
    · walk_at "rd"
      exact ⟨wide_div (by have := Nat.gcd_pos_of_pos_left gap.natAbs (by have := R.gpos; omega : 0 < g.natAbs); omega) (b := 400) (by
        rw [Int.natAbs_natCast]
        have := Nat.le_of_dvd (by have := R.gpos; omega) (Nat.gcd_dvd_left g.natAbs gap.natAbs)
        omega) (by decide) (by decide), rfl, s1⟩
    rintro σ2 H2 ⟨rfl, s2⟩
    refine ⟨fun σ H' => ((∃ k : Nat, missI g gap = 2 ^ k) ∧ MT [some (V.int size), some (V.int step), some (V.int gap), some (V.int g), some (V.int (missI g gap)), none, none, none, none] H σ H'), ?_, ?_⟩
    · walk_at "rd"
      have hp := miss_pos gap R.gpos
      by_cases h0 : Builtin.bitAnd (missI g gap) (missI g gap - 1) = 0
      · rw [if_neg (fun h => h h0)]
        exact ⟨(miss_and hp).mp h0, rfl, s2⟩
      · rw [if_pos h0]
        exact q1 _ s2 (miss_never R.gpos fun h => h0 ((miss_and hp).mpr h))
    rintro σ3 H3 ⟨⟨i, hi⟩, rfl, s3⟩
    refine ⟨MT [some (V.int size), some (V.int step), some (V.int gap), some (V.int g), some (V.int (2 ^ i)), some (V.int (i : Nat)), none, none, none] H, ?_, ?_⟩
    · walk_at "rd"
      rw [hi, bits_pow, show ((i + 1 : Nat) : Int) - 1 = (i : Nat) by omega]
      exact ⟨rfl, s3⟩
    rintro σ4 H4 ⟨rfl, s4⟩
    refine ⟨MT [some (V.int size), some (V.int step), some (V.int gap), some (V.int g), some (V.int (2 ^ i)), some (V.int (i : Nat)), some (V.int Z), none, none] H, ?_, ?_⟩
    · walk_at "rd"
      rw [hZ]
      exact ⟨wide_div R.gpos gb (by decide) (by decide), rfl, s4⟩
    rintro σ5 H5 ⟨rfl, s5⟩
    refine ⟨MT [some (V.int size), some (V.int step), some (V.int gap), some (V.int g), some (V.int (2 ^ i)), some (V.int (i : Nat)), some (V.int Z), some (V.int (2 ^ i)), none] H, ?_, ?_⟩
    · walk_at "rd"
      exact ⟨rfl, s5⟩
    rintro σ6 H6 ⟨rfl, s6⟩
    refine ⟨fun σ H' => ∃ j, 0 ≤ j ∧ j < Z ∧ Sol size step gap j (2 ^ i) ∧ MT [some (V.int size), some (V.int step), some (V.int gap), some (V.int g), some (V.int (2 ^ i)), some (V.int (i : Nat)), some (V.int Z), some (V.int (2 ^ i)), some (V.int j)] H σ H', ?_, ?_⟩
    · walk_at "rd"
      have hib : ((2 : Int) ^ i).natAbs < 2 ^ 400 := by
        have := miss_le gap R.gpos
        have := miss_pos gap R.gpos
        omega
      have d : g ∣ gap * 2 ^ i := by rw [Int.mul_comm]; exact (miss_dvd R.gpos).mpr (by rw [hi]; exact Int.dvd_refl _)
      refine ⟨.inr (.inr (wide_mul (a := 400) (b := 400) hb3 hib (by decide) (by decide) (by decide))), wide_div R.gpos gb (by decide) (by decide), wide_div R.gpos gb (by decide) (by decide), R.zpos, ?_⟩
      rw [hS]
      have hSZ : Nat.gcd (S % Z).natAbs Z.natAbs = 1 := by
        have hz := R.zpos
        have := gcd_mod S hz
        rw [this]
        exact R.cop
      refine ⟨S % Z, Z, rfl, Int.emod_nonneg _ (by have := R.zpos; omega), Int.emod_lt_of_pos _ R.zpos, Nat.lt_of_le_of_lt (by omega : Z.natAbs ≤ size.natAbs) (Nat.lt_of_lt_of_le hb (Nat.pow_le_pow_right (by decide) (by decide))), hSZ, fun v H' sv v0 v1 hv => ?_⟩
      refine ⟨v, rfl, .inr (.inr (wide_mul (a := 800) (b := 400) ?_ (by omega) (by decide) (by decide) (by decide))), R.zpos, _, Int.emod_nonneg _ (by have := R.zpos; omega), Int.emod_lt_of_pos _ R.zpos, Sol.start R d hv, rfl, s6.trans sv⟩
      exact Nat.lt_of_le_of_lt (Int.natAbs_ediv_le_natAbs _ _) (wide_lt hb3 hib)
    rintro σ7 H7 ⟨j0, j00, j01, hsol, rfl, s7⟩
    refine ⟨fun σ H' => ∃ (c : Nat) (j : Int) (t : Int), Least2 size step gap c j ∧ c ≤ Builtin.Int.intBits size ∧ MT [some (V.int size), some (V.int step), some (V.int gap), some (V.int g), some (V.int (2 ^ i)), some (V.int (c : Nat)), some (V.int Z), some (V.int t), some (V.int j)] H σ H', ?_, ?_⟩
    · refine while_by (fun σ H' => ∃ (c : Nat) (j : Int), Rise size step gap g Z i c j ∧ MT [some (V.int size), some (V.int step), some (V.int gap), some (V.int g), some (V.int (2 ^ i)), some (V.int (c : Nat)), some (V.int Z), some (V.int (2 ^ c)), some (V.int j)] H σ H') (fun σ _ => match σ with | [_, _, _, _, _, _, _, some (V.int t), _] => (2 * Z - t).toNat | _ => 0) ⟨i, j0, rise_start R hi j00 j01 hsol, rfl, s7⟩ ?_ ?_
      · rintro σ H8 ⟨c, j, hR, rfl, s8⟩
        walk_at "rd"
        split
        · rename_i hj
          have hst := rise_step R hR hj
          have j1 := hR.j1
          refine ⟨MT [some (V.int size), some (V.int step), some (V.int gap), some (V.int g), some (V.int (2 ^ i)), some (V.int ((c + 1 : Nat) : Int)), some (V.int Z), some (V.int (2 ^ c)), some (V.int j)] H, ?_, ?_⟩
          · walk_at "rd"
            exact ⟨rfl, s8⟩
          rintro σ9 H9 ⟨rfl, s9⟩
          refine ⟨MT [some (V.int size), some (V.int step), some (V.int gap), some (V.int g), some (V.int (2 ^ i)), some (V.int ((c + 1 : Nat) : Int)), some (V.int Z), some (V.int (2 ^ (c + 1))), some (V.int j)] H, ?_, ?_⟩
          · walk_at "rd"
            refine ⟨.inl (by decide), ?_, s9⟩
            rw [Int.pow_succ, Int.mul_comm]
          rintro σ10 H10 ⟨rfl, s10⟩
          walk_at "rd"
          refine ⟨.inl (by decide), R.zpos, ⟨c + 1, _, hst, rfl, s10⟩, ?_⟩
          have e : (2 : Int) ^ (c + 1) = 2 * 2 ^ c := by rw [Int.pow_succ, Int.mul_comm]
          have hp : (0 : Int) < 2 ^ c := Int.pow_pos (by decide)
          rw [e]
          omega
        · rename_i hj
          obtain ⟨l1, l2⟩ := rise_end R hi hR (by omega)
          exact ⟨c, j, l1, l2, _, rfl, s8⟩
      · intro σ H1 Q1 Q2 h hq
        obtain ⟨v, e, v2, e2, i, j, ei, ej, k, ek, hq⟩ := hq
        exact ⟨v, e, v2, e2, i, j, ei, ej, k, ek, h _ _ hq⟩
    rintro σ8 H8 ⟨c, j, t, hl, hc, rfl, s8⟩
    walk_at "rd"
    exact fun p hp => q2 _ p c j (s8.trans (Same.new hp)) upd_same hl hc
def sp_require_two (K : PySem.W.Frag) : Sp := fun vs H Q _ => ∃ n f s p : Int, vs = [.int n, .int f, .int s, .int p] ∧ 1 ≤ n ∧ 0 ≤ f ∧ f < n ∧ 0 ≤ s ∧ s < n ∧ s ≠ f ∧ 0 ≤ p ∧ p < n ∧ Q .non H
theorem ok_require_two (T : Tx K mg) : FnOk P w K mg base CX0 3 T.f_require_two T.fd_require_two ["size", "first", "second", "place"] (sp_require_two K) := by
  refine T.F_require_two.ok sc_require_two (fun vs H Q E h => ?_) (fun cdv A outer s H vs Q E hr h => ?_)
  · obtain ⟨n, f, s, p, rfl, _⟩ := h; rfl
  · obtain ⟨n, f, s, p, rfl, h1, f0, f1, s0, s1, hne, p0, p1, q⟩ := h
    refine ⟨_, (pss_cons (ps_expr (pe_call (ok_require_number T) (hr.mono (by decide)) (by rfl) T.g_require_number T.F_require_number.kp T.b_require_number .nil pass0 (pa_cons (pv 0) (pa_cons pe_int (pa_cons pe_str pa_nil)))))
      (pss_cons (ps_expr (pe_call (ok_require_place T) (hr.mono (by decide)) (by rfl) T.g_require_place T.F_require_place.kp T.b_require_place .nil pass0 (pa_cons (pv 0) (pa_cons (pv 1) (pa_cons pe_str pa_nil)))))
      (pss_cons (ps_expr (pe_call (ok_require_place T) (hr.mono (by decide)) (by rfl) T.g_require_place T.F_require_place.kp T.b_require_place .nil pass0 (pa_cons (pv 0) (pa_cons (pv 2) (pa_cons pe_str pa_nil)))))
      (pss_cons (ps_if (pt_cmpR op_eq (pv 2) (pv 1) (nomark _)) (pss_one ps_never) pss_nil)
      (pss_one (ps_expr (pe_call (ok_require_place T) (hr.mono (by decide)) (by rfl) T.g_require_place T.F_require_place.kp T.b_require_place .nil pass0 (pa_cons (pv 0) (pa_cons (pv 3) (pa_cons pe_str pa_nil)))))))))), ?_⟩
    walk_at "rd"
    refine ⟨n, 1, _, rfl, h1, ?_⟩
    walk_at "rd"
    refine ⟨n, f, _, rfl, f0, f1, ?_⟩
    walk_at "rd"
    refine ⟨n, s, _, rfl, s0, s1, ?_⟩
    walk_at "rd"
    rw [if_neg hne]
    exact ⟨n, p, _, rfl, p0, p1, q⟩
/-- what min_calls_two answers -/
def TwoV (size first second place : Int) (v : V) : Prop := (v = .non ∧ ∀ c : Nat, ¬ ((Nat.gcd (second - first).natAbs size.natAbs : Nat) : Int) ∣ 2 ^ c * (place - first)) ∨ ∃ (c : Nat) (j : Int), v = .int c ∧ Least2 size (second - first) (place - first) c j ∧ c ≤ Builtin.Int.intBits size
def MTV (n f s p : Int) (H : Hp) (σ : L2.St) (H' : Hp) : Prop := ∃ v, σ = [some (V.int n), some (V.int f), some (V.int s), some (V.int p), some v] ∧ Same H H' ∧ ((v = .non ∧ TwoV n f s p .non) ∨ ∃ (u : Addr) (c : Nat) (j : Int), v = .ref u ∧ H' u = some (.tup [.int c, .int j]) ∧ TwoV n f s p (.int c))
def sp_min_calls_two (K : PySem.W.Frag) : Sp := fun vs H Q _ => ∃ n f s p : Int, vs = [.int n, .int f, .int s, .int p] ∧ 1 ≤ n ∧ n.natAbs < 2 ^ 400 ∧ 0 ≤ f ∧ f < n ∧ 0 ≤ s ∧ s < n ∧ s ≠ f ∧ 0 ≤ p ∧ p < n ∧ ∀ H' v, Same H H' → TwoV n f s p v → Q v H'
theorem ok_min_calls_two (T : Tx K mg) : FnOk P w K mg base CX0 4 T.f_min_calls_two T.fd_min_calls_two ["size", "first", "second", "place"] (sp_min_calls_two K) := by
  refine T.F_min_calls_two.ok sc_min_calls_two (fun vs H Q E h => ?_) (fun cdv A outer s H vs Q E hr h => ?_)
  · obtain ⟨n, f, s, p, rfl, _⟩ := h; rfl
  · obtain ⟨n, f, s, p, rfl, h1, hb, f0, f1, s0, s1, hne, p0, p1, q⟩ := h
    refine ⟨_, (C8.pss_cut (ps_expr (pe_call (ok_require_two T) (hr.mono (by decide)) (by rfl) T.g_require_two T.F_require_two.kp T.b_require_two .nil pass0 (pa_cons (pv 0) (pa_cons (pv 1) (pa_cons (pv 2) (pa_cons (pv 3) pa_nil))))))
      (C8.pss_cut (ps_set (i := 4) sc_min_calls_two.nd rfl (Or.inl rfl) (pe_call (ok_least_sum_of_two T) (hr.mono (by decide)) (by rfl) T.g_least_sum_of_two T.F_least_sum_of_two.kp T.b_least_sum_of_two .nil pass0 (pa_cons (pv 0) (pa_cons (pe_op op_sub (pv 2) (pv 1)) (pa_cons (pe_op op_sub (pv 3) (pv 1)) pa_nil)))))
      (C8.pss_cut (ps_if (pt_cmpR op_isN (pv 4) pe_non (nomark _)) (pss_one (ps_ret pe_non)) pss_nil)
      (pss_one (ps_ret (pe_ix ix_tH (pv 4) pe_int (fun _ _ => rfl))))))), ?_⟩
    refine ⟨MT [some (V.int n), some (V.int f), some (V.int s), some (V.int p), none] H, ?_, ?_⟩
    · walk_at "rd"
      exact ⟨n, f, s, p, rfl, h1, f0, f1, s0, s1, hne, p0, p1, rfl, Same.refl _⟩
    rintro σ1 H1 ⟨rfl, t1⟩
    refine ⟨MTV n f s p H, ?_, ?_⟩
    · walk_at "rd"
      refine ⟨n, s - f, p - f, rfl, h1, hb, by omega, by omega, fun H2 t2 hN => ⟨_, rfl, t1.trans t2, .inl ⟨rfl, .inl ⟨rfl, hN⟩⟩⟩, fun H2 u c j t2 hu hl hc => ⟨_, rfl, t1.trans t2, .inr ⟨u, c, j, rfl, hu, .inr ⟨c, j, rfl, hl, hc⟩⟩⟩⟩
    rintro σ2 H2 ⟨v, rfl, t2, hv⟩
    rcases hv with ⟨rfl, hv⟩ | ⟨u, c, j, rfl, hu, hv⟩
    · refine ⟨fun _ _ => False, ?_, fun _ _ h => h.elim⟩
      walk_at "rd"
      exact q _ _ t2 hv
    · refine ⟨MT [some (V.int n), some (V.int f), some (V.int s), some (V.int p), some (V.ref u)] H2, ?_, ?_⟩
      · walk_at "rd"
        exact ⟨rfl, Same.refl _⟩
      rintro σ3 H3 ⟨rfl, t3⟩
      walk_at "rd"
      exact ⟨_, t3 _ _ hu, _, atI_0, q _ _ (t2.trans t3) hv⟩
end

/-! ### k52: the law's own sums -/
section
variable {P : Program} {w : World} {K : PySem.W.Frag} {mg : Str → Option Value} {base : Heap}
def MI (n m : Int) (b f : Int) (l s : Int) (v4 : Option V) (H : Hp) (σ : L2.St) (H' : Hp) : Prop := ∃ p q : Addr, σ = [some (V.int n), some (V.int m), some (V.ref p), some (V.ref q), v4] ∧ Same H H' ∧ H' p = some (.tup [.int l, .int b]) ∧ H' q = some (.tup [.int s, .int f])
def MIE (n m : Int) (H : Hp) (σ : L2.St) (H' : Hp) : Prop := ∃ (l b f : Int) (v4 : Option V), Euc (n % m) m l 0 b f ∧ MI n m b f l 0 v4 H σ H'
def MIN (n m : Int) (H : Hp) (σ : L2.St) (H' : Hp) : Prop := ∃ (l s b f : Int) (v4 : Option V), Euc (n % m) m l s b f ∧ MI n m b f l s v4 H σ H'
def sp_law_inverse (K : PySem.W.Frag) : Sp := fun vs H Q _ => ∃ n m : Int, vs = [.int n, .int m] ∧ 1 ≤ m ∧ m.natAbs < 2 ^ 1000 ∧ Nat.gcd n.natAbs m.natAbs = 1 ∧ ∀ v H', Same H H' → 0 ≤ v → v < m → m ∣ v * n - 1 → Q (.int v) H'
theorem ok_law_inverse (T : Tx K mg) : FnOk P w K mg base CX0 1 T.f_law_inverse T.fd_law_inverse ["_law_number", "_law_modulus"] (sp_law_inverse K) := by
  refine T.F_law_inverse.ok sc_law_inverse (fun vs H Q E h => ?_) (fun cdv A outer s H vs Q E hr h => ?_)
  · obtain ⟨n, m, rfl, _⟩ := h; rfl
  · obtain ⟨n, m, rfl, h1, hb, hg, q⟩ := h
    refine ⟨_, (C8.pss_cut (ps_par (i := 2) (j := 3) (by rfl) sc_law_inverse.nd rfl rfl (by decide) rfl rfl (pa_cons (pe_tup (pa_cons (pv 1) (pa_cons pe_int pa_nil))) (pa_cons (pe_tup (pa_cons (pe_op op_mod (pv 0) (pv 1)) (pa_cons pe_int pa_nil))) pa_nil)) (by rfl))
      (C8.pss_cut (ps_while PassesOwn.never (pt_cmpR op_gt (pe_ix ix_tH (pv 3) pe_int (fun _ _ => rfl)) pe_int (nomark _)) (C8.pss_cut (ps_set (i := 4) sc_law_inverse.nd rfl (Or.inl rfl) (pe_op op_fdivW (pe_ix ix_tH (pv 2) pe_int (fun _ _ => rfl)) (pe_ix ix_tH (pv 3) pe_int (fun _ _ => rfl))))
        (pss_one (ps_par (i := 2) (j := 3) (by rfl) sc_law_inverse.nd rfl rfl (by decide) rfl rfl (pa_cons (pv 3) (pa_cons (pe_tup (pa_cons (pe_op op_sub (pe_ix ix_tH (pv 2) pe_int (fun _ _ => rfl)) (pe_op op_mulA (pv 4) (pe_ix ix_tH (pv 3) pe_int (fun _ _ => rfl)))) (pa_cons (pe_op op_sub (pe_ix ix_tH (pv 2) pe_int (fun _ _ => rfl)) (pe_op op_mulA (pv 4) (pe_ix ix_tH (pv 3) pe_int (fun _ _ => rfl)))) pa_nil))) pa_nil)) (by rfl)))))
      (pss_one (ps_ret (pe_op op_mod (pe_ix ix_tH (pv 2) pe_int (fun _ _ => rfl)) (pv 1)))))), ?_⟩
    have n0 := Int.emod_nonneg n (by omega : m ≠ 0)
    have n1 := Int.emod_lt_of_pos n (by omega : 0 < m)
    have hg2 : Nat.gcd (n % m).natAbs m.natAbs = 1 := by rw [gcd_mod n (by omega)]; exact hg
    refine ⟨MI n m 0 1 m (n % m) none H, ?_, ?_⟩
    · walk_at "rd"
      intro p hp
      have sp := Same.new hp (o := .tup [V.int m, V.int 0])
      have fp : (upd H p (.tup [V.int m, V.int 0])) p = some (.tup [V.int m, V.int 0]) := upd_same
      generalize upd H p (HO.tup [V.int m, V.int 0]) = H1 at sp fp ⊢
      exact ⟨by omega, fun u hu => ⟨p, u, rfl, sp.trans (Same.new hu), (Same.new hu) _ _ fp, upd_same⟩⟩
    rintro σ1 H1 ⟨p, u, rfl, s1, hp, hu⟩
    refine ⟨MIE n m H, ?_, ?_⟩
    · refine while_by (fun σ H' => MIN n m H σ H') (fun σ H' => match σ with | [_, _, _, some (V.ref q), _] => (match H' q with | some (.tup [V.int s, _]) => s.toNat | _ => 0) | _ => 0) ⟨m, n % m, 0, 1, none, Euc.init n0 n1 hg2, p, u, rfl, s1, hp, hu⟩ ?_ ?_
      · rintro σ H2 ⟨l, s, b, f, v4, he, p2, q2, rfl, s2, hp2, hq2⟩
        walk_at "rd"
        refine ⟨_, hq2, _, atI_0, s, rfl, ?_⟩
        by_cases hz : s = 0
        · subst hz
          rw [if_neg (by decide)]
          exact ⟨l, b, f, v4, he, p2, q2, rfl, s2, hp2, hq2⟩
        · have hs : 0 < s := by have := he.s0; omega
          rw [if_pos hs]
          obtain ⟨b1, b2, b3⟩ := he.bnd
          have hsm : s.natAbs < 2 ^ 1000 := by have := he.sl; have := he.l0; omega
          have ht : (l / s).natAbs < 2 ^ 1000 := Nat.lt_of_le_of_lt (Int.natAbs_ediv_le_natAbs _ _) (by have := he.l0; omega)
          have hst := he.step hs
          refine ⟨MT [some (V.int n), some (V.int m), some (V.ref p2), some (V.ref q2), some (V.int (l / s))] H2, ?_, ?_⟩
          · walk_at "rd"
            exact ⟨_, hp2, _, atI_0, _, hq2, _, atI_0, l, rfl, s, rfl, wide_div hs hsm (by decide) (by decide), rfl, Same.refl _⟩
          rintro σ3 H3 ⟨rfl, s3⟩
          have hp3 := s3 _ _ hp2
          have hq3 := s3 _ _ hq2
          walk_at "rd"
          refine ⟨_, hp3, _, atI_0, _, hq3, _, atI_0, s, rfl, .inr (.inr (wide_mul ht hsm (by decide) (by decide) (by decide))), l, rfl, _, hp3, _, atI_1, _, hq3, _, atI_1, f, rfl, .inr (.inr (wide_mul ht (by omega : f.natAbs < 2 ^ 1000) (by decide) (by decide) (by decide))), b, rfl, fun r hr => ⟨⟨_, _, _, _, _, hst, q2, r, rfl, (s2.trans s3).trans (Same.new hr), (Same.new hr) _ _ hq3, upd_same⟩, ?_⟩⟩
          rw [hq2]
          show (l - l / s * s).toNat < s.toNat
          have := hst.s0
          have := hst.sl
          omega
      · intro σ H1 Q1 Q2 h hq
        obtain ⟨v, e1, p, i, e2, e3, xs, e4, v', e5, i', j', e6, e7, k, e8, hq⟩ := hq
        exact ⟨v, e1, p, i, e2, e3, xs, e4, v', e5, i', j', e6, e7, k, e8, h _ _ hq⟩
    rintro σ2 H2 ⟨l, b, f, v4, he, p2, q2, rfl, s2, hp2, hq2⟩
    walk_at "rd"
    refine ⟨_, hp2, _, atI_1, b, rfl, by omega, q _ _ s2 (Int.emod_nonneg _ (by omega)) (Int.emod_lt_of_pos _ (by omega)) ?_⟩
    have d1 := he.last
    have d2 := Int.dvd_mul_of_dvd_right (b := b % m) (dvd_sub_mod n m)
    have d3 := Int.dvd_sub d1 d2
    rwa [show b % m * (n % m) - 1 - b % m * (n % m - n) = b % m * n - 1 by rw [Int.mul_sub]; omega] at d3
def CountV (ring gap away : Int) (v : V) : Prop := (v = .non ∧ ¬ ((Nat.gcd gap.natAbs ring.natAbs : Nat) : Int) ∣ away) ∨ ∃ j, v = .int j ∧ 0 ≤ j ∧ j < ring / ((Nat.gcd gap.natAbs ring.natAbs : Nat) : Int) ∧ Sol ring gap away j 1
def sp_law_count (K : PySem.W.Frag) : Sp := fun vs H Q _ => ∃ ring gap away : Int, vs = [.int ring, .int gap, .int away] ∧ 1 ≤ ring ∧ ring.natAbs < 2 ^ 400 ∧ gap.natAbs < 2 ^ 400 ∧ away.natAbs < 2 ^ 400 ∧ ∀ v H', Same H H' → CountV ring gap away v → Q v H'
theorem ok_law_count (T : Tx K mg) : FnOk P w K mg base CX0 2 T.f_law_count T.fd_law_count ["_law_ring_here", "_law_gap", "_law_away"] (sp_law_count K) := by
  refine T.F_law_count.ok sc_law_count (fun vs H Q E h => ?_) (fun cdv A outer s H vs Q E hr h => ?_)
  · obtain ⟨n, g, a, rfl, _⟩ := h; rfl
  · obtain ⟨n, g, a, rfl, h1, hb, hb2, hb3, q⟩ := h
    refine ⟨_, (pss_cons (ps_set (i := 3) sc_law_count.nd rfl (Or.inl rfl) (pe_call (ok_law_gcd T) (hr.mono (by decide)) (by rfl) T.g_law_gcd T.F_law_gcd.kp T.b_law_gcd .nil pass0 (pa_cons (pv 1) (pa_cons (pv 0) pa_nil))))
      (pss_cons (ps_if (pt_cmpR op_ne (pe_op op_mod (pv 2) (pv 3)) pe_int (nomark _)) (pss_one (ps_ret pe_non)) pss_nil)
      (pss_one (ps_ret (pe_op op_mod (pe_op op_mulA (pe_op op_fdivW (pv 2) (pv 3)) (pe_call (ok_law_inverse T) (hr.mono (by decide)) (by rfl) T.g_law_inverse T.F_law_inverse.kp T.b_law_inverse .nil pass0 (pa_cons (pe_op op_fdivW (pv 1) (pv 3)) (pa_cons (pe_op op_fdivW (pv 0) (pv 3)) pa_nil)))) (pe_op op_fdivW (pv 0) (pv 3))))))), ?_⟩
    walk_at "rd"
    have R := ring2_of (step := g) h1
    have eG : ((Nat.gcd g.natAbs n.natAbs : Nat) : Int) = ((Nat.gcd g.natAbs n.natAbs : Nat) : Int) := rfl
    refine ⟨g, n, rfl, ?_⟩
    have q' : ∀ v H', Same H H' → ((v = .non ∧ ¬ ((Nat.gcd g.natAbs n.natAbs : Nat) : Int) ∣ a) ∨ ∃ j, v = .int j ∧ 0 ≤ j ∧ j < n / ((Nat.gcd g.natAbs n.natAbs : Nat) : Int) ∧ Sol n g a j 1) → Q v H' := q
    clear q
    generalize ((Nat.gcd g.natAbs n.natAbs : Nat) : Int) = G at R q' ⊢
    have zp := R.zpos
    have gp := R.gpos
    have gs : G ≤ n := by
      have := Int.mul_le_mul_of_nonneg_left (show 1 ≤ n / G by omega) (show 0 ≤ G by omega)
      have := R.esize
      omega
    have gb : G.natAbs < 2 ^ 400 := by omega
    refine ⟨G, rfl, gp, ?_⟩
    by_cases hd : a % G = 0
    · rw [if_neg (fun h => h hd)]
      have dv := Int.dvd_of_emod_eq_zero hd
      refine ⟨G, rfl, wide_div gp gb (by decide) (by decide), G, rfl, wide_div gp gb (by decide) (by decide), G, rfl, wide_div gp gb (by decide) (by decide), ?_⟩
      have zb : (n / G).natAbs < 2 ^ 400 := Nat.lt_of_le_of_lt (Int.natAbs_ediv_le_natAbs _ _) hb
      refine ⟨g / G, n / G, rfl, by omega, Nat.lt_of_lt_of_le zb (Nat.pow_le_pow_right (by decide) (by decide)), R.cop, fun v H1 s1 v0 v1 hv => ?_⟩
      refine ⟨v, rfl, .inr (.inr (wide_mul (a := 400) (b := 400) (Nat.lt_of_le_of_lt (Int.natAbs_ediv_le_natAbs _ _) hb3) (by omega) (by decide) (by decide) (by decide))), G, rfl, wide_div gp gb (by decide) (by decide), zp, q' _ _ s1 (.inr ⟨_, rfl, Int.emod_nonneg _ (by omega), Int.emod_lt_of_pos _ zp, ?_⟩)⟩
      have hv2 : n / G ∣ v * (g / G % (n / G)) - 1 := by
        have d2 := Int.dvd_mul_of_dvd_right (b := v) (dvd_sub_mod (g / G) (n / G))
        have d3 := Int.dvd_add hv d2
        rwa [show v * (g / G) - 1 + v * (g / G % (n / G) - g / G) = v * (g / G % (n / G)) - 1 by rw [Int.mul_sub]; omega] at d3
      have := Sol.start R (gap := a) (t := 1) (by rw [Int.mul_one]; exact dv) hv2
      rw [Int.mul_one] at this
      exact this
    · rw [if_pos hd]
      exact q' _ _ (Same.refl _) (.inl ⟨rfl, fun h => hd (Int.emod_eq_zero_of_dvd h)⟩)
def MR6 (a : Addr) (N d : Nat) (H : Hp) (F : L2.St → V → Prop) (R : V → Prop) (σ : L2.St) (H' : Hp) : Prop := ∃ v, F σ v ∧ Sx a H H' ∧ SrcN H' a (N + d) ∧ R v
def MR7 (a : Addr) (N k : Nat) (o : Int) (H : Hp) (σ : L2.St) (H' : Hp) : Prop := ∃ (D : Addr) (rs : List Int), σ = [some (V.ref a), some (V.int (2 ^ k)), some (V.int o), some (V.ref D)] ∧ Sx a H H' ∧ SrcN H' a (N + 10) ∧ D ≠ a ∧ H' D = some (.lst (rs.map V.int)) ∧ rs.length = 5 ∧ ∀ r ∈ rs, 2 ≤ r ∧ r < 2 ^ 200
def sp_law_ring (K : PySem.W.Frag) : Sp := fun vs H Q _ => ∃ (a : Addr) (N : Nat), vs = [.ref a] ∧ SrcN H a N ∧ N < 800000 ∧ ∀ H' r, Sx a H H' → SrcN H' a (N + 11) → 2 ≤ r → r < 2 ^ 200 → Q (.int r) H'
theorem ok_law_ring (T : Tx K mg) : FnOk P w K mg base CX0 3 T.f_law_ring T.fd_law_ring ["_law_source_here"] (sp_law_ring K) := by
  refine T.F_law_ring.ok sc_law_ring (fun vs H Q E h => ?_) (fun cdv A outer s H vs Q E hr h => ?_)
  · obtain ⟨a, N, rfl, _⟩ := h; rfl
  · obtain ⟨a, N, rfl, hs, hN, q⟩ := h
    refine ⟨_, (C8.pss_cut (ps_set (i := 1) sc_law_ring.nd rfl (Or.inl rfl) (pe_op op_shlW pe_int (pe_call (ok_law_take T) (hr.mono (by decide)) (by rfl) T.g_law_take T.F_law_take.kp T.b_law_take .nil pass0 (pa_cons (pv 0) (pa_cons pe_int pa_nil)))))
      (C8.pss_cut (ps_set (i := 2) sc_law_ring.nd rfl (Or.inl rfl) (pe_op op_add pe_int (pe_op op_mulA pe_int (pe_call (ok_law_large T) (hr.mono (by decide)) (by rfl) T.g_law_large T.F_law_large.kp T.b_law_large .nil pass0 (pa_cons (pv 0) (pa_cons (pe_op op_pow pe_int pe_int) pa_nil))))))
      (C8.pss_cut (ps_set (i := 3) sc_law_ring.nd rfl (Or.inl rfl) (pe_lst (pa_cons (pe_op op_add pe_int (pe_call (ok_law_take T) (hr.mono (by decide)) (by rfl) T.g_law_take T.F_law_take.kp T.b_law_take .nil pass0 (pa_cons (pv 0) (pa_cons pe_int pa_nil)))) (pa_cons (pe_op op_add pe_int (pe_call (ok_law_large T) (hr.mono (by decide)) (by rfl) T.g_law_large T.F_law_large.kp T.b_law_large .nil pass0 (pa_cons (pv 0) (pa_cons (pe_op op_pow pe_int pe_int) pa_nil)))) (pa_cons (pe_op op_mulA pe_int (pv 1)) (pa_cons (pe_op op_add pe_int (pv 2)) (pa_cons (pe_op op_mulA (pe_op op_mulA pe_int (pv 1)) (pv 2)) pa_nil)))))))
      (pss_one (ps_ret (pe_ix ix_lH (pv 3) (pe_call (ok_law_take T) (hr.mono (by decide)) (by rfl) T.g_law_take T.F_law_take.kp T.b_law_take .nil pass0 (pa_cons (pv 0) (pa_cons pe_int pa_nil))) (fun _ _ => rfl))))))), ?_⟩
    refine ⟨MR6 a N 1 H (fun σ v => σ = [some (V.ref a), some v, none, none]) (fun v => ∃ r : Nat, r < 60 ∧ v = V.int (2 ^ r)), ?_, ?_⟩
    · walk_at "rd"
      refine ⟨a, 60, N, rfl, hs, by decide, take_small (by decide) (by decide), by omega, fun H1 r s1 hs1 r0 r1 => ⟨r, rfl, ⟨r0, ?_⟩, ?_⟩⟩
      · have : Builtin.Int.intBits 1 = 1 := by decide
        rw [this]
        omega
      · obtain ⟨k, rfl⟩ := Int.eq_ofNat_of_zero_le r0
        rw [Int.toNat_natCast, Int.one_mul]
        exact ⟨_, rfl, s1, hs1, k, by omega, rfl⟩
    rintro σ1 H1 ⟨_, rfl, s1, hs1, k, hk, rfl⟩
    refine ⟨MR6 a N 5 H (fun σ v => σ = [some (V.ref a), some (V.int (2 ^ k)), some v, none]) (fun v => ∃ o : Int, 1 ≤ o ∧ o < 2 ^ 40 ∧ v = V.int o), ?_, ?_⟩
    · walk_at "rd"
      refine ⟨a, _, _, rfl, hs1, by decide, by omega, fun H2 r s2 hs2 r0 r1 => ⟨r, rfl, .inl (by decide), ?_⟩⟩
      exact ⟨_, rfl, s1.trans s2, hs2, _, by omega, by omega, rfl⟩
    rintro σ2 H2 ⟨_, rfl, s2, hs2, o, o1, o2, rfl⟩
    have hp2 : (1 : Int) ≤ 2 ^ k := Int.pow_pos (by decide)
    have hp3 : (2 : Int) ^ k ≤ 2 ^ 60 := by
      rw [pow2_cast, pow2_cast]
      exact Int.ofNat_le.mpr (Nat.pow_le_pow_right (by decide) (by omega))
    have hm1 : 1 ≤ 2 ^ k * o := by
      have := Int.mul_le_mul hp2 o1 (by decide) (by omega)
      omega
    have hm2 : 2 ^ k * o ≤ 2 ^ 60 * 2 ^ 40 := Int.mul_le_mul hp3 (by omega) (by omega) (by decide)
    refine ⟨MR7 a N k o H, ?_, ?_⟩
    · walk_at "rd"
      refine ⟨a, 49, _, rfl, hs2, by decide, take_small (by decide) (by decide), by omega, fun H3 r3 s3 hs3 r30 r31 => ⟨r3, rfl, ?_⟩⟩
      refine ⟨a, _, _, rfl, hs3, by decide, by omega, fun H4 r4 s4 hs4 r40 r41 => ⟨r4, rfl, .inl (by decide), .inl (by decide), .inl ?_, fun D hD => ?_⟩⟩
      · have e : (2 : Int) ^ 60 = 1152921504606846976 := by decide
        omega
      have hD0 : H D = none := ((s2.trans s3).trans s4).free (hs4.ne hD) hD
      refine ⟨D, [2 + r3, 2 + r4, 2 * 2 ^ k, 2 + o, 2 * 2 ^ k * o], rfl, ((s2.trans s3).trans s4).trans (Sx.of (Same.new hD)), hs4.same (Same.new hD), hs4.ne hD, upd_same, rfl, fun r hr => ?_⟩
      have e60 : (2 : Int) ^ 60 = 1152921504606846976 := by decide
      have e40 : (2 : Int) ^ 40 = 1099511627776 := by decide
      have em : 2 * 2 ^ k * o = 2 * (2 ^ k * o) := by rw [Int.mul_assoc]
      rw [em] at hr
      rw [e60, e40] at hm2
      rw [e60] at hp3
      rw [e40] at o2
      generalize (2 : Int) ^ k * o = z at *
      generalize (2 : Int) ^ k = y at *
      simp only [List.mem_cons, List.mem_nil_iff, or_false] at hr
      omega
    rintro σ3 H3 ⟨D, rs, rfl, s3, hs3, nDa, hD, hrl, hrs⟩
    walk_at "rd"
    refine ⟨a, 5, _, rfl, hs3, by decide, take_small (by decide) (by decide), by omega, fun H4 r4 s4 hs4 r40 r41 => ⟨r4, rfl, _, s4 _ _ nDa hD, ?_⟩⟩
    obtain ⟨n, hn, en⟩ := atI_ints (ns := rs) r40 (by rw [hrl]; exact r41)
    exact ⟨_, en, q _ n (s3.trans s4) hs4 (hrs n hn).1 (hrs n hn).2⟩
def MX (a : Addr) (N d : Nat) (H : Hp) (F : Int → L2.St) (R : Int → Prop) (σ : L2.St) (H' : Hp) : Prop := ∃ v, σ = F v ∧ Sx a H H' ∧ SrcN H' a (N + d) ∧ R v
/-- a ring, two places of it that differ, one more -/
structure Scene (n s o p : Int) : Prop where
  n2 : 2 ≤ n
  nb : n < 2 ^ 200
  s0 : 0 ≤ s
  s1 : s < n
  o0 : 0 ≤ o
  o1 : o < n
  ne : o ≠ s
  p0 : 0 ≤ p
  p1 : p < n
def MY (a D : Addr) (N d : Nat) (H : Hp) (xs : L2.St) (n : Int) (rs : List Int) (σ : L2.St) (H' : Hp) : Prop := σ = xs ∧ Sx a H H' ∧ SrcN H' a (N + d) ∧ D ≠ a ∧ H' D = some (.lst (rs.map V.int)) ∧ rs.length = 6 ∧ ∀ r ∈ rs, 0 ≤ r ∧ r < n
def MY2 (a : Addr) (N d : Nat) (H : Hp) (F : Addr → L2.St) (n : Int) (σ : L2.St) (H' : Hp) : Prop := ∃ D rs, MY a D N d H (F D) n rs σ H'
def sp_law_scene (K : PySem.W.Frag) : Sp := fun vs H Q _ => ∃ (a : Addr) (N : Nat), vs = [.ref a] ∧ SrcN H a N ∧ N < 700000 ∧ ∀ H' D n s o p, Sx a H H' → SrcN H' a (N + 36) → H D = none → H' D = some (.tup [.int n, .int s, .int o, .int p]) → Scene n s o p → Q (.ref D) H'
theorem ok_law_scene (T : Tx K mg) : FnOk P w K mg base CX0 4 T.f_law_scene T.fd_law_scene ["_law_source_here"] (sp_law_scene K) := by
  refine T.F_law_scene.ok sc_law_scene (fun vs H Q E h => ?_) (fun cdv A outer s H vs Q E hr h => ?_)
  · obtain ⟨a, N, rfl, _⟩ := h; rfl
  · obtain ⟨a, N, rfl, hs, hN, q⟩ := h
    refine ⟨_, (C8.pss_cut (ps_set (i := 1) sc_law_scene.nd rfl (Or.inl rfl) (pe_call (ok_law_ring T) (hr.mono (by decide)) (by rfl) T.g_law_ring T.F_law_ring.kp T.b_law_ring .nil pass0 (pa_cons (pv 0) pa_nil)))
      (C8.pss_cut (ps_set (i := 2) sc_law_scene.nd rfl (Or.inl rfl) (pe_call (ok_law_large T) (hr.mono (by decide)) (by rfl) T.g_law_large T.F_law_large.kp T.b_law_large .nil pass0 (pa_cons (pv 0) (pa_cons (pv 1) pa_nil))))
      (C8.pss_cut (ps_set (i := 3) sc_law_scene.nd rfl (Or.inl rfl) (pe_ix ix_lH (pe_lst (pa_cons pe_int (pa_cons pe_int (pa_cons pe_int (pa_cons (pe_call (ok_law_gcd T) (hr.mono (by decide)) (by rfl) T.g_law_gcd T.F_law_gcd.kp T.b_law_gcd .nil pass0 (pa_cons (pv 1) (pa_cons (pe_op op_add pe_int (pe_call (ok_law_take T) (hr.mono (by decide)) (by rfl) T.g_law_take T.F_law_take.kp T.b_law_take .nil pass0 (pa_cons (pv 0) (pa_cons pe_int pa_nil)))) pa_nil))) pa_nil))))) (pe_call (ok_law_take T) (hr.mono (by decide)) (by rfl) T.g_law_take T.F_law_take.kp T.b_law_take .nil pass0 (pa_cons (pv 0) (pa_cons pe_int pa_nil))) (fun _ _ => rfl)))
      (C8.pss_cut (ps_set (i := 4) sc_law_scene.nd rfl (Or.inl rfl) (pe_ix ix_lH (pe_lst (pa_cons (pv 3) (pa_cons (pe_op op_mulA (pv 3) (pe_op op_add pe_int (pe_call (ok_law_large T) (hr.mono (by decide)) (by rfl) T.g_law_large T.F_law_large.kp T.b_law_large .nil pass0 (pa_cons (pv 0) (pa_cons (pv 1) pa_nil))))) (pa_cons (pe_op op_add pe_int (pe_call (ok_law_large T) (hr.mono (by decide)) (by rfl) T.g_law_large T.F_law_large.kp T.b_law_large .nil pass0 (pa_cons (pv 0) (pa_cons (pv 1) pa_nil)))) pa_nil)))) (pe_call (ok_law_take T) (hr.mono (by decide)) (by rfl) T.g_law_take T.F_law_take.kp T.b_law_take .nil pass0 (pa_cons (pv 0) (pa_cons pe_int pa_nil))) (fun _ _ => rfl)))
      (C8.pss_cut (ps_set (i := 5) sc_law_scene.nd rfl (Or.inl rfl) (pe_op op_mod (pe_op op_add (pv 2) (pv 4)) (pv 1)))
      (C8.pss_cut (ps_if (pt_cmpR op_eq (pv 5) (pv 2) (nomark _)) (pss_one (ps_set (i := 5) sc_law_scene.nd rfl (Or.inl rfl) (pe_op op_mod (pe_op op_add (pv 2) pe_int) (pv 1)))) pss_nil)
      (C8.pss_cut (ps_set (i := 6) sc_law_scene.nd rfl (Or.inl rfl) (pe_op op_mod (pe_op op_add (pv 2) (pe_op op_fdivW (pe_op op_sub (pv 5) (pv 2)) pe_int)) (pv 1)))
      (C8.pss_cut (ps_set (i := 7) sc_law_scene.nd rfl (Or.inl rfl) (pe_op op_mod (pe_op op_add (pv 2) (pe_op op_fdivW (pv 1) (pe_op op_shlW pe_int (pe_call (ok_law_take T) (hr.mono (by decide)) (by rfl) T.g_law_take T.F_law_take.kp T.b_law_take .nil pass0 (pa_cons (pv 0) (pa_cons pe_int pa_nil)))))) (pv 1)))
      (C8.pss_cut (ps_set (i := 8) sc_law_scene.nd rfl (Or.inl rfl) (pe_lst (pa_cons (pe_call (ok_law_large T) (hr.mono (by decide)) (by rfl) T.g_law_large T.F_law_large.kp T.b_law_large .nil pass0 (pa_cons (pv 0) (pa_cons (pv 1) pa_nil))) (pa_cons (pv 2) (pa_cons (pv 5) (pa_cons (pv 6) (pa_cons (pv 7) (pa_cons (pe_op op_mod (pe_op op_add (pv 2) (pe_op op_mulA (pv 3) (pe_call (ok_law_large T) (hr.mono (by decide)) (by rfl) T.g_law_large T.F_law_large.kp T.b_law_large .nil pass0 (pa_cons (pv 0) (pa_cons (pv 1) pa_nil))))) (pv 1)) pa_nil))))))))
      (pss_one (ps_ret (pe_tup (pa_cons (pv 1) (pa_cons (pv 2) (pa_cons (pv 5) (pa_cons (pe_ix ix_lH (pv 8) (pe_call (ok_law_take T) (hr.mono (by decide)) (by rfl) T.g_law_take T.F_law_take.kp T.b_law_take .nil pass0 (pa_cons (pv 0) (pa_cons pe_int pa_nil))) (fun _ _ => rfl)) pa_nil)))))))))))))))), ?_⟩
    refine ⟨MX a N 11 H (fun n => [some (V.ref a), some (V.int n), none, none, none, none, none, none, none]) (fun n => 2 ≤ n ∧ n < 2 ^ 200), ?_, ?_⟩
    · walk_at "rd"
      exact ⟨a, N, rfl, hs, by omega, fun H1 r s1 hs1 r0 r1 => ⟨r, rfl, s1, hs1, r0, r1⟩⟩
    rintro σ1 H1 ⟨n, rfl, s1, hs1, n2, nb⟩
    refine ⟨MX a N 15 H (fun s => [some (V.ref a), some (V.int n), some (V.int s), none, none, none, none, none, none]) (fun s => 0 ≤ s ∧ s < n), ?_, ?_⟩
    · walk_at "rd"
      exact ⟨a, n, _, rfl, hs1, by omega, by omega, fun H2 r s2 hs2 r0 r1 => ⟨r, rfl, s1.trans s2, hs2, r0, r1⟩⟩
    rintro σ2 H2 ⟨s, rfl, s2, hs2, s0, s1'⟩
    refine ⟨MX a N 17 H (fun u => [some (V.ref a), some (V.int n), some (V.int s), some (V.int u), none, none, none, none, none]) (fun u => 1 ≤ u ∧ u < 2 ^ 200), ?_, ?_⟩
    · walk_at "rd"
      refine ⟨a, 5040, _, rfl, hs2, by decide, take_small (by decide) (by decide), by omega, fun H3 r s3 hs3 r0 r1 => ⟨r, rfl, n, 1 + r, rfl, fun p hp => ?_⟩⟩
      have npa : p ≠ a := hs3.ne hp
      have g0 : 0 < Nat.gcd n.natAbs (1 + r).natAbs := Nat.gcd_pos_of_pos_left _ (by omega)
      have g1 : Nat.gcd n.natAbs (1 + r).natAbs ≤ n.natAbs := Nat.le_of_dvd (by omega) (Nat.gcd_dvd_left _ _)
      generalize Nat.gcd n.natAbs (1 + r).natAbs = g at g0 g1 ⊢
      have sp := Same.new hp (o := .lst (([1, 2, 3, (g : Int)] : List Int).map V.int))
      have fp : (upd H3 p (.lst (([1, 2, 3, (g : Int)] : List Int).map V.int))) p = some (.lst (([1, 2, 3, (g : Int)] : List Int).map V.int)) := upd_same
      refine ⟨a, 4, N + 16, rfl, hs3.same sp, by decide, take_small (by decide) (by decide), by omega, fun H4 r4 s4 hs4 r40 r41 => ⟨r4, rfl, _, s4 _ _ npa fp, ?_⟩⟩
      obtain ⟨v, hv, ev⟩ := atI_ints (ns := [1, 2, 3, (g : Int)]) r40 r41
      refine ⟨_, ev, v, rfl, ((s2.trans s3).trans (Sx.of sp)).trans s4, hs4, ?_⟩
      simp only [List.mem_cons, List.mem_nil_iff, or_false] at hv
      omega
    rintro σ3 H3 ⟨u, rfl, s3, hs3, u0, u1⟩
    refine ⟨MX a N 26 H (fun g => [some (V.ref a), some (V.int n), some (V.int s), some (V.int u), some (V.int g), none, none, none, none]) (fun g => True), ?_, ?_⟩
    · walk_at "rd"
      refine ⟨a, n, _, rfl, hs3, by omega, by omega, fun H4 r s4 hs4 r0 r1 => ⟨r, rfl, .inr (.inr (wide_mul (a := 200) (b := 201) (by omega) (by omega) (by decide) (by decide) (by decide))), ?_⟩⟩
      refine ⟨a, n, _, rfl, hs4, by omega, by omega, fun H5 r5 s5 hs5 r50 r51 => ⟨r5, rfl, fun p hp => ?_⟩⟩
      have npa : p ≠ a := hs5.ne hp
      have sp := Same.new hp (o := .lst (([u, u * (1 + r), 1 + r5] : List Int).map V.int))
      have fp : (upd H5 p (.lst (([u, u * (1 + r), 1 + r5] : List Int).map V.int))) p = some (.lst (([u, u * (1 + r), 1 + r5] : List Int).map V.int)) := upd_same
      refine ⟨a, 3, N + 25, rfl, hs5.same sp, by decide, take_small (by decide) (by decide), by omega, fun H6 r6 s6 hs6 r60 r61 => ⟨r6, rfl, _, s6 _ _ npa fp, ?_⟩⟩
      obtain ⟨v, hv, ev⟩ := atI_ints (ns := [u, u * (1 + r), 1 + r5]) r60 r61
      exact ⟨_, ev, v, rfl, (((s3.trans s4).trans s5).trans (Sx.of sp)).trans s6, hs6, trivial⟩
    rintro σ4 H4 ⟨g, rfl, s4, hs4, _⟩
    refine ⟨MX a N 26 H (fun o => [some (V.ref a), some (V.int n), some (V.int s), some (V.int u), some (V.int g), some (V.int o), none, none, none]) (fun o => 0 ≤ o ∧ o < n), ?_, ?_⟩
    · walk_at "rd"
      exact ⟨by omega, _, rfl, s4, hs4, Int.emod_nonneg _ (by omega), Int.emod_lt_of_pos _ (by omega)⟩
    rintro σ5 H5 ⟨o, rfl, s5, hs5, o0, o1⟩
    refine ⟨MX a N 26 H (fun o => [some (V.ref a), some (V.int n), some (V.int s), some (V.int u), some (V.int g), some (V.int o), none, none, none]) (fun o => 0 ≤ o ∧ o < n ∧ o ≠ s), ?_, ?_⟩
    · walk_at "rd"
      split
      · refine ⟨by omega, _, rfl, s5, hs5, Int.emod_nonneg _ (by omega), Int.emod_lt_of_pos _ (by omega), ?_⟩
        by_cases e : s + 1 = n
        · rw [e, Int.emod_self]; omega
        · rw [Int.emod_eq_of_lt (by omega) (by omega)]; omega
      · exact ⟨_, rfl, s5, hs5, o0, o1, by omega⟩
    rintro σ6 H6 ⟨o, rfl, s6, hs6, o0, o1, one⟩
    refine ⟨MX a N 26 H (fun h => [some (V.ref a), some (V.int n), some (V.int s), some (V.int u), some (V.int g), some (V.int o), some (V.int h), none, none]) (fun o => 0 ≤ o ∧ o < n), ?_, ?_⟩
    · walk_at "rd"
      exact ⟨by omega, _, rfl, s6, hs6, Int.emod_nonneg _ (by omega), Int.emod_lt_of_pos _ (by omega)⟩
    rintro σ7 H7 ⟨h, rfl, s7, hs7, h0, h1⟩
    refine ⟨MX a N 27 H (fun m => [some (V.ref a), some (V.int n), some (V.int s), some (V.int u), some (V.int g), some (V.int o), some (V.int h), some (V.int m), none]) (fun o => 0 ≤ o ∧ o < n), ?_, ?_⟩
    · walk_at "rd"
      refine ⟨a, 9, _, rfl, hs7, by decide, take_small (by decide) (by decide), by omega, fun H8 r s8 hs8 r0 r1 => ⟨r, rfl, ⟨r0, ?_⟩, ?_, by omega, _, rfl, s7.trans s8, hs8, Int.emod_nonneg _ (by omega), Int.emod_lt_of_pos _ (by omega)⟩⟩
      · have : Builtin.Int.intBits 1 = 1 := by decide
        rw [this]
        omega
      · obtain ⟨k, rfl⟩ := Int.eq_ofNat_of_zero_le r0
        rw [Int.toNat_natCast, Int.one_mul]
        have hp : (0 : Int) < 2 ^ k := Int.pow_pos (by decide)
        refine wide_div (b := 10) hp ?_ (by decide) (by decide)
        rw [pow2_cast, Int.natAbs_natCast]
        exact Nat.pow_lt_pow_right (by decide) (by omega)
    rintro σ8 H8 ⟨m, rfl, s8, hs8, m0, m1⟩
    refine ⟨MY2 a N 35 H (fun D => [some (V.ref a), some (V.int n), some (V.int s), some (V.int u), some (V.int g), some (V.int o), some (V.int h), some (V.int m), some (V.ref D)]) n, ?_, ?_⟩
    · walk_at "rd"
      refine ⟨a, n, _, rfl, hs8, by omega, by omega, fun H9 r s9 hs9 r0 r1 => ?_⟩
      refine ⟨a, n, _, rfl, hs9, by omega, by omega, fun H10 r5 s10 hs10 r50 r51 => ⟨r5, rfl, .inr (.inr (wide_mul (a := 200) (b := 200) (by omega) (by omega) (by decide) (by decide) (by decide))), by omega, fun p hp => ?_⟩⟩
      refine ⟨p, [r, s, o, h, m, (s + u * r5) % n], rfl, ((s8.trans s9).trans s10).trans (Sx.of (Same.new hp)), hs10.same (Same.new hp), hs10.ne hp, upd_same, rfl, fun x hx => ?_⟩
      have e0 := Int.emod_nonneg (s + u * r5) (by omega : n ≠ 0)
      have e1 := Int.emod_lt_of_pos (s + u * r5) (by omega : 0 < n)
      simp only [List.mem_cons, List.mem_nil_iff, or_false] at hx
      rcases hx with rfl | rfl | rfl | rfl | rfl | rfl <;> exact ⟨by assumption, by assumption⟩
    rintro σ9 H9 ⟨D, rs, rfl, s9, hs9, nDa, hD, hrl, hrs⟩
    walk_at "rd"
    refine ⟨a, 6, _, rfl, hs9, by decide, take_small (by decide) (by decide), by omega, fun H10 r s10 hs10 r0 r1 => ⟨r, rfl, _, s10 _ _ nDa hD, ?_⟩⟩
    obtain ⟨v, hv, ev⟩ := atI_ints (ns := rs) r0 (by rw [hrl]; exact r1)
    obtain ⟨v0, v1⟩ := hrs v hv
    refine ⟨_, ev, fun p hp => ?_⟩
    exact q _ p n s o v ((s9.trans s10).trans (Sx.of (Same.new hp))) (hs10.same (Same.new hp)) ((s9.trans s10).free (hs10.ne hp) hp) upd_same ⟨n2, nb, s0, s1', o0, o1, one, v0, v1⟩
end

/-! ### k52: the law's check -/
section
variable {P : Program} {w : World} {K : PySem.W.Frag} {mg : Str → Option Value} {base : Heap}
theorem Least2.uniq {n s g : Int} {c d : Nat} {j k : Int} (h : Least2 n s g c j) (h2 : Least2 n s g d k) : c = d := by
  rcases Nat.lt_trichotomy c d with e | e | e
  · exact absurd h.sol (h2.least c e j h.lo h.hi)
  · exact e
  · exact absurd h2.sol (h.least d e k h2.lo h2.hi)
theorem sol_gcd {n s g j t : Int} (h1 : 1 ≤ n) (h : Sol n s g j t) : ((Nat.gcd s.natAbs n.natAbs : Nat) : Int) ∣ t * g := h.dvd (ring2_of h1)
theorem TwoV.uniq {n f s p : Int} {v u : V} (h1 : 1 ≤ n) (h : TwoV n f s p v) (h2 : TwoV n f s p u) : v = u := by
  rcases h with ⟨rfl, a⟩ | ⟨c, j, rfl, a, _⟩ <;> rcases h2 with ⟨rfl, b⟩ | ⟨d, k, rfl, b, _⟩
  · rfl
  · exact absurd (sol_gcd h1 b.sol) (a d)
  · exact absurd (sol_gcd h1 a.sol) (b c)
  · rw [a.uniq b]
theorem sol_conv {n s o p j t : Int} : Sol n (o - s) (p - s) j t ↔ Sol n ((o - s) % n) ((p - s) % n * t % n) j 1 := by
  have d1 := Int.dvd_mul_of_dvd_right (b := j) (dvd_sub_mod (o - s) n)
  have d2 := Int.dvd_mul_of_dvd_left (c := t) (dvd_sub_mod (p - s) n)
  have d3 := dvd_sub_mod ((p - s) % n * t) n
  have d4 := Int.dvd_sub d1 (Int.dvd_add d2 d3)
  have e : j * ((o - s) % n - (o - s)) - (((p - s) % n - (p - s)) * t + ((p - s) % n * t % n - (p - s) % n * t)) = (j * ((o - s) % n) - 1 * ((p - s) % n * t % n)) - (j * (o - s) - t * (p - s)) := by
    rw [Int.mul_sub, Int.sub_mul, Int.mul_comm t (p - s)]
    omega
  rw [e] at d4
  unfold Sol
  constructor
  · intro h
    have := Int.dvd_add d4 h
    rwa [show ∀ a b : Int, a - b + b = a from fun a b => by omega] at this
  · intro h
    have := Int.dvd_sub h d4
    rwa [show ∀ a b : Int, a - (a - b) = b from fun a b => by omega] at this
theorem gcd_gap {n s o : Int} (h1 : 1 ≤ n) : Nat.gcd ((o - s) % n).natAbs n.natAbs = Nat.gcd (o - s).natAbs n.natAbs := gcd_mod _ (by omega)
theorem odd_gap {n s o p : Int} (h1 : 1 ≤ n) : (p - s) % n % oddI ((Nat.gcd (o - s).natAbs n.natAbs : Nat) : Int) = 0 ↔ ∃ c : Nat, ((Nat.gcd (o - s).natAbs n.natAbs : Nat) : Int) ∣ 2 ^ c * (p - s) := by
  have hg : 0 < Nat.gcd (o - s).natAbs n.natAbs := Nat.gcd_pos_of_pos_right _ (by omega)
  have dn : ((Nat.gcd (o - s).natAbs n.natAbs : Nat) : Int) ∣ n := Int.natAbs_dvd_natAbs.mp (by rw [Int.natAbs_natCast]; exact Nat.gcd_dvd_right _ _)
  have g1 : 1 ≤ ((Nat.gcd (o - s).natAbs n.natAbs : Nat) : Int) := by omega
  generalize ((Nat.gcd (o - s).natAbs n.natAbs : Nat) : Int) = g at *
  · obtain ⟨k, e, ho⟩ := oddI_split g1
    have dm := Int.dvd_trans (Int.dvd_trans (oddI_dvd g1) dn) (dvd_sub_mod (p - s) n)
    constructor
    · intro h
      have d := Int.dvd_sub (Int.dvd_of_emod_eq_zero h) dm
      rw [show (p - s) % n - ((p - s) % n - (p - s)) = p - s by omega] at d
      obtain ⟨q, hq⟩ := d
      exact ⟨k, q, by rw [hq, ← Int.mul_assoc, Int.mul_comm (2 ^ k), ← e]⟩
    · rintro ⟨c, d⟩
      have d2 := Int.dvd_trans (oddI_dvd g1) d
      rw [Int.mul_comm] at d2
      have d3 := Int.dvd_add (odd_dvd ho d2) dm
      rw [show p - s + ((p - s) % n - (p - s)) = (p - s) % n by omega] at d3
      exact Int.emod_eq_zero_of_dvd d3
theorem neD_two_v {H : Hp} {n f s p : Int} {v : V} {Q : VK} (h : TwoV n f s p v) (q : Q (.bl false) H) : rNeD K v v H Q := by
  rcases h with ⟨rfl, _⟩ | ⟨c, j, rfl, _, _⟩
  · exact ⟨_, _, .non, .non, rfl, rfl, q⟩
  · refine ⟨_, _, .int c, .int c, rfl, rfl, ?_⟩
    have e : PyData.eqv (.int (c : Nat)) (.int (c : Nat)) = true := by simp [PyData.eqv]
    rw [e]
    exact q
def MRt (n s o p g a : Int) (v6 v7 v8 v9 : Option V) (H : Hp) (σ : L2.St) (H' : Hp) : Prop := σ = [some (V.int n), some (V.int s), some (V.int o), some (V.int p), some (V.int g), some (V.int a), v6, v7, v8, v9] ∧ Same H H'
def MRv (n s o p g a d : Int) (H : Hp) (σ : L2.St) (H' : Hp) : Prop := ∃ v, TwoV n s o p v ∧ MRt n s o p g a (some (.int d)) (some v) none none H σ H'
def MRi (n s o p g a d : Int) (H : Hp) (σ : L2.St) (H' : Hp) : Prop := ∃ (c : Nat) (j : Int), Least2 n (o - s) (p - s) c j ∧ c ≤ Builtin.Int.intBits n ∧ MRt n s o p g a (some (.int d)) (some (.int c)) none none H σ H'
def MRe (n s o p g a d : Int) (c : Nat) (H : Hp) (σ : L2.St) (H' : Hp) : Prop := ∃ e : Int, e ≤ 2 ^ c ∧ MRt n s o p g a (some (.int d)) (some (.int c)) (some (.int e)) none H σ H'
def MRw (n s o p g a d e : Int) (c : Nat) (H : Hp) (σ : L2.St) (H' : Hp) : Prop := ∃ v, (v = .non ∨ ∃ f : Int, v = .int f ∧ 2 ^ (c - 1) < f) ∧ MRt n s o p g a (some (.int d)) (some (.int c)) (some (.int e)) (some v) H σ H'
def MRo (n s o p g a d e : Int) (c : Nat) (H : Hp) (σ : L2.St) (H' : Hp) : Prop := 1 ≤ c ∧ MRt n s o p g a (some (.int d)) (some (.int c)) (some (.int e)) none H σ H'
theorem _root_.Int.eq_zero_or_pos_of_nonneg' (z : Int) : z = 0 ∨ z ≠ 0 := by omega
def sp_law_right (K : PySem.W.Frag) : Sp := fun vs H Q _ => ∃ n s o p : Int, vs = [.int n, .int s, .int o, .int p] ∧ Scene n s o p ∧ ∀ H', Same H H' → Q (.bl true) H'
theorem ok_law_right (T : Tx K mg) : FnOk P w K mg base CX0 5 T.f_law_right T.fd_law_right ["_law_ring_here", "_law_start", "_law_other", "_law_spot"] (sp_law_right K) := by
  refine T.F_law_right.ok sc_law_right (fun vs H Q E h => ?_) (fun cdv A outer s H vs Q E hr h => ?_)
  · obtain ⟨n, s, o, p, rfl, _⟩ := h; rfl
  · obtain ⟨n, s, o, p, rfl, S, q⟩ := h
    refine ⟨_, (C8.pss_cut (ps_par (i := 4) (j := 5) (by rfl) sc_law_right.nd rfl rfl (by decide) rfl rfl (pa_cons (pe_op op_mod (pe_op op_sub (pv 2) (pv 1)) (pv 0)) (pa_cons (pe_op op_mod (pe_op op_sub (pv 3) (pv 1)) (pv 0)) pa_nil)) (by rfl))
      (C8.pss_cut (ps_set (i := 6) sc_law_right.nd rfl (Or.inl rfl) (pe_call (ok_law_gcd T) (hr.mono (by decide)) (by rfl) T.g_law_gcd T.F_law_gcd.kp T.b_law_gcd .nil pass0 (pa_cons (pv 4) (pa_cons (pv 0) pa_nil))))
      (C8.pss_cut (ps_while PassesOwn.never (pt_cmpR op_eq (pe_op op_mod (pv 6) pe_int) pe_int (nomark _)) (pss_one (ps_set (i := 6) sc_law_right.nd rfl (Or.inl rfl) (pe_op op_fdivW (pv 6) pe_int))))
      (C8.pss_cut (ps_set (i := 7) sc_law_right.nd rfl (Or.inl rfl) (pe_call (ok_min_calls_two T) (hr.mono (by decide)) (by rfl) T.g_min_calls_two T.F_min_calls_two.kp T.b_min_calls_two .nil pass0 (pa_cons (pv 0) (pa_cons (pv 1) (pa_cons (pv 2) (pa_cons (pv 3) pa_nil))))))
      (C8.pss_cut (ps_if (pt_cmpR (op_neDK (K := K) rfl hr.units) (pe_callK0 (ok_min_calls_two T) (hr.mono (by decide)) (by rfl) T.g_min_calls_two T.F_min_calls_two.kp T.kb_min_calls_two_place_second_first_size pass0 (pk_cons (pv 3) (pk_cons (pv 2) (pk_cons (pv 1) (pk_cons (pv 0) pk_nil))))) (pv 7) (nomark _)) (pss_one (ps_ret pe_bl)) pss_nil)
      (C8.pss_cut (ps_if (PW.pt (pw_or (pt_cmpR op_isN (pv 7) pe_non (nomark _)) (pw_or1 (pt_cmpR op_ne (pe_op op_mod (pv 5) (pv 6)) pe_int (nomark _))))) (pss_one (ps_ret (pe_and (pe_cmpR op_isN (pv 7) pe_non (nomark _)) (pe_one (pe_cmpR op_ne (pe_op op_mod (pv 5) (pv 6)) pe_int (nomark _)))))) pss_nil)
      (C8.pss_cut (ps_if (PW.pt (pw_or (pt_val (pe_callB (call_isIK (K := K) rfl) (by rfl) T.n_isinstance (by decide +kernel) (pa_cons (pv 7) (pa_cons (pe_bltn (v := .ty "bool") (by rfl) T.n_bool (by decide +kernel) rfl) pa_nil)))) (pw_or1 (pt_not (pt_chain op_le op_le pe_int (pv 7) (pe_bits (pv 0))))))) (pss_one (ps_ret pe_bl)) pss_nil)
      (C8.pss_cut (ps_set (i := 8) sc_law_right.nd rfl (Or.inl rfl) (pe_call (ok_law_count T) (hr.mono (by decide)) (by rfl) T.g_law_count T.F_law_count.kp T.b_law_count .nil pass0 (pa_cons (pv 0) (pa_cons (pv 4) (pa_cons (pe_op op_mod (pe_op op_shlW (pv 5) (pv 7)) (pv 0)) pa_nil)))))
      (C8.pss_cut (ps_if (PW.pt (pw_or (pt_cmpR op_isN (pv 8) pe_non (nomark _)) (pw_or1 (pt_cmpR op_gt (pv 8) (pe_op op_shlW pe_int (pv 7)) (nomark _))))) (pss_one (ps_ret pe_bl)) pss_nil)
      (C8.pss_cut (ps_if (pt_cmpR op_eq (pv 7) pe_int (nomark _)) (pss_one (ps_ret (pe_cmpR op_inH (pv 3) (pe_tup (pa_cons (pv 1) (pa_cons (pv 2) pa_nil))) rfl))) pss_nil)
      (C8.pss_cut (ps_set (i := 9) sc_law_right.nd rfl (Or.inl rfl) (pe_call (ok_law_count T) (hr.mono (by decide)) (by rfl) T.g_law_count T.F_law_count.kp T.b_law_count .nil pass0 (pa_cons (pv 0) (pa_cons (pv 4) (pa_cons (pe_op op_mod (pe_op op_shlW (pv 5) (pe_op op_sub (pv 7) pe_int)) (pv 0)) pa_nil)))))
      (pss_one (ps_ret (pe_or (pe_cmpR op_isN (pv 9) pe_non (nomark _)) (pe_one (pe_cmpR op_gt (pv 9) (pe_op op_shlW pe_int (pe_op op_sub (pv 7) pe_int)) (nomark _))))))))))))))))), ?_⟩
    have n2 := S.n2
    have nb := S.nb
    have g0 := Int.emod_nonneg (o - s) (by omega : n ≠ 0)
    have g1 := Int.emod_lt_of_pos (o - s) (by omega : 0 < n)
    have a0 := Int.emod_nonneg (p - s) (by omega : n ≠ 0)
    have a1 := Int.emod_lt_of_pos (p - s) (by omega : 0 < n)
    have eg := gcd_gap (n := n) (s := s) (o := o) (by omega)
    have og := odd_gap (n := n) (s := s) (o := o) (p := p) (by omega)
    have gpos : 0 < Nat.gcd (o - s).natAbs n.natAbs := Nat.gcd_pos_of_pos_right _ (by omega)
    generalize hod : oddI ((Nat.gcd (o - s).natAbs n.natAbs : Nat) : Int) = od at og
    have od1 : 0 < od := by rw [← hod]; exact oddI_pos (by omega)
    generalize hG : (o - s) % n = G at g0 g1 eg
    generalize hA : (p - s) % n = A' at a0 a1 og
    refine ⟨MRt n s o p G A' none none none none H, ?_, ?_⟩
    · walk_at "rd"
      rw [hG, hA]
      exact ⟨by omega, by omega, rfl, Same.refl _⟩
    rintro σ1 H1 ⟨rfl, s1⟩
    refine ⟨MRt n s o p G A' (some (.int ((Nat.gcd (o - s).natAbs n.natAbs : Nat) : Int))) none none none H, ?_, ?_⟩
    · walk_at "rd"
      refine ⟨G, n, rfl, ?_⟩
      rw [eg]
      exact ⟨rfl, s1⟩
    rintro σ2 H2 ⟨rfl, s2⟩
    refine ⟨MRt n s o p G A' (some (.int od)) none none none H, ?_, ?_⟩
    · refine while_by (fun σ H' => H' = H2 ∧ ∃ c : Int, σ = [some (V.int n), some (V.int s), some (V.int o), some (V.int p), some (V.int G), some (V.int A'), some (V.int c), none, none, none] ∧ 1 ≤ c ∧ oddI c = od) (fun σ _ => match σ with | [_, _, _, _, _, _, some (V.int c), _, _, _] => c.toNat | _ => 0) ⟨rfl, _, rfl, by omega, hod⟩ ?_ ?_
      · rintro σ H3 ⟨rfl, c, rfl, hc, hg⟩
        walk_at "rd"
        by_cases h0 : c % 2 = 0
        · rw [if_pos h0]
          exact ⟨by omega, by rw [oddI_even hc h0, hg], by omega⟩
        · rw [if_neg h0]
          rw [oddI_odd hc (by omega)] at hg
          subst hg
          exact ⟨rfl, s2⟩
      · intro σ H1 Q1 Q2 h hq
        obtain ⟨v, e, i, j, e1, e2, hp, es, k, e3, hq⟩ := hq
        exact ⟨v, e, i, j, e1, e2, hp, es, k, e3, h _ _ hq⟩
    rintro σ3 H3 ⟨rfl, s3⟩
    refine ⟨MRv n s o p G A' od H, ?_, ?_⟩
    · walk_at "rd"
      exact ⟨n, s, o, p, rfl, by omega, by omega, S.s0, S.s1, S.o0, S.o1, S.ne, S.p0, S.p1, fun H4 v s4 hv => ⟨v, hv, rfl, s3.trans s4⟩⟩
    rintro σ4 H4 ⟨v, hv, rfl, s4⟩
    refine ⟨MRv n s o p G A' od H, ?_, ?_⟩
    · walk_at "rd"
      refine ⟨n, s, o, p, rfl, by omega, by omega, S.s0, S.s1, S.o0, S.o1, S.ne, S.p0, S.p1, fun H5 u s5 hu => ?_⟩
      obtain rfl := TwoV.uniq (by omega) hu hv
      refine neD_two_v hv ⟨false, rfl, ?_⟩
      rw [if_neg (by decide)]
      exact ⟨_, hv, rfl, s4.trans s5⟩
    rintro σ5 H5 ⟨v, hv, rfl, s5⟩
    refine ⟨MRi n s o p G A' od H, ?_, ?_⟩
    · rcases hv with ⟨rfl, hv⟩ | ⟨c, j, rfl, hl, hc⟩
      · walk_at "rd"
        refine ⟨od1, ?_⟩
        rw [decide_eq_false (fun h => by
          obtain ⟨c, hc⟩ := og.mp h
          exact hv c hc)]
        exact q _ s5
      · walk_at "rd"
        refine ⟨od1, ?_⟩
        have h0 : A' % od = 0 := og.mpr ⟨c, sol_gcd (by omega) hl.sol⟩
        rw [if_neg (fun h => h h0)]
        exact ⟨c, j, hl, hc, rfl, s5⟩
    rintro σ6 H6 ⟨c, j, hl, hc, rfl, s6⟩
    refine ⟨MRt n s o p G A' (some (.int od)) (some (.int c)) none none H, ?_, ?_⟩
    · walk_at "rd"
      rw [isI_int_bool, if_neg (by decide), if_pos (by omega), if_neg (by omega)]
      exact ⟨rfl, s6⟩
    rintro σ7 H7 ⟨rfl, s7⟩
    have nbits : Builtin.Int.intBits n ≤ 200 := PyProof.Rows.intBits_le (by omega)
    have shA : ∀ k : Nat, k ≤ 200 → CShl A' (k : Int) := fun k hk => shl_ok (n := 200) (by omega) (by omega)
    have sh1 : ∀ k : Nat, k ≤ 200 → CShl 1 (k : Int) := fun k hk => shl_ok (n := 1) (by decide) (by omega)
    have cnt : ∀ (k : Nat) (v : V), CountV n G (A' * 2 ^ k % n) v → (v = .non ∧ ∀ e, ¬ Sol n (o - s) (p - s) e (2 ^ k)) ∨ ∃ e : Int, v = .int e ∧ 0 ≤ e ∧ Sol n (o - s) (p - s) e (2 ^ k) ∧ ∀ e', 0 ≤ e' → Sol n (o - s) (p - s) e' (2 ^ k) → e ≤ e' := fun k v hv => by
      have R := ring2_of (size := n) (step := G) (by omega)
      rcases hv with ⟨rfl, hv⟩ | ⟨e, rfl, e0, e1, he⟩
      · refine .inl ⟨rfl, fun e he => hv ?_⟩
        have := sol_conv.mp he
        rw [hG, hA] at this
        have := sol_gcd (by omega) this
        rwa [Int.one_mul] at this
      · refine .inr ⟨e, rfl, e0, sol_conv.mpr (by rw [hG, hA]; exact he), fun e' e0' he' => ?_⟩
        have h2 := sol_conv.mp he'
        rw [hG, hA] at h2
        have d := Sol.uniq R he h2
        by_cases hlt : e' < e
        · have := Int.le_of_dvd (by omega) d
          omega
        · omega
    have ab : (A' * 2 ^ 0).natAbs < 2 ^ 400 := by rw [Int.pow_zero, Int.mul_one]; omega
    have mb : ∀ x : Int, (x % n).natAbs < 2 ^ 400 := fun x => by
      have := Int.emod_nonneg x (by omega : n ≠ 0)
      have := Int.emod_lt_of_pos x (by omega : 0 < n)
      omega
    refine ⟨MRe n s o p G A' od c H, ?_, ?_⟩
    · walk_at "rd"
      refine ⟨shA c (by omega), by omega, n, G, _, rfl, by omega, by omega, by omega, mb _, fun v H8 s8 hv => ?_⟩
      rw [Int.toNat_natCast] at hv
      rcases cnt c v hv with ⟨_, hn⟩ | ⟨e, rfl, e0, he, hm⟩
      · exact absurd hl.sol (hn j)
      · exact ⟨e, Int.le_trans (hm j hl.lo hl.sol) hl.hi, rfl, s7.trans s8⟩
    rintro σ8 H8 ⟨e, he, rfl, s8⟩
    refine ⟨MRt n s o p G A' (some (.int od)) (some (.int c)) (some (.int e)) none H, ?_, ?_⟩
    · walk_at "rd"
      refine ⟨sh1 c (by omega), ?_⟩
      rw [Int.toNat_natCast, Int.one_mul, if_neg (by omega)]
      exact ⟨rfl, s8⟩
    rintro σ9 H9 ⟨rfl, s9⟩
    refine ⟨MRo n s o p G A' od e c H, ?_, ?_⟩
    · walk_at "rd"
      by_cases hc0 : c = 0
      · subst hc0
        rw [if_pos (show ((0 : Nat) : Int) = 0 from rfl)]
        intro u hu
        refine ⟨rfl, rfl, ?_⟩
        have hsol := hl.sol
        have hj0 := hl.lo
        have hj1 := hl.hi
        unfold Sol at hsol
        rw [Int.pow_zero] at hsol hj1
        rw [Int.one_mul] at hsol
        have S0 := S.s0
        have S1 := S.s1
        have O0 := S.o0
        have O1 := S.o1
        have P0 := S.p0
        have P1 := S.p1
        have small : ∀ z : Int, n ∣ z → z.natAbs < n.natAbs → z = 0 := fun z d h => by
          rcases Int.eq_zero_or_pos_of_nonneg' z with h0 | h0
          · exact h0
          · have := Nat.le_of_dvd (by omega) (Int.natAbs_dvd_natAbs.mpr d)
            omega
        have hj : j = 0 ∨ j = 1 := by omega
        have mem : p = s ∨ p = o := by
          rcases hj with rfl | rfl
          · rw [Int.zero_mul] at hsol
            have := small _ hsol (by omega)
            omega
          · rw [Int.one_mul] at hsol
            have := small _ hsol (by omega)
            omega
        have e : inV (V.int p) [V.int s, V.int o] = true := by
          rcases mem with rfl | rfl <;> simp [inV, eqV]
        rw [e]
        exact q _ (s9.trans (Same.new hu))
      · rw [if_neg (by omega)]
        exact ⟨by omega, rfl, s9⟩
    rintro σ10 H10 ⟨c1, rfl, s10⟩
    refine ⟨MRw n s o p G A' od e c H, ?_, ?_⟩
    · walk_at "rd"
      have ec : (c : Int) - 1 = ((c - 1 : Nat) : Int) := by omega
      rw [ec, Int.toNat_natCast]
      refine ⟨shA _ (by omega), by omega, n, G, _, rfl, by omega, by omega, by omega, mb _, fun v H11 s11 hv => ?_⟩
      rcases cnt _ v hv with ⟨rfl, _⟩ | ⟨f, rfl, f0, hf, _⟩
      · exact ⟨.non, .inl rfl, rfl, s10.trans s11⟩
      · refine ⟨_, .inr ⟨f, rfl, ?_⟩, rfl, s10.trans s11⟩
        by_cases hle : f ≤ 2 ^ (c - 1)
        · exact absurd hf (hl.least _ (by omega) f f0 hle)
        · omega
    rintro σ11 H11 ⟨v, hv, rfl, s11⟩
    walk_at "rd"
    rcases hv with rfl | ⟨f, rfl, hf⟩
    · rw [if_pos rfl]
      exact q _ s11
    · have ec : (c : Int) - 1 = ((c - 1 : Nat) : Int) := by omega
      rw [if_neg (by simp), ec, Int.toNat_natCast, Int.one_mul]
      refine ⟨sh1 _ (by omega), f, rfl, ?_⟩
      rw [decide_eq_true hf]
      exact q _ s11
theorem cut_ints (ns : List Int) (lo hi : Option Int) : ∃ ms : List Int, cutV (ns.map V.int) lo hi = ms.map V.int ∧ ms.length ≤ ns.length := by
  unfold cutV
  rw [List.length_map, ← List.map_drop, ← List.map_take]
  exact ⟨_, rfl, by rw [List.length_take, List.length_drop]; omega⟩
def MLw (a p : Addr) (xs : List V) (σ : L2.St) (H' : Hp) : Prop := ∃ v1 v2 v3 v4 v5 v6 v7, σ = [some (V.ref a), v1, v2, v3, v4, v5, v6, v7] ∧ H' p = some (.lst xs)
def MLc (a p c : Addr) (v1 : Option V) (xs : List V) (N : Nat) (σ : L2.St) (H' : Hp) : Prop := ∃ v3 v4 v5 v6 v7, σ = [some (V.ref a), v1, some (V.ref c), v3, v4, v5, v6, v7] ∧ H' p = some (.lst xs) ∧ SrcN H' c N
def MLd (a p : Addr) (v1 : Option V) (xs : List V) (σ : L2.St) (H' : Hp) : Prop := ∃ c, p ≠ c ∧ MLc a p c v1 xs 0 σ H'
def MLs (a p c : Addr) (v1 v3 : Option V) (xs : List V) (N : Nat) (σ : L2.St) (H' : Hp) : Prop := ∃ n s o q, σ = [some (V.ref a), v1, some (V.ref c), v3, some (V.int n), some (V.int s), some (V.int o), some (V.int q)] ∧ H' p = some (.lst xs) ∧ SrcN H' c N ∧ Scene n s o q
def sp_law (K : PySem.W.Frag) : Sp := fun vs H Q _ => ∃ (a : Addr) (ns : List Int), vs = [.ref a] ∧ SqL K H a (ns.map V.int) ∧ ns.length ≤ 63 ∧ (∀ z ∈ ns, Builtin.Int.intBits z ≤ 1048576) ∧ ∀ H', Q (.bl true) H'
theorem ok_law (T : Tx K mg) : FnOk P w K mg base CX0 6 T.f_law T.fd_law ["_law_script"] (sp_law K) := by
  refine T.F_law.ok sc_law (fun vs H Q E h => ?_) (fun cdv A outer s H vs Q E hr h => ?_)
  · obtain ⟨a, ns, rfl, _⟩ := h; rfl
  · obtain ⟨a, ns, rfl, hS, hn, hbits, q⟩ := h
    refine ⟨_, (C8.pss_cut (ps_for PassesOwn.never rfl (pi_seqH (pe_op op_catS (pe_lst (pa_cons (pe_call (ok_law_cell_at T) (hr.mono (by decide)) (by rfl) T.g_law_cell_at T.F_law_cell_at.kp T.b_law_cell_at .nil pass0 (pa_cons (pv 0) (pa_cons pe_int pa_nil))) pa_nil)) (pe_slice sl_list (pv 0) (po_some pe_int) (po_some pe_int)))) (pg_name (i := 1) sc_law.nd rfl (Or.inl rfl))
        (C8.pss_cut (ps_set (i := 2) sc_law.nd rfl (Or.inl rfl) (pe_call (ok_law_source T) (hr.mono (by decide)) (by rfl) T.g_law_source T.F_law_source.kp T.b_law_source .nil pass0 (pa_cons (pv 1) pa_nil)))
        (pss_one (ps_for PassesOwn.never rfl (pi_range1H (by rfl) T.n_range (pa_cons pe_int pa_nil)) (pg_name (i := 3) sc_law.nd rfl (Or.inl rfl))
          (C8.pss_cut (ps_asg (pe_call (ok_law_scene T) (hr.mono (by decide)) (by rfl) T.g_law_scene T.F_law_scene.kp T.b_law_scene .nil pass0 (pa_cons (pv 2) pa_nil)) (pg_tupH (n := 4) rfl (pgs_cons (pg_name (i := 4) sc_law.nd rfl (Or.inl rfl)) (pgs_cons (pg_name (i := 5) sc_law.nd rfl (Or.inl rfl)) (pgs_cons (pg_name (i := 6) sc_law.nd rfl (Or.inl rfl)) (pgs_cons (pg_name (i := 7) sc_law.nd rfl (Or.inl rfl)) pgs_nil))))))
          (pss_one (ps_if (pt_not (pt_val (pe_call (ok_law_right T) (hr.mono (by decide)) (by rfl) T.g_law_right T.F_law_right.kp T.b_law_right .nil pass0 (pa_cons (pv 4) (pa_cons (pv 5) (pa_cons (pv 6) (pa_cons (pv 7) pa_nil))))))) (pss_one (ps_ret pe_bl)) pss_nil)))))))
      (pss_one (ps_ret pe_bl))), ?_⟩
    refine ⟨fun σ _ => σ.length = 8, ?_, ?_⟩
    · walk_at "rd"
      refine ⟨a, ns, 0, rfl, hS, fun p hp => ?_⟩
      have t1 := Same.new hp (o := .lst [V.int (ns.getD 0 0)])
      have g1 : (upd H p (.lst [V.int (ns.getD 0 0)])) p = some (.lst [V.int (ns.getD 0 0)]) := upd_same
      generalize upd H p (HO.lst [V.int (ns.getD 0 0)]) = H1 at t1 g1 ⊢
      refine ⟨_, t1.seq hS, fun p1 hp1 => ?_⟩
      obtain ⟨ms, ems, hms⟩ := cut_ints ns (some 1) (some 8)
      rw [ems]
      have t2 := Same.new hp1 (o := .lst (ms.map V.int))
      have g2 : (upd H1 p1 (.lst (ms.map V.int))) p1 = some (.lst (ms.map V.int)) := upd_same
      generalize upd H1 p1 (HO.lst (ms.map V.int)) = H2 at t2 g2 ⊢
      refine ⟨_, .inl (.inl (t2 _ _ g1)), _, .inl (.inl g2), ?_, fun p2 hp2 J W => ?_⟩
      · rw [List.length_map]
        exact Nat.le_trans (by simp; omega : [V.int (ns.getD 0 0)].length + ms.length ≤ 64) (by decide)
      rw [show [V.int (ns.getD 0 0)] ++ ms.map V.int = (ns.getD 0 0 :: ms).map V.int from rfl] at W ⊢
      generalize ns.getD 0 0 :: ms = ks at W ⊢
      have g3 : (upd H2 p2 (.lst (ks.map V.int))) p2 = some (.lst (ks.map V.int)) := upd_same
      generalize upd H2 p2 (HO.lst (ks.map V.int)) = H3 at g3 ⊢
      refine forr W (fun i σ H' => MLw a p2 (ks.map V.int) σ H') ⟨none, none, none, none, none, none, none, rfl, g3⟩ (fun _ _ _ _ h => by obtain ⟨_, _, _, _, _, _, _, _, h⟩ := h; exact h) ?_ ?_
      · rintro i x σ H4o H4 hi ⟨v1, v2, v3, v4, v5, v6, v7, rfl, h4⟩ ⟨rfl, hx⟩
        simp only [List.getElem?_map, Option.map_eq_some_iff] at hx
        obtain ⟨n, hn, rfl⟩ := hx
        walk_at "rd"
        refine ⟨MLd a p2 (some (.int n)) (ks.map V.int), ?_, ?_⟩
        · walk_at "rd"
          exact ⟨n, rfl, fun H5 c s5 hc hsrc => ⟨c, ne_some h4 hc, _, _, _, _, _, rfl, s5 _ _ h4, hsrc⟩⟩
        rintro σ5 H5 ⟨c, npc, v3, v4, v5, v6, v7, rfl, h5, hsrc⟩
        walk_at "rd"
        intro J2 W2
        refine forr W2 (fun i σ H' => MLc a p2 c (some (.int n)) (ks.map V.int) (40 * i) σ H') ⟨v3, v4, v5, v6, v7, rfl, h5, hsrc⟩ (fun _ _ _ _ _ => trivial) ?_ ?_
        · rintro j x σ6 H6o H6 hj ⟨v3, v4, v5, v6, v7, rfl, h6, hs6⟩ ⟨rfl, rfl⟩
          walk_at "rd"
          refine ⟨MLs a p2 c (some (.int n)) (some (.int (j : Nat))) (ks.map V.int) (40 * j + 36), ?_, ?_⟩
          · walk_at "rd"
            refine ⟨c, 40 * j, rfl, hs6, by omega, fun H7 D n' s o q s7 hs7 hnD hD hSc => ?_⟩
            refine ⟨D, rfl, _, hD, rfl, ?_⟩
            walk_at "rd"
            exact ⟨n', s, o, q, rfl, s7 _ _ npc h6, hs7, hSc⟩
          rintro σ7 H7 ⟨n', s, o, q', rfl, h7, hs7, hSc⟩
          walk_at "rd"
          refine ⟨n', s, o, q', rfl, hSc, fun H8 s8 => ⟨true, rfl, ?_⟩⟩
          walk_at "rd"
          exact ⟨_, _, _, _, _, rfl, s8 _ _ h7, (hs7.same s8).mono (by omega)⟩
        · rintro σ6 H6 ⟨v3, v4, v5, v6, v7, rfl, h6, hs6⟩
          exact ⟨_, _, _, _, _, _, _, rfl, h6⟩
      · rintro σ4 H4 ⟨v1, v2, v3, v4, v5, v6, v7, rfl, h4⟩
        rfl
    rintro σ4 H4 _
    walk_at "rd"
    exact q _
end

theorem kit_self (K : PySem.W.Frag) (C : Addr) : PySem.W.kitOne K (.ref C) (.ref C) = some true := by
  unfold PySem.W.kitOne
  rw [if_pos]
  exact beq_self_eq_true _
theorem all_mk {P : Program} {w : World} {K : PySem.W.Frag} {h : Heap} {mg : Str → Option Value} {fa : Addr} (X : K.In h) (G : h.Ns mainGlobals mg) (hfa : mg "law" = some (.ref fa))
    {f_is_integer : Addr} {od_is_integer an_is_integer : Option Addr} {sl_is_integer : Array (Option Value)} {oc_is_integer kV_is_integer dc_is_integer pm_is_integer cd_is_integer ct_is_integer : Value} {f_is_place : Addr} {od_is_place an_is_place : Option Addr} {sl_is_place : Array (Option Value)} {oc_is_place kV_is_place dc_is_place pm_is_place cd_is_place ct_is_place : Value} {f_require_number : Addr} {od_require_number an_require_number : Option Addr} {sl_require_number : Array (Option Value)} {oc_require_number kV_require_number dc_require_number pm_require_number cd_require_number ct_require_number : Value} {f_require_place : Addr} {od_require_place an_require_place : Option Addr} {sl_require_place : Array (Option Value)} {oc_require_place kV_require_place dc_require_place pm_require_place cd_require_place ct_require_place : Value} {f_min_calls_two : Addr} {od_min_calls_two an_min_calls_two : Option Addr} {sl_min_calls_two : Array (Option Value)} {oc_min_calls_two kV_min_calls_two dc_min_calls_two pm_min_calls_two cd_min_calls_two ct_min_calls_two : Value} {f_require_two : Addr} {od_require_two an_require_two : Option Addr} {sl_require_two : Array (Option Value)} {oc_require_two kV_require_two dc_require_two pm_require_two cd_require_two ct_require_two : Value} {f_least_sum_of_two : Addr} {od_least_sum_of_two an_least_sum_of_two : Option Addr} {sl_least_sum_of_two : Array (Option Value)} {oc_least_sum_of_two kV_least_sum_of_two dc_least_sum_of_two pm_least_sum_of_two cd_least_sum_of_two ct_least_sum_of_two : Value} {f_inverse : Addr} {od_inverse an_inverse : Option Addr} {sl_inverse : Array (Option Value)} {oc_inverse kV_inverse dc_inverse pm_inverse cd_inverse ct_inverse : Value} {f_law_cell_at : Addr} {od_law_cell_at an_law_cell_at : Option Addr} {sl_law_cell_at : Array (Option Value)} {oc_law_cell_at kV_law_cell_at dc_law_cell_at pm_law_cell_at cd_law_cell_at ct_law_cell_at : Value} {f_law_source : Addr} {od_law_source an_law_source : Option Addr} {sl_law_source : Array (Option Value)} {oc_law_source kV_law_source dc_law_source pm_law_source cd_law_source ct_law_source : Value} {f_law_take : Addr} {od_law_take an_law_take : Option Addr} {sl_law_take : Array (Option Value)} {oc_law_take kV_law_take dc_law_take pm_law_take cd_law_take ct_law_take : Value} {f_law_large : Addr} {od_law_large an_law_large : Option Addr} {sl_law_large : Array (Option Value)} {oc_law_large kV_law_large dc_law_large pm_law_large cd_law_large ct_law_large : Value} {f_law_gcd : Addr} {od_law_gcd an_law_gcd : Option Addr} {sl_law_gcd : Array (Option Value)} {oc_law_gcd kV_law_gcd dc_law_gcd pm_law_gcd cd_law_gcd ct_law_gcd : Value} {f_law_inverse : Addr} {od_law_inverse an_law_inverse : Option Addr} {sl_law_inverse : Array (Option Value)} {oc_law_inverse kV_law_inverse dc_law_inverse pm_law_inverse cd_law_inverse ct_law_inverse : Value} {f_law_count : Addr} {od_law_count an_law_count : Option Addr} {sl_law_count : Array (Option Value)} {oc_law_count kV_law_count dc_law_count pm_law_count cd_law_count ct_law_count : Value} {f_law_ring : Addr} {od_law_ring an_law_ring : Option Addr} {sl_law_ring : Array (Option Value)} {oc_law_ring kV_law_ring dc_law_ring pm_law_ring cd_law_ring ct_law_ring : Value} {f_law_scene : Addr} {od_law_scene an_law_scene : Option Addr} {sl_law_scene : Array (Option Value)} {oc_law_scene kV_law_scene dc_law_scene pm_law_scene cd_law_scene ct_law_scene : Value} {f_law_right : Addr} {od_law_right an_law_right : Option Addr} {sl_law_right : Array (Option Value)} {oc_law_right kV_law_right dc_law_right pm_law_right cd_law_right ct_law_right : Value} {f_law : Addr} {od_law an_law : Option Addr} {sl_law : Array (Option Value)} {oc_law kV_law dc_law pm_law cd_law ct_law : Value}
    (a_is_integer : PySem.W.nsIn K mainGlobals "is_integer" = some (some (.ref f_is_integer)))
    (l_is_integer : K.lookup f_is_integer = some ⟨oc_is_integer, od_is_integer, .func (PySem.W.fnOf "is_integer" "is_integer" (defArgs d_is_integer) (defBody d_is_integer) (defScope d_is_integer) .none kV_is_integer dc_is_integer pm_is_integer an_is_integer cd_is_integer ct_is_integer), sl_is_integer⟩)
    (x_is_integer : PySem.W.codeIn K cd_is_integer "is_integer" = true)
    (k_is_integer : PySem.W.keepIn K (.ref f_is_integer) = true)
    (a_is_place : PySem.W.nsIn K mainGlobals "is_place" = some (some (.ref f_is_place)))
    (l_is_place : K.lookup f_is_place = some ⟨oc_is_place, od_is_place, .func (PySem.W.fnOf "is_place" "is_place" (defArgs d_is_place) (defBody d_is_place) (defScope d_is_place) .none kV_is_place dc_is_place pm_is_place an_is_place cd_is_place ct_is_place), sl_is_place⟩)
    (x_is_place : PySem.W.codeIn K cd_is_place "is_place" = true)
    (k_is_place : PySem.W.keepIn K (.ref f_is_place) = true)
    (a_require_number : PySem.W.nsIn K mainGlobals "require_number" = some (some (.ref f_require_number)))
    (l_require_number : K.lookup f_require_number = some ⟨oc_require_number, od_require_number, .func (PySem.W.fnOf "require_number" "require_number" (defArgs d_require_number) (defBody d_require_number) (defScope d_require_number) .none kV_require_number dc_require_number pm_require_number an_require_number cd_require_number ct_require_number), sl_require_number⟩)
    (x_require_number : PySem.W.codeIn K cd_require_number "require_number" = true)
    (k_require_number : PySem.W.keepIn K (.ref f_require_number) = true)
    (a_require_place : PySem.W.nsIn K mainGlobals "require_place" = some (some (.ref f_require_place)))
    (l_require_place : K.lookup f_require_place = some ⟨oc_require_place, od_require_place, .func (PySem.W.fnOf "require_place" "require_place" (defArgs d_require_place) (defBody d_require_place) (defScope d_require_place) .none kV_require_place dc_require_place pm_require_place an_require_place cd_require_place ct_require_place), sl_require_place⟩)
    (x_require_place : PySem.W.codeIn K cd_require_place "require_place" = true)
    (k_require_place : PySem.W.keepIn K (.ref f_require_place) = true)
    (a_min_calls_two : PySem.W.nsIn K mainGlobals "min_calls_two" = some (some (.ref f_min_calls_two)))
    (l_min_calls_two : K.lookup f_min_calls_two = some ⟨oc_min_calls_two, od_min_calls_two, .func (PySem.W.fnOf "min_calls_two" "min_calls_two" (defArgs d_min_calls_two) (defBody d_min_calls_two) (defScope d_min_calls_two) .none kV_min_calls_two dc_min_calls_two pm_min_calls_two an_min_calls_two cd_min_calls_two ct_min_calls_two), sl_min_calls_two⟩)
    (x_min_calls_two : PySem.W.codeIn K cd_min_calls_two "min_calls_two" = true)
    (k_min_calls_two : PySem.W.keepIn K (.ref f_min_calls_two) = true)
    (a_require_two : PySem.W.nsIn K mainGlobals "_require_two" = some (some (.ref f_require_two)))
    (l_require_two : K.lookup f_require_two = some ⟨oc_require_two, od_require_two, .func (PySem.W.fnOf "_require_two" "_require_two" (defArgs d_require_two) (defBody d_require_two) (defScope d_require_two) .none kV_require_two dc_require_two pm_require_two an_require_two cd_require_two ct_require_two), sl_require_two⟩)
    (x_require_two : PySem.W.codeIn K cd_require_two "_require_two" = true)
    (k_require_two : PySem.W.keepIn K (.ref f_require_two) = true)
    (a_least_sum_of_two : PySem.W.nsIn K mainGlobals "_least_sum_of_two" = some (some (.ref f_least_sum_of_two)))
    (l_least_sum_of_two : K.lookup f_least_sum_of_two = some ⟨oc_least_sum_of_two, od_least_sum_of_two, .func (PySem.W.fnOf "_least_sum_of_two" "_least_sum_of_two" (defArgs d_least_sum_of_two) (defBody d_least_sum_of_two) (defScope d_least_sum_of_two) .none kV_least_sum_of_two dc_least_sum_of_two pm_least_sum_of_two an_least_sum_of_two cd_least_sum_of_two ct_least_sum_of_two), sl_least_sum_of_two⟩)
    (x_least_sum_of_two : PySem.W.codeIn K cd_least_sum_of_two "_least_sum_of_two" = true)
    (k_least_sum_of_two : PySem.W.keepIn K (.ref f_least_sum_of_two) = true)
    (a_inverse : PySem.W.nsIn K mainGlobals "_inverse" = some (some (.ref f_inverse)))
    (l_inverse : K.lookup f_inverse = some ⟨oc_inverse, od_inverse, .func (PySem.W.fnOf "_inverse" "_inverse" (defArgs d_inverse) (defBody d_inverse) (defScope d_inverse) .none kV_inverse dc_inverse pm_inverse an_inverse cd_inverse ct_inverse), sl_inverse⟩)
    (x_inverse : PySem.W.codeIn K cd_inverse "_inverse" = true)
    (k_inverse : PySem.W.keepIn K (.ref f_inverse) = true)
    (a_law_cell_at : PySem.W.nsIn K mainGlobals "_law_cell_at" = some (some (.ref f_law_cell_at)))
    (l_law_cell_at : K.lookup f_law_cell_at = some ⟨oc_law_cell_at, od_law_cell_at, .func (PySem.W.fnOf "_law_cell_at" "_law_cell_at" (defArgs d_law_cell_at) (defBody d_law_cell_at) (defScope d_law_cell_at) .none kV_law_cell_at dc_law_cell_at pm_law_cell_at an_law_cell_at cd_law_cell_at ct_law_cell_at), sl_law_cell_at⟩)
    (x_law_cell_at : PySem.W.codeIn K cd_law_cell_at "_law_cell_at" = true)
    (k_law_cell_at : PySem.W.keepIn K (.ref f_law_cell_at) = true)
    (a_law_source : PySem.W.nsIn K mainGlobals "_law_source" = some (some (.ref f_law_source)))
    (l_law_source : K.lookup f_law_source = some ⟨oc_law_source, od_law_source, .func (PySem.W.fnOf "_law_source" "_law_source" (defArgs d_law_source) (defBody d_law_source) (defScope d_law_source) .none kV_law_source dc_law_source pm_law_source an_law_source cd_law_source ct_law_source), sl_law_source⟩)
    (x_law_source : PySem.W.codeIn K cd_law_source "_law_source" = true)
    (k_law_source : PySem.W.keepIn K (.ref f_law_source) = true)
    (a_law_take : PySem.W.nsIn K mainGlobals "_law_take" = some (some (.ref f_law_take)))
    (l_law_take : K.lookup f_law_take = some ⟨oc_law_take, od_law_take, .func (PySem.W.fnOf "_law_take" "_law_take" (defArgs d_law_take) (defBody d_law_take) (defScope d_law_take) .none kV_law_take dc_law_take pm_law_take an_law_take cd_law_take ct_law_take), sl_law_take⟩)
    (x_law_take : PySem.W.codeIn K cd_law_take "_law_take" = true)
    (k_law_take : PySem.W.keepIn K (.ref f_law_take) = true)
    (a_law_large : PySem.W.nsIn K mainGlobals "_law_large" = some (some (.ref f_law_large)))
    (l_law_large : K.lookup f_law_large = some ⟨oc_law_large, od_law_large, .func (PySem.W.fnOf "_law_large" "_law_large" (defArgs d_law_large) (defBody d_law_large) (defScope d_law_large) .none kV_law_large dc_law_large pm_law_large an_law_large cd_law_large ct_law_large), sl_law_large⟩)
    (x_law_large : PySem.W.codeIn K cd_law_large "_law_large" = true)
    (k_law_large : PySem.W.keepIn K (.ref f_law_large) = true)
    (a_law_gcd : PySem.W.nsIn K mainGlobals "_law_gcd" = some (some (.ref f_law_gcd)))
    (l_law_gcd : K.lookup f_law_gcd = some ⟨oc_law_gcd, od_law_gcd, .func (PySem.W.fnOf "_law_gcd" "_law_gcd" (defArgs d_law_gcd) (defBody d_law_gcd) (defScope d_law_gcd) .none kV_law_gcd dc_law_gcd pm_law_gcd an_law_gcd cd_law_gcd ct_law_gcd), sl_law_gcd⟩)
    (x_law_gcd : PySem.W.codeIn K cd_law_gcd "_law_gcd" = true)
    (k_law_gcd : PySem.W.keepIn K (.ref f_law_gcd) = true)
    (a_law_inverse : PySem.W.nsIn K mainGlobals "_law_inverse" = some (some (.ref f_law_inverse)))
    (l_law_inverse : K.lookup f_law_inverse = some ⟨oc_law_inverse, od_law_inverse, .func (PySem.W.fnOf "_law_inverse" "_law_inverse" (defArgs d_law_inverse) (defBody d_law_inverse) (defScope d_law_inverse) .none kV_law_inverse dc_law_inverse pm_law_inverse an_law_inverse cd_law_inverse ct_law_inverse), sl_law_inverse⟩)
    (x_law_inverse : PySem.W.codeIn K cd_law_inverse "_law_inverse" = true)
    (k_law_inverse : PySem.W.keepIn K (.ref f_law_inverse) = true)
    (a_law_count : PySem.W.nsIn K mainGlobals "_law_count" = some (some (.ref f_law_count)))
    (l_law_count : K.lookup f_law_count = some ⟨oc_law_count, od_law_count, .func (PySem.W.fnOf "_law_count" "_law_count" (defArgs d_law_count) (defBody d_law_count) (defScope d_law_count) .none kV_law_count dc_law_count pm_law_count an_law_count cd_law_count ct_law_count), sl_law_count⟩)
    (x_law_count : PySem.W.codeIn K cd_law_count "_law_count" = true)
    (k_law_count : PySem.W.keepIn K (.ref f_law_count) = true)
    (a_law_ring : PySem.W.nsIn K mainGlobals "_law_ring" = some (some (.ref f_law_ring)))
    (l_law_ring : K.lookup f_law_ring = some ⟨oc_law_ring, od_law_ring, .func (PySem.W.fnOf "_law_ring" "_law_ring" (defArgs d_law_ring) (defBody d_law_ring) (defScope d_law_ring) .none kV_law_ring dc_law_ring pm_law_ring an_law_ring cd_law_ring ct_law_ring), sl_law_ring⟩)
    (x_law_ring : PySem.W.codeIn K cd_law_ring "_law_ring" = true)
    (k_law_ring : PySem.W.keepIn K (.ref f_law_ring) = true)
    (a_law_scene : PySem.W.nsIn K mainGlobals "_law_scene" = some (some (.ref f_law_scene)))
    (l_law_scene : K.lookup f_law_scene = some ⟨oc_law_scene, od_law_scene, .func (PySem.W.fnOf "_law_scene" "_law_scene" (defArgs d_law_scene) (defBody d_law_scene) (defScope d_law_scene) .none kV_law_scene dc_law_scene pm_law_scene an_law_scene cd_law_scene ct_law_scene), sl_law_scene⟩)
    (x_law_scene : PySem.W.codeIn K cd_law_scene "_law_scene" = true)
    (k_law_scene : PySem.W.keepIn K (.ref f_law_scene) = true)
    (a_law_right : PySem.W.nsIn K mainGlobals "_law_right" = some (some (.ref f_law_right)))
    (l_law_right : K.lookup f_law_right = some ⟨oc_law_right, od_law_right, .func (PySem.W.fnOf "_law_right" "_law_right" (defArgs d_law_right) (defBody d_law_right) (defScope d_law_right) .none kV_law_right dc_law_right pm_law_right an_law_right cd_law_right ct_law_right), sl_law_right⟩)
    (x_law_right : PySem.W.codeIn K cd_law_right "_law_right" = true)
    (k_law_right : PySem.W.keepIn K (.ref f_law_right) = true)
    (a_law : PySem.W.nsIn K mainGlobals "law" = some (some (.ref f_law)))
    (l_law : K.lookup f_law = some ⟨oc_law, od_law, .func (PySem.W.fnOf "law" "law" (defArgs d_law) (defBody d_law) (defScope d_law) .none kV_law dc_law pm_law an_law cd_law ct_law), sl_law⟩)
    (x_law : PySem.W.codeIn K cd_law "law" = true)
    (k_law : PySem.W.keepIn K (.ref f_law) = true)
    (w_gcd : PySem.W.nsIn K mainGlobals "gcd" = some (some (.builtin "math.gcd")))
    (z_abs : PySem.W.nsIn K mainGlobals "abs" = some none)
    (z_bool : PySem.W.nsIn K mainGlobals "bool" = some none)
    (z_int : PySem.W.nsIn K mainGlobals "int" = some none)
    (z_isinstance : PySem.W.nsIn K mainGlobals "isinstance" = some none)
    (z_len : PySem.W.nsIn K mainGlobals "len" = some none)
    (z_range : PySem.W.nsIn K mainGlobals "range" = some none)
    (ho_CX0 : Unit := ()) : ∃ fd : FuncData, (∀ (s : Shared) (v : Value), BindsTo s fd ⟨[v], []⟩ [("_law_script", v)]) ∧ ∀ base : Heap, K.In base → base.Ns mainGlobals mg → FnOk P w K mg base CX0 6 fa fd ["_law_script"] (sp_law K) := by
  have e := hfa.symm.trans (PySem.W.mg_of X G a_law)
  cases e
  have F_is_integer := fun_mk (st := d_is_integer) l_is_integer x_is_integer k_is_integer
  have b_is_integer := F_is_integer.binds (ps := ["number"]) fun _ _ _ _ _ _ us hl => match us, hl with | [_], _ => rfl
  have F_is_place := fun_mk (st := d_is_place) l_is_place x_is_place k_is_place
  have b_is_place := F_is_place.binds (ps := ["size", "place"]) fun _ _ _ _ _ _ us hl => match us, hl with | [_, _], _ => rfl
  have F_require_number := fun_mk (st := d_require_number) l_require_number x_require_number k_require_number
  have b_require_number := F_require_number.binds (ps := ["number", "least", "name"]) fun _ _ _ _ _ _ us hl => match us, hl with | [_, _, _], _ => rfl
  have F_require_place := fun_mk (st := d_require_place) l_require_place x_require_place k_require_place
  have b_require_place := F_require_place.binds (ps := ["size", "place", "name"]) fun _ _ _ _ _ _ us hl => match us, hl with | [_, _, _], _ => rfl
  have F_min_calls_two := fun_mk (st := d_min_calls_two) l_min_calls_two x_min_calls_two k_min_calls_two
  have b_min_calls_two := F_min_calls_two.binds (ps := ["size", "first", "second", "place"]) fun _ _ _ _ _ _ us hl => match us, hl with | [_, _, _, _], _ => rfl
  have F_require_two := fun_mk (st := d_require_two) l_require_two x_require_two k_require_two
  have b_require_two := F_require_two.binds (ps := ["size", "first", "second", "place"]) fun _ _ _ _ _ _ us hl => match us, hl with | [_, _, _, _], _ => rfl
  have F_least_sum_of_two := fun_mk (st := d_least_sum_of_two) l_least_sum_of_two x_least_sum_of_two k_least_sum_of_two
  have b_least_sum_of_two := F_least_sum_of_two.binds (ps := ["size", "step", "gap"]) fun _ _ _ _ _ _ us hl => match us, hl with | [_, _, _], _ => rfl
  have F_inverse := fun_mk (st := d_inverse) l_inverse x_inverse k_inverse
  have b_inverse := F_inverse.binds (ps := ["number", "modulus"]) fun _ _ _ _ _ _ us hl => match us, hl with | [_, _], _ => rfl
  have F_law_cell_at := fun_mk (st := d_law_cell_at) l_law_cell_at x_law_cell_at k_law_cell_at
  have b_law_cell_at := F_law_cell_at.binds (ps := ["_law_script", "_law_k"]) fun _ _ _ _ _ _ us hl => match us, hl with | [_, _], _ => rfl
  have F_law_source := fun_mk (st := d_law_source) l_law_source x_law_source k_law_source
  have b_law_source := F_law_source.binds (ps := ["_law_cell"]) fun _ _ _ _ _ _ us hl => match us, hl with | [_], _ => rfl
  have F_law_take := fun_mk (st := d_law_take) l_law_take x_law_take k_law_take
  have b_law_take := F_law_take.binds (ps := ["_law_source_here", "_law_bound"]) fun _ _ _ _ _ _ us hl => match us, hl with | [_, _], _ => rfl
  have F_law_large := fun_mk (st := d_law_large) l_law_large x_law_large k_law_large
  have b_law_large := F_law_large.binds (ps := ["_law_source_here", "_law_bound"]) fun _ _ _ _ _ _ us hl => match us, hl with | [_, _], _ => rfl
  have F_law_gcd := fun_mk (st := d_law_gcd) l_law_gcd x_law_gcd k_law_gcd
  have b_law_gcd := F_law_gcd.binds (ps := ["_law_a", "_law_b"]) fun _ _ _ _ _ _ us hl => match us, hl with | [_, _], _ => rfl
  have F_law_inverse := fun_mk (st := d_law_inverse) l_law_inverse x_law_inverse k_law_inverse
  have b_law_inverse := F_law_inverse.binds (ps := ["_law_number", "_law_modulus"]) fun _ _ _ _ _ _ us hl => match us, hl with | [_, _], _ => rfl
  have F_law_count := fun_mk (st := d_law_count) l_law_count x_law_count k_law_count
  have b_law_count := F_law_count.binds (ps := ["_law_ring_here", "_law_gap", "_law_away"]) fun _ _ _ _ _ _ us hl => match us, hl with | [_, _, _], _ => rfl
  have F_law_ring := fun_mk (st := d_law_ring) l_law_ring x_law_ring k_law_ring
  have b_law_ring := F_law_ring.binds (ps := ["_law_source_here"]) fun _ _ _ _ _ _ us hl => match us, hl with | [_], _ => rfl
  have F_law_scene := fun_mk (st := d_law_scene) l_law_scene x_law_scene k_law_scene
  have b_law_scene := F_law_scene.binds (ps := ["_law_source_here"]) fun _ _ _ _ _ _ us hl => match us, hl with | [_], _ => rfl
  have F_law_right := fun_mk (st := d_law_right) l_law_right x_law_right k_law_right
  have b_law_right := F_law_right.binds (ps := ["_law_ring_here", "_law_start", "_law_other", "_law_spot"]) fun _ _ _ _ _ _ us hl => match us, hl with | [_, _, _, _], _ => rfl
  have F_law := fun_mk (st := d_law) l_law x_law k_law
  have b_law := F_law.binds (ps := ["_law_script"]) fun _ _ _ _ _ _ us hl => match us, hl with | [_], _ => rfl
  have kb_min_calls_two_place_second_first_size := kbn_of F_min_calls_two ["size", "first", "second", "place"] 0 ["place", "second", "first", "size"] (fun us ws => [ws.getD 3 Value.none, ws.getD 2 Value.none, ws.getD 1 Value.none, ws.getD 0 Value.none]) (fun us ws => [ws.getD 3 V.non, ws.getD 2 V.non, ws.getD 1 V.non, ws.getD 0 V.non])
    (fun _ _ _ _ _ _ us ws h1 h2 => match us, ws, h1, h2 with | [], [w0, w1, w2, w3], _, _ => rfl)
    (fun r1 r2 => (.cons (Vals.getD r2 3) (.cons (Vals.getD r2 2) (.cons (Vals.getD r2 1) (.cons (Vals.getD r2 0) .nil)))))
  let T : Tx K mg := { f_is_integer := f_is_integer, fd_is_integer := _, F_is_integer := F_is_integer, b_is_integer := b_is_integer, g_is_integer := PySem.W.mg_of X G a_is_integer, f_is_place := f_is_place, fd_is_place := _, F_is_place := F_is_place, b_is_place := b_is_place, g_is_place := PySem.W.mg_of X G a_is_place, f_require_number := f_require_number, fd_require_number := _, F_require_number := F_require_number, b_require_number := b_require_number, g_require_number := PySem.W.mg_of X G a_require_number, f_require_place := f_require_place, fd_require_place := _, F_require_place := F_require_place, b_require_place := b_require_place, g_require_place := PySem.W.mg_of X G a_require_place, f_min_calls_two := f_min_calls_two, fd_min_calls_two := _, F_min_calls_two := F_min_calls_two, b_min_calls_two := b_min_calls_two, g_min_calls_two := PySem.W.mg_of X G a_min_calls_two, f_require_two := f_require_two, fd_require_two := _, F_require_two := F_require_two, b_require_two := b_require_two, g_require_two := PySem.W.mg_of X G a_require_two, f_least_sum_of_two := f_least_sum_of_two, fd_least_sum_of_two := _, F_least_sum_of_two := F_least_sum_of_two, b_least_sum_of_two := b_least_sum_of_two, g_least_sum_of_two := PySem.W.mg_of X G a_least_sum_of_two, f_inverse := f_inverse, fd_inverse := _, F_inverse := F_inverse, b_inverse := b_inverse, g_inverse := PySem.W.mg_of X G a_inverse, f_law_cell_at := f_law_cell_at, fd_law_cell_at := _, F_law_cell_at := F_law_cell_at, b_law_cell_at := b_law_cell_at, g_law_cell_at := PySem.W.mg_of X G a_law_cell_at, f_law_source := f_law_source, fd_law_source := _, F_law_source := F_law_source, b_law_source := b_law_source, g_law_source := PySem.W.mg_of X G a_law_source, f_law_take := f_law_take, fd_law_take := _, F_law_take := F_law_take, b_law_take := b_law_take, g_law_take := PySem.W.mg_of X G a_law_take, f_law_large := f_law_large, fd_law_large := _, F_law_large := F_law_large, b_law_large := b_law_large, g_law_large := PySem.W.mg_of X G a_law_large, f_law_gcd := f_law_gcd, fd_law_gcd := _, F_law_gcd := F_law_gcd, b_law_gcd := b_law_gcd, g_law_gcd := PySem.W.mg_of X G a_law_gcd, f_law_inverse := f_law_inverse, fd_law_inverse := _, F_law_inverse := F_law_inverse, b_law_inverse := b_law_inverse, g_law_inverse := PySem.W.mg_of X G a_law_inverse, f_law_count := f_law_count, fd_law_count := _, F_law_count := F_law_count, b_law_count := b_law_count, g_law_count := PySem.W.mg_of X G a_law_count, f_law_ring := f_law_ring, fd_law_ring := _, F_law_ring := F_law_ring, b_law_ring := b_law_ring, g_law_ring := PySem.W.mg_of X G a_law_ring, f_law_scene := f_law_scene, fd_law_scene := _, F_law_scene := F_law_scene, b_law_scene := b_law_scene, g_law_scene := PySem.W.mg_of X G a_law_scene, f_law_right := f_law_right, fd_law_right := _, F_law_right := F_law_right, b_law_right := b_law_right, g_law_right := PySem.W.mg_of X G a_law_right, f_law := fa, fd_law := _, F_law := F_law, b_law := b_law, g_law := PySem.W.mg_of X G a_law, kb_min_calls_two_place_second_first_size := kb_min_calls_two_place_second_first_size, b_gcd := PySem.W.mg_of X G w_gcd, n_abs := PySem.W.mg_none_of X G z_abs, n_bool := PySem.W.mg_none_of X G z_bool, n_int := PySem.W.mg_none_of X G z_int, n_isinstance := PySem.W.mg_none_of X G z_isinstance, n_len := PySem.W.mg_none_of X G z_len, n_range := PySem.W.mg_none_of X G z_range }
  exact ⟨PySem.W.fnOf "law" "law" (defArgs d_law) (defBody d_law) (defScope d_law) .none kV_law dc_law pm_law an_law cd_law ct_law, fun s v => .of_eq rfl, fun base _ _ => ok_law (P := P) (w := w) (base := base) T⟩
end Lw
open PySem PySem.W PyProof.Rows in
set_option maxHeartbeats 0 in
theorem PySem.Challenge.cw_calledseats_k52_two_targets_on_large_rin_holds : PySem.Challenge.rw_calledseats_k52_two_targets_on_large_rin.Holds := by
  w_on; o_law; k_head; (case hw => w_witness2)
  k_fill
  refine L2.walk_ofB (l := PySem.Challenge.rw_calledseats_k52_two_targets_on_large_rin) (n := 63) (k := 6) (x := "_law_script") (CX := fun _ => L2.CX0) (sp := fun w => Lw.sp_law _) rfl (by decide) rfl ⟨rfl, by decide, by decide⟩ (fun w h Y => PySem.W.kIn_of Y) ?F (fun _ _ a ns hl hb _ hS => ⟨a, ns, rfl, hS, hl, hb, fun _ => rfl⟩) (fun _ _ _ _ _ h => h)
  case F =>
    intro w mg fa h KX G hmg
    refine' Lw.all_mk KX G hmg ?a_is_integer ?l_is_integer ?x_is_integer ?k_is_integer ?a_is_place ?l_is_place ?x_is_place ?k_is_place ?a_require_number ?l_require_number ?x_require_number ?k_require_number ?a_require_place ?l_require_place ?x_require_place ?k_require_place ?a_min_calls_two ?l_min_calls_two ?x_min_calls_two ?k_min_calls_two ?a_require_two ?l_require_two ?x_require_two ?k_require_two ?a_least_sum_of_two ?l_least_sum_of_two ?x_least_sum_of_two ?k_least_sum_of_two ?a_inverse ?l_inverse ?x_inverse ?k_inverse ?a_law_cell_at ?l_law_cell_at ?x_law_cell_at ?k_law_cell_at ?a_law_source ?l_law_source ?x_law_source ?k_law_source ?a_law_take ?l_law_take ?x_law_take ?k_law_take ?a_law_large ?l_law_large ?x_law_large ?k_law_large ?a_law_gcd ?l_law_gcd ?x_law_gcd ?k_law_gcd ?a_law_inverse ?l_law_inverse ?x_law_inverse ?k_law_inverse ?a_law_count ?l_law_count ?x_law_count ?k_law_count ?a_law_ring ?l_law_ring ?x_law_ring ?k_law_ring ?a_law_scene ?l_law_scene ?x_law_scene ?k_law_scene ?a_law_right ?l_law_right ?x_law_right ?k_law_right ?a_law ?l_law ?x_law ?k_law ?w_gcd ?z_abs ?z_bool ?z_int ?z_isinstance ?z_len ?z_range
    (case a_is_integer => k_is)
    (case l_is_integer => k_is)
    (case x_is_integer => k_is)
    (case k_is_integer => k_is)
    (case a_is_place => k_is)
    (case l_is_place => k_is)
    (case x_is_place => k_is)
    (case k_is_place => k_is)
    (case a_require_number => k_is)
    (case l_require_number => k_is)
    (case x_require_number => k_is)
    (case k_require_number => k_is)
    (case a_require_place => k_is)
    (case l_require_place => k_is)
    (case x_require_place => k_is)
    (case k_require_place => k_is)
    (case a_min_calls_two => k_is)
    (case l_min_calls_two => k_is)
    (case x_min_calls_two => k_is)
    (case k_min_calls_two => k_is)
    (case a_require_two => k_is)
    (case l_require_two => k_is)
    (case x_require_two => k_is)
    (case k_require_two => k_is)
    (case a_least_sum_of_two => k_is)
    (case l_least_sum_of_two => k_is)
    (case x_least_sum_of_two => k_is)
    (case k_least_sum_of_two => k_is)
    (case a_inverse => k_is)
    (case l_inverse => k_is)
    (case x_inverse => k_is)
    (case k_inverse => k_is)
    (case a_law_cell_at => k_is)
    (case l_law_cell_at => k_is)
    (case x_law_cell_at => k_is)
    (case k_law_cell_at => k_is)
    (case a_law_source => k_is)
    (case l_law_source => k_is)
    (case x_law_source => k_is)
    (case k_law_source => k_is)
    (case a_law_take => k_is)
    (case l_law_take => k_is)
    (case x_law_take => k_is)
    (case k_law_take => k_is)
    (case a_law_large => k_is)
    (case l_law_large => k_is)
    (case x_law_large => k_is)
    (case k_law_large => k_is)
    (case a_law_gcd => k_is)
    (case l_law_gcd => k_is)
    (case x_law_gcd => k_is)
    (case k_law_gcd => k_is)
    (case a_law_inverse => k_is)
    (case l_law_inverse => k_is)
    (case x_law_inverse => k_is)
    (case k_law_inverse => k_is)
    (case a_law_count => k_is)
    (case l_law_count => k_is)
    (case x_law_count => k_is)
    (case k_law_count => k_is)
    (case a_law_ring => k_is)
    (case l_law_ring => k_is)
    (case x_law_ring => k_is)
    (case k_law_ring => k_is)
    (case a_law_scene => k_is)
    (case l_law_scene => k_is)
    (case x_law_scene => k_is)
    (case k_law_scene => k_is)
    (case a_law_right => k_is)
    (case l_law_right => k_is)
    (case x_law_right => k_is)
    (case k_law_right => k_is)
    (case a_law => k_is)
    (case l_law => k_is)
    (case x_law => k_is)
    (case k_law => k_is)
    (case w_gcd => k_is)
    (case z_abs => k_is)
    (case z_bool => k_is)
    (case z_int => k_is)
    (case z_isinstance => k_is)
    (case z_len => k_is)
    (case z_range => k_is)
